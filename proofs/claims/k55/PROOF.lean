import PyProof.Rows.All
import Wide.All
import KE.KIsAll
import KE.KSortTup
import KE.KDictOf
import KE.KTryDeep
import KE.KIntText
import KE.KFromBytes
import Wide.FinOn
import PySem.Challenge.RW_ringhues_k55_whole_folds
set_option compiler.extract_closed false
set_option Elab.async false
set_option linter.all false
set_option maxRecDepth 100000
set_option maxHeartbeats 4000000
namespace Lake
theorem gV{p:Prop}(h:p:=by lia):p:=h
theorem Dc{p:Prop}(h:p:=by decide +kernel):p:=h
theorem J0{p:Prop}(h:p:=by decide):p:=h
theorem Qi{p:Prop}(h:p:=by simp):p:=h
abbrev aA:=@PySem.wpAny_bind
abbrev cO:=@PySem.Heap.get?_push_of_some
abbrev aO:=@PySem.wpAny_pure
abbrev gD:=@List.getElem?_eq_some_iff
abbrev bV:=@PySem.Heap.lt_size
abbrev dB:=@List.length_cons
abbrev cY:=@List.length_map
abbrev fC:=@PySem.Heap.get?_push_size
abbrev i_:=@List.getElem?_eq_getElem
abbrev gF:=@List.mem_of_getElem?
abbrev dJ:=@Option.some.inj
abbrev fH:=@of_decide_eq_true
abbrev iI:=@List.mem_cons_of_mem
abbrev gU:=@Nat.lt_of_lt_of_le
abbrev dZ:=@decide_eq_true
abbrev cL:=@Nat.le_refl
abbrev gW:=@List.size_toArray
abbrev gq:=@Bool.and_eq_true
abbrev gY:=@List.all_eq_true
abbrev ji:=@List.length_append
abbrev dM:=@Nat.ne_of_lt
abbrev mZ:=@List.getElem?_append_left
abbrev nA:=@List.getElem?_append_right
abbrev nF:=@List.getD_eq_getElem?_getD
abbrev lK:=@List.mem_append_right
abbrev jo:=@List.getElem?_map
abbrev jG:=@List.mem_singleton
abbrev gG:=@List.mem_cons
abbrev qN:=@List.getElem?_eq_none_iff
abbrev lV:=@List.mem_cons_self
abbrev gZ:=@List.mem_map
abbrev p7:=@Option.map_eq_some_iff
abbrev jq:=@List.map_cons
abbrev j_:=@List.mem_filter
abbrev g8:=@PySem.wpAny_mono
abbrev nG:=@List.lookup_cons
abbrev m5:=@List.mem_append
abbrev qW:=@List.getElem?_set_ne
abbrev qb:=@PySem.wpAny_newObj_type
abbrev lM:=@Nat.lt_irrefl
abbrev uH:=@PySem.Heap.get?_update_other
abbrev oN:=@decide_eq_false
abbrev Bo:=@PyProof.Rows.slot_tuple_getitem
abbrev lN:=@Nat.le_trans
abbrev wg:=@Option.bind_eq_some_iff
abbrev m6:=@PySem.wpAny_holding
abbrev qO:=@decide_eq_decide
abbrev oO:=@PySem.wpAny_seqItems
abbrev uc:=@Bool.false_eq_true
abbrev Bp:=@PyProof.Rows.callWith_type1
abbrev lO:=@PySem.wpAny_field
abbrev m7:=@List.map_map
abbrev ud:=@Int.toNat_natCast
abbrev yp:=@PySem.wpAny_callSpecial?_slot
abbrev uI:=@List.zip_cons_cons
abbrev qX:=@List.length_nil
abbrev uf:=@List.filter_cons
abbrev yq:=@PySem.Heap.get?_update_self
abbrev uJ:=@Nat.lt_succ_of_lt
abbrev uK:=@List.length_range
abbrev uL:=@List.flatMap_cons
abbrev ug:=@List.append_nil
abbrev wj:=@Bool.false_ne_true
abbrev uh:=@List.length_set
abbrev wu:=@PySem.Obj.data_mapFields
abbrev yr:=@PySem.Around.under_plainId
abbrev Bq:=@List.getElem?_set_self
abbrev yt:=@List.filterMap_cons
abbrev yu:=@Array.length_toList
abbrev m8:=@beq_iff_eq
abbrev uo:=@PySem.Heap.size_push
abbrev uM:=@List.nodup_cons
abbrev Du:=@List.length_filterMap_le
abbrev wz:=@List.length_take
abbrev uq:=@PySem.wpAny_standAt
abbrev Dv:=@List.getElem?_replicate
abbrev yw:=@PySem.wpAny_truthy_bool
abbrev yx:=@List.pairwise_map
abbrev wA:=@List.map_append
abbrev Br:=@beq_eq_false_iff_ne
abbrev Bs:=@PySem.mem_of_lookup
abbrev Bt:=@PySem.wpAny_loadPart'
abbrev Bu:=@List.map_congr_left
abbrev Jr:=@PySem.F.slot_tuple_iterator_next
abbrev yC:=@PySem.wpAny_call_entry
abbrev yD:=@PySem.F.plain_min_loop
abbrev Bv:=@List.mem_filterMap
abbrev Bw:=@PySem.wpAny_Call_Name_kw
abbrev Dw:=@List.length_replicate
abbrev BJ:=@PySem.wpAny_setField_rec
abbrev BK:=@List.pairwise_cons
abbrev lW:=@congrArg
abbrev Dy:=@PySem.Heap.get?_none_of_le
abbrev BL:=@decide_eq_true_eq
abbrev yE:=@PySem.codeAny_builtin
abbrev uN:=@Nat.le_of_lt
abbrev uO:=@Nat.ne_of_gt
abbrev BP:=@beq_self_eq_true
abbrev BR:=@List.take_length
abbrev Ms:=@Int.mul_le_mul_of_nonneg_left
abbrev yF:=@List.mem_range
abbrev Js:=@List.range_succ_eq_map
abbrev Dz:=@Int.emod_lt_of_pos
abbrev uP:=@Nat.zero_le
abbrev uQ:=@PySem.sizeLine_eq
abbrev Jt:=@PySem.Obj.isFreed_of_fields
abbrev BW:=@List.forIn_cons
abbrev Ju:=@List.filterMap_append
abbrev Jv:=@Int.emod_add_mul_ediv
abbrev BX:=@Int.emod_nonneg
abbrev Jw:=@List.length_filter_le
abbrev DG:=@List.append_assoc
abbrev DK:=@List.nodup_append
abbrev yG:=@List.all_cons
abbrev yH:=@PySem.plainId_quiet
abbrev Mu:=@Array.getElem?_eq_some_iff
abbrev Mv:=@Int.add_mul_emod_self_left
abbrev Jx:=@Nat.mul_le_mul_right
abbrev BZ:=@List.nodup_nil
abbrev DN:=@Nat.lt_succ_self
abbrev DP:=@PySem.wpAny_forIn_list
abbrev qd:=@if_false
abbrev wB:=@PySem.wpAny_letGo
abbrev Jy:=@List.getElem?_range
abbrev yI:=@PySem.codeAny_mono
abbrev Mw:=@Option.isSome_iff_exists
abbrev Mx:=@PySem.AutoSeq1.sub_tuple_tuple
abbrev Mz:=@PySem.F.args_tuple_add_2
abbrev MF:=@PySem.wpAny_comprehension_free
abbrev MJ:=@PySem.F.slot_list_getattribute
abbrev DQ:=@PySem.wpAny_passesOwn
abbrev Jz:=@List.zip_nil_right
abbrev MK:=@PySem.F.entry_tuple_add
abbrev DR:=@Bool.eq_iff_iff
abbrev MN:=@Int.eq_ofNat_of_zero_le
abbrev MP:=@PySem.W.cellsFrom_some
abbrev M4:=@PySem.richCompare_meets_room
abbrev M5:=@PySem.F.slot_tuple_add
abbrev M6:=@List.filter_eq_nil_iff
abbrev wC:=@PySem.wpAny_rule
abbrev JD:=@List.zip_nil_left
abbrev JF:=@PySem.Heap.get?_push_ne
abbrev JL:=@PySem.wpAny_pyIter_list
abbrev DW:=@PySem.wpAny_setField
abbrev DX:=@List.take_succ
abbrev DY:=@PySem.wpAny_tryCatch
abbrev B_:=@PySem.wpAny_typeOf
abbrev JM:=@Nat.le_of_not_lt
abbrev M7:=@Bool.and_eq_true_iff
abbrev M8:=@List.mem_append_left
abbrev M9:=@PySem.wpAny_updateSeq_pair
abbrev M_:=@PySem.W.plainGet_of
abbrev Ca:=@PySem.wpAny_of_eq
abbrev JV:=@PySem.F.slot_zip_next
abbrev Nb:=@List.getElem_of_mem
abbrev Nf:=@PySem.W.callWith_K
abbrev Ng:=@Array.forIn_toList
abbrev Nh:=@List.filter_append
abbrev D_:=@Nat.succ_mul
abbrev Ni:=@decide_eq_true_iff
abbrev JZ:=@List.forIn_nil
abbrev Nj:=@Bool.eq_false_iff
abbrev Cd:=@Nat.not_lt
abbrev Nk:=@List.getElem?_inj
abbrev Nm:=@List.map_inj_left
namespace L2
open PySem PySem.Spec PyProof.Rows PySem.W
noncomputable def subIn(K:W.Frag)(C D:Addr):Bool:=PySem.W.ktsIn K C "BaseException"&&PySem.W.ktsIn K D "BaseException"&&match K.lookup C with
 |some ⟨_,_,.cls cd,_⟩=>cd.mro.contains (.ref D)
 |_=>false
noncomputable def Ed:List Value:=[.type "ValueError",.type "Exception",.type "BaseException",.type "object"]
noncomputable def qY:List Value->Bool
 |.ref _::r=>qY r
 |l=>l==Ed
noncomputable def tyN:Value->Option String
 |.type n=>some n
 |_=>none
noncomputable def Np:Value->Option Addr
 |.ref a=>some a
 |_=>none
noncomputable def Nq:Value->Option String
 |.builtin n=>some n
 |_=>none
noncomputable def wD:Data->Option ClassData
 |.cls cd=>some cd
 |_=>none
noncomputable def hdV:List Value->Option (Value×List Value)
 |[]=>none
 |v::r=>some (v,r)
noncomputable def Ef(K:Frag)(C:Addr)(bmB:List Value)(newId:String)(ini:Option Value):Bool:=(K.lookup C).any λo=>tyN o.cls==some "type"&&(wD o.data).any λcd=>(hdV cd.mro).any λp=>
 Np p.1==some C&&o.slots.size==6&&(o.slots[4]?.join).bind Nq==some newId && !cd.hasDel&&tailIn K bmB p.2&&nsOkIn K cd.ns&&nsIn K cd.ns "__init__"==some ini
noncomputable def qZ(K:Frag)(C fI:Addr):Bool:=Ef K C Ed "ValueError.__new__" (some (.ref fI))
noncomputable def aU(s:Stmt):Arguments:=match s with
 |.FunctionDef _ a _ _ _ _ _ _ _ _=>a
 |_=>{posonlyargs:=[],args:=[],vararg:=none,kwonlyargs:=[],kw_defaults:=[],kwarg:=none,defaults:=[]}
noncomputable def aH(s:Stmt):List Stmt:=match s with
 |.FunctionDef _ _ b _ _ _ _ _ _ _=>b
 |_=>[]
noncomputable def au(s:Stmt):Scope:=match s with
 |.FunctionDef _ _ _ _ _ _ sc _ _ _=>sc
 |_=>{kind:=.function,names:=[],isGenerator:=false,isCoroutine:=false}
end L2
namespace Mi
open PySem PySem.Spec PyProof.Rows L2 PySem.W
noncomputable def J1(n c:Nat):Nat:=if c<n then c else 0
noncomputable def Eh(n c e:Nat):Bool:=J1 n e==0||J1 n c==J1 n e
noncomputable def iw(L:List Addr)(c:Nat):Addr:=L.getD (J1 L.length c) 0
noncomputable def xcB(K:W.Frag)(C:Addr):Bool:=
 PySem.W.findIn K (.ref C) "__getattribute__"==some (some (.builtin "BaseException.__getattribute__"))&&PySem.W.findIn K (.ref C) "__getattr__"==some none&&PySem.W.findIn K (.ref C) "__class__"==some (some (.builtin "object.__class__")) &&
 PySem.W.mroIn K C (.type "BaseException")==some true&&PySem.W.mroIn K C (.type "object")==some true&&(PySem.W.clsIn K C).isSome &&
 PySem.W.specialIn K (.builtin "object.__class__") "__get__"==some (some (.builtin "getset_descriptor.__get__"))&&PySem.W.takesIn K (.builtin "object.__class__")==some true
noncomputable def wF(K:W.Frag)(L:List Addr):Bool:=(List.range L.length).all λc=>xcB K (L.getD c 0)&&PySem.W.kitOne K (.ref (L.getD c 0)) (.type "ValueError")==some true &&
 (List.range L.length).all λe=>PySem.W.kitOne K (.ref (L.getD c 0)) (.ref (L.getD e 0))==some (Eh L.length c e)
noncomputable def subB(K:W.Frag)(L:List Addr)(d:Nat):Bool:=(List.range L.length).all λc=>!(Eh L.length c d)||L2.subIn K (L.getD c 0) (iw L d)
noncomputable def lX(fd:FuncData):FuncData:={fd with kwdefaults:=.none,doc:=.none,pyModule:=.none,annotations:=none,code:=.none,closureTuple:=.none}
noncomputable def ur(x:Str)(st:Stmt):FuncData:=fnOf x x (aU st) (aH st) (au st) .none .none .none .none none .none .none
noncomputable def yJ(K:Frag)(x:Str):Option (Addr×FuncData):=match nsIn K mainGlobals x with
 |some (some (.ref f))=>(match K.lookup f with
  |some ⟨_,_,.func fd,_⟩=>(match codeIn K fd.code x&&keepIn K (.ref f) with
   |true=>some (f,fd)
   |false=>none)
  |_=>none)
 |_=>none
noncomputable def dD(K:Frag)(x:Str):Addr:=match nsIn K mainGlobals x with
 |some (some (.ref C))=>C
 |_=>0
noncomputable def q_(K:Frag)(x:Str):Bool:=match nsIn K mainGlobals x with
 |some (some (.ref _))=>true
 |_=>false
noncomputable def kh(K:Frag)(p:Str×Int):Bool:=match nsIn K mainGlobals p.1 with
 |some (some (.int i _))=>decide (i=p.2)
 |_=>false
noncomputable def rm(K:Frag)(p:Str×Str):Bool:=match nsIn K mainGlobals p.1 with
 |some (some (.str x _))=>decide (x=p.2)
 |_=>false
noncomputable def oR(K:Frag)(x:Str):Bool:=match nsIn K mainGlobals x with
 |some none=>true
 |_=>false
noncomputable def Ej(K:Frag)(C:Addr):Bool:=Ef K C [.type "ValueError",.type "Exception",.type "BaseException",.type "object"] "ValueError.__new__" none
structure Lk where
 Ek:List Str
 wG:List (Str×Int)
 Vn:List Str
 Vo:List Nat
 Vp:List Nat
 Vq:List (Str×Str)
noncomputable def Lk.L(l:Lk)(K:Frag):List Addr:=l.Ek.map (dD K)
noncomputable def Lk.good(l:Lk)(K:Frag):Bool:=
 l.Ek.all (q_ K)&&(l.Ek.isEmpty||wF K (l.L K))&&l.Vo.all (λk=>Ej K (iw (l.L K) k))&&l.Vp.all (λk=>subB K (l.L K) k)&&l.wG.all (kh K)&&l.Vn.all (oR K)&&l.Vq.all (rm K)
noncomputable def oU(h:Heap):List Addr->Frag
 |[]=>[]
 |a::r=>match h.get? a with
  |some o=>(a,o)::oU h r
  |none=>oU h r
noncomputable def oV(s:Stmt):List Stmt:=match s with
 |.ClassDef _ _ _ b _ _ _ _ _ _ _=>b
 |_=>[]
noncomputable def yK(q:Str)(st:Stmt):FuncData:=fnOf "__init__" q (aU st) (aH st) (au st) .none .none .none .none none .none .none
noncomputable def El(K:Frag)(C:Addr):Option FuncData:=match clsIn K C with
 |some cd=>(match nsIn K cd.ns "__init__" with
  |some (some (.ref f))=>(match K.lookup f with
   |some ⟨.type "function",_,.func fd,_⟩=>(match codeIn K fd.code fd.qualname&&qZ K C f&&qY cd.mro&&cd.hasDict with
    |true=>some fd
    |false=>none)
   |_=>none)
  |_=>none)
 |none=>none
noncomputable def setB(K:Frag)(C:Addr)(fs:List Str):Bool:=findIn K (.ref C) "__setattr__"==some (some (.builtin "object.__setattr__"))&&fs.all (λf=>findIn K (.ref C) f==some none)
noncomputable def J3(K:Frag)(C:Addr)(f:Str):Bool:=findIn K (.ref C) "__getattribute__"==some (some (.builtin "BaseException.__getattribute__"))&&findIn K (.ref C) "__getattr__"==some none&&mroIn K C (.type "BaseException")==some true&&findIn K (.ref C) f==some none&&hasDictIn K C
structure rz where
 c:Nat
 q:Str
 st:Stmt
 fs:List Str
noncomputable def Em:Nat->List Obj->Frag
 |_,[]=>[]
 |i,o::r=>match o.isFreed with
  |true=>Em (i+1) r
  |false=>(i,o)::Em (i+1) r
noncomputable def bN(h:Heap):Frag:=oU h [mainGlobals]++(Em 0 h.objs.toList).reverse
noncomputable def kj(fs:List (Str×Stmt))(ms:List rz)(xs:List (Nat×Str))(l:Lk)(s:Shared):List (Option FuncData)×List (Option FuncData)×Bool:=
 (fs.map (λp=>(yJ (bN s.heap) p.1).map (λq=>lX q.2)),ms.map (λm=>(El (bN s.heap) (iw (l.L (bN s.heap)) m.c)).map lX),
  l.good (bN s.heap)&&ms.all (λm=>setB (bN s.heap) (iw (l.L (bN s.heap)) m.c) m.fs)&&xs.all (λx=>J3 (bN s.heap) (iw (l.L (bN s.heap)) x.1) x.2))
noncomputable def lY(fs:List (Str×Stmt))(ms:List rz)(w:World):List (Option FuncData)×List (Option FuncData)×Bool:=(fs.map (λp=>some (ur p.1 p.2)),ms.map (λm=>some (yK m.q m.st)),true)
noncomputable def J5(fs:List (Str×Stmt))(s:Shared):List (Option FuncData):=fs.map (λp=>(yJ (bN s.heap) p.1).map (λq=>lX q.2))
noncomputable def Vr(ms:List rz)(xs:List (Nat×Str))(l:Lk)(s:Shared):List (Option FuncData)×Bool:=(ms.map (λm=>(El (bN s.heap) (iw (l.L (bN s.heap)) m.c)).map lX),
  l.good (bN s.heap)&&ms.all (λm=>setB (bN s.heap) (iw (l.L (bN s.heap)) m.c) m.fs)&&xs.all (λx=>J3 (bN s.heap) (iw (l.L (bN s.heap)) x.1) x.2))
theorem zel{p q:Program}{loose:List Str}{Xt:Shared->Bool}{N:Nat}{fs1 qe:List (Str×Stmt)}{ms:List rz}{xs:List (Nat×Str)}{l:Lk}
  (a:∀w,(openEnds treeTable p w N).map (λs=>openSeen q loose (importedModules p.main.body) Xt true s)=some (openGood q loose))
  (b1:∀w,(openEnds treeTable p w N).map (J5 fs1)=some (fs1.map λp=>some (ur p.1 p.2)))
  (b2:∀w,(openEnds treeTable p w N).map (J5 qe)=some (qe.map λp=>some (ur p.1 p.2)))
  (c:∀w,(openEnds treeTable p w N).map (Vr ms xs l)=some (ms.map (λm=>some (yK m.q m.st)),true)):LeftO p q loose Xt (kj (fs1++qe) ms xs l) (lY (fs1++qe) ms) N:=by
 intro w;have a:=a w;have b1:=b1 w;have b2:=b2 w;have c:=c w;cases e:openEnds treeTable p w N with
 |none=>rw[e] at a;cases a
 |some s=>
  rw[e] at a b1 b2 c;have a:openSeen q loose (importedModules p.main.body) Xt true s=openGood q loose:=dJ a;have b1:=dJ b1;have b2:=dJ b2;have c:=dJ c;have c1:=lW Prod.fst c;have c2:=lW Prod.snd c;show some (_,kj (fs1++qe) ms xs l s)=_;rw[a];have:kj (fs1++qe) ms xs l s=lY (fs1++qe) ms w:=by
   unfold kj lY;rw[wA,wA];have b1:List.map _ fs1=List.map _ fs1:=b1;have b2:List.map _ qe=List.map _ qe:=b2;rw[b1,b2];exact Prod.ext rfl (Prod.ext c1 c2)
  rw[this]
inductive Tr where
 |em
 |lv (o:Obj)
 |nd (l r:Tr)
noncomputable def Tr.lf(t:Tr):Tr:=Tr.rec (motive:=λ_=>Tr) .em (λ_=>.em) (λl _ _ _=>l) t
noncomputable def Tr.rt(t:Tr):Tr:=Tr.rec (motive:=λ_=>Tr) .em (λ_=>.em) (λ_ r _ _=>r) t
noncomputable def Tr.get(d:Nat):Tr->Nat->Option Obj:=Nat.rec (motive:=λ_=>Tr->Nat->Option Obj) (λt _=>Tr.rec (motive:=λ_=>Option Obj) none (λo=>some o) (λ_ _ _ _=>none) t)
 (λ_ f t a=>cond (Nat.beq (Nat.mod a 2) 0) (f t.lf (Nat.div a 2)) (f t.rt (Nat.div a 2))) d
noncomputable def Tr.put(d:Nat):Tr->Nat->Obj->Tr:=Nat.rec (motive:=λ_=>Tr->Nat->Obj->Tr) (λ_ _ o=>.lv o)
 (λ_ f t a o=>cond (Nat.beq (Nat.mod a 2) 0) (.nd (f t.lf (Nat.div a 2) o) t.rt) (.nd t.lf (f t.rt (Nat.div a 2) o))) d
theorem Nr(a:Nat):(Nat.beq (a%2) 0=true/\a%2=0)\/(Nat.beq (a%2) 0=false/\a%2=1):=by
 rcases(show a%2=0\/a%2=1 by lia) with e|e<;>rw[e]
 ·exact .inl ⟨rfl,rfl⟩
 ·exact .inr ⟨rfl,rfl⟩
theorem Nt(o:Obj):∀(d:Nat) (t:Tr) (a:Nat),Tr.get d (Tr.put d t a o) a=some o
 |0,_,_=>rfl
 |d+1,t,a=>by
  have ih:=Nt o d;show cond (Nat.beq (a%2) 0) (Tr.get d (Tr.lf (cond (Nat.beq (a%2) 0) _ _)) (a/2)) (Tr.get d (Tr.rt (cond (Nat.beq (a%2) 0) _ _)) (a/2))=_;rcases Nr a with ⟨e,_⟩|⟨e,_⟩<;>rw[e]
  ·exact ih t.lf (a/2)
  ·exact ih t.rt (a/2)
theorem Nu(o:Obj):∀(d:Nat) (t:Tr) (a b:Nat),a<2^d->b<2^d->a≠b->Tr.get d (Tr.put d t a o) b=Tr.get d t b
 |0,_,a,b,h1,h2,h=>by lia
 |d+1,t,a,b,h1,h2,h=>by
  have ih:=Nu o d;show cond (Nat.beq (b%2) 0) (Tr.get d (Tr.lf (cond (Nat.beq (a%2) 0) _ _)) (b/2)) (Tr.get d (Tr.rt (cond (Nat.beq (a%2) 0) _ _)) (b/2))=cond (Nat.beq (b%2) 0) _ _;rw[Nat.pow_succ] at h1 h2;rcases Nr a with ⟨e,x⟩|⟨e,x⟩<;>rw[e]<;>rcases Nr b with ⟨f,y⟩|⟨f,y⟩<;>rw[f]
  ·exact ih t.lf (a/2) (b/2) gV gV gV
  ·rfl
  ·rfl
  ·exact ih t.rt (a/2) (b/2) gV gV gV
noncomputable def ali(o:Option Obj):Option Obj:=match o with
 |some ⟨_,_,.freed,_⟩=>none
 |o=>o
noncomputable def nH(t:Tr)(z a:Nat):Option Obj:=cond (Nat.ble (Nat.succ a) z) (ali (t.get 12 a)) none
structure Rl(t:Tr)(z:Nat)(h:Heap):Prop where
 sz:h.objs.size=z
 le:z<=4096
 at_:∀a,a<z->t.get 12 a=h.objs[a]?
theorem Rl.get{t:Tr}{z:Nat}{h:Heap}(r:Rl t z h)(a:Nat):nH t z a=h.get? a:=by
 unfold nH Heap.get?;by_cases e:a<z
 ·rw[show Nat.ble (Nat.succ a) z=true from Nat.ble_eq.mpr e,r.at_ a e];rfl
 ·rw[show Nat.ble (Nat.succ a) z=false from Nj.mpr λx=>e (Nat.ble_eq.mp x)];have:h.objs[a]?=none:=by simp only[Array.getElem?_eq_none_iff,r.sz];lia
  rw[this];rfl
theorem Rl.push{t:Tr}{z:Nat}{h:Heap}(r:Rl t z h)(o:Obj)(hz:z<4096):Rl (t.put 12 z o) (z+1) (h.push o):=by
 obtain⟨objs,l⟩:=h;obtain⟨sz,le,at_⟩:=r;dsimp only at sz at_;refine⟨by show (objs.push o).size=_;rw[Array.size_push,sz],hz,λa ha=>?_⟩;show _=(objs.push o)[a]?;by_cases e:a=z
 ·subst e;rw[Nt,Array.getElem?_push,if_pos sz.symm]
 ·rw[Nu o 12 t z a hz (by show a<4096;lia) (Ne.symm e),at_ a gV,Array.getElem?_push,if_neg gV]
theorem Rl.upd{t:Tr}{z:Nat}{h:Heap}(r:Rl t z h){a:Nat}{o:Obj}{f:Obj->Obj}(ho:h.get? a=some o):Rl (t.put 12 a (f o)) z (h.update a f):=by
 have ha:h.objs[a]?=some o:=(Heap.get?_some_iff.mp ho).1;obtain⟨objs,l⟩:=h;obtain⟨sz,le,at_⟩:=r;dsimp only at sz at_ ha;have hl:a<objs.size:=(Mu.mp ha).1;refine⟨by show (objs.modify a f).size=_;rw[Array.size_modify,sz],le,λb hb=>?_⟩;show _=(objs.modify a f)[b]?;rw[Array.getElem?_modify];by_cases e:a=b
 ·subst e;rw[Nt,if_pos rfl,ha];rfl
 ·rw[Nu _ 12 t a b (by show a<4096;lia) (by show b<4096;lia) e,at_ b hb,if_neg e]
inductive Hop where
 |ld (a:Addr) (k:Obj->Sem Fin)
 |la (a:Addr) (k:Option Obj->Sem Fin)
 |up (a:Addr) (f:Obj->Obj) (k:Unit->Sem Fin)
 |al (o:Obj) (k:Addr->Sem Fin)
 |st
 |no
noncomputable def yL:Sem Fin->Hop
 |.load a _ k=>.ld a k
 |.loadIfAlive a k=>.la a k
 |.update a _ f k=>.up a f k
 |.alloc o k=>.al o k
 |.pure _=>.st
 |.at ..=>.st
 |.rule ..=>.st
 |.ask _=>.st
 |.fresh _=>.st
 |.point ..=>.st
 |.stack _=>.st
 |.call ..=>.st
 |_=>.no
theorem zhd{den:Code->Sem Fin}{p:Program}{w:World}{h:Heap}{s s':Shared}{t t':Thread}(hn:yL t.cur=.st)(e:step den p w s t=.go s' t'):step den p w {s with heap:=h} t=.go {s' with heap:=h} t':=by
 obtain⟨cur,code,pos,stack⟩:=t;cases cur with
 |pure a=>
  cases a with
  |again c=>cases e;rfl
  |done f=>
   cases stack with
   |nil=>
    have e:(if leftWithCleanup s.gens=true then Step.halt _ _ else Step.halt _ _)=.go s' t':=e;split at e<;>cases e
   |cons r l=>cases r<;>cases e<;>rfl
 |«at»=>cases e;rfl
 |rule=>cases e;rfl
 |ask=>cases e;rfl
 |fresh=>cases e;rfl
 |point=>cases e;rfl
 |stack=>cases e;rfl
 |call=>cases e;rfl
 |_=>cases hn
theorem zlq{c:Sem Fin}{a:Addr}{k:Obj->Sem Fin}(h:yL c=.ld a k):∃q,c=.load a q k:=by
 cases c<;>cases h;exact⟨_,rfl⟩
theorem zk9{c:Sem Fin}{a:Addr}{k:Option Obj->Sem Fin}(h:yL c=.la a k):c=.loadIfAlive a k:=by
 cases c<;>cases h;rfl
theorem zlk{c:Sem Fin}{a:Addr}{f:Obj->Obj}{k:Unit->Sem Fin}(h:yL c=.up a f k):∃q,c=.update a q f k:=by
 cases c<;>cases h;exact⟨_,rfl⟩
theorem zjx{c:Sem Fin}{o:Obj}{k:Addr->Sem Fin}(h:yL c=.al o k):c=.alloc o k:=by
 cases c<;>cases h;rfl
noncomputable def lZ(tb:String->Option Builtin)(p:Program)(w:World)(n₀:Nat)(ann:Option Value):Nat->Tr->Nat->Shared->Thread->Option (Tr×Nat×Shared)
 |0,_,_,_,_=>none
 |m+1,t,z,s,th=>match through th with
  |true=>some (t,z,s)
  |false=>match stepOk n₀ ann th with
   |false=>none
   |true=>match yL th.cur with
    |.ld a k=>(match nH t z a with
     |some o=>lZ tb p w n₀ ann m t z s ⟨k o,th.code,th.pos,th.stack⟩
     |none=>none)
    |.la a k=>lZ tb p w n₀ ann m t z s ⟨k (nH t z a),th.code,th.pos,th.stack⟩
    |.up a f k=>(match nH t z a with
     |some o=>lZ tb p w n₀ ann m (t.put 12 a (f o)) z s ⟨k (),th.code,th.pos,th.stack⟩
     |none=>none)
    |.al o k=>(match Nat.succ z with
     |0=>none
     |n+1=>match Nat.ble n 4095 with
      |true=>lZ tb p w n₀ ann m (t.put 12 n o) (n+1) s ⟨k n,th.code,th.pos,th.stack⟩
      |false=>none)
    |.st=>(match step (denote tb) p w s th with
     |.go s' t'=>lZ tb p w n₀ ann m t z s' t'
     |.halt _ _=>none)
    |.no=>none
theorem zig{tb:String->Option Builtin}{p:Program}{w:World}{n₀:Nat}{ann:Option Value}:∀(m:Nat) {t t':Tr} {z z':Nat} {s s':Shared} {th:Thread} {h:Heap},Rl t z h->lZ tb p w n₀ ann m t z s th=some (t',z',s')->
  ∃h',Rl t' z' h'/\h'.life=h.life/\topRun tb p w n₀ ann m {s with heap:=h} th=some {s' with heap:=h'}:=by
 intro m
 induction m with
 |zero=>intro t t' z z' s s' th h r e;cases e
 |succ m ih=>
  intro t t' z z' s s' th h r e;unfold lZ at e;unfold topRun;cases ht:through th with
  |true=>
   rw[ht] at e;cases e;exact⟨h,r,rfl,rfl⟩
  |false=>
   rw[ht] at e;cases hk:stepOk n₀ ann th with
   |false=>rw[hk] at e;cases e
   |true=>
    rw[hk] at e;dsimp only at e ⊢;cases ho:yL th.cur with
    |no=>rw[ho] at e;cases e
    |st=>
     rw[ho] at e;cases hs:step (denote tb) p w s th with
     |halt _ _=>rw[hs] at e;cases e
     |go s1 t1=>
      rw[hs] at e;rw[zhd (h:=h) ho hs];exact ih r e
    |ld a k=>
     rw[ho] at e;dsimp only at e;cases hg:nH t z a with
     |none=>rw[hg] at e;cases e
     |some o=>
      rw[hg] at e;rw[r.get] at hg;obtain⟨cur,code,pos,stack⟩:=th;obtain⟨q,rfl⟩:=zlq ho;simp only[step,hg];exact ih r e
    |la a k=>
     rw[ho] at e;obtain⟨cur,code,pos,stack⟩:=th;obtain rfl:=zk9 ho;obtain⟨h',a1,b,c⟩:=ih r e;rw[r.get] at c;exact⟨h',a1,b,c⟩
    |up a f k=>
     rw[ho] at e;dsimp only at e;cases hg:nH t z a with
     |none=>rw[hg] at e;cases e
     |some o=>
      rw[hg] at e;rw[r.get] at hg;obtain⟨cur,code,pos,stack⟩:=th;obtain⟨q,rfl⟩:=zlk ho;obtain⟨h',a1,b,c⟩:=ih (r.upd hg) e;refine⟨h',a1,b.trans (by cases h;rfl),?_⟩;simp only[step,hg];exact c
    |al o k=>
     rw[ho] at e;cases hb:Nat.ble z 4095 with
     |false=>dsimp only at e;rw[hb] at e;cases e
     |true=>
      dsimp only at e;rw[hb] at e;obtain⟨cur,code,pos,stack⟩:=th;obtain rfl:=zjx ho;obtain⟨h',a1,b,c⟩:=ih (r.push o (by have:=Nat.ble_eq.mp hb;lia)) e;refine⟨h',a1,b.trans (by cases h;rfl),?_⟩;simp only[step,r.sz];exact c
noncomputable def lst(g:Nat->Option Obj):Nat->Nat->List Obj
 |0,_=>[]
 |n+1,i=>match g i with
  |some o=>o::lst g n (i+1)
  |none=>[]
theorem Vt{g:Nat->Option Obj}:∀{l:List Obj} {i:Nat},(∀j,j<l.length->g (i+j)=l[j]?)->lst g l.length i=l
 |[],_,_=>rfl
 |o::l,i,h=>by
  have h0:=h 0 (Nat.zero_lt_succ _);show (match g i with|some o=>o::lst g l.length (i+1)|none=>[])=_;rw[show g i=some o from h0,Vt (l:=l) λj hj=>by rw[show i+1+j=i+(j+1) by lia];exact h (j+1) (Nat.succ_lt_succ hj)]
noncomputable def wH(t:Tr)(z:Nat)(l:Life):Heap:=⟨⟨lst (t.get 12) z 0⟩,l⟩
theorem Rl.wH{t:Tr}{z:Nat}{h:Heap}(r:Rl t z h):wH t z h.life=h:=by
 obtain⟨⟨objs⟩,l⟩:=h;have sz:objs.length=z:=r.sz;subst sz;unfold Mi.wH;rw[Vt λj hj=>by rw[Nat.zero_add];exact(r.at_ j hj).trans Qi]
noncomputable def J6:List Obj->Nat->Tr->Tr
 |[],_,t=>t
 |o::r,i,t=>J6 r (i+1) (t.put 12 i o)
theorem Vu{l:Life}:∀{r a:List Obj} {t:Tr},(a++r).length<=4096->Rl t a.length ⟨⟨a⟩,l⟩->Rl (J6 r a.length t) (a++r).length ⟨⟨a++r⟩,l⟩
 |[],a,t,_,h=>by rw[ug];exact h
 |o::r,a,t,hl,h=>by
  have h2:=h.push o (by rw[ji,dB] at hl;lia);have e:a++o::r=(a++[o])++r:=by simp
  rw[e] at hl ⊢;have h3:=Vu (l:=l) (r:=r) (a:=a++[o]) (t:=t.put 12 a.length o) hl (by
   rw[ji];have e2:(⟨⟨a++[o]⟩,l⟩ : Heap)=Heap.push ⟨⟨a⟩,l⟩ o:=by unfold Heap.push;simp
   rw[e2];exact h2)
  rw[ji] at h3;exact h3
noncomputable def rA(p:Program)(w:World)(N:Nat):Option Shared:=(fencedOpening treeTable p w N).bind λs₀=>match s₀.heap.isNs mainGlobals&&s₀.gens.size==0&&Nat.ble s₀.heap.objs.size 4096 with
 |true=>(lZ treeTable p w s₀.heap.objs.size (s₀.heap.nsMap mainGlobals "__annotations__") N (J6 s₀.heap.objs.toList 0 .em) s₀.heap.objs.size s₀ (topStub p)).bind λr=>
  match staticsOk (importedModules p.main.body) s₀.heap (wH r.1 r.2.1 s₀.heap.life)&&namesBound p (wH r.1 r.2.1 s₀.heap.life)&&gensDone r.2.2&&laidKept s₀.heap (wH r.1 r.2.1 s₀.heap.life) with
   |true=>some {r.2.2 with heap:=wH r.1 r.2.1 s₀.heap.life}
   |false=>none
 |false=>none
theorem zgs{p:Program}{w:World}{N:Nat}{s:Shared}(e:rA p w N=some s):openEnds treeTable p w N=some s:=by
 unfold rA at e;unfold openEnds;obtain⟨s₀,h0,e⟩:=wg.mp e;rw[h0];show topFrom treeTable p w N s₀=some s;unfold topFrom;cases hb:(s₀.heap.isNs mainGlobals&&s₀.gens.size==0&&Nat.ble s₀.heap.objs.size 4096) with
 |false=>rw[hb] at e;cases e
 |true=>
  rw[hb] at e;obtain⟨h1,h2⟩:=M7.mp hb;rw[h1];obtain⟨⟨t,z,s₁⟩,h3,e⟩:=wg.mp e;have r0:Rl (J6 s₀.heap.objs.toList 0 .em) s₀.heap.objs.size s₀.heap:=Vu (l:=s₀.heap.life) (r:=s₀.heap.objs.toList) (a:=[]) (t:=.em) (Nat.ble_eq.mp h2) ⟨rfl,uP _,λa ha=>absurd ha (Nat.not_lt_zero a)⟩;obtain⟨h',r,l,c⟩:=zig N r0 h3;dsimp only at e ⊢;rw[show ({s₀ with heap:=s₀.heap}:Shared)=s₀ from rfl] at c;rw[c];rw[<-l,r.wH] at e;exact e
theorem fe{p:Program}{w:World}{N:Nat}{α:Type}{f:Shared->α}{v:α}(e:(rA p w N).map f=some v):(openEnds treeTable p w N).map f=some v:=by
 obtain⟨s,h,e⟩:=p7.mp e;rw[zgs h,<-e];rfl
structure Bd where
 n:Str
 fs:List Str
 ms:List (Str×Str×Stmt)
noncomputable def jV(K:Frag)(C:Addr)(m:Str):Option (Addr×FuncData):=match findIn K (.ref C) m with
 |some (some (.ref f))=>(match K.lookup f with
  |some ⟨_,_,.func fd,_⟩=>(match codeIn K fd.code fd.qualname&&keepIn K (.ref f)&&isFn K (.ref f) with
   |true=>some (f,fd)
   |false=>none)
  |_=>none)
 |_=>none
noncomputable def Ce(m q:Str)(st:Stmt):FuncData:=fnOf m q (aU st) (aH st) (au st) .none .none .none .none none .none .none
noncomputable def wI(K:Frag)(b:Bd):Bool:=q_ K b.n&&plainGet K (dD K b.n) Str.empty&&hasDictIn K (dD K b.n)&&plainOver K (dD K b.n)&&findIn K (.ref (dD K b.n)) "__setattr__"==some (some (.builtin "object.__setattr__"))&&makesIn K (dD K b.n)&&keepIn K (.ref (dD K b.n))&&b.fs.all (λf=>findIn K (.ref (dD K b.n)) f==some none)
noncomputable def yM(b:Bd)(s:Shared):List (Option FuncData)×Bool:=(b.ms.map λp=>(jV (bN s.heap) (dD (bN s.heap) b.n) p.1).map λq=>lX q.2,wI (bN s.heap) b)
noncomputable def yN(b:Bd):List (Option FuncData)×Bool:=(b.ms.map λp=>some (Ce p.1 p.2.1 p.2.2),true)
theorem ziH{p q:Program}{loose:List Str}{Xt:Shared->Bool}{N:Nat}{fs:List (Str×Stmt)}{ms:List rz}{xs:List (Nat×Str)}{l:Lk}{b:Bd}(h:LeftO p q loose Xt (kj fs ms xs l) (lY fs ms) N)(e:∀w,(openEnds treeTable p w N).map (yM b)=some (yN b)) :
  LeftO p q loose Xt (λs=>(kj fs ms xs l s,yM b s)) (λw=>(lY fs ms w,yN b)) N:=by
 intro w;have h:=h w;have e:=e w;cases z:openEnds treeTable p w N with
 |none=>rw[z] at e;cases e
 |some s=>
  rw[z] at h e;have e:yM b s=yN b:=dJ e;have h:=dJ h;have h1:=lW Prod.fst h;have h2:=lW Prod.snd h;show some (_,_,_)=some (_,_,_);rw[e];exact lW some (Prod.ext h1 (Prod.ext h2 rfl))
end Mi
namespace dN
open PySem PySem.Spec PyProof.Rows PySem.W L2 Mi
noncomputable def top(i:Nat):Stmt:=PySem.Challenge.pw_ringhues_k55_whole_folds.main.body.getD i (.Pass ⟨0,0,0,0⟩)
noncomputable def Cg:Stmt:=(oV (top 22)).getD 0 (.Pass ⟨0,0,0,0⟩)
noncomputable def En:Stmt:=(oV (top 22)).getD 1 (.Pass ⟨0,0,0,0⟩)
noncomputable def bd:Bd:=⟨"Board",["ends","spots","apart","alike"],[("__init__","Board.__init__",Cg),("far_apart","Board.far_apart",En)]⟩
noncomputable def fs1:List (Str×Stmt):=("is_whole",top 8)::("is_within",top 9)::("is_row",top 10)::("check_most",top 11)::("is_web",top 14)::("is_many",top 15)::("is_place",top 16)::("is_tie",top 17)::("check_web",top 18)::("tied_to",top 19)::("all_ends",top 20)::("ring_board",top 23)::("is_ring",top 26)::("is_spot",top 27)::("check_ring",top 28)::("gap_of",top 29)::("hues_many",top 34)::("fixed_many",top 35)::("all_fixed",top 36)::("check_few",top 37)::[]
noncomputable def qe:List (Str×Stmt):=("fixed_rows",top 38)::("is_free",top 39)::("hues_hold",top 41)::("turned_on",top 42)::("mirrored_hues",top 43)::("mirrored",top 44)::("are_spots",top 45)::("are_hues",top 46)::("check_hues",top 47)::("clash_of",top 48)::("folded_many",top 50)::("first_folded",top 51)::("_law_cell",top 53)::("_law_pen",top 54)::("_law_draw",top 55)::("_law_web",top 56)::("_law_small_ring",top 57)::("_law_hues_right",top 58)::("_law_right",top 59)::("law",top 60)::[]
noncomputable abbrev fs:List (Str×Stmt):=fs1++qe
noncomputable def lk:Lk:=⟨[],[("MOST_PLACES",8),("MOST_SPOTS",24),("FEW_PLACES",6),("FEW_SPOTS",8),("MOST_TOLD",300)],["abs","all","bool","dict","divmod","int","isinstance","len","max","min","range","sorted","tuple","zip"],[],[],[]⟩
noncomputable def ms:List rz:=[]
noncomputable def xs:List (Nat×Str):=[]
noncomputable abbrev pv:Program:=PySem.Challenge.pw_ringhues_k55_whole_folds
noncomputable def qv:Program:={pv with main:={pv.main with body:=[pv.main.body.getD 60 (.Pass ⟨0,0,0,0⟩)]}}
noncomputable def loose:List Str:=(["_wall","HueError","NoRing","NoHues","NoWeb","TooGreat","is_whole","is_within","is_row","check_most","MOST_PLACES","is_web","is_many","is_place","is_tie","check_web","tied_to","all_ends","Board","ring_board","MOST_SPOTS","is_ring","is_spot","check_ring","gap_of","FEW_PLACES","FEW_SPOTS","MOST_TOLD","hues_many","fixed_many","all_fixed","check_few","fixed_rows","is_free","hues_hold","turned_on","mirrored_hues","mirrored","are_spots","are_hues","check_hues","clash_of","folded_many","first_folded","_law_cell","_law_pen","_law_draw","_law_web","_law_small_ring","_law_hues_right","_law_right"]:List String).map Str.ofString
theorem zjp(w:World):(openEnds treeTable pv w 20000).map (λs=>openSeen qv loose (importedModules pv.main.body) (λs=>xlAt qv [] s&&recOk [] s) true s)=some (openGood qv loose):=by
 refine fe ?_
 kernel_rfl
theorem zkZ(w:World):(openEnds treeTable pv w 20000).map (J5 fs1)=some (fs1.map λp=>some (ur p.1 p.2)):=by
 refine fe ?_
 kernel_rfl
theorem zjl(w:World):(openEnds treeTable pv w 20000).map (J5 qe)=some (qe.map λp=>some (ur p.1 p.2)):=by
 refine fe ?_
 kernel_rfl
theorem zj5(w:World):(openEnds treeTable pv w 20000).map (Vr ms xs lk)=some (ms.map (λm=>some (yK m.q m.st)),true):=by
 refine fe ?_
 kernel_rfl
theorem ws:PySem.Challenge.rw_ringhues_k55_whole_folds.wellSaid=true:=by
 kernel_rfl
theorem wt:PySem.Challenge.rw_ringhues_k55_whole_folds.row.prog.tablesWhole=true:=by
 decide +kernel
theorem wc:(chainsOk qv&&opensWell PySem.Challenge.rw_ringhues_k55_whole_folds.row.prog&&(frees PySem.Challenge.rw_ringhues_k55_whole_folds.row.toRowW&&PySem.Challenge.rw_ringhues_k55_whole_folds.row.within.isEmpty))=true:=by
 decide +kernel
theorem zku(w:World):(openEnds treeTable pv w 20000).map (yM bd)=some (yN bd):=by
 refine fe ?_
 kernel_rfl
theorem left:LeftO pv qv loose (λs=>xlAt qv [] s&&recOk [] s) (λs=>(kj fs ms xs lk s,yM bd s)) (λw=>(lY fs ms w,yN bd)) 20000:=ziH (zel zjp zkZ zjl zj5) zku
end dN
namespace L2
open PySem PySem.Spec PyProof.Rows
theorem gH{α:Sort u}{β:Sort v}{A B C:α->β->Prop}{P:Prop}(h:∃x y,A x y/\B x y/\C x y)(k:∀x y,A x y->B x y->C x y->P):P:=by
 obtain⟨x,y,a,b,c⟩:=h;exact k x y a b c
theorem Nv{α:Sort u}{β:Sort v}{γ:Sort w}{A B:α->β->Prop}{C D:α->β->γ->Prop}{P:Prop}(h:∃x y,A x y/\B x y/\∃z,C x y z/\D x y z)(k:∀x y,A x y->B x y->∀z,C x y z->D x y z->P):P:=by
 obtain⟨x,y,a,b,z,c,d⟩:=h;exact k x y a b z c d
theorem wJ{α:Sort u}{A B:α->Prop}{P:Prop}(h:∃x,A x/\B x)(k:∀x,A x->B x->P):P:=by
 obtain⟨x,a,b⟩:=h;exact k x a b
noncomputable abbrev Key:=Sum Int Str
noncomputable def wK:Key->Value->Bool
 |.inl k,v=>Value.isInt k v
 |.inr x,v=>Value.isStrOf x v
noncomputable def Ny(w:World):Key->Int
 |.inl k=>hashInt k
 |.inr x=>hashStr w x
theorem uR:∀{k:Key} {v:Value},wK k v=true->(∃i t,k=Sum.inl i/\v=Value.int i t)\/(∃x t,k=Sum.inr x/\v=Value.str x t)
 |.inl i,v,h=>by
  obtain⟨t,e⟩:=Value.isInt_shape (k:=i) (v:=v) h;exact .inl ⟨i,t,rfl,e⟩
 |.inr x,v,h=>by
  obtain⟨t,e⟩:=Value.isStrOf_shape (x:=x) (v:=v) h;exact .inr ⟨x,t,rfl,e⟩
theorem zjL(a b:Int):decide ((Sum.inl a:Key)=Sum.inl b)=(a==b):=by
 by_cases e:a=b
 ·subst e;simp
 ·have h:¬(Sum.inl a:Key)=Sum.inl b:=λq=>e (Sum.inl.inj q);rw[oN h];exact(Br.mpr e).symm
theorem zj0(a b:Str):decide ((Sum.inr a:Key)=Sum.inr b)=decide (a=b):=by
 by_cases e:a=b
 ·subst e;simp
 ·have h:¬(Sum.inr a:Key)=Sum.inr b:=λq=>e (Sum.inr.inj q);rw[oN h,oN e]
theorem zkB(a:Int)(b:Str):decide ((Sum.inl a:Key)=Sum.inr b)=false:=oN (λq=>nomatch q)
theorem zka(a:Str)(b:Int):decide ((Sum.inr a:Key)=Sum.inl b)=false:=oN (λq=>nomatch q)
noncomputable def oW(prog:Program)(w:World):PySem.KeyKind prog w Key where
 is:=wK
 hash:=Ny w
 inj:=λv a b ha hb=>by
  rcases uR ha with ⟨i,t,rfl,rfl⟩|⟨x,t,rfl,rfl⟩
  ·rcases uR hb with ⟨j,u,rfl,e⟩|⟨y,u,rfl,e⟩
   ·injection e with e1 _;rw[e1]
   ·exact nomatch e
  ·rcases uR hb with ⟨j,u,rfl,e⟩|⟨y,u,rfl,e⟩
   ·exact nomatch e
   ·injection e with e1 _;rw[e1]
 byValue:=λk v h=>by
  rcases uR h with ⟨i,t,rfl,rfl⟩|⟨x,t,rfl,rfl⟩<;>rfl
 pyHash:=λhv h=>by
  rcases uR hv with ⟨i,t,rfl,rfl⟩|⟨x,t,rfl,rfl⟩
  ·exact wpAny_pyHash_int h
  ·exact wpAny_pyHash_str h
 eqBool:=λhu hv h=>by
  rcases uR hu with ⟨i,t,rfl,rfl⟩|⟨x,t,rfl,rfl⟩
  ·rcases uR hv with ⟨j,u,rfl,rfl⟩|⟨y,u,rfl,rfl⟩
   ·rw[zjL] at h;exact wpAny_eqBool_int h
   ·rw[zkB] at h;exact SeqAt.EqAt.int_str i t y u _ _ _ _ h
  ·rcases uR hv with ⟨j,u,rfl,rfl⟩|⟨y,u,rfl,rfl⟩
   ·rw[zka] at h;exact SeqAt.EqAt.str_int x t j u _ _ _ _ h
   ·rw[zj0] at h;exact wpAny_eqBool_str h
 «strs»:=λk x t v h=>by
  rcases uR h with ⟨i,u,rfl,e⟩|⟨y,u,rfl,e⟩
  ·exact nomatch e
  ·injection e with e1 _;subst e1;cases v<;>rfl
inductive V where
 |non|bl (b:Bool)|int (i:Int)|str (x:Str)|Ep (b:Array UInt8)|flt (b:UInt64)|ref (a:Addr)|ty (n:String)
 deriving DecidableEq
noncomputable def RelV:V->Value->Prop
 |.non,u=>u=Value.none
 |.bl b,u=>u=Value.bool b
 |.int i,u=>∃t,u=Value.int i t
 |.str x,u=>∃t,u=Value.str x t
 |.Ep b,u=>∃t,u=Value.bytes b t
 |.flt b,u=>∃t,u=Value.float b t
 |.ref a,u=>u=Value.ref a
 |.ty n,u=>u=Value.type n
noncomputable abbrev Vals:List V->List Value->Prop:=Paired RelV
theorem Vals.length{xs:List V}{us:List Value}(r:Vals xs us):xs.length=us.length:=Paired.length r
theorem Vals.get:∀{xs:List V} {us:List Value} {i:Nat} {x:V},Vals xs us->xs[i]?=some x->∃u,us[i]?=some u/\RelV x u
 |_,_,_,_,.nil,e=>by simp at e
 |_,_,0,_,.cons r _,e=>by simp at e;subst e;exact⟨_,rfl,r⟩
 |_,_,i+1,x,.cons _ t,e=>by
  obtain⟨u,h1,h2⟩:=Vals.get (i:=i) (x:=x) t (by simpa using e);exact⟨u,by simpa using h1,h2⟩
theorem Vals.set{x:V}{u:Value}(r:RelV x u):∀{xs:List V} {us:List Value} (i:Nat),Vals xs us->Vals (xs.set i x) (us.set i u)
 |_,_,_,.nil=>.nil
 |_,_,0,.cons _ t=>.cons r t
 |_,_,i+1,.cons q t=>.cons q (Vals.set r i t)
theorem Vals.append{xs ys:List V}{us ws:List Value}(h:Vals xs us)(s:Vals ys ws):Vals (xs++ys) (us++ws):=by
 induction h with
 |nil=>exact s
 |cons r _ ih=>exact .cons r ih
theorem Vals.take:∀{xs:List V} {us:List Value} (n:Nat),Vals xs us->Vals (xs.take n) (us.take n)
 |_,_,0,_=>.nil
 |_,_,_+1,.nil=>.nil
 |_,_,n+1,.cons r t=>.cons r (Vals.take n t)
theorem Vals.drop:∀{xs:List V} {us:List Value} (n:Nat),Vals xs us->Vals (xs.drop n) (us.drop n)
 |_,_,0,r=>r
 |_,_,_+1,.nil=>.nil
 |_,_,n+1,.cons _ t=>Vals.drop n t
noncomputable def qg:Option V->Option Value->Prop
 |some v,some u=>RelV v u
 |none,none=>True
 |_,_=>False
noncomputable def KV{κ:Type}:List (κ×V)->List (κ×Value)->Prop:=Paired λ(p:κ×V) (q:κ×Value)=>p.1=q.1/\RelV p.2 q.2
noncomputable def kV:Key->V
 |.inl i=>.int i
 |.inr x=>.str x
inductive HO where
 |lst (xs:List V)
 |tup (xs:List V)
 |dK (kvs:List (Key×V))|dT (kvs:List (List Key×V))
 |set (S:Int->Bool) (n:Nat)
 |ins (C dx:Addr) (fs:List (Str×V))
 |own (x:Addr)
 |xd (fs:List (Str×V))
 |met (f x:Addr)
 |rng (lo hi:Int)
 |ux (o:Obj) (u:HO)
 |yO (ps:Array Value)
 |ext (U:Heap->Prop)
noncomputable abbrev Hp:=Addr->Option HO
noncomputable def upd(H:Hp)(a:Addr)(o:HO):Hp:=λb=>if b=a then some o else H b
theorem jH{H:Hp}{a:Addr}{o:HO}:upd H a o a=some o:=by unfold upd;rw[if_pos rfl]
theorem cX{H:Hp}{a b:Addr}{o:HO}(h:b≠a):upd H a o b=H b:=by unfold upd;rw[if_neg h]
theorem Vv{H:Hp}{a:Addr}{o u:HO}:upd (upd H a o) a u=upd H a u:=by
 funext b;unfold upd;split<;>rfl
theorem Cj{H:Hp}{a b:Addr}{o:HO}(h:H a=some o)(h':H b=none):a≠b:=by
 intro e;subst e;rw[h] at h';cases h'
def jJ(h:Heap)(a:Addr)(items:Array Value):Prop:=∃o,h.get? a=some o/\o.cls=.type "tuple"/\∃n,o.data=.seq items n/\o.dict=none
theorem jJ.tup{h:Heap}{a:Addr}{items:Array Value}(x:jJ h a items):IsTup h a items:=by
 obtain⟨o,h1,h2,n,h3,_⟩:=x;exact⟨o,h1,h2,n,h3⟩
theorem jJ.lt{h:Heap}{a:Addr}{items:Array Value}(x:jJ h a items):a<h.objs.size:=x.tup.lt
theorem jJ.new(h:Heap)(xs:Array Value):jJ (h.push {cls:=.type "tuple",data:=.seq xs}) h.objs.size xs:=⟨_,fC h rfl,rfl,_,rfl,rfl⟩
section
variable (P:Program)(w:World)
noncomputable def bO(H:Hp)(h:Heap)(a:Addr):HO->Prop
 |.lst xs=>xs.length<=sizeLine/\∃(its:List Value) (n:Nat),Vals xs its/\h.get? a=some {cls:=.type "list",data:=.seq its.toArray n}
 |.tup xs=>xs.length<=sizeLine/\∃its:List Value,Vals xs its/\jJ h a its.toArray
 |.dK kvs=>kvs.length<=sizeLine/\(a==sysModules)=false/\∃vs,KV kvs vs/\h.DictOf (oW P w) a vs
 |.dT kvs=>kvs.length<=sizeLine/\(a==sysModules)=false/\∃xs:List (List Key×Addr×Value),
   Paired (λ(p:List Key×V) (q:List Key×Addr×Value)=>p.1=q.1/\H q.2.1=some (.tup (p.1.map kV))/\RelV p.2 q.2.2) kvs xs /\
   ∃o es ep,h.get? a=some o/\o.ExactDict/\o.data=.dict es ep/\es.toList=xs.map (entryOfKey (tupleKind (oW P w)))/\(xs.map (·.1)).Nodup
 |.set S n=>h.SetOf (intKind P w) a S n
 |.ins C dx fs=>H dx=some (.own a)/\fs.length<=1000/\dx≠a/\h.get? a=some (PySem.W.instObj C dx) /\
   ∃mA,h.Ns1 dx mA/\(∀f,qg (fs.lookup f) (mA f))/\PySem.Within mA (fs.map (·.1))
 |.own _=>∃o,h.get? a=some o
 |.xd fs=>∃mA,h.Ns1 a mA/\∀f,qg (fs.lookup f) (mA f)
 |.rng lo hi=>∃t u v,h.get? a=some {cls:=.type "range",data:=.fields #[.int lo t,.int hi u,.int 1 v]}
 |.ux o u=>h.get? a=some o/\bO H h a u
 |.yO ps=>h.get? a=some {cls:=.none,data:=.fields ps}
 |.met f x=>h.get? a=some (PySem.W.methodObj (.ref f) (.ref x))
 |.ext U=>U h/\(∃o,h.get? a=some o)/\∀h1 h2:Heap,U h1->(∀o,h1.get? a=some o->h2.get? a=some o)->U h2
def g_(H:Hp)(h:Heap):Prop:=∀a o,H a=some o->bO P w H h a o
end
section
variable {P:Program}{w:World}{H H':Hp}{h h':Heap}{a:Addr}{o:HO}
theorem bO.lt(x:bO P w H h a o):a<h.objs.size:=by
 cases o with
 |lst xs=>obtain⟨_,_,_,_,e⟩:=x;exact bV e
 |tup xs=>obtain⟨_,_,_,p⟩:=x;exact p.lt
 |dK kvs=>obtain⟨_,_,_,_,o,_,_,e,_⟩:=x;exact bV e
 |dT kvs=>obtain⟨_,_,_,_,o,_,_,e,_⟩:=x;exact bV e
 |set S n=>obtain⟨o,_,_,_,e,_⟩:=x;exact bV e
 |ins C dx fs=>obtain⟨_,_,_,e,_⟩:=x;exact bV e
 |own y=>obtain⟨_,e⟩:=x;exact bV e
 |xd fs=>obtain⟨_,⟨_,_,_,e,_⟩,_⟩:=x;exact bV e
 |rng lo hi=>obtain⟨_,_,_,e⟩:=x;exact bV e
 |ux ob u=>obtain⟨e,_⟩:=x;exact bV e
 |yO ps=>exact bV (show h.get? a=some _ from x)
 |met f y=>exact bV (show h.get? a=some _ from x)
 |ext U=>obtain⟨_,⟨_,e⟩,_⟩:=x;exact bV e
theorem Vw{α β:Type}{F G:α->β->Prop}:∀{l₁:List α} {l₂:List β},Paired F l₁ l₂->(∀a b,F a b->G a b)->Paired G l₁ l₂
 |_,_,.nil,_=>.nil
 |_,_,.cons r t,f=>.cons (f _ _ r) (Vw t f)
theorem bO.stay(x:bO P w H h a o)(k:∀b u,(b=a\/H b=some (.own a))->h.get? b=some u->h'.get? b=some u)
  (ho:∀b,H b=some (.own a)->H' b=some (.own a)) (ht:∀b xs,H b=some (.tup xs)->H' b=some (.tup xs)):bO P w H' h' a o:=by
 induction o with
 |lst xs=>obtain⟨z,its,n,r,e⟩:=x;exact⟨z,its,n,r,k _ _ (.inl rfl) e⟩
 |tup xs=>obtain⟨z,its,r,ob,e,c⟩:=x;exact⟨z,its,r,ob,k _ _ (.inl rfl) e,c⟩
 |dK kvs=>obtain⟨z,y,vs,r,ob,es,ep,e,c⟩:=x;exact⟨z,y,vs,r,ob,es,ep,k _ _ (.inl rfl) e,c⟩
 |dT kvs=>
  obtain⟨z,y,xs,r,ob,es,ep,e,c⟩:=x;exact⟨z,y,xs,Vw r λp q z=>⟨z.1,ht _ _ z.2.1,z.2.2⟩,ob,es,ep,k _ _ (.inl rfl) e,c⟩
 |set S n=>obtain⟨ob,es,ep,t,e,c⟩:=x;exact⟨ob,es,ep,t,k _ _ (.inl rfl) e,c⟩
 |ins C dx fs=>
  obtain⟨d,z,ne,e,mA,⟨od,es,ep,e2,c⟩,r⟩:=x;exact⟨ho _ d,z,ne,k _ _ (.inl rfl) e,mA,⟨od,es,ep,k _ _ (.inr d) e2,c⟩,r⟩
 |own y=>obtain⟨ob,e⟩:=x;exact⟨ob,k _ _ (.inl rfl) e⟩
 |xd fs=>obtain⟨mA,⟨od,es,ep,e,c⟩,r⟩:=x;exact⟨mA,⟨od,es,ep,k _ _ (.inl rfl) e,c⟩,r⟩
 |rng lo hi=>obtain⟨t,u,v,e⟩:=x;exact⟨t,u,v,k _ _ (.inl rfl) e⟩
 |ux ob u ih=>obtain⟨e,q⟩:=x;exact⟨k _ _ (.inl rfl) e,ih q⟩
 |yO ps=>
  have e:h.get? a=some {cls:=.none,data:=.fields ps}:=x;show h'.get? a=some {cls:=.none,data:=.fields ps};exact k a _ (.inl rfl) e
 |met f y=>
  have e:h.get? a=some (PySem.W.methodObj (.ref f) (.ref y)):=x;show h'.get? a=some (PySem.W.methodObj (.ref f) (.ref y));exact k a _ (.inl rfl) e
 |ext U=>obtain⟨p,⟨o,e⟩,st⟩:=x;exact⟨st _ _ p λo q=>k _ _ (.inl rfl) q,⟨o,k _ _ (.inl rfl) e⟩,st⟩
theorem g_.lt(x:g_ P w H h)(e:H a=some o):a<h.objs.size:=(x a o e).lt
theorem g_.fresh(x:g_ P w H h)(e:h.objs.size<=a):H a=none:=by
 cases q:H a with
 |none=>rfl
 |some u=>exact absurd (gU (x.lt q) e) (lM _)
theorem g_.kept(x:g_ P w H h)(k:∀b u,h.get? b=some u->h'.get? b=some u):g_ P w H h':=λa o e=>
 (x a o e).stay (λb u _ q=>k b u q) (λ_ q=>q) λ_ _ q=>q
theorem g_.laid(x:g_ P w H h)(k:∀b u,h.get? b=some u->h'.get? b=some u)(hp:h.objs.size<=a)(new:bO P w (upd H a o) h' a o):g_ P w (upd H a o) h':=λb u e=>by
 have hn:=x.fresh hp;by_cases hb:b=a
 ·subst hb;rw[jH] at e;cases e;exact new
 ·rw[cX hb] at e;exact(x b u e).stay (λc v _ q=>k c v q) (λc q=>by rw[cX (Cj q hn)];exact q) λc xs q=>by rw[cX (Cj q hn)];exact q
end
def Rd(H:Hp)(a:Addr)(u:HO):Prop:=H a=some u\/∃o,H a=some (.ux o u)
theorem Rd.ok{P:Program}{w:World}{H:Hp}{h:Heap}{a:Addr}{u:HO}(r:Rd H a u)(x:g_ P w H h):bO P w H h a u:=by
 rcases r with r|⟨o,r⟩
 ·exact x a u r
 ·obtain⟨_,q⟩:=x a _ r;exact q
noncomputable def J7:Option HO->Prop
 |some (.lst _)=>True
 |some (.dK _)=>True
 |some (.dT _)=>True
 |some (.set _ _)=>True
 |some (.ins _ _ _)=>True
 |some (.ext _)=>True
 |_=>False
section
variable {P:Program}{w:World}{H:Hp}{h h':Heap}{x e:Addr}{o':HO}
theorem g_.write(ok:g_ P w H h)(mu:J7 (H x))(he:e=x\/H e=some (.own x))(k:∀b u,b≠e->h.get? b=some u->h'.get? b=some u)(Cm:∃u,h'.get? e=some u)
  (new:bO P w (upd H x o') h' x o'):g_ P w (upd H x o') h':=λb u q=>by
 have Er:∀c y,H c=some (.own y)->c≠x:=λc y r z=>by subst z;rw[r] at mu;exact mu
 have Nz:∀c xs,H c=some (.tup xs)->c≠x:=λc xs r z=>by subst z;rw[r] at mu;exact mu
 by_cases hb:b=x
 ·subst hb;rw[jH] at q;cases q;exact new
 ·rw[cX hb] at q;by_cases yP:b=e
  ·have q':H b=some (.own x):=by
    rcases he with z|z
    ·exact absurd (yP.trans z) hb
    ·rw[yP];exact z
   rw[q] at q';cases q';obtain⟨v,hv⟩:=Cm;exact⟨v,by rw[yP];exact hv⟩
  ·refine(ok b u q).stay (λc v hc r=>k c v ?_ r) (λc r=>by rw[cX (Er c b r)];exact r) λc xs r=>by rw[cX (Nz c xs r)];exact r
   rcases hc with rfl|hc
   ·exact yP
   ·rintro rfl;rcases he with z|z
    ·exact Er c b hc z
    ·rw[hc] at z;cases z;exact hb rfl
end
structure Un(fs ex:List Addr)(H H':Hp)(h h':Heap):Prop where
 keep:∀b o,h.get? b=some o->H b=none->b∉fs->b∉ex->h'.get? b=some o
 slot:∀b o,h.get? b=some o->H b=none->b∈fs->b∉ex->∃sl,h'.get? b=some {o with slots:=sl}
 free:∀b o,h.get? b=some o->H b=none->b∉ex->H' b=none
 there:∀b o,h.get? b=some o->b∉ex->∃o',h'.get? b=some o'
 tups:∀b xs,H b=some (.tup xs)->H' b=some (.tup xs)
 jK:∀b o u,H b=some (.ux o u)->H' b=some (.ux o u)
 kE:∀b ps,H b=some (.yO ps)->∃more,H' b=some (.yO (ps++more))
section
variable {fs fs' ex ex':List Addr}{H H1 H2:Hp}{h h1 h2 h':Heap}{a x e:Addr}{o:HO}
theorem Un.any(u:Un fs ex H H1 h h1){b:Addr}{ob:Obj}(q:h.get? b=some ob)(n:H b=none)(hx:b∉ex):∃sl,h1.get? b=some {ob with slots:=sl}:=by
 by_cases hb:b∈fs
 ·exact u.slot b ob q n hb hx
 ·exact⟨ob.slots,u.keep b ob q n hb hx⟩
theorem Un.kept(k:∀b u,h.get? b=some u->h'.get? b=some u):Un fs ex H H h h':=
 ⟨λb ob q _ _ _=>k b ob q,λb ob q _ _ _=>⟨ob.slots,k b ob q⟩,λ_ _ _ n _=>n,λb ob q _=>⟨ob,k b ob q⟩,λ_ _ q=>q,λ_ _ _ q=>q,λ_ ps q=>⟨#[],by rw[q];simp⟩⟩
theorem Un.refl:Un fs ex H H h h:=Un.kept λ_ _ q=>q
theorem Un.laid(k:∀b u,h.get? b=some u->h'.get? b=some u)(hp:h.objs.size<=a)(hn:H a=none):Un fs ex H (upd H a o) h h' where
 keep:=λb u q _ _ _=>k b u q
 slot:=λb u q _ _ _=>⟨u.slots,k b u q⟩
 free:=λb u q n _=>by rw[cX (dM (gU (bV q) hp))];exact n
 there:=λb u q _=>⟨u,k b u q⟩
 tups:=λb xs q=>by rw[cX (Cj q hn)];exact q
 jK:=λb u xs q=>by rw[cX (Cj q hn)];exact q
 kE:=λb ps q=>⟨#[],by rw[cX (Cj q hn),q];simp⟩
theorem Un.write(mu:J7 (H x))(he:e=x\/H e=some (.own x))(k:∀b u,b≠e->h.get? b=some u->h'.get? b=some u)(Cm:∃u,h'.get? e=some u):Un fs ex H (upd H x o) h h':=by
 have hx:∀b,H b=none->b≠x:=λb n z=>by subst z;rw[n] at mu;exact mu
 have hb:∀b,H b=none->b≠e:=λb n z=>by
  subst z;rcases he with r|r
  ·exact hx b n r
  ·rw[n] at r;cases r
 have hm:∀b u,H b=some u->¬J7 (some u)->b≠x:=λb u q nm z=>by subst z;rw[q] at mu;exact nm mu
 refine⟨λb u q n _ _=>k b u (hb b n) q,λb u q n _ _=>⟨u.slots,k b u (hb b n) q⟩,λb u q n _=>by rw[cX (hx b n)];exact n,λb u q _=>?_,
  λb xs q=>by rw[cX (hm b _ q λz=>z)];exact q,λb u xs q=>by rw[cX (hm b _ q λz=>z)];exact q,λb ps q=>⟨#[],by rw[cX (hm b _ q λz=>z),q];simp⟩⟩
 by_cases yP:b=e
 ·subst yP;exact Cm
 ·exact⟨u,k b u yP q⟩
end
noncomputable def J8(h:Heap)(H:Hp):List Addr:=(List.range h.objs.size).filter λa=>(H a).isSome
noncomputable def kJ(h:Heap)(H:Hp):Heap:=PySem.W.hideAll h (J8 h H)
theorem zf9(h:Heap)(H:Hp):(kJ h H).objs.size=h.objs.size:=PySem.W.hideAll_size _ _
theorem zg8{h:Heap}{H:Hp}{b:Addr}{o:Obj}(e:h.get? b=some o)(n:H b=none):(kJ h H).get? b=some o:=
 PySem.W.hideAll_get _ e λhm=>by
  have q:(H b).isSome=true:=(j_.mp hm).2;rw[n] at q;simp at q
theorem zjb{h:Heap}{H:Hp}{b:Addr}{o:Obj}(e:(kJ h H).get? b=some o):h.get? b=some o/\H b=none:=by
 have e':h.get? b=some o:=PySem.W.of_hideAll (J8 h H) e;refine⟨e',?_⟩;cases q:H b with
 |none=>rfl
 |some x=>
  have hm:b∈J8 h H:=j_.mpr ⟨yF.mpr (bV e'),by simp[q]⟩;have z:(kJ h H).get? b=none:=PySem.W.hideAll_none (J8 h H) hm;rw[z] at e;cases e
structure Mod(K:W.Frag)(mg:Str->Option Value)(base:Heap):Prop where
 wG:K.In base
 glob:base.Ns mainGlobals mg
 blt:∃mb,base.Ns builtinsNs mb/\∀x:Str,x≠"__name__"->mb x=bootBuiltins x
 nolimit:base.NoLimit
structure Cx where
 prog:Program
 w:World
 K:W.Frag
 mg:Str->Option Value
 base:Heap
 A:Around
 N:List Str
 s₀:Shared
 H₀:Hp
 env:Env
 outer:List Env
 stack:List Env
 ex:List Addr
 fn:Str->Bool
 aj:Bool
 pn:List (Addr×Obj)
 xe:Value->Shared->Prop
noncomputable def frs(l:List Env):List Addr:=l.filterMap (·.frame)
noncomputable abbrev Cx.fs(X:Cx):List Addr:=frs X.outer
def NK(sc:Scope)(x:Str):Prop:=sc.names.lookup x=some .local\/sc.names.lookup x=some .cell\/sc.names.lookup x=some .free
def Loc(sc:Scope)(x:Str):Prop:=sc.names.lookup x=some .local\/sc.names.lookup x=some .cell
def Look(env:Env)(h:Heap)(m:Str->Option Value)(x:Str)(u:Value):Prop:=
 (env.kindOf x=some .local/\m x=some u)\/((env.kindOf x=some .cell\/env.kindOf x=some .free)/\∃c,env.cells.lookup x=some c/\h.IsCell c (some u))
structure Cx.Ok(X:Cx):Prop where
 mod:Mod X.K X.mg X.base
 kind:X.env.scope.kind=.function
 glob:X.env.globals=mainGlobals
 blt:X.env.builtins=builtinsNs
 above:X.s₀.heap.objs.size<=X.env.locals
 inj:∀x y c,X.env.cells.lookup x=some c->X.env.cells.lookup y=some c->x=y
 has:∀x,(X.env.kindOf x=some .cell\/X.env.kindOf x=some .free)->∃c,X.env.cells.lookup x=some c
 cab:∀x c,X.fn x=true->X.env.cells.lookup x=some c->X.s₀.heap.objs.size<=c
 hd:X.aj=true->X.A.handled=none
 frames:X.A.frames=some X.stack
 stk:X.stack=X.outer\/(X.stack=X.env::X.outer/\X.env.frame=some X.env.locals)
 exf:∀b∈X.ex,b≠X.env.locals/\∀x c,X.env.cells.lookup x=some c->c≠b
 bs:∀b o,X.base.get? b=some o->X.s₀.heap.get? b=some o/\X.H₀ b=none
 yQ:X.base.objs.size<=X.s₀.heap.objs.size
 yR:∀b o,X.base.get? b=some o->b∉X.ex
 Et:∀b∈X.ex,b∉X.fs
 jL:X.s₀.heap.FunFrames X.base X.outer
 Eu:∀b∈X.fs,X.H₀ b=none
structure Inv(X:Cx)(ao:List (Addr×Obj))(Z:List (Option V))(H:Hp)(s:Shared):Prop where
 ok:X.Ok
 os:s.os=X.s₀.os
 bare:AllBare s.gens
 base:Un X.fs X.ex X.H₀ H X.s₀.heap s.heap
 loc:∃m,s.heap.Ns X.env.locals m/\∀(i:Nat) (x:Str) (v:V),X.N[i]?=some x->Z[i]?=some (some v)->NK X.env.scope x->∃u,RelV v u/\Look X.env s.heap m x u
 cell:∀x c,X.env.cells.lookup x=some c->∃v,s.heap.IsCell c v
 free:H X.env.locals=none
 iJ:∀x c,X.env.cells.lookup x=some c->H c=none
 pin:∀p∈X.pn++ao,s.heap.get? p.1=some p.2/\H p.1=none/\p.1≠X.env.locals/\p.1∉X.fs/\∀v,p.2.data≠.cell v
 hok:g_ X.prog X.w H s.heap
 len:Z.length=X.N.length
section
variable {X:Cx}{ao:List (Addr×Obj)}{Z:List (Option V)}{H H':Hp}{s:Shared}{h':Heap}
theorem Cx.Ok.NP(ok:X.Ok){b:Addr}{o:Obj}(e:X.base.get? b=some o):b∉X.fs:=λhb=>by
 have:=(ok.jL.mem hb).1;rw[e] at this;cases this
theorem Inv.bs(I:Inv X ao Z H s):∀b o,X.base.get? b=some o->s.heap.get? b=some o/\H b=none:=λb o e=>
 ⟨I.base.keep b o (I.ok.bs b o e).1 (I.ok.bs b o e).2 (I.ok.NP e) (I.ok.yR b o e),I.base.free b o (I.ok.bs b o e).1 (I.ok.bs b o e).2 (I.ok.yR b o e)⟩
theorem Inv.bk(I:Inv X ao Z H s):∀b o,X.base.get? b=some o->s.heap.get? b=some o:=λb o e=>(I.bs b o e).1
theorem Inv.mod(I:Inv X ao Z H s):Mod X.K X.mg X.base:=I.ok.mod
theorem Inv.nJ(I:Inv X ao Z H s):X.K.In s.heap:=I.ok.mod.wG.keeps I.bk
theorem Inv.lt(I:Inv X ao Z H s):X.env.locals<s.heap.objs.size:=let ⟨_,hn,_⟩:=I.loc;hn.lt
theorem Inv.sz(I:Inv X ao Z H s):X.s₀.heap.objs.size<=s.heap.objs.size:=lN I.ok.above (uN I.lt)
theorem Inv.NQ(I:Inv X ao Z H s){a:Addr}(h:s.heap.objs.size<=a):a∉X.fs:=λhb=>by
 obtain⟨_,o,ho,_⟩:=I.ok.jL.mem hb;exact absurd (gU (bV ho) (lN I.sz h)) (lM _)
theorem Inv.yS(I:Inv X ao Z H s):∀x c,X.env.cells.lookup x=some c->c≠X.env.locals:=λx c e z=>by
 obtain⟨v,o,ho,hd⟩:=I.cell x c e;obtain⟨m,⟨o',es,ep,ho',Ew,_⟩,_⟩:=I.loc;rw[z,ho'] at ho;cases ho;rw[Ew] at hd;cases hd
theorem Inv.jL(I:Inv X ao Z H s):s.heap.FunFrames X.base X.outer:=by
 have all:∀(l:List Env),(∀b∈frs l,b∈X.fs)->X.s₀.heap.FunFrames X.base l->s.heap.FunFrames X.base l:=by
  intro l
  induction l with
  |nil=>intro _ _;trivial
  |cons env r ih=>
   intro hs hl;obtain⟨hk,⟨L,o,hf,hn,ho,hd⟩,hr⟩:=hl;have hL:L∈X.fs:=hs L (by unfold frs;rw[yt,hf];exact lV);obtain⟨sl,e⟩:=I.base.slot L o ho (I.ok.Eu L hL) hL λz=>I.ok.Et L z hL;exact⟨hk,⟨L,_,hf,hn,e,hd⟩,ih (λb hb=>hs b (by unfold frs;rw[yt,hf];exact iI _ hb)) hr⟩
 exact all X.outer (λ_ hb=>hb) I.ok.jL
theorem Inv.stack(I:Inv X ao Z H s):s.heap.FunFrames X.base X.stack:=by
 rcases I.ok.stk with e|⟨e,hf⟩
 ·rw[e];exact I.jL
 ·rw[e];obtain⟨m,hn,_⟩:=I.loc;refine .cons (by rw[I.ok.kind];decide) hf hn ?_ I.jL;exact Dy (lN I.ok.yQ I.ok.above)
theorem Inv.jr(I:Inv X ao Z H s):∀b∈frs X.stack,b∈X.env.locals::X.fs:=λb hb=>by
 rcases I.ok.stk with e|⟨e,hf⟩
 ·rw[e] at hb;exact iI _ hb
 ·rw[e] at hb;unfold frs at hb;rw[yt,hf] at hb;exact hb
theorem Inv.kO(I:Inv X ao Z H s):∀b∈frs X.stack,H b=none:=λb hb=>by
 rcases gG.mp (I.jr b hb) with e|hb
 ·rw[e];exact I.free
 ·obtain⟨_,o,ho,_⟩:=I.ok.jL.mem hb;exact I.base.free b o ho (I.ok.Eu b hb) λz=>I.ok.Et b z hb
theorem Inv.step{g':Array GenState}{t':Nat}{d':Drawn}{ch:List Addr}(I:Inv X ao Z H s)
  (uy:∀b∈ch,(b∈X.ex\/X.s₀.heap.get? b=none)/\b≠X.env.locals/\(∀x c,X.env.cells.lookup x=some c->c≠b)/\∀p∈X.pn++ao,p.1≠b)
  (keep:∀b o,b≠X.env.locals->b∉X.fs->b∉ch->s.heap.get? b=some o->H b=none->h'.get? b=some o)
  (slot:∀b o,b≠X.env.locals->b∈X.fs->b∉ch->s.heap.get? b=some o->H b=none->∃sl,h'.get? b=some {o with slots:=sl}) (free:∀b o,b∉ch->s.heap.get? b=some o->H b=none->H' b=none)
  (there:∀b o,b∉ch->s.heap.get? b=some o->∃o',h'.get? b=some o')
  (tups:∀b xs,H b=some (.tup xs)->H' b=some (.tup xs)) (jK:∀b o u,H b=some (.ux o u)->H' b=some (.ux o u)) (kE:∀b ps,H b=some (.yO ps)->∃more,H' b=some (.yO (ps++more)))
  (ns:∀m,s.heap.Ns X.env.locals m->h'.Ns X.env.locals m) (hok:g_ X.prog X.w H' h') (hg:AllBare g') :
  Inv X ao Z H' {s with heap:=h',gens:=g',drawn:=d',toks:=t'}:=by
 have Vx:∀b o,X.s₀.heap.get? b=some o->b≠X.env.locals:=λb o e=>dM (gU (bV e) I.ok.above);have J9:∀b o,X.s₀.heap.get? b=some o->b∉X.ex->b∉ch:=λb o e hx hb=>by
  rcases(uy b hb).1 with z|z
  ·exact hx z
  ·rw[e] at z;cases z
 have cellK:∀x c,X.env.cells.lookup x=some c->∀v,s.heap.IsCell c v->h'.IsCell c v:=λx c e v hx=>wJ hx λo ho hd=>by
  have Ey:c∉ch:=λz=>(uy c z).2.2.1 x c e rfl;by_cases hc:c∈X.fs
  ·obtain⟨sl,q⟩:=slot c o (I.yS x c e) hc Ey ho (I.iJ x c e);exact⟨_,q,hd⟩
  ·exact⟨o,keep c o (I.yS x c e) hc Ey ho (I.iJ x c e),hd⟩
 refine⟨I.ok,I.os,hg,⟨λb o e n hb hx=>?_,λb o e n hb hx=>?_,λb o e n hx=>?_,λb o e hx=>?_,λb xs e=>tups b xs (I.base.tups b xs e),λb o xs e=>jK b o xs (I.base.jK b o xs e),λb ps e=>?_⟩,?_,λx c e=>?_,?_,λx c e=>?_,λp hp=>?_,hok,I.len⟩
 ·exact keep b o (Vx b o e) hb (J9 b o e hx) (I.base.keep b o e n hb hx) (I.base.free b o e n hx)
 ·obtain⟨sl,e1⟩:=I.base.slot b o e n hb hx;obtain⟨sl',e2⟩:=slot b _ (Vx b o e) hb (J9 b o e hx) e1 (I.base.free b o e n hx);exact⟨sl',e2⟩
 ·obtain⟨o',e1⟩:=I.base.there b o e hx;exact free b o' (J9 b o e hx) e1 (I.base.free b o e n hx)
 ·obtain⟨o',e1⟩:=I.base.there b o e hx;exact there b o' (J9 b o e hx) e1
 ·obtain⟨m1,e1⟩:=I.base.kE b ps e;obtain⟨m2,e2⟩:=kE b _ e1;exact⟨m1++m2,by rw[e2,Array.append_assoc]⟩
 ·obtain⟨m,hn,hl⟩:=I.loc;refine⟨m,ns m hn,λi x v e1 e2 e3=>?_⟩;obtain⟨u,r,l⟩:=hl i x v e1 e2 e3;refine⟨u,r,?_⟩;rcases l with l|⟨k,c,e,z⟩
  ·exact .inl l
  ·exact .inr ⟨k,c,e,cellK x c e _ z⟩
 ·obtain⟨v,z⟩:=I.cell x c e;exact⟨v,cellK x c e v z⟩
 ·obtain⟨m,⟨o,_,_,ho,_⟩,_⟩:=I.loc;exact free _ o (λz=>(uy _ z).2.1 rfl) ho I.free
 ·obtain⟨v,o,ho,hd⟩:=I.cell x c e;exact free c o (λz=>(uy c z).2.2.1 x c e rfl) ho (I.iJ x c e)
 ·obtain⟨e,n,ne,nf,d⟩:=I.pin p hp;have Ey:p.1∉ch:=λz=>(uy p.1 z).2.2.2 p hp rfl;exact⟨keep p.1 p.2 ne nf Ey e n,free p.1 p.2 Ey e n,ne,nf,d⟩
theorem Inv.un{t':Nat}(I:Inv X ao Z H s)(u:Un X.fs [] H H' s.heap h')(hok:g_ X.prog X.w H' h'):Inv X ao Z H' {s with heap:=h',toks:=t'}:=by
 obtain⟨m,⟨o,es,ep,ho,r⟩,_⟩:=id I.loc;obtain⟨sl,hL⟩:=u.any ho I.free Qi;exact I.step (g':=s.gens) (d':=s.drawn) (ch:=[]) (λ_ z=>nomatch z) (λb o _ hb _ e n=>u.keep b o e n hb Qi) (λb o _ hb _ e n=>u.slot b o e n hb Qi) (λb o _ e n=>u.free b o e n Qi) (λb o _ e=>u.there b o e Qi) u.tups u.jK u.kE (λm' hm=>by
  obtain⟨o',es',ep',ho',r'⟩:=hm;rw[ho] at ho';cases ho';exact⟨_,es',ep',hL,r'⟩) hok I.bare
theorem Inv.call{g':Array GenState}{t':Nat}{d':Drawn}{ch:List Addr}(I:Inv X ao Z H s)(u:Un (frs X.stack) ch H H' s.heap h')(hok:g_ X.prog X.w H' h')(hg:AllBare g')
  (uy:∀b∈ch,(b∈X.ex\/X.s₀.heap.get? b=none)/\b≠X.env.locals/\(∀x c,X.env.cells.lookup x=some c->c≠b)/\∀p∈X.pn++ao,p.1≠b) :
  Inv X ao Z H' {s with heap:=h',gens:=g',drawn:=d',toks:=t'}:=by
 obtain⟨m,⟨o,es,ep,ho,r⟩,_⟩:=id I.loc;obtain⟨sl,hL⟩:=u.any ho I.free λz=>(uy _ z).2.1 rfl;exact I.step (ch:=ch) uy (λb o hL hb hc e n=>u.keep b o e n (λz=>(gG.mp (I.jr b z)).elim hL hb) hc) (λb o _ _ hc e n=>u.any e n hc) (λb o hc e n=>u.free b o e n hc) (λb o hc e=>u.there b o e hc) u.tups u.jK u.kE (λm' hm=>by
  obtain⟨o',es',ep',ho',r'⟩:=hm;rw[ho] at ho';cases ho';exact⟨_,es',ep',hL,r'⟩) hok hg
theorem Inv.turned{t':Nat}{it:Addr}(I:Inv X ao Z H s)(k:∀b o,b≠it->s.heap.get? b=some o->h'.get? b=some o)(hn:H it=none)(hL:it≠X.env.locals)
  (h1:it∈X.ex\/X.s₀.heap.objs.size<=it) (h2:∀x c,X.env.cells.lookup x=some c->c≠it) (h3:∀p∈X.pn++ao,p.1≠it):Inv X ao Z H {s with heap:=h',toks:=t'}:=by
 have wL:∀b u,H b=some u->b≠it:=λb u e z=>by rw[z,hn] at e;cases e
 refine I.step (g':=s.gens) (d':=s.drawn) (ch:=[it]) (λb hb=>?_) (λb o _ _ hc e _=>k b o (λz=>hc (by simp[z])) e) (λb o _ _ hc e _=>⟨o.slots,k b o (λz=>hc (by simp[z])) e⟩) (λ_ _ _ _ n=>n)
  (λb o hc e=>⟨o,k b o (λz=>hc (by simp[z])) e⟩) (λ_ _ e=>e) (λ_ _ _ e=>e) (λb ps e=>⟨#[],by rw[e];simp⟩) (λm hm=>?_) (λb u e=>?_) I.bare
 ·have e:b=it:=by simpa using hb
  subst e;exact⟨h1.imp id λz=>Dy z,hL,h2,h3⟩
 ·obtain⟨o,es,ep,ho,r⟩:=hm;exact⟨o,es,ep,k _ o (Ne.symm hL) ho,r⟩
 ·refine(I.hok b u e).stay (λc v hc q=>k c v ?_ q) (λ_ q=>q) λ_ _ q=>q;rcases hc with z|z
  ·rw[z];exact wL b u e
  ·exact wL c _ z
theorem Inv.tok(I:Inv X ao Z H s)(t:Nat):Inv X ao Z H {s with toks:=t}:=I.un (h':=s.heap) (t':=t) Un.refl I.hok
theorem Inv.kept{t':Nat}(I:Inv X ao Z H s)(k:∀b u,s.heap.get? b=some u->h'.get? b=some u):Inv X ao Z H {s with heap:=h',toks:=t'}:=I.un (Un.kept k) (I.hok.kept k)
theorem Inv.laid{a:Addr}{o:HO}{t':Nat}(I:Inv X ao Z H s)(k:∀b u,s.heap.get? b=some u->h'.get? b=some u)(hp:s.heap.objs.size<=a)(new:bO X.prog X.w (upd H a o) h' a o) :
  Inv X ao Z (upd H a o) {s with heap:=h',toks:=t'}:=I.un (Un.laid k hp (I.hok.fresh hp)) (I.hok.laid k hp new)
theorem Inv.write{x e:Addr}{o:HO}{t':Nat}(I:Inv X ao Z H s)(mu:J7 (H x))(he:e=x\/H e=some (.own x))(k:∀b u,b≠e->s.heap.get? b=some u->h'.get? b=some u)(Cm:∃u,h'.get? e=some u)
  (new:bO X.prog X.w (upd H x o) h' x o):Inv X ao Z (upd H x o) {s with heap:=h',toks:=t'}:=I.un (Un.write mu he k Cm) (I.hok.write mu he k Cm new)
theorem Inv.kW{iK:List (Addr×Obj)}(I:Inv X ao Z H s)(h:∀p∈iK,s.heap.get? p.1=some p.2/\H p.1=none/\p.1≠X.env.locals/\p.1∉X.fs/\∀v,p.2.data≠.cell v):Inv X iK Z H s:=
 ⟨I.ok,I.os,I.bare,I.base,I.loc,I.cell,I.free,I.iJ,λp hp=>(m5.mp hp).elim (λz=>I.pin p (M8 _ z)) (h p),I.hok,I.len⟩
theorem Vy{N:List Str}(hN:N.Nodup){i j:Nat}{x:Str}(a:N[i]?=some x)(b:N[j]?=some x):i=j:=by
 obtain⟨h1,e1⟩:=gD.mp a;obtain⟨h2,e2⟩:=gD.mp b;exact(List.getElem_inj hN).mp (e1.trans e2.symm)
theorem NT{M:Model}{A:Around}{E:Value->Shared->Prop}{i:Nat}{x:Str}{v:V}{u:Value}{Q:Unit->Shared->Prop}(I:Inv X ao Z H s)(hN:X.N.Nodup)(hi:X.N[i]?=some x)(hx:Loc X.env.scope x)(r:RelV v u)
  (h:∀s',Inv X ao (Z.set i (some v)) H s'->(∃a,Heap.SameBut a s.heap s'.heap/\(a=X.env.locals\/X.env.cells.lookup x=some a))->Q () s') (hf:X.fn x=true\/X.env.scope.names.lookup x=some .local:=by first|exact .inl rfl|exact .inr rfl|assumption):wpAny M A (storeName X.env x u) Q E s:=by
 obtain⟨m,hn,hl⟩:=id I.loc;have NZ:(X.env.scope.kind==.class||(X.env.scope.kind==.module&&X.env.locals != X.env.globals))=false:=by rw[I.ok.kind];rfl
 have Vz:i<Z.length:=by rw[I.len];exact(gD.mp hi).1
 have yS:=I.yS;have tracked:∀{a:Addr} {h':Heap},(∃o,s.heap.get? a=some o/\H a=none)->Heap.SameBut a s.heap h'->g_ X.prog X.w H h':=λ{a h'} ha hs b ob e=>by
  obtain⟨_,_,oX⟩:=ha;refine(I.hok b ob e).stay (λc w' hc q=>(hs.2 c ?_).trans q) (λ_ q=>q) λ_ _ q=>q;rintro rfl;rcases hc with rfl|hc
  ·rw[oX] at e;cases e
  ·rw[oX] at hc;cases hc
 rcases hx with hk|hk
 ·refine wpAny_storeName_local hk hn (λh' hn' hs=>?_) NZ;obtain⟨oL,_,_,J_,_⟩:=id hn;refine h _ ⟨I.ok,I.os,I.bare,⟨λb o e n hb hx=>?_,λb o e n hb hx=>?_,I.base.free,λb o e hx=>?_,I.base.tups,I.base.jK,I.base.kE⟩,⟨_,hn',λj y v' e1 e2 e3=>?_⟩,λy c e=>?_,I.free,I.iJ,λp hp=>?_,tracked ⟨oL,J_,I.free⟩ hs,by simpa using I.len⟩ ⟨_,hs,.inl rfl⟩
  ·exact(hs.2 b (dM (gU (bV e) I.ok.above))).trans (I.base.keep b o e n hb hx)
  ·obtain⟨sl,e1⟩:=I.base.slot b o e n hb hx;exact⟨sl,(hs.2 b (dM (gU (bV e) I.ok.above))).trans e1⟩
  ·obtain⟨o',e1⟩:=I.base.there b o e hx;exact⟨o',(hs.2 b (dM (gU (bV e) I.ok.above))).trans e1⟩
  ·by_cases hj:j=i
   ·subst hj;rw[hi] at e1;cases e1;rw[Bq Vz] at e2;cases e2;exact⟨u,r,.inl ⟨hk,by simp⟩⟩
   ·rw[qW (Ne.symm hj)] at e2;obtain⟨u',r',q⟩:=hl j y v' e1 e2 e3;refine⟨u',r',?_⟩;rcases q with ⟨k,e⟩|⟨k,c,e,z⟩
    ·refine .inl ⟨k,?_⟩;have:y≠x:=λe=>hj (Vy hN e1 (e▸hi));simp[this,e]
    ·exact .inr ⟨k,c,e,z.sameBut hs (yS y c e)⟩
  ·obtain⟨w',z⟩:=I.cell y c e;exact⟨w',z.sameBut hs (yS y c e)⟩
  ·obtain⟨e,n,ne,nf,d⟩:=I.pin p hp;exact⟨(hs.2 p.1 ne).trans e,n,ne,nf,d⟩
 ·have N6:X.fn x=true:=by
   rcases hf with z|z
   ·exact z
   ·rw[z] at hk;cases hk
  obtain⟨c,hc⟩:=I.ok.has x (.inl hk);obtain⟨w',z⟩:=I.cell x c hc;refine wpAny_storeName_cell I.ok.kind hk hc z (λh' jM hs=>?_);obtain⟨oc,Ka,N7⟩:=id z;refine h {s with heap:=h'} ⟨I.ok,I.os,I.bare,⟨λb o e n hb hx=>?_,λb o e n hb hx=>?_,I.base.free,λb o e hx=>?_,I.base.tups,I.base.jK,I.base.kE⟩,⟨m,hn.sameBut hs (Ne.symm (yS x c hc)),λj y v' e1 e2 e3=>?_⟩,λy c' e=>?_,I.free,I.iJ,λp hp=>?_,tracked ⟨oc,Ka,I.iJ x c hc⟩ hs,by simpa using I.len⟩ ⟨c,hs,.inr hc⟩
  ·exact(hs.2 b (dM (gU (bV e) (I.ok.cab x c N6 hc)))).trans (I.base.keep b o e n hb hx)
  ·obtain⟨sl,e1⟩:=I.base.slot b o e n hb hx;exact⟨sl,(hs.2 b (dM (gU (bV e) (I.ok.cab x c N6 hc)))).trans e1⟩
  ·obtain⟨o',e1⟩:=I.base.there b o e hx;exact⟨o',(hs.2 b (dM (gU (bV e) (I.ok.cab x c N6 hc)))).trans e1⟩
  ·by_cases hj:j=i
   ·subst hj;rw[hi] at e1;cases e1;rw[Bq Vz] at e2;cases e2;exact⟨u,r,.inr ⟨.inl hk,c,hc,jM⟩⟩
   ·rw[qW (Ne.symm hj)] at e2;obtain⟨u',r',q⟩:=hl j y v' e1 e2 e3;refine⟨u',r',?_⟩;rcases q with q|⟨k,c',e,z'⟩
    ·exact .inl q
    ·refine .inr ⟨k,c',e,z'.sameBut hs ?_⟩;rintro rfl;exact hj (Vy hN e1 (I.ok.inj _ _ _ e hc▸hi))
  ·by_cases VB:c'=c
   ·subst VB;exact⟨_,jM⟩
   ·obtain⟨w2,z2⟩:=I.cell y c' e;exact⟨w2,z2.sameBut hs VB⟩
  ·obtain⟨e,n,ne,nf,d⟩:=I.pin p hp;refine⟨(hs.2 p.1 ?_).trans e,n,ne,nf,d⟩;intro q;rw[q,Ka] at e;have q':oc=p.2:=dJ e;exact d w' (by rw[<-q'];exact N7)
theorem Kc{M:Model}{A:Around}{E:Value->Shared->Prop}{i:Nat}{x:Str}{v:V}{u:Value}{Q:Unit->Shared->Prop}(I:Inv X ao Z H s)(hN:X.N.Nodup)(hi:X.N[i]?=some x)(hx:Loc X.env.scope x)(r:RelV v u)
  (h:∀s',Inv X ao (Z.set i (some v)) H s'->Q () s') (hf:X.fn x=true\/X.env.scope.names.lookup x=some .local:=by first|exact .inl rfl|exact .inr rfl|assumption):wpAny M A (storeName X.env x u) Q E s:=
 NT I hN hi hx r (λs' I' _=>h s' I') hf
theorem Inv.call'{s':Shared}{ch:List Addr}(I:Inv X ao Z H s)(ho:s'.os=s.os)(u:Un (frs X.stack) ch H H' s.heap s'.heap)(hok:g_ X.prog X.w H' s'.heap)(hg:AllBare s'.gens)
  (uy:∀b∈ch,(b∈X.ex\/X.s₀.heap.get? b=none)/\b≠X.env.locals/\(∀x c,X.env.cells.lookup x=some c->c≠b)/\∀p∈X.pn++ao,p.1≠b):Inv X ao Z H' s':=by
 obtain⟨h',g',d',t',o'⟩:=s';have e:o'=s.os:=ho;subst e;exact I.call (g':=g') (t':=t') (d':=d') u hok hg uy
end
noncomputable abbrev XK:=Value->Option Addr->Hp->Prop
noncomputable abbrev St:=List (Option V)
noncomputable abbrev VK:=V->Hp->Prop
noncomputable abbrev TE:=St->Hp->VK->Prop
noncomputable abbrev TT:=St->Hp->(Bool->Hp->Prop)->Prop
noncomputable abbrev TA:=St->Hp->(List V->Hp->Prop)->Prop
structure Ends where
 nx:St->Hp->Prop
 rt:VK
 bk:St->Hp->Prop:=λ_ _=>False
 ct:St->Hp->Prop:=λ_ _=>False
noncomputable abbrev TS:=Ends->St->Hp->Prop
def EP(X:Cx)(ao:List (Addr×Obj))(Z:St)(Q:VK)(u:Value)(s':Shared):Prop:=∃v H',Inv X ao Z H' s'/\RelV v u/\Q v H'
def TP(X:Cx)(ao:List (Addr×Obj))(Z:St)(Q:Bool->Hp->Prop)(b:Bool)(s':Shared):Prop:=∃H',Inv X ao Z H' s'/\Q b H'
def AP(X:Cx)(ao:List (Addr×Obj))(Z:St)(Q:List V->Hp->Prop)(us:List Value)(s':Shared):Prop:=∃vs H',Inv X ao Z H' s'/\Vals vs us/\Q vs H'
def SP(X:Cx)(ao:List (Addr×Obj))(D:Ends)(f:Flow)(s':Shared):Prop:=
 match f with
 |.next=>∃Z' H',Inv X ao Z' H' s'/\D.nx Z' H'
 |.brk=>∃Z' H',Inv X ao Z' H' s'/\D.bk Z' H'
 |.cont=>∃Z' H',Inv X ao Z' H' s'/\D.ct Z' H'
 |.ret u=>∃v Z' H',Inv X ao Z' H' s'/\RelV v u/\D.rt v H'
def PE(X:Cx)(e:Expr)(t:TE):Prop:=
 ∀(ao:List (Addr×Obj)) (s:Shared) (Z:St) (H:Hp) (Q:VK),Inv X ao Z H s->t Z H Q->wpAny (model X.prog X.w) X.A (eval e X.env) (EP X ao Z Q) X.xe s
def PT(X:Cx)(e:Expr)(t:TT):Prop:=
 ∀(ao:List (Addr×Obj)) (s:Shared) (Z:St) (H:Hp) (Q:Bool->Hp->Prop),Inv X ao Z H s->t Z H Q->wpAny (model X.prog X.w) X.A (isTrue e X.env (eval e X.env)) (TP X ao Z Q) X.xe s
def PW(X:Cx)(e:Expr)(t:TT):Prop:=
 ∀(whole:Sem Value) (ao:List (Addr×Obj)) (s:Shared) (Z:St) (H:Hp) (Q:Bool->Hp->Prop),Inv X ao Z H s->t Z H Q->wpAny (model X.prog X.w) X.A (isTrue e X.env whole) (TP X ao Z Q) X.xe s
theorem Kad{X:Cx}{e:Expr}{t:TT}(h:PW X e t):PT X e t:=h _
def PA(X:Cx)(es:List Expr)(t:TA):Prop:=
 ∀(pos:Pos) (ao:List (Addr×Obj)) (s:Shared) (Z:St) (H:Hp) (Q:List V->Hp->Prop),Inv X ao Z H s->t Z H Q->wpAny (model X.prog X.w) X.A (spliced (backTo pos (starEach es X.env))) (AP X ao Z Q) X.xe s
def PS(X:Cx)(st:Stmt)(t:TS):Prop:=
 ∀(ao:List (Addr×Obj)) (s:Shared) (Z:St) (H:Hp) (D:Ends),Inv X ao Z H s->t D Z H->wpAny (model X.prog X.w) X.A (exec st X.env) (SP X ao D) X.xe s
def oY(X:Cx)(st:List Stmt)(t:TS):Prop:=
 ∀(ao:List (Addr×Obj)) (s:Shared) (Z:St) (H:Hp) (D:Ends),Inv X ao Z H s->t D Z H->wpAny (model X.prog X.w) X.A (execs st X.env) (SP X ao D) X.xe s
theorem bw{α:Type}{t:Sem α}{Q Q':α->Shared->Prop}{M:Model}{A:Around}{E:Value->Shared->Prop}{s:Shared}(h:wpAny M A t Q E s)(hQ:∀a s,Q a s->Q' a s):wpAny M A t Q' E s:=g8 h hQ λ_ _ x=>x
section
variable {X:Cx}
noncomputable def N8(i:Nat):TE:=λZ H Q=>∃v,Z[i]?=some (some v)/\Q v H
noncomputable def tC(v:V):TE:=λ_ H Q=>Q v H
theorem VD{i:Nat}{x:Str}{pos:Pos}(hN:X.N[i]?=some x)(hv:NK X.env.scope x)(hd:(x==("__debug__" : Str))=false:=by decide)(jN:(x==("__classdict__" : Str))=false:=by decide):PE X (.Name x pos) (N8 i):=by
 intro ao s Z H Q I h;obtain⟨v,e,h⟩:=h;obtain⟨m,hn,hl⟩:=I.loc;obtain⟨u,r,l⟩:=hl i x v hN e hv;have fin:EP X ao Z Q u s:=⟨v,H,I,r,h⟩;rcases l with ⟨hk,hm⟩|⟨hk,c,hc,wM⟩
 ·exact wpAny_Name (wpAny_loadName_local I.ok.kind hk hn hm fin) hd
 ·rcases hk with hk|hk
  ·exact wpAny_Name (wpAny_loadName_cell I.ok.kind hk hc wM fin) hd
  ·exact wpAny_Name (wpAny_loadName_free I.ok.kind hk hc wM fin jN) hd
theorem zkx{i j pos}:PE X (.Constant (.int i) j pos) (tC (.int i)):=λ_ _ _ H _ I h=>wpAny_Constant_int ⟨.int i,H,I.tok _,⟨_,rfl⟩,h⟩
theorem zlH{b j pos}:PE X (.Constant (.bool b) j pos) (tC (.bl b)):=λ_ _ _ H _ I h=>Constant_bool ⟨.bl b,H,I,rfl,h⟩
theorem zkv{j pos}:PE X (.Constant .none j pos) (tC .non):=λ_ _ _ H _ I h=>Constant_none ⟨.non,H,I,rfl,h⟩
def Gl(X:Cx)(x:Str):Prop:=X.env.kindOf x=some .globalImplicit
theorem N_{E:Value->Shared->Prop}{ao:List (Addr×Obj)}{s:Shared}{Z:St}{H:Hp}{x:Str}{u:Value}{pos:Pos}{Q:Value->Shared->Prop}(I:Inv X ao Z H s)(hg:Gl X x)(hm:X.mg x=some u)(h:Q u s)
  (hd:(x==("__debug__" : Str))=false:=by decide):wpAny (model X.prog X.w) X.A (eval (.Name x pos) X.env) Q E s:=
 Calls.Name_function_global I.ok.kind hg (Calls.loadGlobal_global (by rw[I.ok.glob];exact I.mod.glob.keeps I.bk) hm h) hd
theorem wN{E:Value->Shared->Prop}{ao:List (Addr×Obj)}{s:Shared}{Z:St}{H:Hp}{x:Str}{u:Value}{pos:Pos}{Q:Value->Shared->Prop}(I:Inv X ao Z H s)(hg:Gl X x)(hm:X.mg x=none)(hv:bootBuiltins x=some u)(h:Q u s)
  (hn:x≠"__name__":=by decide) (hd:(x==("__debug__" : Str))=false:=by decide):wpAny (model X.prog X.w) X.A (eval (.Name x pos) X.env) Q E s:=by
 obtain⟨mb,h1,h2⟩:=I.mod.blt;exact Calls.Name_function_global I.ok.kind hg (Calls.loadGlobal_builtin (by rw[I.ok.glob];exact I.mod.glob.keeps I.bk) hm (by rw[I.ok.blt];exact h1.keeps I.bk) ((h2 x hn).trans hv) h) hd
theorem ziv{x:Str}{v:V}{u:Value}{pos:Pos}(hg:Gl X x)(hm:X.mg x=some u)(r:RelV v u)(hd:(x==("__debug__" : Str))=false:=by decide):PE X (.Name x pos) (tC v):=
 λ_ _ _ H _ I h=>N_ I hg hm ⟨v,H,I,r,h⟩ hd
variable {a b:Expr}{ta tb:TE}{pos:Pos}
def PC(X:Cx)(op:CmpOp)(a b:Expr)(t:TE):Prop:=
 ∀(ao:List (Addr×Obj)) (s:Shared) (Z:St) (H:Hp) (Q:VK),Inv X ao Z H s->t Z H Q->
  wpAny (model X.prog X.w) X.A (eval a X.env) (λv s₁=>wpAny (model X.prog X.w) X.A (eval b X.env) (λu s₂=>wpAny (model X.prog X.w) X.A (compareOp op v u) (EP X ao Z Q) X.xe s₂) X.xe s₁) X.xe s
theorem rB(b:Expr){op:CmpOp}(h:op≠.In)(h2:op≠.NotIn):behindInMarks op b=false:=by
 have e1:(op==CmpOp.In)=false:=by cases op<;>first|rfl|exact absurd rfl h
 have e2:(op==CmpOp.NotIn)=false:=by cases op<;>first|rfl|exact absurd rfl h2
 cases b<;>simp[behindInMarks,e1,e2]
noncomputable def Oa(ta:TE):TE:=λZ H Q=>ta Z H λx H1=>Q (.bl (decide (x=.non))) H1
theorem RelV.rC{x:V}{v:Value}(r:RelV x v):(v==Value.none)=decide (x=.non):=by
 cases x with
 |non=>cases r;rfl
 |bl _=>cases r;rfl
 |int _=>obtain⟨t,rfl⟩:=r;rfl
 |str _=>obtain⟨t,rfl⟩:=r;rfl
 |Ep _=>obtain⟨t,rfl⟩:=r;rfl
 |flt _=>obtain⟨t,rfl⟩:=r;rfl
 |ref _=>cases r;rfl
 |ty _=>cases r;rfl
theorem zkP{j pos'}(ha:PE X a ta):PC X .Is a (.Constant .none j pos') (Oa ta):=by
 intro ao s Z H Q I h;refine bw (ha ao s Z H _ I h) λv s1 hx=>gH hx λx H1 I1 r1 q1=>?_;exact Constant_none (is_none_gen ⟨.bl _,H1,I1,by rw[r1.rC];rfl,q1⟩)
noncomputable def tB(t:TE):TT:=λZ H Q=>t Z H λx H1=>∃c,x=.bl c/\Q c H1
theorem zjS{op:CmpOp}{t:TE}(h:PC X op a b t)(h1:behindInMarks op b=false:=by first|exact rB _ J0 J0|rfl):PE X (.Compare a [op] [b] pos) t:=λao s Z H Q I hw=>wpAny_Compare1 (h ao s Z H Q I hw) h1
theorem zkT{e:Expr}{t:TE}(h:PE X e t)(he:∀whole,isTrue e X.env whole=(do let v <-whole;standAt e.pos;holding [v] (truthy v)):=by intro _;rfl):PT X e (tB t):=by
 intro ao s Z H Q I hw;refine isTrue_plain (bw (h ao s Z H _ I hw) λv s1 hx=>gH hx λx H1 I1 r1 q1=>?_) (he _);obtain⟨d,rfl,q⟩:=q1;cases r1;exact yw ⟨H1,I1,q⟩
variable {tA VF:TT}{rest:List Expr}
noncomputable def tOr(t u:TT):TT:=λZ H Q=>t Z H λc H1=>if c=true then Q true H1 else u Z H1 Q
noncomputable def Ob(t:TT):TT:=λZ H Q=>t Z H λc H1=>Q (!c) H1
theorem zld(ha:PT X a tA):PW X (.BoolOp .Or [a] pos) tA:=by
 intro wh ao s Z H Q I h;refine isTrue_or (bw (ha ao s Z H Q I h) λc s1 e=>?_);cases c with
 |false=>exact isTrue_or_nil e
 |true=>exact e
theorem zlB(ha:PT X a tA)(hb:PW X (.BoolOp .Or (b::rest) pos) VF):PW X (.BoolOp .Or (a::b::rest) pos) (tOr tA VF):=by
 intro wh ao s Z H Q I h;refine isTrue_or (bw (ha ao s Z H _ I h) λc s1 hx=>wJ hx λH1 I1 q1=>?_);cases c with
 |true=>exact⟨H1,I1,q1⟩
 |false=>exact hb wh ao s1 Z H1 Q I1 q1
theorem zj7(ha:PT X a tA):PT X (.UnaryOp .Not a pos) (Ob tA):=by
 intro ao s Z H Q I h;exact isTrue_not (ha ao s Z H (λc H1=>Q (!c) H1) I h)
noncomputable def Ez(ta tb:TE):TE:=λZ H Q=>ta Z H λx H1=>∃c,x=.bl c/\if c=true then tb Z H1 Q else Q (.bl false) H1
noncomputable def EY(ta:TE):TE:=λZ H Q=>ta Z H λx H1=>∃c,x=.bl c/\Q (.bl (!c)) H1
theorem zjR{op}{t:TE}(h:PE X a t):PE X (.BoolOp op [a] pos) t:=λao s Z H Q I hw=>BoolOp_one (h ao s Z H Q I hw)
theorem zkV(ha:PE X a ta)(hb:PE X (.BoolOp .And (b::rest) pos) tb):PE X (.BoolOp .And (a::b::rest) pos) (Ez ta tb):=by
 intro ao s Z H Q I h;refine BoolOp_and (bw (ha ao s Z H _ I h) λv s1 hx=>gH hx λx H1 I1 r1 q1=>?_);obtain⟨c,rfl,q1⟩:=q1;cases r1;refine yw ?_;cases c with
 |true=>exact hb ao s1 Z H1 Q I1 q1
 |false=>exact⟨.bl false,H1,I1,rfl,q1⟩
theorem zjj(ha:PE X a ta):PE X (.UnaryOp .Not a pos) (EY ta):=by
 intro ao s Z H Q I h;refine UnaryOp_ (bw (ha ao s Z H _ I h) λv s1 hx=>gH hx λx H1 I1 r1 q1=>?_);obtain⟨c,rfl,q1⟩:=q1;cases r1;exact not_of (yw ⟨.bl (!c),H1,I1,rfl,q1⟩)
noncomputable def tIf(t:TT)(ta tb:TE):TE:=λZ H Q=>t Z H λc H1=>if c=true then ta Z H1 Q else tb Z H1 Q
theorem zhh{c:Expr}(hc:PT X c tA)(ha:PE X a ta)(hb:PE X b tb):PE X (.IfExp c a b pos) (tIf tA ta tb):=by
 intro ao s Z H Q I h;refine wpAny_IfExp (bw (hc ao s Z H _ I h) λd s1 hx=>wJ hx λH1 I1 q1=>?_);cases d with
 |true=>exact ha ao s1 Z H1 Q I1 q1
 |false=>exact hb ao s1 Z H1 Q I1 q1
end
def eE(K:W.Frag)(H:Hp)(a:Addr)(xs:List V):Prop:=
 Rd H a (.lst xs) \/
  ∃(o:Obj) (its:Array Value) (n:Nat),K.lookup a=some o/\o.cls=.type "list"/\o.dict=none/\o.data=.seq its n/\its.size<=sizeLine/\Vals xs its.toList
def fV(K:W.Frag)(H:Hp)(a:Addr)(xs:List V):Prop:=
 Rd H a (.tup xs) \/
  ∃(o:Obj) (its:Array Value) (n:Nat),K.lookup a=some o/\o.cls=.type "tuple"/\o.dict=none/\o.data=.seq its n/\its.size<=sizeLine/\Vals xs its.toList
noncomputable def Oc:Value->Option V
 |.none=>some .non
 |.bool b=>some (.bl b)
 |.int i _=>some (.int i)
 |.str x _=>some (.str x)
 |.bytes b _=>some (.Ep b)
 |.float b _=>some (.flt b)
 |.ref a=>some (.ref a)
 |.type n=>some (.ty n)
 |_=>none
theorem RelV.abs{x:V}{u:Value}(r:RelV x u):Oc u=some x:=by
 cases x with
 |non=>cases r;rfl
 |bl _=>cases r;rfl
 |int _=>obtain⟨t,rfl⟩:=r;rfl
 |str _=>obtain⟨t,rfl⟩:=r;rfl
 |Ep _=>obtain⟨t,rfl⟩:=r;rfl
 |flt _=>obtain⟨t,rfl⟩:=r;rfl
 |ref _=>cases r;rfl
 |ty _=>cases r;rfl
theorem RelV.inj{x y:V}{u:Value}(r:RelV x u)(q:RelV y u):x=y:=dJ (r.abs.symm.trans q.abs)
theorem Vals.inj{xs ys:List V}{us:List Value}(h:Vals xs us)(h':Vals ys us):xs=ys:=by
 induction h generalizing ys with
 |nil=>cases h';rfl
 |cons r _ ih=>
  cases h' with
  |cons r' t'=>rw[r.inj r',ih t']
section
variable {X:Cx}{ao:List (Addr×Obj)}{Z:St}{H:Hp}{s:Shared}{a:Addr}{xs ys:List V}
theorem eE.of{K:W.Frag}(h:H a=some (.lst xs)):eE K H a xs:=.inl (.inl h)
theorem Inv.list(I:Inv X ao Z H s)(h:eE X.K H a xs):∃its:List Value,Vals xs its/\PlainL s.heap a its.toArray/\xs.length<=sizeLine:=by
 rcases h with h|⟨o,its,n,hk,hc,hd,hs,hz,r⟩
 ·obtain⟨z,its,n,r,e⟩:=h.ok I.hok;exact⟨its,r,⟨_,n,e,rfl,rfl,rfl⟩,z⟩
 ·refine⟨its.toList,r,⟨o,n,I.nJ a o hk,hc,hd,by simpa using hs⟩,?_⟩;have e:=r.length;simp only[yu] at e
  lia
theorem Inv.tuple(I:Inv X ao Z H s)(h:fV X.K H a xs):∃its:List Value,Vals xs its/\IsTup s.heap a its.toArray/\xs.length<=sizeLine:=by
 rcases h with h|⟨o,its,n,hk,hc,_,hs,hz,r⟩
 ·obtain⟨z,its,r,p⟩:=h.ok I.hok;exact⟨its,r,p.tup,z⟩
 ·refine⟨its.toList,r,⟨o,I.nJ a o hk,hc,n,by simpa using hs⟩,?_⟩;have e:=r.length;simp only[yu] at e
  lia
theorem Inv.mj(I:Inv X ao Z H s)(h:eE X.K H a xs)(h':eE X.K H a ys):xs=ys:=by
 obtain⟨its,r,⟨o,n,e,_,_,d⟩,_⟩:=I.list h;obtain⟨its',r',⟨o',n',e',_,_,d'⟩,_⟩:=I.list h';rw[e] at e';cases e';rw[d] at d';injection d' with d1 _;have:its=its':=by simpa using lW Array.toList d1
 subst this;exact r.inj r'
theorem Inv.jW(I:Inv X ao Z H s)(h:fV X.K H a xs)(h':fV X.K H a ys):xs=ys:=by
 obtain⟨its,r,⟨o,e,_,n,d⟩,_⟩:=I.tuple h;obtain⟨its',r',⟨o',e',_,n',d'⟩,_⟩:=I.tuple h';rw[e] at e';cases e';rw[d] at d';injection d' with d1 _;have:its=its':=by simpa using lW Array.toList d1
 subst this;exact r.inj r'
end
section
variable {X:Cx}{st:Stmt}{rest:List Stmt}{t u:TS}{e:Expr}{te:TE}{pos:Pos}
noncomputable def E_:TS:=λD Z H=>D.nx Z H
noncomputable def Od(t u:TS):TS:=λD Z H=>t {D with nx:=u D} Z H
theorem VG:oY X [] E_:=λ_ _ Z H _ I h=>wpAny_execs_nil ⟨Z,H,I,h⟩
theorem VH(h1:PS X st t)(h2:oY X rest u):oY X (st::rest) (Od t u):=by
 intro ao s Z H D I h;refine wpAny_execs_cons (bw (h1 ao s Z H {D with nx:=u D} I h) λf s1 q=>?_);cases f with
 |next=>
  obtain⟨Z',H',I',q⟩:=q;exact h2 ao s1 Z' H' D I' q
 |ret v=>exact q
 |brk=>exact q
 |cont=>exact q
theorem Inv.quiet{ao:List (Addr×Obj)}{Z:St}{H:Hp}{s:Shared}(I:Inv X ao Z H s):interactive X.env=false:=by simp[interactive,I.ok.kind]
noncomputable def Fb(te:TE):TS:=λD Z H=>te Z H λ_ H1=>D.nx Z H1
theorem zhH(he:PE X e te)(hs:swapsWith e none pos.line X.env=pure false:=by rfl):PS X (.Expr e pos) (Fb te):=by
 intro ao s Z H D I h;exact wpAny_Expr_any (bw (he ao s Z H _ I h) λv s1 hx=>gH hx λx H1 I1 r1 q1=>⟨Z,H1,I1,q1⟩) I.quiet hs
noncomputable def Oe(te:TE):TS:=λD Z H=>te Z H D.rt
theorem zkI(he:PE X e te):PS X (.Return (some e) pos) (Oe te):=by
 intro ao s Z H D I h;exact wpAny_Return_some (bw (he ao s Z H _ I h) λv s1 hx=>gH hx λx H1 I1 r1 q1=>⟨x,Z,H1,I1,r1,q1⟩)
noncomputable def Og(c:TT)(t u:TS):TS:=λD Z H=>c Z H λb H1=>if b=true then t D Z H1 else u D Z H1
theorem zlL{c:Expr}{a b:List Stmt}{tc:TT}(hc:PT X c tc)(ha:oY X a t)(hb:oY X b u):PS X (.If c a b pos) (Og tc t u):=by
 intro ao s Z H D I h;refine wpAny_If (bw (hc ao s Z H _ I h) λd s1 hx=>wJ hx λH1 I1 q1=>?_);cases d with
 |true=>exact ha ao s1 Z H1 D I1 q1
 |false=>exact hb ao s1 Z H1 D I1 q1
end
noncomputable abbrev TG:=V->St->Hp->(St->Hp->Prop)->Prop
noncomputable abbrev yU:=List V->St->Hp->(St->Hp->Prop)->Prop
def PG(X:Cx)(target:Expr)(t:TG):Prop:=
 ∀(ao:List (Addr×Obj)) (s:Shared) (Z:St) (H:Hp) (v:V) (u:Value) (Q:St->Hp->Prop),Inv X ao Z H s->RelV v u->t v Z H Q->
  wpAny (model X.prog X.w) X.A (assign target X.env u) (λ_ s'=>∃Z' H',Inv X ao Z' H' s'/\Q Z' H') X.xe s
def Ke(X:Cx)(ts:List Expr)(t:yU):Prop:=
 ∀(ao:List (Addr×Obj)) (s:Shared) (Z:St) (H:Hp) (vs:List V) (us:List Value) (Q:St->Hp->Prop),Inv X ao Z H s->Vals vs us->t vs Z H Q->
  wpAny (model X.prog X.w) X.A (assignInOrder ((assignEach ts X.env).map (·.2)) us) (λ_ s'=>∃Z' H',Inv X ao Z' H' s'/\Q Z' H') X.xe s
noncomputable abbrev yV:=V->V->V->Hp->(Hp->Prop)->Prop
def Fd(X:Cx)(t:yV):Prop:=
 ∀(ao:List (Addr×Obj)) (s:Shared) (Z:St) (H:Hp) (o i v:V) (ov iv u:Value) (Q:Hp->Prop),Inv X ao Z H s->RelV o ov->RelV i iv->RelV v u->t o i v H Q->
  wpAny (model X.prog X.w) X.A (setItem ov iv u) (λ_ s'=>∃H',Inv X ao Z H' s'/\Q H') X.xe s
section
variable {X:Cx}{pos:Pos}
noncomputable def c7(i:Nat):TG:=λv Z H Q=>Q (Z.set i (some v)) H
theorem Kf{i:Nat}{x:Str}(hN:X.N.Nodup)(hi:X.N[i]?=some x)(hx:Loc X.env.scope x)(hf:X.fn x=true\/X.env.scope.names.lookup x=some .local:=by first|exact .inl rfl|exact .inr rfl|assumption):PG X (.Name x pos) (c7 i):=by
 intro ao s Z H v u Q I r h;exact wpAny_assign_Name (Kc I hN hi hx r (λs' I'=>⟨_,H,I',h⟩) hf)
noncomputable def rD:yU:=λvs Z H Q=>vs=[]/\Q Z H
noncomputable def gJ(t:TG)(u:yU):yU:=λvs Z H Q=>∃v r,vs=v::r/\t v Z H λZ' H'=>u r Z' H' Q
theorem zil:Ke X [] rD:=by
 intro ao s Z H vs us Q I r h;obtain⟨e,h⟩:=h;subst e;cases r;exact assignInOrder_nil ⟨Z,H,I,h⟩
theorem VJ{e:Expr}{es:List Expr}{t:TG}{u:yU}(h1:PG X e t)(h2:Ke X es u)
  (hs:(assignEach (e::es) X.env).map (·.2)=assign e X.env::(assignEach es X.env).map (·.2):=by rfl):Ke X (e::es) (gJ t u):=by
 intro ao s Z H vs us Q I r h;obtain⟨v,vr,e1,h⟩:=h;subst e1;cases r with
 |cons r rr=>
  rw[hs];refine assignInOrder_cons (bw (h1 ao s Z H _ _ _ I r h) λ_ s1 hz=>?_);obtain⟨Z1,H1,I1,q1⟩:=hz;exact h2 ao s1 Z1 H1 _ _ Q I1 rr q1
noncomputable def rE(K:W.Frag)(n:Nat)(t:yU):TG:=λv Z H Q=>∃a xs,v=.ref a/\fV K H a xs/\xs.length=n/\t xs Z H Q
theorem zkE{es:List Expr}{k:Nat}{t:yU}{n:Nat}(hc:X.aj=true)(h:Ke X es t)
  (hn:(assignEach es X.env).length=n:=by rfl) (Oh:(assignEach es X.env).findIdx? (·.1)=none:=by rfl):PG X (.Tuple es k pos) (rE X.K n t):=by
 intro ao s Z H v u Q I r hw;obtain⟨a,xs,e1,hq,hl,hw⟩:=hw;subst e1;cases r;obtain⟨its,rv,ht,hz⟩:=I.tuple hq;refine assign_Tuple_tuple (I.ok.hd hc) ht (by simp[hn,<-hl,rv.length]) Oh λh' hx=>?_;have I1:Inv X ao Z H {s with heap:=h'}:=I.kept (t':=s.toks) λb o e=>hx b o (dM (bV e)) e;exact h ao _ Z H xs _ Q I1 (by simpa using rv) hw
noncomputable def Oi(to ti:TE)(t:yV):TG:=λv Z H Q=>to Z H λo H1=>ti Z H1 λi H2=>t o i v H2 λH3=>Q Z H3
theorem zjD{o i:Expr}{to ti:TE}{t:yV}(ho:PE X o to)(hi:PE X i ti)(hs:Fd X t)
  (ha:∀v,assign (.Subscript o i pos) X.env v=(do
   let ov <-holding [v] (eval o X.env)
   let iv <-holding [v,ov] (eval i X.env)
   standAt pos
   holding [v,ov,iv] (setItem ov iv v)
   release [v,ov,iv] []):=by intro _;rfl):PG X (.Subscript o i pos) (Oi to ti t):=by
 intro ao s Z H v u Q I r h;rw[ha];refine aA (m6 (bw (ho ao s Z H _ I h) λov s1 hx=>gH hx λx H1 I1 r1 q1=>?_));refine aA (m6 (bw (hi ao s1 Z H1 _ I1 q1) λiv s2 hx=>gH hx λy H2 I2 r2 q2=>?_));refine aA (uq (aA (m6 (bw (hs ao s2 Z H2 x y v ov iv u _ I2 r1 r2 r q2) λ_ s3 hx=>wJ hx λH3 I3 q3=>?_))));exact wpAny_release ⟨Z,H3,I3,q3⟩
noncomputable def uU(te:TE)(g:TG):TS:=λD Z H=>te Z H λx H1=>g x Z H1 D.nx
theorem VL{tg e:Expr}{te:TE}{g:TG}(he:PE X e te)(hg:PG X tg g)(hs:swapsWithSole [tg] e pos.line X.env=pure false:=by rfl)(hw:swappedStores [tg] e X.env=pure none:=by rfl)
  (h1:(assignEach [tg] X.env).map (·.2)=[assign tg X.env]:=by rfl):PS X (.Assign [tg] e pos) (uU te g):=by
 intro ao s Z H D I h;refine wpAny_Assign_stores (bw (he ao s Z H _ I h) λv s1 hx=>gH hx λx H1 I1 r1 q1=>?_) hs hw;rw[h1];exact bw (hg ao s1 Z H1 x v _ I1 r1 q1) λ_ s2 q=>q
theorem zle{i:Nat}{x:Str}{e:Expr}{te:TE}{pos':Pos}(hN:X.N.Nodup)(hi:X.N[i]?=some x)(hx:Loc X.env.scope x)(he:PE X e te)(hs:swapsWith e (some (.Name x pos')) pos.line X.env=pure false:=by rfl)(hf:X.fn x=true\/X.env.scope.names.lookup x=some .local:=by first|exact .inl rfl|exact .inr rfl|assumption) :
  PS X (.Assign [.Name x pos'] e pos) (uU te (c7 i)):=by
 intro ao s Z H D I h;refine wpAny_Assign_Name (bw (he ao s Z H _ I h) λv s1 hz=>?_) hs;obtain⟨y,H1,I1,r1,q1⟩:=hz;exact Kc I1 hN hi hx r1 (λs2 I2=>⟨_,H1,I2,q1⟩) hf
noncomputable def Oj(i j:Nat)(ta:TA):TS:=λD Z H=>ta Z H λvs H1=>∃v w,vs=[v,w]/\D.nx ((Z.set i (some v)).set j (some w)) H1
theorem zjP{i j:Nat}{x y:Str}{a b:Expr}{ta:TA}{px py pt:Pos}{kt k2 rF}(hc:X.aj=true)(hN:X.N.Nodup)(hi:X.N[i]?=some x)(hj:X.N[j]?=some y)(uV:i≠j)
  (hx:X.env.scope.names.lookup x=some .local) (hy:X.env.scope.names.lookup y=some .local) (ha:PA X [a,b] ta)
  (hw:swappedStores [.Tuple [.Name x px,.Name y py] kt pt] (.Tuple [a,b] k2 rF) X.env=pure (some [x,y]))
  (hs:swapsWithSole [.Tuple [.Name x px,.Name y py] kt pt] (.Tuple [a,b] k2 rF) pos.line X.env=pure false:=by rfl) :
  PS X (.Assign [.Tuple [.Name x px,.Name y py] kt pt] (.Tuple [a,b] k2 rF) pos) (Oj i j ta):=by
 intro ao s Z H D I h;rw[exec_Assign_arm];refine aA (uq ?_);rw[hs];refine aA (aO ?_);rw[if_neg J0];refine aA (Tuple_ (bw (ha _ ao s Z H _ I h) λus s1 hz=>?_));obtain⟨vs,H1,I1,r1,q1⟩:=hz;obtain⟨v,w,e1,q1⟩:=q1;subst e1;obtain⟨u1,u2,rfl,rv,mz⟩ : ∃u1 u2,us=[u1,u2]/\RelV v u1/\RelV w u2:=by
  cases r1 with
  |cons p q=>
   cases q with
   |cons p' q'=>
    cases q';exact⟨_,_,rfl,p,p'⟩
 refine qb ?_ (by show 2<=sizeLine;decide);have I2:Inv X ao Z H1 {s1 with heap:=s1.heap.push {cls:=.type "tuple",data:=.seq [u1,u2].toArray}}:=I1.kept (t':=s1.toks) λb o e=>cO _ e;rw[hw];refine aA (aO ?_);show wpAny (model X.prog X.w) X.A (do rule "assign.swapped-stores";let items <-unpackItems (.ref s1.heap.objs.size) 2 none;assignInOrder [λv=>bindName X.env y v,λv=>bindName X.env x v] items.reverse;pure Flow.next) _ _ _;refine aA (wC (aA (unpackItems_tuple (items:=#[u1,u2]) (I.ok.hd hc) (IsTup.new s1.heap _) λh' Kg=>?_)));have I3:=I2.kept (h':=h') (t':=s1.toks) λb o e=>Kg b o (dM (bV e)) e;show wpAny _ _ (assignInOrder [λv=>bindName X.env y v,λv=>bindName X.env x v] [u2,u1] >>= λ_=>pure Flow.next) _ _ _;refine aA (assignInOrder_cons (wpAny_bindName (Kc I3 hN hj (.inl hy) mz (λs2 I4=>?_) (.inr hy))));refine assignInOrder_cons (wpAny_bindName (Kc I4 hN hi (.inl hx) rv (λs3 I5=>assignInOrder_nil (aO ?_)) (.inr hx)));rw[List.set_comm _ _ (Ne.symm uV)] at I5;exact⟨_,H1,I5,q1⟩
end
structure It where
 go:Nat->Hp->Prop
 rG:Nat->Hp->V->Hp->Prop
 stop:Nat->Hp->Prop
def eF(X:Cx)(ao:List (Addr×Obj))(H:Hp)(b:Addr):Prop:=
 H b=none/\b≠X.env.locals/\b∉X.fs/\(b∈X.ex\/X.s₀.heap.objs.size<=b)/\(∀x c,X.env.cells.lookup x=some c->c≠b)/\∀p∈X.pn++ao,p.1≠b
theorem Inv.uW{X:Cx}{ao:List (Addr×Obj)}{Z:St}{H H':Hp}{s:Shared}{b:Addr}(I:Inv X ao Z H s)(hb:s.heap.objs.size<=b)(hn:H' b=none):eF X ao H' b:=by
 refine⟨hn,uO (gU I.lt hb),I.NQ hb,.inr (lN I.sz hb),λx c e z=>?_,λp hp z=>?_⟩
 ·obtain⟨v,q⟩:=I.cell x c e;exact absurd (gU q.lt (by rw[z];exact hb)) (lM _)
 ·exact absurd (gU (bV (I.pin p hp).1) (by rw[z];exact hb)) (lM _)
structure Turn(P:Program)(w:World)(K:W.Frag)(tg:Expr)(bF:It)(fp:List Addr)(it:Addr)(tn:Nat->Heap->Prop):Prop where
 mem:it∈fp
 obj:∀i h,tn i h->∀b∈fp,∃o,h.get? b=some o/\∀v,o.data≠.cell v
 keep:∀i h h',tn i h->(∀b∈fp,∀o,h.get? b=some o->h'.get? b=some o)->tn i h'
 item:∀(X:Cx),X.prog=P->X.w=w->X.K=K->X.aj=true->∀(i:Nat) (ao:List (Addr×Obj)) (s:Shared) (Z:St) (H:Hp) (E:Value->Shared->Prop),Inv X ao Z H s->(∀b∈fp,eF X ao H b)->tn i s.heap->bF.go i H->
  wpAny (model P w) X.A (pyNext (.ref it)) (λr s1=>∃u,r=some u /\
   wpAny (model P w) X.A (letOwnedTupleGo tg (.ref it) u) (λ_ s2=>∃x H',Inv X ao Z H' s2/\RelV x u/\bF.rG i H x H'/\tn (i+1) s2.heap/\∀b∈fp,H' b=none) E s1) E s
 done:∀(X:Cx),X.prog=P->X.w=w->X.K=K->X.aj=true->∀(i:Nat) (ao:List (Addr×Obj)) (s:Shared) (Z:St) (H:Hp) (E:Value->Shared->Prop),Inv X ao Z H s->(∀b∈fp,eF X ao H b)->tn i s.heap->bF.stop i H->
  wpAny (model P w) X.A (pyNext (.ref it)) (λr s1=>r=none/\Inv X ao Z H s1) E s
 self:∀(A:Around) (i:Nat) (s:Shared) (Q:Value->Shared->Prop) (E:Value->Shared->Prop),tn i s.heap->Q (.ref it) s->wpAny (model P w) A (pyIter (.ref it)) Q E s
noncomputable abbrev TI:=St->Hp->(It->Hp->Prop)->Prop
def PIE(X:Cx)(ao:List (Addr×Obj))(Z:St)(tg:Expr)(R:It->Hp->Prop)(itv:Value)(s2:Shared):Prop:=
 ∃(it:Addr) (fp:List Addr) (tn:Nat->Heap->Prop) (bF:It) (H':Hp),itv=.ref it/\Inv X ao Z H' s2/\Turn X.prog X.w X.K tg bF fp it tn/\tn 0 s2.heap/\(∀b∈fp,eF X ao H' b)/\R bF H'
def PI(X:Cx)(tg iter:Expr)(wi:TI):Prop:=
 ∀(ao:List (Addr×Obj)) (s:Shared) (Z:St) (H:Hp) (R:It->Hp->Prop),Inv X ao Z H s->wi Z H R->
  wpAny (model X.prog X.w) X.A (eval iter X.env) (λv s1=>wpAny (model X.prog X.w) X.A (pyIter v) (PIE X ao Z tg R) X.xe s1) X.xe s
theorem Ol{M:Model}{A:Around}{E:Value->Shared->Prop}{s:Shared}{tg:Expr}{it:Addr}{u:Value}{o:Obj}{n:String}{vs:Array Value}{Q:Unit->Shared->Prop}(ho:s.heap.get? it=some o)(hc:o.cls=.type n)(hd:o.data=.fields vs)
  (hn:["enumerate","zip","dict_itemiterator","dict_reverseitemiterator","odict_iterator","itertools.zip_longest","itertools.pairwise"].contains n=false) (hQ:Q () s):wpAny M A (letOwnedTupleGo tg (.ref it) u) Q E s:=by
 unfold letOwnedTupleGo;cases tg<;>first
  |exact aO hQ
  | (cases u<;>first
    |exact aO hQ
    | (refine aA (wpAny_load ho ?_)
       rw[hc,hd];show wpAny M A (if (["enumerate","zip","dict_itemiterator","dict_reverseitemiterator","odict_iterator","itertools.zip_longest","itertools.pairwise"].contains n&&vs[0]?==some (rawInt _))=true then _ else _) Q E s;rw[if_neg (by intro h;rw[hn,Bool.false_and] at h;cases h)];exact aO hQ))
noncomputable def Kh(K:W.Frag)(a:Addr):It:=
 ⟨λi H=>∃xs x,eE K H a xs/\xs[i]?=some x,λi H x H'=>H'=H/\∀xs,eE K H a xs->xs[i]?=some x,λi H=>∃xs,eE K H a xs/\xs.length<=i⟩
noncomputable def Om(K:W.Frag)(a:Addr):It:=
 ⟨λi H=>∃xs x,fV K H a xs/\xs[i]?=some x,λi H x H'=>H'=H/\∀xs,fV K H a xs->xs[i]?=some x,λi H=>∃xs,fV K H a xs/\xs.length<=i⟩
noncomputable def Fe(lo:Int)(n:Nat):It:=⟨λi _=>i<n,λi H x H'=>H'=H/\x=.int (lo+i),λi _=>n<=i⟩
theorem zfa{P:Program}{w:World}{K:W.Frag}{tg:Expr}(a it:Addr):Turn P w K tg (Kh K a) [it] it (λi h=>h.IsListIter it a i) where
 mem:=by simp
 obj:=λi h st b hb=>by
  have e:b=it:=by simpa using hb
  subst e;obtain⟨o,e,c,d⟩:=st;exact⟨o,e,λv z=>by rw[d] at z;cases z⟩
 keep:=λi h h' st k=>st.at λo e=>k it Qi o e
 item:=by
  intro X hP hw hK hc i ao s Z H E I hf st hg;subst hP hw hK;obtain⟨xs,x,hq,hx⟩:=hg;obtain⟨its,rv,p,hz⟩:=I.list hq;obtain⟨u,hu,ru⟩:=rv.get hx;obtain⟨f0,f1,f2,f3,f4,f5⟩:=hf it Qi;refine wpAny_pyNext_list_item st p.isList (x:=u) (by simpa using hu) λh' st' sb=>?_;have I1:Inv X ao Z H {s with heap:=h'}:=I.turned (t':=s.toks) (λb o hb e=>(sb.2 b hb).trans e) f0 f1 f3 f4 f5;obtain⟨o,e,c,d⟩:=id st';exact⟨u,rfl,Ol (s:={s with heap:=h'}) e c d J0 ⟨x,H,I1,ru,⟨rfl,λys hy=>by rw[I.mj hy hq];exact hx⟩,st',λb hb=>(hf b hb).1⟩⟩
 done:=by
  intro X hP hw hK hc i ao s Z H E I hf st hg;subst hP hw hK;obtain⟨xs,hq,hx⟩:=hg;obtain⟨its,rv,p,hz⟩:=I.list hq;obtain⟨f0,f1,f2,f3,f4,f5⟩:=hf it Qi;have hl:=rv.length;exact wpAny_pyNext_list_end (I.ok.hd hc) st p.isList (by simp;lia) λh' eb=>⟨rfl,I.turned (t':=s.toks) (λb o hb e=>eb b o hb e) f0 f1 f3 f4 f5⟩
 self:=λ_ _ _ _ _ st h=>wpAny_pyIter_listiter st h
theorem zer{P:Program}{w:World}{K:W.Frag}{tg:Expr}(a it:Addr):Turn P w K tg (Om K a) [it] it (λi h=>h.IsTupleIter it a i) where
 mem:=by simp
 obj:=λi h st b hb=>by
  have e:b=it:=by simpa using hb
  subst e;obtain⟨o,e,c,d⟩:=st;exact⟨o,e,λv z=>by rw[d] at z;cases z⟩
 keep:=λi h h' st k=>st.at λo e=>k it Qi o e
 item:=by
  intro X hP hw hK hc i ao s Z H E I hf st hg;subst hP hw hK;obtain⟨xs,x,hq,hx⟩:=hg;obtain⟨its,rv,p,hz⟩:=I.tuple hq;obtain⟨u,hu,ru⟩:=rv.get hx;obtain⟨f0,f1,f2,f3,f4,f5⟩:=hf it Qi;refine wpAny_pyNext_tuple_item st (show s.heap.IsTuple a its.toArray from p) (x:=u) (by simpa using hu) λh' st' sb=>?_;have I1:Inv X ao Z H {s with heap:=h'}:=I.turned (t':=s.toks) (λb o hb e=>(sb.2 b hb).trans e) f0 f1 f3 f4 f5;obtain⟨o,e,c,d⟩:=id st';exact⟨u,rfl,Ol (s:={s with heap:=h'}) e c d J0 ⟨x,H,I1,ru,⟨rfl,λys hy=>by rw[I.jW hy hq];exact hx⟩,st',λb hb=>(hf b hb).1⟩⟩
 done:=by
  intro X hP hw hK hc i ao s Z H E I hf st hg;subst hP hw hK;obtain⟨xs,hq,hx⟩:=hg;obtain⟨its,rv,p,hz⟩:=I.tuple hq;obtain⟨f0,f1,f2,f3,f4,f5⟩:=hf it Qi;have hl:=rv.length;exact wpAny_pyNext_tuple_end (I.ok.hd hc) st (show s.heap.IsTuple a its.toArray from p) (by simp;lia) λh' eb=>⟨rfl,I.turned (t':=s.toks) (λb o hb e=>eb b o hb e) f0 f1 f3 f4 f5⟩
 self:=λ_ _ _ _ _ st h=>wpAny_pyIter_tupleiter st h
theorem zeK{P:Program}{w:World}{K:W.Frag}{tg:Expr}(it:Addr)(lo:Int)(n:Nat):Turn P w K tg (Fe lo n) [it] it (λi h=>IsRangeIter h it (lo+(i:Nat)*1) ((n:Int)-(i:Nat)) 1) where
 mem:=by simp
 obj:=λi h st b hb=>by
  have e:b=it:=by simpa using hb
  subst e;exact⟨_,st,λv z=>by
   have z':Data.fields _=Data.cell v:=z;cases z'⟩
 keep:=λi h h' st k=>k it Qi _ st
 item:=by
  intro X hP hw hK hc i ao s Z H E I hf st hg;subst hP hw hK;obtain⟨f0,f1,f2,f3,f4,f5⟩:=hf it Qi;have W:=Walks.range (prog:=X.prog) (w:=X.w) (I.ok.hd hc) it lo 1 n;refine W.item i s _ _ hg st λv h' tk hv st' kk=>?_;obtain⟨t,rfl⟩:=hv;have I1:Inv X ao Z H {s with heap:=h',toks:=tk}:=I.turned (λb o hb e=>kk b o (by simpa using hb) e) f0 f1 f3 f4 f5;refine⟨_,rfl,Ol (s:={s with heap:=h',toks:=tk}) (n:="range_iterator") st' rfl rfl J0 ⟨.int (lo+i),H,I1,⟨t,?_⟩,⟨rfl,rfl⟩,st',λb hb=>(hf b hb).1⟩⟩;rw[Int.mul_one]
 done:=by
  intro X hP hw hK hc i ao s Z H E I hf st hg;subst hP hw hK;obtain⟨f0,f1,f2,f3,f4,f5⟩:=hf it Qi;exact wpAny_pyNext_range_end (I.ok.hd hc) st (by have:n<=i:=hg;lia) λh' eb=>⟨rfl,I.turned (t':=s.toks) (λb o hb e=>eb b o hb e) f0 f1 f3 f4 f5⟩
 self:=λ_ _ _ _ _ st h=>wpAny_pyIter_rangeiter st h
section
variable {X:Cx}{tg:Expr}
theorem VN{ao:List (Addr×Obj)}{Z:St}{H:Hp}{s:Shared}{R:It->Hp->Prop}{E:Value->Shared->Prop}{lo hi:Int}{t u v:Tok}{tk:Nat}(I:Inv X ao Z H s)(h1 : -(2^62)<=lo)(h2:lo<2^62)(h3 : -(2^62)<=hi)(h4:hi<2^62)
  (q:R (Fe lo (hi-lo).toNat) H):wpAny (model X.prog X.w) X.A (pyIter (.ref s.heap.objs.size)) (PIE X ao Z tg R) E {s with heap:=s.heap.push {cls:=.type "range",data:=.fields #[.int lo t,.int hi u,.int 1 v]},toks:=tk}:=by
 refine wpAny_pyIter_range (IsRange.new ..) (small_one h1 h2 h3 h4) ?_;have I1:Inv X ao Z H {s with heap:=s.heap.push {cls:=.type "range",data:=.fields #[.int lo t,.int hi u,.int 1 v]},toks:=tk}:=I.kept λb o e=>cO _ e;refine⟨(s.heap.push {cls:=.type "range",data:=.fields #[.int lo t,.int hi u,.int 1 v]}).objs.size,[(s.heap.push {cls:=.type "range",data:=.fields #[.int lo t,.int hi u,.int 1 v]}).objs.size],_,_,H,rfl,
  I1.kept (t':=tk) λb o e=>cO _ e,zeK _ lo (hi-lo).toNat,?_,λb hb=>?_,q⟩
 ·have e1:lo+((0:Nat):Int)*1=lo:=by simp
  have e2:(((hi-lo).toNat:Nat):Int)-((0:Nat):Int)=Builtin.Range.rangeSize lo hi 1:=by rw[rangeSize_one];split<;>lia
  show IsRangeIter _ _ (lo+((0:Nat):Int)*1) ((((hi-lo).toNat:Nat):Int)-((0:Nat):Int)) 1;rw[e1,e2];exact fC _ rfl
 ·have e:b=(s.heap.push {cls:=.type "range",data:=.fields #[.int lo t,.int hi u,.int 1 v]}).objs.size:=by simpa using hb
  subst e;exact I1.uW (cL _) (I1.hok.fresh (cL _))
noncomputable def Fg(ta:TA):TI:=λZ H R=>ta Z H λvs H1=>∃j:Int,vs=[.int j]/\-(2^62)<=j/\j<2^62/\R (Fe 0 j.toNat) H1
noncomputable def Fi(ta:TA):TI:=λZ H R=>ta Z H λvs H1=>∃i j:Int,vs=[.int i,.int j]/\(-(2^62)<=i/\i<2^62/\-(2^62)<=j/\j<2^62)/\R (Fe i (j-i).toNat) H1
theorem zfS{a:Expr}{ta:TA}{p pos:Pos}(hg:Gl X "range")(hm:X.mg "range"=none)(ha:PA X [a] ta)(hs:starEach [a] X.env=[(false,eval a X.env)]:=by rfl):PI X tg (.Call (.Name "range" p) [a] [] pos) (Fg ta):=by
 intro ao s Z H R I h;refine Call_ (wN I hg hm boot_range (Bp (bw (ha pos ao s Z H _ I h) λus s1 hx=>gH hx λvs H1 I1 r1 q1=>?_) hs rfl));obtain⟨j,e,q1,q2,q⟩:=q1;subst e;cases r1 with
 |cons r rr=>
  cases rr;obtain⟨t,rfl⟩:=r;exact call_range_1 (VN I1 gV gV q1 q2 (by simpa using q))
theorem zfV{a b:Expr}{ta:TA}{p pos:Pos}(hg:Gl X "range")(hm:X.mg "range"=none)(ha:PA X [a,b] ta)(hs:starEach [a,b] X.env=[(false,eval a X.env),(false,eval b X.env)]:=by rfl)(wO:starEach [b] X.env=[(false,eval b X.env)]:=by rfl) :
  PI X tg (.Call (.Name "range" p) [a,b] [] pos) (Fi ta):=by
 intro ao s Z H R I h;refine Call_ (wN I hg hm boot_range (Bp (bw (ha pos ao s Z H _ I h) λus s1 hx=>gH hx λvs H1 I1 r1 q1=>?_) (by rw[hs,wO]) (by rw[wO];rfl)));obtain⟨i,j,e,⟨q1,q2,q3,q4⟩,q⟩:=q1;subst e;cases r1 with
 |cons r rr=>
  cases rr with
  |cons r' rr=>
   cases rr;obtain⟨t,rfl⟩:=r;obtain⟨t',rfl⟩:=r';exact call_range_2 (VN I1 q1 q2 q3 q4 q)
noncomputable def Oo(wi:TI)(g:TG)(tb:TS):TS:=λD Z H=>wi Z H λbF H1=>∃W:Nat->Nat->St->Hp->Prop,(∃m,W 0 m Z H1)/\∀i m Z H,W i m Z H->
 (bF.stop i H/\D.nx Z H)\/(bF.go i H/\∃N:St->Hp->Prop,(∀Z' H',N Z' H'->∃m',m'<m/\W (i+1) m' Z' H')/\∀x H',bF.rG i H x H'->g x Z H' λZ2 H2=>tb {D with nx:=N,ct:=N,bk:=D.nx} Z2 H2)
noncomputable def iy(fp:List Addr)(h:Heap):List (Addr×Obj):=fp.filterMap λb=>(h.get? b).map λo=>(b,o)
theorem wQ{fp:List Addr}{h:Heap}{b:Addr}{o:Obj}(hb:b∈fp)(e:h.get? b=some o):(b,o)∈iy fp h:=Bv.mpr ⟨b,hb,by rw[e];rfl⟩
theorem zf8{fp:List Addr}{h:Heap}{p:Addr×Obj}(hp:p∈iy fp h):p.1∈fp/\h.get? p.1=some p.2:=by
 obtain⟨b,hb,e⟩:=Bv.mp hp;cases q:h.get? b with
 |none=>rw[q] at e;cases e
 |some o=>
  rw[q] at e;have e':(b,o)=p:=dJ e;subst e';exact⟨hb,q⟩
theorem Inv.pinned{ao:List (Addr×Obj)}{Z:St}{H:Hp}{s:Shared}{fp:List Addr}(I:Inv X ao Z H s)(hf:∀b∈fp,eF X ao H b)(ho:∀b∈fp,∃o,s.heap.get? b=some o/\∀v,o.data≠.cell v):Inv X (ao++iy fp s.heap) Z H s:=
 I.kW λp hp=>(m5.mp hp).elim (λz=>I.pin p (lK _ z)) λz=>by
  obtain⟨hb,e⟩:=zf8 z;obtain⟨f0,f1,f2,_⟩:=hf p.1 hb;obtain⟨o,e',d⟩:=ho p.1 hb;rw[e] at e';cases e';exact⟨e,f0,f1,f2,d⟩
theorem Inv.dF{ao pl:List (Addr×Obj)}{Z:St}{H:Hp}{s:Shared}(I:Inv X (ao++pl) Z H s):Inv X ao Z H s:=I.kW λp hp=>I.pin p (lK _ (M8 _ hp))
theorem zkC{iter:Expr}{body:List Stmt}{wi:TI}{g:TG}{tb:TS}{pos:Pos}(hp:PassesOwn (model X.prog X.w) X.A X.env X.xe)(hc:X.aj=true)(hi:PI X tg iter wi)(hg:PG X tg g)(hb:oY X body tb)
  (hs:∀x,foldedSetIterable iter X.env x=pure x:=by intro _;rfl):PS X (.For tg iter body [] pos) (Oo wi g tb):=by
 intro ao s Z H D I h;refine wpAny_For (bw (hi ao s Z H _ I h) λv s1 h1=>bw h1 λitv s2 h2=>?_) hs;obtain⟨it,fp,tn,bF,H2,e,I2,T,st2,f2,W,⟨m0,w0⟩,turn⟩:=h2;subst e;have stat:∀{H':Hp},(∀b∈fp,H' b=none)->∀b∈fp,eF X ao H' b:=λhn b hb=>⟨hn b hb,(f2 b hb).2⟩;refine codeAny_forLoop_any (λn s'=>∃i Z' H',Inv X ao Z' H' s'/\tn i s'.heap/\(∀b∈fp,H' b=none)/\W i n Z' H') ?_ m0 ⟨0,Z,H2,I2,st2,λb hb=>(f2 b hb).1,w0⟩;rintro n s3 ⟨i,Z3,H3,I3,st3,VP,w3⟩;rcases turn i n Z3 H3 w3 with ⟨stop,qn⟩|⟨go,N,hN,step⟩
 ·refine DQ hp (bw (T.done X rfl rfl rfl hc i ao s3 Z3 H3 X.xe I3 (stat VP) st3 stop) λr s4 ⟨hr,I4⟩=>?_);subst hr;exact wpAny_execs_nil ⟨Z3,H3,I4,qn⟩
 ·refine DQ hp (bw (T.item X rfl rfl rfl hc i ao s3 Z3 H3 X.xe I3 (stat VP) st3 go) λr s4 hx=>wJ hx λu hr h4=>?_);subst hr;refine DQ hp (bw h4 λ_ s5 hz=>?_);obtain⟨x,H5,I5,r5,y5,qP,uz⟩:=hz;have I5':=I5.pinned (stat uz) (T.obj _ _ qP);refine DQ hp (bw (hg _ s5 Z3 H5 x u _ I5' r5 (step x H5 y5)) λ_ s6 hz=>?_);obtain⟨Z6,H6,I6,q6⟩:=hz;refine DQ hp (bw (hb _ s6 Z6 H6 _ I6 q6) λf s7 q7=>?_);have again:∀{Z7:St} {H7:Hp},Inv X (ao++iy fp s5.heap) Z7 H7 s7->N Z7 H7->∃m,m<n/\∃i Z' H',Inv X ao Z' H' s7/\tn i s7.heap/\(∀b∈fp,H' b=none)/\W i m Z' H':=λ{Z7 H7} I7 n7=>by
   obtain⟨m',hm,w7⟩:=hN Z7 H7 n7;refine⟨m',hm,i+1,Z7,H7,I7.dF,T.keep _ _ _ qP λb hb o e=>(I7.pin (b,o) (lK _ (lK _ (wQ hb e)))).1,λb hb=>?_,w7⟩;obtain⟨o,e,d⟩:=T.obj _ _ qP b hb;exact(I7.pin (b,o) (lK _ (lK _ (wQ hb e)))).2.1
  cases f with
  |next=>obtain⟨Z7,H7,I7,n7⟩:=q7;exact again I7 n7
  |cont=>obtain⟨Z7,H7,I7,n7⟩:=q7;exact again I7 n7
  |brk=>obtain⟨Z7,H7,I7,q7⟩:=q7;exact⟨Z7,H7,I7.dF,q7⟩
  |ret v=>obtain⟨x7,Z7,H7,I7,r7,q7⟩:=q7;exact⟨x7,Z7,H7,I7.dF,r7,q7⟩
end
noncomputable abbrev R2:=V->V->Hp->VK->Prop
def dO(X:Cx)(f:Value->Value->Sem Value)(r:R2):Prop:=
 ∀(ao:List (Addr×Obj)) (s:Shared) (Z:St) (H:Hp) (x y:V) (v u:Value) (Q:VK),Inv X ao Z H s->RelV x v->RelV y u->r x y H Q->
  wpAny (model X.prog X.w) X.A (f v u) (EP X ao Z Q) X.xe s
def Kl(X:Cx)(f:Value->Sem Value)(r:V->Hp->VK->Prop):Prop:=
 ∀(ao:List (Addr×Obj)) (s:Shared) (Z:St) (H:Hp) (x:V) (v:Value) (Q:VK),Inv X ao Z H s->RelV x v->r x H Q->
  wpAny (model X.prog X.w) X.A (f v) (EP X ao Z Q) X.xe s
def cG(X:Cx)(f:Value)(r:List V->Hp->VK->Prop):Prop:=
 ∀(ao:List (Addr×Obj)) (s:Shared) (Z:St) (H:Hp) (xs:List V) (us:List Value) (Q:VK),Inv X ao Z H s->Vals xs us->r xs H Q->
  wpAny (model X.prog X.w) X.A (call f us) (EP X ao Z Q) X.xe s
noncomputable def Km(r:R2)(ta tb:TE):TE:=λZ H Q=>ta Z H λx H1=>tb Z H1 λy H2=>r x y H2 Q
noncomputable def tUn(r:V->Hp->VK->Prop)(ta:TE):TE:=λZ H Q=>ta Z H λx H1=>r x H1 Q
noncomputable def rI(C:Int->Int->Prop)(g:Int->Int->V):R2:=λx y H Q=>∃i j,x=.int i/\y=.int j/\C i j/\Q (g i j) H
noncomputable def nM(g:Int->Int->V):R2:=λx y H Q=>∃i j,x=.int i/\y=.int j/\Q (g i j) H
noncomputable def rU(g:Int->V):V->Hp->VK->Prop:=λx H Q=>∃i,x=.int i/\Q (g i) H
section
variable {X:Cx}{a b c:Expr}{ta tb tc:TE}{pos:Pos}
theorem yW(ha:PE X a ta)(hb:PE X b tb){ao:List (Addr×Obj)}{s:Shared}{Z:St}{H:Hp}{R:V->V->Hp->Prop}(I:Inv X ao Z H s)
  (h:ta Z H λx H1=>tb Z H1 λy H2=>R x y H2) {Q:Value->Shared->Prop} {f:Value->Value->Sem Value}
  (hf:∀v u s2 x y H2,Inv X ao Z H2 s2->RelV x v->RelV y u->R x y H2->wpAny (model X.prog X.w) X.A (f v u) Q X.xe s2) :
  wpAny (model X.prog X.w) X.A (eval a X.env) (λv s₁=>wpAny (model X.prog X.w) X.A (eval b X.env) (λu s₂=>wpAny (model X.prog X.w) X.A (f v u) Q X.xe s₂) X.xe s₁) X.xe s:=by
 refine bw (ha ao s Z H _ I h) λv s1 hx=>gH hx λx H1 I1 r1 q1=>?_;refine bw (hb ao s1 Z H1 _ I1 q1) λu s2 hx=>gH hx λy H2 I2 r2 q2=>?_;exact hf v u s2 x y H2 I2 r1 r2 q2
theorem zl1{op:Operator}{r:R2}(ho:dO X (binaryOp op) r)(ha:PE X a ta)(hb:PE X b tb):PE X (.BinOp a op b pos) (Km r ta tb):=by
 intro ao s Z H Q I h;exact wpAny_BinOp (yW ha hb I h λv u s2 x y H2 I2 rx ry q=>ho ao s2 Z H2 x y v u Q I2 rx ry q)
theorem zmy{op:UnaryOp}{r:V->Hp->VK->Prop}(ho:Kl X (unaryOp op) r)(ha:PE X a ta):PE X (.UnaryOp op a pos) (tUn r ta):=by
 intro ao s Z H Q I h;exact UnaryOp_ (bw (ha ao s Z H _ I h) λv s1 hx=>gH hx λx H1 I1 r1 q1=>ho ao s1 Z H1 x v Q I1 r1 q1)
theorem Ko{f:Value->Value->Sem Value}{C:Int->Int->Prop}{g:Int->Int->Int}
  (rule:∀(i j:Int) (t u:Tok) (s:Shared) (Q:Value->Shared->Prop) (E:Value->Shared->Prop),C i j->Q (.int (g i j) s.toks) {s with toks:=s.toks+1}->wpAny (model X.prog X.w) X.A (f (.int i t) (.int j u)) Q E s) :
  dO X f (rI C λi j=>.int (g i j)):=by
 intro ao s Z H x y v u Q I rx ry h;obtain⟨i,j,rfl,rfl,hc,q⟩:=h;obtain⟨t,rfl⟩:=rx;obtain⟨t',rfl⟩:=ry;exact rule i j t t' s _ _ hc ⟨.int (g i j),H,I.tok _,⟨_,rfl⟩,q⟩
theorem Fj{f:Value->Value->Sem Value}{g:Int->Int->Int}
  (rule:∀(i j:Int) (t u:Tok) (s:Shared) (Q:Value->Shared->Prop) (E:Value->Shared->Prop),Q (.int (g i j) s.toks) {s with toks:=s.toks+1}->wpAny (model X.prog X.w) X.A (f (.int i t) (.int j u)) Q E s) :
  dO X f (nM λi j=>.int (g i j)):=by
 intro ao s Z H x y v u Q I rx ry h;obtain⟨i,j,rfl,rfl,q⟩:=h;obtain⟨t,rfl⟩:=rx;obtain⟨t',rfl⟩:=ry;exact rule i j t t' s _ _ ⟨.int (g i j),H,I.tok _,⟨_,rfl⟩,q⟩
theorem uX{f:Value->Value->Sem Value}{g:Int->Int->Bool}
  (rule:∀(i j:Int) (t u:Tok) (s:Shared) (Q:Value->Shared->Prop) (E:Value->Shared->Prop),Q (.bool (g i j)) s->wpAny (model X.prog X.w) X.A (f (.int i t) (.int j u)) Q E s) :
  dO X f (nM λi j=>.bl (g i j)):=by
 intro ao s Z H x y v u Q I rx ry h;obtain⟨i,j,rfl,rfl,q⟩:=h;obtain⟨t,rfl⟩:=rx;obtain⟨t',rfl⟩:=ry;exact rule i j t t' s _ _ ⟨.bl (g i j),H,I,rfl,q⟩
def uY(i j:Int):Prop:=0<j/\j<1073741824
def Fl(i j:Int):Prop:=0<=j/\j<=1000000/\i.natAbs<2^64
def uZ(i j:Int):Prop:=(-(2^64)<i/\i<2^64)\/(-(2^64)<j/\j<2^64)
theorem uZ.ok{i j:Int}(h:uZ i j):IntMulOk i j:=by
 rcases h with ⟨h1,h2⟩|⟨h1,h2⟩
 ·exact .of_left (intBits_le_64 h1 h2)
 ·exact .of_right (intBits_le_64 h1 h2)
theorem yX:dO X (binaryOp .Add) (nM λi j=>.int (i+j)):=Fj λ_ _ _ _ _ _ _ q=>add_int q
theorem zk3:dO X (binaryOp .Sub) (nM λi j=>.int (i-j)):=Fj λ_ _ _ _ _ _ _ q=>sub_int q
theorem zkt:dO X (binaryOp .Mult) (rI uZ λi j=>.int (i*j)):=Ko λ_ _ _ _ _ _ _ hc q=>mul_int q hc.ok
theorem zh3:dO X (binaryOp .FloorDiv) (rI uY λi j=>.int (i/j)):=Ko λi j _ _ _ _ _ hc q=>by
 have h1:(0:Int)<j:=hc.1;have h2:j<1073741824:=hc.2;exact floordiv_int gV (by rw[Int.fdiv_eq_ediv_of_nonneg i gV];exact q) (.inl (PyProof.noPylong_small gV))
theorem zkQ:dO X (binaryOp .Mod) (rI (λ_ j=>0<j) λi j=>.int (i%j)):=Ko λi j _ _ _ _ _ hc q=>by
 have h1:(0:Int)<j:=hc;exact mod_int' gV (by rw[Int.fmod_eq_emod_of_nonneg i gV];exact q)
theorem zjz:dO X (binaryOp .Pow) (rI Fl λi j=>.int (i^j.toNat)):=Ko λ_ _ _ _ _ _ _ hc q=>pow_int_small hc.1 hc.2.1 hc.2.2 q
theorem unI{f:Value->Sem Value}{g:Int->Int}
  (rule:∀(i:Int) (t:Tok) (s:Shared) (Q:Value->Shared->Prop) (E:Value->Shared->Prop),Q (.int (g i) s.toks) {s with toks:=s.toks+1}->wpAny (model X.prog X.w) X.A (f (.int i t)) Q E s) :
  Kl X f (rU λi=>.int (g i)):=by
 intro ao s Z H x v Q I rx h;obtain⟨i,rfl,q⟩:=h;obtain⟨t,rfl⟩:=rx;exact rule i t s _ _ ⟨.int (g i),H,I.tok _,⟨_,rfl⟩,q⟩
theorem zjJ:Kl X (unaryOp .USub) (rU λi=>.int (-i)):=unI λ_ _ _ _ _ q=>neg_int q
end
section
variable {X:Cx}{a b c:Expr}{ta tb tc:TE}{pos:Pos}
theorem Fp:dO X (compareOp .Lt) (nM λi j=>.bl (decide (i<j))):=uX λ_ _ _ _ _ _ _ q=>lt_int q
theorem zlQ:dO X (compareOp .LtE) (nM λi j=>.bl (decide (i<=j))):=uX λ_ _ _ _ _ _ _ q=>le_int q
theorem zl4:dO X (compareOp .Gt) (nM λi j=>.bl (decide (j<i))):=uX λ_ _ _ _ _ _ _ q=>gt_int q
theorem zlZ:dO X (compareOp .GtE) (nM λi j=>.bl (decide (j<=i))):=uX λ_ _ _ _ _ _ _ q=>ge_int q
theorem dO.or{f:Value->Value->Sem Value}{r r':R2}(h:dO X f r)(h':dO X f r'):dO X f (λx y H Q=>r x y H Q\/r' x y H Q):=by
 intro ao s Z H x y v u Q I rx ry q;rcases q with q|q
 ·exact h ao s Z H x y v u Q I rx ry q
 ·exact h' ao s Z H x y v u Q I rx ry q
theorem zi7{op:CmpOp}{r:R2}(ho:dO X (compareOp op) r)(ha:PE X a ta)(hb:PE X b tb)(hm:behindInMarks op b=false):PE X (.Compare a [op] [b] pos) (Km r ta tb):=by
 intro ao s Z H Q I h;exact wpAny_Compare1 (yW ha hb I h λv u s2 x y H2 I2 rx ry q=>ho ao s2 Z H2 x y v u Q I2 rx ry q) hm
noncomputable def Fq(t:TE):TT:=λZ H Q=>t Z H λx H'=>∃k,x=.bl k/\Q k H'
theorem zhT{op:CmpOp}{r:R2}(ho:dO X (compareOp op) r)(ha:PE X a ta)(hb:PE X b tb)(hm:behindInMarks op b=false):PT X (.Compare a [op] [b] pos) (Fq (Km r ta tb)):=by
 intro ao s Z H Q I h;refine wpAny_isTrue_Compare1 (bw (ha ao s Z H _ I h) λv s1 hx=>gH hx λx H1 I1 r1 q1=>bw (hb ao s1 Z H1 _ I1 q1) λu s2 hx=>gH hx λy H2 I2 r2 q2=>
  bw (ho ao s2 Z H2 x y v u _ I2 r1 r2 q2) λc s3 hx=>Nv hx λz H3 I3 r3 k e q3=>?_) hm
 subst e;cases r3;exact yw ⟨H3,I3,q3⟩
noncomputable def yZ(r r':R2)(ta tb tc:TE):TE:=λZ H Q=>ta Z H λx H1=>tb Z H1 λy H2=>r x y H2 λz H3=>∃k,z=.bl k /\
 (if k=true then tc Z H3 λw' H4=>r' y w' H4 Q else Q (.bl false) H3)
theorem zgy{op op':CmpOp}{r r':R2}(ho:dO X (compareOp op) r)(ho':dO X (compareOp op') r')(ha:PE X a ta)(hb:PE X b tb)(hc:PE X c tc)
  (hm:lastMarks [op,op'] [b,c]=false:=by with_unfolding_all rfl):PE X (.Compare a [op,op'] [b,c] pos) (yZ r r' ta tb tc):=by
 intro ao s Z H Q I h;refine Compare_chain (bw (ha ao s Z H _ I h) λv s1 hx=>gH hx λx H1 I1 r1 q1=>chain_link (bw (hb ao s1 Z H1 _ I1 q1) λu s2 hx=>gH hx λy H2 I2 r2 q2=>
  bw (ho ao s2 Z H2 x y v u _ I2 r1 r2 q2) λd s3 hx=>Nv hx λz H3 I3 r3 k e q3=>?_)) hm
 subst e;cases r3;refine yw ?_;cases k with
 |false=>exact ite_ff ⟨.bl false,H3,I3,rfl,q3⟩
 |true=>exact ite_tt (chain_last (bw (hc ao s3 Z H3 _ I3 q3) λw' s4 hx=>gH hx λz' H4 I4 r4 q4=>ho' ao s4 Z H4 y z' u w' Q I4 r2 r4 q4))
theorem jt:(sizeLine:Nat)<2^63:=by rw[uQ];decide
theorem zeo:dO X (binaryOp .Add) (λx y H Q=>∃i j,x=.str i/\y=.str j/\i.length+j.length<=sizeLine/\Q (.str (i++j)) H):=by
 intro ao s Z H x y v u Q I rx ry h;obtain⟨i,j,rfl,rfl,hz,q⟩:=h;obtain⟨t,rfl⟩:=rx;obtain⟨t',rfl⟩:=ry;exact add_str (λt' tk=>⟨.str (i++j),H,I.tok _,⟨_,rfl⟩,q⟩) hz
theorem vals1{x:V}{us:List Value}(r:Vals [x] us):∃u,us=[u]/\RelV x u:=by
 cases r with
 |cons r1 r2=>cases r2;exact⟨_,rfl,r1⟩
theorem vals2{x y:V}{us:List Value}(r:Vals [x,y] us):∃u w',us=[u,w']/\RelV x u/\RelV y w':=by
 cases r with
 |cons r1 r2=>
  cases r2 with
  |cons r3 r4=>cases r4;exact⟨_,_,rfl,r1,r3⟩
theorem zgL:cG X (.builtin "abs") (λxs H Q=>∃i,xs=[.int i]/\Q (.int (if i<0 then -i else i)) H):=by
 intro ao s Z H xs us Q I r h;obtain⟨i,rfl,q⟩:=h;obtain⟨u,rfl,t,rfl⟩:=vals1 r;exact call_abs_int λu tk=>⟨.int (if i<0 then -i else i),H,I.tok _,⟨_,rfl⟩,q⟩
theorem zeU(hc:X.aj=true):cG X (.builtin "max") (λxs H Q=>∃i j,xs=[.int i,.int j]/\Q (.int (if j>i then j else i)) H):=by
 intro ao s Z H xs us Q I r h;obtain⟨i,j,rfl,q⟩:=h;obtain⟨u,w',rfl,⟨t,rfl⟩,⟨t',rfl⟩⟩:=vals2 r;refine max_two_ints (I.ok.hd hc) λh' tk k=>⟨_,H,I.kept k,?_,q⟩;by_cases hj:j>i
 ·rw[if_pos hj,if_pos hj];exact⟨_,rfl⟩
 ·rw[if_neg hj,if_neg hj];exact⟨_,rfl⟩
theorem zfe(hc:X.aj=true):cG X (.builtin "min") (λxs H Q=>∃i j,xs=[.int i,.int j]/\Q (.int (if j<i then j else i)) H):=by
 intro ao s Z H xs us Q I r h;obtain⟨i,j,rfl,q⟩:=h;obtain⟨u,w',rfl,⟨t,rfl⟩,⟨t',rfl⟩⟩:=vals2 r;refine min_two_ints (I.ok.hd hc) λh' tk k=>⟨_,H,I.kept k,?_,q⟩;by_cases hj:j<i
 ·rw[if_pos hj,if_pos hj];exact⟨_,rfl⟩
 ·rw[if_neg hj,if_neg hj];exact⟨_,rfl⟩
theorem zfA:cG X (.type "int") (λxs H Q=>(∃i,xs=[.int i]/\Q (.int i) H)\/∃k,xs=[.bl k]/\Q (.int (if k then 1 else 0)) H):=by
 intro ao s Z H xs us Q I r h;rcases h with ⟨i,rfl,q⟩|⟨k,rfl,q⟩
 ·obtain⟨u,rfl,t,rfl⟩:=vals1 r;exact call_int_int ⟨.int i,H,I,⟨_,rfl⟩,q⟩
 ·obtain⟨u,rfl,r1⟩:=vals1 r;cases r1;exact call_int_bool ⟨.int (if k then 1 else 0),H,I.tok _,⟨_,rfl⟩,q⟩
theorem zdJ:cG X (.builtin "divmod") (λxs H Q=>∃i j,xs=[.int i,.int j]/\uY i j/\∀p,H p=none->Q (.ref p) (upd H p (.tup [.int (i/j),.int (i%j)]))):=by
 intro ao s Z H xs us Q I r h;obtain⟨i,j,rfl,⟨h1,h2⟩,q⟩:=h;obtain⟨u,w',rfl,⟨t,rfl⟩,⟨t',rfl⟩⟩:=vals2 r;refine divmod_int gV ?_ (.inl (PyProof.noPylong_small gV));rw[Int.fdiv_eq_ediv_of_nonneg i gV,Int.fmod_eq_emod_of_nonneg i gV];have hn:H s.heap.objs.size=none:=I.hok.fresh (cL _);refine⟨.ref s.heap.objs.size,_,?_,rfl,q _ hn⟩;refine I.laid (λb o e=>cO _ e) (cL _) ⟨by simp only[dB,qX];rw[uQ];decide,[.int (i/j) s.toks,.int (i%j) (s.toks+1)],.cons ⟨_,rfl⟩ (.cons ⟨_,rfl⟩ .nil),?_⟩;exact⟨_,fC s.heap rfl,rfl,0,rfl,rfl⟩
end
structure nO(h:Heap)(x dx C:Addr)(mA:Str->Option Value):Prop where
 obj:h.get? x=some (PySem.W.instObj C dx)
 ns:h.Ns1 dx mA
 ne:dx≠x
theorem ze1{h:Heap}{dx:Addr}{mA:Str->Option Value}(n:h.Ns1 dx mA):∃od,h.get? dx=some od/\∀name,PySem.W.lookIn name od=some (mA name):=by
 obtain⟨o,es,ep,ho,hd,hk,_,hm⟩:=n;refine⟨o,ho,λname=>?_⟩;have e:=hm name;unfold nsFind findBy at e;rw[<-Array.find?_toList] at e;unfold PySem.W.lookIn;rw[hd];dsimp only
 split
 ·rename_i y q;rw[q] at e;exact lW some e
 ·rename_i q;rw[q] at e;have a:es.toList.any (·.refKey)=false:=by
   rw[List.any_eq_false];intro y hy;obtain⟨z,t,Oq⟩:=hk y (Array.mem_toList_iff.mp hy);simp[DictEntry.refKey,Oq]
  have a':¬es.toList.any (·.refKey)=true:=by rw[a];exact wj
  rw[if_neg a'];exact lW some e
theorem nO.look{h:Heap}{x dx C:Addr}{mA:Str->Option Value}(I:nO h x dx C mA):∃od,PySem.W.InstAt h x (PySem.W.instObj C dx) C (some od)/\∀name,PySem.W.lookIn name od=some (mA name):=
 let ⟨od,ho,hl⟩:=ze1 I.ns
 ⟨od,⟨I.obj,rfl,rfl,ho⟩,hl⟩
section
variable {prog:Program}{w:World}{A:Around}{E:Value->Shared->Prop}{s:Shared}{K:W.Frag}{x dx C f:Addr}{mA:Str->Option Value}{name:Str}{v:Value}
theorem zhR{expr:Bool}{Q:Value->Shared->Prop}(X:K.In s.heap)(I:nO s.heap x dx C mA)(hg:PySem.W.plainGet K C name=true)(hh:PySem.W.hasDictIn K C=true)
  (ha:PySem.W.findIn K (.ref C) name=some none) (hv:mA name=some v) (Ot:PySem.W.handedIn v=true) (h:Q v {s with toks:=s.toks+1}) :
  wpAny (model prog w) A (getAttr (.ref x) name expr) Q E s:=by
 obtain⟨od,bF,hl⟩:=I.look;exact PySem.W.get_value X bF (M_ hg).1 (PySem.W.findObj_own hh ha rfl (by rw[hl,hv])) Ot h
theorem zgE{pl:Sem Bool}{Q:Value×List Value->Shared->Prop}(X:K.In s.heap)(I:nO s.heap x dx C mA)(hg:PySem.W.plainGet K C name=true)
  (hf:PySem.W.findIn K (.ref C) name=some (some (.ref f))) (ht:PySem.W.isFn K (.ref f)=true) (hv:mA name=none) (h:Q (.ref f,[.ref x]) s) :
  wpAny (model prog w) A (getMethod (.ref x) name pl) Q E s:=by
 obtain⟨od,bF,hl⟩:=I.look;exact PySem.W.method_fn X bF (M_ hg).1 (M_ hg).2 hf (m8.mp ht) (by show (PySem.W.lookIn name od).map (·.isSome)=some false;rw[hl,hv];rfl) h
theorem zhX{ns:List Str}{Q:Unit->Shared->Prop}(X:K.In s.heap)(I:nO s.heap x dx C mA)
  (hs:PySem.W.findIn K (.ref C) "__setattr__"=some (some (.builtin "object.__setattr__"))) (hp:PySem.W.plainOver K C=true) (ht:PySem.W.takerIn K C name=some none) (hh:PySem.W.hasDictIn K C=true)
  (hw:PySem.Within mA ns) (m9:ns.length<=sizeLine)
  (h:∀h',nO h' x dx C (λy=>if y=name then some v else mA y)->Heap.SameBut dx s.heap h'->Q () {s with heap:=h',toks:=s.toks+2}) :
  wpAny (model prog w) A (setAttr (.ref x) name v) Q E s:=by
 obtain⟨od,bF,hl⟩:=I.look;refine PySem.W.set_plain X bF hs (PySem.W.osa_open (s:={s with toks:=s.toks+1}) (r:=none) X bF hp ht λb=>?_);obtain⟨cd,hc,Ew⟩:=PySem.W.any_some hh;have hx:s.heap.get? x=some ⟨.ref C,some dx,.plain,#[]⟩:=I.obj;refine aA (aO (aA (aA (wpAny_loadPart hx (aA (PySem.W.Looks.here (s:={s with toks:=s.toks+1}) (PySem.W.looks_clsIn X hc) ?_))))));rw[Ew];refine aO (a:=some dx) (aA (aO (aA ?_)));refine wpAny_nsSet1 (s:={s with toks:=s.toks+1}) I.ns λh' VR wO=>?_;obtain⟨oD,esD,epD,hoD,hdD,hcD⟩:=VR.count (PySem.Within.cons name v hw);refine aA (wpAny_lookBehind hoD (by rw[hdD];exact pastItsLine_dict (lN hcD (by rw[dB];lia))) ?_);exact aO (h _ ⟨(wO.2 _ (Ne.symm I.ne)).trans I.obj,VR,I.ne⟩ wO)
theorem zhf{R:Result->Shared->Prop}{vs:List Value}{kw:List (Str×Value)}(X:K.In s.heap)(hm:PySem.W.makesIn K C=true)
  (hi:PySem.W.findIn K (.ref C) "__init__"=some (some (.ref f))) (hf:PySem.W.typeIn K (.ref f)=some (.type "function"))
  (h:codeAny (model prog w) (A.under (.builtin "type.__call__" ⟨.ref C::vs,kw⟩)) (.call (.ref f) ⟨.ref (s.heap.objs.size+1)::vs,kw⟩) (PySem.W.InitBack (s.heap.objs.size+1) R)
   {s with heap:=(s.heap.push PySem.W.emptyDict).push (PySem.W.instObj C s.heap.objs.size)}) :
  codeAny (model prog w) A (.call (.ref C) ⟨vs,kw⟩) R s:=by
 obtain⟨hh,g,d,t,os⟩:=s;exact PySem.W.make_core (PySem.W.makes_of X hm) (PySem.W.looks_findIn X hi) (λself=>PySem.W.bind_fn X self hf) (.inl rfl) h
end
noncomputable def eN(f:Str)(v:V):List (Str×V)->List (Str×V)
 |[]=>[(f,v)]
 |(g,x)::r=>if g=f then (g,v)::r else (g,x)::eN f v r
theorem V0(f g:Str)(v:V):∀fs:List (Str×V),(eN f v fs).lookup g=if g=f then some v else fs.lookup g
 |[]=>by
  show List.lookup g [(f,v)]=_;by_cases h:g=f
  ·have hb:(g==f)=true:=m8.mpr h;simp only[List.lookup,hb,if_pos h]
  ·have hb:(g==f)=false:=Br.mpr h;simp only[List.lookup,hb,if_neg h]
 |(k,x)::r=>by
  have ih:=V0 f g v r;rw[show eN f v ((k,x)::r)=(if k=f then (k,v)::r else (k,x)::eN f v r) from rfl];by_cases hk:k=f
  ·rw[if_pos hk];by_cases h:g=k
   ·have hb:(g==k)=true:=m8.mpr h;simp only[List.lookup,hb,if_pos (h.trans hk)]
   ·have hb:(g==k)=false:=Br.mpr h;simp only[List.lookup,hb,if_neg (λe:g=f=>h (e.trans hk.symm))]
  ·rw[if_neg hk];by_cases h:g=k
   ·have hb:(g==k)=true:=m8.mpr h;simp only[List.lookup,hb,if_neg (λe:g=f=>hk (h.symm.trans e))]
   ·have hb:(g==k)=false:=Br.mpr h;simp only[List.lookup,hb];exact ih
theorem Ou(f:Str)(v:V):∀fs:List (Str×V),f∈(eN f v fs).map (·.1)/\∀g,g∈fs.map (·.1)->g∈(eN f v fs).map (·.1)
 |[]=>⟨by simp[eN],λg h=>by simp at h⟩
 |(k,x)::r=>by
  obtain⟨i1,i2⟩:=Ou f v r;rw[show eN f v ((k,x)::r)=(if k=f then (k,v)::r else (k,x)::eN f v r) from rfl];by_cases hk:k=f
  ·rw[if_pos hk];subst hk;exact⟨by simp,λg h=>by simpa using h⟩
  ·rw[if_neg hk];refine⟨?_,λg h=>?_⟩
   ·rw[jq];exact iI _ i1
   ·rw[jq] at h ⊢;rcases gG.mp h with e|e
    ·exact gG.mpr (.inl e)
    ·exact iI _ (i2 g e)
theorem V1(f:Str)(v:V):∀fs:List (Str×V),(eN f v fs).length<=fs.length+1
 |[]=>by simp[eN]
 |(k,x)::r=>by
  have ih:=V1 f v r;rw[show eN f v ((k,x)::r)=(if k=f then (k,v)::r else (k,x)::eN f v r) from rfl];by_cases hk:k=f
  ·rw[if_pos hk,dB,dB];lia
  ·rw[if_neg hk,dB,dB];lia
theorem Kag{v:V}{o:Option Value}(r:qg (some v) o):∃u,o=some u/\RelV v u:=by
 cases o with
 |none=>exact(show False from r).elim
 |some u=>exact⟨u,rfl,r⟩
theorem Kaf{o:Option Value}(r:qg none o):o=none:=by
 cases o with
 |none=>rfl
 |some u=>exact(show False from r).elim
theorem zgf{v:V}{u:Value}(r:RelV v u):PySem.W.handedIn u=true:=by
 cases v with
 |non=>cases (show u=Value.none from r);rfl
 |bl b=>cases (show u=Value.bool b from r);rfl
 |int i=>obtain⟨t,e⟩:=(show ∃t,u=Value.int i t from r);cases e;rfl
 |str x=>obtain⟨t,e⟩:=(show ∃t,u=Value.str x t from r);cases e;rfl
 |Ep b=>obtain⟨t,e⟩:=(show ∃t,u=Value.bytes b t from r);cases e;rfl
 |flt b=>obtain⟨t,e⟩:=(show ∃t,u=Value.float b t from r);cases e;rfl
 |ref a=>cases (show u=Value.ref a from r);rfl
 |ty n=>cases (show u=Value.type n from r);rfl
section
variable {P:Program}{w:World}{H H':Hp}{h h':Heap}{a C dx:Addr}{fs fs':List (Str×V)}
theorem Ov(hok:g_ P w H h)(e:H a=some (.ins C dx fs)):∃mA,nO h a dx C mA/\(∀f,qg (fs.lookup f) (mA f))/\PySem.Within mA (fs.map (·.1))/\fs.length<=1000/\H dx=some (.own a):=by
 obtain⟨d,z,ne,ob,mA,n,r,q⟩:=(show bO P w H h a (.ins C dx fs) from hok a _ e);exact⟨mA,⟨ob,n,ne⟩,r,q,z,d⟩
end
structure Cls(K:W.Frag)(C:Addr):Prop where
 pg:PySem.W.plainGet K C Str.empty=true
 hd:PySem.W.hasDictIn K C=true
 po:PySem.W.plainOver K C=true
 sa:PySem.W.findIn K (.ref C) "__setattr__"=some (some (.builtin "object.__setattr__"))
theorem Cls.get{K:W.Frag}{C:Addr}(c:Cls K C)(f:Str):PySem.W.plainGet K C f=true:=c.pg
def fW(K:W.Frag)(C:Addr)(f:Str):Prop:=PySem.W.findIn K (.ref C) f=some none
theorem fW.taker{K:W.Frag}{C:Addr}{f:Str}(n:fW K C f):PySem.W.takerIn K C f=some none:=by
 unfold PySem.W.takerIn;rw[show PySem.W.findIn K (.ref C) f=some none from n];rfl
structure Meth(K:W.Frag)(C:Addr)(m:Str)(f:Addr):Prop where
 at_:PySem.W.findIn K (.ref C) m=some (some (.ref f))
 fn:PySem.W.isFn K (.ref f)=true
 kp:PySem.W.keepIn K (.ref f)=true
section
variable {X:Cx}{ao:List (Addr×Obj)}{Z:St}{H:Hp}{s:Shared}{a C dx:Addr}{fs:List (Str×V)}{f:Str}{v:V}{A:Around}{E:Value->Shared->Prop}
theorem zeB{b:Bool}{Q:Value->Shared->Prop}(I:Inv X ao Z H s)(e:H a=some (.ins C dx fs))(c:Cls X.K C)(n:fW X.K C f)(l:fs.lookup f=some v)
  (h:∀u s',Inv X ao Z H s'->RelV v u->Q u s'):wpAny (model X.prog X.w) A (getAttr (.ref a) f b) Q E s:=by
 obtain⟨mA,O,r,_,_,_⟩:=Ov I.hok e;obtain⟨u,hu,ru⟩:=Kag (v:=v) (o:=mA f) (by rw[<-l];exact r f);exact zhR I.nJ O (c.get f) c.hd n hu (zgf ru) (h u _ (I.tok _) ru)
theorem zeO{m:Str}{g:Addr}{pl:Sem Bool}{Q:Value×List Value->Shared->Prop}(I:Inv X ao Z H s)(e:H a=some (.ins C dx fs))(c:Cls X.K C)(k:Meth X.K C m g)(l:fs.lookup m=none)
  (h:Q (.ref g,[.ref a]) s):wpAny (model X.prog X.w) A (getMethod (.ref a) m pl) Q E s:=by
 obtain⟨mA,O,r,_,_,_⟩:=Ov I.hok e;have hn:mA m=none:=Kaf (by rw[<-l];exact r m);exact zgE I.nJ O (c.get m) k.at_ k.fn hn h
theorem zeC{y:V}{u:Value}{Q:Unit->Shared->Prop}(I:Inv X ao Z H s)(e:H a=some (.ins C dx fs))(c:Cls X.K C)(n:fW X.K C f)(hl:fs.length<1000)(ry:RelV y u)
  (h:∀s',Inv X ao Z (upd H a (.ins C dx (eN f y fs))) s'->Q () s'):wpAny (model X.prog X.w) A (setAttr (.ref a) f u) Q E s:=by
 obtain⟨mA,O,r,wi,_,ho⟩:=Ov I.hok e;have hz:(fs.map (·.1)).length<=sizeLine:=by rw[cY,uQ];lia
 refine zhX I.nJ O c.sa c.po n.taker c.hd wi hz λh' O' sb=>h _ ?_;have hd:∃o,h'.get? dx=some o:=let ⟨o,_,_,e',_⟩:=O'.ns;⟨o,e'⟩;refine I.write (x:=a) (e:=dx) (by rw[e];exact True.intro) (.inr ho) (λb q hb z=>(sb.2 b hb).trans z) hd ?_;refine⟨by rw[cX O.ne];exact ho,?_,O.ne,O'.obj,_,O'.ns,λg=>?_,λg hg=>?_⟩
 ·have:=V1 f y fs;lia
 ·show qg ((eN f y fs).lookup g) (if g=f then some u else mA g);rw[V0];by_cases q:g=f
  ·rw[if_pos q,if_pos q];exact ry
  ·rw[if_neg q,if_neg q];exact r g
 ·by_cases q:g=f
  ·rw[q];exact(Ou f y fs).1
  ·refine(Ou f y fs).2 g (wi g λz=>hg ?_);show (if g=f then some u else mA g)=none;rw[if_neg q];exact z
theorem Inv.made(I:Inv X ao Z H s):Inv X ao Z (upd (upd H s.heap.objs.size (.own (s.heap.objs.size+1))) (s.heap.objs.size+1) (.ins C s.heap.objs.size []))
  {s with heap:=(s.heap.push PySem.W.emptyDict).push (PySem.W.instObj C s.heap.objs.size)}:=by
 have e1:(s.heap.push PySem.W.emptyDict).get? s.heap.objs.size=some PySem.W.emptyDict:=fC s.heap rfl;have e2:((s.heap.push PySem.W.emptyDict).push (PySem.W.instObj C s.heap.objs.size)).get? (s.heap.objs.size+1)=some (PySem.W.instObj C s.heap.objs.size):=by
  have:=fC (s.heap.push PySem.W.emptyDict) (o:=PySem.W.instObj C s.heap.objs.size) rfl
  rwa [uo] at this
 have e3:(s.heap.push PySem.W.emptyDict).Ns s.heap.objs.size (λ_=>none):=⟨PySem.W.emptyDict,#[],_,e1,rfl,(λe he=>absurd he Qi),λ_=>rfl⟩;have I1:=I.laid (a:=s.heap.objs.size) (o:=.own (s.heap.objs.size+1)) (h':=s.heap.push PySem.W.emptyDict) (t':=s.toks) (λb u q=>cO _ q) (cL _) ⟨_,e1⟩;refine I1.laid (a:=s.heap.objs.size+1) (o:=.ins C s.heap.objs.size []) (t':=s.toks) (λb u q=>cO _ q) (Nat.le_of_eq (uo _ _)) ?_;have ne:s.heap.objs.size≠s.heap.objs.size+1:=dM (DN _);refine⟨by rw[cX ne,jH],uP _,ne,e2,λ_=>none,(Heap.Ns1.of_empty e3).at λo q=>cO _ q,λ_=>True.intro,λy hy=>absurd rfl hy⟩
theorem zi5{prog:Program}{w:World}{env:Env}{e:Expr}{f:Str}{pos:Pos}{s:Shared}{Q:Value->Shared->Prop}(hb:attributeBase e f env (eval e env)=eval e env)
  (h:wpAny (model prog w) A (eval e env) (λo s₁=>wpAny (model prog w) A (getAttr o f true) Q E s₁) E s):wpAny (model prog w) A (eval (.Attribute e f pos) env) Q E s:=
 Attribute_any_ h (by rw[arm_eval_Attribute,hb])
end
noncomputable def Ox(K:W.Frag)(ta:TE)(f:Str):TE:=λZ H Q=>ta Z H λx H1=>∃a C dx fs v,x=.ref a/\H1 a=some (.ins C dx fs)/\Cls K C/\fW K C f/\fs.lookup f=some v/\Q v H1
noncomputable def Oz(K:W.Frag)(ta tv:TE)(f:Str):TS:=λD Z H=>tv Z H λy H1=>ta Z H1 λx H2=>∃a C dx fs,x=.ref a/\H2 a=some (.ins C dx fs)/\Cls K C/\fW K C f/\fs.length<1000 /\
 D.nx Z (upd H2 a (.ins C dx (eN f y fs)))
section
variable {X:Cx}{o e value:Expr}{f:Str}{pos pos' tpos:Pos}{ta tv:TE}
theorem zke(he:PE X e ta)(hb:attributeBase e f X.env (eval e X.env)=eval e X.env):PE X (.Attribute e f pos) (Ox X.K ta f):=by
 intro ao s Z H Q I h;refine zi5 hb (bw (he ao s Z H _ I h) λu s1 hz=>?_);obtain⟨x,H1,I1,rx,a,C,dx,fs,v,ex,ea,c,n,l,q⟩:=hz;subst ex;obtain rfl:u=Value.ref a:=rx;exact zeB I1 ea c n l λu' s2 I2 ru=>⟨v,H1,I2,ru,q⟩
theorem zjZ(ha:PE X o ta)(hv:PE X value tv)(hs:swapsWith value (some (.Attribute o f pos')) pos.line X.env=pure false):PS X (.Assign [.Attribute o f pos'] value pos) (Oz X.K ta tv f):=by
 intro ao s Z H D I h;refine plainObj_wpAny_Assign_Attribute (bw (hv ao s Z H _ I h) λu s1 hx=>gH hx λy H1 I1 ry q=>bw (ha ao s1 Z H1 _ I1 q) λov s2 hz=>?_) hs;obtain⟨x,H2,I2,rx,a,C,dx,fs,ex,ea,c,n,l,q2⟩:=hz;subst ex;obtain rfl:ov=Value.ref a:=rx;exact zeC I2 ea c n l ry λs3 I3=>⟨Z,_,I3,q2⟩
end
structure bB(k:Nat)(A:Around):Prop where
 dp:A.depth+3*k+5<recursionLimit
 un:A.units+16*k+200<cLine
 gd:A.guards=some []
theorem bB.deeper{k:Nat}{A:Around}(r:bB (k+1) A)(env:Env):bB k (A.deeper env):=
 ⟨by have:=r.dp;show A.depth+1+3*k+5<_;lia,by have:=r.un;show A.units+3+16*k+200<_;lia,r.gd⟩
theorem zes{A:Around}{C:Addr}{us:List Value}{kw:List (Str×Value)}:(A.under (.builtin "type.__call__" ⟨.ref C::us,kw⟩)).depth=A.depth+1:=by
 first|rfl|simp[Around.under,Code.weight,Code.isCreation,Code.isGuard,Code.isCaller,Code.frames,Code.isFrame,guardIds]
theorem zeQ{A:Around}{C:Addr}{us:List Value}{kw:List (Str×Value)}:(A.under (.builtin "type.__call__" ⟨.ref C::us,kw⟩)).units=A.units+1:=by
 first|rfl|simp[Around.under,Code.cUnits,Code.frames,Code.isFrame]
theorem bB.depth{k:Nat}{A:Around}(r:bB k A):A.depth<recursionLimit:=by have:=r.dp;lia
noncomputable def OD:TA:=λ_ H Q=>Q [] H
noncomputable def Ft(ta:TE)(tr:TA):TA:=λZ H Q=>ta Z H λx H1=>tr Z H1 λxs H2=>Q (x::xs) H2
section
variable {X:Cx}{e:Expr}{es:List Expr}{te:TE}{t:TA}{pos:Pos}
theorem u5:PA X [] OD:=λ_ _ _ _ H Q I h=>Calls.spliced_nil ⟨[],H,I,.nil,h⟩
theorem oZ(ha:PE X e te)(hr:PA X es t)(hs:starEach (e::es) X.env=(false,eval e X.env)::starEach es X.env:=by rfl):PA X (e::es) (Ft te t):=by
 intro pos ao s Z H Q I h;rw[hs];show wpAny _ _ (spliced ((false,eval e X.env)::backTo pos (starEach es X.env))) _ _ s;refine Calls.spliced_cons (bw (ha ao s Z H _ I h) λu s1 hx=>gH hx λx H1 I1 r1 q1=>?_);exact bw (hr pos ao s1 Z H1 _ I1 q1) λus s2 hx=>gH hx λxs H2 I2 r2 q2=>⟨x::xs,H2,I2,.cons r1 r2,q2⟩
noncomputable def OJ(t:TA):TE:=λZ H Q=>t Z H λxs H1=>xs.length<=sizeLine/\∀p,H1 p=none->Q (.ref p) (upd H1 p (.tup xs))
noncomputable def O1(t:TA):TE:=λZ H Q=>t Z H λxs H1=>xs.length<=sizeLine/\∀p,H1 p=none->Q (.ref p) (upd H1 p (.lst xs))
theorem zjr{x1}(h:PA X es t):PE X (.Tuple es x1 pos) (OJ t):=by
 intro ao s Z H Q I hq;refine wpAny_Tuple_spliced (bw (h pos ao s Z H _ I hq) λus s1 ⟨xs,H1,I1,r,z,q⟩=>⟨by rw[<-r.length];exact z,?_⟩);have hf:H1 s1.heap.objs.size=none:=I1.hok.fresh (cL _);refine⟨.ref s1.heap.objs.size,upd H1 s1.heap.objs.size (.tup xs),I1.laid (t':=s1.toks) (λb u e=>cO _ e) (cL _) ?_,rfl,q _ hf⟩;exact⟨z,us,r,⟨_,fC _ rfl,rfl,_,rfl,rfl⟩⟩
theorem zkW(h:PA X es t):PE X (.List es pos) (O1 t):=by
 intro ao s Z H Q I hq;refine wpAny_List_spliced (bw (h pos ao s Z H _ I hq) λus s1 ⟨xs,H1,I1,r,z,q⟩=>⟨by rw[<-r.length];exact z,?_⟩);have hf:H1 s1.heap.objs.size=none:=I1.hok.fresh (cL _);refine⟨.ref s1.heap.objs.size,upd H1 s1.heap.objs.size (.lst xs),I1.laid (t':=s1.toks) (λb u e=>cO _ e) (cL _) ?_,rfl,q _ hf⟩;exact⟨z,us,0,r,fC _ rfl⟩
end
noncomputable abbrev Sp:=List V->Hp->VK->XK->Prop
noncomputable abbrev qj:=List Env->Hp->Shared->XK->Value->Shared->Prop
structure nP(P:Program)(w:World)(K:W.Frag)(mg:Str->Option Value)(base:Heap)(A:Around)(outer:List Env)(s:Shared)(H:Hp):Prop where
 frames:A.frames=some outer
 mod:Mod K mg base
 bs:∀b o,base.get? b=some o->s.heap.get? b=some o/\H b=none
 yQ:base.objs.size<=s.heap.objs.size
 jL:s.heap.FunFrames base outer
 Eu:∀b∈frs outer,H b=none
 hok:g_ P w H s.heap
 bare:AllBare s.gens
def CE(outer:List Env)(P:Program)(w:World)(H:Hp)(s:Shared)(Q:VK)(u:Value)(s':Shared):Prop:=
 ∃v H',s'.os=s.os/\AllBare s'.gens/\Un (frs outer) [] H H' s.heap s'.heap/\g_ P w H' s'.heap/\RelV v u/\Q v H'
def CR(CX:qj)(outer:List Env)(P:Program)(w:World)(H:Hp)(s:Shared)(Q:VK)(E:XK)(r:Result)(s':Shared):Prop:=
 match r with
 |.ok (.ret u)=>CE outer P w H s Q u s'
 |.ok _=>False
 |.error e=>CX outer H s E e s'
structure bY(P:Program)(w:World)(K:W.Frag)(mg:Str->Option Value)(base:Heap)(CX:qj)(cm:Bool)(k:Nat)(f:Addr)(fd:FuncData)(ps:List Str)(sp:Sp):Prop where
 len:∀vs H Q E,sp vs H Q E->vs.length=ps.length
 run:∀(A:Around) (outer:List Env) (s:Shared) (H:Hp) (args:Args) (us:List Value) (vs:List V) (Q:VK) (E:XK),(cm=true->A.handled=none)->bB k A->nP P w K mg base A outer s H->BindsTo s fd args (ps.zip us)->Vals vs us->sp vs H Q E->
  codeAny (model P w) A (.call (.ref f) args) (CR CX outer P w H s Q E) s
theorem bY.imp{P:Program}{w:World}{K:W.Frag}{mg:Str->Option Value}{base:Heap}{CX:qj}{cm:Bool}{k:Nat}{f:Addr}{fd:FuncData}{ps:List Str}{sp V2:Sp}(F:bY P w K mg base CX cm k f fd ps sp)
  (h:∀vs H Q E,V2 vs H Q E->sp vs H Q E):bY P w K mg base CX cm k f fd ps V2:=
 ⟨λvs H Q E q=>F.len vs H Q E (h _ _ _ _ q),λA outer s H args us vs Q E jd hr he hb hv hs=>F.run A outer s H args us vs Q E jd hr he hb hv (h _ _ _ _ hs)⟩
theorem nP.make{P:Program}{w:World}{K:W.Frag}{mg:Str->Option Value}{base:Heap}{A:Around}{outer:List Env}{s:Shared}{H:Hp}(e:nP P w K mg base A outer s H)(C:Addr)(us:List Value)(kw:List (Str×Value)) :
  nP P w K mg base (A.under (.builtin "type.__call__" ⟨.ref C::us,kw⟩)) outer s H:=⟨by first|exact e.frames|(simpa [Around.under,Code.envs,Code.isFrame,pushEnvs] using e.frames),e.mod,e.bs,e.yQ,e.jL,e.Eu,e.hok,e.bare⟩
section
variable {X:Cx}{ao:List (Addr×Obj)}{Z:St}{H:Hp}{s s':Shared}
theorem Inv.env0(I:Inv X ao Z H s):nP X.prog X.w X.K X.mg X.base X.A X.stack s H:=
 ⟨I.ok.frames,I.ok.mod,I.bs,lN I.ok.yQ I.sz,I.stack,I.kO,I.hok,I.bare⟩
theorem Inv.after{Q:VK}{u:Value}(I:Inv X ao Z H s)(h:CE X.stack X.prog X.w H s Q u s'):EP X ao Z Q u s':=by
 obtain⟨v,H',os,bare,un,hok,r,q⟩:=h;obtain⟨hh,g,d,t,os'⟩:=s';obtain rfl:os'=s.os:=os;exact⟨v,H',I.call (h':=hh) (g':=g) (d':=d) (t':=t) (ch:=[]) un hok bare (λb z=>absurd z Qi),r,q⟩
end
noncomputable def Fv(C:Addr)(m:Str)(sp:Sp)(mC:List V)(E:XK)(ta:TE)(t:TA):TE:=λZ H Q=>ta Z H λx H1=>∃a dx fs,x=.ref a/\H1 a=some (.ins C dx fs)/\fs.lookup m=none /\
 t Z H1 λvs H2=>sp (x::(vs++mC)) H2 Q E
noncomputable def Fw(C:Addr)(sp:Sp)(mC:List V)(E:XK)(t:TA):TE:=λZ H Q=>t Z H λvs H1=>∀x dx,H1 x=none->H1 dx=none->dx≠x->
 sp (.ref x::(vs++mC)) (upd (upd H1 dx (.own x)) x (.ins C dx [])) (λv H2=>v=.non/\Q (.ref x) H2) E
def Binds(K:W.Frag)(fd:FuncData)(ps:List Str)(ds:List Value):Prop:=
 ∀(s:Shared) (us:List Value),K.In s.heap->(us++ds).length=ps.length->BindsTo s fd ⟨us,[]⟩ (ps.zip (us++ds))
theorem Binds.all{K:W.Frag}{fd:FuncData}{ps:List Str}(h:∀us:List Value,us.length=ps.length->bindArgs fd ⟨us,[]⟩=pure (ps.zip us)):Binds K fd ps []:=λs us _ hl=>by
 rw[ug] at hl ⊢;exact .of_eq (h us hl)
def Passes(CX:qj)(X:Cx)(E:XK):Prop:=∀(ao:List (Addr×Obj)) (Z:St) (H:Hp) (s:Shared) (e:Value) (s':Shared),Inv X ao Z H s->CX X.stack H s E e s'->X.xe e s'
section
variable {X:Cx}{CX:qj}{cm:Bool}{k:Nat}{f C:Addr}{fd:FuncData}{ps:List Str}{sp:Sp}{mC:List V}{ds:List Value}{E:XK}{x m:Str}{p pos apos:Pos}{e o:Expr}{es:List Expr}{ta:TE}{t:TA}
theorem zkr{ao:List (Addr×Obj)}{Z:St}{H:Hp}{s:Shared}{Q:VK}{us:List Value}{vs:List V}(F:bY X.prog X.w X.K X.mg X.base CX cm k f fd ps sp)(jd:cm=true->X.aj=true)(hr:bB k X.A)(hb:Binds X.K fd ps ds)(hd:Vals mC ds)(hx:Passes CX X E)
  (I:Inv X ao Z H s) (r:Vals vs us) (h:sp (vs++mC) H Q E):wpAny (model X.prog X.w) X.A (call (.ref f) us) (EP X ao Z Q) X.xe s:=by
 have r2:Vals (vs++mC) (us++ds):=r.append hd;have hl:(us++ds).length=ps.length:=by rw[<-r2.length];exact F.len _ _ _ _ h
 refine wpAny_call (yI (F.run X.A X.stack s H ⟨us,[]⟩ (us++ds) (vs++mC) Q E (λz=>I.ok.hd (jd z)) hr I.env0 (hb s us I.nJ hl) r2 h) λr s' hq=>?_);cases r with
 |error e=>exact hx ao Z H s e s' I hq
 |ok fl=>
  cases fl with
  |ret u=>exact I.after hq
  |next=>exact False.elim hq
  |brk=>exact False.elim hq
  |cont=>exact False.elim hq
theorem ziC{pl:Sem Bool}(he:PE X o ta)(c:Cls X.K C)(hm:Meth X.K C m f)(F:bY X.prog X.w X.K X.mg X.base CX cm k f fd ps sp)(jd:cm=true->X.aj=true)(hr:bB k X.A)(hb:Binds X.K fd ps ds)(hd:Vals mC ds)(hx:Passes CX X E)(ha:PA X (e::es) t)
  (Oh:starEach (e::es) X.env=(false,eval e X.env)::starEach es X.env:=by rfl) (cP:(backTo pos (starEach es X.env)).any (·.1)=false:=by rfl)
  (ht:eval (.Call (.Attribute o m apos) (e::es) [] pos) X.env=(do
   let ov <-eval o X.env
   standAt apos.atName
   let (f,first) <-holding [ov] (getMethod ov m pl)
   callWith pos f first (backTo pos (starEach (e::es) X.env)) (backToKw pos (keywordEach [] X.env))):=by rfl) :
  PE X (.Call (.Attribute o m apos) (e::es) [] pos) (Fv C m sp mC E ta t):=by
 intro ao s Z H Q I h;refine PySem.W.methodCall_KW (pl:=pl) (bw (he ao s Z H _ I h) λu s1 hz=>?_) ht;obtain⟨x,H1,I1,rx,a,dx,fs,ex,ea,l,q⟩:=hz;subst ex;obtain rfl:u=Value.ref a:=rx;refine zeO I1 ea c hm l ?_;refine Nf (first:=[.ref a]) (h₀:=X.base) I.ok.mod.wG hm.kp (bw (ha pos ao s1 Z H1 _ I1 q) λus s2 ⟨vs,H2,I2,r,q2⟩=>⟨I2.nJ,?_⟩) Oh cP;exact zkr (us:=.ref a::us) (vs:=.ref a::vs) F jd hr hb hd hx I2 (.cons rfl r) q2
structure Mk(K:W.Frag)(C f:Addr):Prop where
 makes:PySem.W.makesIn K C=true
 init:PySem.W.findIn K (.ref C) "__init__"=some (some (.ref f))
 fn:PySem.W.isFn K (.ref f)=true
 kp:PySem.W.keepIn K (.ref C)=true
theorem zhc{ao:List (Addr×Obj)}{Z:St}{H:Hp}{s:Shared}{Q:VK}{us:List Value}{vs:List V}(M:Mk X.K C f)(F:bY X.prog X.w X.K X.mg X.base CX cm k f fd ps sp)(jd:cm=true->X.aj=true)(hr:∀us,bB k (X.A.under (.builtin "type.__call__" ⟨.ref C::us,[]⟩)))(hb:Binds X.K fd ps ds)(hd:Vals mC ds)
  (hx:Passes CX X E) (I:Inv X ao Z H s) (r:Vals vs us)
  (h:∀x dx,H x=none->H dx=none->dx≠x->sp (.ref x::(vs++mC)) (upd (upd H dx (.own x)) x (.ins C dx [])) (λv H2=>v=.non/\Q (.ref x) H2) E) :
  wpAny (model X.prog X.w) X.A (call (.ref C) us) (EP X ao Z Q) X.xe s:=by
 have hq:=h (s.heap.objs.size+1) s.heap.objs.size (I.hok.fresh (Nat.le_succ _)) (I.hok.fresh (cL _)) (dM (DN _));have I2:=Inv.made (C:=C) I;have r2:Vals (V.ref (s.heap.objs.size+1)::(vs++mC)) (Value.ref (s.heap.objs.size+1)::(us++ds)):=.cons rfl (r.append hd);have hl:(Value.ref (s.heap.objs.size+1)::us++ds).length=ps.length:=by
  have e:=r2.length;rw[F.len _ _ _ _ hq] at e;exact e.symm
 refine wpAny_call (zhf (f:=f) I.nJ M.makes M.init (m8.mp M.fn) (yI (F.run _ X.stack _ _ ⟨Value.ref (s.heap.objs.size+1)::us,[]⟩ (Value.ref (s.heap.objs.size+1)::(us++ds)) _ _ E (λz=>I.ok.hd (jd z)) (hr us)
  (I2.env0.make C us []) (hb _ (Value.ref (s.heap.objs.size+1)::us) I2.nJ hl) r2 hq) λr s' Fy=>?_))
 cases r with
 |error e=>exact hx ao Z _ _ e s' I2 Fy
 |ok fl=>
  cases fl with
  |ret u=>
   obtain⟨v,H',I3,rv,ev,q3⟩:=I2.after Fy;subst ev;exact⟨rv,⟨V.ref (s.heap.objs.size+1),H',I3,rfl,q3⟩⟩
  |next=>exact False.elim Fy
  |brk=>exact False.elim Fy
  |cont=>exact False.elim Fy
theorem zik(M:Mk X.K C f)(F:bY X.prog X.w X.K X.mg X.base CX cm k f fd ps sp)(jd:cm=true->X.aj=true)(hr:∀us,bB k (X.A.under (.builtin "type.__call__" ⟨.ref C::us,[]⟩)))(hg:Gl X x)(hm:X.mg x=some (.ref C))(hb:Binds X.K fd ps ds)(hd:Vals mC ds)(hx:Passes CX X E)
  (ha:PA X (e::es) t) (ql:(x==("__debug__" : Str))=false:=by decide) (he:starEach (e::es) X.env=(false,eval e X.env)::starEach es X.env:=by rfl) (cP:(backTo pos (starEach es X.env)).any (·.1)=false:=by rfl) :
  PE X (.Call (.Name x p) (e::es) [] pos) (Fw C sp mC E t):=by
 intro ao s Z H Q I h;refine Bw (N_ I hg hm ?_ ql);refine Nf (h₀:=X.base) I.ok.mod.wG M.kp (bw (ha pos ao s Z H _ I h) λus s1 ⟨vs,H1,I1,r,q⟩=>⟨I1.nJ,?_⟩) he cP;exact zhc M F jd hr hb hd hx I1 r q
end
structure cQ(N P:List Str)(sc:Scope):Prop where
 kind:sc.kind=.function
 co:sc.isCoroutine=false
 gen:sc.isGenerator=false
 nd:N.Nodup
 pre:N.take P.length=P
 par:∀x∈P,sc.names.lookup x=some .local\/sc.names.lookup x=some .cell
 zc:∀y∈sc.names,y.2≠.free
theorem V3{kindOf:Str->Option NameKind}{x:Str}:∀{binds:List (Str×Value)} {m:Str->Option Value},(∀v,(x,v)∉binds)->bindL kindOf binds m x=m x
 |[],_,_=>rfl
 |(n,v)::r,m,h=>by
  unfold bindL;rw[V3 λw hw=>h w (iI _ hw)]
  split
  ·have:x≠n:=by rintro rfl;exact h v lV
   simp[this]
  ·rfl
theorem V4{kindOf:Str->Option NameKind}{x:Str}:∀{binds:List (Str×Value)} {m:Str->Option Value},(∀v,(x,v)∉binds)->bindC kindOf binds m x=m x
 |[],_,_=>rfl
 |(n,v)::r,m,h=>by
  unfold bindC;rw[V4 λw hw=>h w (iI _ hw)]
  split
  ·rfl
  ·have:x≠n:=by rintro rfl;exact h v lV
   simp[this]
theorem V5{kindOf:Str->Option NameKind}{x:Str}{v:Value}:∀{P:List Str} {vs:List Value} {i:Nat} {m:Str->Option Value},P.Nodup->P[i]?=some x->vs[i]?=some v->kindOf x=some .local->
  bindL kindOf (P.zip vs) m x=some v
 |[],_,_,_,_,h,_,_=>by simp at h
 |_::_,[],_,_,_,_,h,_=>by simp at h
 |p::P,w::vs,0,m,nd,h1,h2,hk=>by
  simp at h1 h2;subst h1;subst h2;show bindL kindOf ((p,w)::P.zip vs) m p=_;unfold bindL;rw[V3 λv hv=>(uM.mp nd).1 (List.of_mem_zip hv).1,if_pos hk];simp
 |p::P,w::vs,i+1,m,nd,h1,h2,hk=>by
  show bindL kindOf ((p,w)::P.zip vs) m x=_;unfold bindL;exact V5 (i:=i) (uM.mp nd).2 (by simpa using h1) (by simpa using h2) hk
theorem V6{kindOf:Str->Option NameKind}{x:Str}{v:Value}:∀{P:List Str} {vs:List Value} {i:Nat} {m:Str->Option Value},P.Nodup->P[i]?=some x->vs[i]?=some v->kindOf x≠some .local->
  bindC kindOf (P.zip vs) m x=some v
 |[],_,_,_,_,h,_,_=>by simp at h
 |_::_,[],_,_,_,_,h,_=>by simp at h
 |p::P,w::vs,0,m,nd,h1,h2,hk=>by
  simp at h1 h2;subst h1;subst h2;show bindC kindOf ((p,w)::P.zip vs) m p=_;unfold bindC;rw[V4 λv hv=>(uM.mp nd).1 (List.of_mem_zip hv).1,if_neg hk];simp
 |p::P,w::vs,i+1,m,nd,h1,h2,hk=>by
  show bindC kindOf ((p,w)::P.zip vs) m x=_;unfold bindC;exact V6 (i:=i) (uM.mp nd).2 (by simpa using h1) (by simpa using h2) hk
noncomputable def start(N:List Str)(vs:List V):St:=vs.map some++List.replicate (N.length-vs.length) none
noncomputable def fD(CX:qj)(P:Program)(w:World)(K:W.Frag)(mg:Str->Option Value)(base:Heap)(N:List Str)(qual:Str)(scope:Scope)(f:Addr)(cd:Value)(A:Around)(outer:List Env)(s:Shared)(H:Hp)(E:XK)(cm:Bool):Cx where
 prog:=P
 w:=w
 K:=K
 mg:=mg
 base:=base
 A:=A.deeper (envOfC qual scope s.heap.objs.size f cd)
 N:=N
 s₀:=s
 H₀:=H
 env:=envOfC qual scope s.heap.objs.size f cd
 outer:=outer
 stack:=envOfC qual scope s.heap.objs.size f cd::outer
 ex:=[]
 aj:=cm
 fn:=λ_=>true
 pn:=[]
 xe:=λe s'=>wpAny (model P w) (A.deeper (envOfC qual scope s.heap.objs.size f cd)) (leaving (envOfC qual scope s.heap.objs.size f cd) e) (λ_ s''=>CX outer H s E e s'') (λe' s''=>CX outer H s E e' s'') s'
theorem V7{sc:Scope}{n:Nat}{x:Str}(h:sc.names.lookup x=some .cell):∃c,(cellsFrom n sc.names []).lookup x=some c:=by
 have q:=MP sc.names n [] (.inl h);exact Mw.mp q
theorem zfm{CX:qj}{P:Program}{w:World}{K:W.Frag}{mg:Str->Option Value}{base:Heap}{N ps:List Str}{qual:Str}{scope:Scope}{f:Addr}{cd:Value}{A:Around}{outer:List Env}{s s1:Shared}{H:Hp}{E:XK}{us:List Value}{vs:List V}
  {cm:Bool} (S:cQ N ps scope) (hd:cm=true->A.handled=none) (e0:nP P w K mg base A outer s H) (hl:vs.length=ps.length) (r:Vals vs us)
  (x:InCallC s s.heap.objs.size (bindL (envOfC qual scope s.heap.objs.size f cd).kindOf (ps.zip us) λ_=>none) (cellsFrom (s.heap.objs.size+1) scope.names []) (bindC (envOfC qual scope s.heap.objs.size f cd).kindOf (ps.zip us) λ_=>none) s1) :
  Inv (fD CX P w K mg base N qual scope f cd A outer s H E cm) [] (start N vs) H s1:=by
 have cP:ps.length<=N.length:=by have:=lW List.length S.pre;rw[wz] at this;lia
 obtain⟨h1,tk,rfl,hk⟩:=x.done;have Fz:∀b:Addr,b∉(fD CX P w K mg base N qual scope f cd A outer s H E cm).ex:=λb z=>absurd (show b∈([]:List Addr) from z) Qi;refine⟨⟨e0.mod,S.kind,rfl,rfl,cL _,λy z c h1 h2=>?_,λy hy=>?_,λy c _ h=>?_,hd,Around.frames_deeper e0.frames,.inr ⟨rfl,rfl⟩,λb z=>absurd z (Fz b),e0.bs,e0.yQ,λb _ _=>Fz b,λb z=>absurd z (Fz b),e0.jL,e0.Eu⟩,
  rfl,e0.bare,Un.kept hk,⟨_,x.toInCall.ns,λi y v h1 h2 h3=>?_⟩,λy c h=>⟨_,x.cell y c h⟩,e0.hok.fresh (cL _),λy c h=>?_,λp hp=>absurd (show p∈([]:List (Addr×Obj)) from hp) Qi,e0.hok.kept hk,?_⟩
 ·exact name_of_addr x.apart (Bs h1) (Bs h2)
 ·have hy:scope.names.lookup y=some .cell\/scope.names.lookup y=some .free:=hy;rcases hy with hy|hy
  ·exact V7 hy
  ·exact absurd rfl (S.zc _ (Bs hy))
 ·exact uN (x.above y c (Bs h))
 ·have hi:i<vs.length:=by
   unfold start at h2;by_cases hi:i<vs.length
   ·exact hi
   ·rw[nA (by simpa using hi)] at h2;rw[Dv] at h2;split at h2<;>cases h2
  have ha:vs[i]?=some v:=by
   unfold start at h2;rw[mZ (by simpa using hi),jo] at h2;cases e:vs[i]? with
   |none=>rw[e] at h2;cases h2
   |some a=>rw[e] at h2;cases h2;rfl
  obtain⟨u,hu,rv⟩:=r.get ha;have hp:ps[i]?=some y:=by
   rw[<-S.pre,List.getElem?_take_of_lt gV];exact h1
  have V8:ps.Nodup:=by rw[<-S.pre];exact S.nd.sublist (List.take_sublist _ _)
  refine⟨u,rv,?_⟩;rcases S.par y (gF hp) with k|k
  ·exact .inl ⟨k,V5 V8 hp hu k⟩
  ·obtain⟨c,e⟩:=V7 (n:=s.heap.objs.size+1) k;refine .inr ⟨.inl k,c,e,?_⟩;have q:=x.cell y c e;rw[V6 V8 hp hu (by show scope.names.lookup y≠_;rw[k];decide)] at q;exact q
 ·exact e0.hok.fresh (uN (x.above y c (Bs h)))
 ·unfold start;show _=N.length;rw[ji,cY,Dw]
  lia
theorem V9{CX:qj}{cm:Bool}{P:Program}{w:World}{K:W.Frag}{mg:Str->Option Value}{base:Heap}{k:Nat}{f:Addr}{name qual:Str}{params:Arguments}{body:List Stmt}{scope:Scope}{dV kV doc pm cdv ct oc:Value}{an od:Option Addr}
  {osl:Array (Option Value)} {N ps:List Str} {sp:Sp} (lk:K.lookup f=some ⟨oc,od,.func (PySem.W.fnOf name qual params body scope dV kV doc pm an cdv ct),osl⟩) (jN:PySem.W.codeIn K cdv qual=true) (S:cQ N ps scope)
  (len:∀vs H Q E,sp vs H Q E->vs.length=ps.length)
  (FJ:∀(A:Around) (outer:List Env) (s:Shared) (H:Hp) (vs:List V) (Q:VK) (E:XK),bB (k+1) A->sp vs H Q E->
   ∃t,oY (fD CX P w K mg base N qual scope f cdv A outer s H E cm) body t/\t {nx:=λ_ H'=>Q .non H',rt:=Q} (start N vs) H) :
  bY P w K mg base CX cm (k+1) f (PySem.W.fnOf name qual params body scope dV kV doc pm an cdv ct) ps sp:=by
 refine⟨len,λA outer s H args us vs Q E jd hr e0 hb r Cp=>?_⟩;have hl:=len _ _ _ _ Cp;have KX:K.In s.heap:=e0.mod.wG.keeps λb o e=>(e0.bs b o e).1;have lim:s.heap.NoLimit:=e0.mod.nolimit.keeps λb o e=>(e0.bs b o e).1;have FN:∀y∈ps.zip us,scope.names.lookup y.1=some .local\/(scope.names.lookup y.1=some .cell/\((cellsFrom (s.heap.objs.size+1) scope.names []).lookup y.1).isSome=true):=λ⟨n,v⟩ hy=>by
  rcases S.par n (List.of_mem_zip hy).1 with q|q
  ·exact .inl q
  ·exact .inr ⟨q,MP _ _ _ (.inl q)⟩
 refine codeAny_call_function hr.depth (KX _ _ lk) rfl S.co S.gen rfl (PySem.W.codeRec_of KX jN) (hb _ _ _ _ ?_);refine wpAny_newFunctionEnv_cells S.kind FN λenv he s1 x=>?_;subst he;refine⟨lim.keeps x.toInCall.keep,codeAny_func ?_⟩;obtain⟨t,ht,hq⟩:=FJ A outer s H vs Q E hr Cp;have I:Inv (fD CX P w K mg base N qual scope f cdv A outer s H E cm) [] (start N vs) H s1:=zfm S jd e0 hl r x;refine g8 (ht [] s1 (start N vs) H _ I hq) (λfl s' hs=>?_) λe s' hs=>hs;have fin:∀{Z':St} {H':Hp} {v:V} {u:Value},Inv (fD CX P w K mg base N qual scope f cdv A outer s H E cm) [] Z' H' s'->RelV v u->Q v H'->CE outer P w H s Q u s':=
  λ{Z' H' v u} bF rv q=>⟨v,H',bF.os,bF.bare,bF.base,bF.hok,rv,q⟩
 cases fl with
 |ret u=>
  obtain⟨v,Z',H',bF,rv,q⟩:=hs;exact fin bF rv q
 |next=>
  obtain⟨Z',H',bF,q⟩:=hs;exact fin (v:=V.non) (u:=Value.none) bF rfl q
 |brk=>
  obtain⟨_,_,_,q⟩:=hs;exact False.elim q
 |cont=>
  obtain⟨_,_,_,q⟩:=hs;exact False.elim q
section
variable {X:Cx}{x:Str}{p pos:Pos}{e:Expr}{es:List Expr}{t:TA}{id T:String}{r:List V->Hp->VK->Prop}
noncomputable def O2(r:List V->Hp->VK->Prop)(t:TA):TE:=λZ H Q=>t Z H λvs H1=>r vs H1 Q
theorem Kp(hc:cG X (.builtin id) r)(hg:Gl X x)(hm:X.mg x=none)(hv:bootBuiltins x=some (.builtin id))(ha:PA X (e::es) t)(hn:x≠"__name__":=by decide)(ql:(x==("__debug__" : Str))=false:=by decide)
  (he:starEach (e::es) X.env=(false,eval e X.env)::starEach es X.env:=by rfl) (cP:(backTo pos (starEach es X.env)).any (·.1)=false:=by rfl):PE X (.Call (.Name x p) (e::es) [] pos) (O2 r t):=by
 intro ao s Z H Q I h;refine Bw (wN I hg hm hv ?_ hn ql);exact PyProof.Rows.callWith_builtin1 (bw (ha pos ao s Z H _ I h) λus s1 hx=>gH hx λvs H1 I1 r1 q1=>hc ao s1 Z H1 vs us Q I1 r1 q1) he cP
theorem V_(hc:cG X (.type T) r)(hg:Gl X x)(hm:X.mg x=none)(hv:bootBuiltins x=some (.type T))(ha:PA X (e::es) t)(hn:x≠"__name__":=by decide)(ql:(x==("__debug__" : Str))=false:=by decide)
  (he:starEach (e::es) X.env=(false,eval e X.env)::starEach es X.env:=by rfl) (cP:(backTo pos (starEach es X.env)).any (·.1)=false:=by rfl):PE X (.Call (.Name x p) (e::es) [] pos) (O2 r t):=by
 intro ao s Z H Q I h;refine Bw (wN I hg hm hv ?_ hn ql);exact Bp (bw (ha pos ao s Z H _ I h) λus s1 hx=>gH hx λvs H1 I1 r1 q1=>hc ao s1 Z H1 vs us Q I1 r1 q1) he cP
end
end L2
namespace HT
open PySem PyProof.Rows
noncomputable def lexLt:List Int->List Int->Bool
 |[],[]=>false
 |[],_::_=>true
 |_::_,[]=>false
 |x::xs,y::ys=>if x=y then lexLt xs ys else decide (x<y)
theorem dR(x y:Int)(xs ys:List Int):lexLt (x::xs) (y::ys)=if x=y then lexLt xs ys else decide (x<y):=rfl
theorem zcp:lexLt [] []=false:=rfl
theorem zbP(y:Int)(ys:List Int):lexLt [] (y::ys)=true:=rfl
theorem zbQ(x:Int)(xs:List Int):lexLt (x::xs) []=false:=rfl
theorem O4(A:Around)(s:Shared)(a:Int)(t:Tok)(c:Int)(u:Tok):∃e,SeqAt.EqAt A s (.int a t) (.int c u) e/\(e=true↔a=c):=
 ⟨(a==c),SeqAt.EqAt.int_int a t c u,by simp⟩
theorem zgD(A:Around)(s:Shared)(a:Int)(t:Tok)(c:Int)(u:Tok)(prog:Program)(w:World)(E:Value->Shared->Prop)(Q:Value->Shared->Prop)(h:Q (.bool (decide (a<c))) s) :
  wpAny (model prog w) A (richCompare .Lt (.int a t) (.int c u)) Q E s:=
 (PyProof.Rows.lt_int h:wpAny (model prog w) A (compareOp .Lt (.int a t) (.int c u)) Q E s)
section
open PySem.SeqAt
open PySem.AutoSeq1 (wpAny_loadPart')
open PySem.MeetsSeq PySem.MeetsSeq2 PySem.MeetsSeq3
theorem zco(l b:Addr)(items items2:Array Value)(n n2:Nat)(dd dd2:Option Addr)(sl sl2:Array (Option Value))(ns ms:List Int)(hi:IntsAre items.toList ns)(hj:IntsAre items2.toList ms) :
  Meets (Builtin.«tuple.__lt__» ⟨[.ref l,.ref b],[]⟩)
   (λ_ R s=>s.heap.get? l=some {cls:=.type "tuple",dict:=dd,data:=.seq items n,slots:=sl}/\s.heap.get? b=some {cls:=.type "tuple",dict:=dd2,data:=.seq items2 n2,slots:=sl2} /\
    R (.ok (.ret (.bool (lexLt ns ms)))) s):=
 .of_wp λprog w A R s h=>by
  obtain⟨hp,g,d,tk,os⟩:=s;obtain⟨hl,hb,h⟩:=h;have f2:=Mx;have z1:items.size=ns.length:=by rw[<-hi.length];simp
  have z2:items2.size=ms.length:=by rw[<-hj.length];simp
  wp_walk using Bt hl,Bt hb,DP _ (λrest b s'=>b.1=none/\s'=⟨hp,g,d,tk,os⟩/\∃(vs ws:List Value) (ns' jX:List Int),rest=vs.zip ws /\
   IntsAre vs ns'/\IntsAre ws jX/\ns'.length+items2.size=jX.length+items.size/\R (.ok (.ret (.bool (lexLt ns' jX)))) ⟨hp,g,d,tk,os⟩) _
  case turn=>
   rintro⟨y,x⟩ rest b s' ⟨hb',rfl,vs,ws,ns',jX,hz,rH,o7,hlen,hR⟩;cases rH with
   |nil=>rw[JD] at hz;cases hz
   |cons a t rJ=>
    cases o7 with
    |nil=>rw[Jz] at hz;cases hz
    |cons c u rK=>
     rw[uI] at hz;injection hz with FP mD;injection FP with hy hx;subst hy hx;rw[dR] at hR;simp only[dB] at hlen;obtain⟨e,he,mF⟩:=O4 A.in1 ⟨hp,g,d,tk,os⟩ a t c u;refine aA (he prog w _ _ ?_);cases e with
     |true=>
      rw[if_pos (mF.mp rfl)] at hR
      wp_walk
      exact⟨rfl,rfl,_,_,_,_,mD,rJ,rK,by lia,hR⟩
     |false=>
      rw[if_neg (λq=>absurd (mF.mpr q) wj)] at hR;have FQ:=zgD A.in1 ⟨hp,g,d,tk,os⟩ a t c u prog w
      wp_walk using FQ
      exact⟨_,rfl,by simpa using hR⟩
  case fin=>
   rintro⟨b1,b2⟩ s' ⟨hb',rfl,vs,ws,ns',jX,hz,rH,o7,hlen,hR⟩;simp only at hb';subst hb';have hv:lexLt ns' jX=decide (items.size<items2.size):=by
    cases rH with
    |nil=>
     cases o7 with
     |nil=>
      simp only[qX] at hlen;rw[zcp];exact(oN gV).symm
     |cons c u hw=>
      simp only[qX,dB] at hlen;rw[zbP];exact(dZ gV).symm
    |cons a t hv=>
     cases o7 with
     |nil=>
      simp only[qX,dB] at hlen;rw[zbQ];exact(oN gV).symm
     |cons c u hw=>
      rw[uI] at hz;cases hz
   rw[hv] at hR
   wp_walk
   exact⟨_,rfl,by simpa [Builtin.Tuple.tupleCompareSizes] using hR⟩
  case h=>
   exact⟨rfl,rfl,items.toList,items2.toList,ns,ms,rfl,hi,hj,by lia,h⟩
end
section
variable {prog:Program}{w:World}{A:Around}{E:Value->Shared->Prop}{s:Shared}
theorem ju{l b:Addr}{items items2:Array Value}{ns ms:List Int}{Q:Value->Shared->Prop}(hl:IsTup s.heap l items)(hb:IsTup s.heap b items2)(hi:IntsAre items.toList ns)(hj:IntsAre items2.toList ms)
  (hu:A.units<cLine) (h:Q (.bool (lexLt ns ms)) s):wpAny (model prog w) A (compareOp .Lt (.ref l) (.ref b)) Q E s:=by
 obtain⟨⟨cls,dd,data,sl⟩,ho,hc,n,hd⟩:=id hl;obtain⟨⟨cls2,dd2,data2,sl2⟩,jO,lQ,n2,hd2⟩:=id hb;simp only at hc hd lQ hd2;subst hc hd lQ hd2;exact M4 (op:=.Lt) ⟨_,ho,rfl⟩ ⟨_,jO,rfl⟩ PySem.F.slot_tuple_lt PySem.F.entry_tuple_lt (PySem.F.args_tuple_lt_2 _ _) (zco l b items items2 n n2 dd dd2 sl sl2 ns ms hi hj)
  ⟨ho,jO,show Value.bool (lexLt ns ms)≠Value.notImplemented/\Q (.bool (lexLt ns ms)) s from ⟨(λx=>nomatch x),h⟩⟩ hu
theorem u6{t b:Addr}{vs ws:List Value}{Q:Value->Shared->Prop}(ht:IsTup s.heap t vs.toArray)(hb:IsTup s.heap b ws.toArray)(hv:vs≠[])
  (h1:ws=[]->Q (.ref t) s) (h2:ws≠[]->Q (.ref s.heap.objs.size) {s with heap:=s.heap.push {cls:=.type "tuple",data:=.seq (vs++ws).toArray}})
  (m9:vs.length+ws.length<=sizeLine):wpAny (model prog w) A (binaryOp .Add (.ref t) (.ref b)) Q E s:=by
 obtain⟨⟨cls,dd,data,sl⟩,ho,hc,n,hd⟩:=id ht;obtain⟨⟨cls2,dd2,data2,sl2⟩,jO,lQ,n2,hd2⟩:=id hb;simp only at hc hd lQ hd2;subst hc hd lQ hd2;have e:vs.toArray++ws.toArray=(vs++ws).toArray:=by simp
 by_cases hw:ws=[]
 ·exact concat_meets ⟨_,ho,rfl⟩ ⟨_,jO,rfl⟩ noFill_tuple_add seq_tuple_add M5 MK (Mz _ _)
   (tuple_addW1 t b vs.toArray ws.toArray n n2 dd dd2 sl sl2 (by simpa using hv) (by simp[hw])) ⟨ho,jO,h1 hw⟩
 ·refine concat_meets ⟨_,ho,rfl⟩ ⟨_,jO,rfl⟩ noFill_tuple_add seq_tuple_add M5 MK (Mz _ _)
   (tuple_addW2 t b vs.toArray ws.toArray n n2 dd dd2 sl sl2 (by simpa using hv) (by simpa using hw) (by rw[gW,gW];exact m9)) ⟨ho,jO,?_⟩
  rw[e];exact h2 hw
noncomputable def bQ(n d:Nat):Option Int->Nat
 |none=>d
 |some v=>if v<0 then (v+(n:Int)).toNat else min v.toNat n
theorem rM(n d:Nat):bQ n d none=d:=rfl
theorem u9(n d k:Nat):bQ n d (some (k:Int))=min k n:=by
 show (if (k:Int)<0 then ((k:Int)+(n:Int)).toNat else min (k:Int).toNat n)=min k n;rw[if_neg gV,ud]
theorem zkK(n d:Nat)(hd:d<=n)(o:Option Int):bQ n d o<=n:=by
 cases o with
 |none=>exact hd
 |some v=>
  show (if v<0 then (v+(n:Int)).toNat else min v.toNat n)<=n;by_cases hv:v<0
  ·rw[if_pos hv];lia
  ·rw[if_neg hv];exact Nat.min_le_right _ _
theorem Wa(v:Int)(n d:Nat):(if v<0 then max (v+(n:Int)) 0 else min v (n:Int))=((bQ n d (some v):Nat):Int):=by
 show (if v<0 then max (v+(n:Int)) 0 else min v (n:Int))=(((if v<0 then (v+(n:Int)).toNat else min v.toNat n):Nat):Int);by_cases hv:v<0
 ·simp only[if_pos hv];lia
 ·simp only[if_neg hv];lia
theorem zeI(lo hi:Option Int)(n:Nat):Builtin.Slice.sliceAdjust lo hi 1 (n:Int)=(((bQ n 0 lo:Nat):Int),((bQ n n hi:Nat):Int)):=by
 have h1:¬((1:Int)<0):=by lia
 unfold Builtin.Slice.sliceAdjust;simp only[h1,qd];refine Prod.ext ?_ ?_
 ·cases lo with
  |none=>rfl
  |some v=>exact Wa v n 0
 ·cases hi with
  |none=>rfl
  |some v=>exact Wa v n n
theorem zew(i j:Nat):Builtin.Slice.slicePlaces (i:Int) (j:Int) 1=j-i:=by
 unfold Builtin.Slice.slicePlaces;have h1:(1:Int)>0:=by lia
 simp only[h1,if_true,Int.ediv_one]
 split<;>lia
theorem Wb{v:Value}{o:Option Int}{Q:Option Int->Shared->Prop}(p:IsPart v o)(h:Q o s):wpAny (model prog w) A (Builtin.Slice.slicePartIndex v) Q E s:=by
 cases p with
 |none=>exact slicePart_none h
 |int i t=>exact slicePart_int h
theorem Wc{sl:Addr}{vl vu:Value}{lo hi:Option Int}{n:Nat}{Q:Int×Int×Nat->Shared->Prop}(hs:s.heap.IsSliceOf sl vl vu .none)(pl:IsPart vl lo)(pu:IsPart vu hi)
  (h:Q (((bQ n 0 lo:Nat):Int),1,bQ n n hi-bQ n 0 lo) s):wpAny (model prog w) A (Builtin.Slice.sliceApplied (.ref sl) (pure (n:Int))) Q E s:=by
 obtain⟨os,zj,Kq,FT⟩:=id hs;unfold Builtin.Slice.sliceApplied Builtin.Slice.sliceFields;refine aA (aA (lO zj FT (x:=vl) rfl (aA (lO zj FT (x:=vu) rfl (aA (lO zj FT (x:=.none) rfl (aO ?_)))))));refine aA (slicePart_none ?_);show wpAny _ _ (if ((1:Int)==0)=true then _ else _) _ _ s;rw[if_neg J0];refine aA (Wb pl (aA (Wb pu (aA (aO ?_)))));show wpAny _ _ (match Builtin.Slice.sliceAdjust lo hi 1 (n:Int) with|(lo,hi)=>pure (lo,(1:Int),Builtin.Slice.slicePlaces lo hi 1)) _ _ s;rw[zeI lo hi n];show wpAny _ _ (pure (((bQ n 0 lo:Nat):Int),(1:Int),Builtin.Slice.slicePlaces ((bQ n 0 lo:Nat):Int) ((bQ n n hi:Nat):Int) 1)) _ _ s;rw[zew];exact aO h
theorem zgR(xs:Array Value)(i k:Nat):((List.range k).filterMap λ(m:Nat)=>xs[((i:Int)+(m:Int)*1).toNat]?).toArray=((xs.toList.drop i).take k).toArray:=by
 have e:(λ(m:Nat)=>xs[((i:Int)+(m:Int)*1).toNat]?)=λm=>xs[i+m]?:=by
  funext m
  have:((i:Int)+(m:Int)*1).toNat=i+m:=by lia
  rw[this]
 rw[e];have:=pick_run xs i k;rw[List.filterMap_map] at this;have e2:((λx=>xs[x]?)∘λx=>i+x)=λm=>xs[i+m]?:=rfl;rw[e2] at this;rw[this]
theorem gK{t sl:Addr}{items:Array Value}{vl vu:Value}{lo hi:Option Int}{Q:Value->Shared->Prop}(ht:IsTup s.heap t items)(hs:s.heap.IsSliceOf sl vl vu .none)(pl:IsPart vl lo)(pu:IsPart vu hi)
  (hw:¬(bQ items.size 0 lo=0/\bQ items.size items.size hi=items.size))
  (h:Q (.ref s.heap.objs.size) {s with heap:=s.heap.push {cls:=.type "tuple",data:=.seq ((items.toList.drop (bQ items.size 0 lo)).take (bQ items.size items.size hi-bQ items.size 0 lo)).toArray}})
  (m9:items.size<=sizeLine):wpAny (model prog w) A (getItem (.ref t) (.ref sl)) Q E s:=by
 have o8:sizeOk (.seq ((items.toList.drop (bQ items.size 0 lo)).take (bQ items.size items.size hi-bQ items.size 0 lo)).toArray):=by
  show ((items.toList.drop (bQ items.size 0 lo)).take (bQ items.size items.size hi-bQ items.size 0 lo)).toArray.size<=sizeLine;rw[gW,wz,List.length_drop,yu]
  lia
 have hj:bQ items.size items.size hi<=items.size:=zkK _ _ (cL _) hi;obtain⟨os,zj,Kq,FT⟩:=id hs;have O5:s.TypeIs (.ref sl) "slice":=⟨os,zj,Kq⟩;unfold getItem
 try with_reducible refine m6 ?_
 first|refine aA (aO ?_)|skip
 refine aA (wpAny_sequenceKey ht.typeIs J0 ?_);refine aA (yp (name:=Str.ofString "__getitem__") ht.typeIs Bo
  (yC Bo ht.typeIs entry_tuple_getitem ?_ (args_tuple_getitem _ _)))
 show wpAny _ _ (Builtin.Tuple.tupleItemsOf (.ref t) >>= _) _ _ s;refine aA (tupleItemsOf_ ht ?_);refine aA (B_ O5 ?_);rw[if_pos J0];refine aA (Wc hs pl pu ?_);have O6:¬((((bQ items.size 0 lo:Nat):Int)==0&&(1:Int)==1&&(bQ items.size items.size hi-bQ items.size 0 lo)==items.size)=true):=by
  intro q;rw[gq,gq] at q;have q1:((bQ items.size 0 lo:Nat):Int)=0:=eq_of_beq q.1.1;have q2:bQ items.size items.size hi-bQ items.size 0 lo=items.size:=eq_of_beq q.2;exact hw ⟨by lia,by lia⟩
 show wpAny _ _ (if (((bQ items.size 0 lo:Nat):Int)==0&&(1:Int)==1&&(bQ items.size items.size hi-bQ items.size 0 lo)==items.size)=true then _ else _) _ _ s;rw[if_neg O6,zgR]
 first
  |exact aA (m:=Builtin.Tuple.tupleExact _) (qb (aO ⟨_,rfl,aO h⟩) o8)
  |exact aA (m:=Builtin.Tuple.tupleExact _) (qb (aA (aO (aO ⟨_,rfl,aO h⟩))) o8)
  |exact aA (aA (m:=Builtin.Tuple.tupleExact _) (qb (aO (aO ⟨_,rfl,aO h⟩)) o8))
  |exact aA (aA (m:=Builtin.Tuple.tupleExact _) (qb (aO ⟨_,rfl,aO h⟩) o8))
end
end HT
namespace L2
open PySem PySem.Spec PyProof.Rows
noncomputable abbrev TO:=St->Hp->(Option Int->Hp->Prop)->Prop
def PO(X:Cx)(e:Option Expr)(t:TO):Prop:=
 ∀(ao:List (Addr×Obj)) (s:Shared) (Z:St) (H:Hp) (Q:Option Int->Hp->Prop),Inv X ao Z H s->t Z H Q->
  wpAny (model X.prog X.w) X.A (evalPart e X.env) (λu s'=>∃o H',Inv X ao Z H' s'/\IsPart u o/\Q o H') X.xe s
noncomputable def u_:TO:=λ_ H Q=>Q none H
noncomputable def FW(t:TE):TO:=λZ H Q=>t Z H λx H1=>∃i,x=.int i/\Q (some i) H1
theorem Cq{ns:List Int}:∀{us:List Value},Vals (ns.map V.int) us->IntsAre us ns:=by
 induction ns with
 |nil=>intro us r;rw[List.map_nil] at r;cases r;exact .nil
 |cons n ns ih=>
  intro us r;rw[jq] at r;cases r with
  |cons r1 r2=>
   obtain⟨t,e⟩:=r1;subst e;exact .cons n t (ih r2)
section
variable {X:Cx}{e:Expr}{te:TE}{lo hi:Option Expr}{tl th:TO}{pos p2:Pos}
theorem ziK:PO X none u_:=by
 intro ao s Z H Q I h;rw[evalPart_none];exact aO ⟨none,H,I,.none,h⟩
theorem ziP(h:PE X e te):PO X (some e) (FW te):=by
 intro ao s Z H Q I hw;rw[evalPart_some];refine bw (h ao s Z H _ I hw) λu s1 hx=>gH hx λx H1 I1 r1 q1=>?_;obtain⟨i,rfl,q⟩:=q1;obtain⟨t,rfl⟩:=r1;exact⟨some i,H1,I1,.int i t,q⟩
def vd(X:Cx)(r:V->Option Int->Option Int->Hp->VK->Prop):Prop:=
 ∀(ao:List (Addr×Obj)) (s:Shared) (Z:St) (H:Hp) (x:V) (v vl vu:Value) (lo hi:Option Int) (sl:Addr) (Q:VK),Inv X ao Z H s->RelV x v->s.heap.IsSliceOf sl vl vu .none->IsPart vl lo->IsPart vu hi->r x lo hi H Q->
  ∃T id,typeLookup (.type T) "__getitem__"=pure (some (.builtin id))/\s.TypeIs v T/\wpAny (model X.prog X.w) X.A (getItem v (.ref sl)) (EP X ao Z Q) X.xe s
theorem vd.or{r r':V->Option Int->Option Int->Hp->VK->Prop}(h:vd X r)(h':vd X r'):vd X (λx lo hi H Q=>r x lo hi H Q\/r' x lo hi H Q):=by
 intro ao s Z H x v vl vu lo hi sl Q I rx hs pl pu q;rcases q with q|q
 ·exact h ao s Z H x v vl vu lo hi sl Q I rx hs pl pu q
 ·exact h' ao s Z H x v vl vu lo hi sl Q I rx hs pl pu q
noncomputable def tSl(r:V->Option Int->Option Int->Hp->VK->Prop)(te:TE)(tl th:TO):TE:=λZ H Q=>te Z H λx H1=>tl Z H1 λl H2=>th Z H2 λu H3=>r x l u H3 Q
theorem zgi{r:V->Option Int->Option Int->Hp->VK->Prop}(hr:vd X r)(he:PE X e te)(hl:PO X lo tl)(hu:PO X hi th):PE X (.Subscript e (.Slice lo hi none p2) pos) (tSl r te tl th):=by
 intro ao s Z H Q I h;refine Subscript_ (bw (he ao s Z H _ I h) λv s1 hx=>gH hx λx H1 I1 r1 q1=>?_);refine wpAny_Slice (bw (hl ao s1 Z H1 _ I1 q1) λvl s2 hx=>gH hx λl H2 I2 pl q2=>bw (hu ao s2 Z H2 _ I2 q2) λvu s3 hx=>gH hx λu H3 I3 pu q3=>?_);rw[evalPart_none];refine aO ?_;have I4:Inv X ao Z H3 {s3 with heap:=s3.heap.push {cls:=.type "slice",data:=.fields #[vl,vu,.none]}}:=I3.kept (t':=s3.toks) λb ob q=>cO _ q;obtain⟨T,id,hT,ht,hg⟩:=hr ao {s3 with heap:=s3.heap.push {cls:=.type "slice",data:=.fields #[vl,vu,.none]}} Z H3 x v vl vu l u s3.heap.objs.size Q I4 r1 (Heap.IsSliceOf.new ..) pl pu q3;show wpAny (model X.prog X.w) X.A (subscriptTail e (.Slice lo hi none p2) v (.ref s3.heap.objs.size)) (EP X ao Z Q) X.xe {s3 with heap:=s3.heap.push {cls:=.type "slice",data:=.fields #[vl,vu,.none]}};exact tail_any (ops:=[.ref s3.heap.objs.size,v]) ht hT hg (by with_unfolding_all rfl)
noncomputable def kY(xs:List V)(lo hi:Option Int):List V:=(xs.drop (HT.bQ xs.length 0 lo)).take (HT.bQ xs.length xs.length hi-HT.bQ xs.length 0 lo)
theorem Wd(xs:List V)(lo hi:Option Int):(kY xs lo hi).length<=xs.length:=by
 unfold kY;rw[wz,List.length_drop]
 lia
noncomputable def O7(K:W.Frag):V->Option Int->Option Int->Hp->VK->Prop:=λx lo hi H Q=>∃a xs,x=.ref a/\fV K H a xs /\
 ¬(HT.bQ xs.length 0 lo=0/\HT.bQ xs.length xs.length hi=xs.length)/\∀p,H p=none->Q (.ref p) (upd H p (.tup (kY xs lo hi)))
theorem zlj:vd X (O7 X.K):=by
 intro ao s Z H x v vl vu lo hi sl Q I rx hs pl pu h;obtain⟨a,xs,rfl,hx,hw,q⟩:=h;cases rx;obtain⟨its,r,ht,hz⟩:=I.tuple hx;have hlen:its.toArray.size=xs.length:=by rw[gW];exact r.length.symm
 refine⟨"tuple",_,Bo.lookup,ht.typeIs,?_⟩;refine HT.gK ht hs pl pu (by rw[hlen];exact hw) ?_ (by rw[hlen];exact hz);rw[hlen];refine⟨.ref s.heap.objs.size,_,I.laid (t':=s.toks) (o:=.tup (kY xs lo hi)) (λb ob q=>cO _ q) (cL _) ?_,rfl,q _ (I.hok.fresh (cL _))⟩;exact⟨lN (Wd xs lo hi) hz,_,(r.drop (HT.bQ xs.length 0 lo)).take (HT.bQ xs.length xs.length hi-HT.bQ xs.length 0 lo),jJ.new _ _⟩
noncomputable def FZ(K:W.Frag):R2:=λx y H Q=>∃a b ns ms,x=.ref a/\y=.ref b/\fV K H a (ns.map V.int)/\fV K H b (ms.map V.int)/\Q (.bl (HT.lexLt ns ms)) H
theorem zj3(hu:X.A.units<cLine):dO X (compareOp .Lt) (FZ X.K):=by
 intro ao s Z H x y v u Q I rx ry h;obtain⟨a,b,ns,ms,rfl,rfl,ha,hb,q⟩:=h;cases rx;cases ry;obtain⟨its,r1,p1,_⟩:=I.tuple ha;obtain⟨its2,r2,p2,_⟩:=I.tuple hb;have i1:IntsAre its.toArray.toList ns:=Cq r1;have i2:IntsAre its2.toArray.toList ms:=Cq r2;exact HT.ju p1 p2 i1 i2 hu ⟨.bl (HT.lexLt ns ms),H,I,rfl,q⟩
theorem Vals.kZ{xs:List V}{us:List Value}(r:Vals xs us):us=[]↔xs=[]:=by
 cases r with
 |nil=>simp
 |cons _ _=>simp
end
noncomputable def rN(n:Nat)(i:Int):Option Nat:=if 0<=i then (if i<n then some i.toNat else none) else if -(n:Int)<=i then some (i+n).toNat else none
noncomputable def o9{α:Type}(xs:List α)(i:Int):Option α:=(rN xs.length i).bind λj=>xs[j]?
theorem Wf{n:Nat}{i:Int}{j:Nat}(h:rN n i=some j):seqIndex? i n=some j/\j<n/\-(n:Int)<=i/\i<n:=by
 unfold rN at h;by_cases h0:0<=i
 ·rw[if_pos h0] at h;by_cases h1:i<n
  ·rw[if_pos h1] at h;have e:i.toNat=j:=dJ h;exact⟨by rw[seqIndex_of h0 h1,e],by lia,by lia,h1⟩
  ·rw[if_neg h1] at h;cases h
 ·rw[if_neg h0] at h;by_cases h1 : -(n:Int)<=i
  ·rw[if_pos h1] at h;have e:(i+n).toNat=j:=dJ h;exact⟨by rw[seqIndex_neg gV h1,e],by lia,h1,by lia⟩
  ·rw[if_neg h1] at h;cases h
theorem O8{α:Type}{xs:List α}{i:Int}{v:α}(h:o9 xs i=some v):∃j,seqIndex? i xs.length=some j/\xs[j]?=some v/\j<xs.length/\-(xs.length:Int)<=i/\i<xs.length:=by
 unfold o9 at h;cases e:rN xs.length i with
 |none=>rw[e] at h;cases h
 |some j=>
  rw[e] at h;obtain⟨h1,h2,h3,h4⟩:=Wf e;exact⟨j,h1,h,h2,h3,h4⟩
def o_(b:Expr):Prop:=∀o i,subscripted b false o i=operate [o,i] (getItem o i)
def vf(X:Cx)(r:R2):Prop:=
 ∀(value slice:Expr) (ao:List (Addr×Obj)) (s:Shared) (Z:St) (H:Hp) (x y:V) (v u:Value) (Q:VK),Inv X ao Z H s->RelV x v->RelV y u->r x y H Q->
  subscripted slice false v u=operate [v,u] (getItem v u)->wpAny (model X.prog X.w) X.A (subscriptTail value slice v u) (EP X ao Z Q) X.xe s
section
variable {X:Cx}{a b:Expr}{ta tb:TE}{pos:Pos}
theorem vf.or{r r':R2}(h:vf X r)(h':vf X r'):vf X (λx y H Q=>r x y H Q\/r' x y H Q):=by
 intro value slice ao s Z H x y v u Q I rx ry q hs;rcases q with q|q
 ·exact h value slice ao s Z H x y v u Q I rx ry q hs
 ·exact h' value slice ao s Z H x y v u Q I rx ry q hs
theorem zlP{r:R2}(hr:vf X r)(ha:PE X a ta)(hb:PE X b tb)(hs:o_ b):PE X (.Subscript a b pos) (Km r ta tb):=by
 intro ao s Z H Q I h;exact Subscript_ (yW ha hb I h λv u s2 x y H2 I2 rx ry q=>hr a b ao s2 Z H2 x y v u Q I2 rx ry q (hs _ _))
noncomputable def Ga(K:W.Frag):R2:=λx y H Q=>∃p xs i v,x=.ref p/\y=.int i/\eE K H p xs/\o9 xs i=some v/\Q v H
noncomputable def Gb(K:W.Frag):R2:=λx y H Q=>∃p xs i v,x=.ref p/\y=.int i/\fV K H p xs/\o9 xs i=some v/\Q v H
noncomputable def Gd:R2:=λx y H Q=>∃z i c,x=.str z/\y=.int i/\z.length<=sizeLine/\o9 z.cps.toList i=some c/\Q (.str ⟨#[c]⟩) H
theorem vg:vf X (Ga X.K):=by
 intro value slice ao s Z H x y v u Q I rx ry h hs;obtain⟨p,xs,i,z,rfl,rfl,hq,he,q⟩:=h;cases rx;obtain⟨t,rfl⟩:=ry;obtain⟨its,r,pl,hz⟩:=I.list hq;obtain⟨j,h1,h2,h3,h4,h5⟩:=O8 he;obtain⟨w,ew,mz⟩:=r.get h2;have hl:=r.length;have hn:=jt;have fin:EP X ao Z Q w s:=⟨z,H,I,mz,q⟩;by_cases h0:0<=i
 ·have hj:i.toNat=j:=by
   rw[seqIndex_of h0 h5] at h1;exact dJ h1
  exact item_listR pl.isList h0 gV (by rw[hj];simpa using ew) fin hs
 ·have hj:(i+(its.toArray.size:Int)).toNat=j:=by
   rw[seqIndex_neg gV h4] at h1;rw[gW,<-hl];exact dJ h1
  exact subscriptTail_builtinR (x:=w) pl.isList.typeIs slot_list_getitem.lookup
   (wpAny_getItem_list_neg (Q:=λr s'=>r=w/\EP X ao Z Q r s') pl.isList gV (by rw[gW]<;>lia) gV (by rw[hj];simpa using ew) ⟨rfl,fin⟩) hs
theorem zm:vf X (Gb X.K):=by
 intro value slice ao s Z H x y v u Q I rx ry h hs;obtain⟨p,xs,i,z,rfl,rfl,hq,he,q⟩:=h;cases rx;obtain⟨t,rfl⟩:=ry;obtain⟨its,r,pl,hz⟩:=I.tuple hq;obtain⟨j,h1,h2,h3,h4,h5⟩:=O8 he;obtain⟨w,ew,mz⟩:=r.get h2;have hl:=r.length;have hn:=jt;have fin:EP X ao Z Q w s:=⟨z,H,I,mz,q⟩;exact subscriptTail_builtinR (x:=w) pl.typeIs slot_tuple_getitem.lookup
  (getItem_tuple (j:=j) (Q:=λr s'=>r=w/\EP X ao Z Q r s') pl gV gV (by rw[gW,<-hl];exact h1) (by simpa using ew) ⟨rfl,fin⟩) hs
theorem zjn:vf X Gd:=by
 intro value slice ao s Z H x y v u Q I rx ry h hs;obtain⟨z,i,c,rfl,rfl,hz,he,q⟩:=h;obtain⟨t,rfl⟩:=rx;obtain⟨t',rfl⟩:=ry;obtain⟨j,h1,h2,h3,h4,h5⟩:=O8 he;have hl:z.cps.toList.length=z.length:=by simp[Str.length]
 rw[hl] at h1 h4 h5;have hn:=jt;exact tail_any (typeIs_str s z t) slot_str_getitem.lookup (getItem_str (c:=c) (by
  have e1:decide (i < -(2^63:Int))=false:=oN gV;have e2:decide (i>=2^63)=false:=oN gV;rw[e1,e2,Bool.or_false]) (by rw[h1];simpa using h2) ⟨.str ⟨#[c]⟩,H,I.tok _,⟨_,rfl⟩,q⟩) hs
noncomputable def O9(K:W.Frag):R2:=λx y H Q=>Ga K x y H Q\/Gb K x y H Q\/Gd x y H Q
theorem zju:vf X (O9 X.K):=vg.or (zm.or zjn)
theorem zeM(its:List Value)(n j:Nat)(u:Value):Obj.mapSeq (·.setIfInBounds j u) {cls:=.type "list",data:=.seq its.toArray n}={cls:=.type "list",data:=.seq (its.set j u).toArray n}:=by
 simp[Obj.mapSeq]
theorem Inv.lst{ao:List (Addr×Obj)}{Z:St}{H:Hp}{s:Shared}{p:Addr}{xs:List V}(I:Inv X ao Z H s)(h:H p=some (.lst xs)) :
  ∃(its:List Value) (n:Nat),Vals xs its/\s.heap.get? p=some {cls:=.type "list",data:=.seq its.toArray n}/\xs.length<=sizeLine:=by
 obtain⟨z,its,n,r,e⟩:=I.hok p _ h;exact⟨its,n,r,e,z⟩
theorem Inv.zp{ao:List (Addr×Obj)}{Z:St}{H:Hp}{s:Shared}{p:Addr}{xs ys:List V}{its its':List Value}{n n':Nat}{f:Obj->Obj}(I:Inv X ao Z H s)(h:H p=some (.lst xs))
  (ho:s.heap.get? p=some {cls:=.type "list",data:=.seq its.toArray n}) (hf:f {cls:=.type "list",data:=.seq its.toArray n}={cls:=.type "list",data:=.seq its'.toArray n'}) (r:Vals ys its') (hz:ys.length<=sizeLine) (t:Nat) :
  Inv X ao Z (upd H p (.lst ys)) {s with heap:=s.heap.update p f,toks:=t}:=by
 have e:(s.heap.update p f).get? p=some {cls:=.type "list",data:=.seq its'.toArray n'}:=by
  rw[yq f ho (by rw[hf]<;>rfl),hf]
 refine I.write (x:=p) (e:=p) (by rw[h];trivial) (.inl rfl) (λb u hb q=>(uH _ _ (Ne.symm hb)).trans q) ⟨_,e⟩ ?_;exact⟨hz,its',n',r,e⟩
noncomputable def Ge:V->V->V->Hp->(Hp->Prop)->Prop:=λo i v H Q=>∃p xs k j,o=.ref p/\i=.int k/\H p=some (.lst xs)/\rN xs.length k=some j/\Q (upd H p (.lst (xs.set j v)))
theorem zgp:Fd X Ge:=by
 intro ao s Z H o i v ov iv u Q I ro ri rv h;obtain⟨p,xs,k,j,rfl,rfl,hp,hj,q⟩:=h;cases ro;obtain⟨t,rfl⟩:=ri;obtain⟨its,n,r,ho,hz⟩:=I.lst hp;obtain⟨h1,h2,h3,h4⟩:=Wf hj;have hl:=r.length;have hn:=jt;have I':Inv X ao Z (upd H p (.lst (xs.set j v))) {s with heap:=s.heap.update p (Obj.mapSeq (·.setIfInBounds j u))}:=
  I.zp hp ho (zeM its n j u) (r.set rv j) (by rw[uh];exact hz) s.toks
 by_cases h0:0<=k
 ·have hk:k.toNat=j:=by
   rw[seqIndex_of h0 h4] at h1;exact dJ h1
  exact PySem.W.ki_setAt ho h0 gV (by rw[gW,<-hl];exact h4) (by rw[hk];exact⟨_,I',q⟩)
 ·have hk:(k+(its.toArray.size:Int)).toNat=j:=by
   rw[seqIndex_neg gV h3] at h1;rw[gW,<-hl];exact dJ h1
  exact PySem.W.ki_setBack ho gV (by rw[gW,<-hl];exact h3) gV (by rw[hk];exact⟨_,I',q⟩)
theorem zcS(lo hi:Option Int)(n:Nat):(sliceBounds lo hi none n).1=((HT.bQ n 0 lo:Nat):Int)/\(sliceBounds lo hi none n).2.1=((HT.bQ n n hi:Nat):Int)/\(sliceBounds lo hi none n).2.2=1:=by
 refine⟨?_,?_,rfl⟩
 ·cases lo with
  |none=>simp[sliceBounds,HT.bQ]
  |some i=>
   simp only[sliceBounds,HT.bQ,Option.getD_none,show (1:Int)>0 by decide,if_true];by_cases h:i<0
   ·simp only[h,if_true]<;>lia
   ·simp only[h,qd]<;>lia
 ·cases hi with
  |none=>simp[sliceBounds,HT.bQ]
  |some i=>
   simp only[sliceBounds,HT.bQ,Option.getD_none,show (1:Int)>0 by decide,if_true];by_cases h:i<0
   ·simp only[h,if_true]<;>lia
   ·simp only[h,qd]<;>lia
theorem zce(its:List Value)(lo hi:Option Int):slicePick its.toArray lo hi none=((its.drop (HT.bQ its.length 0 lo)).take (HT.bQ its.length its.length hi-HT.bQ its.length 0 lo)).toArray:=by
 obtain⟨h1,h2,h3⟩:=zcS lo hi its.toArray.size;unfold slicePick;rw[h1,h2,h3];simp only[sliceRange_one,pick_run,gW]<;>rfl
noncomputable def Gf(K:W.Frag):V->Option Int->Option Int->Hp->VK->Prop:=λx lo hi H Q=>∃a xs,x=.ref a/\eE K H a xs/\∀p,H p=none->Q (.ref p) (upd H p (.lst (kY xs lo hi)))
theorem vh:vd X (Gf X.K):=by
 intro ao s Z H x v vl vu lo hi sl Q I rx hs pl pu h;obtain⟨a,xs,rfl,hx,q⟩:=h;cases rx;obtain⟨its,r,ht,hz⟩:=I.list hx;have hlen:=r.length;refine⟨"list",_,slot_list_getitem.lookup,ht.isList.typeIs,?_⟩;refine wpAny_getItem_list_slice ht.isList hs pl pu .none Qi ?_ (by rw[gW]<;>lia);rw[zce,<-hlen];refine⟨.ref s.heap.objs.size,_,I.laid (t':=s.toks) (o:=.lst (kY xs lo hi)) (λb ob q=>cO _ q) (cL _) ?_,rfl,q _ (I.hok.fresh (cL _))⟩;exact⟨lN (Wd xs lo hi) hz,_,0,(r.drop (HT.bQ xs.length 0 lo)).take (HT.bQ xs.length xs.length hi-HT.bQ xs.length 0 lo),fC _ rfl⟩
theorem zcT:cG X (.builtin "len") (λxs H Q=>∃p ys,xs=[.ref p]/\(eE X.K H p ys\/fV X.K H p ys)/\Q (.int ys.length) H):=by
 intro ao s Z H xs us Q I r h;obtain⟨p,ys,rfl,hq,q⟩:=h;obtain⟨u,rfl,rx⟩:=vals1 r;cases rx;have hn:=jt;rcases hq with hq|hq
 ·obtain⟨its,r',pl,hz⟩:=I.list hq;have hlen:=r'.length;exact Calls.call_len_list pl.isList (by simp only[gW]<;>lia) ⟨.int ys.length,H,I.tok _,⟨s.toks+1,by rw[gW,hlen]⟩,q⟩
 ·obtain⟨its,r',pl,hz⟩:=I.tuple hq;have hlen:=r'.length;exact len_tuple pl (by simp only[gW]<;>lia) ⟨.int ys.length,H,I.tok _,⟨s.toks+1,by rw[gW,hlen]⟩,q⟩
theorem zcl:cG X (.type "tuple") (λxs H Q=>∃p ys,xs=[.ref p]/\((eE X.K H p ys/\∀l,H l=none->Q (.ref l) (upd H l (.tup ys)))\/(fV X.K H p ys/\Q (.ref p) H))):=by
 intro ao s Z H xs us Q I r h;obtain⟨p,ys,rfl,h⟩:=h;obtain⟨u,rfl,rx⟩:=vals1 r;cases rx;rcases h with ⟨hq,q⟩|⟨hq,q⟩
 ·obtain⟨its,r',pl,hz⟩:=I.list hq;have hlen:=r'.length;refine call_tuple_list pl.isList (λh' kp=>?_) (by simp only[gW]<;>lia);have I1:Inv X ao Z H {s with heap:=h'}:=I.kept (t':=s.toks) kp;have I2:Inv X ao Z (upd H h'.objs.size (.tup ys)) {s with heap:=h'.push {cls:=.type "tuple",data:=.seq its.toArray}}:=
   I1.laid (t':=s.toks) (λb o e=>cO _ e) (cL _) (show bO X.prog X.w _ _ _ (.tup ys) from ⟨hz,its,r',jJ.new _ _⟩)
  exact⟨.ref h'.objs.size,_,I2,rfl,q _ (I1.hok.fresh (cL _))⟩
 ·obtain⟨its,r',pl,hz⟩:=I.tuple hq;exact call_tuple_same pl ⟨.ref p,H,I,rfl,q⟩
variable {o e:Expr}{es:List Expr}{to:TE}{t:TA}{name:Str}{apos cpos:Pos}{T id:String}{r:V->List V->Hp->VK->Prop}
end
def MtM(X:Cx)(id:String)(r:V->List V->Hp->VK->Prop):Prop:=
 ∀(ao:List (Addr×Obj)) (s:Shared) (Z:St) (H:Hp) (x:V) (xs:List V) (v:Value) (us:List Value) (Q:VK),Inv X ao Z H s->RelV x v->Vals xs us->r x xs H Q->
  wpAny (model X.prog X.w) X.A (call (.builtin id) (v::us)) (EP X ao Z Q) X.xe s
theorem Vals.one{x:V}{us:List Value}(h:Vals [x] us):∃u,us=[u]/\RelV x u:=by
 cases h with
 |cons r t=>cases t;exact⟨_,rfl,r⟩
theorem Vals.two{x y:V}{us:List Value}(h:Vals [x,y] us):∃u v,us=[u,v]/\RelV x u/\RelV y v:=by
 cases h with
 |cons r t=>
  obtain⟨v,rfl,q⟩:=Vals.one t;exact⟨_,_,rfl,r,q⟩
section
variable {X:Cx}{ao:List (Addr×Obj)}{Z:St}{H:Hp}{s:Shared}{l b:Addr}{xs ys zs:List V}
theorem Inv.O_{its its':List Value}{n:Nat}{f:Array Value->Array Value}{t':Nat}(I:Inv X ao Z H s)(hH:H l=some (.lst xs))
  (e:s.heap.get? l=some {cls:=.type "list",data:=.seq its.toArray n}) (hf:f its.toArray=its'.toArray) (hv:Vals ys its') (hz:ys.length<=sizeLine) :
  Inv X ao Z (upd H l (.lst ys)) {s with heap:=s.heap.update l (Obj.mapSeq f),toks:=t'}:=by
 have q:=PySem.IsL.update e f;rw[hf] at q;refine I.write (x:=l) (e:=l) (by rw[hH];exact trivial) (.inl rfl) (λb' u hb hu=>(uH s.heap (Obj.mapSeq f) (Ne.symm hb)).trans hu) ⟨_,q⟩ ?_;exact⟨hz,its',_,hv,q⟩
theorem Inv.Pa{its:List Value}{t':Nat}(I:Inv X ao Z H s)(hv:Vals ys its)(hz:ys.length<=sizeLine) :
  Inv X ao Z (upd H s.heap.objs.size (.lst ys)) {s with heap:=s.heap.push {cls:=.type "list",data:=.seq its.toArray},toks:=t'}:=
 I.laid (λ_ _ q=>cO _ q) (cL _) ⟨hz,its,0,hv,fC _ rfl⟩
theorem Inv.fresh(I:Inv X ao Z H s):H s.heap.objs.size=none:=I.hok.fresh (cL _)
theorem Inv.Pb(I:Inv X ao Z H s)(hH:H l=some (.lst xs)):xs.length<=sizeLine/\∃(its:List Value) (n:Nat),Vals xs its/\xs.length=its.length/\s.heap.get? l=some {cls:=.type "list",data:=.seq its.toArray n}:=by
 obtain⟨z,its,n,r,e⟩:=I.hok l _ hH;exact⟨z,its,n,r,r.length,e⟩
end
section
variable {X:Cx}
noncomputable def vm:V->List V->Hp->VK->Prop:=λx vs H Q=>∃l xs y,x=.ref l/\vs=[y]/\H l=some (.lst xs)/\xs.length<sizeLine/\Q .non (upd H l (.lst (xs++[y])))
theorem Wg:MtM X "list.append" vm:=by
 intro ao s Z H x vs v us Q I rx rv h;obtain⟨l,xs,y,rfl,rfl,hH,hz,q⟩:=h;cases rx;obtain⟨u,rfl,ru⟩:=rv.one;obtain⟨z,its,n,r,hl,e⟩:=I.Pb hH;refine call_meets F.slot_list_append ⟨_,e,rfl⟩ F.entry_list_append (F.args_list_append_2 _ _) (PySem.list_append l its.toArray n u (by rw[gW];lia)) ⟨e,?_⟩;refine⟨.non,_,I.O_ (its':=its++[u]) hH e Qi (r.append (.cons ru .nil)) ?_,rfl,q⟩;rw[ji,List.length_singleton]
 lia
end
section
variable {prog:Program}{w:World}{A:Around}{E:Value->Shared->Prop}{s:Shared}
set_option maxRecDepth 100000 in
end
end L2
namespace Wh
open PySem PySem.W PySem.Calls PyProof.Rows
theorem zbi{P:Params}{h:Heap}:∀(ns:List Int) (vs:List Value),WellAll P h vs (ns.map WData.int)->IntsAre vs ns:=by
 intro ns
 induction ns with
 |nil=>
  intro vs w;rw[List.map_nil] at w;cases w;exact .nil
 |cons n ns ih=>
  intro vs w;rw[jq] at w;cases w with
  |cons a b=>
   cases a;exact .cons _ _ (ih _ b)
theorem zfL{l:OpenLaw}{n:Nat}(hn:l.most=some n){P:Params}{h:Heap}{args:List WData}{vals:List Value}
  (hpre:l.row.toRowW.claim.pre args=true) (Pg:WellAll P h vals args) :
  ∃a vs ns,vals=[Value.ref a]/\args=[WData.list (ns.map WData.int)]/\h.get? a=some {cls:=.type "list",data:=.seq vs.toArray}/\IntsAre vs ns/\ns.length<=n:=by
 have hsh:WShape.hasAll [] args [.list .int]=true:=(pre_splitW hpre).1;have hc:l.pre.holds [] {args:=args}=true:=(pre_splitW hpre).2;obtain⟨d,r,rfl,h1,h2⟩:=hasAllW_cons hsh;obtain rfl:=hasAllW_nil h2;obtain⟨xs,rfl,h3⟩:=hasW_list h1;obtain⟨ns,rfl⟩:=items_int h3;have hlen:ns.length<=n:=by
  unfold OpenLaw.pre at hc;have h4:(WTm.not (.lt (.lit (.int (n:Int))) (.len (.arg 0)))).holds [] {args:=[.list (ns.map .int)]}=true:=by
   have h4:=(holds_andW hc).1;rw[hn] at h4;exact h4
  have h5:=condW_of h4 (w_not (w_lt w_lit (w_len_list (w_arg rfl))));rw[cY] at h5;refine JM λq=>?_;have q':(n:Int)<((ns.length:Nat):Int):=by lia
  first
   |(rw[dZ q'] at h5;exact absurd h5 J0)
   |(simp at h5;lia)
 cases Pg with
 |cons w1 w2=>
  cases w2;cases w1 with
  |list ho nQ=>exact⟨_,_,ns,rfl,rfl,ho,zbi ns _ nQ,hlen⟩
theorem zf6(l:OpenLaw)(args:List WData):l.row.toRowW.claim.post args (.bool true) args=true:=
 postW_of (r:=l.row.toRowW) (X:=(true==true))
  (show WShape.has [] (.bool true) .bool=true by first|rfl|decide|simp[WShape.has,WShape.arms,WShape.armsAll])
  (show (WTm.eq .res (.lit (.bool true))).value [] {args:=args,res:=some (.bool true),after:=args}=some (.bool (true==true)) from w_eq_bool (w_res rfl) w_lit) rfl
theorem mH{l:OpenLaw}{n:Nat}{q:Program}{loose:List Str}{XP:(Str->Option Value)->Heap->Prop}{YP:World->Heap->Prop}{d:DefRec}
  (hn:l.most=some n) (Pj:d.params.defaults=[])
  (call:∀(w:World) (s₀ s₁:Shared) (mg mb:Str->Option Value) (fa:Addr) (o:Obj) (pm cd doc:Value) (a:Addr) (vs:List Value) (ns:List Int),
   Ground q loose [] XP w s₀ mg mb s₁.heap->YP w s₁.heap->
   s₁.heap.get? fa=some o->o.data=.func (docDef d.name d.params d.body d.scope pm cd doc)->s₁.heap.CodeRec cd d.name->mg d.name=some (.ref fa)->
   s₁.heap.get? a=some {cls:=.type "list",data:=.seq vs.toArray}->IntsAre vs ns->ns.length<=n->s₁.gens=#[]->
   codeAny (model l.prog w) callerA (.call (.ref fa) ⟨[.ref a],[]⟩) (λr s'=>r=.ok (.ret (.bool true))/\OldK s₁.heap s'.heap/\s'.os=s₁.os/\AllBare s'.gens) s₁) :
  WalkO q loose XP YP l.row.toRowW d [] (λf vs=>PySem.call f vs):=by
 intro w s₀ s₁ mg mb G Y fa o pm cd doc dV kV ho hd jN hD hmg hg args vals as hpre aac hrd Pg Kr;obtain rfl:dV=.none:=Dflts.none hD Pj;obtain rfl:kV=.none:=Dflts.noKw hD;obtain⟨a,vs,ns,rfl,rfl,zu,hints,hlen⟩:=zfL hn hpre Pg;refine enter_call (yI (call w s₀ s₁ mg mb fa o pm cd doc a vs ns G Y ho (fd_plain hd) jN hmg zu hints hlen hg) λr s' hq=>?_);obtain⟨rfl,h2,h3,h4⟩:=hq;exact⟨.inl ⟨.bool true,.bool true,[],rfl,λ_=>rfl,.bool true,zf6 l _,λ_=>⟨List.Pairwise.nil,λ_ hm=>(nomatch hm)⟩⟩,h2,h3,h4⟩
end Wh
namespace L2
open PySem PySem.Spec PyProof.Rows
theorem Wi:∀{vs:List Value} {ns:List Int},IntsAre vs ns->Vals (ns.map V.int) vs
 |_,_,.nil=>.nil
 |_,_,.cons n t h=>.cons ⟨t,rfl⟩ (Wi h)
def Only(H:Hp):Prop:=∀b,H b=none\/∃o xs,H b=some (.ux o (.lst xs))
theorem zgQ{P:Program}{w:World}{K:W.Frag}{mg mb:Str->Option Value}{CX:qj}{k:Nat}{fa a:Addr}{fd:FuncData}{x:Str}{sp:Sp}{s₁:Shared}{vs:List Value}{ns:List Int}
  (KX:K.In s₁.heap) (Wj:s₁.heap.Ns mainGlobals mg) (hb:s₁.heap.Ns builtinsNs mb) (hbb:∀x:Str,x≠"__name__"->mb x=bootBuiltins x) (Pk:s₁.heap.NoLimit) (hg:s₁.gens=#[])
  (ha:s₁.heap.get? a=some {cls:=.type "list",data:=.seq vs.toArray}) (hi:IntsAre vs ns) (hl:ns.length<=sizeLine) (hr:bB k callerA)
  (F:∀base:Heap,K.In base->base.Ns mainGlobals mg->bY P w K mg base CX true k fa fd [x] sp) (Gg:∀(s:Shared) (u:Value),BindsTo s fd ⟨[u],[]⟩ [(x,u)])
  (Cp:∀H:Hp,Only H->eE K H a (ns.map V.int)->sp [.ref a] H (λv _=>v=.bl true) λ_ _ _=>False)
  (hCX:∀H e s',CX [] H s₁ (λ_ _ _=>False) e s'->False) :
  codeAny (model P w) callerA (.call (.ref fa) ⟨[.ref a],[]⟩) (λr s'=>r=.ok (.ret (.bool true))/\OldK s₁.heap s'.heap/\s'.os=s₁.os/\AllBare s'.gens) s₁:=by
 have rv:=Wi hi;have lenV:=hi.length;have core:∀H:Hp,Only H->eE K H a (ns.map V.int)->g_ P w H s₁.heap->(∀b,H b≠none->b=a)->(H a≠none->K.lookup a=none)->
   codeAny (model P w) callerA (.call (.ref fa) ⟨[.ref a],[]⟩) (λr s'=>r=.ok (.ret (.bool true))/\OldK s₁.heap s'.heap/\s'.os=s₁.os/\AllBare s'.gens) s₁:=by
  intro H hO hS hok hA hK;have pq:∀{b:Addr} {o:Obj},s₁.heap.get? b=some o->H b=none->(kJ s₁.heap H).get? b=some o:=λe n=>zg8 e n;have Fz:∀{b:Addr} {o:Obj} {es:Array DictEntry} {ep:Nat},s₁.heap.get? b=some o->o.data=.dict es ep->H b=none:=λ{b o es ep} e d=>by
   cases q:H b with
   |none=>rfl
   |some u=>
    have e':b=a:=hA b (by rw[q];simp);subst e';rw[ha] at e;cases e;have d':Data.seq vs.toArray _=Data.dict es ep:=d;cases d'
  have Ks:∀{b:Addr} {m:Str->Option Value},s₁.heap.Ns b m->(kJ s₁.heap H).Ns b m:=λ{b m} ⟨o,es,ep,e,d,r⟩=>⟨o,es,ep,pq e (Fz e d),d,r⟩;have Wm:K.In (kJ s₁.heap H):=λb o e=>pq (KX b o e) (by
   cases q:H b with
   |none=>rfl
   |some u=>
    have e':b=a:=hA b (by rw[q];simp);subst e';rw[hK (by rw[q];simp)] at e;cases e)
  have hM:Mod K mg (kJ s₁.heap H):=⟨Wm,Ks Wj,⟨mb,Ks hb,hbb⟩,let ⟨mc,h1,h2⟩:=Pk;⟨mc,Ks h1,h2⟩⟩;have e0:nP P w K mg (kJ s₁.heap H) callerA [] s₁ H:=⟨rfl,hM,λb o e=>zjb e,Nat.le_of_eq (zf9 _ _),trivial,λb hb=>absurd (show b∈([]:List Addr) from hb) Qi,hok,.of_eq hg⟩;refine yI ((F _ Wm (Ks Wj)).run callerA [] s₁ H ⟨[.ref a],[]⟩ [.ref a] [.ref a] _ _ (λ_=>rfl) hr e0 (Gg s₁ (.ref a)) (.cons rfl .nil) (Cp H hO hS)) λr s' h=>?_;cases r with
  |error e=>exact(hCX H e s' h).elim
  |ok fl=>
   cases fl with
   |next=>exact False.elim h
   |brk=>exact False.elim h
   |cont=>exact False.elim h
   |ret u=>
    obtain⟨v,H',os,bare,un,Pn,r',q⟩:=h;have q':v=.bl true:=q;subst q';obtain rfl:u=Value.bool true:=r';refine⟨rfl,OldK.of_keep λb o e=>?_,os,bare⟩;cases q:H b with
    |none=>exact un.keep b o e q (by intro z;exact absurd (show b∈([]:List Addr) from z) Qi) Qi
    |some u=>
     rcases hO b with z|⟨ob,xs,z⟩
     ·rw[q] at z;cases z
     ·have z2:=un.jK b ob _ z;obtain⟨e1,_⟩:=hok b _ z;obtain⟨e2,_⟩:=Pn b _ z2;rw[e] at e1;cases e1;exact e2
 cases hk:K.lookup a with
 |some o=>
  have e:=KX a o hk;rw[ha] at e;cases e;refine core (λ_=>none) (λ_=>.inl rfl) (.inr ⟨_,vs.toArray,_,hk,rfl,rfl,rfl,by rw[gW,lenV];exact hl,by simpa using rv⟩) (λb u z=>by have z':(none:Option HO)=some u:=z;cases z') (λb z=>absurd rfl z) λz=>absurd rfl z
 |none=>
  refine core (λb=>if b=a then some (.ux {cls:=.type "list",data:=.seq vs.toArray} (.lst (ns.map V.int))) else none) (λb=>?_) (.inl (.inr ⟨{cls:=.type "list",data:=.seq vs.toArray},if_pos rfl⟩)) (λb u z=>?_) (λb z=>?_) λ_=>hk
  ·by_cases hb:b=a
   ·exact .inr ⟨_,_,if_pos hb⟩
   ·exact .inl (if_neg hb)
  ·by_cases hb:b=a
   ·have z':=(if_pos hb).symm.trans z;cases z';subst hb;exact⟨ha,by rw[cY];exact hl,vs,_,rv,ha⟩
   ·have z':=(if_neg hb).symm.trans z;cases z'
  ·by_cases hb:b=a
   ·exact hb
   ·exact absurd (if_neg hb) z
def Pq(h0:Heap)(H:Hp)(h:Heap)(e:Addr)(hd:Value):Prop:=
 hd=.none\/∃T oT ts,hd=.ref T/\h0.get? T=none/\H T=none/\T≠e/\h.get? T=some oT/\oT.data=.fields ts/\ts[3]?=some .none
structure Exc(h0:Heap)(H:Hp)(h:Heap)(e C:Addr)(dx:Option Addr):Prop where
 new:h0.get? e=none
 un:H e=none
 ob:∃oe vs hd,h.get? e=some oe/\oe.cls=.ref C/\oe.dict=dx/\oe.data=.fields vs/\vs[1]?=some hd/\Pq h0 H h e hd
structure Pu(h0:Heap)(H:Hp)(fr:List Addr)(h h':Heap)(ch:List Addr):Prop where
 rec_:∀b∈ch,h0.get? b=none/\H b=none/\∃o vs,h.get? b=some o/\o.data=.fields vs
 keep:∀b o,h.get? b=some o->b∉fr->b∉ch->h'.get? b=some o
 slot:∀b o,h.get? b=some o->b∈fr->∃sl,h'.get? b=some {o with slots:=sl}
 there:∀b o,h.get? b=some o->∃o',h'.get? b=some o'
noncomputable def rO(head:Value)(L:Addr)(pl:List Value):Obj:=
 {cls:=.type "traceback",dict:=none,data:=.fields ([head,.ref L,.none,rawInt L,.none]++(if pl.isEmpty then List.replicate 6 Value.none else pl)).toArray}
theorem Wn(o:Obj)(f:Array Value->Array Value):(o.mapFields f).dict=o.dict:=by
 obtain⟨c,d,dt,sl⟩:=o;cases dt<;>rfl
theorem Wo(o:Obj)(f:Array Value->Array Value):(o.mapFields f).cls=o.cls:=by
 obtain⟨c,d,dt,sl⟩:=o;cases dt<;>rfl
section
variable {M:Model}{A:Around}{E:Value->Shared->Prop}{s:Shared}{base h0:Heap}{env:Env}{outer:List Env}{L e C:Addr}{dx:Option Addr}{H:Hp}{Q:Unit->Shared->Prop}
theorem Wq(pA:A.frames=some (env::outer))(hl:s.heap.FunFrames base (env::outer))(hf:env.frame=some L)
  (he:s.heap.get? e=some oe) (hd:oe.data=.fields vs) (m9:1<vs.size)
  (k:∀h' T oT ts,s.heap.objs.size<=T->(∀b o,s.heap.get? b=some o->b∉frs (env::outer)->b≠e->h'.get? b=some o)->(∀b o,s.heap.get? b=some o->b∈frs (env::outer)->∃sl,h'.get? b=some {o with slots:=sl})->
   h'.get? e=some (oe.mapFields (·.setIfInBounds 1 (.ref T)))->h'.get? T=some oT->oT.data=.fields ts->3<ts.size->ts[3]?=some (rawInt L)->Q () {s with heap:=h'}) :
  wpAny M A (do let a <-frameOf env;let pl <-entryPlaceOf L hn;let b <-EntryCells.newEntry head a .none (rawInt L) .none pl;setField (.ref e) 1 b) Q E s:=by
 have Gh:e∉frs (env::outer):=λhm=>by
  obtain⟨_,o,ho,hx⟩:=hl.mem hm;rw[he] at ho;cases ho;exact hx vs hd
 refine aA (wpAny_frameOf_fun pA hl hf λh₁ sl₁=>?_);refine aA (wpAny_entryPlaceOf λpl cP=>?_);unfold EntryCells.newEntry newFields;refine aA (qb ?_ (cP.sizeOk5 _ _ _ _ _));have e1:h₁.get? e=some oe:=(sl₁.2.1 e Gh).trans he;have e2:(h₁.push (rO head L pl)).get? e=some oe:=cO _ e1;refine DW e2 hd m9 ?_;have ne:h₁.objs.size≠e:=uO (bV e1);have d3:=wu hd (·.setIfInBounds 1 (Value.ref h₁.objs.size));have kp:∀b o,h₁.get? b=some o->b≠e->((h₁.push (rO head L pl)).update e (Obj.mapFields (·.setIfInBounds 1 (Value.ref h₁.objs.size)))).get? b=some o:=λb o q n=>by
  rw[uH _ _ n.symm];exact cO _ q
 refine k _ h₁.objs.size (rO head L pl) _ (by rw[sl₁.1];exact cL _) (λb o q n1 n2=>kp b o ((sl₁.2.1 b n1).trans q) n2) (λb o q m=>?_) (yq _ e2 (Jt d3)) ?_ rfl ?_ ?_
 ·obtain⟨sl,z⟩:=sl₁.2.2 b o q;exact⟨sl,kp b _ z λy=>Gh (y▸m)⟩
 ·rw[uH _ _ ne.symm];exact fC _ rfl
 ·simp only[gW,ji,dB,qX]<;>lia
 ·first
   |(simp;done)
   |(rcases cP with rfl|⟨_,_,_,_,_,_,_,rfl⟩<;>simp)
theorem zg3(pA:A.frames=some (env::outer))(hl:s.heap.FunFrames base (env::outer))(hf:env.frame=some L)(x:Exc h0 H s.heap e C dx)
  (k:∀h' T oT oe ts vs ch,Pu h0 H (frs (env::outer)) s.heap h' ch->s.heap.objs.size<=T->h'.get? e=some oe->oe.cls=.ref C->oe.dict=dx->oe.data=.fields vs->vs[1]?=some (.ref T)->h'.get? T=some oT->oT.data=.fields ts->
   3<ts.size->ts[3]?=some (rawInt L)->Q () {s with heap:=h'}):wpAny M A (noteFrame (.ref e) env) Q E s:=by
 obtain⟨oe,vs,hd,he,hc,Ku,uD,h1,tb⟩:=x.ob;have m9:1<vs.size:=(Mu.mp h1).1;have Gh:∀b o ws,s.heap.get? b=some o->o.data=.fields ws->b∉frs (env::outer):=λb o ws q d hm=>by
  obtain⟨_,o',ho,hx⟩:=hl.mem hm;rw[q] at ho;cases ho;exact hx ws d
 unfold noteFrame;simp only[hf];refine aA (lO he uD h1 ?_);rcases tb with rfl|⟨T,oT,ts,rfl,nT,uT,neT,gT,dT,h3⟩
 ·rw[if_neg J0];refine Wq pA hl hf he uD m9 λh' T oT ts lt kp sl ge gT dT z3 z4=>?_;refine k h' T oT _ ts _ [e] ⟨λb hb=>?_,λb o q n1 n2=>kp b o q n1 λz=>n2 (by rw[z];exact .head _),sl,λb o q=>?_⟩ lt ge ((Wo _ _).trans hc) ((Wn _ _).trans Ku) (wu uD _) (by simp[m9]) gT dT z3 z4
  ·obtain rfl:b=e:=by simpa using hb
   exact⟨x.new,x.un,oe,vs,he,uD⟩
  ·by_cases z:b=e
   ·subst z;exact⟨_,ge⟩
   ·by_cases m:b∈frs (env::outer)
    ·obtain⟨w,q'⟩:=sl b o q m;exact⟨_,q'⟩
    ·exact⟨o,kp b o q m z⟩
 ·rw[if_pos (show (Value.ref T != Value.none)=true from by simp)];refine aA (lO gT dT h3 ?_);rw[if_neg (show ¬((Value.none==rawInt L)=true) from by simp[rawInt])];have z3:3<ts.size:=(Mu.mp h3).1;refine aA (DW gT dT z3 ?_);have oth:∀b,b≠T->(s.heap.update T (Obj.mapFields (·.setIfInBounds 3 Value.none))).get? b=s.heap.get? b:=λb n=>uH _ _ n.symm;have hl':(s.heap.update T (Obj.mapFields (·.setIfInBounds 3 Value.none))).FunFrames base (env::outer):=hl.of_keeps λb o q nd=>⟨o,(oth b λz=>by subst z;rw[gT] at q;cases q;exact nd ts dT).trans q,rfl⟩;have sT:(s.heap.update T (Obj.mapFields (·.setIfInBounds 3 Value.none))).get? T=some (oT.mapFields (·.setIfInBounds 3 Value.none)):=yq _ gT (Jt (wu dT _));refine Wq pA hl' hf ((oth e neT.symm).trans he) uD m9 λh' T' oT' ts' lt kp sl ge gT' dT' z3' z4'=>?_;have lt':s.heap.objs.size<=T':=by
   have:=lt;simp only[Heap.size_after_update] at this;exact this
  refine k h' T' oT' _ ts' _ [e,T] ⟨λb hb=>?_,λb o q n1 n2=>kp b o ((oth b λz=>n2 (by simp[z])).trans q) n1 λz=>n2 (by simp[z]),λb o q m=>?_,λb o q=>?_⟩ lt' ge ((Wo _ _).trans hc) ((Wn _ _).trans Ku) (wu uD _) (by simp[m9]) gT' dT' z3' z4'
  ·have hb':b=e\/b=T:=by simpa using hb
   rcases hb' with rfl|rfl
   ·exact⟨x.new,x.un,oe,vs,he,uD⟩
   ·exact⟨nT,uT,oT,ts,gT,dT⟩
  ·exact sl b o ((oth b λz=>by subst z;exact Gh b o ts q (by rw[gT] at q;cases q;exact dT) m).trans q) m
  ·by_cases z:b=e
   ·subst z;exact⟨_,ge⟩
   ·by_cases y:b=T
    ·subst y;exact⟨_,kp b _ sT (Gh b oT ts gT dT) z⟩
    ·by_cases m:b∈frs (env::outer)
     ·obtain⟨w,q'⟩:=sl b o ((oth b y).trans q) m;exact⟨_,q'⟩
     ·exact⟨o,kp b o ((oth b y).trans q) m z⟩
theorem zgO(he:s.heap.get? e=some oe)(hd:oe.data=.fields vs)(h1:vs[1]?=some (.ref T))(gT:s.heap.get? T=some oT)(dT:oT.data=.fields ts)(z3:3<ts.size)
  (k:∀h',(∀b o,b≠T->s.heap.get? b=some o->h'.get? b=some o)->h'.get? T=some (oT.mapFields (·.setIfInBounds 3 Value.none))->Q () {s with heap:=h'}):wpAny M A (setFlight (.ref e) none) Q E s:=by
 unfold setFlight;refine aA (lO he hd h1 ?_);rw[if_pos (show (Value.ref T != Value.none)=true from by simp)];exact DW gT dT z3 (k _ (λb o n q=>(uH _ _ n.symm).trans q) (yq _ gT (Jt (wu dT _))))
theorem zgc(pA:A.frames=some (env::outer))(hl:s.heap.FunFrames base (env::outer))(hf:env.frame=some L)(x:Exc h0 H s.heap e C dx)
  (oX:∀b,s.heap.objs.size<=b->H b=none) (h0s:∀b o,h0.get? b=some o->∃o',s.heap.get? b=some o')
  (k:∀h' ch,Pu h0 H (frs (env::outer)) s.heap h' ch->Exc h0 H h' e C dx->Q () {s with heap:=h'}) :
  wpAny M A (noteFrame (.ref e) env) (λ_ s₁=>wpAny M A (setFlight (.ref e) none) Q E s₁) E s:=by
 have ele:∃o,s.heap.get? e=some o:=let ⟨oe,_,_,he,_⟩:=x.ob;⟨oe,he⟩;refine zg3 pA hl hf x λh' T oT oe ts vs ch t lt ge hc Ku uD h1 gT dT z3 z4=>?_;have neT:T≠e:=λz=>by
  obtain⟨o,q⟩:=ele;exact absurd (gU (bV q) (z▸lt)) (lM _)
 refine zgO (s:={s with heap:=h'}) ge uD h1 gT dT z3 λh2 kp gT2=>?_;have nT:∀b o,s.heap.get? b=some o->b≠T:=λb o q z=>absurd (gU (bV q) (z▸lt)) (lM _);refine k h2 ch ⟨t.rec_,λb o q n1 n2=>kp b o (nT b o q) (t.keep b o q n1 n2),λb o q m=>?_,λb o q=>?_⟩ ⟨x.new,x.un,oe,vs,.ref T,kp e oe neT.symm ge,hc,Ku,uD,h1,.inr ⟨T,_,_,rfl,?_,oX T lt,neT,gT2,wu dT _,by simp[z3]⟩⟩
 ·obtain⟨sl,q'⟩:=t.slot b o q m;exact⟨sl,kp b _ (nT b o q) q'⟩
 ·obtain⟨o',q'⟩:=t.there b o q;exact⟨o',kp b o' (nT b o q) q'⟩
 ·cases z:h0.get? T with
  |none=>rfl
  |some o=>
   obtain⟨o',q⟩:=h0s T o z;exact absurd rfl (nT T o' q)
end
noncomputable abbrev XS:=St->Value->Option Addr->Hp->Prop
def Sub(h0 h:Heap):Prop:=∀b o,h0.get? b=some o->∃o',h.get? b=some o'
theorem Sub.none{h0 h:Heap}(x:Sub h0 h){b:Addr}(e:h.get? b=none):h0.get? b=none:=by
 cases q:h0.get? b with
 |none=>rfl
 |some o=>
  obtain⟨o',z⟩:=x b o q;rw[e] at z;cases z
theorem Exc.older{h0 h1:Heap}{H:Hp}{h:Heap}{e C:Addr}{dx:Option Addr}(x:Exc h1 H h e C dx)(y:Sub h0 h1):Exc h0 H h e C dx:=by
 obtain⟨oe,vs,hd,a,b,c,d,f,tb⟩:=x.ob;refine⟨y.none x.new,x.un,oe,vs,hd,a,b,c,d,f,?_⟩;rcases tb with z|⟨T,oT,ts,z1,z2,z3⟩
 ·exact .inl z
 ·exact .inr ⟨T,oT,ts,z1,y.none z2,z3⟩
section
variable {X:Cx}{ao:List (Addr×Obj)}{Z:St}{H:Hp}{s:Shared}{h0 h':Heap}{ch fr:List Addr}
theorem g_.tbd{P:Program}{w:World}{h:Heap}(x:g_ P w H h)(t:Pu h0 H fr h h' ch)(hf:∀b∈fr,H b=none):g_ P w H h':=λa o e=>by
 have st:∀b u,(b=a\/H b=some (.own a))->h.get? b=some u->h'.get? b=some u:=λb u z q=>by
  have nb:H b≠none:=by
   rcases z with z|z
   ·rw[z,e];simp
   ·rw[z];simp
  exact t.keep b u q (λm=>nb (hf b m)) λm=>nb (t.rec_ b m).2.1
 exact(x a o e).stay st (λ_ z=>z) λ_ _ z=>z
end
def Raises(X:Cx)(EX:XS):Prop:=
 ∀(ao:List (Addr×Obj)) (Z:St) (H:Hp) (s:Shared) (h0:Heap) (e C:Addr) (dx:Option Addr),Inv X ao Z H s->(∀b o,X.s₀.heap.get? b=some o->b∉X.ex->∃o',h0.get? b=some o')->
  (∀p∈X.pn++ao,∃o,h0.get? p.1=some o)->Sub h0 s.heap->Exc h0 H s.heap e C dx->EX Z (.ref C) dx H->X.xe (.ref e) s
noncomputable def fK(P:Program)(w:World):qj:=λouter H s E e s'=>
 ∃(a C:Addr) (dx:Option Addr) (H':Hp),e=.ref a/\s'.os=s.os/\AllBare s'.gens/\Un (frs outer) [] H H' s.heap s'.heap/\g_ P w H' s'.heap/\Exc s.heap H' s'.heap a C dx/\E (.ref C) dx H'
theorem zeN{P:Program}{w:World}{K:W.Frag}{mg:Str->Option Value}{base:Heap}{N:List Str}{qual:Str}{scope:Scope}{f:Addr}{cd:Value}{A:Around}{outer:List Env}{s:Shared}{H:Hp}{E:XK}{cm:Bool} :
  Raises (fD (fK P w) P w K mg base N qual scope f cd A outer s H E cm) (λ_ C dx H'=>E C dx H'):=by
 intro ao Z H1 s1 h0 e C dx I hs hp h01 x ex;have I0:Inv (fD (fK P w) P w K mg base N qual scope f cd A outer s H E cm) [] Z H1 s1:=I.kW λp z=>absurd z Qi;show wpAny (model P w) (A.deeper (envOfC qual scope s.heap.objs.size f cd)) (leaving (envOfC qual scope s.heap.objs.size f cd) (.ref e)) _ _ s1;unfold leaving;have hsub:Sub s.heap h0:=λb o q=>hs b o q (by show b∉([]:List Addr);simp);refine aA (zgc (base:=base) (outer:=outer) (L:=s.heap.objs.size) I0.ok.frames I0.stack rfl x (λb z=>I0.hok.fresh z) h01 λh' ch t x'=>?_);have fin:∀b o,s.heap.get? b=some o->b∉ch:=λb o q m=>by
  have z:=hsub.none (t.rec_ b m).1;rw[q] at z;cases z
 have nL:∀b o,s.heap.get? b=some o->b∉frs outer->b∉frs (envOfC qual scope s.heap.objs.size f cd::outer):=λb o q n m=>by
  have m':b∈s.heap.objs.size::frs outer:=m;rcases gG.mp m' with z|z
  ·exact absurd (bV q) (by rw[z];exact lM _)
  ·exact n z
 refine⟨e,C,dx,H1,rfl,I0.os,I0.bare,⟨λb o q n hb _=>?_,λb o q n hb _=>?_,λb o q n _=>I0.base.free b o q n (by show b∉([]:List Addr);simp),λb o q _=>?_,I0.base.tups,I0.base.jK,I0.base.kE⟩,I0.hok.tbd t I0.kO,x'.older hsub,ex⟩
 ·exact t.keep b o (I0.base.keep b o q n hb (by show b∉([]:List Addr);simp)) (nL b o q hb) (fin b o q)
 ·obtain⟨sl,q1⟩:=I0.base.slot b o q n hb (by show b∉([]:List Addr);simp);obtain⟨sl',q2⟩:=t.slot b _ q1 (show b∈s.heap.objs.size::frs outer from iI _ hb);exact⟨sl',q2⟩
 ·obtain⟨o',q1⟩:=I0.base.there b o q (by show b∉([]:List Addr);simp);exact t.there b o' q1
section
variable {X:Cx}{cm:Bool}{k:Nat}{f C:Addr}{fd:FuncData}{ps:List Str}{sp:Sp}{EX:XS}{x m:Str}{p pos apos:Pos}{e o:Expr}{es:List Expr}{ta:TE}{t:TA}
theorem Raises.pass(R:Raises X EX)(I:Inv X ao Z H s)(h:fK X.prog X.w X.stack H s (EX Z) v s'):X.xe v s':=by
 obtain⟨a,C,dx,H',rfl,os,bare,un,hok,x,q⟩:=h;have aq:Sub s.heap s'.heap:=λb o z=>un.there b o z Qi;refine R ao Z H' s' s.heap a C dx (I.call' os un hok bare λb z=>absurd z Qi) (λb o z n=>I.base.there b o z n) (λp hp=>?_) aq x q;exact⟨p.2,(I.pin p hp).1⟩
noncomputable def zx(sp:Sp)(EX:XS)(t:TA):TE:=λZ H Q=>t Z H λvs H1=>sp vs H1 Q (EX Z)
theorem zhU(F:bY X.prog X.w X.K X.mg X.base (fK X.prog X.w) cm k f fd ps sp)(jd:cm=true->X.aj=true)(hr:bB k X.A)(hb:Binds X.K fd ps [])(R:Raises X EX)
  (I:Inv X ao Z H s) (r:Vals vs us) (h:sp vs H Q (EX Z)):wpAny (model X.prog X.w) X.A (call (.ref f) us) (EP X ao Z Q) X.xe s:=by
 have hl:us.length=ps.length:=by rw[<-r.length];exact F.len _ _ _ _ h
 have hb':=hb s us I.nJ (by rw[ug];exact hl);rw[ug] at hb';refine wpAny_call (yI (F.run X.A X.stack s H ⟨us,[]⟩ us vs Q (EX Z) (λz=>I.ok.hd (jd z)) hr I.env0 hb' r h) λr s' hq=>?_);cases r with
 |error v=>exact R.pass I hq
 |ok fl=>
  cases fl with
  |ret u=>exact I.after hq
  |next=>exact False.elim hq
  |brk=>exact False.elim hq
  |cont=>exact False.elim hq
theorem zgq(F:bY X.prog X.w X.K X.mg X.base (fK X.prog X.w) cm k f fd ps sp)(jd:cm=true->X.aj=true)(hr:bB k X.A)(hg:Gl X x)(hm:X.mg x=some (.ref f))(hk:PySem.W.keepIn X.K (.ref f)=true)(hb:Binds X.K fd ps [])(R:Raises X EX)
  (ha:PA X (e::es) t) (ql:(x==("__debug__" : Str))=false:=by decide) (he:starEach (e::es) X.env=(false,eval e X.env)::starEach es X.env:=by rfl) (cP:(backTo pos (starEach es X.env)).any (·.1)=false:=by rfl) :
  PE X (.Call (.Name x p) (e::es) [] pos) (zx sp EX t):=by
 intro ao s Z H Q I h;refine Bw (N_ I hg hm ?_ ql);exact Nf (h₀:=X.base) I.ok.mod.wG hk (bw (ha pos ao s Z H _ I h) λus s1 ⟨vs,H1,I1,r,q⟩=>⟨I1.nJ,zhU F jd hr hb R I1 r q⟩) he cP
end
noncomputable def vo(a C:Addr)(dx:Option Addr):HO:=.ext λh=>∃oe vs,h.get? a=some oe/\oe.cls=.ref C/\oe.dict=dx/\oe.data=.fields vs
end L2
namespace L2
open PySem PySem.Spec PyProof.Rows PySem.W Builtin.ObjectAttr
section
variable {prog:Program}{w:World}{A:Around}{E:Value->Shared->Prop}{s:Shared}{K:Frag}{x C:Addr}{ox:Obj}{od:Option Obj}{name:Str}{tk:Tok}
theorem ziT(XI:K.In s.heap)(I:InstAt s.heap x ox C od)(hf:findObj K C od name=some r)
  (h:match r with|.value v=>Q (.done (.ret v)) s|.bind g a=>wpAny (model prog w) A (call g [a,.ref x,.ref C]) (λv s'=>Q (.done (.ret v)) s') E s|.missing=>False) :
  wpAny (model prog w) A (Builtin.«object.__getattribute__» ⟨[.ref x,.str name tk],[]⟩) Q E s:=by
 obtain⟨hh,g,d,t,os⟩:=s;have L0:=I.type (M:=model prog w);have L1:=looks_find (M:=model prog w) XI I hf;unfold Builtin.«object.__getattribute__»;refine aA (Ca (a:=(Value.ref x,[Value.str name tk])) (by rfl) ?_);refine aA (Ca (a:=name) (by rfl) ?_);refine aA (L0.at (aA (L1.at ?_)));cases r with
 |value v=>exact aO h
 |bind g a=>
  show wpAny _ _ (holding [a] (call g [a,.ref x,.ref C]) >>= ret) _ _ _;exact aA (m6 (g8 h (λv s' z=>aO z) λ_ _ z=>z))
 |missing=>exact h.elim
theorem zeZ(XI:K.In s.heap)(I:InstAt s.heap x ox C od)(hb:mroIn K C (.type "BaseException")=some true)(hf:findObj K C od name=some r)
  (h:match r with|.value v=>R (.ok (.ret v)) s|.bind g a=>wpAny (model prog w) A.in1 (call g [a,.ref x,.ref C]) (λv s'=>R (.ok (.ret v)) s') (λe s'=>R (.error e) s') s|.missing=>False) :
  codeAny (model prog w) A (.call (.builtin "BaseException.__getattribute__") ⟨[.ref x,.str name tk],[]⟩) R s:=by
 have hk:builtinKind "BaseException.__getattribute__"=some .slot:=by decide +kernel
 have zy:splitId "BaseException.__getattribute__"=some ("BaseException","__getattribute__"):=by decide +kernel
 have ha:=F.args_bexc_ga (.ref x) (.str name tk);refine codeAny_call_builtin F.attr_ValueError.ga.plain F.entry_bexc_ga ?_;have fin:wpAny (model prog w) A.in1 (Builtin.«object.__getattribute__» ⟨[.ref x,.str name tk],[]⟩) (λfin s'=>match fin with|.done f=>R (.ok f) s'|.again c'=>c'.quiet=true/\codeAny (model prog w) A c' R s') (λe s'=>R (.error e) s') s:=by
  refine ziT XI I hf ?_;cases r with
  |value v=>exact h
  |bind g a=>exact h
  |missing=>exact h.elim
 have chk:∀Q:Unit->Shared->Prop,Q () s->wpAny (model prog w) A.in1 (checkBuiltinCall "BaseException.__getattribute__" ⟨[.ref x,.str name tk],[]⟩) Q (λe s'=>R (.error e) s') s:=λQ hq=>by
  obtain⟨hh,g,d,t,os⟩:=s;have L0:=I.type (M:=model prog w);have L1:=looks_mroIn (M:=model prog w) XI hb;have LI:Looks (model prog w) hh (isInstance (.ref x) (.type "BaseException")) true:=L0.andThen L1;simp only[checkBuiltinCall,hk,zy];refine aA ?_
  repeat (first|with_reducible exact hq|with_reducible refine LI.at ?_|wp_step)
 exact chk _ fin
theorem bexc_get?(XI:K.In s.heap)(I:InstAt s.heap x ox C od)(hb:mroIn K C (.type "BaseException")=some true)(hga:findIn K (.ref C) "__getattribute__"=some (some (.builtin "BaseException.__getattribute__")))
  (hgn:findIn K (.ref C) "__getattr__"=some none) (hf:findObj K C od name=some r)
  (h:match r with|.value v=>wpAny (model prog w) A (handedOut v) (λu s'=>Q (some u) s') (λ_ _=>False) {s with toks:=s.toks+1}|.bind g a=>wpAny (model prog w) A.in1 (call g [a,.ref x,.ref C]) (λv s'=>wpAny (model prog w) A (handedOut v) (λu s''=>Q (some u) s'') (λ_ _=>False) s') (λ_ _=>False) {s with toks:=s.toks+1}|.missing=>False) :
  wpAny (model prog w) A (getAttr? (.ref x) name) Q E s:=by
 obtain⟨hh,g,d,t,os⟩:=s;have L0:=I.type (M:=model prog w);have L1:=looks_findIn (M:=model prog w) XI hga;have L2:=looks_findIn (M:=model prog w) XI hgn;have Kv:(Value.builtin "BaseException.__getattribute__"==Value.builtin "object.__getattribute__")=false:=by decide +kernel
 unfold getAttr? getAttrBy? getAttrBy;refine aA (wpAny_mkText (aA (wpAny_attempt (m6 (aA (L0.at (aA (L1.at ?_))))))));show wpAny _ _ (if (onTheHeap (.ref C)&&(Value.builtin "BaseException.__getattribute__"==Value.builtin "object.__getattribute__"))=true then _ else getAttrByItsOwn _ _ _ _ _ _) _ _ _;rw[Kv,Bool.and_false,if_neg J0];unfold getAttrByItsOwn hookBefore callGetattribute boundAndCalled;refine aA (L2.at ?_);refine aA (wpAny_attempt (m6 (aA (Ca (F.attr_ValueError.ga.bind (.ref x)) ?_))));refine wpAny_call (zeZ XI I hb hf ?_);cases r with
 |value v=>exact g8 h (λv s'' hv=>aO hv) (λ_ _ z=>z.elim)
 |bind g a=>exact g8 h (λv s' hv=>g8 hv (λu s'' z=>aO z) λ_ _ z=>z.elim) (λ_ _ z=>z.elim)
 |missing=>exact h.elim
end
structure XC(K:Frag)(C:Addr):Prop where
 ga:findIn K (.ref C) "__getattribute__"=some (some (.builtin "BaseException.__getattribute__"))
 gn:findIn K (.ref C) "__getattr__"=some none
 cl:findIn K (.ref C) "__class__"=some (some (.builtin "object.__class__"))
 mb:mroIn K C (.type "BaseException")=some true
 mo:mroIn K C (.type "object")=some true
 cd:(clsIn K C).isSome=true
 dg:specialIn K (.builtin "object.__class__") "__get__"=some (some (.builtin "getset_descriptor.__get__"))
 dt:takesIn K (.builtin "object.__class__")=some true
theorem zf4{K:Frag}{C:Addr}{od:Option Obj}{name:Str}{a g:Value}(hc:(clsIn K C).isSome=true)(ha:findIn K (.ref C) name=some (some a))(hg:specialIn K a "__get__"=some (some g))(ht:takesIn K a=some true):findObj K C od name=some (.bind g a):=by
 obtain⟨cd,z⟩:=Mw.mp hc;simp only[findObj,z,ha,hg,ht,Option.bind_some]
theorem Wr{K:Frag}{e C:Addr}(c:XC K C):KitX K (.ref e) (.ref C) (λh=>∃ox od,InstAt h e ox C od) where
 ty:=λ_ _ _ ⟨_,_,I⟩=>I.type
 it:=λ_ _ XI _=>by
  have q:=c.cd;unfold clsIn at q;split at q
  ·rename_i c' d' cd' sl' lk;intro A' Q' E' s' k z;unfold isType loadHead;exact aA (wpAny_loadPart (k _ _ (XI _ _ lk)) (aO z))
  ·cases q
 ne:=λh tp dd its n sl XI htp=>by
  refine Nj.mpr λz=>?_;have ee:C=tp:=Value.ref.inj (m8.mp z);subst ee;have q:=c.cd;unfold clsIn at q;split at q
  ·rename_i c' d' cd' sl' lk;have y:=(XI _ _ lk).symm.trans htp;cases y
  ·cases q
 ca:=λ{prog w A E Q s} XI ⟨ox,od,I⟩ k=>by
  have hf:findObj K C od "__class__"=some (.bind (.builtin "getset_descriptor.__get__") (.builtin "object.__class__")):=zf4 c.cd c.cl c.dg c.dt;refine bexc_get? XI I c.mb c.ga c.gn hf ?_;exact wpAny_call (class_get (s:={s with toks:=s.toks+1}) (ox:=ox) (od:=od) XI I c.mo (handed_on rfl k))
end L2
namespace L2
open PySem PySem.Spec PyProof.Rows
theorem zez:∀(names:List (Str×NameKind)) (cs:List (Str×Addr)),(∀x∈names,x.2=.free->∃c,env.cells.lookup x.1=some c)->(∀x c,cs.lookup x=some c->env.cells.lookup x=some c)->
  ∃cl,(forIn names cs λx r=>(do
    if x.2==.free then
     let a <-cellOf env x.1
     pure (ForInStep.yield ((x.1,a)::r))
    else pure (ForInStep.yield r)):Sem (List (Str×Addr)))=pure cl/\(∀x c,cl.lookup x=some c->env.cells.lookup x=some c)/\(∀x c,cs.lookup x=some c->cl.lookup x=some c)/\∀x∈names,x.2=.free->∃c,cl.lookup x.1=some c:=by
 intro names
 induction names with
 |nil=>intro cs _ h;exact⟨cs,rfl,h,λ_ _ q=>q,λx z=>nomatch z⟩
 |cons y r ih=>
  intro cs h1 h2;obtain⟨n,k⟩:=y;by_cases hk:k=.free
  ·subst hk;obtain⟨c,hc⟩:=h1 (n,.free) lV rfl;have hc:env.cells.lookup n=some c:=hc;have h3:∀x d,((n,c)::cs).lookup x=some d->env.cells.lookup x=some d:=λx d q=>by
    rw[nG] at q;by_cases z:x=n
    ·subst z;simp at q;subst q;exact hc
    ·have z':(x==n)=false:=by simpa using z
     rw[z'] at q;exact h2 x d q
   obtain⟨cl,e,a,b,d⟩:=ih ((n,c)::cs) (λx z=>h1 x (iI _ z)) h3;have hco:cellOf env n=pure c:=by
    unfold cellOf;rw[hc]
   refine⟨cl,?_,a,λx q z=>?_,λx z q=>?_⟩
   ·rw[BW];simp only[BP,if_true,hco];exact e
   ·by_cases y:x=n
    ·subst y;have z1:=h2 x q z;rw[hc] at z1;cases z1;exact b x c Qi
    ·have y':(x==n)=false:=by simpa using y
     exact b x q (by rw[nG,y'];exact z)
   ·rcases gG.mp z with z|z
    ·subst z;exact⟨c,b n c Qi⟩
    ·exact d x z q
  ·have hb:(k==NameKind.free)=false:=by simpa using hk
   obtain⟨cl,e,a,b,d⟩:=ih cs (λx z=>h1 x (iI _ z)) h2;refine⟨cl,?_,a,b,λx z q=>?_⟩
   ·rw[BW];simp only[hb,uc,qd];exact e
   ·rcases gG.mp z with z|z
    ·subst z;exact absurd q hk
    ·exact d x z q
theorem zeH(h:∀x∈scope.names,x.2=.free->∃c,env.cells.lookup x.1=some c):∃cl,closureFor scope env=pure cl/\(∀x c,cl.lookup x=some c->env.cells.lookup x=some c)/\∀x∈scope.names,x.2=.free->∃c,cl.lookup x.1=some c:=by
 obtain⟨cl,e,a,_,d⟩:=zez scope.names [] h (λx c q=>by cases q);refine⟨cl,?_,a,d⟩;unfold closureFor;have e':=e;simp only[pure_bind,bind_pure] at e' ⊢;exact e'
theorem Py{env:Env}{k:NameKind}:∀{names:List (Str×NameKind)} {x:Str},(names.map λ(n,k)=>if (k==NameKind.free&&env.scope.kind==.function&&env.kindOf n==some .cell) then (n,NameKind.cell) else (n,k)).lookup x=some k->
  names.lookup x=some k\/(k=.cell/\names.lookup x=some .free)
 |[],x,h=>by simp at h
 |(n,q)::r,x,h=>by
  rw[jq,nG] at h;rw[nG];have hd:∀c:Bool,(if c=true then (n,NameKind.cell) else (n,q)).1=n:=λc=>by cases c<;>rfl
  rw[hd] at h;by_cases z:x=n
  ·subst z;simp only[BP] at h ⊢;split at h
   ·rename_i y;simp only[gq,m8] at y;cases h;exact .inr ⟨rfl,by rw[y.1.1]⟩
   ·cases h;exact .inl rfl
  ·have z':(x==n)=false:=by simpa using z
   simp only[z'] at h ⊢;exact Py h
theorem Kw{env:Env}:∀{names:List (Str×NameKind)} {x:Str},names.lookup x=some .free->
  (names.map λ(n,k)=>if (k==NameKind.free&&env.scope.kind==.function&&env.kindOf n==some .cell) then (n,NameKind.cell) else (n,k)).lookup x=some .cell \/
  (names.map λ(n,k)=>if (k==NameKind.free&&env.scope.kind==.function&&env.kindOf n==some .cell) then (n,NameKind.cell) else (n,k)).lookup x=some .free
 |[],x,h=>by simp at h
 |(n,q)::r,x,h=>by
  rw[nG] at h;rw[jq,nG];have hd:∀c:Bool,(if c=true then (n,NameKind.cell) else (n,q)).1=n:=λc=>by cases c<;>rfl
  rw[hd];by_cases z:x=n
  ·subst z;simp only[BP] at h ⊢;cases h
   split
   ·exact .inl rfl
   ·exact .inr rfl
  ·have z':(x==n)=false:=by simpa using z
   simp only[z'] at h ⊢;exact Kw h
structure mJ(n:Nat)(h1:Heap)(names:List (Str×NameKind))(cl dW:List (Str×Addr)):Prop where
 d1:∀x c,dW.lookup x=some c->(cl.lookup x=some c/\(x,NameKind.cell)∉names)\/((x,NameKind.cell)∈names/\n<c/\h1.IsCell c none)
 d2:∀x y c,n<c->dW.lookup x=some c->dW.lookup y=some c->x=y
 d3:∀x,names.lookup x=some .cell->∃c,dW.lookup x=some c
 d4:∀x c,(x,NameKind.cell)∉names->cl.lookup x=some c->dW.lookup x=some c
theorem cc:(NameKind.cell==NameKind.cell)=true:=by decide
theorem Gi:∀(names:List (Str×NameKind)) (h:Heap) (b:Addr) (o:Obj),h.get? b=some o->(pushCells h names).get? b=some o
 |[],h,b,o,e=>e
 |(x,k)::r,h,b,o,e=>by
  rw[pushCells]
  split
  ·exact Gi r _ b o (cO _ e)
  ·exact Gi r h b o e
theorem Pz:∀(names:List (Str×NameKind)) (h:Heap) (acc:List (Str×Addr)) (x:Str) (c:Addr),(cellsFrom h.objs.size names acc).lookup x=some c->
  (acc.lookup x=some c/\(x,NameKind.cell)∉names)\/((x,NameKind.cell)∈names/\h.objs.size<=c/\(pushCells h names).IsCell c none)
 |[],h,acc,x,c,e=>.inl ⟨e,by simp⟩
 |(y,k)::r,h,acc,x,c,e=>by
  rw[cellsFrom] at e;rw[pushCells];by_cases hk:k=.cell
  ·subst hk;rw[if_pos cc] at e ⊢;have sz:(h.push {cls:=Value.type "cell",data:=Data.cell none}).objs.size=h.objs.size+1:=by unfold Heap.push;simp
   rw[<-sz] at e;rcases Pz r _ _ x c e with ⟨a,b⟩|⟨a,b,d⟩
   ·rw[nG] at a;by_cases z:x=y
    ·subst z;simp at a;subst a;exact .inr ⟨lV,cL _,_,Gi r _ _ _ (fC _ rfl),rfl⟩
    ·have z':(x==y)=false:=by simpa using z
     rw[z'] at a;exact .inl ⟨a,by simp[z,b]⟩
   ·exact .inr ⟨iI _ a,by lia,d⟩
  ·have hb:(k==NameKind.cell)=false:=by simpa using hk
   rw[if_neg (by rw[hb];decide)] at e ⊢;rcases Pz r _ _ x c e with ⟨a,b⟩|⟨a,b,d⟩
   ·exact .inl ⟨a,by simp[b];intro _ q;exact hk q.symm⟩
   ·exact .inr ⟨iI _ a,b,d⟩
theorem PB:∀(names:List (Str×NameKind)) (n:Nat) (acc:List (Str×Addr)) (x y:Str) (c:Addr),(∀u v,acc.lookup u=some c->acc.lookup v=some c->u=v)->(∀u a,acc.lookup u=some a->a<n\/a≠c)->(cellsFrom n names acc).lookup x=some c->(cellsFrom n names acc).lookup y=some c->x=y
 |[],n,acc,x,y,c,h,_,e1,e2=>h x y e1 e2
 |(z,k)::r,n,acc,x,y,c,h,hl,e1,e2=>by
  rw[cellsFrom] at e1 e2;by_cases hk:k=.cell
  ·subst hk;rw[if_pos cc] at e1 e2;refine PB r (n+1) _ x y c (λu v a b=>?_) (λu a q=>?_) e1 e2
   ·rw[nG] at a b;by_cases u1:u=z
    ·by_cases v1:v=z
     ·rw[u1,v1]
     ·have v':(v==z)=false:=by simpa using v1
      subst u1;simp at a;rw[v'] at b;subst a;have b:acc.lookup v=some n:=b;rcases hl v n b with q|q
      ·exact absurd q (lM _)
      ·exact absurd rfl q
    ·have u':(u==z)=false:=by simpa using u1
     rw[u'] at a;have a:acc.lookup u=some c:=a;by_cases v1:v=z
     ·subst v1;simp at b;subst b;rcases hl u n a with q|q
      ·exact absurd q (lM _)
      ·exact absurd rfl q
     ·have v':(v==z)=false:=by simpa using v1
      rw[v'] at b;exact h u v a b
   ·rw[nG] at q;by_cases u1:u=z
    ·subst u1;simp at q;subst q;exact .inl (DN _)
    ·have u':(u==z)=false:=by simpa using u1
     rw[u'] at q;exact(hl u a q).imp (λq=>uJ q) id
  ·have hb:(k==NameKind.cell)=false:=by simpa using hk
   rw[if_neg (by rw[hb];decide)] at e1 e2;exact PB r n acc x y c h hl e1 e2
theorem PJ:∀(names:List (Str×NameKind)) (n:Nat) (acc:List (Str×Addr)) (x:Str) (c:Addr),(x,NameKind.cell)∉names->acc.lookup x=some c->(cellsFrom n names acc).lookup x=some c
 |[],n,acc,x,c,_,e=>e
 |(z,k)::r,n,acc,x,c,h,e=>by
  rw[cellsFrom];have hr:(x,NameKind.cell)∉r:=λq=>h (iI _ q);by_cases hk:k=.cell
  ·subst hk;rw[if_pos cc];refine PJ r (n+1) _ x c hr ?_;have:x≠z:=λq=>h (by rw[q];exact lV);have z':(x==z)=false:=by simpa using this
   rw[nG,z'];exact e
  ·have hb:(k==NameKind.cell)=false:=by simpa using hk
   rw[if_neg (by rw[hb];decide)];exact PJ r n acc x c hr e
theorem PK:∀(names:List (Str×NameKind)) (acc:List (Str×Addr)) (s:Shared) (Q:List (Str×Addr)->Shared->Prop),
  Q (cellsFrom s.heap.objs.size names acc) {s with heap:=pushCells s.heap names}->
  wpAny M A (forIn names acc λx (cells:List (Str×Addr))=>match x with
   |(name,kind)=>if (kind==NameKind.cell)=true then do
     let a <-alloc {cls:=Value.type "cell",data:=Data.cell none}
     pure (ForInStep.yield ((name,a)::cells))
    else pure (ForInStep.yield cells)) Q E s
 |[],acc,s,Q,h=>by
  rw[JZ];exact aO h
 |(z,k)::r,acc,s,Q,h=>by
  rw[BW];rw[cellsFrom,pushCells] at h;by_cases hk:k=.cell
  ·subst hk;rw[if_pos cc,if_pos cc] at h;refine aA ?_;dsimp only;rw[if_pos cc];refine aA (wpAny_alloc (aO ?_));refine PK r _ _ Q ?_;have sz:(s.heap.push {cls:=Value.type "cell",data:=Data.cell none}).objs.size=s.heap.objs.size+1:=by unfold Heap.push;simp
   rw[sz];exact h
  ·have hb:(k==NameKind.cell)=false:=by simpa using hk
   rw[if_neg (by rw[hb];decide),if_neg (by rw[hb];decide)] at h;refine aA ?_;dsimp only;rw[if_neg (by rw[hb];decide)];exact aO (PK r _ _ Q h)
theorem Ws(old:∀x c,cl.lookup x=some c->c<s.heap.objs.size)(inj:∀x y c,cl.lookup x=some c->cl.lookup y=some c->x=y)
  (h:∀h1 dW,h1.Ns s.heap.objs.size (λ_=>none)->(∀b o,s.heap.get? b=some o->h1.get? b=some o)->mJ s.heap.objs.size h1 scope.names cl dW->Q {scope:=scope,locals:=s.heap.objs.size,globals:=globals,cells:=dW,qual:=qual,func:=none,code:=env.code,frame:=env.frame,builtins:=env.builtins} {s with heap:=h1}) :
  wpAny M A (newFunctionEnv scope globals cl [] qual none .none (some env)) Q E s:=by
 unfold newFunctionEnv;refine aA (wpAny_alloc ?_);refine aA ?_;refine PK scope.names cl _ _ ?_;dsimp only;rw[JZ];refine aA (aO (aO ?_));have sz:(s.heap.push {cls:=Value.type (if (some env).isSome=true then "dict" else "frame"),data:=Data.dict #[]}).objs.size=s.heap.objs.size+1:=by unfold Heap.push;simp
 refine h _ _ ?_ (λb o e=>Gi _ _ _ _ (cO _ e)) ⟨λx c e=>?_,λx y c hc e1 e2=>?_,λx e=>?_,λx c hx e=>PJ _ _ _ x c hx e⟩
 ·refine⟨_,#[],_,Gi _ _ _ _ (fC _ rfl),rfl,?_,λ_=>rfl⟩;intro e he;simp at he
 ·rcases Pz _ _ _ x c e with ⟨a,b⟩|⟨a,b,d⟩
  ·exact .inl ⟨a,b⟩
  ·rw[sz] at b;exact .inr ⟨a,by lia,d⟩
 ·exact PB _ _ _ x y c (λu v a b=>inj u v c a b) (λu a q=>.inl (by rw[sz];exact uJ (old u a q))) e1 e2
 ·have:=MP scope.names (s.heap.push {cls:=Value.type (if (some env).isSome=true then "dict" else "frame"),data:=Data.dict #[]}).objs.size cl (.inl e);exact Mw.mp this
noncomputable def Cx.blk(X:Cx)(scope:Scope)(cl:List (Str×Addr))(N:List Str)(C:Addr)(s3:Shared)(H3:Hp)(fp:List Addr)(ao:List (Addr×Obj)):Cx where
 prog:=X.prog
 w:=X.w
 K:=X.K
 mg:=X.mg
 base:=X.base
 A:=X.A
 N:=N
 s₀:=s3
 H₀:=H3
 env:=compEnvC scope cl C X.env
 outer:=X.stack
 stack:=X.stack
 ex:=fp
 fn:=λx=>scope.names.lookup x==some .cell
 aj:=X.aj
 pn:=X.pn++ao
 xe:=λ_ _=>False
structure cj(sc scope:Scope):Prop where
 kind:scope.kind=.function
 Wt:∀y∈scope.names,y.2=.cell->scope.names.lookup y.1=some .cell
 free:∀y∈scope.names,y.2=.free->sc.names.lookup y.1=some .cell\/sc.names.lookup y.1=some .free
 loc:∀y∈scope.names,y.2=.local->scope.names.lookup y.1=some .local
section
variable {X:Cx}{ao:List (Addr×Obj)}{Z:St}{H:Hp}{s:Shared}{scope:Scope}{cl:List (Str×Addr)}{N:List Str}{fp:List Addr}{ZY:St}
theorem Wu{h1:Heap}{t:Nat}{dW:List (Str×Addr)}(I:Inv X ao Z H s)(B:cj X.env.scope scope)(c1:∀x c,cl.lookup x=some c->X.env.cells.lookup x=some c)(c2:∀x∈scope.names,x.2=.free->∃c,cl.lookup x.1=some c)
  (f:∀b∈fp,eF X ao H b) (fo:∀b∈fp,∃o,s.heap.get? b=some o) (hn:h1.Ns s.heap.objs.size (λ_=>none)) (kp:∀b o,s.heap.get? b=some o->h1.get? b=some o) (CN:mJ s.heap.objs.size h1 scope.names cl dW)
  (hl:ZY.length=N.length) (hZ:∀(i:Nat) (x:Str) (v:V),N[i]?=some x->ZY[i]?=some (some v)->scope.names.lookup x=some .free/\∃j:Nat,X.N[j]?=some x/\Z[j]?=some (some v)) :
  Inv (X.blk scope dW N s.heap.objs.size s H fp ao) [] ZY H {s with heap:=h1,toks:=t}:=by
 have lt:∀b o,s.heap.get? b=some o->b≠s.heap.objs.size:=λb o q=>dM (bV q);have Wv:∀b,b≠X.env.locals->b∉X.fs->b∉frs X.stack:=λb a c z=>(gG.mp (I.jr b z)).elim a c;have mem_of:∀x k,scope.names.lookup x=some k->(x,k)∈scope.names:=λx k q=>Bs q;have old:∀x c,cl.lookup x=some c->c<s.heap.objs.size:=λx c q=>by
  obtain⟨v,o,q1,q2⟩:=I.cell x c (c1 x c q);exact bV q1
 have Ww:∀x,scope.names.lookup x=some .free->(x,NameKind.cell)∉scope.names:=λx q z=>by
  have:=B.Wt _ z rfl;have this:scope.names.lookup x=some .cell:=this;rw[q] at this;cases this
 refine⟨⟨I.ok.mod,B.kind,I.ok.glob,I.ok.blt,cL _,λx y c a b=>?_,λx hx=>?_,λx c z q=>?_,I.ok.hd,I.ok.frames,.inl rfl,λb hb=>?_,I.bs,lN I.ok.yQ I.sz,λb o q hb=>?_,λb hb=>Wv b (f b hb).2.1 (f b hb).2.2.1,I.stack,I.kO⟩,
  rfl,I.bare,Un.kept kp,⟨_,hn,λi x v e1 e2 e3=>?_⟩,λx c q=>?_,I.hok.fresh (cL _),λx c q=>?_,λp hp=>?_,I.hok.kept kp,hl⟩
 ·by_cases hc:s.heap.objs.size<c
  ·exact CN.d2 x y c hc a b
  ·rcases CN.d1 x c a with ⟨a1,_⟩|⟨_,a1,_⟩
   ·rcases CN.d1 y c b with ⟨b1,_⟩|⟨_,b1,_⟩
    ·exact I.ok.inj x y c (c1 x c a1) (c1 y c b1)
    ·exact absurd b1 hc
   ·exact absurd a1 hc
 ·have hx:(relabel scope X.env).names.lookup x=some .cell\/(relabel scope X.env).names.lookup x=some .free:=hx;have fr:scope.names.lookup x=some .cell\/scope.names.lookup x=some .free:=by
   rcases hx with hx|hx
   ·rcases Py hx with z|⟨_,z⟩
    ·exact .inl z
    ·exact .inr z
   ·rcases Py hx with z|⟨z,_⟩
    ·exact .inr z
    ·cases z
  rcases fr with fr|fr
  ·exact CN.d3 x fr
  ·obtain⟨c,hc⟩:=c2 (x,.free) (mem_of x _ fr) rfl;exact⟨c,CN.d4 x c (Ww x fr) hc⟩
 ·rcases CN.d1 x c q with ⟨_,q1⟩|⟨_,q1,_⟩
  ·have z:(scope.names.lookup x==some NameKind.cell)=true:=z;exact absurd (mem_of x _ (by simpa using z)) q1
  ·exact uN q1
 ·obtain⟨o,q⟩:=fo b hb;refine⟨lt b o q,λx c z=>?_⟩;rcases CN.d1 x c z with ⟨q1,_⟩|⟨_,q1,_⟩
  ·exact(f b hb).2.2.2.2.1 x c (c1 x c q1)
  ·exact λe=>absurd (bV q) (by rw[<-e];exact Cd.mpr (uN q1))
 ·obtain⟨_,_,_,z,_⟩:=f b hb;rcases z with z|z
  ·exact I.ok.yR b o q z
  ·exact absurd (gU (bV q) (lN I.ok.yQ z)) (lM _)
 ·obtain⟨fr,j,hj,hv⟩:=hZ i x v e1 e2;have hk:=B.free (x,.free) (mem_of x _ fr) rfl;obtain⟨m,hm,hlk⟩:=I.loc;obtain⟨u,r,l⟩:=hlk j x v hj hv (hk.elim (λz=>.inr (.inl z)) λz=>.inr (.inr z));obtain⟨c',jM⟩:=c2 (x,.free) (mem_of x _ fr) rfl;have jM:cl.lookup x=some c':=jM;refine⟨u,r,.inr ⟨Kw fr,c',CN.d4 x c' (Ww x fr) jM,?_⟩⟩;rcases l with ⟨k1,_⟩|⟨_,c,k2,oc,k3,k4⟩
  ·have k1:X.env.scope.names.lookup x=some .local:=k1;rcases hk with hk|hk
   ·have hk:X.env.scope.names.lookup x=some .cell:=hk;rw[k1] at hk;cases hk
   ·have hk:X.env.scope.names.lookup x=some .free:=hk;rw[k1] at hk;cases hk
  ·have e:=c1 x c' jM;rw[k2] at e;cases e;exact⟨oc,kp _ oc k3,k4⟩
 ·rcases CN.d1 x c q with ⟨q1,_⟩|⟨_,_,q1⟩
  ·obtain⟨v,o,q1,q2⟩:=I.cell x c (c1 x c q1);exact⟨v,o,kp c o q1,q2⟩
  ·exact⟨none,q1⟩
 ·rcases CN.d1 x c q with ⟨q1,_⟩|⟨_,q1,_⟩
  ·exact I.iJ x c (c1 x c q1)
  ·exact I.hok.fresh (uN q1)
 ·have hp:p∈X.pn++ao:=by
   have z:p∈(X.pn++ao)++[]:=hp;simpa using z
  obtain⟨a1,a2,a3,a4,a5⟩:=I.pin p hp;exact⟨kp _ _ a1,a2,lt _ _ a1,Wv _ a3 a4,a5⟩
theorem Wx(I:Inv X ao Z H s)(f:∀b∈fp,eF X ao H b)(bF:Inv (X.blk scope cl N s.heap.objs.size s H fp ao) [] Z' H' s'):Inv X ao Z H' s':=
 I.call' (ch:=fp) bF.os bF.base bF.hok bF.bare λb hb=>by
  obtain⟨_,a2,_,a4,a5,a6⟩:=f b hb;exact⟨a4.imp id λz=>Dy z,a2,a5,a6⟩
theorem PL{Z':St}{H':Hp}{s':Shared}{h2:Heap}{C:Addr}(bF:Inv X ao Z H' s')(hC:X.s₀.heap.objs.size<=C)(n1:H' C=none)(n2:C≠X.env.locals)(n3:∀x c,X.env.cells.lookup x=some c->c≠C)(n4:∀p∈X.pn++ao,p.1≠C)
  (sb:Heap.SameBut C s'.heap h2):Inv X ao Z H' {s' with heap:=h2}:=
 bF.turned (t':=s'.toks) (λb o z q=>(sb.2 b z).trans q) n1 n2 (.inr hC) n3 n4
end
noncomputable abbrev jk(ifs:List Expr)(env:Env):Sem Bool:=forIn ifs true λc r=>if r=true then do let ok <-isTrue c env (eval c env);pure (ForInStep.yield ok) else pure (ForInStep.yield r)
theorem zfE{prog:Program}{w:World}{A:Around}{R:Result->Shared->Prop}{s:Shared}{elt target iter:Expr}{ifs:List Expr}{scope:Scope}{pos:Pos}{it acc:Value}{env:Env}(V:Nat->Shared->Prop)
  (turn:∀n s,V n s->wpAny (model prog w) A (pyNext it) (λr s₁=>match r with
   |none=>R (.ok .next) s₁
   |some v=>wpAny (model prog w) A (letOwnedTupleGo target it v) (λ_ s₂=>wpAny (model prog w) A (assign target env v) (λ_ s₃=>
     wpAny (model prog w) A (jk ifs env) (λok s₄=>
      if ok=true then wpAny (model prog w) A (eval elt env) (λx s₅=>wpAny (model prog w) A (call (.builtin "list.append") [acc,x]) (λ_ s₆=>∃m,m<n/\V m s₆) (λ_ _=>False) s₅) (λ_ _=>False) s₄
      else ∃m,m<n/\V m s₄) (λ_ _=>False) s₃) (λ_ _=>False) s₂) (λ_ _=>False) s₁) (λ_ _=>False) s)
  (n:Nat) (h:V n s):codeAny (model prog w) A (.compLoop (.ListComp elt [⟨target,iter,ifs,0⟩] scope pos) 0 it acc env) R s:=by
 refine codeAny_loop rfl V (λn s hV=>?_) n h;show wpAny _ A ((compTurn (.ListComp elt [⟨target,iter,ifs,0⟩] scope pos) 0 it acc env).onRaise (λx=>do noteFrame x env;theTreesLotGoes x)) _ _ s;refine wpAny_noted ?_;rw[compTurn_list];refine aA (uq (aA (g8 (turn n s hV) (λr s₁ h₁=>?_) λ_ _ z=>z.elim)));cases r with
 |none=>exact aO h₁
 |some v=>
  refine aA (g8 h₁ (λ_ s₂ h₂=>?_) λ_ _ z=>z.elim);refine aA (g8 h₂ (λ_ s₃ h₃=>aA (g8 h₃ (λok s₄ h₄=>?_) λ_ _ z=>z.elim)) λ_ _ z=>z.elim);cases ok with
  |true=>
   simp only[if_true] at h₄ ⊢;exact aA (aA (g8 h₄ (λx s₅ h₅=>aA (g8 h₅ (λ_ s₆ h₆=>aO (aO ⟨rfl,h₆⟩)) λ_ _ z=>z.elim)) λ_ _ z=>z.elim))
  |false=>
   simp only[uc,qd] at h₄ ⊢;exact aO ⟨rfl,h₄⟩
def Cr(X:Cx)(ifs:List Expr)(t:TT):Prop:=
 ∀(ao:List (Addr×Obj)) (s:Shared) (Z:St) (H:Hp) (Q:Bool->Hp->Prop),Inv X ao Z H s->t Z H Q->wpAny (model X.prog X.w) X.A (jk ifs X.env) (TP X ao Z Q) X.xe s
noncomputable def PN:TT:=λ_ H Q=>Q true H
theorem zia:Cr X [] PN:=λ_ _ _ H _ I h=>wpAny_tests_nil ⟨H,I,h⟩
theorem zif(h:PT X c t):Cr X [c] t:=λao s Z H Q I hq=>wpAny_tests_one (h ao s Z H Q I hq)
def Gj(ZY:St->St)(g:TG)(tt:TT)(te:TE)(bF:It)(Z:St)(H:Hp)(Q:VK):Prop:=∀D,H D=none->∃W:Nat->Nat->St->Hp->Prop,(∃m,W 0 m (ZY Z) (upd H D (.lst [])))/\∀i m Z' H',W i m Z' H'->
 (bF.stop i H'/\Q (.ref D) H')\/(bF.go i H'/\∃N:St->Hp->Prop,(∀Z2 H2,N Z2 H2->∃m',m'<m/\W (i+1) m' Z2 H2)/\∀x H2,bF.rG i H' x H2->g x Z' H2 λZ3 H3=>tt Z3 H3 λok H4=>
  if ok=true then te Z3 H4 λy H5=>∃ys,H5 D=some (.lst ys)/\ys.length<sizeLine/\N Z3 (upd H5 D (.lst (ys++[y]))) else N Z3 H4)
section
variable {X:Cx}{elt tg iter:Expr}{ifs:List Expr}{scope:Scope}{pos:Pos}{N:List Str}{ZY:St->St}{wi:TI}{g:TG}{tt:TT}{te:TE}
structure Parts(X:Cx)(elt tg:Expr)(ifs:List Expr)(scope:Scope)(N:List Str)(g:TG)(tt:TT)(te:TE):Prop where
 tgt:∀cl C s3 H3 fp ao,PG (X.blk scope cl N C s3 H3 fp ao) tg g
 Gk:∀cl C s3 H3 fp ao,Cr (X.blk scope cl N C s3 H3 fp ao) ifs tt
 el:∀cl C s3 H3 fp ao,PE (X.blk scope cl N C s3 H3 fp ao) elt te
theorem Wy(hc:X.aj=true)(B:cj X.env.scope scope)(P:Parts X elt tg ifs scope N g tt te)(hl:∀Z,(ZY Z).length=N.length)
  (hZ:∀(Z:St) (i:Nat) (x:Str) (v:V),N[i]?=some x->(ZY Z)[i]?=some (some v)->scope.names.lookup x=some .free/\∃j:Nat,X.N[j]?=some x/\Z[j]?=some (some v))
  {ao:List (Addr×Obj)} {s:Shared} {Z:St} {H:Hp} {Q:VK} {it:Addr} {fp:List Addr} {tn:Nat->Heap->Prop} {bF:It} (I:Inv X ao Z H s) (T:Turn X.prog X.w X.K tg bF fp it tn) (st:tn 0 s.heap) (f:∀b∈fp,eF X ao H b) (h:Gj ZY g tt te bF Z H Q)
  {cl:List (Str×Addr)} (c1:∀x c,cl.lookup x=some c->X.env.cells.lookup x=some c) (c2:∀x∈scope.names,x.2=.free->∃c,cl.lookup x.1=some c) {R:Value->Addr->Result->Shared->Prop} {E:Value->Shared->Prop}
  (k:∀D C s' H',Inv X ao Z H' s'->X.s₀.heap.objs.size<=C->H' C=none->C≠X.env.locals->(∀x c,X.env.cells.lookup x=some c->c≠C)->(∀p∈X.pn++ao,p.1≠C)->(∃m,s'.heap.Ns C m)->Q (.ref D) H'->R (.ref D) C (.ok .next) s') :
  wpAny (model X.prog X.w) X.A (newList []) (λacc s₃=>wpAny (model X.prog X.w) X.A (newFunctionEnv scope X.env.globals cl [] X.env.qual none .none (some X.env)) (λcenv s₄=>
   codeAny (model X.prog X.w) X.A (.compStart (.ListComp elt [⟨tg,iter,ifs,0⟩] scope pos) 0 (.ref it) acc {cenv with scope:=relabel scope X.env}) (R acc cenv.locals) s₄) E s₃) E s:=by
 refine qb ?_;have hD:H s.heap.objs.size=none:=I.hok.fresh (cL _);have I3:Inv X ao Z (upd H s.heap.objs.size (.lst [])) {s with heap:=s.heap.push {cls:=.type "list",dict:=none,data:=.seq ([]:List Value).toArray}}:=
  I.laid (t':=s.toks) (λb u q=>cO _ q) (cL _) ⟨uP _,[],0,.nil,fC _ rfl⟩
 have f3:∀b∈fp,eF X ao (upd H s.heap.objs.size (.lst [])) b:=λb hb=>by
  obtain⟨a1,a2⟩:=f b hb;obtain⟨o,q,_⟩:=T.obj 0 _ st b hb;exact⟨by rw[cX (dM (bV q))];exact a1,a2⟩
 have st3:tn 0 (s.heap.push {cls:=.type "list",dict:=none,data:=.seq ([]:List Value).toArray}):=T.keep _ _ _ st λb hb o q=>cO _ q;obtain⟨W,⟨m0,w0⟩,turn⟩:=h s.heap.objs.size hD;generalize PX:({s with heap:=s.heap.push {cls:=.type "list",dict:=none,data:=.seq ([]:List Value).toArray}}:Shared)=s3 at *;have nR:tn 0 s3.heap:=by rw[<-PX];exact st3
 generalize hH3:upd H s.heap.objs.size (.lst [])=H3 at *;refine Ws (λx c q=>by obtain⟨v,o,q1,_⟩:=I3.cell x c (c1 x c q);exact bV q1) (λx y c a b=>I3.ok.inj x y c (c1 x c a) (c1 y c b)) λh1 dW hn kp CN=>?_;have zA:Inv (X.blk scope dW N s3.heap.objs.size s3 H3 fp ao) [] (ZY Z) H3 {s3 with heap:=h1}:=
  Wu (t:=s3.toks) I3 B c1 c2 f3 (λb hb=>let ⟨o,q,_⟩:=T.obj 0 _ nR b hb;⟨o,q⟩) hn kp CN (hl Z) (hZ Z)
 have Gm:tn 0 h1:=T.keep _ _ _ nR λb hb o q=>kp b o q;have fY:∀{H':Hp},(∀b∈fp,H' b=none)->∀b∈fp,eF (X.blk scope dW N s3.heap.objs.size s3 H3 fp ao) [] H' b:=λ{H'} z b hb=>by
  obtain⟨a1,a2,a3,a4,a5,a6⟩:=f3 b hb;obtain⟨o,q,_⟩:=T.obj 0 _ nR b hb;refine⟨z b hb,dM (bV q),λy=>(gG.mp (I3.jr b y)).elim a2 a3,.inl hb,λx c y=>?_,λp hp=>a6 p ?_⟩
  ·rcases CN.d1 x c y with ⟨q1,_⟩|⟨_,q1,_⟩
   ·exact a5 x c (c1 x c q1)
   ·exact λe=>absurd (bV q) (by rw[<-e];exact Cd.mpr (uN q1))
  have y:p∈(X.pn++ao)++[]:=hp;simpa using y
 have loop:codeAny (model X.prog X.w) X.A (.compLoop (.ListComp elt [⟨tg,iter,ifs,0⟩] scope pos) 0 (.ref it) (.ref s.heap.objs.size) (compEnvC scope dW s3.heap.objs.size X.env)) (R (.ref s.heap.objs.size) s3.heap.objs.size) {s3 with heap:=h1}:=by
  refine zfE (λn s'=>∃i Z' H',Inv (X.blk scope dW N s3.heap.objs.size s3 H3 fp ao) [] Z' H' s'/\tn i s'.heap/\(∀b∈fp,H' b=none)/\W i n Z' H') ?_ m0 ⟨0,ZY Z,H3,zA,Gm,λb hb=>(f3 b hb).1,w0⟩;rintro n s5 ⟨i,Z5,H5,je,qP,uz,w5⟩;rcases turn i n Z5 H5 w5 with ⟨stop,q⟩|⟨go,Nx,hN,step⟩
  ·refine bw (T.done (X.blk scope dW N s3.heap.objs.size s3 H3 fp ao) rfl rfl rfl hc i [] s5 Z5 H5 _ je (fY uz) qP stop) λr s6 ⟨hr,k_⟩=>?_;subst hr;have JX:=Wx I3 f3 k_;refine k s.heap.objs.size s3.heap.objs.size s6 H5 JX I3.sz k_.free (uO I3.lt) (λx c y z=>?_) (λp hp z=>?_) ?_ q
   ·obtain⟨v,qc⟩:=I3.cell x c y;exact absurd qc.lt (by rw[z];exact lM _)
   ·exact absurd (bV (I3.pin p hp).1) (by rw[z];exact lM _)
   ·obtain⟨m,hm,_⟩:=k_.loc;exact⟨m,hm⟩
  ·refine bw (T.item (X.blk scope dW N s3.heap.objs.size s3 H3 fp ao) rfl rfl rfl hc i [] s5 Z5 H5 _ je (fY uz) qP go) λr s6 hx=>wJ hx λu hr h6=>?_;subst hr;refine bw h6 λ_ s7 hz=>?_;obtain⟨x,H7,rP,r7,y7,rQ,Gn⟩:=hz;have mK:=rP.pinned (fY Gn) (T.obj _ _ rQ);refine bw (P.tgt dW s3.heap.objs.size s3 H3 fp ao _ s7 Z5 H7 x u _ mK r7 (step x H7 y7)) λ_ s8 hz=>?_;obtain⟨Z8,H8,rR,q8⟩:=hz;refine bw (P.Gk dW s3.heap.objs.size s3 H3 fp ao _ s8 Z8 H8 _ rR q8) λok s9 hx=>wJ hx λH9 rT q9=>?_;have again:∀{H':Hp} {s':Shared},Inv (X.blk scope dW N s3.heap.objs.size s3 H3 fp ao) ([]++iy fp s7.heap) Z8 H' s'->Nx Z8 H'->∃m,m<n/\∃i Z' H',Inv (X.blk scope dW N s3.heap.objs.size s3 H3 fp ao) [] Z' H' s'/\tn i s'.heap/\(∀b∈fp,H' b=none)/\W i m Z' H':=λ{H' s'} eU n'=>by
    obtain⟨m',hm,w'⟩:=hN Z8 H' n';refine⟨m',hm,i+1,Z8,H',eU.dF,T.keep _ _ _ rQ λb hb o e=>(eU.pin (b,o) (lK _ (lK _ (wQ hb e)))).1,λb hb=>?_,w'⟩;obtain⟨o,e,d⟩:=T.obj _ _ rQ b hb;exact(eU.pin (b,o) (lK _ (lK _ (wQ hb e)))).2.1
   cases ok with
   |false=>
    rw[if_neg J0] at q9 ⊢;exact again rT q9
   |true=>
    rw[if_pos rfl] at q9 ⊢;refine bw (P.el dW s3.heap.objs.size s3 H3 fp ao _ s9 Z8 H9 _ rT q9) λv Ky hz=>?_;obtain⟨y,P0,rW,r10,ys,zB,hz,P_⟩:=hz;refine bw (Wg (X:=(X.blk scope dW N s3.heap.objs.size s3 H3 fp ao)) _ Ky Z8 P0 (.ref s.heap.objs.size) [y] (.ref s.heap.objs.size) [v] (λ_ H'=>Nx Z8 H') rW rfl (.cons r10 .nil) ⟨s.heap.objs.size,ys,y,rfl,rfl,zB,hz,P_⟩) λ_ Wz hx=>gH hx λ_ WD mL _ Qa=>again mL Qa
 exact codeAny_compStart_list loop (T.self _ 0 _ _ _ Gm loop)
end
noncomputable def rY(wi:TI)(ZY:St->St)(g:TG)(tt:TT)(te:TE):TE:=λZ H Q=>wi Z H λbF H1=>Gj ZY g tt te bF Z H1 Q
section
variable {X:Cx}{elt tg iter:Expr}{ifs:List Expr}{scope:Scope}{pos spos py:Pos}{N:List Str}{ZY:St->St}{wi:TI}{g:TG}{tt:TT}{te:TE}{i:Nat}{y:Str}
theorem Qc(I:Inv X ao Z H s)(B:cj X.env.scope scope):∃cl,closureFor scope X.env=pure cl/\(∀x c,cl.lookup x=some c->X.env.cells.lookup x=some c)/\∀x∈scope.names,x.2=.free->∃c,cl.lookup x.1=some c:=
 zeH λx hx hf=>I.ok.has x.1 (B.free x hx hf)
theorem ziN(hc:X.aj=true)(B:cj X.env.scope scope)(hi:PI X tg iter wi)(P:Parts X elt tg ifs scope N g tt te)(hl:∀Z,(ZY Z).length=N.length)
  (hZ:∀(Z:St) (i:Nat) (x:Str) (v:V),N[i]?=some x->(ZY Z)[i]?=some (some v)->scope.names.lookup x=some .free/\∃j:Nat,X.N[j]?=some x/\Z[j]?=some (some v))
  (hs:∀x,foldedSetIterable iter X.env x=pure x:=by intro _;rfl):PE X (.ListComp elt [⟨tg,iter,ifs,0⟩] scope pos) (rY wi ZY g tt te):=by
 intro ao s Z H Q I h;obtain⟨cl,wR,c1,c2⟩:=Qc I B;rw[eval_ListComp];refine MF (use:=none) rfl hs wR B.kind B.loc (bw (hi ao s Z H _ I h) λxv s1 h1=>bw h1 λitv s2 h2=>?_);obtain⟨it,fp,tn,bF,H2,e,I2,T,st2,f2,hq⟩:=h2;subst e;exact Wy hc B P hl hZ I2 T st2 f2 hq c1 c2 (R:=λacc C=>compPost (model X.prog X.w) X.A X.xe none (EP X ao Z Q) acc C) λD C s' H' eU a b c d e ⟨m,hm⟩ q=>⟨m,hm,λh' sb=>⟨.ref D,H',PL (Z':=Z) eU a b c d e sb,rfl,q⟩⟩
theorem zet(hc:X.aj=true)(hN:X.N.Nodup)(rZ:X.N[i]?=some y)(hx:Loc X.env.scope y)(hf:X.fn y=true\/X.env.scope.names.lookup y=some .local)(B:cj X.env.scope scope)(hi:PI X tg iter wi)(P:Parts X elt tg ifs scope N g tt te)(hl:∀Z,(ZY Z).length=N.length)
  (hZ:∀(Z:St) (i:Nat) (x:Str) (v:V),N[i]?=some x->(ZY Z)[i]?=some (some v)->scope.names.lookup x=some .free/\∃j:Nat,X.N[j]?=some x/\Z[j]?=some (some v))
  (su:swapsWith (.ListComp elt [⟨tg,iter,ifs,0⟩] scope pos) (some (.Name y py)) spos.line X.env=pure true) (hs:∀x,foldedSetIterable iter X.env x=pure x:=by intro _;rfl) :
  PS X (.Assign [.Name y py] (.ListComp elt [⟨tg,iter,ifs,0⟩] scope pos) spos) (uU (rY wi ZY g tt te) (c7 i)):=by
 intro ao s Z H D I h;obtain⟨cl,wR,c1,c2⟩:=Qc I B;rw[exec_Assign_Name_used _ _ _ _ su];refine aA (uq (aA ?_));show wpAny _ X.A (do let _ <-comprehension (.ListComp elt [⟨tg,iter,ifs,0⟩] scope pos) scope X.env _ (newList []) false (eval iter X.env) (some (assign (.Name y py) X.env))) _ _ s;refine aA (MF (use:=some (assign (.Name y py) X.env)) rfl hs wR B.kind B.loc (bw (hi ao s Z H _ I h) λxv s1 h1=>bw h1 λitv s2 h2=>?_));obtain⟨it,fp,tn,bF,H2,e,I2,T,st2,f2,hq⟩:=h2;subst e;refine Wy hc B P hl hZ I2 T st2 f2 hq c1 c2 (R:=λacc C=>compPost (model X.prog X.w) X.A X.xe (some (assign (.Name y py) X.env)) _ acc C) λD' C s' H' eU a b c d e ⟨m,hm⟩ q=>?_;show wpAny _ _ (assign (.Name y py) X.env (.ref D')) _ _ s';refine wpAny_assign_Name (NT (v:=.ref D') eU hN rZ hx rfl (λs5 je ⟨ad,sb,Qd⟩=>?_) hf);have nC:C≠ad:=by
  rcases Qd with z|z
  ·rw[z];exact c
  ·exact(d y ad z).symm
 obtain⟨ol,es,ep,e1,r1⟩:=hm;refine⟨m,⟨ol,es,ep,(sb.2 C nC).trans e1,r1⟩,λh' Qe=>aO (aO ⟨_,H',PL (Z':=Z) je a b c d e Qe,q⟩)⟩
end
theorem zdf(elt target iter:Expr)(ifs:List Expr)(g₁:Comprehension)(scope:Scope)(pos:Pos)(it acc:Value)(env:Env) :
  compTurn (.ListComp elt [g₁,⟨target,iter,ifs,0⟩] scope pos) 1 it acc env=(do
   standAt iter.pos
   match <-pyNext it with
   |none=>pure (.done .next)
   |some v=>
    letOwnedTupleGo target it v
    assign target env v
    let mut ok:=true
    for c in ifs do
     if ok then ok <-isTrue c env (eval c env)
    if ok then
     (do let _ <-call (.builtin "list.append") [acc,<-eval elt env])
    again (.compLoop (.ListComp elt [g₁,⟨target,iter,ifs,0⟩] scope pos) 1 it acc env)):=by rfl
theorem zcQ(elt target iter target₂ iter₂:Expr)(ifs ifs₂:List Expr)(scope:Scope)(pos:Pos)(it acc:Value)(env:Env) :
  compTurn (.ListComp elt [⟨target,iter,ifs,0⟩,⟨target₂,iter₂,ifs₂,0⟩] scope pos) 0 it acc env=(do
   standAt iter.pos
   match <-pyNext it with
   |none=>pure (.done .next)
   |some v=>
    letOwnedTupleGo target it v
    assign target env v
    let mut ok:=true
    for c in ifs do
     if ok then ok <-isTrue c env (eval c env)
    if ok then
     let x <-eval iter₂ env
     standAt iter₂.pos
     let x <-foldedSetIterable iter₂ env x
     let _ <-runOwn (.compStart (.ListComp elt [⟨target,iter,ifs,0⟩,⟨target₂,iter₂,ifs₂,0⟩] scope pos) 1 (<-holding [x] (pyIter x)) acc env) env
     again (.compLoop (.ListComp elt [⟨target,iter,ifs,0⟩,⟨target₂,iter₂,ifs₂,0⟩] scope pos) 0 it acc env)
    else
     again (.compLoop (.ListComp elt [⟨target,iter,ifs,0⟩,⟨target₂,iter₂,ifs₂,0⟩] scope pos) 0 it acc env)):=by rfl
theorem zh7(V:Nat->Shared->Prop)
  (turn:∀n s,V n s->wpAny (model prog w) A (pyNext it) (λr s₁=>match r with
   |none=>R (.ok .next) s₁
   |some v=>wpAny (model prog w) A (letOwnedTupleGo target it v) (λ_ s₂=>wpAny (model prog w) A (assign target env v) (λ_ s₃=>
     wpAny (model prog w) A (jk ifs env) (λok s₄=>
      if ok=true then wpAny (model prog w) A (eval elt env) (λx s₅=>wpAny (model prog w) A (call (.builtin "list.append") [acc,x]) (λ_ s₆=>∃m,m<n/\V m s₆) (λ_ _=>False) s₅) (λ_ _=>False) s₄
      else ∃m,m<n/\V m s₄) (λ_ _=>False) s₃) (λ_ _=>False) s₂) (λ_ _=>False) s₁) (λ_ _=>False) s)
  (n:Nat) (h:V n s):codeAny (model prog w) A (.compLoop (.ListComp elt [g₁,⟨target,iter,ifs,0⟩] scope pos) 1 it acc env) R s:=by
 refine codeAny_loop rfl V (λn s hV=>?_) n h;show wpAny _ A ((compTurn (.ListComp elt [g₁,⟨target,iter,ifs,0⟩] scope pos) 1 it acc env).onRaise (λx=>do noteFrame x env;theTreesLotGoes x)) _ _ s;refine wpAny_noted ?_;rw[zdf];refine aA (uq (aA (g8 (turn n s hV) (λr s₁ h₁=>?_) λ_ _ z=>z.elim)));cases r with
 |none=>exact aO h₁
 |some v=>
  refine aA (g8 h₁ (λ_ s₂ h₂=>?_) λ_ _ z=>z.elim);refine aA (g8 h₂ (λ_ s₃ h₃=>aA (g8 h₃ (λok s₄ h₄=>?_) λ_ _ z=>z.elim)) λ_ _ z=>z.elim);cases ok with
  |true=>
   simp only[if_true] at h₄ ⊢;exact aA (aA (g8 h₄ (λx s₅ h₅=>aA (g8 h₅ (λ_ s₆ h₆=>aO (aO ⟨rfl,h₆⟩)) λ_ _ z=>z.elim)) λ_ _ z=>z.elim))
  |false=>
   simp only[uc,qd] at h₄ ⊢;exact aO ⟨rfl,h₄⟩
theorem zgH{prog:Program}{w:World}{A:Around}{R:Result->Shared->Prop}{s:Shared}{elt target iter target₂ iter₂:Expr}{ifs ifs₂:List Expr}{scope:Scope}{pos:Pos}{it acc:Value}{env:Env}(V:Nat->Shared->Prop)(hs:∀x,foldedSetIterable iter₂ env x=pure x)
  (turn:∀n s,V n s->wpAny (model prog w) A (pyNext it) (λr s₁=>match r with
   |none=>R (.ok .next) s₁
   |some v=>wpAny (model prog w) A (letOwnedTupleGo target it v) (λ_ s₂=>wpAny (model prog w) A (assign target env v) (λ_ s₃=>
     wpAny (model prog w) A (jk ifs env) (λok s₄=>
      if ok=true then wpAny (model prog w) A (eval iter₂ env) (λx s₅=>wpAny (model prog w) A (pyIter x) (λit₂ s₆=>codeAny (model prog w) A (.compStart (.ListComp elt [⟨target,iter,ifs,0⟩,⟨target₂,iter₂,ifs₂,0⟩] scope pos) 1 it₂ acc env) (λr s₇=>r=.ok .next/\∃m,m<n/\V m s₇) s₆) (λ_ _=>False) s₅) (λ_ _=>False) s₄
      else ∃m,m<n/\V m s₄) (λ_ _=>False) s₃) (λ_ _=>False) s₂) (λ_ _=>False) s₁) (λ_ _=>False) s)
  (n:Nat) (h:V n s):codeAny (model prog w) A (.compLoop (.ListComp elt [⟨target,iter,ifs,0⟩,⟨target₂,iter₂,ifs₂,0⟩] scope pos) 0 it acc env) R s:=by
 refine codeAny_loop rfl V (λn s hV=>?_) n h;show wpAny _ A ((compTurn (.ListComp elt [⟨target,iter,ifs,0⟩,⟨target₂,iter₂,ifs₂,0⟩] scope pos) 0 it acc env).onRaise (λx=>do noteFrame x env;theTreesLotGoes x)) _ _ s;refine wpAny_noted ?_;rw[zcQ];refine aA (uq (aA (g8 (turn n s hV) (λr s₁ h₁=>?_) λ_ _ z=>z.elim)));cases r with
 |none=>exact aO h₁
 |some v=>
  refine aA (g8 h₁ (λ_ s₂ h₂=>?_) λ_ _ z=>z.elim);refine aA (g8 h₂ (λ_ s₃ h₃=>aA (g8 h₃ (λok s₄ h₄=>?_) λ_ _ z=>z.elim)) λ_ _ z=>z.elim);cases ok with
  |true=>
   simp only[if_true] at h₄ ⊢;refine aA (g8 h₄ (λx s₅ h₅=>aA (uq (aA (Ca (hs x) (aA (m6 (g8 h₅ (λit₂ s₆ h₆=>aA (wpAny_runOwn (yI h₆ λr s₇ h₇=>?_))) λ_ _ z=>z.elim))))))) λ_ _ z=>z.elim);obtain⟨rfl,h₇⟩:=h₇;exact aO ⟨rfl,h₇⟩
  |false=>
   simp only[uc,qd] at h₄ ⊢;exact aO ⟨rfl,h₄⟩
theorem zaP
  (h0:codeAny (model prog w) A (.compLoop (.ListComp elt [g₁,⟨target,iter,ifs,0⟩] scope pos) 1 it acc env) R s)
  (h:wpAny (model prog w) A (pyIter it) (λit' s'=>codeAny (model prog w) A (.compLoop (.ListComp elt [g₁,⟨target,iter,ifs,0⟩] scope pos) 1 it' acc env) R s') (λ_ _=>False) s) :
  codeAny (model prog w) A (.compStart (.ListComp elt [g₁,⟨target,iter,ifs,0⟩] scope pos) 1 it acc env) R s:=by
 refine codeAny_of_tree ?_;show wpAny _ _ ((compStart (.ListComp elt [g₁,⟨target,iter,ifs,0⟩] scope pos) 1 it acc env).onRaise (λx=>do noteFrame x env;standAt theWindowsPlace)) _ _ s;refine wpAny_notedAt ?_;unfold compStart;show wpAny _ _ (ask >>= _) _ _ s;refine aA (wpAny_askSetting (wpAny_ite ?_))
 split
 ·first
   |exact aA (aO (aO (And.intro rfl h0)))
   |exact aO (And.intro rfl h0)
 ·first
   |exact aA (wC (aA (uq (aA (g8 h (λit' s' h'=>aO (And.intro rfl h')) λ_ _ x=>x.elim)))))
   |(refine aA (wC ?_);show wpAny _ _ (standAt iter.pos >>= _) _ _ s;exact aA (uq (aA (g8 h (λit' s' h'=>aO (And.intro rfl h')) λ_ _ x=>x.elim))))
def Qf(g:TG)(tt:TT)(te:TE)(D:Addr)(bF:It)(Z:St)(H:Hp)(Nx:St->Hp->Prop):Prop:=∃W:Nat->Nat->St->Hp->Prop,(∃m,W 0 m Z H)/\∀i m Z' H',W i m Z' H'->
 (bF.stop i H'/\Nx Z' H')\/(bF.go i H'/\∃N:St->Hp->Prop,(∀Z2 H2,N Z2 H2->∃m',m'<m/\W (i+1) m' Z2 H2)/\∀x H2,bF.rG i H' x H2->g x Z' H2 λZ3 H3=>tt Z3 H3 λok H4=>
  if ok=true then te Z3 H4 λy H5=>∃ys,H5 D=some (.lst ys)/\ys.length<sizeLine/\N Z3 (upd H5 D (.lst (ys++[y]))) else N Z3 H4)
theorem zib{Y:Cx}{elt tg iter:Expr}{ifs:List Expr}{g₁:Comprehension}{scope:Scope}{pos:Pos}{g:TG}{tt:TT}{te:TE}(hc:Y.aj=true)(Kz:Y.xe=λ_ _=>False)(tgt:PG Y tg g)(Gk:Cr Y ifs tt)(el:PE Y elt te)
  {ao:List (Addr×Obj)} {s:Shared} {Z:St} {H:Hp} {D it:Addr} {fp:List Addr} {tn:Nat->Heap->Prop} {bF:It} {Nx:St->Hp->Prop} (I:Inv Y ao Z H s) (T:Turn Y.prog Y.w Y.K tg bF fp it tn) (st:tn 0 s.heap) (f:∀b∈fp,eF Y ao H b) (h:Qf g tt te D bF Z H Nx)
  {R:Result->Shared->Prop} (k:∀s' Z' H',Inv Y ao Z' H' s'->Nx Z' H'->R (.ok .next) s') :
  codeAny (model Y.prog Y.w) Y.A (.compStart (.ListComp elt [g₁,⟨tg,iter,ifs,0⟩] scope pos) 1 (.ref it) (.ref D) Y.env) R s:=by
 obtain⟨W,⟨m0,w0⟩,turn⟩:=h;have fY:∀{H':Hp},(∀b∈fp,H' b=none)->∀b∈fp,eF Y ao H' b:=λ{H'} z b hb=>⟨z b hb,(f b hb).2⟩;have loop:codeAny (model Y.prog Y.w) Y.A (.compLoop (.ListComp elt [g₁,⟨tg,iter,ifs,0⟩] scope pos) 1 (.ref it) (.ref D) Y.env) R s:=by
  refine zh7 (λn s'=>∃i Z' H',Inv Y ao Z' H' s'/\tn i s'.heap/\(∀b∈fp,H' b=none)/\W i n Z' H') ?_ m0 ⟨0,Z,H,I,st,λb hb=>(f b hb).1,w0⟩;rintro n s5 ⟨i,Z5,H5,je,qP,uz,w5⟩;rcases turn i n Z5 H5 w5 with ⟨stop,q⟩|⟨go,Nn,hN,step⟩
  ·refine bw (T.done Y rfl rfl rfl hc i ao s5 Z5 H5 _ je (fY uz) qP stop) λr s6 ⟨hr,k_⟩=>?_;subst hr;exact k s6 Z5 H5 k_ q
  ·refine bw (T.item Y rfl rfl rfl hc i ao s5 Z5 H5 _ je (fY uz) qP go) λr s6 ⟨u,hr,h6⟩=>?_;subst hr;refine bw h6 λ_ s7 hz=>?_;obtain⟨x,H7,rP,r7,y7,rQ,Gn⟩:=hz;have mK:=rP.pinned (fY Gn) (T.obj _ _ rQ);have a1:=tgt _ s7 Z5 H7 x u _ mK r7 (step x H7 y7);rw[Kz] at a1;refine bw a1 λ_ s8 hz=>?_;obtain⟨Z8,H8,rR,q8⟩:=hz;have a2:=Gk _ s8 Z8 H8 _ rR q8;rw[Kz] at a2;refine bw a2 λok s9 ⟨H9,rT,q9⟩=>?_;have again:∀{H':Hp} {s':Shared},Inv Y (ao++iy fp s7.heap) Z8 H' s'->Nn Z8 H'->∃m,m<n/\∃i Z' H',Inv Y ao Z' H' s'/\tn i s'.heap/\(∀b∈fp,H' b=none)/\W i m Z' H':=λ{H' s'} eU n'=>by
    obtain⟨m',hm,w'⟩:=hN Z8 H' n';refine⟨m',hm,i+1,Z8,H',eU.dF,T.keep _ _ _ rQ λb hb o e=>(eU.pin (b,o) (lK _ (lK _ (wQ hb e)))).1,λb hb=>?_,w'⟩;obtain⟨o,e,d⟩:=T.obj _ _ rQ b hb;exact(eU.pin (b,o) (lK _ (lK _ (wQ hb e)))).2.1
   cases ok with
   |false=>
    rw[if_neg J0] at q9 ⊢;exact again rT q9
   |true=>
    rw[if_pos rfl] at q9 ⊢;have a3:=el _ s9 Z8 H9 _ rT q9;rw[Kz] at a3;refine bw a3 λv Ky hz=>?_;obtain⟨y,P0,rW,r10,ys,zB,hz,P_⟩:=hz;have a4:=Wg (X:=Y) _ Ky Z8 P0 (.ref D) [y] (.ref D) [v] (λ_ H'=>Nn Z8 H') rW rfl (.cons r10 .nil) ⟨D,ys,y,rfl,rfl,zB,hz,P_⟩;rw[Kz] at a4;exact bw a4 λ_ Wz ⟨_,WD,mL,_,Qa⟩=>again mL Qa
 exact zaP loop (T.self _ 0 _ _ _ st loop)
def wU(ZY:St->St)(g₁:TG)(wi₂:TI)(g:TG)(tt:TT)(te:TE)(bF:It)(Z:St)(H:Hp)(Q:VK):Prop:=∀D,H D=none->∃W:Nat->Nat->St->Hp->Prop,(∃m,W 0 m (ZY Z) (upd H D (.lst [])))/\∀i m Z' H',W i m Z' H'->
 (bF.stop i H'/\Q (.ref D) H')\/(bF.go i H'/\∃N:St->Hp->Prop,(∀Z2 H2,N Z2 H2->∃m',m'<m/\W (i+1) m' Z2 H2)/\∀x H2,bF.rG i H' x H2->g₁ x Z' H2 λZ3 H3=>wi₂ Z3 H3 λbF₂ H5=>Qf g tt te D bF₂ Z3 H5 N)
section
variable {X:Cx}{elt tg iter tg₂ iter₂:Expr}{ifs₂:List Expr}{scope:Scope}{pos spos py:Pos}{N:List Str}{ZY:St->St}{wi wi₂:TI}{g g₁:TG}{tt:TT}{te:TE}{i:Nat}{y:Str}
structure nU(X:Cx)(elt tg tg₂ iter₂:Expr)(ifs₂:List Expr)(scope:Scope)(N:List Str)(g₁:TG)(wi₂:TI)(g:TG)(tt:TT)(te:TE):Prop where
 tgt₁:∀cl C s3 H3 fp ao,PG (X.blk scope cl N C s3 H3 fp ao) tg g₁
 it:∀cl C s3 H3 fp ao,PI (X.blk scope cl N C s3 H3 fp ao) tg₂ iter₂ wi₂
 tgt:∀cl C s3 H3 fp ao,PG (X.blk scope cl N C s3 H3 fp ao) tg₂ g
 Gk:∀cl C s3 H3 fp ao,Cr (X.blk scope cl N C s3 H3 fp ao) ifs₂ tt
 el:∀cl C s3 H3 fp ao,PE (X.blk scope cl N C s3 H3 fp ao) elt te
theorem zep(hc:X.aj=true)(B:cj X.env.scope scope)(P:nU X elt tg tg₂ iter₂ ifs₂ scope N g₁ wi₂ g tt te)(hs₂:∀env x,foldedSetIterable iter₂ env x=pure x)(hl:∀Z,(ZY Z).length=N.length)
  (hZ:∀(Z:St) (i:Nat) (x:Str) (v:V),N[i]?=some x->(ZY Z)[i]?=some (some v)->scope.names.lookup x=some .free/\∃j:Nat,X.N[j]?=some x/\Z[j]?=some (some v))
  {ao:List (Addr×Obj)} {s:Shared} {Z:St} {H:Hp} {Q:VK} {it:Addr} {fp:List Addr} {tn:Nat->Heap->Prop} {bF:It} (I:Inv X ao Z H s) (T:Turn X.prog X.w X.K tg bF fp it tn) (st:tn 0 s.heap) (f:∀b∈fp,eF X ao H b) (h:wU ZY g₁ wi₂ g tt te bF Z H Q)
  {cl:List (Str×Addr)} (c1:∀x c,cl.lookup x=some c->X.env.cells.lookup x=some c) (c2:∀x∈scope.names,x.2=.free->∃c,cl.lookup x.1=some c) {R:Value->Addr->Result->Shared->Prop} {E:Value->Shared->Prop}
  (k:∀D C s' H',Inv X ao Z H' s'->X.s₀.heap.objs.size<=C->H' C=none->C≠X.env.locals->(∀x c,X.env.cells.lookup x=some c->c≠C)->(∀p∈X.pn++ao,p.1≠C)->(∃m,s'.heap.Ns C m)->Q (.ref D) H'->R (.ref D) C (.ok .next) s') :
  wpAny (model X.prog X.w) X.A (newList []) (λacc s₃=>wpAny (model X.prog X.w) X.A (newFunctionEnv scope X.env.globals cl [] X.env.qual none .none (some X.env)) (λcenv s₄=>
   codeAny (model X.prog X.w) X.A (.compStart (.ListComp elt [⟨tg,iter,[],0⟩,⟨tg₂,iter₂,ifs₂,0⟩] scope pos) 0 (.ref it) acc {cenv with scope:=relabel scope X.env}) (R acc cenv.locals) s₄) E s₃) E s:=by
 refine qb ?_;have hD:H s.heap.objs.size=none:=I.hok.fresh (cL _);have I3:Inv X ao Z (upd H s.heap.objs.size (.lst [])) {s with heap:=s.heap.push {cls:=.type "list",dict:=none,data:=.seq ([]:List Value).toArray}}:=
  I.laid (t':=s.toks) (λb u q=>cO _ q) (cL _) ⟨uP _,[],0,.nil,fC _ rfl⟩
 have f3:∀b∈fp,eF X ao (upd H s.heap.objs.size (.lst [])) b:=λb hb=>by
  obtain⟨a1,a2⟩:=f b hb;obtain⟨o,q,_⟩:=T.obj 0 _ st b hb;exact⟨by rw[cX (dM (bV q))];exact a1,a2⟩
 have st3:tn 0 (s.heap.push {cls:=.type "list",dict:=none,data:=.seq ([]:List Value).toArray}):=T.keep _ _ _ st λb hb o q=>cO _ q;obtain⟨W,⟨m0,w0⟩,turn⟩:=h s.heap.objs.size hD;generalize PX:({s with heap:=s.heap.push {cls:=.type "list",dict:=none,data:=.seq ([]:List Value).toArray}}:Shared)=s3 at *;have nR:tn 0 s3.heap:=by rw[<-PX];exact st3
 generalize hH3:upd H s.heap.objs.size (.lst [])=H3 at *;refine Ws (λx c q=>by obtain⟨v,o,q1,_⟩:=I3.cell x c (c1 x c q);exact bV q1) (λx y c a b=>I3.ok.inj x y c (c1 x c a) (c1 y c b)) λh1 dW hn kp CN=>?_;have zA:Inv (X.blk scope dW N s3.heap.objs.size s3 H3 fp ao) [] (ZY Z) H3 {s3 with heap:=h1}:=
  Wu (t:=s3.toks) I3 B c1 c2 f3 (λb hb=>let ⟨o,q,_⟩:=T.obj 0 _ nR b hb;⟨o,q⟩) hn kp CN (hl Z) (hZ Z)
 have Gm:tn 0 h1:=T.keep _ _ _ nR λb hb o q=>kp b o q;have fY:∀{H':Hp},(∀b∈fp,H' b=none)->∀b∈fp,eF (X.blk scope dW N s3.heap.objs.size s3 H3 fp ao) [] H' b:=λ{H'} z b hb=>by
  obtain⟨a1,a2,a3,a4,a5,a6⟩:=f3 b hb;obtain⟨o,q,_⟩:=T.obj 0 _ nR b hb;refine⟨z b hb,dM (bV q),λy=>(gG.mp (I3.jr b y)).elim a2 a3,.inl hb,λx c y=>?_,λp hp=>a6 p ?_⟩
  ·rcases CN.d1 x c y with ⟨q1,_⟩|⟨_,q1,_⟩
   ·exact a5 x c (c1 x c q1)
   ·exact λe=>absurd (bV q) (by rw[<-e];exact Cd.mpr (uN q1))
  have y:p∈(X.pn++ao)++[]:=hp;simpa using y
 have loop:codeAny (model X.prog X.w) X.A (.compLoop (.ListComp elt [⟨tg,iter,[],0⟩,⟨tg₂,iter₂,ifs₂,0⟩] scope pos) 0 (.ref it) (.ref s.heap.objs.size) (compEnvC scope dW s3.heap.objs.size X.env)) (R (.ref s.heap.objs.size) s3.heap.objs.size) {s3 with heap:=h1}:=by
  refine zgH (λn s'=>∃i Z' H',Inv (X.blk scope dW N s3.heap.objs.size s3 H3 fp ao) [] Z' H' s'/\tn i s'.heap/\(∀b∈fp,H' b=none)/\W i n Z' H') (hs₂ _) ?_ m0 ⟨0,ZY Z,H3,zA,Gm,λb hb=>(f3 b hb).1,w0⟩;rintro n s5 ⟨i,Z5,H5,je,qP,uz,w5⟩;rcases turn i n Z5 H5 w5 with ⟨stop,q⟩|⟨go,Nx,hN,step⟩
  ·refine bw (T.done (X.blk scope dW N s3.heap.objs.size s3 H3 fp ao) rfl rfl rfl hc i [] s5 Z5 H5 _ je (fY uz) qP stop) λr s6 ⟨hr,k_⟩=>?_;subst hr;have JX:=Wx I3 f3 k_;refine k s.heap.objs.size s3.heap.objs.size s6 H5 JX I3.sz k_.free (uO I3.lt) (λx c y z=>?_) (λp hp z=>?_) ?_ q
   ·obtain⟨v,qc⟩:=I3.cell x c y;exact absurd qc.lt (by rw[z];exact lM _)
   ·exact absurd (bV (I3.pin p hp).1) (by rw[z];exact lM _)
   ·obtain⟨m,hm,_⟩:=k_.loc;exact⟨m,hm⟩
  ·refine bw (T.item (X.blk scope dW N s3.heap.objs.size s3 H3 fp ao) rfl rfl rfl hc i [] s5 Z5 H5 _ je (fY uz) qP go) λr s6 ⟨u,hr,h6⟩=>?_;subst hr;refine bw h6 λ_ s7 hz=>?_;obtain⟨x,H7,rP,r7,y7,rQ,Gn⟩:=hz;have mK:=rP.pinned (fY Gn) (T.obj _ _ rQ);refine bw (P.tgt₁ dW s3.heap.objs.size s3 H3 fp ao _ s7 Z5 H7 x u _ mK r7 (step x H7 y7)) λ_ s8 hz=>?_;obtain⟨Z8,H8,rR,q8⟩:=hz;refine bw (wpAny_tests_nil (env:=compEnvC scope dW s3.heap.objs.size X.env) (Q:=λok s'=>ok=true/\s'=s8) ⟨rfl,rfl⟩) λok s9 ⟨e9,e9'⟩=>?_;subst e9 e9';rw[if_pos rfl];refine bw (P.it dW s3.heap.objs.size s3 H3 fp ao _ s9 Z8 H8 _ rR q8) λxv Ky h10=>bw h10 λitv Wz h11=>?_;obtain⟨it₂,fp₂,tn₂,bF₂,WD,e11,mL,T₂,st₂,f₂,hq⟩:=h11;subst e11;refine zib (Y:=X.blk scope dW N s3.heap.objs.size s3 H3 fp ao) hc rfl (P.tgt dW s3.heap.objs.size s3 H3 fp ao) (P.Gk dW s3.heap.objs.size s3 H3 fp ao) (P.el dW s3.heap.objs.size s3 H3 fp ao) mL T₂ st₂ f₂ hq λs' Z' H' eU n'=>⟨rfl,?_⟩;obtain⟨m',hm,w'⟩:=hN Z' H' n';refine⟨m',hm,i+1,Z',H',eU.dF,T.keep _ _ _ rQ λb hb o e=>(eU.pin (b,o) (lK _ (lK _ (wQ hb e)))).1,λb hb=>?_,w'⟩;obtain⟨o,e,d⟩:=T.obj _ _ rQ b hb;exact(eU.pin (b,o) (lK _ (lK _ (wQ hb e)))).2.1
 exact codeAny_compStart_list loop (T.self _ 0 _ _ _ Gm loop)
noncomputable def sy(wi:TI)(ZY:St->St)(g₁:TG)(wi₂:TI)(g:TG)(tt:TT)(te:TE):TE:=λZ H Q=>wi Z H λbF H1=>wU ZY g₁ wi₂ g tt te bF Z H1 Q
theorem zdd(hc:X.aj=true)(hN:X.N.Nodup)(rZ:X.N[i]?=some y)(hx:Loc X.env.scope y)(hf:X.fn y=true\/X.env.scope.names.lookup y=some .local)(B:cj X.env.scope scope)(hi:PI X tg iter wi)(P:nU X elt tg tg₂ iter₂ ifs₂ scope N g₁ wi₂ g tt te)(hs₂:∀env x,foldedSetIterable iter₂ env x=pure x)(hl:∀Z,(ZY Z).length=N.length)
  (hZ:∀(Z:St) (i:Nat) (x:Str) (v:V),N[i]?=some x->(ZY Z)[i]?=some (some v)->scope.names.lookup x=some .free/\∃j:Nat,X.N[j]?=some x/\Z[j]?=some (some v))
  (su:swapsWith (.ListComp elt [⟨tg,iter,[],0⟩,⟨tg₂,iter₂,ifs₂,0⟩] scope pos) (some (.Name y py)) spos.line X.env=pure true) (hs:∀x,foldedSetIterable iter X.env x=pure x:=by intro _;rfl) :
  PS X (.Assign [.Name y py] (.ListComp elt [⟨tg,iter,[],0⟩,⟨tg₂,iter₂,ifs₂,0⟩] scope pos) spos) (uU (sy wi ZY g₁ wi₂ g tt te) (c7 i)):=by
 intro ao s Z H D I h;obtain⟨cl,wR,c1,c2⟩:=Qc I B;rw[exec_Assign_Name_used _ _ _ _ su];refine aA (uq (aA ?_));show wpAny _ X.A (do let _ <-comprehension (.ListComp elt [⟨tg,iter,[],0⟩,⟨tg₂,iter₂,ifs₂,0⟩] scope pos) scope X.env _ (newList []) false (eval iter X.env) (some (assign (.Name y py) X.env))) _ _ s;refine aA (MF (use:=some (assign (.Name y py) X.env)) rfl hs wR B.kind B.loc (bw (hi ao s Z H _ I h) λxv s1 h1=>bw h1 λitv s2 h2=>?_));obtain⟨it,fp,tn,bF,H2,e,I2,T,st2,f2,hq⟩:=h2;subst e;refine zep hc B P hs₂ hl hZ I2 T st2 f2 hq c1 c2 (R:=λacc C=>compPost (model X.prog X.w) X.A X.xe (some (assign (.Name y py) X.env)) _ acc C) λD' C s' H' eU a b c d e ⟨m,hm⟩ q=>?_;show wpAny _ _ (assign (.Name y py) X.env (.ref D')) _ _ s';refine wpAny_assign_Name (NT (v:=.ref D') eU hN rZ hx rfl (λs5 je ⟨ad,sb,Qd⟩=>?_) hf);have nC:C≠ad:=by
  rcases Qd with z|z
  ·rw[z];exact c
  ·exact(d y ad z).symm
 obtain⟨ol,es,ep,e1,r1⟩:=hm;refine⟨m,⟨ol,es,ep,(sb.2 C nC).trans e1,r1⟩,λh' Qe=>aO (aO ⟨_,H',PL (Z':=Z) je a b c d e Qe,q⟩)⟩
end
end L2
namespace L2
open PySem PySem.Spec PyProof.Rows PySem.W
noncomputable def bT{α:Type}(lt:Nat->Nat->Option Bool):KasT α->Option α
 |.ret a=>some a
 |.ask i j k=>match lt i j with
  |some b=>bT lt (k b)
  |none=>none
theorem WK{α:Type}{lt:Nat->Nat->Option Bool}{cmp:Nat->Nat->(Bool->Shared->Prop)->Shared->Prop}{Q:α->Shared->Prop}{s:Shared}(hc:∀i j b C,lt i j=some b->C b s->cmp i j C s){a:α}(q:Q a s):∀{t:KasT α},bT lt t=some a->t.kasWp cmp Q s
 |.ret a',h=>by
  unfold bT at h;cases h;exact q
 |.ask i j k,h=>by
  unfold bT at h;cases e:lt i j with
  |none=>rw[e] at h;cases h
  |some b=>
   rw[e] at h;exact hc i j b _ e (WK hc q h)
noncomputable def jf(vs:List Value)(p:Array Nat):Array Value:=if vs.length<2 then vs.toArray else List.toArray (p.toList.map λi=>vs.getD i Value.none)
section
variable {prog:Program}{w:World}{A:Around}{E:Value->Shared->Prop}{s:Shared}{κ:SortKind}{lt:Nat->Nat->Option Bool}{p:Array Nat}
theorem zcm{a:Addr}{vs:List Value}{n:Nat}{P:PySem.Fin->Shared->Prop}(ho:s.heap.get? a=some (seqObj "list" vs.toArray n))(sE:vs.length<64)
  (hk:2<=vs.length->∀(s':Shared) (Q:SortKind->Shared->Prop),(∀b o,b≠a->s.heap.get? b=some o->s'.heap.get? b=some o)->Q κ s'->wpAny (model prog w) A (keyKind' vs.toArray) Q E s')
  (fX:2<=vs.length->∀(s':Shared) i j b C,(∀b o,b≠a->s.heap.get? b=some o->s'.heap.get? b=some o)->lt i j=some b->C b s'->kas_ask prog w A κ vs i j C s') (hr:2<=vs.length->bT lt (kas_sort vs.length)=some p) (Qg:2<=vs.length->p.size=vs.length)
  (h:P (.done (.ret .none)) {s with heap:=sortedHeap s.heap a vs (jf vs p)}) :
  wpAny (model prog w) A (Builtin.«list.sort» ⟨[.ref a],[]⟩) P E s:=by
 rw[list_sort_plain];have ha:a<s.heap.objs.size:=bV ho;refine aA (listItems_at ho rfl ?_);refine aA (listUpdate_at ho rfl ?_ (by rw[gW,uQ];lia) (uP _));obtain⟨e1,KC⟩ : ∃e1,(s.heap.update a (Obj.mapSeq λ_=>#[])).get? a=some (seqObj "list" #[] e1):=⟨_,get?_update_seq ho (λ_=>#[])⟩;refine aA (seqEpoch_at KC rfl ?_);refine aA (wpAny_newTuple ?_ (by show vs.length<=_;rw[uQ];lia));refine aA (wpAny_newList ?_ (uP _));refine m6 ?_;have keep:∀b o,b≠a->s.heap.get? b=some o->(((s.heap.update a (Obj.mapSeq λ_=>(#[]:Array Value))).push (seqObj "tuple" vs.toArray 0)).push (seqObj "list" #[] 0)).get? b=some o:=λb o nb e=>
  cO _ (cO _ ((Heap.get?_update_ne _ _ _ _ nb).trans e))
 have KD:(((s.heap.update a (Obj.mapSeq λ_=>(#[]:Array Value))).push (seqObj "tuple" vs.toArray 0)).push (seqObj "list" #[] 0)).get? a=some (seqObj "list" #[] e1):=by
  rw[JF _ _ _ (by rw[size_push',Heap.size_update];exact dM (uJ ha)),JF _ _ _ (by rw[Heap.size_update];exact dM ha)];exact KC
 show wpAny (model prog w) A _ P E {s with heap:=((s.heap.update a (Obj.mapSeq λ_=>#[])).push (seqObj "tuple" vs.toArray 0)).push (seqObj "list" #[] 0)};dsimp only;have m9:vs.toArray.size=vs.length:=by simp
 by_cases h2:vs.toArray.size<2
 ·rw[if_pos h2,if_pos h2];refine aA (aO ?_);rw[StateT.run_pure];refine aA (aO ?_);dsimp only;refine aA (seqEpoch_at KD rfl ?_);refine aA (listUpdate_at KD rfl ?_ (uP _) (by rw[Array.size_map];show (pairsOf vs).size<=_;rw[pairsOf_size,uQ];lia));simp only[bne_self_eq_false,uc,qd];have e:((vs.toArray.zip vs.toArray).map (·.2))=jf vs p:=by
   unfold jf;rw[if_pos (by rw[m9] at h2;exact h2)];apply Array.toList_inj.mp;simp[List.map_snd_zip]
  refine aO ?_;have h':=h;rw[<-e] at h';exact h'
 ·rw[if_neg h2,if_neg h2];have mO:2<=vs.length:=by lia
  refine aA (hk mO _ _ keep ?_);refine aA (g8 (kat_run (κ:=κ) (ks:=vs) (vs:=vs) (G:=λp' s'=>p'=p/\s'={s with heap:=((s.heap.update a (Obj.mapSeq λ_=>#[])).push (seqObj "tuple" vs.toArray 0)).push (seqObj "list" #[] 0)})
   (Q:=λst' s'=>arrOf st'=p.map (kas_item (vs.toArray.zip vs.toArray))/\failedOf st'=none/\s'={s with heap:=((s.heap.update a (Obj.mapSeq λ_=>#[])).push (seqObj "tuple" vs.toArray 0)).push (seqObj "list" #[] 0)})
   rfl mO sE (λp' st' s' a1 a2 a3 a4=>⟨by rw[a2,a4.1],a3,a4.2⟩) (WK (λi j b C hl hC=>fX mO _ i j b C keep hl hC) ⟨rfl,rfl⟩ (hr mO))) ?_ λ_ _ e=>e)
  rintro⟨⟨⟩,st'⟩ s' ⟨KH,hf,rfl⟩;dsimp only;have hout:=kat_snds (ks:=vs) (vs:=vs) rfl KH;have e:List.toArray (p.toList.map λi=>vs.getD i Value.none)=jf vs p:=by
   unfold jf;rw[if_neg gV]
  rw[hout,e];have hso:(jf vs p).size=vs.length:=by rw[<-e,gW,cY,yu,Qg mO]
  refine aA (seqEpoch_at KD rfl ?_);refine aA (listUpdate_at KD rfl ?_ (uP _) (by rw[hso,uQ];lia));rw[hf];simp only[bne_self_eq_false,uc,qd];exact aO h
theorem Qh(hl:s.heap.IsList l vs.toArray)(sE:vs.length<64)
  (hk:2<=vs.length->∀(s':Shared) (Q:SortKind->Shared->Prop) E,(∀b o,s.heap.get? b=some o->s'.heap.get? b=some o)->Q κ s'->wpAny (model prog w) A.in1.in1 (keyKind' vs.toArray) Q E s')
  (fX:2<=vs.length->∀(s':Shared) i j b C,(∀b o,s.heap.get? b=some o->s'.heap.get? b=some o)->lt i j=some b->C b s'->kas_ask prog w A.in1.in1 κ vs i j C s') (hr:2<=vs.length->bT lt (kas_sort vs.length)=some p) (Qg:2<=vs.length->p.size=vs.length)
  (h:Q (.ref (s.heap.objs.size+1)) {s with heap:=sortedAll s.heap vs (jf vs p)}) :
  wpAny (model prog w) A (call (.builtin "sorted") [.ref l]) Q E s:=by
 refine Calls.call_function_entry kind_sorted plain_sorted entry_sorted (args_sorted1 _) ?_;unfold Builtin.«sorted»;refine aA (m:=checkCount "sorted" 1 1 _) (aO ?_);refine aA (collect_list hl ?_ (by rw[uQ];lia));refine aA (wpAny_newList ?_ (by rw[uQ];lia));have m9:((s.heap.push (seqObj "list" #[] 0)).update s.heap.objs.size (Obj.mapSeq (·++vs.toArray))).objs.size=s.heap.objs.size+1:=by
  rw[Heap.size_update,size_push']
 have J_:(((s.heap.push (seqObj "list" #[] 0)).update s.heap.objs.size (Obj.mapSeq (·++vs.toArray))).push (seqObj "list" vs.toArray 0)).get? (s.heap.objs.size+1)=some (seqObj "list" vs.toArray 0):=by
  rw[<-m9];exact fC _ rfl
 have keep:∀b o,s.heap.get? b=some o->(((s.heap.push (seqObj "list" #[] 0)).update s.heap.objs.size (Obj.mapSeq (·++vs.toArray))).push (seqObj "list" vs.toArray 0)).get? b=some o:=λb o q=>by
  have fX:b<s.heap.objs.size:=bV q;rw[JF _ _ _ (by rw[m9];exact dM (uJ fX)),Heap.get?_update_ne _ _ _ _ (dM fX),JF _ _ _ (dM fX)];exact q
 show wpAny _ _ _ _ _ {s with heap:=((s.heap.push (seqObj "list" #[] 0)).update s.heap.objs.size (Obj.mapSeq (·++vs.toArray))).push (seqObj "list" vs.toArray 0)};rw[m9];have nn:∀b o,s.heap.get? b=some o->b≠s.heap.objs.size+1:=λb o e=>dM (uJ (bV e));refine aA (m6 (yC slot_list_sort ⟨_,J_,rfl⟩ entry_list_sort (zcm (κ:=κ) (lt:=lt) (p:=p) J_ sE (λh2 s' Q' k q=>hk h2 s' Q' _ (λb o e=>k b o (nn b o e) (keep b o e)) q) (λh2 s' i j b C k e q=>fX h2 s' i j b C (λb o e=>k b o (nn b o e) (keep b o e)) e q) hr Qg ⟨_,rfl,?_⟩) (args_list_sort _)));exact aO ⟨_,rfl,h⟩
end
noncomputable def jP:List V->List V->Option Bool
 |[],ys=>some (decide (0<ys.length))
 |_::_,[]=>some false
 |.int x::xs,.int y::ys=>if x=y then jP xs ys else some (decide (x<y))
 |_::_,_::_=>none
theorem zjm{prog:Program}{w:World}{A:Around}{s:Shared}{fin:Bool}{C:Bool->Shared->Prop}{b:Bool}:∀{us ws:List V} {its jts:List Value} {i:Nat},Vals us its->Vals ws jts->jP us ws=some b->fin=decide (us.length<ws.length)->C b s->KatLex prog w A true fin C (its.zip jts) i s:=by
 intro us ws its jts i r1
 induction r1 generalizing ws jts i with
 |nil=>
  intro _ h hf hc;rw[JD];unfold jP at h;cases h;rw[hf];exact kat_nil hc
 |@cons x u us its rx ri ih=>
  intro r2 h hf hc;cases r2 with
  |nil=>
   rw[Jz];unfold jP at h;cases h;rw[hf];exact kat_nil (by simpa using hc)
  |@cons y v ws jts ry rj=>
   rw[uI];cases x with
   |int a=>
    cases y with
    |int c=>
     obtain⟨t,rfl⟩:=rx;obtain⟨t',rfl⟩:=ry;unfold jP at h;refine kat_cons (wpAny_eqBool_int ?_);by_cases e:a=c
     ·rw[if_pos e] at h;subst e;rw[BP];exact kat_yes (ih rj h (by rw[hf];simp) hc)
     ·rw[if_neg e] at h;cases h;rw[show (a==c)=false by simpa using e];refine kat_no ?_;by_cases hi:i=0
      ·subst hi;exact oneLt_int hc
      ·rw[show (true&&i==0)=false by simpa using hi];exact kat_one _ _ (wpAny_lt_int hc)
    |_=>cases h
   |_=>cases y<;>cases h
def sG(K:W.Frag)(H:Hp)(ys:List V)(lt:Nat->Nat->Option Bool):Prop:=
 ((∀v∈ys,∃i,v=V.int i)/\∀i j b,lt i j=some b->∃x y,ys[i]?=some (.int x)/\ys[j]?=some (.int y)/\b=decide (x<y)) \/
 ((∀v∈ys,∃a i r,v=.ref a/\fV K H a (.int i::r))/\∀i j b,lt i j=some b->∃a c us ws,ys[i]?=some (.ref a)/\ys[j]?=some (.ref c)/\fV K H a us/\fV K H c ws/\jP us ws=some b)
noncomputable def jQ(ys:List V)(p:Array Nat):List V:=if ys.length<2 then ys else p.toList.map λi=>ys.getD i .non
theorem WL(r:Vals ys its):∀l:List Nat,Vals (l.map λi=>ys.getD i .non) (l.map λi=>its.getD i Value.none)
 |[]=>.nil
 |i::l=>by
  refine .cons ?_ (WL r l);cases e:ys[i]? with
  |some y=>
   obtain⟨u,e1,e2⟩:=r.get e;show RelV (ys.getD i .non) (its.getD i Value.none);rw[nF,nF,e,e1];exact e2
  |none=>
   have e1:its[i]?=none:=by rw[qN] at e ⊢;rw[<-r.length];exact e
   show RelV (ys.getD i .non) (its.getD i Value.none);rw[nF,nF,e,e1];rfl
theorem zg9{ys:List V}{its:List Value}(r:Vals ys its)(p:Array Nat):Vals (jQ ys p) (jf its p).toList:=by
 unfold jQ jf;rw[r.length];by_cases h:its.length<2
 ·rw[if_pos h,if_pos h];exact r
 ·rw[if_neg h,if_neg h];exact WL r p.toList
theorem zg7{ys:List V}{its:List Value}(r:Vals ys its):∀u∈its,∃v∈ys,RelV v u:=by
 induction r with
 |nil=>intro u hu;cases hu
 |cons h t ih=>
  intro u hu;rcases gG.mp hu with rfl|hu
  ·exact⟨_,lV,h⟩
  ·obtain⟨v,a,b⟩:=ih u hu;exact⟨v,iI _ a,b⟩
section
variable {X:Cx}
theorem zge{prog:Program}{w:World}{A:Around}{E:Value->Shared->Prop}{s:Shared}{its:List Value}{Q:SortKind->Shared->Prop}(h2:2<=its.length)(hi:∀u∈its,∃i t,u=Value.int i t)(q:Q oneType' s):wpAny (model prog w) A (keyKind' its.toArray) Q E s:=
 kas_kind (T:=.type "int") h2 (λv hv=>by obtain⟨i,t,rfl⟩:=hi v hv;exact .of_pure rfl) J0 J0 q
theorem ziL{K:W.Frag}{ao:List (Addr×Obj)}{s:Shared}{Z:St}{H:Hp}(I:Inv X ao Z H s){h':Heap}(k:∀b o,s.heap.get? b=some o->h'.get? b=some o):∀{ys:List V} {its:List Value},Vals ys its->(∀v∈ys,∃a i r,v=.ref a/\fV X.K H a (.int i::r))->∃fs:List Value,fs.length=its.length/\(∀f∈fs,∃i t,f=Value.int i t)/\KatTups h' its fs:=by
 intro ys its r0
 induction r0 with
 |nil=>exact λ_=>⟨[],rfl,(λf hf=>by cases hf),trivial⟩
 |@cons v u ys its r rs ih=>
  intro h;obtain⟨a,i,r',rfl,hq⟩:=h _ lV;obtain⟨fs,l,hf,kt⟩:=ih λv hv=>h v (iI _ hv);obtain⟨its',rv,⟨o,ho,hc,n,hd⟩,_⟩:=I.tuple hq;cases (show u=Value.ref a from r);cases rv with
  |cons ri rr=>
   obtain⟨t,rfl⟩:=ri;refine⟨Value.int i t::fs,by simp[l],λf hf'=>?_,KatTups.cons (k _ _ ho) hc hd Qi kt⟩;rcases gG.mp hf' with rfl|z
   ·exact⟨i,t,rfl⟩
   ·exact hf f z
theorem zfX{prog:Program}{w:World}{A:Around}{E:Value->Shared->Prop}{s:Shared}{its fs:List Value}{Q:SortKind->Shared->Prop}(h2:2<=its.length)(hl:fs.length=its.length)(hi:∀u∈fs,∃i t,u=Value.int i t)(kt:KatTups s.heap its fs)(q:Q (tuples' true) s):wpAny (model prog w) A (keyKind' its.toArray) Q E s:=
 kat_kind (T:=.type "int") kt gV (λv hv=>by obtain⟨i,t,rfl⟩:=hi v hv;exact .of_pure rfl) J0 q
theorem KJ{its:List Value}{i:Nat}{u:Value}(h:its[i]?=some u):its.getD i Value.none=u:=by rw[nF,h];rfl
theorem zdx:cG X (.builtin "sorted") (λxs H Q=>∃l ys lt p,xs=[.ref l]/\eE X.K H l ys/\ys.length<64/\(2<=ys.length->sG X.K H ys lt/\bT lt (kas_sort ys.length)=some p/\p.size=ys.length)/\∀r,H r=none->Q (.ref r) (upd H r (.lst (jQ ys p)))):=by
 intro ao s Z H xs us Q I r h;obtain⟨l,ys,lt,p,rfl,hq,sE,hs,q⟩:=h;obtain⟨u,rfl,rx⟩:=vals1 r;cases rx;obtain⟨its,rv,pl,hz⟩:=I.list hq;have hlen:=rv.length;have fin:EP X ao Z Q (.ref (s.heap.objs.size+1)) {s with heap:=sortedAll s.heap its (jf its p)}:=by
  obtain⟨e,he⟩:=sortedAll_at s.heap its (jf its p);have hn:H (s.heap.objs.size+1)=none:=I.hok.fresh (Nat.le_succ _);refine⟨.ref (s.heap.objs.size+1),_,I.laid (t':=s.toks) (λb u q=>sortedAll_old q) (Nat.le_succ _) (show bO X.prog X.w _ _ _ (.lst (jQ ys p)) from ⟨?_,(jf its p).toList,e,zg9 rv p,by rw[Array.toArray_toList];exact he⟩),rfl,q _ hn⟩;unfold jQ;by_cases h2:ys.length<2
  ·rw[if_pos h2];exact hz
  ·rw[if_neg h2,cY,yu,(hs gV).2.2];exact hz
 by_cases h2:2<=ys.length
 ·obtain⟨hS,hr,hp⟩:=hs h2;rcases hS with ⟨hI,fX⟩|⟨hT,fX⟩
  ·refine Qh (κ:=oneType') (lt:=lt) (p:=p) pl.isList gV (λmO s' Q' E' k q'=>zge mO (λu hu=>?_) q') (λ_ s' i j b C k e hC=>?_) (λ_=>by rw[<-hlen];exact hr) (λ_=>by lia) fin
   ·obtain⟨v,hv,rr⟩:=zg7 rv u hu;obtain⟨i,rfl⟩:=hI v hv;obtain⟨t,rfl⟩:=rr;exact⟨i,t,rfl⟩
   ·obtain⟨x,y,e1,e2,rfl⟩:=fX i j b e;obtain⟨u1,f1,g1⟩:=rv.get e1;obtain⟨u2,f2,g2⟩:=rv.get e2;obtain⟨t1,rfl⟩:=g1;obtain⟨t2,rfl⟩:=g2;show wpAny _ _ (keyLt' oneType' (its.getD i Value.none) (its.getD j Value.none)) C _ s';rw[KJ f1,KJ f2];exact kat_lt_int hC
  ·refine Qh (κ:=tuples' true) (lt:=lt) (p:=p) pl.isList gV (λmO s' Q' E' k q'=>?_) (λ_ s' i j b C k e hC=>?_) (λ_=>by rw[<-hlen];exact hr) (λ_=>by lia) fin
   ·obtain⟨fs,l1,hf,kt⟩:=ziL (K:=X.K) I k rv hT;exact zfX mO l1 hf kt q'
   ·obtain⟨a,c,us,ws,e1,e2,q1,q2,e3⟩:=fX i j b e;obtain⟨u1,f1,g1⟩:=rv.get e1;obtain⟨u2,f2,g2⟩:=rv.get e2;cases (show u1=Value.ref a from g1);cases (show u2=Value.ref c from g2);obtain⟨i1,r1,⟨o1,KC,hc1,n1,hd1⟩,_⟩:=I.tuple q1;obtain⟨i2,r2,⟨o2,jO,lQ,n2,hd2⟩,_⟩:=I.tuple q2;show wpAny _ _ (keyLt' (tuples' true) (its.getD i Value.none) (its.getD j Value.none)) C _ s';rw[KJ f1,KJ f2];refine kat_lt (k _ _ KC) hd1 (k _ _ jO) hd2 (zjm r1 r2 e3 ?_ hC);rw[r1.length,r2.length];simp
 ·exact Qh (κ:=oneType') (lt:=lt) (p:=p) pl.isList gV (λmO=>absurd mO gV) (λmO=>absurd mO gV) (λmO=>absurd mO gV) (λmO=>absurd mO gV) fin
end
end L2
namespace L2
open PySem PySem.Spec PyProof.Rows PySem.W PySem.Calls
theorem WM{α:Type}:∀{l:List (Str×α)} {f:Str} {u:α},(l.map (·.1)).Nodup->(f,u)∈l->l.lookup f=some u
 |(g,v)::r,f,u,hn,hm=>by
  rw[jq,uM] at hn;rw[nG];rcases gG.mp hm with e|hm
  ·cases e;simp
  ·have:f≠g:=λz=>hn.1 (by rw[<-z];exact gZ.mpr ⟨(f,u),hm,rfl⟩);rw[show (f==g)=false by simpa using this];exact WM hn.2 hm
theorem zhM{α:Type}{fs:List Str}{us:List α}{i:Nat}{f:Str}{u:α}(h1:fs[i]?=some f)(h2:us[i]?=some u):(f,u)∈fs.zip us:=by
 refine gF (i:=i) ?_;exact(List.getElem?_zip_eq_some (z:=(f,u))).mpr ⟨h1,h2⟩
structure XF(K:Frag)(C:Addr)(f:Str):Prop where
 ga:findIn K (.ref C) "__getattribute__"=some (some (.builtin "BaseException.__getattribute__"))
 gn:findIn K (.ref C) "__getattr__"=some none
 mb:mroIn K C (.type "BaseException")=some true
 no:findIn K (.ref C) f=some none
 hd:hasDictIn K C=true
end L2
namespace L2
open PySem PySem.Spec PyProof.Rows
section
variable {X:Cx}{ao:List (Addr×Obj)}{Z:St}{H:Hp}{s:Shared}{h':Heap}
theorem Inv.qm{t':Nat}{ch:List Addr}{a:Addr}{o:HO}(I:Inv X ao Z H s)(k:∀b u,b∉ch->s.heap.get? b=some u->h'.get? b=some u)(hf:∀b∈ch,eF X ao H b)(ha:s.heap.objs.size<=a)(new:bO X.prog X.w (upd H a o) h' a o) :
  Inv X ao Z (upd H a o) {s with heap:=h',toks:=t'}:=by
 have wL:∀b u,H b=some u->b∉ch:=λb u e z=>by rw[(hf b z).1] at e;cases e
 have hn:H a=none:=I.hok.fresh ha;have na:∀b u,H b=some u->b≠a:=λb u e z=>by rw[z,hn] at e;cases e
 have la:∀b u,s.heap.get? b=some u->b≠a:=λb u e=>dM (gU (bV e) ha);refine I.step (g':=s.gens) (d':=s.drawn) (ch:=ch) (λb hb=>?_) (λb o _ _ hc e _=>k b o hc e) (λb o _ _ hc e _=>⟨o.slots,k b o hc e⟩) (λb o' _ e n=>by rw[cX (la b o' e)];exact n)
  (λb o hc e=>⟨o,k b o hc e⟩) (λb xs e=>by rw[cX (na b _ e)];exact e) (λb o u e=>by rw[cX (na b _ e)];exact e) (λb ps e=>⟨#[],by rw[cX (na b _ e),e];simp⟩) (λm hm=>?_) (λb u e=>?_) I.bare
 ·obtain⟨f0,f1,f2,f3,f4,f5⟩:=hf b hb;exact⟨f3.imp id λz=>Dy z,f1,f4,f5⟩
 ·obtain⟨o,es,ep,ho,r⟩:=hm;exact⟨o,es,ep,k _ o (λz=>(hf _ z).2.1 rfl) ho,r⟩
 ·by_cases z:b=a
  ·subst z;rw[jH] at e;cases e;exact new
  ·rw[cX z] at e;refine(I.hok b u e).stay (λc v hc q=>k c v ?_ q) (λc q=>by rw[cX (na c _ q)];exact q) λc _ q=>by rw[cX (na c _ q)];exact q
   rcases hc with y|y
   ·rw[y];exact wL b u e
   ·exact wL c _ y
theorem Inv.vp{t':Nat}{ch:List Addr}(I:Inv X ao Z H s)(k:∀b u,b∉ch->s.heap.get? b=some u->h'.get? b=some u)(hf:∀b∈ch,eF X ao H b):Inv X ao Z H {s with heap:=h',toks:=t'}:=by
 have wL:∀b u,H b=some u->b∉ch:=λb u e z=>by rw[(hf b z).1] at e;cases e
 refine I.step (g':=s.gens) (d':=s.drawn) (ch:=ch) (λb hb=>?_) (λb o _ _ hc e _=>k b o hc e) (λb o _ _ hc e _=>⟨o.slots,k b o hc e⟩) (λ_ _ _ _ n=>n)
  (λb o hc e=>⟨o,k b o hc e⟩) (λ_ _ e=>e) (λ_ _ _ e=>e) (λb ps e=>⟨#[],by rw[e];simp⟩) (λm hm=>?_) (λb u e=>?_) I.bare
 ·obtain⟨f0,f1,f2,f3,f4,f5⟩:=hf b hb;exact⟨f3.imp id λz=>Dy z,f1,f4,f5⟩
 ·obtain⟨o,es,ep,ho,r⟩:=hm;exact⟨o,es,ep,k _ o (λz=>(hf _ z).2.1 rfl) ho,r⟩
 ·refine(I.hok b u e).stay (λc v hc q=>k c v ?_ q) (λ_ q=>q) λ_ _ q=>q;rcases hc with y|y
  ·rw[y];exact wL b u e
  ·exact wL c _ y
end
structure m_(prog:Program)(w:World)(it src:Addr)(st:Nat->Heap->Prop)(its:Array Value):Prop where
 item:∀(A:Around) (E:Value->Shared->Prop) (s:Shared) (i:Nat) (x:Value) (Q:Value->Shared->Prop),st i s.heap->its[i]?=some x->(∀h',st (i+1) h'->Heap.SameBut it s.heap h'->Q x {s with heap:=h'})->wpAny (model prog w) A (Builtin.SmallTypes.nextOf (.ref it)) Q E s
 fin:∀(A:Around) (E:Value->Shared->Prop) (s:Shared) (i:Nat) (Q:Value->Shared->Prop),A.handled=none->st i s.heap->its[i]?=none->(∀h' e,Heap.ExtBut it s.heap h'->(∃o,h'.get? e=some o/\o.cls=.type "StopIteration")->E (.ref e) {s with heap:=h'})->wpAny (model prog w) A (Builtin.SmallTypes.nextOf (.ref it)) Q E s
 keep:∀i h h',st i h->(∀b o,b=it\/b=src->h.get? b=some o->h'.get? b=some o)->st i h'
theorem m_.list(Cu:l≠it):m_ prog w it l (λi h=>h.IsListIter it l i/\h.IsList l its) its where
 item:=λA E s i x Q ⟨h1,h2⟩ hx q=>wpAny_nextOf_list_item h1 h2 hx λh' a sb=>q h' ⟨a,h2.at λo e=>(sb.2 l Cu).trans e⟩ sb
 fin:=λA E s i Q hh ⟨h1,h2⟩ hx q=>wpAny_nextOf_list_end hh h1 h2 hx q
 keep:=λi h h' ⟨h1,h2⟩ k=>⟨h1.at λo e=>k it o (.inl rfl) e,h2.at λo e=>k l o (.inr rfl) e⟩
theorem WQ(l:Addr):¬((Value.ref l==Value.none)=true):=λz=>by cases (show false=true from z)
theorem IsTupleIter.at'{h h':Heap}{it l:Addr}{i:Nat}(x:h.IsTupleIter it l i)(k:∀o,h.get? it=some o->h'.get? it=some o):h'.IsTupleIter it l i:=by
 obtain⟨o,e,r⟩:=x;exact⟨o,k o e,r⟩
theorem IsTuple.at'{h h':Heap}{l:Addr}{xs:Array Value}(x:h.IsTuple l xs)(k:∀o,h.get? l=some o->h'.get? l=some o):h'.IsTuple l xs:=by
 obtain⟨o,e,r⟩:=x;exact⟨o,k o e,r⟩
section
variable {prog:Program}{w:World}{A:Around}{E:Value->Shared->Prop}{s:Shared}{it l:Addr}{i:Nat}{its:Array Value}
theorem zeP{x:Value}{Q:Value->Shared->Prop}(hi:s.heap.IsTupleIter it l i)(hl:s.heap.IsTuple l its)(hx:its[i]?=some x)(q:∀h',h'.IsTupleIter it l (i+1)->Heap.SameBut it s.heap h'->Q x {s with heap:=h'}) :
  wpAny (model prog w) A (Builtin.SmallTypes.nextOf (.ref it)) Q E s:=by
 obtain⟨oi,ei,ci,di⟩:=id hi;obtain⟨ol,el,_,nl,dl⟩:=hl;unfold Builtin.SmallTypes.nextOf;refine aA (yp (name:=Str.ofString "__next__") hi.typeIs Jr (yC Jr hi.typeIs F.entry_tuple_iterator_next ?_ (F.args_tuple_iterator_next_1 _)));show wpAny _ A.in1 (field (.ref it) 0 >>= _) _ E s;refine aA (lO ei di (x:=.ref l) rfl ?_);show wpAny _ A.in1 (if (Value.ref l==Value.none)=true then _ else _) _ E s;rw[if_neg (WQ l)];show wpAny _ A.in1 (field (.ref it) 1 >>= _) _ E s;refine aA (lO ei di (x:=.int i 0) rfl ?_);show wpAny _ A.in1 (seqItems? (.ref l) >>= _) _ E s;refine aA (oO el dl ?_);simp only[ud,hx];refine aA (DW ei di Qi (aO ⟨x,rfl,aO (q _ ⟨_,yq _ ei (Jt (wu di _)),(Obj.cls_mapFields ..).trans ci,?_⟩ (Heap.SameBut.update ..))⟩));rw[wu di];simp[rawInt]
theorem zfs{Q:Value->Shared->Prop}(hh:A.handled=none)(hi:s.heap.IsTupleIter it l i)(hl:s.heap.IsTuple l its)(hx:its[i]?=none)(q:∀h' e,Heap.ExtBut it s.heap h'->(∃o,h'.get? e=some o/\o.cls=.type "StopIteration")->E (.ref e) {s with heap:=h'}) :
  wpAny (model prog w) A (Builtin.SmallTypes.nextOf (.ref it)) Q E s:=by
 obtain⟨oi,ei,ci,di⟩:=id hi;obtain⟨ol,el,_,nl,dl⟩:=hl;unfold Builtin.SmallTypes.nextOf;refine aA (yp (name:=Str.ofString "__next__") hi.typeIs Jr (yC Jr hi.typeIs F.entry_tuple_iterator_next ?_ (F.args_tuple_iterator_next_1 _)));show wpAny _ A.in1 (field (.ref it) 0 >>= _) _ E s;refine aA (lO ei di (x:=.ref l) rfl ?_);show wpAny _ A.in1 (if (Value.ref l==Value.none)=true then _ else _) _ E s;rw[if_neg (WQ l)];show wpAny _ A.in1 (field (.ref it) 1 >>= _) _ E s;refine aA (lO ei di (x:=.int i 0) rfl ?_);show wpAny _ A.in1 (seqItems? (.ref l) >>= _) _ E s;refine aA (oO el dl ?_);simp only[ud,hx];refine aA (wC (aA (DW ei di Qi ?_)));show wpAny _ A.in1 (newExc (.type "StopIteration") [] >>= _) _ E _;refine aA ?_;simp only[newExc,newTuple];refine aA (qb (aA (m:=firstArgMember _ _) (Ca (a:=Value.none) (by first|rfl|(simp only[firstArgMember];rfl)) (qb ?_ (by size_fits)))) (by size_fits));simp only[raiseNew];refine aA (wpAny_handled ?_);rw[show A.in1.handled=none from hh];exact aA (aO (wpAny_throw (q _ _ (((Heap.SameBut.update ..).extBut.push _).push _) ⟨_,fC _ rfl,rfl⟩)))
end
theorem m_.tuple{prog:Program}{w:World}{it l:Addr}{its:Array Value}(Cu:l≠it):m_ prog w it l (λi h=>h.IsTupleIter it l i/\h.IsTuple l its) its where
 item:=λA E s i x Q ⟨h1,h2⟩ hx q=>zeP h1 h2 hx λh' a sb=>q h' ⟨a,IsTuple.at' h2 λo e=>(sb.2 l Cu).trans e⟩ sb
 fin:=λA E s i Q hh ⟨h1,h2⟩ hx q=>zfs hh h1 h2 hx q
 keep:=λi h h' ⟨h1,h2⟩ k=>⟨IsTupleIter.at' h1 λo e=>k it o (.inl rfl) e,IsTuple.at' h2 λo e=>k l o (.inr rfl) e⟩
structure lg(z TI TO i1 i2 l1 l2:Addr):Prop where
 zs:z≠TI/\z≠TO/\z≠i1/\z≠i2/\z≠l1/\z≠l2
 os:TO≠TI/\TO≠i1/\TO≠i2/\TO≠l1/\TO≠l2
 is:TI≠i1/\TI≠i2/\i1≠i2/\i1≠l1/\i1≠l2/\i2≠l1/\i2≠l2
section
variable {prog:Program}{w:World}{A:Around}{E:Value->Shared->Prop}{s:Shared}{z TI TO i1 i2 l1 l2:Addr}{st1 st2:Nat->Heap->Prop}{xs ys:Array Value}{k:Nat}{a b:Value}
theorem zhg(N1:m_ prog w i1 l1 st1 xs)(N2:m_ prog w i2 l2 st2 ys)(D:lg z TI TO i1 i2 l1 l2)(hz:IsZip s.heap z TI TO .none)(Qj:IsPair s.heap TI (.ref i1) (.ref i2))(Qk:IsPair s.heap TO a b)
  (h1:st1 k s.heap) (h2:st2 k s.heap) (hx:xs[k]?=some x) (hy:ys[k]?=some y)
  (q:∀h',IsZip h' z TI TO (rawInt s.heap.objs.size)->IsPair h' TO x y->st1 (k+1) h'->st2 (k+1) h'->IsPair h' s.heap.objs.size x y->h'.objs.size=s.heap.objs.size+1->(∀c o,c≠z->c≠TO->c≠i1->c≠i2->s.heap.get? c=some o->h'.get? c=some o)->Q (some (.ref s.heap.objs.size)) {s with heap:=h'}) :
  wpAny (model prog w) A (pyNext (.ref z)) Q E s:=by
 obtain⟨⟨z1,z2,z3,z4,z5,z6⟩,⟨t1,t2,t3,t4,t5⟩,⟨j1,j2,j3,j4,j5,j6,j7⟩⟩:=D;have hT:s.TypeIs (.ref z) "zip":=⟨_,hz,rfl⟩;unfold pyNext;refine aA (wpAny_attempt (yp (name:=Str.ofString "__next__") hT JV (yC JV hT F.entry_zip_next ?_ (F.args_zip_next_1 _))));show wpAny _ A.in1 (field (.ref z) 2 >>= _) _ _ s;refine aA (lO hz rfl (x:=.bool false) rfl ?_);show wpAny _ A.in1 (field (.ref z) 3 >>= _) _ _ s;refine aA (lO hz rfl (x:=.ref TI) rfl (aA (oO Qj rfl ?_)));show wpAny _ A.in1 (Builtin.SmallTypes.ownedTupleIsFree (.ref z) >>= _) _ _ s;refine aA ?_;unfold Builtin.SmallTypes.ownedTupleIsFree;refine aA (lO hz rfl (x:=.none) rfl (aO ?_));simp only[if_true];refine aA (wC (aA (lO hz rfl (x:=.ref TO) rfl (aA (BJ hz Qi λha za sa=>aA ?_)))))
 replace za:IsZip ha z TI TO .ellipsis:=za
 simp only[List.zipIdx_cons,List.zipIdx_nil,BW,JZ];refine aA (aA (wpAny_onRaise ?_));show wpAny _ A.in1 (Builtin.SmallTypes.nextOf (.ref i1) >>= _) _ _ _;refine aA (N1.item _ _ {s with heap:=ha} k x _ (N1.keep _ _ _ h1 λc o hc e=>sa.extBut c o (by rcases hc with rfl|rfl;exact z3.symm;exact z5.symm) e) hx λhb WR sb=>aO ?_);have tb:IsPair hb TO a b:=sb.extBut _ _ t2 (sa.extBut _ _ z2.symm Qk);refine aA (oO tb rfl (aA (M9 tb λhc tc sc=>aA (wB (aO ?_)))))
 replace tc:IsPair hc TO x b:=tc
 refine aA (aA (wpAny_onRaise ?_));show wpAny _ A.in1 (Builtin.SmallTypes.nextOf (.ref i2) >>= _) _ _ _;have k2:st2 k hc:=N2.keep _ _ _ h2 λc o jM e=>by
  rcases jM with rfl|rfl
  ·exact sc.extBut _ _ t3.symm (sb.extBut _ _ j3.symm (sa.extBut _ _ z4.symm e))
  ·exact sc.extBut _ _ t5.symm (sb.extBut _ _ j5.symm (sa.extBut _ _ z6.symm e))
 have k1:st1 (k+1) hc:=N1.keep _ _ _ WR λc o jM e=>by
  rcases jM with rfl|rfl
  ·exact sc.extBut _ _ t2.symm e
  ·exact sc.extBut _ _ t4.symm e
 refine aA (N2.item _ _ {s with heap:=hc} k y _ k2 hy λhd sd2 sd=>aO ?_);have td:IsPair hd TO x b:=sd.extBut _ _ t3 tc;refine aA (oO td rfl (aA (M9 td λhe te se=>aA (wB (aO (aO ?_))))))
 replace te:IsPair he TO x y:=te
 refine aA (oO te rfl (aA (wpAny_newTuple ?_)));have size:he.objs.size=s.heap.objs.size:=by rw[se.1,sd.1,sc.1,sb.1,sa.1]
 have ze:IsZip he z TI TO .ellipsis:=se.extBut _ _ z2 (sd.extBut _ _ z4 (sc.extBut _ _ z2 (sb.extBut _ _ z3 za)));have kept:∀c o,c≠z->c≠TO->c≠i1->c≠i2->s.heap.get? c=some o->he.get? c=some o:=λc o c1 c2 c3 c4 e=>se.extBut _ _ c2 (sd.extBut _ _ c4 (sc.extBut _ _ c2 (sb.extBut _ _ c3 (sa.extBut _ _ c1 e))));have e1:st1 (k+1) he:=N1.keep _ _ _ k1 λc o jM e=>by
  rcases jM with rfl|rfl
  ·exact se.extBut _ _ t2.symm (sd.extBut _ _ j3 e)
  ·exact se.extBut _ _ t4.symm (sd.extBut _ _ j6.symm e)
 have e2:st2 (k+1) he:=N2.keep _ _ _ sd2 λc o jM e=>by
  rcases jM with rfl|rfl
  ·exact se.extBut _ _ t3.symm e
  ·exact se.extBut _ _ t5.symm e
 show wpAny _ A.in1 (Builtin.SmallTypes.ownedTupleHandOut (.ref z) (.ref he.objs.size) >>= _) _ _ _;refine aA ?_;unfold Builtin.SmallTypes.ownedTupleHandOut;have zf:IsZip (he.push {cls:=.type "tuple",data:=.seq #[x,y]}) z TI TO .ellipsis:=cO _ ze;refine aA (BJ zf Qi λhg zg sg=>BJ zg Qi λhh zh sh=>aO ⟨_,rfl,aO ?_⟩)
 replace zh:IsZip hh z TI TO (rawInt he.objs.size):=zh
 have up:∀c o,c≠z->he.get? c=some o->hh.get? c=some o:=λc o c1 e=>sh.extBut _ _ c1 (sg.extBut _ _ c1 (cO _ e));have lz:z<he.objs.size:=bV ze;have tn:IsPair hh he.objs.size x y:=sh.extBut _ _ (uO lz) (sg.extBut _ _ (uO lz) (fC _ rfl));have sz:hh.objs.size=he.objs.size+1:=by rw[sh.1,sg.1,uo]
 rw[size] at zh tn sz;show Q (some (.ref he.objs.size)) _;rw[size];exact q hh zh (up _ _ z2.symm te) (N1.keep _ _ _ e1 λc o jM e=>up c o (by rcases jM with rfl|rfl;exact z3.symm;exact z5.symm) e) (N2.keep _ _ _ e2 λc o jM e=>up c o (by rcases jM with rfl|rfl;exact z4.symm;exact z6.symm) e) tn sz λc o c1 c2 c3 c4 e=>up c o c1 (kept c o c1 c2 c3 c4 e)
theorem zh9(hn:A.handled=none)(N1:m_ prog w i1 l1 st1 xs)(N2:m_ prog w i2 l2 st2 ys)(D:lg z TI TO i1 i2 l1 l2)(hz:IsZip s.heap z TI TO .none)(Qj:IsPair s.heap TI (.ref i1) (.ref i2))(Qk:IsPair s.heap TO a b)
  (h1:st1 k s.heap) (h2:st2 k s.heap) (hx:xs[k]?=none\/ys[k]?=none) (q:∀h',(∀c o,c≠z->c≠TO->c≠i1->c≠i2->s.heap.get? c=some o->h'.get? c=some o)->Q none {s with heap:=h'}):wpAny (model prog w) A (pyNext (.ref z)) Q E s:=by
 obtain⟨⟨z1,z2,z3,z4,z5,z6⟩,⟨t1,t2,t3,t4,t5⟩,⟨j1,j2,j3,j4,j5,j6,j7⟩⟩:=D;have hT:s.TypeIs (.ref z) "zip":=⟨_,hz,rfl⟩;have stop:∀(h':Heap) (e:Addr),(∀c o,c≠z->c≠TO->c≠i1->c≠i2->s.heap.get? c=some o->h'.get? c=some o)->(∃o,h'.get? e=some o/\o.cls=.type "StopIteration")->
   wpAny (model prog w) A (do if <-isInstance (.ref e) (.type "StopIteration") then pure none else throw (.ref e):Sem (Option Value)) Q E {s with heap:=h'}:=λh' e kp ⟨o,ho,hc⟩=>
  aA (wpAny_isInstance (T:="StopIteration") (b:=true) ⟨o,ho,hc⟩ isSubtype_stop (aO (q h' kp)))
 unfold pyNext;refine aA (wpAny_attempt (yp (name:=Str.ofString "__next__") hT JV (yC JV hT F.entry_zip_next ?_ (F.args_zip_next_1 _))));show wpAny _ A.in1 (field (.ref z) 2 >>= _) _ _ s;refine aA (lO hz rfl (x:=.bool false) rfl ?_);show wpAny _ A.in1 (field (.ref z) 3 >>= _) _ _ s;refine aA (lO hz rfl (x:=.ref TI) rfl (aA (oO Qj rfl ?_)));show wpAny _ A.in1 (Builtin.SmallTypes.ownedTupleIsFree (.ref z) >>= _) _ _ s;refine aA ?_;unfold Builtin.SmallTypes.ownedTupleIsFree;refine aA (lO hz rfl (x:=.none) rfl (aO ?_));simp only[if_true];refine aA (wC (aA (lO hz rfl (x:=.ref TO) rfl (aA (BJ hz Qi λha za sa=>aA ?_)))))
 replace za:IsZip ha z TI TO .ellipsis:=za
 simp only[List.zipIdx_cons,List.zipIdx_nil,BW,JZ];refine aA (aA (wpAny_onRaise ?_));show wpAny _ A.in1 (Builtin.SmallTypes.nextOf (.ref i1) >>= _) _ _ _;have ka:st1 k ha:=N1.keep _ _ _ h1 λc o hc e=>sa.extBut c o (by rcases hc with rfl|rfl;exact z3.symm;exact z5.symm) e;cases ex:xs[k]? with
 |none=>
  refine aA (N1.fin _ _ {s with heap:=ha} k _ hn ka ex λhb e sb se=>?_);obtain⟨oe,ho,hc⟩:=se;have zb:IsZip hb z TI TO .ellipsis:=sb _ _ z3 za;have ne:e≠z:=λy=>by subst y;rw[zb] at ho;cases ho;simp at hc
  exact BJ zb Qi λhd _ sd=>stop hd e (λc o c1 _ c3 _ y=>sd.extBut _ _ c1 (sb _ _ c3 (sa.extBut _ _ c1 y))) ⟨oe,sd.extBut _ _ ne ho,hc⟩
 |some x=>
  have ey:ys[k]?=none:=by
   rcases hx with y|y
   ·rw[ex] at y;cases y
   ·exact y
  refine aA (N1.item _ _ {s with heap:=ha} k x _ ka ex λhb WR sb=>aO ?_);have tb:IsPair hb TO a b:=sb.extBut _ _ t2 (sa.extBut _ _ z2.symm Qk);refine aA (oO tb rfl (aA (M9 tb λhc tc sc=>aA (wB (aO ?_)))));refine aA (aA (wpAny_onRaise ?_));show wpAny _ A.in1 (Builtin.SmallTypes.nextOf (.ref i2) >>= _) _ _ _;have k2:st2 k hc:=N2.keep _ _ _ h2 λc o jM e=>by
   rcases jM with rfl|rfl
   ·exact sc.extBut _ _ t3.symm (sb.extBut _ _ j3.symm (sa.extBut _ _ z4.symm e))
   ·exact sc.extBut _ _ t5.symm (sb.extBut _ _ j5.symm (sa.extBut _ _ z6.symm e))
  refine aA (N2.fin _ _ {s with heap:=hc} k _ hn k2 ey λhd e sd se=>?_);obtain⟨oe,ho,wR⟩:=se;have zd:IsZip hd z TI TO .ellipsis:=sd _ _ z4 (sc.extBut _ _ z2 (sb.extBut _ _ z3 za));have ne:e≠z:=λy=>by subst y;rw[zd] at ho;cases ho;simp at wR
  exact BJ zd Qi λhf _ sf=>stop hf e (λc o c1 c2 c3 c4 y=>sf.extBut _ _ c1 (sd _ _ c4 (sc.extBut _ _ c2 (sb.extBut _ _ c3 (sa.extBut _ _ c1 y))))) ⟨oe,sf.extBut _ _ ne ho,wR⟩
end
noncomputable def Ck:Bool->Heap->Addr->Array Value->Prop
 |true,h,l,xs=>h.IsList l xs
 |false,h,l,xs=>h.IsTuple l xs
noncomputable def Rk:Bool->Addr->Addr->Nat->Heap->Prop
 |true,it,l,i,h=>h.IsListIter it l i
 |false,it,l,i,h=>h.IsTupleIter it l i
noncomputable def Sk:Bool->W.Frag->Hp->Addr->List V->Prop
 |true,K,H,l,xs=>eE K H l xs
 |false,K,H,l,xs=>fV K H l xs
noncomputable def iz:Bool->Addr->Obj
 |true,l=>{cls:=.type "list_iterator",data:=.fields #[.ref l,.int 0 0]}
 |false,l=>{cls:=.type "tuple_iterator",data:=.fields #[.ref l,.int 0 0]}
theorem m_.of(kd:Bool)(Cu:l≠it):m_ prog w it l (λi h=>Rk kd it l i h/\Ck kd h l its) its:=by
 cases kd
 ·exact m_.tuple Cu
 ·exact m_.list Cu
theorem Ck.keep(x:Ck kd h l xs)(k:∀o,h.get? l=some o->h'.get? l=some o):Ck kd h' l xs:=by
 cases kd
 ·exact IsTuple.at' x k
 ·exact Heap.IsList.at x k
theorem Rk.keep(x:Rk kd it l i h)(k:∀o,h.get? it=some o->h'.get? it=some o):Rk kd it l i h':=by
 cases kd
 ·exact IsTupleIter.at' x k
 ·exact Heap.IsListIter.at x k
theorem Rk.obj(x:Rk kd it l i h):∃o,h.get? it=some o/\∀v,o.data≠.cell v:=by
 cases kd
 ·obtain⟨o,e,c,d⟩:=x;exact⟨o,e,λv z=>by rw[d] at z;cases z⟩
 ·obtain⟨o,e,c,d⟩:=x;exact⟨o,e,λv z=>by rw[d] at z;cases z⟩
theorem Ck.lt(x:Ck kd h l xs):l<h.objs.size:=by
 cases kd
 ·obtain⟨o,e,_⟩:=x;exact bV e
 ·obtain⟨o,e,_⟩:=x;exact bV e
section
variable {prog:Program}{w:World}{A:Around}{E:Value->Shared->Prop}{s:Shared}
theorem WT(c:Ck kd s.heap l xs)(q:Q (.ref s.heap.objs.size) {s with heap:=s.heap.push (iz kd l)}):wpAny (model prog w) A (pyIter (.ref l)) Q E s:=by
 cases kd
 ·exact wpAny_pyIter_tuple c q
 ·exact JL c q
end
noncomputable def zH(h:Heap)(k1 k2:Bool)(l1 l2:Addr):Heap:=((((h.push (iz k1 l1)).push (iz k2 l2)).push {cls:=.type "tuple",data:=.seq #[.ref h.objs.size,.ref (h.push (iz k1 l1)).objs.size]}).push {cls:=.type "tuple",data:=.seq #[.none,.none]}).push
 {cls:=.type "zip",data:=.fields #[.none,.bool false,.bool false,.ref ((h.push (iz k1 l1)).push (iz k2 l2)).objs.size,.ref (((h.push (iz k1 l1)).push (iz k2 l2)).push {cls:=.type "tuple",data:=.seq #[.ref h.objs.size,.ref (h.push (iz k1 l1)).objs.size]}).objs.size]}
theorem zgV(k1 k2:Bool)(l1 l2:Addr)(xs ys:Array Value):Meets (Builtin.«zip.__new__» ⟨[.type "zip",.ref l1,.ref l2],[]⟩) (λ_ R s=>Ck k1 s.heap l1 xs/\Ck k2 s.heap l2 ys /\
   R (.ok (.ret (.ref ((((s.heap.push (iz k1 l1)).push (iz k2 l2)).push {cls:=.type "tuple",data:=.seq #[.ref s.heap.objs.size,.ref (s.heap.push (iz k1 l1)).objs.size]}).push {cls:=.type "tuple",data:=.seq #[.none,.none]}).objs.size))) {s with heap:=zH s.heap k1 k2 l1 l2}):=
 .of_wp λprog w A R s h=>by
  obtain⟨hp,g,d,tk,os⟩:=s;obtain⟨c1,c2,h⟩:=h;have hsub:=sub_zip;have C1:Ck k1 (Shared.heap ⟨hp,g,d,tk,os⟩) l1 xs:=c1;have C2:Ck k2 (Shared.heap ⟨hp.push (iz k1 l1),g,d,tk,os⟩) l2 ys:=c2.keep λo e=>cO _ e
  wp_walk using WT C1,WT C2
  exact⟨_,rfl,h⟩
section
variable {prog:Program}{w:World}{A:Around}{E:Value->Shared->Prop}{s:Shared}
theorem ziI(c1:Ck k1 s.heap l1 xs)(c2:Ck k2 s.heap l2 ys)
  (h:∀h',IsZip h' (s.heap.objs.size+4) (s.heap.objs.size+2) (s.heap.objs.size+3) .none->IsPair h' (s.heap.objs.size+2) (.ref s.heap.objs.size) (.ref (s.heap.objs.size+1))->IsPair h' (s.heap.objs.size+3) .none .none->
   Rk k1 s.heap.objs.size l1 0 h'->Rk k2 (s.heap.objs.size+1) l2 0 h'->(∀c o,s.heap.get? c=some o->h'.get? c=some o)->Q (.ref (s.heap.objs.size+4)) {s with heap:=h'}) :
  wpAny (model prog w) A (call (.type "zip") [.ref l1,.ref l2]) Q E s:=by
 refine callType_new F.called_zip J0 (F.typeCall_zip_2 _ _) (F.newCall_zip_2 _ _) (λobj=>F.args_object_init_3 obj _ _) F.entry_zip_new (zgV k1 k2 l1 l2 xs ys) ⟨c1,c2,?_⟩;have n1:(s.heap.push (iz k1 l1)).objs.size=s.heap.objs.size+1:=uo ..;have n2:((s.heap.push (iz k1 l1)).push (iz k2 l2)).objs.size=s.heap.objs.size+2:=by rw[uo,n1]
 have fr:∀kd l,(iz kd l).isFreed=false:=λkd l=>by cases kd<;>rfl
 have rk:∀{h:Heap} {a:Addr} {kd:Bool} {l:Addr},h.get? a=some (iz kd l)->Rk kd a l 0 h:=λ{h a kd l} e=>by
  cases kd
  ·exact⟨_,e,rfl,rfl⟩
  ·exact⟨_,e,rfl,rfl⟩
 have o1:(s.heap.push (iz k1 l1)).get? s.heap.objs.size=some (iz k1 l1):=fC _ (fr _ _);have o2:((s.heap.push (iz k1 l1)).push (iz k2 l2)).get? (s.heap.objs.size+1)=some (iz k2 l2):=by
  have:=fC (s.heap.push (iz k1 l1)) (o:=iz k2 l2) (fr _ _);rw[n1] at this;exact this
 generalize hA:(s.heap.push (iz k1 l1)).push (iz k2 l2)=KN at *;have eH:zH s.heap k1 k2 l1 l2=((KN.push {cls:=.type "tuple",data:=.seq #[.ref s.heap.objs.size,.ref (s.heap.objs.size+1)]}).push {cls:=.type "tuple",data:=.seq #[.none,.none]}).push {cls:=.type "zip",data:=.fields #[.none,.bool false,.bool false,.ref (s.heap.objs.size+2),.ref (s.heap.objs.size+3)]}:=by
  unfold zH;rw[hA,n1,n2,uo,n2]
 have n3:(KN.push {cls:=.type "tuple",data:=.seq #[.ref s.heap.objs.size,.ref (s.heap.objs.size+1)]}).objs.size=s.heap.objs.size+3:=by rw[uo,n2]
 have n4:((KN.push {cls:=.type "tuple",data:=.seq #[.ref s.heap.objs.size,.ref (s.heap.objs.size+1)]}).push {cls:=.type "tuple",data:=.seq #[.none,.none]}).objs.size=s.heap.objs.size+4:=by rw[uo,n3]
 rw[n1,n4];have g5:(zH s.heap k1 k2 l1 l2).get? (s.heap.objs.size+4)=some {cls:=.type "zip",data:=.fields #[.none,.bool false,.bool false,.ref (s.heap.objs.size+2),.ref (s.heap.objs.size+3)]}:=by
  rw[eH,<-n4];exact fC _ rfl
 have g4:(zH s.heap k1 k2 l1 l2).get? (s.heap.objs.size+3)=some {cls:=.type "tuple",data:=.seq #[.none,.none]}:=by
  rw[eH,<-n3];exact cO _ (fC _ rfl)
 have g3:(zH s.heap k1 k2 l1 l2).get? (s.heap.objs.size+2)=some {cls:=.type "tuple",data:=.seq #[.ref s.heap.objs.size,.ref (s.heap.objs.size+1)]}:=by
  rw[eH,<-n2];exact cO _ (cO _ (fC _ rfl))
 have up:∀c o,KN.get? c=some o->(zH s.heap k1 k2 l1 l2).get? c=some o:=λc o e=>by rw[eH];exact cO _ (cO _ (cO _ e))
 refine⟨⟨_,g5,rfl⟩,h _ g5 g3 g4 (rk (up _ _ ?_)) (rk (up _ _ o2)) λc o e=>up _ _ ?_⟩
 ·rw[<-hA];exact cO _ o1
 ·rw[<-hA];exact cO _ (cO _ e)
end
noncomputable def Ql(K:W.Frag)(k1 k2:Bool)(l1 l2:Addr):It:=
 ⟨λi H=>∃xs ys x y,Sk k1 K H l1 xs/\Sk k2 K H l2 ys/\xs[i]?=some x/\ys[i]?=some y,
  λi H v H'=>∃a x y,H a=none/\v=.ref a/\H'=upd H a (.tup [x,y])/\(∀xs,Sk k1 K H l1 xs->xs[i]?=some x)/\∀ys,Sk k2 K H l2 ys->ys[i]?=some y,
  λi H=>∃xs ys,Sk k1 K H l1 xs/\Sk k2 K H l2 ys/\(xs.length<=i\/ys.length<=i)⟩
section
variable {X:Cx}{ao:List (Addr×Obj)}{Z:St}{H:Hp}{s:Shared}{kd:Bool}{l:Addr}{xs ys:List V}
theorem Inv.row(I:Inv X ao Z H s)(h:Sk kd X.K H l xs):∃its:List Value,Vals xs its/\Ck kd s.heap l its.toArray:=by
 cases kd
 ·obtain⟨its,rv,p,hz⟩:=I.tuple h;exact⟨its,rv,p⟩
 ·obtain⟨its,rv,p,hz⟩:=I.list h;exact⟨its,rv,p.isList⟩
theorem Inv.pB(I:Inv X ao Z H s)(h:Sk kd X.K H l xs)(h':Sk kd X.K H l ys):xs=ys:=by
 cases kd
 ·exact I.jW h h'
 ·exact I.mj h h'
end
theorem zgA{P:Program}{w:World}{K:W.Frag}{elts:List Expr}{kk:Nat}{pos:Pos}{k1 k2:Bool}{l1 l2 z TI TO i1 i2:Addr}(D:lg z TI TO i1 i2 l1 l2) :
  Turn P w K (.Tuple elts kk pos) (Ql K k1 k2 l1 l2) [z,TI,TO,i1,i2] z (λi h=>IsZip h z TI TO .none/\IsPair h TI (.ref i1) (.ref i2)/\(∃a b,IsPair h TO a b)/\Rk k1 i1 l1 i h/\Rk k2 i2 l2 i h) where
 mem:=by simp
 obj:=λi h ⟨a1,a2,⟨p,q,a3⟩,a4,a5⟩ b hb=>by
  have:b=z\/b=TI\/b=TO\/b=i1\/b=i2:=by simpa using hb
  rcases this with rfl|rfl|rfl|rfl|rfl
  ·exact⟨_,a1,λv y=>by cases y⟩
  ·exact⟨_,a2,λv y=>by cases y⟩
  ·exact⟨_,a3,λv y=>by cases y⟩
  ·exact a4.obj
  ·exact a5.obj
 keep:=λi h h' ⟨a1,a2,⟨p,q,a3⟩,a4,a5⟩ k=>⟨k z Qi _ a1,k TI Qi _ a2,⟨p,q,k TO Qi _ a3⟩,a4.keep λo e=>k i1 Qi o e,a5.keep λo e=>k i2 Qi o e⟩
 item:=by
  rintro X hP hw hK hc i ao s Z H E I hf ⟨a1,a2,⟨p,q,a3⟩,a4,a5⟩ hg;subst hP hw hK;obtain⟨xs,ys,x,y,Cv,Cw,hx,hy⟩:=hg;obtain⟨WW,KQ,c1⟩:=I.row Cv;obtain⟨wV,wW,c2⟩:=I.row Cw;obtain⟨u,hu,ru⟩:=KQ.get hx;obtain⟨v,hv,rv⟩:=wW.get hy;have D':=D;obtain⟨⟨z1,z2,z3,z4,z5,z6⟩,⟨t1,t2,t3,t4,t5⟩,⟨j1,j2,j3,j4,j5,j6,j7⟩⟩:=D';refine zhg (m_.of k1 j4.symm) (m_.of k2 j7.symm) D a1 a2 a3 ⟨a4,c1⟩ ⟨a5,c2⟩ (x:=u) (y:=v) (by simpa using hu) (by simpa using hv) λh1 b1 b2 b3 b4 b5 b6 kp=>?_;refine⟨_,rfl,wpAny_letOwnedTupleGo_zip (s:={s with heap:=h1}) b1 λh2 e2 sb=>?_⟩;have hT2:IsPair h2 s.heap.objs.size u v:=(sb.2 _ (uO (bV a1))).trans b5;have kk:∀b o,b∉[z,TI,TO,i1,i2]->s.heap.get? b=some o->h2.get? b=some o:=λb o hb e=>(sb.2 b λy=>hb (by simp[y])).trans (kp b o (λy=>hb (by simp[y])) (λy=>hb (by simp[y])) (λy=>hb (by simp[y])) (λy=>hb (by simp[y])) e);have I2:=I.qm (t':=s.toks) (a:=s.heap.objs.size) (o:=.tup [x,y]) kk (λb hb=>hf b hb) (cL _) (show bO X.prog X.w _ h2 _ (.tup [x,y]) from ⟨by show 2<=sizeLine;decide,[u,v],.cons ru (.cons rv .nil),⟨_,hT2,rfl,_,rfl,rfl⟩⟩);have hn:H s.heap.objs.size=none:=I.hok.fresh (cL _);refine⟨.ref s.heap.objs.size,_,I2,rfl,⟨_,x,y,hn,rfl,rfl,λzs hz=>by rw[I.pB hz Cv];exact hx,λzs hz=>by rw[I.pB hz Cw];exact hy⟩,⟨e2,(sb.2 _ z1.symm).trans (kp _ _ z1.symm t1.symm j1 j2 a2),⟨_,_,(sb.2 _ z2.symm).trans b2⟩,b3.1.keep λo e=>(sb.2 _ z3.symm).trans e,b4.1.keep λo e=>(sb.2 _ z4.symm).trans e⟩,λb hb=>?_⟩;have nb:b≠s.heap.objs.size:=by
   have:b=z\/b=TI\/b=TO\/b=i1\/b=i2:=by simpa using hb
   rcases this with rfl|rfl|rfl|rfl|rfl
   ·exact dM (bV a1)
   ·exact dM (bV a2)
   ·exact dM (bV a3)
   ·obtain⟨o,e,_⟩:=a4.obj;exact dM (bV e)
   ·obtain⟨o,e,_⟩:=a5.obj;exact dM (bV e)
  rw[cX nb];exact(hf b hb).1
 done:=by
  rintro X hP hw hK hc i ao s Z H E I hf ⟨a1,a2,⟨p,q,a3⟩,a4,a5⟩ hg;subst hP hw hK;obtain⟨xs,ys,Cv,Cw,hx⟩:=hg;obtain⟨WW,KQ,c1⟩:=I.row Cv;obtain⟨wV,wW,c2⟩:=I.row Cw;have n1:=KQ.length;have n2:=wW.length;refine zh9 (I.ok.hd hc) (m_.of k1 D.is.2.2.2.1.symm) (m_.of k2 D.is.2.2.2.2.2.2.symm) D a1 a2 a3 ⟨a4,c1⟩ ⟨a5,c2⟩ ?_ λh' kp=>⟨rfl,I.vp (t':=s.toks) (ch:=[z,TI,TO,i1,i2]) (λb o hb e=>kp b o (λy=>hb (by simp[y])) (λy=>hb (by simp[y])) (λy=>hb (by simp[y])) (λy=>hb (by simp[y])) e) λb hb=>hf b hb⟩;rcases hx with y|y
  ·exact .inl (by simp;lia)
  ·exact .inr (by simp;lia)
 self:=λ_ _ _ _ _ ⟨a1,_⟩ h=>wpAny_pyIter_zip a1 h
section
variable {X:Cx}
noncomputable def Qm(K:W.Frag)(ta:TA):TI:=λZ H R=>ta Z H λvs H1=>∃k1 k2 l1 l2 xs ys,vs=[.ref l1,.ref l2]/\Sk k1 K H1 l1 xs/\Sk k2 K H1 l2 ys/\R (Ql K k1 k2 l1 l2) H1
theorem zgJ:bootBuiltins "zip"=some (.type "zip"):=by decide +kernel
theorem zjt{a b:Expr}{ta:TA}{p pos tpos:Pos}{elts:List Expr}{kk:Nat}(hg:Gl X "zip")(hm:X.mg "zip"=none)(ha:PA X [a,b] ta)(hs:starEach [a,b] X.env=[(false,eval a X.env),(false,eval b X.env)]:=by rfl)(wO:starEach [b] X.env=[(false,eval b X.env)]:=by rfl) :
  PI X (.Tuple elts kk tpos) (.Call (.Name "zip" p) [a,b] [] pos) (Qm X.K ta):=by
 intro ao s Z H R I h;refine Call_ (wN I hg hm zgJ (Bp (bw (ha pos ao s Z H _ I h) λus s1 hz=>?_) (by rw[hs,wO]) (by rw[wO];rfl)));obtain⟨vs,H1,I1,r1,q1⟩:=hz;obtain⟨k1,k2,l1,l2,xs,ys,e,Cv,Cw,q⟩:=q1;subst e;cases r1 with
 |cons r rr=>
  cases rr with
  |cons r' rr=>
   cases rr;cases r;cases r';obtain⟨WW,KQ,c1⟩:=I1.row Cv;obtain⟨wV,wW,c2⟩:=I1.row Cw;have m1:=c1.lt;have m2:=c2.lt;refine ziI c1 c2 λh' b1 b2 b3 b4 b5 kp=>?_;refine wpAny_pyIter_zip b1 ?_;have ne:∀{u v:Nat},u<v->u≠v:=λh=>dM h;have D:lg (s1.heap.objs.size+4) (s1.heap.objs.size+2) (s1.heap.objs.size+3) s1.heap.objs.size (s1.heap.objs.size+1) l1 l2:=
    ⟨⟨(ne gV).symm,(ne gV).symm,(ne gV).symm,(ne gV).symm,(ne (gU m1 gV)).symm,(ne (gU m2 gV)).symm⟩,
     ⟨(ne gV).symm,(ne gV).symm,(ne gV).symm,(ne (gU m1 gV)).symm,(ne (gU m2 gV)).symm⟩,
     ⟨(ne gV).symm,(ne gV).symm,ne gV,(ne m1).symm,(ne m2).symm,(ne (gU m1 gV)).symm,(ne (gU m2 gV)).symm⟩⟩
   refine⟨s1.heap.objs.size+4,[s1.heap.objs.size+4,s1.heap.objs.size+2,s1.heap.objs.size+3,s1.heap.objs.size,s1.heap.objs.size+1],_,_,H1,rfl,I1.kept (t':=s1.toks) kp,zgA D,⟨b1,b2,⟨_,_,b3⟩,b4,b5⟩,λb hb=>?_,q⟩;have:s1.heap.objs.size<=b:=by
    have:b=s1.heap.objs.size+4\/b=s1.heap.objs.size+2\/b=s1.heap.objs.size+3\/b=s1.heap.objs.size\/b=s1.heap.objs.size+1:=by simpa using hb
    rcases this with rfl|rfl|rfl|rfl|rfl<;>lia
   exact I1.uW this (I1.hok.fresh this)
end
end L2
set_option genSizeOf false
set_option genInjectivity false
namespace Mi
open PySem
inductive D where
 |non|bl (b:Bool)|int (i:Int)|str (s:Str)|tup (xs:List D)|fl (xs:List D)|fd (ks vs:List D)|exc (c:Nat) (fs:List D)|ob (c:Nat) (fs:List D)|any
inductive Xv where
 |d (x:D)|l (n:Nat)
inductive Kx where
 |non|int (i:Int)|row (is:List Int)
deriving DecidableEq
inductive SO where
 |lst (xs:List D)
 |dct (kvs:List (List Kx×D))
noncomputable abbrev S:=List SO
inductive Rs (α:Type) where
 |ok (a:α)|er (c:Nat) (fs:List D)
noncomputable abbrev M(α:Type):=S->Option (Rs α×S)
noncomputable def M.ret{α:Type}(a:α):M α:=λs=>some (.ok a,s)
noncomputable def M.bd{α β:Type}(m:M α)(k:α->M β):M β:=λs=>match m s with
 |some (.ok a,s')=>k a s'
 |some (.er c f,s')=>some (.er c f,s')
 |none=>none
noncomputable def M.qt{α:Type}(m:M α):M α:=λs=>match m s with
 |some (.ok a,s')=>some (.ok a,s')
 |_=>none
noncomputable def M.no{α:Type}:M α:=λ_=>none
noncomputable def M.opt{α:Type}:Option α->M α
 |some a=>M.ret a
 |none=>M.no
inductive Rz where
 |dat (d:D)|nw (xs:List D)
inductive Pr where
 |add|aq|mul|fdiv|mod|pow|neg
 |eq|ne|lt|le|gt|ge|inn|nin
 |Gp|noN
 |len|abs|max2|min2|Gq|Gs|nW|Cy|vq|divmod|all|sum|list|tuple|sorted|pC|sH|str1
 |ix|rev|WX|Gu|mult|wX
 |count|index|repr
 |nir|Qn|Qo|shl|shr|band|isT|noT|isF|Gv|zE|zF
 |Qp|Gw|sto|Qq|sch|part|Qs|sint|cat
 |KR|KY|isb
inductive Kd where
 |int|bool|str|tuple|list|dict|cls (c:Nat)|qp
mutual
inductive E where
 |c (d:D)
 |v (i:Nat)
 |pr (fz:Bool) (p:Pr) (xs:Es)
 |wY (p q:Pr) (a b c:E)
 |ch3 (p q r:Pr) (a b c d:E)
 |and (a b:E)
 |or (a b:E)
 |not (a:E)
 |ite (c a b:E)
 |tup (xs:Es)
 |lst (fz:Bool) (xs:Es)
 |Gx (k:Str) (i:Int)
 |call (f:Nat) (xs:Es)
 |pD (a:E) (k:Kd)
 |sl (fz:Bool) (a:E) (lo hi:Eo)
 |meth (fz:Bool) (p:Pr) (k:Kd) (o:E) (xs:Es)
 |push (o a:E)
 |pop (o:E)
 |comp (fz:Bool) (elt:E) (tg:List Nat) (it:Wk) (fr:List Nat) (many:Nat) (cond:Eo)
 |jY (fz:Bool) (elt:E) (tg:List Nat) (it:Wk) (Gy:List Nat) (wV:Wk) (fr:List Nat) (many:Nat) (cond:Eo)
 |fld (o:E) (cs:List Nat) (i:Nat)
 |of (o:E) (c i:Nat)
 |mk (c f:Nat) (xs:Es)
 |cm (c f:Nat) (o:E) (xs:Es)
 |Qt
 |din (b:Bool) (k d:E)
 |Qu (d k:E)
 |tru (a:E)
 |Gz (fz:Bool) (a:E) (b:E)
 |orv (a b:E)
 |ins (o i a:E)
 |Cz (a:E)
 |qu (a:E)
 |no
inductive Wk where
 |seq (e:E)
 |rg (a b:E)
 |zip (a b:E)
 |enum (a:E)
 |rrg (a:E)
inductive Es where
 |nil
 |cons (a:E) (r:Es)
inductive Eo where
 |no
 |yes (a:E)
end
noncomputable abbrev Ea(a:E):Es:=.cons a .nil
noncomputable abbrev Eb(a b:E):Es:=.cons a (.cons b .nil)
noncomputable abbrev Ec(a b c:E):Es:=.cons a (.cons b (.cons c .nil))
noncomputable abbrev Ei(a b:E):E:=.pr true .ix (.cons a (.cons b .nil))
noncomputable abbrev Ci(i:Int):E:=.c (.int i)
noncomputable def Es.len:Es->Nat
 |.nil=>0
 |.cons _ r=>r.len+1
inductive Tg where
 |nm (i:Nat)
 |tp (is:List Nat)
 |aq (o i:E)
mutual
inductive St where
 |pass
 |ex (e:E)
 |asg (t:Tg) (e:E)
 |par (i j:Nat) (a b:E)
 |aug (i:Nat) (e:E)
 |ret (e:E)
 |rise (c:Nat) (kp:Bool) (xs:Es)
 |iff (c:E) (t e:bU)
 |wh (c:E) (b:bU)
 |fr (t:Tg) (w:Wk) (b:bU)
 |Qv (b:bU) (d:Nat) (i:Nat) (h:bU)
 |dput (d k v:E)
 |no
inductive bU where
 |nil
 |cons (a:St) (r:bU)
end
noncomputable def dj(eq:D->D->Option Bool):List D->List D->Option Bool
 |[],[]=>some true
 |[],_::_=>some false
 |_::_,[]=>some false
 |x::xs,y::ys=>match eq x y,dj eq xs ys with
  |some a,some b=>some (a&&b)
  |_,_=>none
noncomputable def kq:D->Option Nat
 |.non=>some 0
 |.bl _=>some 1
 |.int _=>some 1
 |.str _=>some 2
 |.tup _=>some 3
 |.fl _=>some 4
 |_=>none
noncomputable def cT:Nat->D->D->Option Bool
 |n+1,.tup xs,.tup ys=>dj (cT n) xs ys
 |n+1,.fl xs,.fl ys=>dj (cT n) xs ys
 |_,.non,.non=>some true
 |_,.bl a,.bl b=>some (a==b)
 |_,.int a,.int b=>some (a==b)
 |_,.str a,.str b=>some (a==b)
 |_,.bl a,.int b=>some ((if a then 1 else 0)==b)
 |_,.int a,.bl b=>some (a==(if b then 1 else 0))
 |_,a,b=>match kq a,kq b with
  |some i,some j=>if i=j then none else some false
  |_,_=>none
noncomputable def bG:List D->Option (List Int)
 |[]=>some []
 |.int i::r=>(bG r).map (i::·)
 |_=>none
noncomputable def ltI:List Int->List Int->Bool
 |_,[]=>false
 |[],_::_=>true
 |x::xs,y::ys=>if x=y then ltI xs ys else decide (x<y)
noncomputable def dX:List D->Option (List Bool)
 |[]=>some []
 |.bl b::r=>(dX r).map (b::·)
 |_=>none
noncomputable def cut{α:Type}(xs:List α)(lo hi:Option Int):List α:=(xs.drop (HT.bQ xs.length 0 lo)).take (HT.bQ xs.length xs.length hi-HT.bQ xs.length 0 lo)
noncomputable def jw:D->Option (List D)
 |.tup xs=>some xs
 |.fl xs=>some xs
 |_=>none
noncomputable def cutD(x:D)(lo hi:Option Int):Option Rz:=match x with
 |.tup xs=>some (.dat (.tup (cut xs lo hi)))
 |.fl xs=>some (.nw (cut xs lo hi))
 |_=>none
noncomputable def memD(d:D):List D->Option Bool
 |[]=>some false
 |x::r=>match cT 50 x d,memD d r with
  |some a,some b=>some (a||b)
  |_,_=>none
noncomputable def GC(d:D):List D->Nat
 |[]=>0
 |x::r=>GC d r+(if cT 50 x d=some true then 1 else 0)
noncomputable def zG:Kd->D->Bool
 |.list,.fl _=>true
 |.str,.str _=>true
 |.dict,.fd _ _=>true
 |.tuple,.tup _=>true
 |_,_=>false
noncomputable def insI(x:Int):List Int->List Int
 |[]=>[x]
 |y::r=>if x<y then x::y::r else y::insI x r
noncomputable def sortI:List Int->List Int
 |[]=>[]
 |x::r=>insI x (sortI r)
noncomputable def bZ(f:Int->Int->Option D):List D->Option Rz
 |[.int i,.int j]=>(f i j).map .dat
 |_=>none
noncomputable def pF(f:Int->D):List D->Option Rz
 |[.int i]=>some (.dat (f i))
 |_=>none
noncomputable def vA(f:List D->Option Rz):List D->Option Rz
 |[a]=>(jw a).bind f
 |_=>none
noncomputable def zJ:List D->Option Rz
 |[.int i,.int j]=>some (.dat (.int (i+j)))
 |[.tup xs,.tup ys]=>if xs.length+ys.length<=sizeLine then some (.dat (.tup (xs++ys))) else none
 |[.fl xs,.fl ys]=>if xs.length+ys.length<=sizeLine then some (.nw (xs++ys)) else none
 |[.str x,.str y]=>if x.length+y.length<=sizeLine then some (.dat (.str (x++y))) else none
 |_=>none
noncomputable def GD:List D->Option Rz
 |[.int i,.int j]=>some (.dat (.bl (decide (i<j))))
 |[.tup xs,.tup ys]=>match bG xs,bG ys with
  |some a,some b=>some (.dat (.bl (ltI a b)))
  |_,_=>none
 |_=>none
noncomputable def zK(f:Bool->Bool):List D->Option Rz
 |[a,b]=>(cT 50 a b).map λk=>.dat (.bl (f k))
 |_=>none
noncomputable def GF(f:Bool->Bool):List D->Option Rz
 |[a,b]=>((jw b).bind (memD a)).map λk=>.dat (.bl (f k))
 |_=>none
noncomputable def D.sI:D->Bool
 |.non=>true
 |_=>false
noncomputable def GJ(f:Bool->Bool):List D->Option Rz
 |[a]=>some (.dat (.bl (f a.sI)))
 |_=>none
noncomputable def GK:List D->Option Rz
 |[.int i]=>some (.dat (.int i))
 |[.bl k]=>some (.dat (.int (if k then 1 else 0)))
 |_=>none
noncomputable def zL:List D->Option Rz
 |[.fl xs]=>(dX xs).map λbs=>.dat (.bl (bs.all id))
 |_=>none
noncomputable def iB:List D->Option (List Int)
 |[]=>some []
 |.int i::r=>(iB r).map (i::·)
 |_=>none
noncomputable def best(bt:Int->Int->Bool)(i:Int)(is:List Int):Int:=is.foldl (λm j=>if bt j m then j else m) i
noncomputable def GP(bt:Int->Int->Bool):Option (List Int)->Option Rz
 |some (i::is)=>some (.dat (.int (best bt i is)))
 |_=>none
noncomputable def wZ(bt:Int->Int->Bool):List D->Option Rz
 |[a]=>(jw a).bind λxs=>GP bt (iB xs)
 |_=>none
noncomputable def okR(i j:Int):Bool:=decide (-(2^62)<=i/\i<2^62/\-(2^62)<=j/\j<2^62/\(j-i).toNat<=65536)
noncomputable def GQ(i:Int)(n:Nat):List D:=(List.range n).map λk=>.int (i+(k:Nat))
noncomputable def Qw:List D->Option Rz
 |[.int j]=>if okR 0 j then some (.nw (GQ 0 (j-0).toNat)) else none
 |[.int i,.int j]=>if okR i j then some (.nw (GQ i (j-i).toNat)) else none
 |_=>none
noncomputable def zM:List D->Option Rz
 |[.int j]=>if okR 0 j then some (.dat (.tup (GQ 0 (j-0).toNat))) else none
 |_=>none
noncomputable def nY:List D->Option Rz
 |[a]=>(jw a).map λxs=>.dat (.tup xs)
 |_=>none
noncomputable def Qx:List D->Option Rz
 |[a,.int i]=>((jw a).bind λxs=>L2.o9 xs i).map .dat
 |_=>none
noncomputable def qw:List D->List D->Option Bool
 |[],ys=>some (decide (0<ys.length))
 |_::_,[]=>some false
 |.int x::xs,.int y::ys=>if x=y then qw xs ys else some (decide (x<y))
 |_::_,_::_=>none
noncomputable def w6(xs:List D)(i j:Nat):Option Bool:=match xs[i]?,xs[j]? with
 |some (.int x),some (.int y)=>some (decide (x<y))
 |some (.tup us),some (.tup ws)=>qw us ws
 |_,_=>none
noncomputable def pG(b:List Int):List (List Int)->List Int
 |[]=>b
 |x::r=>pG (if ltI x b=true then x else b) r
noncomputable def fL:List D->Option (List (List Int))
 |[]=>some []
 |.tup xs::r=>match bG xs,fL r with
  |some a,some b=>some (a::b)
  |_,_=>none
 |_=>none
noncomputable def sJ:List D->Option Rz
 |[.fl xs]=>match fL xs with
  |some (x::r)=>some (.dat (.tup ((pG x r).map .int)))
  |_=>none
 |_=>none
noncomputable def jx:D->Bool
 |.int _=>true
 |_=>false
noncomputable def iC:D->Bool
 |.tup (.int _::_)=>true
 |_=>false
noncomputable def pH(lt:Nat->Nat->Option Bool)(xs:List D):Option (List D):=if xs.length<2 then some xs else if xs.length<64 then (match L2.bT lt (PySem.W.kas_sort xs.length) with
  |some p=>if p.size=xs.length then some (p.toList.map λi=>xs.getD i .non) else none
  |none=>none) else none
noncomputable def xq(xs:List D):Option (List D):=if xs.all jx||xs.all iC then pH (w6 xs) xs else none
noncomputable def lq:List D->Option Rz
 |[.fl xs]=>(xq xs).map .nw
 |_=>none
noncomputable def ltK(ks:List Int)(i j:Nat):Option Bool:=match ks[i]?,ks[j]? with
 |some x,some y=>some (decide (x<y))
 |_,_=>none
noncomputable def Qy:List D->Option Rz
 |[.tup xs]=>some (.dat (.tup xs.reverse))
 |_=>none
noncomputable def zN:List D->Option Rz
 |[.fl xs,d]=>(memD d xs).map λ_=>.dat (.int (GC d xs:Nat))
 |_=>none
noncomputable def zO:List D->Option Rz
 |[.fl xs,.bl b]=>((dX xs).bind λbs=>bs.idxOf? b).map λ(i:Nat)=>.dat (.int i)
 |_=>none
noncomputable def Qz:List D->Option Rz
 |[.int i]=>if i.natAbs<2^62 then some (.dat (.str (Str.ofString (toString i)))) else none
 |_=>none
noncomputable def KZ(f:D->Option PyData):List D->Option (List PyData)
 |[]=>some []
 |x::r=>match f x,KZ f r with
  |some a,some b=>some (a::b)
  |_,_=>none
noncomputable def pd:Nat->D->Option PyData
 |n+1,.tup xs=>(KZ (pd n) xs).map .tuple
 |n+1,.fl xs=>(KZ (pd n) xs).map .list
 |_,.non=>some .none
 |_,.bl b=>some (.bool b)
 |_,.int i=>some (.int i)
 |_,.str x=>some (.str x)
 |_,_=>none
noncomputable def pe:Nat->D->Option PyData
 |n+1,.tup xs=>(KZ (pe n) xs).map .tuple
 |n+1,.fd [.str k] [.int i]=>some (.dict [(.str k,.int i)])
 |_,.non=>some .none
 |_,.bl b=>some (.bool b)
 |_,.int i=>some (.int i)
 |_,.str x=>some (.str x)
 |_,_=>none
noncomputable def orE(a b:Option PyData):Option PyData:=match a with
 |some d=>some d
 |none=>b
noncomputable def pdT:D->Option PyData
 |.fd [.str k] [.int i]=>some (.dict [(.str k,.int i)])
 |x=>orE (pd 40 x) (pe 40 x)
noncomputable def shw(d:PyData):Option Rz:=if d.showable=true/\d.shown.length<=sizeLine then some (.dat (.str d.shown)) else none
noncomputable def GR:List D->Option Rz
 |[x]=>(pdT x).bind shw
 |_=>none
noncomputable def xr:List (Int×Int):=[(0,1),(0,2),(0,3),(0,4),(0,5),(0,6),(0,7),(1,2),(1,3),(1,4),(1,5),(1,6),(1,7),(2,3),(2,4),(2,5),(2,6),(2,7),(3,4),(3,5),(3,6),(3,7),(4,5),(4,6),(4,7),(5,6),(5,7),(6,7)]
noncomputable def ss(ts:List (Int×Int)):List (Int×Int):=xr.filter λt=>ts.contains t
noncomputable def QB:D->Option (Int×Int)
 |.tup [.int a,.int b]=>if 0<=a/\a<b/\b<8 then some (a,b) else none
 |_=>none
noncomputable def xu:List D->Option (List (Int×Int))
 |[]=>some []
 |x::r=>match QB x,xu r with
  |some a,some b=>some (a::b)
  |_,_=>none
noncomputable def pSs:List D->Option Rz
 |[.tup xs]=>(xu xs).map λts=>.nw ((ss ts).map λp=>.tup [.int p.1,.int p.2])
 |_=>none
noncomputable def GX(is:List Int):Bool:=decide (is.length<=1000)&&is.all λi=>decide (-1000000<=i/\i<=1000000)
noncomputable def QC(is:List Int):Option Rz:=match GX is with
 |true=>some (.dat (.int is.sum))
 |false=>none
noncomputable def QD:List D->Option Rz
 |[a]=>(jw a).bind λxs=>(iB xs).bind QC
 |_=>none
noncomputable def jm:List Int->List Int
 |[]=>[]
 |x::r=>if r.contains x then jm r else x::jm r
noncomputable def GZ(x:Int):Bool:=decide (-1<=x/\x<=34)||decide (100000000000000000000<=x/\x<=100000000000000000034)
noncomputable def QF(is:List Int):Bool:=decide (is.length<=18)&&is.all GZ
noncomputable def G3(is:List Int):Option Rz:=match QF is with
 |true=>some (.dat (.int (jm is).length))
 |false=>none
noncomputable def G4:List D->Option Rz
 |[.tup xs]=>(iB xs).bind G3
 |_=>none
noncomputable def QG(is:List Int):Option Rz:=match QF is with
 |true=>some (.nw ((sortI (jm is)).map .int))
 |false=>none
noncomputable def QJ:List D->Option Rz
 |[.tup xs]=>(iB xs).bind QG
 |_=>none
noncomputable def vB:List D->Option Rz
 |[.fl xs,.int i]=>((iB xs).bind λis=>is.idxOf? i).map λ(k:Nat)=>.dat (.int k)
 |_=>none
noncomputable def rep{α:Type}(xs:List α)(n:Nat):List α:=(List.replicate n xs).flatten
noncomputable def G5:List D->Option Rz
 |[.fl xs,.int n]=>if 0<=n/\n<=1000/\xs.length<=1000 then some (.nw (rep xs n.toNat)) else none
 |_=>none
noncomputable def zP:List D->Option Rz
 |[.tup xs]=>if xs.all jx=true then (xq xs).map .nw else none
 |_=>none
noncomputable def G6:List D->Option Rz
 |[.tup xs,.int n]=>if 0<=n/\n<=1000/\1<=xs.length/\xs.length<=1000 then some (.dat (.tup (rep xs n.toNat))) else none
 |_=>none
noncomputable def QK(xs ys:List D):List D:=List.zipWith (λp q=>.tup [p,q]) xs ys
noncomputable def zlO(xs ys:List D):Option Rz:=if xs.length<=65536 then some (.nw (QK xs ys)) else none
noncomputable def G7:List D->Option Rz
 |[a,b]=>match jw a,jw b with
  |some xs,some ys=>zlO xs ys
  |_,_=>none
 |_=>none
noncomputable def G8:List D->Option Rz
 |[.fl xs]=>some (.nw (xs.drop 1).reverse)
 |_=>none
noncomputable def D.isB(b:Bool):D->Bool
 |.bl c=>b==c
 |_=>false
noncomputable def zQ(b:Bool)(f:Bool->Bool):List D->Option Rz
 |[a]=>some (.dat (.bl (f (a.isB b))))
 |_=>none
noncomputable def Gv:List D->Option Nat
 |[]=>none
 |.tup []::_=>some 0
 |.tup (_::_)::r=>(Gv r).map (·+1)
 |.non::r=>(Gv r).map (·+1)
 |_=>none
noncomputable def QL:List D->Option Rz
 |[.tup xs,.tup []]=>(Gv xs).map λ(i:Nat)=>.dat (.int i)
 |_=>none
noncomputable def mQ(f:List Int->List Int->Bool):List D->Option Rz
 |[.tup xs,.tup ys]=>match bG xs,bG ys with
  |some a,some b=>some (.dat (.bl (f a b)))
  |_,_=>none
 |_=>none
noncomputable def QM:List D->Option Rz
 |[.bl a,.bl b]=>some (.dat (.bl (a==b)))
 |_=>none
noncomputable def zR(x:Str)(lo hi st:Option Int):Str:=if (st.getD 1==1&&(Builtin.Str.strSliceIndices lo hi (st.getD 1) x.length).length==x.length)=true then x else ⟨((Builtin.Str.strSliceIndices lo hi (st.getD 1) x.length).filterMap λi=>x.cps[i]?).toArray⟩
noncomputable def K1(b:Bool)(x:Str):Option Rz:=match b with
 |true=>some (.dat (.str x))
 |false=>none
noncomputable def uE(x:Str):Bool:=decide (x.length<=600)
noncomputable def G9:List D->Option Rz
 |[.str x]=>match uE x with
  |true=>some (.dat (.int x.length))
  |false=>none
 |_=>none
noncomputable def zT:List D->Option Rz
 |[.str x,.int j]=>K1 (uE x) (zR x (some j) none none)
 |_=>none
noncomputable def QS:List D->Option Rz
 |[.str x,.int j]=>K1 (uE x) (zR x none (some j) none)
 |_=>none
noncomputable def G_:List D->Option Rz
 |[.str x]=>K1 (uE x) (zR x none none (some (-1)))
 |_=>none
noncomputable def QT:List D->Option Rz
 |[.str x,.int j]=>if 0<=j/\j<1000 then (x.cps[j.toNat]?).map λc=>.dat (.str ⟨#[c]⟩) else none
 |_=>none
noncomputable def Hf(y:Str):Bool:=decide (y.length=1)&&decide (Builtin.Str.strKind y=1)
noncomputable def QV(p:Str×Str×Str):D:=.tup [.str p.1,.str p.2.1,.str p.2.2]
noncomputable def Hg:List D->Option Rz
 |[.str x,.str y]=>match uE x&&Hf y with
  |true=>some (.dat (QV (Txt.partition x y)))
  |false=>none
 |_=>none
noncomputable def xG(x y:Str):List Str:=match decide (x.length<1)||(Builtin.Str.occurrences x y 0 x.length (x.length+1)).isEmpty with
 |true=>[x]
 |false=>Builtin.Str.partsBetween x (Builtin.Str.occurrences x y 0 x.length (x.length+1)) y.length
noncomputable def Hj:List D->Option Rz
 |[.str x,.str y]=>match uE x&&Hf y&&decide ((xG x y).length<=1000) with
  |true=>some (.nw ((xG x y).map .str))
  |false=>none
 |_=>none
noncomputable def Hl:List D->Option Rz
 |[.str x]=>match uE x with
  |true=>(intText? x).map λn=>.dat (.int n)
  |false=>none
 |_=>none
noncomputable def QW:List D->Option Rz
 |[.str a,.str b,.str c]=>K1 (uE a&&uE b&&uE c) (Str.empty++a++b++c)
 |_=>none
noncomputable def Ho:D->Option Bool
 |.non=>some false
 |.bl b=>some b
 |.int i=>some (i != 0)
 |.tup xs=>some (!xs.isEmpty)
 |.fl xs=>some (!xs.isEmpty)
 |_=>none
noncomputable def prim:Pr->List D->Option Rz
 |.add=>zJ
 |.aq=>bZ λi j=>some (.int (i-j))
 |.mul=>bZ λi j=>if (-(2^64)<i/\i<2^64)\/(-(2^64)<j/\j<2^64) then some (.int (i*j)) else none
 |.fdiv=>bZ λi j=>if 0<j/\j<1073741824 then some (.int (i/j)) else none
 |.mod=>bZ λi j=>if 0<j then some (.int (i%j)) else none
 |.pow=>bZ λi j=>if 0<=j/\j<=1000000/\i.natAbs<2^64 then some (.int (i^j.toNat)) else none
 |.neg=>pF λi=>.int (-i)
 |.eq=>zK id
 |.ne=>zK not
 |.lt=>GD
 |.le=>bZ λi j=>some (.bl (decide (i<=j)))
 |.gt=>bZ λi j=>some (.bl (decide (j<i)))
 |.ge=>bZ λi j=>some (.bl (decide (j<=i)))
 |.inn=>GF id
 |.nin=>GF not
 |.Gp=>GJ id
 |.noN=>GJ not
 |.len=>vA λxs=>some (.dat (.int xs.length))
 |.abs=>pF λi=>.int (if i<0 then -i else i)
 |.max2=>bZ λi j=>some (.int (if j>i then j else i))
 |.min2=>bZ λi j=>some (.int (if j<i then j else i))
 |.vq=>GK
 |.divmod=>bZ λi j=>if 0<j/\j<1073741824 then some (.tup [.int (i/j),.int (i%j)]) else none
 |.all=>zL
 |.WX=>Qw
 |.Gq=>wZ λa b=>decide (a>b)
 |.Gs=>wZ λa b=>decide (a<b)
 |.nW=>sJ
 |.Cy=>zM
 |.list=>vA λxs=>some (.nw xs)
 |.tuple=>nY
 |.ix=>Qx
 |.rev=>Qy
 |.sorted=>lq
 |.pC=>pSs
 |.Gu=>G5
 |.mult=>G6
 |.wX=>zP
 |.sum=>QD
 |.sH=>G4
 |.count=>zN
 |.index=>zO
 |.repr=>GR
 |.str1=>Qz
 |.nir=>bZ λi j=>some (.bl (!decide (0<=i/\i<j)))
 |.Qn=>G7
 |.Qo=>G8
 |.shl=>bZ λi j=>if 0<=j/\j<=64/\i.natAbs<2^64 then some (.int (i*2^j.toNat)) else none
 |.shr=>bZ λi j=>if 0<=j/\j<=64/\0<=i then some (.int (i/2^j.toNat)) else none
 |.band=>bZ λi j=>if j=1/\0<=i then some (.int (i%2)) else none
 |.isT=>zQ true id
 |.noT=>zQ true not
 |.isF=>zQ false id
 |.Gv=>QL
 |.zE=>QJ
 |.zF=>vB
 |.Qp=>G9
 |.Gw=>zT
 |.sto=>QS
 |.Qq=>G_
 |.sch=>QT
 |.part=>Hg
 |.Qs=>Hj
 |.sint=>Hl
 |.cat=>QW
 |.KR=>mQ λa b=>ltI b a
 |.KY=>mQ λa b=>!ltI b a
 |.isb=>QM
noncomputable def jZ(aq:Nat->Nat->Bool):D->Kd->Option Bool
 |.exc c _,.cls e=>some (aq c e)
 |.exc _ _,.qp=>some true
 |.exc _ _,_=>none
 |.ob _ _,_=>none
 |.any,_=>none
 |_,.cls _=>none
 |_,.qp=>none
 |.bl _,.bool=>some true
 |.bl _,.int=>some true
 |.bl _,_=>some false
 |.int _,.int=>some true
 |.int _,_=>some false
 |.non,_=>some false
 |.str _,.str=>some true
 |.str _,_=>some false
 |.tup _,.tuple=>some true
 |.tup _,_=>some false
 |.fl _,.list=>some true
 |.fl _,_=>some false
 |.fd _ _,.dict=>some true
 |.fd _ _,_=>some false
noncomputable def rd(x:Xv):M D:=λs=>match x with
 |.d v=>some (.ok v,s)
 |.l n=>match s[n]? with
  |some (.lst xs)=>some (.ok (.fl xs),s)
  |_=>none
noncomputable def gw:List Xv->M (List D)
 |[]=>M.ret []
 |x::r=>M.bd (rd x) λd=>M.bd (gw r) λds=>M.ret (d::ds)
noncomputable def dat(x:Xv):M D:=match x with
 |.d v=>M.ret v
 |.l _=>M.no
noncomputable def bW:List Xv->M (List D)
 |[]=>M.ret []
 |x::r=>M.bd (dat x) λd=>M.bd (bW r) λds=>M.ret (d::ds)
noncomputable def bool(x:Xv):M Bool:=match x with
 |.d (.bl b)=>M.ret b
 |_=>M.no
noncomputable def int(x:Xv):M Int:=match x with
 |.d (.int b)=>M.ret b
 |_=>M.no
noncomputable def newL(fz:Bool)(xs:List D):M Xv:=match fz with
 |true=>M.ret (.d (.fl xs))
 |false=>λs=>some (.ok (.l s.length),s++[.lst xs])
noncomputable def b_(fz:Bool)(o:Option Rz):M Xv:=match o with
 |some (.dat d)=>M.ret (.d d)
 |some (.nw xs)=>newL fz xs
 |none=>M.no
noncomputable def cM(x:Xv):M (Nat×List D):=λs=>match x with
 |.l n=>match s[n]? with
  |some (.lst xs)=>some (.ok (n,xs),s)
  |_=>none
 |_=>none
noncomputable def putL(n:Nat)(xs:List D):M Unit:=λs=>some (.ok (),s.set n (.lst xs))
noncomputable def sO:D->Option Kx
 |.non=>some .non
 |.int i=>some (.int i)
 |.tup xs=>(bG xs).map .row
 |_=>none
noncomputable def zU:List D->Option (List Kx)
 |[]=>some []
 |x::r=>match sO x,zU r with
  |some a,some b=>some (a::b)
  |_,_=>none
noncomputable def kOf:D->Option (List Kx)
 |.tup xs=>zU xs
 |_=>none
noncomputable abbrev jR:=List (List Kx×D)
noncomputable def jg(k:List Kx):jR->Option D
 |[]=>none
 |p::r=>if p.1=k then some p.2 else jg k r
noncomputable def lu(k:List Kx)(d:D)(r:jR):jR:=if (jg k r).isSome=true then r.map λp=>if p.1=k then (p.1,d) else p else r++[(k,d)]
noncomputable def cC:List D->jR->Option jR
 |[],r=>some r
 |.tup [k,v]::t,r=>match kOf k with
  |some kx=>cC t (lu kx v r)
  |none=>none
 |_::_,_=>none
noncomputable def zV:D->Option jR
 |.fl ds=>if ds.length<=sizeLine then cC ds [] else none
 |_=>none
noncomputable def iM(x:Xv):M (Nat×jR):=λs=>match x with
 |.l n=>match s[n]? with
  |some (.dct kvs)=>some (.ok (n,kvs),s)
  |_=>none
 |_=>none
noncomputable def putD(n:Nat)(kvs:jR):M Unit:=λs=>some (.ok (),s.set n (.dct kvs))
noncomputable def key(x:Xv):M (List Kx):=match x with
 |.d v=>M.opt (kOf v)
 |.l _=>M.no
noncomputable def enumFrom:Nat->List D->List D
 |_,[]=>[]
 |i,x::r=>.tup [.int i,x]::enumFrom (i+1) r
inductive Src where
 |fix (xs:List D)|live (n:Nat)|xH (n:Nat)
noncomputable def Src.at(c:Src)(i:Nat)(s:S):Option (Option D):=match c with
 |.fix xs=>some xs[i]?
 |.live n=>match s[n]? with
  |some (.lst xs)=>some xs[i]?
  |_=>none
 |.xH n=>match s[n]? with
  |some (.lst xs)=>some (xs[i]?.map λx=>.tup [.int i,x])
  |_=>none
noncomputable def sS(x:Xv):M (Src×Nat):=λs=>match x with
 |.d (.tup xs)=>some (.ok (.fix (enumFrom 0 xs),(enumFrom 0 xs).length),s)
 |.d (.fl xs)=>some (.ok (.fix (enumFrom 0 xs),(enumFrom 0 xs).length),s)
 |.l n=>match s[n]? with
  |some (.lst xs)=>some (.ok (.xH n,xs.length),s)
  |_=>none
 |_=>none
noncomputable def src(x:Xv):M (Src×Nat):=λs=>match x with
 |.d (.tup xs)=>some (.ok (.fix xs,xs.length),s)
 |.d (.fl xs)=>some (.ok (.fix xs,xs.length),s)
 |.l n=>match s[n]? with
  |some (.lst xs)=>some (.ok (.live n,xs.length),s)
  |_=>none
 |_=>none
noncomputable def nZ(x:Xv):M (List D):=match x with
 |.d (.tup xs)=>M.ret xs
 |.d (.fl xs)=>M.ret xs
 |_=>M.no
noncomputable def jh(a b:Int):List D:=(List.range (b-a).toNat).map λ(i:Nat)=>.int (a+i)
noncomputable def eY(a:Int):Bool:=decide (-(2^62)<a)&&decide (a<2^62)
noncomputable def walk(c:Src)(f:D->List D->M (List D)):Nat->Nat->List D->M (List D)
 |0,_,_=>M.no
 |k+1,i,acc=>λs=>match c.at i s with
  |none=>none
  |some none=>some (.ok acc,s)
  |some (some x)=>M.bd (f x acc) (λacc'=>walk c f k (i+1) acc') s
noncomputable def xJ(f:D->M Xv):List D->Option (List Int)
 |[]=>some []
 |x::r=>match f x [] with
  |some (.ok (.d (.int k)),[])=>(xJ f r).map (k::·)
  |_=>none
noncomputable abbrev Vs:=List (Option Xv)
noncomputable abbrev Fn:=Nat->List Xv->M Xv
noncomputable def locs:List Xv->List Nat
 |[]=>[]
 |.d _::r=>locs r
 |.l n::r=>n::locs r
noncomputable def cU:Nat->List Xv->List Xv
 |_,[]=>[]
 |k,.d v::r=>.d v::cU k r
 |k,.l _::r=>.l k::cU (k+1) r
noncomputable def iD(s:S):List Nat->Option S
 |[]=>some []
 |n::r=>match s[n]?,iD s r with
  |some o,some q=>some (o::q)
  |_,_=>none
noncomputable def cN(s:S):List Nat->S->S
 |n::r,o::q=>cN (s.set n o) r q
 |_,_=>s
noncomputable def cg(F:List Xv->M Xv)(xs:List Xv):M Xv:=λs=>
 if (locs xs).Nodup then match iD s (locs xs) with
  |none=>none
  |some s0=>match F (cU 0 xs) s0 with
   |none=>none
   |some (.er c fs,s1)=>some (.er c fs,cN s (locs xs) s1)
   |some (.ok (.d v),s1)=>some (.ok (.d v),cN s (locs xs) s1)
   |some (.ok (.l n),s1)=>match (locs xs)[n]? with
    |some m=>some (.ok (.l m),cN s (locs xs) s1)
    |none=>match s1[n]? with
     |some o=>some (.ok (.l s.length),cN s (locs xs) s1++[o])
     |none=>none
 else none
noncomputable def QX(F:List Xv->M Xv)(c:Nat)(vs:List Xv):M Xv:=λs=>
 if locs vs=[] then match F (.d .any::vs) [] with
  |some (.ok (.d (.tup ds)),_)=>some (.ok (.d (.ob c ds)),s)
  |_=>none
 else none
noncomputable def qx(c:Nat)(x:Xv):M (List D):=match x with
 |.d (.ob e fs)=>if e=c then M.ret fs else M.no
 |_=>M.no
noncomputable def eZ{α:Type}:List Nat->List α->List (Option α)->Option (List (Option α))
 |[],[],J=>some J
 |i::is,d::ds,J=>eZ is ds (J.set i (some d))
 |_,_,_=>none
noncomputable def jy:D->Option (List D)
 |.tup xs=>some xs
 |_=>none
noncomputable def cV(tg:List Nat)(x:D)(J:Vs):Option Vs:=match tg with
 |[i]=>some (J.set i (some (.d x)))
 |is=>(jy x).bind λds=>eZ is (ds.map .d) J
noncomputable def blk(many:Nat)(fr:List Nat)(J:Vs):Vs:=List.replicate many none++fr.map λj=>J[j]?.join
section
variable (aq:Nat->Nat->Bool)(aj:Bool)(F:Fn)
mutual
noncomputable def ev:E->Vs->M Xv
 |.c d,_=>M.ret (.d d)
 |.v i,J=>M.opt (J[i]?.join)
 |.pr fz p xs,J=>M.bd (evs xs J) λvs=>M.bd (gw vs) λds=>b_ fz (prim p ds)
 |.wY p q a b c,J=>M.bd (ev a J) λx=>M.bd (ev b J) λy=>M.bd (gw [x,y]) λds=>M.bd (b_ true (prim p ds)) λt=>M.bd (bool t) λk=>
   if k=true then M.bd (ev c J) λz=>M.bd (gw [y,z]) λds=>b_ true (prim q ds) else M.ret (.d (.bl false))
 |.ch3 p q r a b c d,J=>M.bd (ev a J) λx=>M.bd (ev b J) λy=>M.bd (gw [x,y]) λds=>M.bd (b_ true (prim p ds)) λt=>M.bd (bool t) λk=>
   if k=true then M.bd (ev c J) λz=>M.bd (gw [y,z]) λds=>M.bd (b_ true (prim q ds)) λt=>M.bd (bool t) λk2=>
    if k2=true then M.bd (ev d J) λw=>M.bd (gw [z,w]) λds=>b_ true (prim r ds) else M.ret (.d (.bl false))
   else M.ret (.d (.bl false))
 |.and a b,J=>M.bd (ev a J) λx=>M.bd (bool x) λk=>if k=true then ev b J else M.ret (.d (.bl false))
 |.or a b,J=>M.bd (ev a J) λx=>M.bd (bool x) λk=>if k=true then M.ret (.d (.bl true)) else ev b J
 |.not a,J=>M.bd (ev a J) λx=>M.bd (bool x) λk=>M.ret (.d (.bl (!k)))
 |.ite c a b,J=>M.bd (ev c J) λx=>M.bd (bool x) λk=>if k=true then ev a J else ev b J
 |.tup xs,J=>M.bd (evs xs J) λvs=>M.bd (bW vs) λds=>M.ret (.d (.tup ds))
 |.lst fz xs,J=>M.bd (evs xs J) λvs=>M.bd (bW vs) λds=>newL fz ds
 |.Gx k i,_=>M.ret (.d (.fd [.str k] [.int i]))
 |.call f xs,J=>M.bd (evs xs J) λvs=>cg (F f) vs
 |.pD a k,J=>M.bd (ev a J) λx=>M.bd (rd x) λd=>M.bd (M.opt (jZ aq d k)) λb=>M.ret (.d (.bl b))
 |.sl fz a lo hi,J=>M.bd (ev a J) λx=>M.bd (vC lo J) λl=>M.bd (vC hi J) λh=>M.bd (rd x) λd=>b_ fz (cutD d l h)
 |.meth fz p k o xs,J=>M.bd (ev o J) λx=>M.bd (rd x) λd=>if zG k d=true then M.bd (evs xs J) λys=>M.bd (gw (x::ys)) λds=>b_ fz (prim p ds) else M.no
 |.push o a,J=>M.bd (ev o J) λx=>M.bd (cM x) λ_=>M.bd (ev a J) λy=>M.bd (dat y) λd=>M.bd (cM x) λnx=>if nx.2.length<sizeLine then M.bd (putL nx.1 (nx.2++[d])) λ_=>M.ret (.d .non) else M.no
 |.pop o,J=>M.bd (ev o J) λx=>M.bd (cM x) λnx=>match nx.2.getLast? with
   |some d=>M.bd (putL nx.1 nx.2.dropLast) λ_=>M.ret (.d d)
   |none=>M.no
 |.comp fz elt tg it fr many cond,J=>if aj=true then M.bd (gM it J) λcn=>
   M.bd (walk cn.1 (λd acc=>M.bd (M.opt (cV tg d (blk many fr J))) λJ'=>M.bd (M.qt (lR cond J')) λok=>
    if ok=true then M.bd (M.qt (ev elt J')) λy=>M.bd (dat y) λe=>if acc.length<sizeLine then M.ret (acc++[e]) else M.no else M.ret acc) (cn.2+1) 0 []) λxs=>newL fz xs
  else M.no
 |.jY fz elt tg it Gy wV fr many cond,J=>if aj=true then M.bd (gM it J) λcn=>
   M.bd (walk cn.1 (λd acc=>M.bd (M.opt (cV tg d (blk many fr J))) λJ'=>M.bd (M.qt (gM wV J')) λn6=>
    walk n6.1 (λd2 acc=>M.bd (M.opt (cV Gy d2 J')) λWY=>M.bd (M.qt (lR cond WY)) λok=>
     if ok=true then M.bd (M.qt (ev elt WY)) λy=>M.bd (dat y) λe=>if acc.length<sizeLine then M.ret (acc++[e]) else M.no else M.ret acc) (n6.2+1) 0 acc) (cn.2+1) 0 []) λxs=>newL fz xs
  else M.no
 |.fld o cs i,J=>M.bd (ev o J) λx=>match x with
   |.d (.exc c fs)=>if cs.contains c=true then M.opt (fs[i]?.map .d) else M.no
   |_=>M.no
 |.of o c i,J=>M.bd (ev o J) λx=>M.bd (qx c x) λfs=>M.opt (fs[i]?.map .d)
 |.mk c f xs,J=>M.bd (evs xs J) λvs=>QX (F f) c vs
 |.cm c f o xs,J=>M.bd (ev o J) λx=>M.bd (qx c x) λ_=>M.bd (evs xs J) λvs=>M.qt (cg (F f) (x::vs))
 |.Qt,_=>λs=>some (.ok (.l s.length),s++[.dct []])
 |.din b k d,J=>M.bd (ev k J) λx=>M.bd (ev d J) λy=>M.bd (key x) λkx=>M.bd (iM y) λnk=>M.ret (.d (.bl ((jg kx nk.2).isSome==b)))
 |.Qu d k,J=>M.bd (ev d J) λy=>M.bd (ev k J) λx=>M.bd (key x) λkx=>M.bd (iM y) λnk=>M.opt ((jg kx nk.2).map .d)
 |.tru a,J=>M.bd (ev a J) λx=>M.bd (rd x) λd=>M.bd (M.opt (Ho d)) λk=>M.ret (.d (.bl k))
 |.Gz fz a b,J=>if aj=true then M.bd (ev a J) λx=>match x with
   |.d (.fl xs)=>M.bd (M.opt (xJ (λd=>ev b [some (.d d)]) xs)) λks=>M.bd (M.opt (pH (ltK ks) xs)) λys=>newL fz ys
   |_=>M.no else M.no
 |.orv a b,J=>M.bd (ev a J) λx=>M.bd (rd x) λd=>M.bd (M.opt (Ho d)) λk=>if k=true then M.ret x else ev b J
 |.ins o i a,J=>M.bd (ev o J) λx=>M.bd (cM x) λ_=>M.bd (ev i J) λz=>M.bd (int z) λj=>M.bd (ev a J) λy=>M.bd (dat y) λd=>M.bd (cM x) λnx=>if 0<=j/\j<=nx.2.length/\nx.2.length<sizeLine then M.bd (putL nx.1 (nx.2.take j.toNat++d::nx.2.drop j.toNat)) λ_=>M.ret (.d .non) else M.no
 |.Cz a,J=>M.bd (ev a J) λx=>M.bd (dat x) λd=>M.bd (M.opt (zV d)) λkvs=>λs=>some (.ok (.l s.length),s++[.dct kvs])
 |.qu a,J=>M.bd (ev a J) λx=>M.bd (iM x) λnk=>M.ret (.d (.int nk.2.length))
 |.no,_=>M.no
noncomputable def gM:Wk->Vs->M (Src×Nat)
 |.seq e,J=>M.bd (ev e J) src
 |.rg a b,J=>M.bd (ev a J) λx=>M.bd (ev b J) λy=>M.bd (int x) λi=>M.bd (int y) λj=>if eY i&&eY j then M.ret (.fix (jh i j),(jh i j).length) else M.no
 |.zip a b,J=>M.bd (ev a J) λx=>M.bd (ev b J) λy=>M.bd (nZ x) λxs=>M.bd (nZ y) λys=>M.ret (.fix (List.zipWith (λp q=>.tup [p,q]) xs ys),(List.zipWith (λ(p q:D)=>D.tup [p,q]) xs ys).length)
 |.enum a,J=>M.bd (ev a J) sS
 |.rrg a,J=>M.bd (ev a J) λx=>M.bd (int x) λi=>if eY i then M.ret (.fix (jh 0 i).reverse,(jh 0 i).length) else M.no
noncomputable def vC:Eo->Vs->M (Option Int)
 |.no,_=>M.ret none
 |.yes a,J=>M.bd (ev a J) λx=>M.bd (int x) λi=>M.ret (some i)
noncomputable def lR:Eo->Vs->M Bool
 |.no,_=>M.ret true
 |.yes a,J=>M.bd (ev a J) bool
noncomputable def evs:Es->Vs->M (List Xv)
 |.nil,_=>M.ret []
 |.cons a r,J=>M.bd (ev a J) λx=>M.bd (evs r J) λxs=>M.ret (x::xs)
end
end
inductive Out where
 |nx (J:Vs)|rt (x:Xv)|bk (J:Vs)|ct (J:Vs)|er (c:Nat) (fs:List D) (J:Vs)
noncomputable abbrev MS:=S->Option (Out×S)
noncomputable def ofM{α:Type}(m:M α)(J:Vs)(k:α->MS):MS:=λs=>match m s with
 |some (.ok a,s')=>k a s'
 |some (.er c fs,s')=>some (.er c fs J,s')
 |none=>none
noncomputable def cB(m:MS)(k:Vs->MS):MS:=λs=>match m s with
 |some (.nx J,s')=>k J s'
 |r=>r
section
variable (aq:Nat->Nat->Bool)
noncomputable def store(aj:Bool)(F:Fn)(t:Tg)(x:Xv)(J:Vs):MS:=match t with
 |.nm i=>λs=>some (.nx (J.set i (some x)),s)
 |.tp is=>if aj=true then ofM (M.bd (dat x) λd=>M.opt ((jy d).bind λds=>eZ is (ds.map .d) J)) J (λJ' s=>some (.nx J',s)) else λ_=>none
 |.aq o i=>ofM (M.bd (dat x) λd=>M.bd (ev aq aj F o J) λy=>M.bd (ev aq aj F i J) λz=>M.bd (int z) λj=>M.bd (cM y) λnx=>
   match L2.rN nx.2.length j with
   |some q=>putL nx.1 (nx.2.set q d)
   |none=>M.no) J (λ_ s=>some (.nx J,s))
noncomputable def n8(c:Vs->M Bool)(b:Vs->MS):Nat->Vs->MS
 |0,_=>λ_=>none
 |k+1,J=>ofM (c J) J λok=>if ok=true then λs=>match b J s with
   |some (.nx J',s')=>n8 c b k J' s'
   |some (.ct J',s')=>n8 c b k J' s'
   |some (.bk J',s')=>some (.nx J',s')
   |r=>r
  else λs=>some (.nx J,s)
noncomputable def dw(c:Src)(b:D->Vs->MS):Nat->Nat->Vs->MS
 |0,_,_=>λ_=>none
 |k+1,i,J=>λs=>match c.at i s with
  |none=>none
  |some none=>some (.nx J,s)
  |some (some d)=>match b d J s with
   |some (.nx J',s')=>dw c b k (i+1) J' s'
   |some (.ct J',s')=>dw c b k (i+1) J' s'
   |some (.bk J',s')=>some (.nx J',s')
   |r=>r
noncomputable def goes(i:Nat):Out->Out
 |.nx J=>.nx (J.set i none)
 |.bk J=>.bk (J.set i none)
 |.ct J=>.ct (J.set i none)
 |r=>r
noncomputable def Hq:Nat:=1000000000000
mutual
noncomputable def ex(aj:Bool)(F:Bool->Fn):St->Vs->MS
 |.pass,J=>λs=>some (.nx J,s)
 |.ex e,J=>ofM (ev aq aj (F aj) e J) J λ_ s=>some (.nx J,s)
 |.asg t e,J=>ofM (ev aq aj (F aj) e J) J λx=>store aq aj (F aj) t x J
 |.par i j a b,J=>if aj=true then ofM (M.bd (ev aq aj (F aj) a J) λx=>M.bd (ev aq aj (F aj) b J) λy=>M.ret (x,y)) J λxy s=>some (.nx ((J.set i (some xy.1)).set j (some xy.2)),s) else λ_=>none
 |.aug i e,J=>ofM (M.bd (M.opt (J[i]?.join)) λx=>M.bd (ev aq aj (F aj) e J) λy=>M.bd (int x) λp=>M.bd (int y) λq=>M.ret (p+q)) J λr s=>some (.nx (J.set i (some (.d (.int r)))),s)
 |.ret e,J=>ofM (ev aq aj (F aj) e J) J λx s=>some (.rt x,s)
 |.rise c kp xs,J=>if aj=true then ofM (M.bd (evs aq aj (F aj) xs J) bW) J λds s=>some (.er c (if kp=true then ds else []) J,s) else λ_=>none
 |.iff c t e,J=>ofM (M.bd (ev aq aj (F aj) c J) bool) J λb=>if b=true then exs aj F t J else exs aj F e J
 |.wh c b,J=>n8 (λJ=>M.bd (ev aq aj (F aj) c J) bool) (λJ=>exs aj F b J) Hq J
 |.fr t w b,J=>if aj=true then ofM (gM aq aj (F aj) w J) J λcn=>dw cn.1 (λd J=>cB (store aq aj (F aj) t (.d d) J) λJ'=>exs aj F b J') (cn.2+1) 0 J else λ_=>none
 |.Qv b d i h,J=>if aj=true then λs=>match exs aj F b J s with
   |some (.er c fs J',s')=>if aq c d=true then (match exs false F h (J'.set i (some (.d (.exc c fs)))) s' with
    |some (r,s'')=>(match r with
     |.er _ _ _=>none
     |r=>some (goes i r,s''))
    |none=>none) else none
   |r=>r
  else λ_=>none
 |.dput d k v,J=>ofM (M.bd (ev aq aj (F aj) v J) λz=>M.bd (dat z) λw=>M.bd (ev aq aj (F aj) d J) λy=>M.bd (ev aq aj (F aj) k J) λx=>M.bd (key x) λkx=>M.bd (iM y) λnk=>if nk.2.length<sizeLine then putD nk.1 (lu kx w nk.2) else M.no) J (λ_ s=>some (.nx J,s))
 |.no,_=>λ_=>none
noncomputable def exs(aj:Bool)(F:Bool->Fn):bU->Vs->MS
 |.nil,J=>λs=>some (.nx J,s)
 |.cons a r,J=>cB (ex aj F a J) λJ'=>exs aj F r J'
end
structure Df where
 many:Nat
 gO:Nat
 body:bU
noncomputable def call(T:Nat->Option Df):Nat->Bool->Fn
 |0,_,_,_=>M.no
 |k+1,aj,f,xs=>match T f with
  |none=>M.no
  |some d=>if xs.length=d.gO then λs=>match exs aq aj (λc=>call T k c) d.body (xs.map some++List.replicate (d.many-d.gO) none) s with
    |some (.nx _,s')=>some (.ok (.d .non),s')
    |some (.rt v,s')=>some (.ok v,s')
    |some (.er c fs _,s')=>some (.er c fs,s')
    |_=>none
   else M.no
end
end Mi
namespace Mi
open PySem L2
structure Ph where
 z:Addr->Prop
 l:List Addr
structure Cl where
 a:Nat->Addr
 f:Nat->List Str
 b:Nat->Addr
 g:Nat->List Str
section
variable (K:W.Frag)(cA:Cl)
def KT(a:Addr)(vs:List V):Prop:=fV K (λ_=>none) a vs
def KL(a:Addr)(vs:List V):Prop:=eE K (λ_=>none) a vs
def TupAt(U:Ph)(H:Hp)(a:Addr)(vs:List V):Prop:=(Rd H a (.tup vs)/\¬U.z a)\/KT K a vs
def LstAt(U:Ph)(H:Hp)(a:Addr)(vs:List V):Prop:=(Rd H a (.lst vs)/\¬U.z a)\/KL K a vs
def ExcAt(U:Ph)(H:Hp)(a:Addr)(c:Nat)(vs:List V):Prop:=¬U.z a/\((cA.f c=[]/\vs=[]/\H a=some (vo a (cA.a c) none))\/∃dx,H a=some (vo a (cA.a c) (some dx))/\¬U.z dx/\H dx=some (.xd ((cA.f c).zip vs))/\(cA.f c).length=vs.length)
def n_(U:Ph)(H:Hp)(a:Addr)(c:Nat)(vs:List V):Prop:=¬U.z a/\∃dx,H a=some (.ins (cA.b c) dx ((cA.g c).zip vs))/\(cA.g c).length=vs.length
mutual
inductive Rep (U:Ph) (H:Hp):D->V->Prop where
 |non:Rep U H .non .non
 |bl (b:Bool):Rep U H (.bl b) (.bl b)
 |int (i:Int):Rep U H (.int i) (.int i)
 |str (x:Str):Rep U H (.str x) (.str x)
 |tup {a:Addr} {xs:List D} {vs:List V} (h:TupAt K U H a vs) (r:aC U H xs vs):Rep U H (.tup xs) (.ref a)
 |fl {a:Addr} {xs:List D} {vs:List V} (h:LstAt K U H a vs) (r:aC U H xs vs):Rep U H (.fl xs) (.ref a)
 |fd {a:Addr} {k:Str} {i:Int} (h:H a=some (.dK [(.inr k,.int i)])) (n:¬U.z a):Rep U H (.fd [.str k] [.int i]) (.ref a)
 |exc {a:Addr} {c:Nat} {xs:List D} {vs:List V} (h:ExcAt cA U H a c vs) (r:aC U H xs vs):Rep U H (.exc c xs) (.ref a)
 |ob {a:Addr} {c:Nat} {xs:List D} {vs:List V} (h:n_ cA U H a c vs) (r:aC U H xs vs):Rep U H (.ob c xs) (.ref a)
 |any (a:Addr):Rep U H .any (.ref a)
inductive aC (U:Ph) (H:Hp):List D->List V->Prop where
 |nil:aC U H [] []
 |cons {d:D} {v:V} {ds:List D} {vs:List V} (h:Rep U H d v) (r:aC U H ds vs):aC U H (d::ds) (v::vs)
end
inductive aW (U:Ph) (H:Hp):Xv->V->Prop where
 |d {x:D} {v:V} (h:Rep K cA U H x v):aW U H (.d x) v
 |l {n:Nat} {a:Addr} (h:U.l[n]?=some a):aW U H (.l n) (.ref a)
inductive aQ (U:Ph) (H:Hp):List Xv->List V->Prop where
 |nil:aQ U H [] []
 |cons {d:Xv} {v:V} {ds:List Xv} {vs:List V} (h:aW K cA U H d v) (r:aQ U H ds vs):aQ U H (d::ds) (v::vs)
noncomputable def QZ:Kx->Int
 |.non=>reduceHash 0xFCA86420
 |.int i=>hashInt i
 |.row is=>reduceHash (Builtin.Tuple.tupleHashOf (is.map hashInt))
noncomputable def pI(k:List Kx):Int:=reduceHash (Builtin.Tuple.tupleHashOf (k.map QZ))
noncomputable def qy:Kx->D
 |.non=>.non
 |.int i=>.int i
 |.row is=>.tup (is.map .int)
noncomputable def jz(k:List Kx):D:=.tup (k.map qy)
noncomputable abbrev fZ:=List (List Kx×Addr×Value)
noncomputable def zW(a:Addr)(xs:fZ):HO:=.ext λh=>(a==sysModules)=false/\xs.length<=sizeLine/\∃o es ep,h.get? a=some o/\o.ExactDict/\o.data=.dict es ep/\es.toList=xs.map (λx=>⟨pI x.1,.ref x.2.1,x.2.2⟩)/\(xs.map (·.1)).Nodup
inductive iG (U:Ph) (H:Hp):jR->fZ->Prop where
 |nil:iG U H [] []
 |cons {k:List Kx} {d:D} {ka:Addr} {u:Value} {v:V} {r:jR} {xs:fZ} (hk:Rep K cA U H (jz k) (.ref ka)) (hu:RelV v u) (hv:Rep K cA U H d v) (q:iG U H r xs):iG U H ((k,d)::r) ((k,ka,u)::xs)
noncomputable def jE(U:Ph)(H:Hp)(a:Addr):SO->Prop
 |.lst xs=>∃vs,H a=some (.lst vs)/\aC K cA U H xs vs
 |.dct kvs=>∃xs,H a=some (zW a xs)/\iG K cA U H kvs xs
structure aD(U:Ph)(H:Hp)(s:S):Prop where
 len:U.l.length=s.length
 obj:∀(n:Nat) o a,s[n]?=some o->U.l[n]?=some a->jE K cA U H a o
 uniq:U.l.Nodup
 lz:∀a∈U.l,U.z a
 zt:∀a,U.z a->∃o,H a=some o
structure Ext(U:Ph)(H:Hp)(U':Ph)(H':Hp):Prop where
 more:∃r,U'.l=U.l++r/\∀b∈r,H b=none
 qz:∀a,U.z a->U'.z a
 jT:∀a,U'.z a->U.z a\/H a=none
 frame:∀a o,H a=some o->a∉U.l->H' a=some o
 stay:∀a o,H a=some o->∃o',H' a=some o'
def aP(U:Ph)(H:Hp)(Z:L2.St)(J:Vs):Prop:=Z.length=J.length/\∀(i:Nat) (x:Xv),J[i]?=some (some x)->∃v,Z[i]?=some (some v)/\aW K cA U H x v
end
section
variable {K:W.Frag}{cA:Cl}{U U' jA:Ph}{H H' lA:Hp}{s:S}{Z:L2.St}{J:Vs}
theorem Ext.refl:Ext U H U H:=⟨⟨[],by simp,by simp⟩,λ_ h=>h,λ_ h=>.inl h,λ_ _ h _=>h,λ_ o h=>⟨o,h⟩⟩
theorem Ext.j8(x:Ext U H U' H'){a:Addr}(h:H' a=none):H a=none:=by
 cases e:H a with
 |none=>rfl
 |some o=>obtain⟨o',q⟩:=x.stay a o e;rw[h] at q;cases q
theorem Ext.trans(x:Ext U H U' H')(y:Ext U' H' jA lA):Ext U H jA lA:=by
 obtain⟨r,e,hr⟩:=x.more;obtain⟨r',e',vD⟩:=y.more;refine⟨⟨r++r',by rw[e',e,DG],λb hb=>?_⟩,λa h=>y.qz a (x.qz a h),λa h=>?_,λa o h n=>y.frame a o (x.frame a o h n) ?_,λa o h=>?_⟩
 ·rcases m5.mp hb with z|z
  ·exact hr b z
  ·exact x.j8 (vD b z)
 ·rcases y.jT a h with z|z
  ·exact x.jT a z
  ·exact .inr (x.j8 z)
 ·rw[e];intro z;rcases m5.mp z with z|z
  ·exact n z
  ·rw[hr a z] at h;cases h
 ·obtain⟨o',q⟩:=x.stay a o h;exact y.stay a o' q
theorem Ext.get(x:Ext U H U' H'){n:Nat}{a:Addr}(h:U.l[n]?=some a):U'.l[n]?=some a:=by
 obtain⟨r,e,_⟩:=x.more;rw[e,mZ (gD.mp h).1];exact h
theorem Ext.out(x:Ext U H U' H')(hz:∀a∈U.l,U.z a){a:Addr}{o:HO}(h:H a=some o)(n:¬U.z a):H' a=some o/\¬U'.z a:=
 ⟨x.frame a o h λz=>n (hz a z),λz=>by
  rcases x.jT a z with y|y
  ·exact n y
  ·rw[h] at y;cases y⟩
theorem TupAt.mono(x:Ext U H U' H')(hz:∀a∈U.l,U.z a){a:Addr}{vs:List V}(h:TupAt K U H a vs):TupAt K U' H' a vs:=by
 rcases h with ⟨h|⟨o,h⟩,n⟩|h
 ·obtain⟨p,q⟩:=x.out hz h n;exact .inl ⟨.inl p,q⟩
 ·obtain⟨p,q⟩:=x.out hz h n;exact .inl ⟨.inr ⟨o,p⟩,q⟩
 ·exact .inr h
theorem LstAt.mono(x:Ext U H U' H')(hz:∀a∈U.l,U.z a){a:Addr}{vs:List V}(h:LstAt K U H a vs):LstAt K U' H' a vs:=by
 rcases h with ⟨h|⟨o,h⟩,n⟩|h
 ·obtain⟨p,q⟩:=x.out hz h n;exact .inl ⟨.inl p,q⟩
 ·obtain⟨p,q⟩:=x.out hz h n;exact .inl ⟨.inr ⟨o,p⟩,q⟩
 ·exact .inr h
theorem ExcAt.mono(x:Ext U H U' H')(hz:∀a∈U.l,U.z a){a:Addr}{c:Nat}{vs:List V}(h:ExcAt cA U H a c vs):ExcAt cA U' H' a c vs:=by
 obtain⟨n,⟨e1,e2,h⟩|⟨dx,h,n2,h2,h3⟩⟩:=h
 ·obtain⟨p,q⟩:=x.out hz h n;exact⟨q,.inl ⟨e1,e2,p⟩⟩
 ·obtain⟨p,q⟩:=x.out hz h n;obtain⟨p2,q2⟩:=x.out hz h2 n2;exact⟨q,.inr ⟨dx,p,q2,p2,h3⟩⟩
theorem n_.mono(x:Ext U H U' H')(hz:∀a∈U.l,U.z a){a:Addr}{c:Nat}{vs:List V}(h:n_ cA U H a c vs):n_ cA U' H' a c vs:=by
 obtain⟨n,dx,h,h3⟩:=h;obtain⟨p,q⟩:=x.out hz h n;exact⟨q,dx,p,h3⟩
theorem Rep.mono(x:Ext U H U' H')(hz:∀a∈U.l,U.z a){d:D}{v:V}(h:Rep K cA U H d v):Rep K cA U' H' d v:=
 Rep.rec (motive_1:=λd v _=>Rep K cA U' H' d v) (motive_2:=λd v _=>aC K cA U' H' d v) .non .bl .int .str (λh _ i=>.tup (h.mono x hz) i) (λh _ i=>.fl (h.mono x hz) i) (λh n=>.fd (x.out hz h n).1 (x.out hz h n).2) (λh _ i=>.exc (h.mono x hz) i) (λh _ i=>.ob (h.mono x hz) i) .any .nil (λ_ _ i j=>.cons i j) h
theorem aC.mono(x:Ext U H U' H')(hz:∀a∈U.l,U.z a){d:List D}{v:List V}(h:aC K cA U H d v):aC K cA U' H' d v:=
 aC.rec (motive_1:=λd v _=>Rep K cA U' H' d v) (motive_2:=λd v _=>aC K cA U' H' d v) .non .bl .int .str (λh _ i=>.tup (h.mono x hz) i) (λh _ i=>.fl (h.mono x hz) i) (λh n=>.fd (x.out hz h n).1 (x.out hz h n).2) (λh _ i=>.exc (h.mono x hz) i) (λh _ i=>.ob (h.mono x hz) i) .any .nil (λ_ _ i j=>.cons i j) h
theorem aC.map(m:∀d v,Rep K cA U H d v->Rep K cA U' H' d v):∀{d:List D} {v:List V},aC K cA U H d v->aC K cA U' H' d v:=by
 intro d
 induction d with
 |nil=>intro v h;cases h;exact .nil
 |cons a d ih=>intro v h;cases h with|cons h r=>exact .cons (m _ _ h) (ih r)
theorem iG.map(m:∀d v,Rep K cA U H d v->Rep K cA U' H' d v){d:jR}{v:fZ}(h:iG K cA U H d v):iG K cA U' H' d v:=by
 induction h with
 |nil=>exact .nil
 |cons a b c _ ih=>exact .cons (m _ _ a) b (m _ _ c) ih
theorem jE.map{a:Addr}{o:SO}(h:jE K cA U H a o)(e:∀u,H a=some u->H' a=some u)(m:∀d v,Rep K cA U H d v->Rep K cA U' H' d v):jE K cA U' H' a o:=by
 cases o with
 |lst xs=>obtain⟨vs,q,r⟩:=h;exact⟨vs,e _ q,r.map m⟩
 |dct xs=>obtain⟨vs,q,r⟩:=h;exact⟨vs,e _ q,r.map m⟩
theorem aW.mono(x:Ext U H U' H')(hz:∀a∈U.l,U.z a){d:Xv}{v:V}(h:aW K cA U H d v):aW K cA U' H' d v:=by
 cases h with
 |d h=>exact .d (h.mono x hz)
 |l h=>exact .l (x.get h)
theorem aQ.mono(x:Ext U H U' H')(hz:∀a∈U.l,U.z a){ds:List Xv}{vs:List V}(h:aQ K cA U H ds vs):aQ K cA U' H' ds vs:=by
 induction h with
 |nil=>exact .nil
 |cons h _ ih=>exact .cons (h.mono x hz) ih
theorem aP.mono(x:Ext U H U' H')(hz:∀a∈U.l,U.z a)(h:aP K cA U H Z J):aP K cA U' H' Z J:=⟨h.1,λi d e=>let ⟨v,a,b⟩:=h.2 i d e;⟨v,a,b.mono x hz⟩⟩
theorem aC.len{ds:List D}{vs:List V}(r:aC K cA U H ds vs):ds.length=vs.length:=by
 induction ds generalizing vs with
 |nil=>cases r;rfl
 |cons a d ih=>cases r with|cons _ r=>rw[dB,dB,ih r]
theorem aQ.len{ds:List Xv}{vs:List V}(r:aQ K cA U H ds vs):ds.length=vs.length:=by
 induction r with
 |nil=>rfl
 |cons _ _ ih=>rw[dB,dB,ih]
theorem aC.get{ds:List D}{vs:List V}{i:Nat}{d:D}(r:aC K cA U H ds vs)(e:ds[i]?=some d):∃v,vs[i]?=some v/\Rep K cA U H d v:=by
 induction ds generalizing vs i with
 |nil=>cases e
 |cons a ds ih=>
  cases r with
  |cons h r=>cases i with
   |zero=>cases e;exact⟨_,rfl,h⟩
   |succ i=>obtain⟨w,p,q⟩:=ih r e;exact⟨w,p,q⟩
theorem aQ.get{ds:List Xv}{vs:List V}{i:Nat}{d:Xv}(r:aQ K cA U H ds vs)(e:ds[i]?=some d):∃v,vs[i]?=some v/\aW K cA U H d v:=by
 induction r generalizing i with
 |nil=>cases e
 |cons h _ ih=>cases i with
  |zero=>cases e;exact⟨_,rfl,h⟩
  |succ i=>obtain⟨w,p,q⟩:=ih e;exact⟨w,p,q⟩
theorem aC.none:∀{ds:List D} {vs:List V} {i:Nat},aC K cA U H ds vs->ds[i]?=none->vs[i]?=none:=λ{ds vs i} r e=>by
 have:=r.len;have h2:ds.length<=i:=qN.mp e;exact qN.mpr gV
theorem aC.app{ds es:List D}{vs us:List V}(h:aC K cA U H ds vs)(s:aC K cA U H es us):aC K cA U H (ds++es) (vs++us):=by
 induction ds generalizing vs with
 |nil=>cases h;exact s
 |cons a d ih=>cases h with|cons h r=>exact .cons h (ih r)
theorem aC.take{ds:List D}{vs:List V}(n:Nat)(r:aC K cA U H ds vs):aC K cA U H (ds.take n) (vs.take n):=by
 induction n generalizing ds vs with
 |zero=>exact .nil
 |succ n ih=>cases r with
  |nil=>exact .nil
  |cons h r=>exact .cons h (ih r)
theorem aC.drop{ds:List D}{vs:List V}(n:Nat)(r:aC K cA U H ds vs):aC K cA U H (ds.drop n) (vs.drop n):=by
 induction n generalizing ds vs with
 |zero=>exact r
 |succ n ih=>cases r with
  |nil=>exact .nil
  |cons h r=>exact ih r
theorem aC.set{d:D}{v:V}(h:Rep K cA U H d v){ds:List D}{vs:List V}(i:Nat)(r:aC K cA U H ds vs):aC K cA U H (ds.set i d) (vs.set i v):=by
 induction i generalizing ds vs with
 |zero=>cases r with
  |nil=>exact .nil
  |cons _ r=>exact .cons h r
 |succ i ih=>cases r with
  |nil=>exact .nil
  |cons q r=>exact .cons q (ih r)
theorem aC.cut{ds:List D}{vs:List V}{l h:Option Int}(r:aC K cA U H ds vs):aC K cA U H (Mi.cut ds l h) (kY vs l h):=by
 unfold Mi.cut kY;rw[<-r.len];exact(r.drop _).take _
def bH(H H':Hp):Prop:=∀a o,H a=some o->H' a=some o
theorem bH.refl:bH H H:=λ_ _ h=>h
theorem bH.trans(x:bH H H')(y:bH H' lA):bH H lA:=λa o h=>y a o (x a o h)
theorem bH.new{p:Addr}{o:HO}(hp:H p=none):bH H (upd H p o):=λa u h=>by rw[cX (Cj h hp)];exact h
theorem bH.ext(g:bH H H'):Ext U H U H':=⟨⟨[],by simp,by simp⟩,λ_ h=>h,λ_ h=>.inl h,λa o h _=>g a o h,λa o h=>⟨o,g a o h⟩⟩
theorem jE.grow{a:Addr}{o:SO}(g:bH H H')(hz:∀a∈U.l,U.z a)(h:jE K cA U H a o):jE K cA U H' a o:=h.map (g _) λ_ _ r=>r.mono g.ext hz
theorem aD.grow(g:bH H H')(h:aD K cA U H s):aD K cA U H' s:=
 ⟨h.len,λn o a e1 e2=>(h.obj n o a e1 e2).grow g h.lz,h.uniq,h.lz,λa z=>let ⟨o,e⟩:=h.zt a z;⟨o,g _ _ e⟩⟩
theorem aD.nz(h:aD K cA U H s){p:Addr}(hp:H p=none):¬U.z p:=λz=>by obtain⟨o,e⟩:=h.zt p z;rw[hp] at e;cases e
noncomputable def Ph.add(U:Ph)(p:Addr):Ph:=⟨λa=>U.z a\/a=p,U.l++[p]⟩
theorem Ext.add{p:Addr}{o:HO}(hp:H p=none):Ext U H (U.add p) (upd H p o):=
 ⟨⟨[p],rfl,by simpa using hp⟩,λ_ h=>.inl h,λa h=>h.imp id λe=>by rw[e];exact hp,λa u h _=>bH.new hp a u h,λa u h=>⟨u,bH.new hp a u h⟩⟩
theorem aD.Hr{p:Addr}{so:SO}{ho:HO}(h:aD K cA U H s)(hp:H p=none)(hr:jE K cA (U.add p) (upd H p ho) p so):aD K cA (U.add p) (upd H p ho) (s++[so]):=by
 have pn:p∉U.l:=λz=>h.nz hp (h.lz p z);refine⟨by show (U.l++[p]).length=_;rw[ji,ji,h.len];rfl,λn o a e1 e2=>?_,?_,λa ha=>?_,λa ha=>?_⟩
 ·have e2:(U.l++[p])[n]?=some a:=e2;by_cases hn:n<s.length
  ·rw[mZ hn] at e1;rw[mZ (by rw[h.len];exact hn)] at e2;exact(h.obj n o a e1 e2).map (bH.new hp _) λ_ _ r=>r.mono (Ext.add hp) h.lz
  ·have hl:n=s.length:=by
    have z:=(gD.mp e1).1;rw[ji] at z;simp at z
    lia
   subst hl;rw[nA (cL _)] at e1;rw[nA (by rw[h.len];exact cL _)] at e2;simp at e1;simp[h.len] at e2;subst e1 e2;exact hr
 ·show (U.l++[p]).Nodup;rw[DK];refine⟨h.uniq,by simp,λa ha b hb e=>?_⟩;simp at hb;subst hb e;exact pn ha
 ·have ha:a∈U.l++[p]:=ha;rcases m5.mp ha with z|z
  ·exact .inl (h.lz a z)
  ·simp at z;exact .inr z
 ·rcases ha with z|z
  ·obtain⟨o,e⟩:=h.zt a z;exact⟨o,bH.new hp _ _ e⟩
  ·subst z;exact⟨_,jH⟩
theorem aD.add{p:Addr}{xs:List D}{vs:List V}(h:aD K cA U H s)(hp:H p=none)(r:aC K cA U H xs vs):aD K cA (U.add p) (upd H p (.lst vs)) (s++[.lst xs]):=h.Hr hp ⟨vs,jH,r.mono (Ext.add hp) h.lz⟩
theorem Ext.write{n:Nat}{p:Addr}{o:HO}(hp:U.l[n]?=some p)(hv:∃u,H p=some u):Ext U H U (upd H p o):=by
 have hm:p∈U.l:=gF hp;refine⟨⟨[],by simp,by simp⟩,λ_ h=>h,λ_ h=>.inl h,λa u h n=>by
  have ne:a≠p:=λe=>n (by rw[e];exact hm);rw[cX ne];exact h,λa u h=>?_⟩
 by_cases e:a=p
 ·subst e;exact⟨o,jH⟩
 ·exact⟨u,by rw[cX e];exact h⟩
theorem aD.zX{n:Nat}{p:Addr}{so:SO}{ho:HO}(h:aD K cA U H s)(hl:n<s.length)(hp:U.l[n]?=some p)(hr:jE K cA U (upd H p ho) p so):aD K cA U (upd H p ho) (s.set n so):=by
 have hv:=h.zt p (h.lz p (gF hp));have x:Ext U H U (upd H p ho):=Ext.write hp hv;refine⟨by rw[uh];exact h.len,λm o a e1 e2=>?_,h.uniq,h.lz,λa ha=>?_⟩
 ·by_cases hm:n=m
  ·subst hm;rw[Bq hl] at e1;cases e1;rw[hp] at e2;cases e2;exact hr
  ·rw[qW hm] at e1;have ne:a≠p:=λy=>by
    subst y;exact hm ((Nk (gD.mp hp).1 h.uniq).mp (hp.trans e2.symm))
   exact(h.obj m o a e1 e2).map (λ_ q=>by rw[cX ne];exact q) λ_ _ r=>r.mono x h.lz
 ·obtain⟨o,e⟩:=h.zt a ha;obtain⟨o',e'⟩:=x.stay a o e;exact⟨o',e'⟩
theorem aD.write{n:Nat}{p:Addr}{xs ys:List D}{us:List V}(h:aD K cA U H s)(hn:s[n]?=some (.lst xs))(hp:U.l[n]?=some p)(r:aC K cA U H ys us):aD K cA U (upd H p (.lst us)) (s.set n (.lst ys)):=
 h.zX (gD.mp hn).1 hp ⟨us,jH,r.mono (Ext.write hp (h.zt p (h.lz p (gF hp)))) h.lz⟩
theorem aP.set{i:Nat}{d:Xv}{v:V}(hL:aP K cA U H Z J)(r:aW K cA U H d v):aP K cA U H (Z.set i (some v)) (J.set i (some d)):=by
 refine⟨by rw[uh,uh];exact hL.1,λj e h=>?_⟩;by_cases uV:i=j
 ·subst uV;by_cases hl:i<J.length
  ·rw[Bq hl] at h;cases h;exact⟨v,by rw[Bq (by rw[hL.1];exact hl)],r⟩
  ·rw[List.getElem?_eq_none (by rw[uh];lia)] at h;cases h
 ·rw[qW uV] at h;obtain⟨u,a,b⟩:=hL.2 j e h;exact⟨u,by rw[qW uV];exact a,b⟩
theorem TupAt.iQ{a:Addr}{vs:List V}(h:TupAt K U H a vs):fV K H a vs:=by
 rcases h with ⟨h,_⟩|(h|h)
 ·exact .inl h
 ·rcases h with h|⟨o,h⟩<;>cases h
 ·exact .inr h
theorem LstAt.sU{a:Addr}{vs:List V}(h:LstAt K U H a vs):eE K H a vs:=by
 rcases h with ⟨h,_⟩|(h|h)
 ·exact .inl h
 ·rcases h with h|⟨o,h⟩<;>cases h
 ·exact .inr h
theorem TupAt.new{p:Addr}{vs:List V}(hz:¬U.z p):TupAt K U (upd H p (.tup vs)) p vs:=.inl ⟨.inl jH,hz⟩
theorem LstAt.new{p:Addr}{vs:List V}(hz:¬U.z p):LstAt K U (upd H p (.lst vs)) p vs:=.inl ⟨.inl jH,hz⟩
end
end Mi
namespace Mi
open PySem PySem.Spec PyProof.Rows L2
theorem un{α β γ:Type}{A B C:α->β->γ->Prop}{R:Prop}(h:∃a b c,A a b c/\B a b c/\C a b c)(f:∀a b c,A a b c->B a b c->C a b c->R):R:=by
 obtain⟨a,b,c,x,y,z⟩:=h;exact f a b c x y z
section
variable (K:W.Frag)(cA:Cl)
def Run{α:Type}(m:M α)(U:Ph)(H:Hp)(s:S)(P:α->S->Ph->Hp->Prop)(Ee:Nat->List D->S->Ph->Hp->Prop):Prop:=
 match m s with
 |some (.ok a,s')=>∀U' H',Ext U H U' H'->aD K cA U' H' s'->P a s' U' H'
 |some (.er c f,s')=>∀U' H',Ext U H U' H'->aD K cA U' H' s'->Ee c f s' U' H'
 |none=>False
def jB(U:Ph)(H:Hp)(c:Nat)(fs:List D)(dx:Option Addr):Prop:=
 (cA.f c=[]/\fs=[]/\dx=none)\/∃d vs,dx=some d/\¬U.z d/\H d=some (.xd ((cA.f c).zip vs))/\(cA.f c).length=vs.length/\aC K cA U H fs vs
noncomputable def eX(EX:XS)(Z:L2.St):Nat->List D->S->Ph->Hp->Prop:=λc fs _ U' H'=>∀dx,jB K cA U' H' c fs dx->EX Z (.ref (cA.a c)) dx H'
noncomputable def tE(EX:XS)(m:Vs->M Xv):TE:=λZ H Q=>∃U J s,aP K cA U H Z J/\aD K cA U H s/\Run K cA (m J) U H s (λd _ U' H'=>∀v,aW K cA U' H' d v->Q v H') (eX K cA EX Z)
noncomputable def Q0(EX:XS)(m:Vs->M (List Xv)):TA:=λZ H Q=>∃U J s,aP K cA U H Z J/\aD K cA U H s/\Run K cA (m J) U H s (λd _ U' H'=>∀v,aQ K cA U' H' d v->Q v H') (eX K cA EX Z)
noncomputable def qQ(EX:XS)(m:Vs->M Bool):TT:=λZ H Q=>∃U J s,aP K cA U H Z J/\aD K cA U H s/\Run K cA (m J) U H s (λd _ U' H'=>Q d H') (eX K cA EX Z)
def Rv(U:Ph)(H:Hp)(d:D)(v:V):Prop:=match d with
 |.fl xs=>∃a vs,v=.ref a/\eE K H a vs/\aC K cA U H xs vs
 |d=>Rep K cA U H d v
inductive vG (U:Ph) (H:Hp):List D->List V->Prop where
 |nil:vG U H [] []
 |cons {d:D} {v:V} {ds:List D} {vs:List V} (h:Rv K cA U H d v) (r:vG U H ds vs):vG U H (d::ds) (v::vs)
def bC(U:Ph)(H:Hp)(o:Option Rz)(Q:VK):Prop:=match o with
 |none=>False
 |some (.dat d)=>∀H' v,bH H H'->Rep K cA U H' d v->Q v H'
 |some (.nw xs)=>∀p vs,H p=none->aC K cA U H xs vs->Q (.ref p) (upd H p (.lst vs))
structure Zt(U:Ph)(H:Hp):Prop where
 lz:∀a∈U.l,U.z a
 zt:∀a,U.z a->∃o,H a=some o
def bD(p:Pr)(r:List V->Hp->VK->Prop):Prop:=∀(U:Ph) (H:Hp) (ds:List D) (vs:List V) (Q:VK),Zt U H->vG K cA U H ds vs->bC K cA U H (prim p ds) Q->r vs H Q
end
section
variable {K:W.Frag}{cA:Cl}{U U':Ph}{H H':Hp}{s:S}{Z:L2.St}{J:Vs}{EX:XS}
theorem aD.zs(h:aD K cA U H s):Zt U H:=⟨h.lz,h.zt⟩
theorem Zt.nz(h:Zt U H)(hp:H p=none):¬U.z p:=λz=>by obtain⟨o,e⟩:=h.zt p z;rw[hp] at e;cases e
theorem Rep.rv{d:D}{v:V}(h:Rep K cA U H d v):Rv K cA U H d v:=by
 cases h with
 |fl h r=>exact⟨_,_,rfl,h.sU,r⟩
 |non=>exact .non
 |bl b=>exact .bl b
 |int b=>exact .int b
 |str b=>exact .str b
 |tup h r=>exact .tup h r
 |fd h n=>exact .fd h n
 |exc h r=>exact .exc h r
 |ob h r=>exact .ob h r
 |any v=>exact .any v
theorem Run.bd{α β:Type}{m:M α}{k:α->M β}{P:β->S->Ph->Hp->Prop}{Ee:Nat->List D->S->Ph->Hp->Prop}(h:Run K cA (M.bd m k) U H s P Ee):Run K cA m U H s (λa s1 U1 H1=>Ext U H U1 H1/\aD K cA U1 H1 s1/\Run K cA (k a) U1 H1 s1 P Ee) Ee:=by
 unfold Run M.bd at *;cases e:m s with
 |none=>rw[e] at h;exact h
 |some r=>
  obtain⟨r,s1⟩:=r;rw[e] at h;cases r with
  |er c f=>exact h
  |ok a=>
   intro U1 H1 x1 r1;refine⟨x1,r1,?_⟩;dsimp only at h ⊢;cases e2:k a s1 with
   |none=>rw[e2] at h;exact h
   |some q=>
    obtain⟨q,s2⟩:=q;rw[e2] at h;cases q with
    |ok b=>exact λU2 H2 x2 r2=>h U2 H2 (x1.trans x2) r2
    |er c f=>exact λU2 H2 x2 r2=>h U2 H2 (x1.trans x2) r2
theorem Run.imp{α:Type}{m:M α}{P P':α->S->Ph->Hp->Prop}{Ee:Nat->List D->S->Ph->Hp->Prop}(h:Run K cA m U H s P Ee)(f:∀a s' U' H',P a s' U' H'->P' a s' U' H'):Run K cA m U H s P' Ee:=by
 unfold Run at *;split at h
 ·exact λU' H' x r=>f _ _ _ _ (h U' H' x r)
 ·exact h
 ·exact h
theorem Run.ext(x:Ext U H U' H')(h:Run K cA m U H s P Ee):Run K cA m U' H' s P Ee:=by
 unfold Run at *;split at h
 ·exact λU2 H2 y r=>h U2 H2 (x.trans y) r
 ·exact λU2 H2 y r=>h U2 H2 (x.trans y) r
 ·exact h.elim
theorem Run.bR{α:Type}{a:α}{P:α->S->Ph->Hp->Prop}{Ee:Nat->List D->S->Ph->Hp->Prop}(r:aD K cA U H s)(h:Run K cA (M.ret a) U H s P Ee):P a s U H:=h U H Ext.refl r
theorem Run.opt{α:Type}{o:Option α}{P:α->S->Ph->Hp->Prop}{Ee:Nat->List D->S->Ph->Hp->Prop}(r:aD K cA U H s)(h:Run K cA (M.opt o) U H s P Ee):∃a,o=some a/\P a s U H:=by
 cases o with
 |none=>exact h.elim
 |some a=>exact⟨a,rfl,h U H Ext.refl r⟩
theorem Hs(h:Run K cA (M.bd (M.opt o) k) U H s P Ee):∃a,o=some a/\Run K cA (k a) U H s P Ee:=by
 cases o with
 |none=>exact h.elim
 |some a=>exact⟨a,rfl,h⟩
theorem K3{β:Type}{x:Xv}{v:V}{k:Bool->M β}{P:β->S->Ph->Hp->Prop}{Ee:Nat->List D->S->Ph->Hp->Prop}(r:aW K cA U H x v)(h:Run K cA (M.bd (bool x) k) U H s P Ee):∃b,x=.d (.bl b)/\v=.bl b/\Run K cA (k b) U H s P Ee:=by
 cases r with
 |l _=>exact h.elim
 |d r=>cases r with
  |bl b=>exact⟨b,rfl,rfl,h⟩
  |_=>exact h.elim
theorem Ht(r:aW K cA U H x v)(h:Run K cA (M.bd (int x) k) U H s P Ee):∃b,x=.d (.int b)/\v=.int b/\Run K cA (k b) U H s P Ee:=by
 cases r with
 |l _=>exact h.elim
 |d r=>cases r with
  |int b=>exact⟨b,rfl,rfl,h⟩
  |_=>exact h.elim
theorem Q5(r:aW K cA U H x v)(h:Run K cA (M.bd (dat x) k) U H s P Ee):∃d,x=.d d/\Rep K cA U H d v/\Run K cA (k d) U H s P Ee:=by
 cases r with
 |l _=>exact h.elim
 |d r=>exact⟨_,rfl,r,h⟩
theorem K4:∀{xs:List Xv} {vs:List V} {k:List D->M β} {P:β->S->Ph->Hp->Prop} {Ee:Nat->List D->S->Ph->Hp->Prop},aQ K cA U H xs vs->Run K cA (M.bd (bW xs) k) U H s P Ee->∃ds,xs=ds.map .d/\aC K cA U H ds vs/\Run K cA (k ds) U H s P Ee:=by
 intro xs
 induction xs with
 |nil=>intro vs k P Ee r h;cases r;exact⟨[],rfl,.nil,h⟩
 |cons x xs ih=>
  intro vs k P Ee r h;cases r with
  |cons a r=>
   cases a with
   |l _=>exact h.elim
   |@d y v a=>
    have h2:Run K cA (M.bd (bW xs) λds=>k (y::ds)) U H s P Ee:=by
     unfold Run M.bd bW dat at h;unfold Run M.bd;simp only[M.bd,M.ret] at h;cases e:bW xs s with
     |none=>simp only[e] at h
     |some q=>
      obtain⟨q,s1⟩:=q;simp only[e] at h;cases q with
      |ok ds=>exact h
      |er c f=>exact h
    obtain⟨ds,e,rs,h3⟩:=ih r h2;exact⟨y::ds,by rw[e];rfl,.cons a rs,h3⟩
theorem Q6(hS:aD K cA U H s)(r:aW K cA U H x v)(h:Run K cA (M.bd (rd x) k) U H s P Ee):∃d,Rv K cA U H d v/\Run K cA (k d) U H s P Ee:=by
 cases r with
 |d r=>exact⟨_,r.rv,h⟩
 |@l n a hl=>
  unfold Run M.bd rd at h;dsimp only at h;cases e:s[n]? with
  |none=>rw[e] at h;exact h.elim
  |some o=>
   rw[e] at h;cases o with
   |lst xs=>
    obtain⟨vs,q1,q2⟩:=hS.obj n _ _ e hl;exact⟨.fl xs,⟨a,vs,rfl,eE.of q1,q2⟩,h⟩
   |_=>exact h.elim
theorem gA{α β γ:Type}(m:M α)(f:α->M β)(g:β->M γ):M.bd (M.bd m f) g=M.bd m λx=>M.bd (f x) g:=by
 funext s
 unfold M.bd;cases m s with
 |none=>rfl
 |some r=>
  obtain⟨r,s1⟩:=r;cases r<;>rfl
theorem xK{β:Type}:∀{xs:List Xv} {vs:List V} {k:List D->M β} {P:β->S->Ph->Hp->Prop} {Ee:Nat->List D->S->Ph->Hp->Prop},aD K cA U H s->aQ K cA U H xs vs->Run K cA (M.bd (gw xs) k) U H s P Ee->∃ds,vG K cA U H ds vs/\Run K cA (k ds) U H s P Ee:=by
 intro xs
 induction xs with
 |nil=>intro vs k P Ee hS r h;cases r;exact⟨[],.nil,h⟩
 |cons x xs ih=>
  intro vs k P Ee hS r h;cases r with
  |cons a r=>
   have h2:Run K cA (M.bd (rd x) λd=>M.bd (gw xs) λds=>k (d::ds)) U H s P Ee:=by
    have e:M.bd (gw (x::xs)) k=M.bd (rd x) λd=>M.bd (gw xs) λds=>k (d::ds):=by
     show M.bd (M.bd (rd x) λd=>M.bd (gw xs) λds=>M.ret (d::ds)) k=_;rw[gA]
     congr 1
     funext d
     rw[gA];rfl
    rw[e] at h;exact h
   obtain⟨d,rd,h3⟩:=Q6 hS a h2;obtain⟨ds,rs,h4⟩:=ih hS r h3;exact⟨d::ds,.cons rd rs,h4⟩
theorem sV{fz:Bool}{o:Option Rz}{Q:VK}{Ee:Nat->List D->S->Ph->Hp->Prop}(hS:aD K cA U H s)(h:Run K cA (b_ fz o) U H s (λx _ U' H'=>∀v,aW K cA U' H' x v->Q v H') Ee):bC K cA U H o Q:=by
 cases o with
 |none=>exact h.elim
 |some z=>
  cases z with
  |dat d=>exact λH' v g r=>h U H' g.ext (hS.grow g) v (.d r)
  |nw xs=>
   intro p vs hp r;cases fz with
   |true=>exact h U _ (bH.new hp).ext (hS.grow (bH.new hp)) _ (.d (.fl (LstAt.new (hS.nz hp)) (r.mono (bH.new hp).ext hS.lz)))
   |false=>exact h (U.add p) _ (Ext.add hp) (hS.add hp r) _ (.l (by show (U.l++[p])[s.length]?=_;rw[<-hS.len];simp))
theorem zgT{fz:Bool}{xs:List D}{Q:VK}{Ee:Nat->List D->S->Ph->Hp->Prop}(hS:aD K cA U H s)(h:Run K cA (newL fz xs) U H s (λx _ U' H'=>∀v,aW K cA U' H' x v->Q v H') Ee):∀p vs,H p=none->aC K cA U H xs vs->Q (.ref p) (upd H p (.lst vs)):=
 sV (o:=some (.nw xs)) hS h
theorem bI{β:Type}{ma:Vs->M Xv}{k:Xv->M β}{P:β->S->Ph->Hp->Prop}(hL:aP K cA U H Z J)(hS:aD K cA U H s)(h:Run K cA (M.bd (ma J) k) U H s P (eX K cA EX Z)){Q:VK}
  (f:∀x H1 U1 d s1,Ext U H U1 H1->aP K cA U1 H1 Z J->aD K cA U1 H1 s1->aW K cA U1 H1 d x->Run K cA (k d) U1 H1 s1 P (eX K cA EX Z)->Q x H1):tE K cA EX ma Z H Q:=
 ⟨U,J,s,hL,hS,h.bd.imp λd s1 U1 H1 ⟨x1,r1,h1⟩ v rv=>f v H1 U1 d s1 x1 (hL.mono x1 hS.lz) r1 rv h1⟩
theorem oh{β:Type}{ma:Vs->M (List Xv)}{k:List Xv->M β}{P:β->S->Ph->Hp->Prop}(hL:aP K cA U H Z J)(hS:aD K cA U H s)(h:Run K cA (M.bd (ma J) k) U H s P (eX K cA EX Z)){Q:List V->Hp->Prop}
  (f:∀x H1 U1 d s1,Ext U H U1 H1->aP K cA U1 H1 Z J->aD K cA U1 H1 s1->aQ K cA U1 H1 d x->Run K cA (k d) U1 H1 s1 P (eX K cA EX Z)->Q x H1):Q0 K cA EX ma Z H Q:=
 ⟨U,J,s,hL,hS,h.bd.imp λd s1 U1 H1 ⟨x1,r1,h1⟩ v rv=>f v H1 U1 d s1 x1 (hL.mono x1 hS.lz) r1 rv h1⟩
theorem zY(hL:aP K cA U H Z J)(hS:aD K cA U H s)(h:Run K cA (M.bd (ma J) k) U H s P (eX K cA EX Z))
  (f:∀b H1 U1 s1,Ext U H U1 H1->aP K cA U1 H1 Z J->aD K cA U1 H1 s1->Run K cA (k b) U1 H1 s1 P (eX K cA EX Z)->Q b H1):qQ K cA EX ma Z H Q:=
 ⟨U,J,s,hL,hS,h.bd.imp λd s1 U1 H1 ⟨x1,r1,h1⟩=>f d H1 U1 s1 x1 (hL.mono x1 hS.lz) r1 h1⟩
end
section
variable (X:Cx)(cA:Cl)(aq:Nat->Nat->Bool)(aj:Bool)(F:Fn)(EX:XS)
def SE(e:Expr)(m:E):Prop:=PE X e (tE X.K cA EX (ev aq aj F m))
def SA(es:List Expr)(m:Es):Prop:=PA X es (Q0 X.K cA EX (evs aq aj F m))
def ST(e:Expr)(m:E):Prop:=PT X e (qQ X.K cA EX (λJ=>M.bd (ev aq aj F m J) bool))
def SW(e:Expr)(m:E):Prop:=PW X e (qQ X.K cA EX (λJ=>M.bd (ev aq aj F m J) bool))
end
section
variable {X:Cx}{cA:Cl}{aq:Nat->Nat->Bool}{aj:Bool}{F:Fn}{EX:XS}{a b c d e:Expr}{A B C Dd E':E}{pos:Pos}{es:List Expr}{Xs:Es}{fz:Bool}{p:Pr}
theorem PE.weak{t t':TE}(h:PE X e t)(f:∀Z H Q,t' Z H Q->t Z H Q):PE X e t':=λao s Z H Q I q=>h ao s Z H Q I (f Z H Q q)
theorem PT.weak{t t':TT}(h:PT X e t)(f:∀Z H Q,t' Z H Q->t Z H Q):PT X e t':=λao s Z H Q I q=>h ao s Z H Q I (f Z H Q q)
theorem PW.weak{t t':TT}(h:PW X e t)(f:∀Z H Q,t' Z H Q->t Z H Q):PW X e t':=λwh ao s Z H Q I q=>h wh ao s Z H Q I (f Z H Q q)
theorem PA.weak{t t':TA}(h:PA X es t)(f:∀Z H Q,t' Z H Q->t Z H Q):PA X es t':=λp ao s Z H Q I q=>h p ao s Z H Q I (f Z H Q q)
theorem zjy{i j p}:SE X cA aq aj F EX (.Constant (.int i) j p) (.c (.int i)):=PE.weak zkx λZ H Q hh=>un hh λU J s hL hS h=>h.bR hS _ (.d (.int i))
theorem zmn{i j p}:SE X cA aq aj F EX (.Constant (.bool i) j p) (.c (.bl i)):=PE.weak zlH λZ H Q hh=>un hh λU J s hL hS h=>h.bR hS _ (.d (.bl i))
theorem zk4{j p}:SE X cA aq aj F EX (.Constant .none j p) (.c .non):=PE.weak zkv λZ H Q hh=>un hh λU J s hL hS h=>h.bR hS _ (.d .non)
theorem Q7{α:Type}{o:Option (Option α)}{x:α}(h:o.join=some x):o=some (some x):=by
 cases o with
 |none=>cases h
 |some y=>cases y with
  |none=>cases h
  |some z=>cases h;rfl
theorem W0(i:Nat){x:Str}(hN:X.N[i]?=some x:=by rfl)(hv:NK X.env.scope x:=by first|exact Or.inl rfl|exact Or.inr (Or.inl rfl)|exact Or.inr (Or.inr rfl))(hd:(x==("__debug__" : Str))=false:=by decide)
  (jN:(x==("__classdict__" : Str))=false:=by decide):SE X cA aq aj F EX (.Name x pos) (.v i):=PE.weak (VD hN hv hd jN) λZ H Q hh=>un hh λU J s hL hS h=>by
 obtain⟨dd,e1,q⟩:=Run.opt hS h;obtain⟨v,q1,q2⟩:=hL.2 i dd (Q7 e1);exact⟨v,q1,q v q2⟩
theorem zh0{x:Str}{i:Int}{t:Tok}(hg:Gl X x)(hm:X.mg x=some (.int i t))(hd:(x==("__debug__" : Str))=false:=by decide):SE X cA aq aj F EX (.Name x pos) (.c (.int i)):=PE.weak (ziv (v:=.int i) hg hm ⟨t,rfl⟩ hd) λZ H Q hh=>un hh λU J s hL hS h=>h.bR hS _ (.d (.int i))
theorem zkq:SA X cA aq aj F EX [] .nil:=PA.weak u5 λZ H Q hh=>un hh λU J s hL hS h=>h.bR hS _ .nil
theorem zja(ha:SE X cA aq aj F EX a A)(hr:SA X cA aq aj F EX es Xs)(hs:starEach (a::es) X.env=(false,eval a X.env)::starEach es X.env:=by rfl):SA X cA aq aj F EX (a::es) (.cons A Xs):=PA.weak (oZ ha hr hs) λZ H Q hh=>un hh λU J s hL hS h=>by
 refine bI hL hS h λx H1 U1 d1 s1 x1 hL1 aG r1 h1=>oh hL1 aG h1 λys H2 U2 d2 s2 x2 hL2 aV r2 h2=>h2.bR aV _ (.cons (r1.mono x2 aG.lz) r2)
theorem K5{U U1 U2:Ph}{H1 H2:Hp}{s1 s2:S}{d1 d2:Xv}{x y:V}{Q:VK}{Ee:Nat->List D->S->Ph->Hp->Prop}(x2:Ext U1 H1 U2 H2)(aG:aD X.K cA U1 H1 s1)(aV:aD X.K cA U2 H2 s2)(r1:aW X.K cA U1 H1 d1 x)(r2:aW X.K cA U2 H2 d2 y)
  (h:Run X.K cA (M.bd (gw [d1,d2]) λds=>b_ fz (prim p ds)) U2 H2 s2 (λx _ U' H'=>∀v,aW X.K cA U' H' x v->Q v H') Ee) {r:List V->Hp->VK->Prop} (hp:bD X.K cA p r):r [x,y] H2 Q:=by
 obtain⟨ds,rs,h2⟩:=xK aV (.cons (r1.mono x2 aG.lz) (.cons r2 .nil)) h;exact hp U2 H2 ds _ Q aV.zs rs (sV aV h2)
noncomputable def r2(r:R2):List V->Hp->VK->Prop:=λvs H Q=>∃x y,vs=[x,y]/\r x y H Q
theorem CG{r:R2}{x y:V}{H:Hp}{Q:VK}(h:r2 r [x,y] H Q):r x y H Q:=by
 obtain⟨_,_,e,q⟩:=h;cases e;exact q
theorem zjT{op:Operator}{r:R2}(ho:dO X (binaryOp op) r)(hp:bD X.K cA p (r2 r))(ha:SE X cA aq aj F EX a A)(hb:SE X cA aq aj F EX b B):SE X cA aq aj F EX (.BinOp a op b pos) (.pr fz p (.cons A (.cons B .nil))):=PE.weak (zl1 ho ha hb) λZ H Q hh=>un hh λU J s hL hS h=>by
 have h:Run X.K cA (M.bd (M.bd (ev aq aj F A J) λx=>M.bd (M.bd (ev aq aj F B J) λy=>M.bd (M.ret []) λz=>M.ret (y::z)) λys=>M.ret (x::ys)) λvs=>M.bd (gw vs) λds=>b_ fz (prim p ds)) U H s _ _:=h;simp only[gA] at h;refine bI hL hS h λx H1 U1 d1 s1 x1 hL1 aG r1 h1=>bI hL1 aG h1 λy H2 U2 d2 s2 x2 hL2 aV r2' h2=>?_;exact CG (K5 (fz:=fz) (U:=U) x2 aG aV r1 r2' h2 hp)
theorem zkf{op:CmpOp}{r:R2}(ho:dO X (compareOp op) r)(hp:bD X.K cA p (r2 r))(ha:SE X cA aq aj F EX a A)(hb:SE X cA aq aj F EX b B)(hm:behindInMarks op b=false):SE X cA aq aj F EX (.Compare a [op] [b] pos) (.pr true p (.cons A (.cons B .nil))):=PE.weak (zi7 ho ha hb hm) λZ H Q hh=>un hh λU J s hL hS h=>by
 have h:Run X.K cA (M.bd (M.bd (ev aq aj F A J) λx=>M.bd (M.bd (ev aq aj F B J) λy=>M.bd (M.ret []) λz=>M.ret (y::z)) λys=>M.ret (x::ys)) λvs=>M.bd (gw vs) λds=>b_ true (prim p ds)) U H s _ _:=h;simp only[gA] at h;refine bI hL hS h λx H1 U1 d1 s1 x1 hL1 aG r1 h1=>bI hL1 aG h1 λy H2 U2 d2 s2 x2 hL2 aV r2' h2=>?_;exact CG (K5 (fz:=true) (U:=U) x2 aG aV r1 r2' h2 hp)
theorem iT{A B:Prop}(h:A):if true=true then A else B:=by rw[if_pos rfl];exact h
theorem iF{A B:Prop}(h:B):if false=true then A else B:=by rw[if_neg wj];exact h
theorem zjO{op:CmpOp}{r:R2}(ho:dO X (compareOp op) r)(hp:bD X.K cA p (r2 r))(ha:SE X cA aq aj F EX a A)(hb:SE X cA aq aj F EX b B)(hm:behindInMarks op b=false):ST X cA aq aj F EX (.Compare a [op] [b] pos) (.pr true p (.cons A (.cons B .nil))):=PT.weak (zhT ho ha hb hm) λZ H Q hh=>un hh λU J s hL hS h=>by
 have h:Run X.K cA (M.bd (M.bd (M.bd (ev aq aj F A J) λx=>M.bd (M.bd (ev aq aj F B J) λy=>M.bd (M.ret []) λz=>M.ret (y::z)) λys=>M.ret (x::ys)) λvs=>M.bd (gw vs) λds=>b_ true (prim p ds)) bool) U H s _ _:=h;simp only[gA] at h;refine bI hL hS h λx H1 U1 d1 s1 x1 hL1 aG r1 h1=>bI hL1 aG h1 λy H2 U2 d2 s2 x2 hL2 aV r2' h2=>?_;obtain⟨ds,rs,h3⟩:=xK aV (.cons (r1.mono x2 aG.lz) (.cons r2' .nil)) h2;refine CG (hp U2 H2 ds _ _ aV.zs rs (sV (Ee:=eX X.K cA EX Z) aV (h3.bd.imp λt s3 U3 H3 ⟨x3,h_,h4⟩ v rv=>?_)));cases rv with
 |l _=>exact h4.elim
 |d rv=>cases rv with
  |bl k=>exact⟨k,rfl,h4 U3 H3 Ext.refl h_⟩
  |_=>exact h4.elim
theorem zjw{op op':CmpOp}{r r':R2}{q:Pr}(ho:dO X (compareOp op) r)(hp:bD X.K cA p (r2 r))(ho':dO X (compareOp op') r')(hp':bD X.K cA q (r2 r'))(ha:SE X cA aq aj F EX a A)(hb:SE X cA aq aj F EX b B)(hc:SE X cA aq aj F EX c C)(hm:lastMarks [op,op'] [b,c]=false:=by with_unfolding_all rfl) :
  SE X cA aq aj F EX (.Compare a [op,op'] [b,c] pos) (.wY p q A B C):=PE.weak (zgy ho ho' ha hb hc hm) λZ H Q hh=>un hh λU J s hL hS h=>by
 refine bI hL hS h λx H1 U1 d1 s1 x1 hL1 aG r1 h1=>bI hL1 aG h1 λy H2 U2 d2 s2 x2 hL2 aV r2' h2=>?_;obtain⟨ds,rs,h3⟩:=xK aV (.cons (r1.mono x2 aG.lz) (.cons r2' .nil)) h2;refine CG (hp U2 H2 ds _ _ aV.zs rs (sV (Ee:=eX X.K cA EX Z) aV (h3.bd.imp λt s3 U3 H3 ⟨x3,h_,h4⟩ v rv=>?_)));obtain⟨k,_,e,h5⟩:=K3 rv h4;refine⟨k,e,?_⟩;cases k with
 |false=>exact iF (h5.bR h_ _ (.d (.bl _)))
 |true=>
  have ou:=hL2.mono x3 aV.lz;refine iT (bI ou h_ h5 λz H4 U4 d4 s4 x4 hL4 pJ r4 h6=>?_);exact CG (K5 (fz:=true) (U:=U) x4 h_ pJ (r2'.mono x3 aV.lz) r4 h6 hp')
theorem zkG(ha:SE X cA aq aj F EX a A):SE X cA aq aj F EX (.UnaryOp .Not a pos) (.not A):=PE.weak (zjj ha) λZ H Q hh=>un hh λU J s hL hS h=>by
 refine bI hL hS h λx H1 U1 d1 s1 x1 hL1 aG r1 h1=>?_;obtain⟨i,_,e,h3⟩:=K3 r1 h1;exact⟨i,e,h3.bR aG _ (.d (.bl _))⟩
theorem zkU{op}(ha:SE X cA aq aj F EX a A):SE X cA aq aj F EX (.BoolOp op [a] pos) A:=zjR ha
theorem zkL{rest:List Expr}(ha:SE X cA aq aj F EX a A)(hb:SE X cA aq aj F EX (.BoolOp .And (b::rest) pos) B):SE X cA aq aj F EX (.BoolOp .And (a::b::rest) pos) (.and A B):=PE.weak (zkV ha hb) λZ H Q hh=>un hh λU J s hL hS h=>by
 refine bI hL hS h λx H1 U1 d1 s1 x1 hL1 aG r1 h1=>?_;obtain⟨i,_,e,h3⟩:=K3 r1 h1;refine⟨i,e,?_⟩;cases i with
 |true=>exact iT ⟨U1,J,s1,hL1,aG,h3⟩
 |false=>exact iF (h3.bR aG _ (.d (.bl _)))
end
section
variable {X:Cx}{cA:Cl}{aq:Nat->Nat->Bool}{aj:Bool}{F:Fn}{EX:XS}{a b c d e o:Expr}{A B C Dd E' O:E}{pos pp p2 apos:Pos}{es:List Expr}{Xs:Es}{fz:Bool}{p:Pr}{x:Str}
theorem zlh(ha:SE X cA aq aj F EX a A)(he:∀whole,isTrue a X.env whole=(do let v <-whole;standAt a.pos;holding [v] (truthy v)):=by intro _;rfl):ST X cA aq aj F EX a A:=PT.weak (zkT ha he) λZ H Q hh=>un hh λU J s hL hS h=>by
 refine bI hL hS h λx H1 U1 d1 s1 x1 hL1 aG r1 h1=>?_;have h1:Run X.K cA (M.bd (bool d1) M.ret) U1 H1 s1 (λd _ U' H'=>Q d H') (eX X.K cA EX Z):=by
  cases d1 with
  |l n=>exact h1
  |d v=>cases v<;>exact h1
 obtain⟨k,_,e,q⟩:=K3 r1 h1;exact⟨k,e,q.bR aG⟩
theorem zgm{m:M Xv}{g:Bool->Bool}:M.bd (M.bd m λx=>M.bd (bool x) λk=>M.ret (Xv.d (.bl (g k)))) bool=M.bd (M.bd m bool) λk=>M.ret (g k):=by
 rw[gA,gA]
 congr 1
 funext x
 rw[gA];rfl
theorem zk7(ha:ST X cA aq aj F EX a A):ST X cA aq aj F EX (.UnaryOp .Not a pos) (.not A):=PT.weak (zj7 ha) λZ H Q hh=>un hh λU J s hL hS h=>by
 have h:Run X.K cA (M.bd (M.bd (ev aq aj F A J) λx=>M.bd (bool x) λk=>M.ret (Xv.d (.bl (!k)))) bool) U H s _ _:=h;rw[zgm (g:=λk=>!k)] at h;exact zY hL hS h λk H1 U1 s1 x1 hL1 aG h1=>h1.bR aG
theorem zks(ha:ST X cA aq aj F EX a A):SW X cA aq aj F EX (.BoolOp .Or [a] pos) A:=zld ha
theorem zhE{m:M Xv}{k:Bool->M Xv}:M.bd (M.bd m λx=>M.bd (bool x) k) bool=M.bd (M.bd m bool) λb=>M.bd (k b) bool:=by
 rw[gA,gA]
 congr 1
 funext x
 rw[gA]
theorem zmr{rest:List Expr}(ha:ST X cA aq aj F EX a A)(hb:SW X cA aq aj F EX (.BoolOp .Or (b::rest) pos) B):SW X cA aq aj F EX (.BoolOp .Or (a::b::rest) pos) (.or A B):=PW.weak (zlB ha hb) λZ H Q hh=>un hh λU J s hL hS h=>by
 have h:Run X.K cA (M.bd (M.bd (ev aq aj F A J) λx=>M.bd (bool x) λk=>if k=true then M.ret (Xv.d (.bl true)) else ev aq aj F B J) bool) U H s _ _:=h;rw[zhE] at h;refine zY hL hS h λk H1 U1 s1 x1 hL1 aG h3=>?_;cases k with
 |true=>exact iT (Run.bR aG (a:=true) h3)
 |false=>exact iF ⟨U1,J,s1,hL1,aG,h3⟩
theorem znl(h:SW X cA aq aj F EX a A):ST X cA aq aj F EX a A:=Kad h
theorem ziX:(M.bd m λx=>M.bd (bool x) k)=M.bd (M.bd m bool) k:=by rw[gA]
theorem zkD(hc:ST X cA aq aj F EX c C)(ha:SE X cA aq aj F EX a A)(hb:SE X cA aq aj F EX b B):SE X cA aq aj F EX (.IfExp c a b pos) (.ite C A B):=PE.weak (zhh hc ha hb) λZ H Q hh=>un hh λU J s hL hS h=>by
 have h:Run X.K cA (M.bd (ev aq aj F C J) λx=>M.bd (bool x) λk=>if k=true then ev aq aj F A J else ev aq aj F B J) U H s _ _:=h;rw[ziX] at h;refine zY hL hS h λk H1 U1 s1 x1 hL1 aG h3=>?_;cases k with
 |true=>exact iT ⟨U1,J,s1,hL1,aG,h3⟩
 |false=>exact iF ⟨U1,J,s1,hL1,aG,h3⟩
theorem W2:∀(Xs:Es) (J:Vs) (s:S) (ds:List Xv) (s':S),evs aq aj F Xs J s=some (.ok ds,s')->ds.length=Es.len Xs
 |.nil,J,s,ds,s',h=>by cases h;rfl
 |.cons a r,J,s,ds,s',h=>by
  have h:M.bd (ev aq aj F a J) (λx=>M.bd (evs aq aj F r J) λxs=>M.ret (x::xs)) s=some (.ok ds,s'):=h;unfold M.bd at h;cases e1:ev aq aj F a J s with
  |none=>rw[e1] at h;cases h
  |some q=>
   obtain⟨q,s1⟩:=q;rw[e1] at h;cases q with
   |er c f=>cases h
   |ok d=>
    dsimp only at h;cases e2:evs aq aj F r J s1 with
    |none=>rw[e2] at h;cases h
    |some q=>
     obtain⟨q,s2⟩:=q;rw[e2] at h;cases q with
     |er c f=>cases h
     |ok ds'=>
      cases h;rw[dB,W2 r J s1 ds' _ e2];rfl
theorem Hu{β:Type}{K:W.Frag}{U:Ph}{H:Hp}{s:S}{Z:L2.St}{J:Vs}{k:List Xv->M β}{P:β->S->Ph->Hp->Prop}(hL:aP K cA U H Z J)(hS:aD K cA U H s)(h:Run K cA (M.bd (evs aq aj F Xs J) k) U H s P (eX K cA EX Z)){Q:List V->Hp->Prop}
  (f:∀x H1 U1 d s1,d.length=Es.len Xs->Ext U H U1 H1->aP K cA U1 H1 Z J->aD K cA U1 H1 s1->aQ K cA U1 H1 d x->Run K cA (k d) U1 H1 s1 P (eX K cA EX Z)->Q x H1):Q0 K cA EX (evs aq aj F Xs) Z H Q:=by
 refine⟨U,J,s,hL,hS,?_⟩;have h2:=h.bd;unfold Run at h2 ⊢;cases e:evs aq aj F Xs J s with
 |none=>rw[e] at h2;exact h2
 |some r=>
  obtain⟨r,s1⟩:=r;rw[e] at h2;cases r with
  |er c f=>exact h2
  |ok ds=>
   intro U1 H1 x1 r1 v rv;obtain⟨_,_,h3⟩:=h2 U1 H1 x1 r1;exact f v H1 U1 ds s1 (W2 Xs J s ds s1 e) x1 (hL.mono x1 hS.lz) r1 rv h3
theorem zlg{k}(ha:SA X cA aq aj F EX es Xs)(hz:Es.len Xs<=sizeLine):SE X cA aq aj F EX (.Tuple es k pos) (.tup Xs):=PE.weak (zjr ha) λZ H Q hh=>un hh λU J s hL hS h=>by
 refine Hu hL hS h λvs H1 U1 xs s1 hl x1 hL1 aG rv h1=>?_;obtain⟨ds,e,rs,h2⟩:=K4 rv h1;refine⟨by rw[<-rv.len,hl];exact hz,λp hp=>?_⟩;exact h2 U1 (upd H1 p (.tup vs)) (bH.new hp).ext (aG.grow (bH.new hp)) _ (.d (.tup (TupAt.new (aG.nz hp)) (rs.mono (bH.new hp).ext aG.lz)))
theorem zkk(ha:SA X cA aq aj F EX es Xs)(hz:Es.len Xs<=sizeLine):SE X cA aq aj F EX (.List es pos) (.lst fz Xs):=PE.weak (zkW ha) λZ H Q hh=>un hh λU J s hL hS h=>by
 refine Hu hL hS h λvs H1 U1 xs s1 hl x1 hL1 aG rv h1=>?_;obtain⟨ds,e,rs,h2⟩:=K4 rv h1;exact⟨by rw[<-rv.len,hl];exact hz,λp hp=>zgT aG h2 p vs hp rs⟩
theorem zZ{id:String}{r:List V->Hp->VK->Prop}(hc:cG X (.builtin id) r)(hp:bD X.K cA p r)
  (hg:Gl X x) (hm:X.mg x=none) (hv:bootBuiltins x=some (.builtin id)) (ha:SA X cA aq aj F EX (e::es) Xs) (hn:x≠"__name__":=by decide) (ql:(x==("__debug__" : Str))=false:=by decide)
  (he:starEach (e::es) X.env=(false,eval e X.env)::starEach es X.env:=by rfl) (cP:(backTo pos (starEach es X.env)).any (·.1)=false:=by rfl):SE X cA aq aj F EX (.Call (.Name x pp) (e::es) [] pos) (.pr fz p Xs):=PE.weak (Kp hc hg hm hv ha hn ql he cP) λZ H Q hh=>un hh λU J s hL hS h=>
 oh hL hS h λvs H1 U1 ds s1 x1 hL1 aG r1 h1=>by
  obtain⟨ds,rs,h3⟩:=xK aG r1 h1;exact hp U1 H1 ds _ _ aG.zs rs (sV aG h3)
theorem W3{id:String}{r:List V->Hp->VK->Prop}(hc:cG X (.type id) r)(hp:bD X.K cA p r)
  (hg:Gl X x) (hm:X.mg x=none) (hv:bootBuiltins x=some (.type id)) (ha:SA X cA aq aj F EX (e::es) Xs) (hn:x≠"__name__":=by decide) (ql:(x==("__debug__" : Str))=false:=by decide)
  (he:starEach (e::es) X.env=(false,eval e X.env)::starEach es X.env:=by rfl) (cP:(backTo pos (starEach es X.env)).any (·.1)=false:=by rfl):SE X cA aq aj F EX (.Call (.Name x pp) (e::es) [] pos) (.pr fz p Xs):=PE.weak (V_ hc hg hm hv ha hn ql he cP) λZ H Q hh=>un hh λU J s hL hS h=>
 oh hL hS h λvs H1 U1 ds s1 x1 hL1 aG r1 h1=>by
  obtain⟨ds,rs,h3⟩:=xK aG r1 h1;exact hp U1 H1 ds _ _ aG.zs rs (sV aG h3)
theorem zlz(hp:bD X.K cA p (r2 (O9 X.K)))(ha:SE X cA aq aj F EX a A)(hb:SE X cA aq aj F EX b B)(hs:o_ b:=by intro _ _;rfl):SE X cA aq aj F EX (.Subscript a b pos) (.pr true p (.cons A (.cons B .nil))):=PE.weak (zlP zju ha hb hs) λZ H Q hh=>un hh λU J s hL hS h=>by
 have h:Run X.K cA (M.bd (M.bd (ev aq aj F A J) λx=>M.bd (M.bd (ev aq aj F B J) λy=>M.bd (M.ret []) λz=>M.ret (y::z)) λys=>M.ret (x::ys)) λvs=>M.bd (gw vs) λds=>b_ true (prim p ds)) U H s _ _:=h;simp only[gA] at h;refine bI hL hS h λx H1 U1 d1 s1 x1 hL1 aG r1 h1=>bI hL1 aG h1 λy H2 U2 d2 s2 x2 hL2 aV r2' h2=>?_;exact CG (K5 (fz:=true) (U:=U) x2 aG aV r1 r2' h2 hp)
theorem zl3(ho:Kl X (unaryOp op) r)(hp:bD X.K cA p (λvs H Q=>∃x,vs=[x]/\r x H Q))(ha:SE X cA aq aj F EX a A):SE X cA aq aj F EX (.UnaryOp op a pos) (.pr true p (.cons A .nil)):=PE.weak (zmy ho ha) λZ H Q hh=>un hh λU J s hL hS h=>by
 have h:Run X.K cA (M.bd (M.bd (ev aq aj F A J) λx=>M.bd (M.ret []) λz=>M.ret (x::z)) λvs=>M.bd (gw vs) λds=>b_ true (prim p ds)) U H s _ _:=h;simp only[gA] at h;refine bI hL hS h λx H1 U1 d1 s1 x1 hL1 aG r1 h1=>?_;obtain⟨ds,rs,h3⟩:=xK aG (.cons r1 .nil) h1;obtain⟨_,e,q⟩:=hp U1 H1 ds _ _ aG.zs rs (sV aG h3);cases e;exact q
theorem zkh{j p'}(ha:SE X cA aq aj F EX a A):SE X cA aq aj F EX (.Compare a [.Is] [.Constant .none j p'] pos) (.pr true .Gp (.cons A .nil)):=PE.weak (zjS (zkP ha)) λZ H Q hh=>un hh λU J s hL hS h=>by
 have h:Run X.K cA (M.bd (M.bd (ev aq aj F A J) λx=>M.bd (M.ret []) λz=>M.ret (x::z)) λvs=>M.bd (gw vs) λds=>b_ true (prim .Gp ds)) U H s _ _:=h;simp only[gA] at h;refine bI hL hS h λx H1 U1 d1 s1 x1 hL1 aG r1 h1=>?_;obtain⟨ds,rs,h3⟩:=xK aG (.cons r1 .nil) h1;cases rs with
 |cons r rs=>cases rs with
  |nil=>
   rename_i d;have h4:=sV aG h3;have q:=h4 H1 _ bH.refl (.bl _);cases d<;>first
    |(obtain⟨_,_,rfl,_,_⟩:=r;exact q)
    |(cases (show Rep _ _ _ _ _ x from r)<;>exact q)
end
mutual
inductive Is (h:Heap):D->Value->Prop where
 |non:Is h .non .none
 |bl (b:Bool):Is h (.bl b) (.bool b)
 |int (i:Int) (t:Tok):Is h (.int i) (.int i t)
 |str (x:Str) (t:Tok):Is h (.str x) (.str x t)
 |tup {a:Addr} {xs:List D} {its:List Value} (p:h.IsTuple a its.toArray) (r:iu h xs its):Is h (.tup xs) (.ref a)
 |fl {a:Addr} {xs:List D} {its:List Value} (p:h.IsList a its.toArray) (r:iu h xs its):Is h (.fl xs) (.ref a)
 |oth {d:D} {u:Value} (k:kq d=none):Is h d u
inductive iu (h:Heap):List D->List Value->Prop where
 |nil:iu h [] []
 |cons {d:D} {u:Value} {ds:List D} {us:List Value} (a:Is h d u) (r:iu h ds us):iu h (d::ds) (u::us)
end
section
variable {X:Cx}{cA:Cl}{ao:List (Addr×Obj)}{Z:L2.St}{H:Hp}{s:Shared}{U:Ph}{h:Heap}
theorem Q8(I:Inv X ao Z H s){ds:List D}{vs:List V}{us:List Value}(h:aC X.K cA U H ds vs)(r:Vals vs us):iu s.heap ds us:=
 aC.rec (motive_1:=λd v _=>∀{u:Value},RelV v u->Is s.heap d u) (motive_2:=λd v _=>∀{u:List Value},Vals v u->iu s.heap d u) (λr=>by cases r;exact .non) (λb _ r=>by cases r;exact .bl b) (λi _ r=>by obtain⟨t,rfl⟩:=r;exact .int i t) (λi _ r=>by obtain⟨t,rfl⟩:=r;exact .str i t)
 (λh _ ih _ r=>by
  cases r;obtain⟨its,rv,ht,_⟩:=I.tuple h.iQ;exact .tup ht (ih rv))
 (λh _ ih _ r=>by
  cases r;obtain⟨its,rv,ht,_⟩:=I.list h.sU;exact .fl ht.isList (ih rv))
 (λ_ _ _ _=>.oth rfl) (λ_ _ _ _ _=>.oth rfl) (λ_ _ _ _ _=>.oth rfl) (λ_ _ _=>.oth rfl)
 (λr=>by cases r;exact .nil)
 (λ_ _ i j _ r=>by
  cases r with
  |cons a b=>exact .cons (i a) (j b)) h r
theorem sW(I:Inv X ao Z H s){d:D}{v:V}{u:Value}(h:Rep X.K cA U H d v)(r:RelV v u):Is s.heap d u:=by
 cases h with
 |non=>cases r;exact .non
 |bl b=>cases r;exact .bl b
 |int i=>obtain⟨t,rfl⟩:=r;exact .int i t
 |str i=>obtain⟨t,rfl⟩:=r;exact .str i t
 |tup h q=>
  cases r;obtain⟨its,rv,ht,_⟩:=I.tuple h.iQ;exact .tup ht (Q8 I q rv)
 |fl h q=>
  cases r;obtain⟨its,rv,ht,_⟩:=I.list h.sU;exact .fl ht.isList (Q8 I q rv)
 |fd _ _=>exact .oth rfl
 |exc _ _=>exact .oth rfl
 |ob _ _=>exact .oth rfl
 |any _=>exact .oth rfl
theorem CJ(I:Inv X ao Z H s){d:D}{v:V}{u:Value}(q:Rv X.K cA U H d v)(r:RelV v u):Is s.heap d u:=by
 cases d with
 |fl xs=>
  obtain⟨a,vs,rfl,sq,rs⟩:=q;cases r;obtain⟨its,rv,ht,_⟩:=I.list sq;exact .fl ht.isList (Q8 I rs rv)
 |non=>exact sW I q r
 |bl b=>exact sW I q r
 |int b=>exact sW I q r
 |str b=>exact sW I q r
 |tup b=>exact sW I q r
 |fd b c=>exact sW I q r
 |exc b c=>exact sW I q r
 |ob b c=>exact sW I q r
 |any=>exact sW I q r
theorem iu.len{ds:List D}{us:List Value}(r:iu h ds us):ds.length=us.length:=by
 induction ds generalizing us with
 |nil=>cases r;rfl
 |cons a d ih=>cases r with|cons _ r=>rw[dB,dB,ih r]
theorem iu.get:∀{ds:List D} {us:List Value} {i:Nat} {d:D},iu h ds us->ds[i]?=some d->∃u,us[i]?=some u/\Is h d u
 |_,_,_,_,.nil,e=>by simp at e
 |_,_,0,_,.cons h _,e=>by simp at e;subst e;exact⟨_,rfl,h⟩
 |_,_,i+1,d,.cons _ r,e=>by
  obtain⟨v,a,b⟩:=iu.get (i:=i) (d:=d) r (by simpa using e);exact⟨v,by simpa using a,b⟩
theorem W4{a:Addr}{is js:Array Value}(p:h.IsTuple a is)(q:h.IsTuple a js):is=js:=by
 obtain⟨o,e,c,n,d⟩:=p;obtain⟨o',e',c',n',d'⟩:=q;rw[e] at e';cases e';rw[d] at d';cases d';rfl
theorem W5{a:Addr}{is js:Array Value}(p:h.IsList a is)(q:h.IsList a js):is=js:=by
 obtain⟨o,e,c,n,d⟩:=p;obtain⟨o',e',c',n',d'⟩:=q;rw[e] at e';cases e';rw[d] at d';cases d';rfl
theorem CK{a:Addr}{is js:Array Value}(p:h.IsList a is)(q:h.IsTuple a js):False:=by
 obtain⟨o,e,c,n,d⟩:=p;obtain⟨o',e',c',n',d'⟩:=q;rw[e] at e';cases e';rw[c] at c';exact absurd c' Qi
theorem Hv{eq:D->D->Option Bool}:∀{xs ys:List D} {b:Bool},dj eq xs ys=some b->∃e:Nat->Bool,(∀(j:Nat) x y,xs[j]?=some x->ys[j]?=some y->eq x y=some (e j))/\b=((List.range (min xs.length ys.length)).all e&&xs.length==ys.length)
 |[],[],b,h=>by cases h;exact⟨λ_=>true,λj x y q=>by simp at q,by simp⟩
 |[],y::ys,b,h=>by cases h;exact⟨λ_=>true,λj x y q=>by simp at q,by simp⟩
 |x::xs,[],b,h=>by cases h;exact⟨λ_=>true,λj x y q r=>by simp at r,by simp⟩
 |x::xs,y::ys,b,h=>by
  simp only[dj] at h;cases e1:eq x y with
  |none=>rw[e1] at h;cases h
  |some a=>
   cases e2:dj eq xs ys with
   |none=>rw[e1,e2] at h;cases h
   |some c=>
    rw[e1,e2] at h;cases h;obtain⟨e,h1,h2⟩:=Hv e2;refine⟨λj=>match j with|0=>a|j+1=>e j,λj p q r1 r2=>?_,?_⟩
    ·cases j with
     |zero=>
      simp at r1 r2;subst r1 r2;exact e1
     |succ j=>exact h1 j p q (by simpa using r1) (by simpa using r2)
    ·rw[h2];simp only[dB,Nat.succ_min_succ,Js,yG,List.all_map,Function.comp_def];rw[Bool.and_assoc]
     congr 2
     simp
theorem qR{n:Nat}{d e:D}(k:kq d=none):cT n d e=none:=by
 cases n<;>cases d<;>first|cases k;done|(cases e<;>rfl)
theorem gB{n:Nat}{d e:D}(k:kq e=none):cT n d e=none:=by
 cases n<;>cases e<;>first|cases k;done|(cases d<;>rfl)
theorem Q9:∀(n:Nat) {d1 d2:D} {u:Value} {b:Bool},Is h d1 u->Is h d2 u->cT n d1 d2=some b->b=true:=by
 intro n;have rows:∀(n:Nat),(∀{d1 d2:D} {u:Value} {b:Bool},Is h d1 u->Is h d2 u->cT n d1 d2=some b->b=true)->∀{xs ys:List D} {is js:List Value} {b:Bool},iu h xs is->iu h ys js->is.toArray=js.toArray->dj (cT n) xs ys=some b->b=true:=by
  intro n ih xs ys is js b q1 q2 e hd;have e:is=js:=by simpa using e
  subst e;obtain⟨e,a1,a2⟩:=Hv (eq:=cT n) hd;rw[a2];have hl:_=_:=q1.len.trans q2.len.symm;rw[gq];refine⟨gY.mpr λj hj=>?_,by rw[hl];simp⟩;have hj:=yF.mp hj;obtain⟨x,hx⟩ : ∃x,_=some x:=⟨_,i_ (gU hj (Nat.min_le_left _ _))⟩;obtain⟨y,hy⟩ : ∃y,_=some y:=⟨_,i_ (gU hj (Nat.min_le_right _ _))⟩;obtain⟨v1,e1,p1⟩:=q1.get hx;obtain⟨v2,e2,p2⟩:=q2.get hy;rw[e1] at e2;cases e2;exact ih p1 p2 (a1 j x y hx hy)
 induction n with
 |zero=>
  intro d1 d2 u b r1 r2 hd;cases r1 with
  |oth k=>rw[qR k] at hd;cases hd
  |non=>cases r2 with
   |oth k=>rw[gB k] at hd;cases hd
   |non=>cases hd;rfl
  |bl x=>cases r2 with
   |oth k=>rw[gB k] at hd;cases hd
   |bl y=>cases hd;simp
  |int x t=>cases r2 with
   |oth k=>rw[gB k] at hd;cases hd
   |int y=>cases hd;simp
  |str x t=>cases r2 with
   |oth k=>rw[gB k] at hd;cases hd
   |str y=>cases hd;simp
  |tup p q=>cases r2 with
   |oth k=>rw[gB k] at hd;cases hd
   |tup p2 q2=>cases hd
   |fl p2 q2=>exact(CK p2 p).elim
  |fl p q=>cases r2 with
   |oth k=>rw[gB k] at hd;cases hd
   |fl p2 q2=>cases hd
   |tup p2 q2=>exact(CK p p2).elim
 |succ n ih=>
  intro d1 d2 u b r1 r2 hd;cases r1 with
  |oth k=>rw[qR k] at hd;cases hd
  |non=>cases r2 with
   |oth k=>rw[gB k] at hd;cases hd
   |non=>cases hd;rfl
  |bl x=>cases r2 with
   |oth k=>rw[gB k] at hd;cases hd
   |bl y=>cases hd;simp
  |int x t=>cases r2 with
   |oth k=>rw[gB k] at hd;cases hd
   |int y=>cases hd;simp
  |str x t=>cases r2 with
   |oth k=>rw[gB k] at hd;cases hd
   |str y=>cases hd;simp
  |tup p q=>cases r2 with
   |oth k=>rw[gB k] at hd;cases hd
   |tup p2 q2=>exact rows n ih q q2 (W4 p p2) hd
   |fl p2 q2=>exact(CK p2 p).elim
  |fl p q=>cases r2 with
   |oth k=>rw[gB k] at hd;cases hd
   |fl p2 q2=>exact rows n ih q q2 (W5 p p2) hd
   |tup p2 q2=>exact(CK p p2).elim
theorem parts{n:Nat}{A:Around}{xs ys:List D}{is js:List Value}{b:Bool}(r1:iu s.heap xs is)(r2:iu s.heap ys js)(hd:dj (cT n) xs ys=some b)
  (ih:∀{d1 d2:D} {u1 u2:Value} {b:Bool},Is s.heap d1 u1->Is s.heap d2 u2->cT n d1 d2=some b->SeqAt.EqAt A s u1 u2 b) :
  ∃e:Nat->Bool,(∀j (h1:j<is.toArray.size) (h2:j<js.toArray.size),SeqAt.EqAt A s is.toArray[j] js.toArray[j] (e j))/\b=((List.range (min is.toArray.size js.toArray.size)).all e&&is.toArray.size==js.toArray.size):=by
 obtain⟨e,a1,a2⟩:=Hv hd;have z1:=r1.len;have z2:=r2.len;refine⟨e,λj h1 h2=>?_,by simp only[gW,<-z1,<-z2];exact a2⟩;simp only[gW] at h1 h2;obtain⟨x,hx⟩ : ∃x,xs[j]?=some x:=⟨_,i_ (by rw[z1];exact h1)⟩;obtain⟨y,hy⟩ : ∃y,ys[j]?=some y:=⟨_,i_ (by rw[z2];exact h2)⟩;obtain⟨u,f1,g1⟩:=r1.get hx;obtain⟨u',f2,g2⟩:=r2.get hy;have k1:is.toArray[j]=u:=by
  have:=gD.mp f1;simpa using this.2
 have k2:js.toArray[j]=u':=by
  have:=gD.mp f2;simpa using this.2
 rw[k1,k2];exact ih g1 g2 (a1 j x y hx hy)
theorem W6{A:Around}{l m:Addr}{is js:Array Value}{e:Nat->Bool}{b:Bool}(p1:s.heap.IsList l is)(p2:s.heap.IsList m js)(hu:A.units<cLine)(he:∀j (h1:j<is.size) (h2:j<js.size),SeqAt.EqAt A.in1 s is[j] js[j] (e j))(hb:b=((List.range (min is.size js.size)).all e&&is.size==js.size)):SeqAt.RcAt A s (.ref l) (.ref m) b:=by
 by_cases hz:is.size=js.size
 ·have:b=(List.range is.size).all e:=by rw[hb,hz];simp
  rw[this];exact SeqAt.RcAt.lists p1 p2 hz hu he
 ·have Q_:(is.size != js.size)=true:=by simpa using hz
  have:b=false:=by rw[hb];simp[hz]
  rw[this];exact SeqAt.RcAt.lists_lengths p1 p2 Q_ hu
theorem zff{A:Around}{l m:Addr}{is js:Array Value}{e:Nat->Bool}{b:Bool}(p1:s.heap.IsList l is)(p2:s.heap.IsList m js)(hu:A.units<cLine)(he:∀j (h1:j<is.size) (h2:j<js.size),SeqAt.EqAt A.in1 s is[j] js[j] (e j))(hb:b=((List.range (min is.size js.size)).all e&&is.size==js.size)):SeqAt.RcNeAt A s (.ref l) (.ref m) (!b):=by
 by_cases hz:is.size=js.size
 ·have:b=(List.range is.size).all e:=by rw[hb,hz];simp
  rw[this];exact SeqAt.RcNeAt.lists p1 p2 hz hu he
 ·have Q_:(is.size != js.size)=true:=by simpa using hz
  have:b=false:=by rw[hb];simp[hz]
  rw[this];exact SeqAt.RcNeAt.lists_lengths p1 p2 Q_ hu
open SeqAt in
theorem Hw:∀(n:Nat) {A:Around} {d1 d2:D} {u1 u2:Value} {b:Bool},A.units+n<cLine->Is s.heap d1 u1->Is s.heap d2 u2->cT n d1 d2=some b->SeqAt.EqAt A s u1 u2 b:=by
 intro n
 induction n with
 |zero=>
  intro A d1 d2 u1 u2 b hu r1 r2 hd;have hu:A.units<cLine:=by lia
  cases r1 with
  |oth k=>rw[qR k] at hd;cases hd
  |non=>cases r2 with
   |oth k=>rw[gB k] at hd;cases hd
   |non=>cases hd;exact EqAt.same _
   |bl y=>cases hd;exact EqAt.none_bool _
   |int y t=>cases hd;exact EqAt.none_int _ _
   |str y t=>cases hd;exact EqAt.none_str _ _
   |tup p q=>cases hd;exact EqAt.none_tuple p hu
   |fl p q=>cases hd;exact EqAt.none_list p hu
  |bl x=>cases r2 with
   |oth k=>rw[gB k] at hd;cases hd
   |non=>cases hd;exact EqAt.bool_none _
   |bl y=>cases hd;exact EqAt.bool_bool _ _
   |int y t=>cases hd;exact EqAt.bool_int _ _ _
   |str y t=>cases hd;exact EqAt.bool_str _ _ _
   |tup p q=>cases hd;exact EqAt.bool_tuple _ p hu
   |fl p q=>cases hd;exact EqAt.bool_list _ p hu
  |int x t=>cases r2 with
   |oth k=>rw[gB k] at hd;cases hd
   |non=>cases hd;exact EqAt.int_none _ _
   |bl y=>cases hd;exact EqAt.int_bool _ _ _
   |int y t=>cases hd;exact EqAt.int_int _ _ _ _
   |str y t=>cases hd;exact EqAt.int_str _ _ _ _
   |tup p q=>cases hd;exact EqAt.int_tuple _ _ p hu
   |fl p q=>cases hd;exact EqAt.int_list _ _ p hu
  |str x t=>cases r2 with
   |oth k=>rw[gB k] at hd;cases hd
   |non=>cases hd;exact EqAt.str_none _ _
   |bl y=>cases hd;exact EqAt.str_bool _ _ _
   |int y t=>cases hd;exact EqAt.str_int _ _ _ _
   |str y t=>cases hd;exact EqAt.str_str _ _ _ _
   |tup p q=>cases hd;exact EqAt.str_tuple _ _ p hu
   |fl p q=>cases hd;exact EqAt.str_list _ _ p hu
  |tup p q=>cases r2 with
   |oth k=>rw[gB k] at hd;cases hd
   |non=>cases hd;exact EqAt.tuple_none p hu
   |bl y=>cases hd;exact EqAt.tuple_bool _ p hu
   |int y t=>cases hd;exact EqAt.tuple_int _ _ p hu
   |str y t=>cases hd;exact EqAt.tuple_str _ _ p hu
   |tup p2 q2=>cases hd
   |fl p2 q2=>cases hd;exact EqAt.tuple_list p p2 hu
  |fl p q=>cases r2 with
   |oth k=>rw[gB k] at hd;cases hd
   |non=>cases hd;exact EqAt.list_none p hu
   |bl y=>cases hd;exact EqAt.list_bool _ p hu
   |int y t=>cases hd;exact EqAt.list_int _ _ p hu
   |str y t=>cases hd;exact EqAt.list_str _ _ p hu
   |tup p2 q2=>cases hd;exact EqAt.list_tuple p p2 hu
   |fl p2 q2=>cases hd
 |succ n ih=>
  intro A d1 d2 u1 u2 b hu0 r1 r2 hd;have hu:A.units<cLine:=by lia
  have dG:A.in1.units+n<cLine:=by show A.units+1+n<cLine;lia
  cases r1 with
  |oth k=>rw[qR k] at hd;cases hd
  |non=>cases r2 with
   |oth k=>rw[gB k] at hd;cases hd
   |non=>cases hd;exact EqAt.same _
   |bl y=>cases hd;exact EqAt.none_bool _
   |int y t=>cases hd;exact EqAt.none_int _ _
   |str y t=>cases hd;exact EqAt.none_str _ _
   |tup p q=>cases hd;exact EqAt.none_tuple p hu
   |fl p q=>cases hd;exact EqAt.none_list p hu
  |bl x=>cases r2 with
   |oth k=>rw[gB k] at hd;cases hd
   |non=>cases hd;exact EqAt.bool_none _
   |bl y=>cases hd;exact EqAt.bool_bool _ _
   |int y t=>cases hd;exact EqAt.bool_int _ _ _
   |str y t=>cases hd;exact EqAt.bool_str _ _ _
   |tup p q=>cases hd;exact EqAt.bool_tuple _ p hu
   |fl p q=>cases hd;exact EqAt.bool_list _ p hu
  |int x t=>cases r2 with
   |oth k=>rw[gB k] at hd;cases hd
   |non=>cases hd;exact EqAt.int_none _ _
   |bl y=>cases hd;exact EqAt.int_bool _ _ _
   |int y t=>cases hd;exact EqAt.int_int _ _ _ _
   |str y t=>cases hd;exact EqAt.int_str _ _ _ _
   |tup p q=>cases hd;exact EqAt.int_tuple _ _ p hu
   |fl p q=>cases hd;exact EqAt.int_list _ _ p hu
  |str x t=>cases r2 with
   |oth k=>rw[gB k] at hd;cases hd
   |non=>cases hd;exact EqAt.str_none _ _
   |bl y=>cases hd;exact EqAt.str_bool _ _ _
   |int y t=>cases hd;exact EqAt.str_int _ _ _ _
   |str y t=>cases hd;exact EqAt.str_str _ _ _ _
   |tup p q=>cases hd;exact EqAt.str_tuple _ _ p hu
   |fl p q=>cases hd;exact EqAt.str_list _ _ p hu
  |@tup a1 xs is p q=>cases r2 with
   |oth k=>rw[gB k] at hd;cases hd
   |non=>cases hd;exact EqAt.tuple_none p hu
   |bl y=>cases hd;exact EqAt.tuple_bool _ p hu
   |int y t=>cases hd;exact EqAt.tuple_int _ _ p hu
   |str y t=>cases hd;exact EqAt.tuple_str _ _ p hu
   |@tup a2 ys js p2 q2=>
    by_cases ea:a1=a2
    ·subst ea;have:=Q9 (n+1) (.tup p q) (.tup p2 q2) hd;subst this;exact EqAt.same _
    ·obtain⟨e,he,hb⟩:=parts (A:=A.in1) q q2 hd λa b c=>ih dG a b c;rw[hb];exact EqAt.of_refs ea (RcAt.tuples p p2 hu he)
   |fl p2 q2=>cases hd;exact EqAt.tuple_list p p2 hu
  |@fl a1 xs is p q=>cases r2 with
   |oth k=>rw[gB k] at hd;cases hd
   |non=>cases hd;exact EqAt.list_none p hu
   |bl y=>cases hd;exact EqAt.list_bool _ p hu
   |int y t=>cases hd;exact EqAt.list_int _ _ p hu
   |str y t=>cases hd;exact EqAt.list_str _ _ p hu
   |tup p2 q2=>cases hd;exact EqAt.list_tuple p p2 hu
   |@fl a2 ys js p2 q2=>
    by_cases ea:a1=a2
    ·subst ea;have:=Q9 (n+1) (.fl p q) (.fl p2 q2) hd;subst this;exact EqAt.same _
    ·obtain⟨e,he,hb⟩:=parts (A:=A.in1) q q2 hd λa b c=>ih dG a b c;exact EqAt.of_refs ea (W6 p p2 hu he hb)
end
section
variable {X:Cx}{cA:Cl}{ao:List (Addr×Obj)}{Z:L2.St}{H:Hp}{s:Shared}{U:Ph}{h:Heap}
open SeqAt in
theorem W7(hu0:A.units+(n+1)<cLine)(r1:Is s.heap d1 u1)(r2:Is s.heap d2 u2)(hd:cT (n+1) d1 d2=some b):RcAt A s u1 u2 b/\RcNeAt A s u1 u2 (!b):=by
 have hu:A.units<cLine:=by lia
 have dG:A.in1.units+n<cLine:=by show A.units+1+n<cLine;lia
 cases r1 with
 |oth k=>rw[qR k] at hd;cases hd
 |non=>cases r2 with
  |oth k=>rw[gB k] at hd;cases hd
  |non=>cases hd;exact⟨RcAt.none_none,RcNeAt.none_none⟩
  |bl y=>cases hd;exact⟨RcAt.none_bool _,RcNeAt.none_bool _⟩
  |int y t=>cases hd;exact⟨RcAt.none_int _ _,RcNeAt.none_int _ _⟩
  |str y t=>cases hd;exact⟨RcAt.none_str _ _,RcNeAt.none_str _ _⟩
  |tup p q=>cases hd;exact⟨RcAt.none_tuple p hu,RcNeAt.none_tuple p hu⟩
  |fl p q=>cases hd;exact⟨RcAt.none_list p hu,RcNeAt.none_list p hu⟩
 |bl x=>cases r2 with
  |oth k=>rw[gB k] at hd;cases hd
  |non=>cases hd;exact⟨RcAt.bool_none _,RcNeAt.bool_none _⟩
  |bl y=>cases hd;exact⟨RcAt.bool_bool _ _,RcNeAt.bool_bool _ _⟩
  |int y t=>cases hd;exact⟨RcAt.bool_int _ _ _,RcNeAt.bool_int _ _ _⟩
  |str y t=>cases hd;exact⟨RcAt.bool_str _ _ _,RcNeAt.bool_str _ _ _⟩
  |tup p q=>cases hd;exact⟨RcAt.bool_tuple _ p hu,RcNeAt.bool_tuple _ p hu⟩
  |fl p q=>cases hd;exact⟨RcAt.bool_list _ p hu,RcNeAt.bool_list _ p hu⟩
 |int x t=>cases r2 with
  |oth k=>rw[gB k] at hd;cases hd
  |non=>cases hd;exact⟨RcAt.int_none _ _,RcNeAt.int_none _ _⟩
  |bl y=>cases hd;exact⟨RcAt.int_bool _ _ _,RcNeAt.int_bool _ _ _⟩
  |int y t=>cases hd;exact⟨RcAt.int_int _ _ _ _,RcNeAt.int_int _ _ _ _⟩
  |str y t=>cases hd;exact⟨RcAt.int_str _ _ _ _,RcNeAt.int_str _ _ _ _⟩
  |tup p q=>cases hd;exact⟨RcAt.int_tuple _ _ p hu,RcNeAt.int_tuple _ _ p hu⟩
  |fl p q=>cases hd;exact⟨RcAt.int_list _ _ p hu,RcNeAt.int_list _ _ p hu⟩
 |str x t=>cases r2 with
  |oth k=>rw[gB k] at hd;cases hd
  |non=>cases hd;exact⟨RcAt.str_none _ _,RcNeAt.str_none _ _⟩
  |bl y=>cases hd;exact⟨RcAt.str_bool _ _ _,RcNeAt.str_bool _ _ _⟩
  |int y t=>cases hd;exact⟨RcAt.str_int _ _ _ _,RcNeAt.str_int _ _ _ _⟩
  |str y t=>cases hd;exact⟨RcAt.str_str _ _ _ _,RcNeAt.str_str _ _ _ _⟩
  |tup p q=>cases hd;exact⟨RcAt.str_tuple _ _ p hu,RcNeAt.str_tuple _ _ p hu⟩
  |fl p q=>cases hd;exact⟨RcAt.str_list _ _ p hu,RcNeAt.str_list _ _ p hu⟩
 |@tup a1 xs is p q=>cases r2 with
  |oth k=>rw[gB k] at hd;cases hd
  |non=>cases hd;exact⟨RcAt.tuple_none p hu,RcNeAt.tuple_none p hu⟩
  |bl y=>cases hd;exact⟨RcAt.tuple_bool _ p hu,RcNeAt.tuple_bool _ p hu⟩
  |int y t=>cases hd;exact⟨RcAt.tuple_int _ _ p hu,RcNeAt.tuple_int _ _ p hu⟩
  |str y t=>cases hd;exact⟨RcAt.tuple_str _ _ p hu,RcNeAt.tuple_str _ _ p hu⟩
  |@tup a2 ys js p2 q2=>
   obtain⟨e,he,hb⟩:=parts (A:=A.in1) q q2 hd λa b c=>Hw n dG a b c;rw[hb];exact⟨RcAt.tuples p p2 hu he,RcNeAt.tuples p p2 hu he⟩
  |fl p2 q2=>cases hd;exact⟨RcAt.tuple_list p p2 hu,RcNeAt.tuple_list p p2 hu⟩
 |@fl a1 xs is p q=>cases r2 with
  |oth k=>rw[gB k] at hd;cases hd
  |non=>cases hd;exact⟨RcAt.list_none p hu,RcNeAt.list_none p hu⟩
  |bl y=>cases hd;exact⟨RcAt.list_bool _ p hu,RcNeAt.list_bool _ p hu⟩
  |int y t=>cases hd;exact⟨RcAt.list_int _ _ p hu,RcNeAt.list_int _ _ p hu⟩
  |str y t=>cases hd;exact⟨RcAt.list_str _ _ p hu,RcNeAt.list_str _ _ p hu⟩
  |tup p2 q2=>cases hd;exact⟨RcAt.list_tuple p p2 hu,RcNeAt.list_tuple p p2 hu⟩
  |@fl a2 ys js p2 q2=>
   obtain⟨e,he,hb⟩:=parts (A:=A.in1) q q2 hd λa b c=>Hw n dG a b c;exact⟨W6 p p2 hu he hb,zff p p2 hu he hb⟩
noncomputable def vH(K:W.Frag)(cA:Cl)(f:Bool->Bool):R2:=λx y H Q=>∃U d1 d2 b,Rv K cA U H d1 x/\Rv K cA U H d2 y/\cT 50 d1 d2=some b/\Q (.bl (f b)) H
theorem zkJ(hu:X.A.units+60<cLine):dO X (compareOp .Eq) (vH X.K cA id):=by
 rintro ao s Z H x y v u Q I rx ry ⟨U,d1,d2,b,r1,r2,hd,q⟩;exact(W7 (n:=49) gV (CJ I r1 rx) (CJ I r2 ry) hd).1 X.prog X.w X.xe _ ⟨.bl b,H,I,rfl,q⟩
theorem zj9(hu:X.A.units+60<cLine):dO X (compareOp .NotEq) (vH X.K cA not):=by
 rintro ao s Z H x y v u Q I rx ry ⟨U,d1,d2,b,r1,r2,hd,q⟩;exact(W7 (n:=49) gV (CJ I r1 rx) (CJ I r2 ry) hd).2 X.prog X.w X.xe _ ⟨.bl (!b),H,I,rfl,q⟩
theorem ziy:∀(n:Nat) {d d' x:D} {u:Value} {b b':Bool},Is h d u->Is h d' u->cT n d x=some b->cT n d' x=some b'->b=b':=by
 intro n;have tn:∀{n:Nat} {xs xs':List D} {x:D},(∀ys,x=.tup ys->False)->cT n (.tup xs) x=cT n (.tup xs') x:=λ{n xs xs' x} hx=>by
  cases n<;>cases x<;>first|rfl|exact(hx _ rfl).elim
 have ln:∀{n:Nat} {xs xs':List D} {x:D},(∀ys,x=.fl ys->False)->cT n (.fl xs) x=cT n (.fl xs') x:=λ{n xs xs' x} hx=>by
  cases n<;>cases x<;>first|rfl|exact(hx _ rfl).elim
 have main:∀{n:Nat},(∀{xs xs' ys:List D} {is js:List Value} {b b':Bool},iu h xs is->iu h xs' js->is.toArray=js.toArray->cT n (.tup xs) (.tup ys)=some b->cT n (.tup xs') (.tup ys)=some b'->b=b')->(∀{xs xs' ys:List D} {is js:List Value} {b b':Bool},iu h xs is->iu h xs' js->is.toArray=js.toArray->cT n (.fl xs) (.fl ys)=some b->cT n (.fl xs') (.fl ys)=some b'->b=b')->∀{d d' x:D} {u:Value} {b b':Bool},Is h d u->Is h d' u->cT n d x=some b->cT n d' x=some b'->b=b':=by
  intro n R L d d' x u b b' r1 r2 h1 h2;cases r1 with
  |oth k=>rw[qR k] at h1;cases h1
  |non=>cases r2 with
   |oth k=>rw[qR k] at h2;cases h2
   |non=>rw[h1] at h2;exact dJ h2
  |bl y=>cases r2 with
   |oth k=>rw[qR k] at h2;cases h2
   |bl=>rw[h1] at h2;exact dJ h2
  |int y=>cases r2 with
   |oth k=>rw[qR k] at h2;cases h2
   |int=>rw[h1] at h2;exact dJ h2
  |str y=>cases r2 with
   |oth k=>rw[qR k] at h2;cases h2
   |str=>rw[h1] at h2;exact dJ h2
  |tup p q=>cases r2 with
   |oth k=>rw[qR k] at h2;cases h2
   |tup p2 q2=>
    cases x with
    |tup ys=>exact R q q2 (W4 p p2) h1 h2
    |_=>rw[tn (by intro ys z;cases z),h2] at h1;exact(dJ h1).symm
   |fl p2 q2=>exact(CK p2 p).elim
  |fl p q=>cases r2 with
   |oth k=>rw[qR k] at h2;cases h2
   |fl p2 q2=>
    cases x with
    |fl ys=>exact L q q2 (W5 p p2) h1 h2
    |_=>rw[ln (by intro ys z;cases z),h2] at h1;exact(dJ h1).symm
   |tup p2 q2=>exact(CK p p2).elim
 induction n with
 |zero=>
  intro d d' x u b b' r1 r2;exact main (n:=0) (λ_ _ _ z=>by cases z) (λ_ _ _ z=>by cases z) r1 r2
 |succ n ih=>
  have rows:∀{xs xs' ys:List D} {is js:List Value} {b b':Bool},iu h xs is->iu h xs' js->is.toArray=js.toArray->dj (cT n) xs ys=some b->dj (cT n) xs' ys=some b'->b=b':=by
   intro xs xs' ys is js b b' q1 q2 e h1 h2;have e:is=js:=by simpa using e
   subst e;obtain⟨e1,a1,b1⟩:=Hv h1;obtain⟨e2,a2,b2⟩:=Hv h2;have hl:xs.length=xs'.length:=q1.len.trans q2.len.symm;rw[b1,b2,hl]
   congr 1
   rw[DR,gY,gY];have key:∀j∈List.range (min xs'.length ys.length),e1 j=e2 j:=λj hj=>by
    have hj:=yF.mp hj;obtain⟨x1,W8⟩ : ∃x,xs[j]?=some x:=⟨_,i_ (by rw[hl];exact gU hj (Nat.min_le_left _ _))⟩;obtain⟨x2,Kv⟩ : ∃x,xs'[j]?=some x:=⟨_,i_ (gU hj (Nat.min_le_left _ _))⟩;obtain⟨y,hy⟩ : ∃y,ys[j]?=some y:=⟨_,i_ (gU hj (Nat.min_le_right _ _))⟩;obtain⟨v1,f1,p1⟩:=q1.get W8;obtain⟨v2,f2,p2⟩:=q2.get Kv;rw[f1] at f2;cases f2;exact ih p1 p2 (a1 j x1 y W8 hy) (a2 j x2 y Kv hy)
   exact⟨λz j hj=>by rw[<-key j hj];exact z j hj,λz j hj=>by rw[key j hj];exact z j hj⟩
  intro d d' x u b b' r1 r2;exact main (n:=n+1) rows rows r1 r2
theorem W9:∀{xs:List D} {b:Bool},memD x xs=some b->∀d∈xs,∃k,cT 50 d x=some k
 |[],_,_,d,hd=>by cases hd
 |y::xs,b,h,d,hd=>by
  unfold memD at h;cases e1:cT 50 y x with
  |none=>simp only[e1] at h;cases h
  |some a=>
   cases e2:memD x xs with
   |none=>simp only[e1,e2] at h;cases h
   |some c=>
    rcases gG.mp hd with rfl|hd
    ·exact⟨a,e1⟩
    ·exact W9 e2 d hd
theorem W_:∀{xs:List D} {us:List Value} {b:Bool},memD x xs=some b->iu h xs us->∃e:Value->Bool,(∀u∈us,∃d,Is h d u/\cT 50 d x=some (e u))/\us.any e=b:=by
 intro xs us b hm r;have ex:∀u∈us,∃d k,Is h d u/\cT 50 d x=some k:=by
  intro u hu;obtain⟨i,hi,e⟩:=Nb hu;have hl:=r.len;obtain⟨d,hd⟩ : ∃d,xs[i]?=some d:=⟨_,i_ gV⟩;obtain⟨u',e1,q⟩:=r.get hd;rw[i_ hi,e] at e1;cases e1;obtain⟨k,hk⟩:=W9 hm d (gF hd);exact⟨d,k,q,hk⟩
 refine⟨λu=>by classical exact if z:∃k,∃d,Is h d u/\cT 50 d x=some k then z.choose else false,λu hu=>?_,?_⟩
 ·obtain⟨d,k,q,hk⟩:=ex u hu;have z:∃k,∃d,Is h d u/\cT 50 d x=some k:=⟨k,d,q,hk⟩;dsimp only;rw[dif_pos z];exact z.choose_spec
 ·clear ex;have key:∀(xs:List D) (us:List Value) (b:Bool),memD x xs=some b->iu h xs us->us.any (λu=>by classical exact if z:∃k,∃d,Is h d u/\cT 50 d x=some k then z.choose else false)=b:=by
   intro xs
   induction xs with
   |nil=>intro us b hm r;cases r;cases hm;rfl
   |cons d ds ih=>
    intro us b hm r;cases r with
    |@cons _ u _ us a r=>
     unfold memD at hm;cases e1:cT 50 d x with
     |none=>simp only[e1] at hm;cases hm
     |some k=>
      cases e2:memD x ds with
      |none=>simp only[e1,e2] at hm;cases hm
      |some c=>
       simp only[e1,e2] at hm;cases hm;rw[List.any_cons];have z:∃k,∃d,Is h d u/\cT 50 d x=some k:=⟨k,d,a,e1⟩;have hk:z.choose=k:=by
        obtain⟨d',q,Ew⟩:=z.choose_spec;exact ziy 50 q a Ew e1
       rw[dif_pos z,hk,ih us c e2 r]
  exact key xs us b hm r
noncomputable def Hx(K:W.Frag)(cA:Cl)(f:Bool->Bool):R2:=λx y H Q=>∃U d1 d2 xs b,Rv K cA U H d1 x/\Rv K cA U H d2 y/\jw d2=some xs/\memD d1 xs=some b/\Q (.bl (f b)) H
theorem zkY(hu:X.A.units+60<cLine):dO X (compareOp .In) (Hx X.K cA id):=by
 rintro ao s Z H x y v u Q I rx ry ⟨U,d1,d2,xs,b,r1,r2,hq,hm,q⟩;have dG:X.A.in1.units+50<cLine:=by show X.A.units+1+50<cLine;lia
 have i1:=CJ I r1 rx;cases CJ I r2 ry with
 |tup p r=>
  cases hq;obtain⟨e,he,hb⟩:=W_ hm r;refine SeqAt.in_tupleAt e p (λw hw=>?_) ⟨.bl b,H,I,by rw[<-hb];simp[L2.RelV],q⟩;obtain⟨d,q1,q2⟩:=he w (by simpa using hw);exact Hw 50 dG q1 i1 q2
 |fl p r=>
  cases hq;obtain⟨e,he,hb⟩:=W_ hm r;refine SeqAt.in_listAt e p (λw hw=>?_) ⟨.bl b,H,I,by rw[<-hb];simp[L2.RelV],q⟩;obtain⟨d,q1,q2⟩:=he w (by simpa using hw);exact Hw 50 dG q1 i1 q2
 |oth k=>cases d2<;>cases hq<;>cases k
 |_=>cases hq
end
end Mi
namespace HT
open PySem PyProof.Rows
section
variable {prog:Program}{w:World}{A:Around}{E:Value->Shared->Prop}{s:Shared}
theorem sX{t b:Addr}{vs ws:List Value}{Q:Value->Shared->Prop}(ht:IsTup s.heap t vs.toArray)(hb:IsTup s.heap b ws.toArray)(hv:vs=[])
  (h1:Q (.ref b) s):wpAny (model prog w) A (binaryOp .Add (.ref t) (.ref b)) Q E s:=by
 obtain⟨⟨cls,dd,data,sl⟩,ho,hc,n,hd⟩:=id ht;obtain⟨⟨cls2,dd2,data2,sl2⟩,jO,lQ,n2,hd2⟩:=id hb;simp only at hc hd lQ hd2;subst hc hd lQ hd2;exact concat_meets ⟨_,ho,rfl⟩ ⟨_,jO,rfl⟩ noFill_tuple_add seq_tuple_add M5 MK (Mz _ _)
   (tuple_addW0 t b vs.toArray ws.toArray n n2 dd dd2 sl sl2 (by simp[hv])) ⟨ho,jO,h1⟩
theorem fG{t sl:Addr}{items:Array Value}{vl vu:Value}{lo hi:Option Int}{Q:Value->Shared->Prop}(ht:IsTup s.heap t items)(hs:s.heap.IsSliceOf sl vl vu .none)(pl:IsPart vl lo)(pu:IsPart vu hi)
  (hw:bQ items.size 0 lo=0/\bQ items.size items.size hi=items.size) (h:Q (.ref t) s):wpAny (model prog w) A (getItem (.ref t) (.ref sl)) Q E s:=by
 obtain⟨os,zj,Kq,FT⟩:=id hs;have O5:s.TypeIs (.ref sl) "slice":=⟨os,zj,Kq⟩;unfold getItem
 try with_reducible refine m6 ?_
 first|refine aA (aO ?_)|skip
 refine aA (wpAny_sequenceKey ht.typeIs J0 ?_);refine aA (yp (name:=Str.ofString "__getitem__") ht.typeIs Bo
  (yC Bo ht.typeIs entry_tuple_getitem ?_ (args_tuple_getitem _ _)))
 show wpAny _ _ (Builtin.Tuple.tupleItemsOf (.ref t) >>= _) _ _ s;refine aA (tupleItemsOf_ ht ?_);refine aA (B_ O5 ?_);rw[if_pos J0];refine aA (Wc hs pl pu ?_);have Ra:(((bQ items.size 0 lo:Nat):Int)==0&&(1:Int)==1&&(bQ items.size items.size hi-bQ items.size 0 lo)==items.size)=true:=by
  rw[hw.1,hw.2];simp
 show wpAny _ _ (if (((bQ items.size 0 lo:Nat):Int)==0&&(1:Int)==1&&(bQ items.size items.size hi-bQ items.size 0 lo)==items.size)=true then _ else _) _ _ s;rw[if_pos Ra];refine aA ?_;unfold Builtin.Tuple.tupleIsExact;refine aA (B_ ht.typeIs ?_);refine aO ?_;rw[if_pos J0];refine aA (wC ?_);exact aO ⟨_,rfl,aO h⟩
end
end HT
namespace L2
open PySem PySem.Spec PyProof.Rows
section
variable {X:Cx}{e:Expr}{te:TE}{pos p2:Pos}
noncomputable def sY(K:W.Frag):R2:=λx y H Q=>∃a b xs ys,x=.ref a/\y=.ref b/\fV K H a xs/\fV K H b ys/\xs.length+ys.length<=sizeLine /\
 (xs=[]->Q (.ref b) H)/\(ys=[]->Q (.ref a) H)/\∀p,H p=none->Q (.ref p) (upd H p (.tup (xs++ys)))
theorem sZ:dO X (binaryOp .Add) (sY X.K):=by
 intro ao s Z H x y v u Q I rx ry h;obtain⟨a,b,xs,ys,rfl,rfl,ha,hb,hz,q0,q1,q2⟩:=h;cases rx;cases ry;obtain⟨its,r1,p1,_⟩:=I.tuple ha;obtain⟨its2,r2,p2,_⟩:=I.tuple hb;by_cases hx:xs=[]
 ·exact HT.sX p1 p2 (r1.kZ.mpr hx) ⟨.ref b,H,I,rfl,q0 hx⟩
 ·refine HT.u6 p1 p2 (λz=>hx (r1.kZ.mp z)) (λz=>⟨.ref a,H,I,rfl,q1 (r2.kZ.mp z)⟩) (λz=>?_) (by rw[<-r1.length,<-r2.length];exact hz);refine⟨.ref s.heap.objs.size,_,I.laid (t':=s.toks) (o:=.tup (xs++ys)) (λb ob q=>cO _ q) (cL _) ?_,rfl,q2 _ (I.hok.fresh (cL _))⟩;exact⟨by rw[ji];exact hz,_,r1.append r2,jJ.new _ _⟩
noncomputable def xM(K:W.Frag):V->Option Int->Option Int->Hp->VK->Prop:=λx lo hi H Q=>∃a xs,x=.ref a/\fV K H a xs /\
 ((HT.bQ xs.length 0 lo=0/\HT.bQ xs.length xs.length hi=xs.length)->Q (.ref a) H)/\∀p,H p=none->Q (.ref p) (upd H p (.tup (kY xs lo hi)))
theorem zh8:vd X (xM X.K):=by
 intro ao s Z H x v vl vu lo hi sl Q I rx hs pl pu h;obtain⟨a,xs,rfl,hx,hw,q⟩:=h;by_cases hz:HT.bQ xs.length 0 lo=0/\HT.bQ xs.length xs.length hi=xs.length
 ·cases rx;obtain⟨its,r,ht,_⟩:=I.tuple hx;have hlen:its.toArray.size=xs.length:=by rw[gW];exact r.length.symm
  refine⟨"tuple",_,Bo.lookup,ht.typeIs,?_⟩;exact HT.fG ht hs pl pu (by rw[hlen];exact hz) ⟨.ref a,H,I,rfl,hw hz⟩
 ·exact zlj ao s Z H (.ref a) v vl vu lo hi sl Q I rx hs pl pu ⟨a,xs,rfl,hx,hz,q⟩
end
section
variable {X:Cx}
noncomputable def xO(K:W.Frag):R2:=λx y H Q=>∃l b xs zs,x=.ref l/\y=.ref b/\eE K H l xs/\eE K H b zs/\xs.length+zs.length<=sizeLine/\∀p,H p=none->Q (.ref p) (upd H p (.lst (xs++zs)))
theorem vI:dO X (binaryOp .Add) (xO X.K):=by
 intro ao s Z H x y v u Q I rx ry h;obtain⟨l,b,xs,zs,rfl,rfl,hH,hB,hz,q⟩:=h;cases rx;cases ry;obtain⟨its,r,pl,_⟩:=I.list hH;obtain⟨its2,r2,pl2,_⟩:=I.list hB;obtain⟨⟨cls,dd,data,sl⟩,ho,hc,n,hd⟩:=pl.isList;obtain⟨⟨cls2,dd2,data2,sl2⟩,jO,lQ,n2,hd2⟩:=pl2.isList;simp only at hc hd lQ hd2;subst hc hd lQ hd2;refine concat_meets ⟨_,ho,rfl⟩ ⟨_,jO,rfl⟩ noFill_list_add seq_list_add PySem.F.slot_list_add PySem.F.entry_list_add (PySem.F.args_list_add_2 _ _) (list_addW l b its.toArray its2.toArray n n2 dd dd2 sl sl2 (by rw[gW,gW,<-r.length,<-r2.length];exact hz)) ⟨ho,jO,?_⟩;have ea:its.toArray++its2.toArray=(its++its2).toArray:=by simp
 rw[ea];exact⟨.ref _,_,I.Pa (t':=s.toks) (r.append r2) (by rw[ji];omega),rfl,q _ I.fresh⟩
noncomputable def pK(K:W.Frag):R2:=λx y H Q=>nM (λi j=>.int (i+j)) x y H Q\/xO K x y H Q\/sY K x y H Q\/∃i j,x=.str i/\y=.str j/\i.length+j.length<=sizeLine/\Q (.str (i++j)) H
theorem zfu:dO X (binaryOp .Add) (pK X.K):=yX.or (vI.or (sZ.or zeo))
end
end L2
namespace Mi
open PySem PySem.Spec PyProof.Rows L2
section
variable {K:W.Frag}{cA:Cl}{U:Ph}{H:Hp}{Q:VK}{p:Pr}
theorem bC.some'{o:Option Rz}(h:bC K cA U H o Q):∃z,o=some z:=by
 cases o with
 |none=>exact h.elim
 |some z=>exact⟨z,rfl⟩
theorem bC.of{o:Option Rz}{z:Rz}(h:bC K cA U H o Q)(e:o=some z):bC K cA U H (some z) Q:=e▸h
theorem bC.here{d:D}{v:V}(h:bC K cA U H (some (.dat d)) Q)(r:Rep K cA U H d v):Q v H:=h H v bH.refl r
theorem bC.tup{xs:List D}{vs:List V}{a:Addr}(h:bC K cA U H (some (.dat (.tup xs))) Q)(z:Zt U H)(r:aC K cA U H xs vs)(hp:H a=none):Q (.ref a) (upd H a (.tup vs)):=
 h _ _ (bH.new hp) (.tup (TupAt.new (z.nz hp)) (r.mono (bH.new hp).ext z.lz))
theorem vG.two{ds:List D}{vs:List V}{d d':D}(h:vG K cA U H [d,d'] vs):∃v v',vs=[v,v']/\Rv K cA U H d v/\Rv K cA U H d' v':=by
 cases h with
 |cons a r=>cases r with
  |cons b r=>cases r;exact⟨_,_,rfl,a,b⟩
theorem vG.one(h:vG K cA U H [d] vs):∃v,vs=[v]/\Rv K cA U H d v:=by
 cases h with
 |cons a r=>cases r;exact⟨_,rfl,a⟩
theorem Rv.int{i:Int}{v:V}(h:Rv K cA U H (.int i) v):v=.int i:=by cases (show Rep K cA U H (.int i) v from h);rfl
theorem Rv.bl{i:Bool}{v:V}(h:Rv K cA U H (.bl i) v):v=.bl i:=by cases (show Rep K cA U H (.bl i) v from h);rfl
theorem Rv.str{i:Str}{v:V}(h:Rv K cA U H (.str i) v):v=.str i:=by cases (show Rep K cA U H (.str i) v from h);rfl
theorem Rv.tup{xs:List D}{v:V}(h:Rv K cA U H (.tup xs) v):∃a vs,v=.ref a/\TupAt K U H a vs/\aC K cA U H xs vs:=by
 cases (show Rep K cA U H (.tup xs) v from h) with
 |tup a r=>exact⟨_,_,rfl,a,r⟩
theorem Rv.sq{d:D}{xs:List D}{v:V}(h:Rv K cA U H d v)(e:jw d=some xs):∃a vs,v=.ref a/\(eE K H a vs\/fV K H a vs)/\aC K cA U H xs vs:=by
 cases d with
 |tup ys=>
  cases e;obtain⟨a,vs,e,t,r⟩:=Rv.tup h;exact⟨a,vs,e,.inr t.iQ,r⟩
 |fl ys=>
  cases e;obtain⟨a,vs,e,l,r⟩:=h;exact⟨a,vs,e,.inl l,r⟩
 |_=>cases e
theorem Xa{f:Int->Int->Option D}{ds:List D}{z:Rz}(h:bZ f ds=some z):∃i j d,ds=[.int i,.int j]/\f i j=some d/\z=.dat d:=by
 cases ds with
 |nil=>cases h
 |cons a t=>
 cases a with
 |int i=>
  cases t with
  |nil=>cases h
  |cons b t=>
  cases b with
  |int j=>
   cases t with
   |cons _ _=>cases h
   |nil=>
    obtain⟨d,e1,e2⟩:=p7.mp h;exact⟨_,_,d,rfl,e1,e2.symm⟩
  |_=>cases h
 |_=>cases h
theorem Hy{f:Int->Int->Option D}(hp:prim p=bZ f){C:Int->Int->Prop}{g:Int->Int->V}(hf:∀i j d,f i j=some d->C i j/\∀U H,Rep K cA U H d (g i j)):bD K cA p (r2 (rI C g)):=by
 intro U H ds vs Q zt rs o;rw[hp] at o;obtain⟨z,e⟩:=o.some';obtain⟨i,j,d,rfl,e1,rfl⟩:=Xa e;obtain⟨c,r⟩:=hf i j d e1;obtain⟨v,v',rfl,r1,r2⟩:=rs.two (ds:=[]);rw[r1.int,r2.int];exact⟨_,_,rfl,i,j,rfl,rfl,c,(o.of e).here (r U H)⟩
theorem CP{f:Int->Int->D}(hp:prim p=bZ λi j=>some (f i j)){g:Int->Int->V}(hf:∀i j U H,Rep K cA U H (f i j) (g i j)):bD K cA p (r2 (nM g)):=by
 intro U H ds vs Q zt rs o;obtain⟨x,y,e,i,j,a,b,_,q⟩:=Hy (K:=K) (cA:=cA) (C:=λ_ _=>True) hp (λi j d e=>⟨trivial,λU H=>by cases e;exact hf i j U H⟩) U H ds vs Q zt rs o;exact⟨x,y,e,i,j,a,b,q⟩
theorem Hz{α:Type}{c:Prop}[Decidable c]{x y:α}(h:(if c then some x else none)=some y):c/\y=x:=by
 split at h
 ·rename_i z;cases h;exact⟨z,rfl⟩
 ·cases h
theorem zjf:bD K cA .aq (r2 (nM λi j=>.int (i-j))):=CP (f:=λi j=>.int (i-j)) rfl λi j _ _=>.int _
theorem zk6:bD K cA .mul (r2 (rI uZ λi j=>.int (i*j))):=Hy rfl λi j d e=>by obtain⟨c,rfl⟩:=Hz e;exact⟨c,λ_ _=>.int _⟩
theorem ziW:bD K cA .fdiv (r2 (rI uY λi j=>.int (i/j))):=Hy rfl λi j d e=>by obtain⟨c,rfl⟩:=Hz e;exact⟨c,λ_ _=>.int _⟩
theorem zkc:bD K cA .mod (r2 (rI (λ_ j=>0<j) λi j=>.int (i%j))):=Hy rfl λi j d e=>by obtain⟨c,rfl⟩:=Hz e;exact⟨c,λ_ _=>.int _⟩
theorem zjV:bD K cA .pow (r2 (rI Fl λi j=>.int (i^j.toNat))):=Hy rfl λi j d e=>by obtain⟨c,rfl⟩:=Hz e;exact⟨c,λ_ _=>.int _⟩
theorem zl2:bD K cA .le (r2 (nM λi j=>.bl (decide (i<=j)))):=CP (f:=λi j=>.bl (decide (i<=j))) rfl λi j _ _=>.bl _
theorem zl5:bD K cA .gt (r2 (nM λi j=>.bl (decide (j<i)))):=CP (f:=λi j=>.bl (decide (j<i))) rfl λi j _ _=>.bl _
theorem zlJ:bD K cA .ge (r2 (nM λi j=>.bl (decide (j<=i)))):=CP (f:=λi j=>.bl (decide (j<=i))) rfl λi j _ _=>.bl _
theorem zko:bD K cA .neg (λvs H Q=>∃x,vs=[x]/\rU (λi=>.int (-i)) x H Q):=by
 intro U H ds vs Q zt rs o;obtain⟨z,e⟩:=o.some';have e:pF (λi=>.int (-i)) ds=some z:=e;cases ds with
 |nil=>cases e
 |cons a t=>
 cases a with
 |int i=>
  cases t with
  |cons _ _=>cases e
  |nil=>
   cases e;obtain⟨v,rfl,r1⟩:=rs.one;exact⟨_,rfl,_,r1.int,bC.here (o.of rfl) (.int _)⟩
 |_=>cases e
theorem zmx:bD K cA .eq (r2 (vH K cA id)):=by
 intro U H ds vs Q zt rs o;obtain⟨z,e⟩:=o.some';have e:zK id ds=some z:=e;unfold zK at e;split at e
 ·obtain⟨b,e1,e2⟩:=p7.mp e;obtain⟨v,v',rfl,r1,r2⟩:=rs.two (ds:=[]);subst e2;exact⟨_,_,rfl,U,_,_,b,r1,r2,e1,(o.of e).here (.bl _)⟩
 ·cases e
theorem zmo:bD K cA .ne (r2 (vH K cA not)):=by
 intro U H ds vs Q zt rs o;obtain⟨z,e⟩:=o.some';have e:zK not ds=some z:=e;unfold zK at e;split at e
 ·obtain⟨b,e1,e2⟩:=p7.mp e;obtain⟨v,v',rfl,r1,r2⟩:=rs.two (ds:=[]);subst e2;exact⟨_,_,rfl,U,_,_,b,r1,r2,e1,(o.of e).here (.bl _)⟩
 ·cases e
theorem zi6{f:Bool->Bool}{ds:List D}{z:Rz}(h:GF f ds=some z):∃a b xs k,ds=[a,b]/\jw b=some xs/\memD a xs=some k/\z=.dat (.bl (f k)):=by
 unfold GF at h;split at h
 ·obtain⟨k,e1,e2⟩:=p7.mp h;obtain⟨xs,e3,e4⟩:=wg.mp e1;exact⟨_,_,xs,k,rfl,e3,e4,e2.symm⟩
 ·cases h
theorem zmw:bD K cA .inn (r2 (Hx K cA id)):=by
 intro U H ds vs Q zt rs o;obtain⟨z,e⟩:=o.some';obtain⟨a,b,xs,k,rfl,e1,e2,rfl⟩:=zi6 (show GF id ds=some z from e);obtain⟨v,v',rfl,r1,r2⟩:=rs.two (ds:=[]);exact⟨_,_,rfl,U,_,_,xs,k,r1,r2,e1,e2,(o.of e).here (.bl _)⟩
theorem CQ:∀{xs:List D} {ns:List Int} {vs:List V},bG xs=some ns->aC K cA U H xs vs->vs=ns.map V.int
 |[],ns,vs,h,r=>by cases h;cases r;rfl
 |d::xs,ns,vs,h,r=>by
  cases d with
  |int i=>
   simp only[bG,p7] at h;obtain⟨ns',h1,rfl⟩:=h;cases r with
   |cons a r=>cases a;rw[CQ h1 r];rfl
  |_=>simp[bG] at h
theorem HB:∀(a b:List Int),ltI a b=HT.lexLt a b
 |_,[]=>by cases ‹List Int›<;>rfl
 |[],_::_=>rfl
 |x::xs,y::ys=>by
  unfold ltI;rw[HB xs ys,HT.dR]
theorem zlS:bD K cA .lt (r2 λx y H Q=>nM (λi j=>.bl (decide (i<j))) x y H Q\/FZ K x y H Q):=by
 intro U H ds vs Q zt rs o;obtain⟨z,e⟩:=o.some';have e:GD ds=some z:=e;unfold GD at e;split at e
 ·cases e;obtain⟨v,v',rfl,r1,r2⟩:=rs.two (ds:=[]);exact⟨_,_,rfl,.inl ⟨_,_,r1.int,r2.int,bC.here (o.of rfl) (.bl _)⟩⟩
 ·split at e
  ·rename_i a b h1 h2;cases e;obtain⟨v,v',rfl,r1,r2⟩:=rs.two (ds:=[]);obtain⟨p,us,rfl,t1,q1⟩:=r1.tup;obtain⟨p',us',rfl,t2,q2⟩:=r2.tup;have o2:bC K cA U H (some (.dat (.bl (ltI a b)))) Q:=by
    have o3:bC K cA U H (GD [.tup _,.tup _]) Q:=o;unfold GD at o3;simp only[h1,h2] at o3;exact o3
   refine⟨_,_,rfl,.inr ⟨p,p',a,b,rfl,rfl,by rw[<-CQ h1 q1];exact t1.iQ,by rw[<-CQ h2 q2];exact t2.iQ,?_⟩⟩;rw[<-HB];exact o2.here (.bl _)
  ·cases e
 ·cases e
theorem zkg:bD K cA .add (r2 (pK K)):=by
 intro U H ds vs Q zt rs o;have o:bC K cA U H (zJ ds) Q:=o;cases ds with
 |nil=>exact False.elim o
 |cons a t=>
 cases a with
 |int i=>
  cases t with
  |nil=>exact False.elim o
  |cons b t=>
  cases b with
  |int j=>
   cases t with
   |cons _ _=>exact False.elim o
   |nil=>
    obtain⟨v,v',rfl,r1,r2⟩:=rs.two (ds:=[]);exact⟨_,_,rfl,.inl ⟨_,_,r1.int,r2.int,bC.here o (.int _)⟩⟩
  |_=>exact False.elim o
 |tup xs=>
  cases t with
  |nil=>exact False.elim o
  |cons b t=>
  cases b with
  |tup ys=>
   cases t with
   |cons _ _=>exact False.elim o
   |nil=>
    obtain⟨v,v',rfl,r1,r2⟩:=rs.two (ds:=[]);obtain⟨p,us,rfl,t1,q1⟩:=r1.tup;obtain⟨p',us',rfl,t2,q2⟩:=r2.tup;have o:bC K cA U H (if xs.length+ys.length<=sizeLine then some (.dat (.tup (xs++ys))) else none) Q:=o;by_cases hz:xs.length+ys.length<=sizeLine
    ·rw[if_pos hz] at o;refine⟨_,_,rfl,.inr (.inr (.inl ⟨p,p',us,us',rfl,rfl,t1.iQ,t2.iQ,by rw[<-q1.len,<-q2.len];exact hz,λe=>?_,λe=>?_,λa ha=>o.tup zt (q1.app q2) ha⟩))⟩
     ·subst e;cases q1;exact o.here (.tup t2 q2)
     ·subst e;cases q2;rw[ug] at o;exact o.here (.tup t1 q1)
    ·rw[if_neg hz] at o;exact o.elim
  |_=>exact False.elim o
 |fl xs=>
  cases t with
  |nil=>exact False.elim o
  |cons b t=>
  cases b with
  |fl ys=>
   cases t with
   |cons _ _=>exact False.elim o
   |nil=>
    obtain⟨v,v',rfl,⟨p,us,rfl,t1,q1⟩,⟨p',us',rfl,t2,q2⟩⟩:=rs.two (ds:=[]);have o:bC K cA U H (if xs.length+ys.length<=sizeLine then some (.nw (xs++ys)) else none) Q:=o;by_cases hz:xs.length+ys.length<=sizeLine
    ·rw[if_pos hz] at o;exact⟨_,_,rfl,.inr (.inl ⟨p,p',us,us',rfl,rfl,t1,t2,by rw[<-q1.len,<-q2.len];exact hz,λa ha=>o a _ ha (q1.app q2)⟩)⟩
    ·rw[if_neg hz] at o;exact o.elim
  |_=>exact False.elim o
 |str x=>
  cases t with
  |nil=>exact False.elim o
  |cons b t=>
  cases b with
  |str y=>
   cases t with
   |cons _ _=>exact False.elim o
   |nil=>
    obtain⟨v,v',rfl,r1,r2⟩:=rs.two (ds:=[]);have o:bC K cA U H (if x.length+y.length<=sizeLine then some (.dat (.str (x++y))) else none) Q:=o;by_cases hz:x.length+y.length<=sizeLine
    ·rw[if_pos hz] at o;exact⟨_,_,rfl,.inr (.inr (.inr ⟨_,_,r1.str,r2.str,hz,o.here (.str _)⟩))⟩
    ·rw[if_neg hz] at o;exact o.elim
  |_=>exact False.elim o
 |_=>exact False.elim o
theorem zkA:bD K cA .len (λxs H Q=>∃p ys,xs=[.ref p]/\(eE K H p ys\/fV K H p ys)/\Q (.int ys.length) H):=by
 intro U H ds vs Q zt rs o;have o:bC K cA U H (vA (λxs=>some (.dat (.int xs.length))) ds) Q:=o;unfold vA at o;split at o
 ·obtain⟨v,rfl,r1⟩:=rs.one;obtain⟨z,e⟩:=o.some';obtain⟨xs,e1,e2⟩:=wg.mp e;obtain⟨a,us,rfl,sq,q⟩:=r1.sq e1;cases e2;refine⟨a,us,rfl,sq,?_⟩;rw[<-q.len];exact(o.of e).here (.int _)
 ·exact o.elim
theorem zgU:bD K cA .tuple (λxs H Q=>∃p ys,xs=[.ref p]/\((eE K H p ys/\∀l,H l=none->Q (.ref l) (upd H l (.tup ys)))\/(fV K H p ys/\Q (.ref p) H))):=by
 intro U H ds vs Q zt rs o;have o:bC K cA U H (nY ds) Q:=o;unfold nY at o;split at o
 ·rename_i d _;obtain⟨v,rfl,r1⟩:=rs.one;cases d with
  |tup xs=>
   obtain⟨a,us,rfl,t,q⟩:=r1.tup;exact⟨a,us,rfl,.inr ⟨t.iQ,bC.here o (.tup t q)⟩⟩
  |fl xs=>
   obtain⟨a,us,rfl,t,q⟩:=r1;exact⟨a,us,rfl,.inl ⟨t,λl hl=>bC.tup o zt q hl⟩⟩
  |_=>exact o.elim
 ·exact o.elim
theorem zji:bD K cA .abs (λxs H Q=>∃i,xs=[.int i]/\Q (.int (if i<0 then -i else i)) H):=by
 intro U H ds vs Q zt rs o;have o:bC K cA U H (pF (λi=>.int (if i<0 then -i else i)) ds) Q:=o;cases ds with
 |nil=>exact False.elim o
 |cons a t=>
 cases a with
 |int i=>
  cases t with
  |cons _ _=>exact False.elim o
  |nil=>
   obtain⟨v,rfl,r1⟩:=rs.one;rw[r1.int];exact⟨_,rfl,bC.here o (.int _)⟩
 |_=>exact False.elim o
theorem zi9:bD K cA .vq (λxs H Q=>(∃i,xs=[.int i]/\Q (.int i) H)\/∃k,xs=[.bl k]/\Q (.int (if k then 1 else 0)) H):=by
 intro U H ds vs Q zt rs o;have o:bC K cA U H (GK ds) Q:=o;cases ds with
 |nil=>exact False.elim o
 |cons a t=>
 cases a with
 |int i=>
  cases t with
  |cons _ _=>exact False.elim o
  |nil=>
   obtain⟨v,rfl,r1⟩:=rs.one;rw[r1.int];exact .inl ⟨_,rfl,bC.here o (.int _)⟩
 |bl k=>
  cases t with
  |cons _ _=>exact False.elim o
  |nil=>
   obtain⟨v,rfl,r1⟩:=rs.one;rw[r1.bl];exact .inr ⟨_,rfl,bC.here o (.int _)⟩
 |_=>exact False.elim o
theorem zio:bD K cA .max2 (λxs H Q=>∃i j,xs=[.int i,.int j]/\Q (.int (if j>i then j else i)) H):=by
 intro U H ds vs Q zt rs o;obtain⟨x,y,e,i,j,rfl,rfl,q⟩:=CP (K:=K) (cA:=cA) (p:=.max2) (f:=λi j=>.int (if j>i then j else i)) rfl (λi j _ _=>.int _) U H ds vs Q zt rs o;exact⟨i,j,e,q⟩
theorem ziS:bD K cA .min2 (λxs H Q=>∃i j,xs=[.int i,.int j]/\Q (.int (if j<i then j else i)) H):=by
 intro U H ds vs Q zt rs o;obtain⟨x,y,e,i,j,rfl,rfl,q⟩:=CP (K:=K) (cA:=cA) (p:=.min2) (f:=λi j=>.int (if j<i then j else i)) rfl (λi j _ _=>.int _) U H ds vs Q zt rs o;exact⟨i,j,e,q⟩
theorem ze2:bD K cA .divmod (λxs H Q=>∃i j,xs=[.int i,.int j]/\uY i j/\∀p,H p=none->Q (.ref p) (upd H p (.tup [.int (i/j),.int (i%j)]))):=by
 intro U H ds vs Q zt rs o;have o:bC K cA U H (bZ (λi j=>if 0<j/\j<1073741824 then some (.tup [.int (i/j),.int (i%j)]) else none) ds) Q:=o;obtain⟨z,e⟩:=o.some';obtain⟨i,j,d,rfl,e1,rfl⟩:=Xa e;obtain⟨c,rfl⟩:=Hz e1;obtain⟨v,v',rfl,r1,r2⟩:=rs.two (ds:=[]);rw[r1.int,r2.int];exact⟨i,j,rfl,c,λp hp=>(o.of e).tup zt (.cons (.int _) (.cons (.int _) .nil)) hp⟩
theorem Xb:∀{xs:List D} {bs:List Bool} {vs:List V},dX xs=some bs->aC K cA U H xs vs->vs=bs.map V.bl
 |[],bs,vs,h,r=>by cases h;cases r;rfl
 |d::xs,bs,vs,h,r=>by
  cases d with
  |bl b=>
   simp only[dX,p7] at h;obtain⟨bs',h1,rfl⟩:=h;cases r with
   |cons q r=>cases q;rw[Xb h1 r];rfl
  |_=>simp[dX] at h
theorem zmt:bD K cA .ix (r2 (O9 K)):=by
 intro U H ds vs Q zt rs o;have o:bC K cA U H (Qx ds) Q:=o;unfold Qx at o;split at o
 ·rename_i d i _;obtain⟨v,v',rfl,r1,r2⟩:=rs.two (ds:=[]);obtain⟨z,e⟩:=o.some';obtain⟨y,e1,e2⟩:=p7.mp e;obtain⟨xs,e3,e4⟩:=wg.mp e1;obtain⟨a,us,rfl,sq,q⟩:=r1.sq e3;have key:∃w,L2.o9 us i=some w/\Rep K cA U H y w:=by
   unfold L2.o9 at *;rw[<-q.len];obtain⟨j,h1,h2⟩:=wg.mp e4;obtain⟨w,h3,h4⟩:=q.get h2;exact⟨w,by rw[h1];exact h3,h4⟩
  obtain⟨w,hw,mz⟩:=key;subst e2;have q':=(o.of e).here mz;rcases sq with sq|sq
  ·exact⟨_,_,rfl,.inl ⟨a,us,i,w,rfl,r2.int,sq,hw,q'⟩⟩
  ·exact⟨_,_,rfl,.inr (.inl ⟨a,us,i,w,rfl,r2.int,sq,hw,q'⟩)⟩
 ·exact o.elim
noncomputable def Xc(K:W.Frag):V->Option Int->Option Int->Hp->VK->Prop:=λx lo hi H Q=>Gf K x lo hi H Q\/xM K x lo hi H Q
theorem zlf:vd X (Xc X.K):=vh.or zh8
theorem zh1{d:D}{lo hi:Option Int}{v:V}(zt:Zt U H)(r:Rv K cA U H d v)(o:bC K cA U H (cutD d lo hi) Q):Xc K v lo hi H Q:=by
 cases d with
 |tup xs=>
  obtain⟨a,us,rfl,t,q⟩:=r.tup;refine .inr ⟨a,us,rfl,t.iQ,λe=>?_,λp hp=>bC.tup o zt q.cut hp⟩;have hc:cut xs lo hi=xs:=by
   unfold cut;rw[q.len,e.1,e.2,List.drop_zero,Nat.sub_zero,<-q.len,BR]
  have o:bC K cA U H (some (.dat (.tup (cut xs lo hi)))) Q:=o;rw[hc] at o;exact o.here (.tup t q)
 |fl xs=>
  obtain⟨a,us,rfl,t,q⟩:=r;exact .inl ⟨a,us,rfl,t,λp hp=>o p _ hp q.cut⟩
 |_=>exact o.elim
end
end Mi
namespace L2
open PySem PySem.Spec PyProof.Rows
section
variable {X:Cx}{ao:List (Addr×Obj)}{Z:St}{H:Hp}{s:Shared}{a:Addr}{y v:V}{u r:Value}{o:Option V}{A:Around}{E:Value->Shared->Prop}
theorem Inv.big(I:Inv X ao Z H s):sysModules<s.heap.objs.size:=by
 have h:mainGlobals<s.heap.objs.size:=(I.mod.glob.keeps I.bk).lt;exact Nat.lt_trans J0 h
end
end L2
namespace Mi
open PySem PySem.Spec PyProof.Rows L2
section
variable {X:Cx}{cA:Cl}{aq:Nat->Nat->Bool}{aj:Bool}{F:Fn}{EX:XS}{a b c d e o:Expr}{A B C Dd E' O:E}{pos pp p2 apos cpos:Pos}{es:List Expr}{Xs:Es}{fz:Bool}{p:Pr}{x:Str}{U:Ph}{H:Hp}{s:S}{lo hi:Option Expr}{Lo Hi:Eo}
def HD(X:Cx)(cA:Cl)(aq:Nat->Nat->Bool)(aj:Bool)(F:Fn)(EX:XS)(oe:Option Expr)(m:Eo):Prop:=
 PO X oe (λZ H Q=>∃U J s,aP X.K cA U H Z J/\aD X.K cA U H s/\Run X.K cA (vC aq aj F m J) U H s (λi _ U' H'=>Q i H') (eX X.K cA EX Z))
theorem PO.weak{oe:Option Expr}{t t':TO}(h:PO X oe t)(f:∀Z H Q,t' Z H Q->t Z H Q):PO X oe t':=by
 intro ao s Z H Q I q;exact h ao s Z H Q I (f Z H Q q)
theorem zly:HD X cA aq aj F EX none .no:=PO.weak ziK λZ H Q hh=>un hh λU J s hL hS h=>h.bR hS
theorem zk5(ha:SE X cA aq aj F EX a A):HD X cA aq aj F EX (some a) (.yes A):=PO.weak (ziP ha) λZ H Q hh=>un hh λU J s hL hS h=>by
 refine bI hL hS h λx H1 U1 d1 s1 x1 hL1 aG r1 h1=>?_;obtain⟨i,_,e,h3⟩:=Ht r1 h1;exact⟨i,e,h3.bR aG⟩
theorem HF{β:Type}{Z:L2.St}{J:Vs}{m:Eo}{k:Option Int->M β}{P:β->S->Ph->Hp->Prop}(hL:aP X.K cA U H Z J)(hS:aD X.K cA U H s)(h:Run X.K cA (M.bd (vC aq aj F m J) k) U H s P (eX X.K cA EX Z)){Q:Option Int->Hp->Prop}
  (f:∀i H1 U1 s1,Ext U H U1 H1->aP X.K cA U1 H1 Z J->aD X.K cA U1 H1 s1->Run X.K cA (k i) U1 H1 s1 P (eX X.K cA EX Z)->Q i H1) :
  ∃U J s,aP X.K cA U H Z J/\aD X.K cA U H s/\Run X.K cA (vC aq aj F m J) U H s (λi _ U' H'=>Q i H') (eX X.K cA EX Z):=
 ⟨U,J,s,hL,hS,h.bd.imp λi s1 U1 H1 ⟨x1,r1,h1⟩=>f i H1 U1 s1 x1 (hL.mono x1 hS.lz) r1 h1⟩
theorem zml(ha:SE X cA aq aj F EX a A)(hl:HD X cA aq aj F EX lo Lo)(hh:HD X cA aq aj F EX hi Hi):SE X cA aq aj F EX (.Subscript a (.Slice lo hi none p2) pos) (.sl fz A Lo Hi):=PE.weak (zgi zlf ha hl hh) λZ H Q hh=>un hh λU J s hL hS h=>by
 refine bI hL hS h λx H1 U1 d1 s1 x1 hL1 aG r1 h1=>HF hL1 aG h1 λl H2 U2 s2 x2 hL2 aV h2=>HF hL2 aV h2 λu H3 U3 s3 x3 ou h_ h3=>?_;obtain⟨dd,rv,h4⟩:=Q6 h_ ((r1.mono x2 aG.lz).mono x3 aV.lz) h3;exact zh1 h_.zs rv (sV h_ h4)
theorem Xd:∀bs:List Bool,(List.range bs.length).all (λi=>(bs[i]?).getD false)=bs.all id
 |[]=>rfl
 |b::r=>by
  rw[dB,Js,yG,List.all_map,yG];have:=Xd r;simp only[Function.comp_def,List.getElem?_cons_succ,List.getElem?_cons_zero,Option.getD_some,id];rw[this]
theorem zfT(hc:X.aj=true):cG X (.builtin "all") (λxs H Q=>∃(p:Addr) (bs:List Bool),xs=[.ref p]/\eE X.K H p (bs.map V.bl)/\Q (.bl (bs.all id)) H):=by
 rintro ao s Z H xs us Q I r ⟨p,bs,e,hp,q⟩;subst e;obtain⟨u,rfl,ru⟩:=Vals.one r;cases (show u=Value.ref p from ru);obtain⟨its,rv,pl,hz⟩:=I.list hp;have hl:s.heap.IsList p its.toArray:=pl.isList;have hpn:p≠s.heap.objs.size:=by
  obtain⟨o,hg,_⟩:=hl;exact dM (bV hg)
 refine call_all_walk (JL hl ?_);refine⟨_,_,_,_,_,_,λi=>(bs[i]?).getD false,rfl,Walks.list (A:=X.A.in1) (I.ok.hd hc) _ p hpn its.toArray,⟨⟨_,fC _ rfl,rfl,rfl⟩,hl.push _⟩,?_,λh' tk hk=>?_⟩
 ·intro i v s' Q' E' hP hQ;have hi:its[i]?=some v:=by simpa using hP
  have hb:∃b,bs[i]?=some b:=by
   have fX:i<its.length:=(gD.mp hi).1;have z:=rv.length;rw[cY] at z;exact⟨_,i_ gV⟩
  obtain⟨b,hb⟩:=hb;obtain⟨u,e1,e2⟩:=rv.get (i:=i) (x:=V.bl b) (by rw[jo,hb];rfl);rw[hi] at e1;cases e1;cases (show v=Value.bool b from e2);have hQ:Q' ((bs[i]?).getD false) s':=hQ;rw[hb] at hQ;exact yw hQ
 ·have ez:(List.range its.toArray.size).all (λi=>(bs[i]?).getD false)=bs.all id:=by
   have z:=rv.length;rw[cY] at z;rw[gW,<-z];exact Xd bs
  rw[ez];refine⟨.bl (bs.all id),H,I.kept (h':=h') (t':=tk) (old_kept hk),rfl,q⟩
theorem zjC{K:W.Frag}:bD K cA .all (λxs H Q=>∃(p:Addr) (bs:List Bool),xs=[.ref p]/\eE K H p (bs.map V.bl)/\Q (.bl (bs.all id)) H):=by
 intro U H ds vs Q zt rs o;have o:bC K cA U H (zL ds) Q:=o;unfold zL at o;split at o
 ·obtain⟨v,rfl,⟨ad,us,rfl,l,q⟩⟩:=rs.one;obtain⟨z,e⟩:=o.some';obtain⟨bs,e1,e2⟩:=p7.mp e;subst e2;exact⟨ad,bs,rfl,by rw[<-Xb e1 q];exact l,(o.of e).here (.bl _)⟩
 ·exact o.elim
noncomputable def K6:Kd->String->Bool
 |.int,"int"=>true
 |.int,"bool"=>true
 |.bool,"bool"=>true
 |.str,"str"=>true
 |.tuple,"tuple"=>true
 |.list,"list"=>true
 |.dict,"dict"=>true
 |_,_=>false
noncomputable def tu:Kd->Option Value
 |.int=>some (.type "int")
 |.bool=>some (.type "bool")
 |.str=>some (.type "str")
 |.tuple=>some (.type "tuple")
 |.list=>some (.type "list")
 |.dict=>some (.type "dict")
 |_=>none
theorem zjs{K:W.Frag}{k:Kd}{cu:Value}(h:tu k=some cu){T:String}(hT:T∈["NoneType","bool","int","str","tuple","list","dict"]):PySem.W.kitOne K (.type T) cu=some (K6 k T):=by
 simp only[gG,List.mem_nil_iff,or_false] at hT;cases k<;>simp only[tu] at h<;>cases h<;>rcases hT with rfl|rfl|rfl|rfl|rfl|rfl|rfl<;>rfl
structure HJ(K:W.Frag)(cA:Cl)(aq:Nat->Nat->Bool):Prop where
 xc:∀c,XC K (cA.a c)
 aq:∀c e,PySem.W.kitOne K (.ref (cA.a c)) (.ref (cA.a e))=some (aq c e)
 qp:∀c,PySem.W.kitOne K (.ref (cA.a c)) (.type "ValueError")=some true
noncomputable def CT(cA:Cl):Kd->V
 |.cls e=>.ref (cA.a e)
 |.qp=>.ty "ValueError"
 |.int=>.ty "int"
 |.bool=>.ty "bool"
 |.str=>.ty "str"
 |.tuple=>.ty "tuple"
 |.list=>.ty "list"
 |.dict=>.ty "dict"
theorem zgF(Cs:tu k=none->HJ X.K cA aq) :
  cG X (.builtin "isinstance") (λxs H Q=>∃U d v bb,xs=[v,CT cA k]/\Rv X.K cA U H d v/\jZ aq d k=some bb/\Q (.bl bb) H):=by
 rintro ao sh Z H xs us Q I r ⟨U,d,v,bb,e,rd,hi,q⟩;subst e;obtain⟨u,w,rfl,ru,Rb⟩:=Vals.two r;have tD:∀tk,EP X ao Z Q (.bool bb) {sh with toks:=tk}:=λtk=>⟨.bl bb,H,I.tok tk,rfl,q⟩;have bt:∀{T:String} {Hh:Heap->Prop},PySem.W.KitX X.K u (.type T) Hh->Hh sh.heap->T∈["NoneType","bool","int","str","tuple","list","dict"]->u≠Value.builtin "__main__.__loader__#opaque"->(∃cu,tu k=some cu/\w=cu/\K6 k T=bb)->wpAny (model X.prog X.w) X.A (PySem.call (.builtin "isinstance") [u,w]) (EP X ao Z Q) X.xe sh:=λ{T Hh} zzZ hh hT hx ⟨cu,h1,h2,h3⟩=>by
  subst h2 h3;exact PySem.W.kia_one zzZ I.nJ hh (zjs h1 hT) hx tD
 have wv:∀cu,tu k=some cu->w=cu:=λcu h=>by
  cases k<;>simp only[tu] at h<;>cases h<;>exact Rb
 have fin:∀T,jZ aq d k=(match tu k with|some _=>some (K6 k T)|none=>none)->∃cu,tu k=some cu/\w=cu/\K6 k T=bb:=λT h=>by
  rw[hi] at h;cases z:tu k with
  |none=>rw[z] at h;cases h
  |some cu=>rw[z] at h;cases h;exact⟨cu,rfl,wv cu z,rfl⟩
 cases d with
 |non=>
  cases (show Rep X.K cA U H .non v from rd);cases (show u=Value.none from ru);exact bt PySem.W.kitx_none trivial Qi (λz=>nomatch z) (fin "NoneType" (by cases k<;>rfl))
 |bl b=>
  cases rd.bl;cases (show u=Value.bool b from ru);exact bt PySem.W.kitx_bool trivial Qi (λz=>nomatch z) (fin "bool" (by cases k<;>rfl))
 |int i=>
  cases rd.int;obtain⟨t,z⟩:=(show ∃t,u=Value.int i t from ru);cases z;exact bt PySem.W.kitx_int trivial Qi (λz=>nomatch z) (fin "int" (by cases k<;>rfl))
 |str y=>
  cases rd.str;obtain⟨t,z⟩:=(show ∃t,u=Value.str y t from ru);cases z;exact bt PySem.W.kitx_str trivial Qi (λz=>nomatch z) (fin "str" (by cases k<;>rfl))
 |tup xs=>
  obtain⟨ad,vs,rfl,h1,h2⟩:=rd.tup;cases (show u=Value.ref ad from ru);obtain⟨its,_,ht,_⟩:=I.tuple h1.iQ;obtain⟨o,q1,q2,_⟩:=ht;exact bt PySem.W.kitx_tuple ⟨o,q1,q2⟩ Qi (λz=>nomatch z) (fin "tuple" (by cases k<;>rfl))
 |fl xs=>
  obtain⟨ad,vs,rfl,h1,h2⟩:=rd;cases (show u=Value.ref ad from ru);obtain⟨its,_,ht,_⟩:=I.list h1;obtain⟨o,q1,q2,_⟩:=ht.isList;exact bt PySem.W.kitx_list ⟨o,q1,q2⟩ Qi (λz=>nomatch z) (fin "list" (by cases k<;>rfl))
 |fd ks vs=>
  cases (show Rep X.K cA U H (.fd ks vs) v from rd) with
  |@fd ad kk ii q1 n=>
   cases (show u=Value.ref ad from ru);obtain⟨_,_,vs,_,o,es',ep,g1,g2,_⟩:=(show bO X.prog X.w H sh.heap ad (.dK [(.inr kk,.int ii)]) from I.hok ad _ q1);exact bt PySem.W.kitx_dict ⟨o,g1,g2.1⟩ Qi (λz=>nomatch z) (fin "dict" (by cases k<;>rfl))
 |ob c fs=>cases k<;>cases hi
 |any=>cases k<;>cases hi
 |exc c fs=>
  cases (show Rep X.K cA U H (.exc c fs) v from rd) with
  |@exc ad _ _ vs hx rs=>
   cases (show u=Value.ref ad from ru);have hI:∃ox od,PySem.W.InstAt sh.heap ad ox (cA.a c) od:=by
    obtain⟨_,⟨_,_,hx⟩|⟨dx,hx,_,hd,_⟩⟩:=hx
    ·obtain⟨⟨oe,vs,g1,g2,g3,g4⟩,_⟩:=(show bO X.prog X.w H sh.heap ad (vo ad (cA.a c) none) from I.hok ad _ hx);exact⟨oe,none,g1,g2,by unfold PySem.W.notCls;rw[g4],by rw[g3];trivial⟩
    ·obtain⟨⟨oe,vs,g1,g2,g3,g4⟩,_⟩:=(show bO X.prog X.w H sh.heap ad (vo ad (cA.a c) (some dx)) from I.hok ad _ hx);obtain⟨mA,⟨od,es,ep,e1,c1⟩,_⟩:=(show bO X.prog X.w H sh.heap dx (.xd _) from I.hok dx _ hd);exact⟨oe,some od,g1,g2,by unfold PySem.W.notCls;rw[g4],by rw[g3];exact e1⟩
   cases k with
   |cls e=>
    cases (show w=Value.ref (cA.a e) from Rb);have z:some (aq c e)=some bb:=hi;cases z;exact PySem.W.kia_one (Wr ((Cs rfl).xc c)) I.nJ hI ((Cs rfl).aq c e) (λz=>nomatch z) tD
   |qp=>
    cases (show w=Value.type "ValueError" from Rb);have z:some true=some bb:=hi;cases z;exact PySem.W.kia_one (Wr ((Cs rfl).xc c)) I.nJ hI ((Cs rfl).qp c) (λz=>nomatch z) tD
   |_=>cases hi
theorem zjH(Cs:tu k=none->HJ X.K cA aq)(hg:Gl X "isinstance")(hm:X.mg "isinstance"=none)(ha:SE X cA aq aj F EX a A)(hk:PE X kx (tC (CT cA k)))(h1:starEach [a,kx] X.env=(false,eval a X.env)::starEach [kx] X.env:=by rfl)(h2:starEach [kx] X.env=(false,eval kx X.env)::starEach [] X.env:=by rfl)
  (cP:(backTo pos (starEach [kx] X.env)).any (·.1)=false:=by rfl):SE X cA aq aj F EX (.Call (.Name "isinstance" pp) [a,kx] [] pos) (.pD A k):=PE.weak (Kp (zgF (cA:=cA) (k:=k) Cs) hg hm PyProof.Rows.boot_isinstance (oZ ha (oZ hk u5 h2) h1) J0 J0 h1 cP) λZ H Q hh=>un hh λU J s hL hS h=>
 bI hL hS h λv H1 U1 d s1 x1 hL1 aG r1 h1=>by
  show ∃U d' v' bb,[v,CT cA k]=[v',CT cA k]/\_;obtain⟨dd,rv,h2⟩:=Q6 aG r1 h1;obtain⟨bb,e,h3⟩:=Hs h2;exact⟨U1,dd,v,bb,rfl,rv,e,h3.bR aG _ (.d (.bl bb))⟩
end
theorem Xe(n:Nat):∀is js:List Int,dj (cT n) (is.map .int) (js.map .int)=some (decide (is=js))
 |[],[]=>rfl
 |[],_::_=>rfl
 |_::_,[]=>rfl
 |i::is,j::js=>by
  have e:cT n (.int i) (.int j)=some (i==j):=by cases n<;>rfl
  simp only[jq,dj,Xe n is js,e]
  congr 1
  by_cases h:i=j
  ·subst h;by_cases h2:is=js<;>simp[h2]
  ·simp[h]
theorem zlp{a b:Kx}:cT 2 (qy a) (qy b)=some (decide (a=b)):=by
 cases a with
 |non=>cases b<;>rfl
 |int i=>cases b with
  |int j=>
   show some (i==j)=_;by_cases h:i=j
   ·subst h;simp
   ·have hn:¬Kx.int i=Kx.int j:=λz=>h (by cases z;rfl);simp[h,hn]
  |_=>rfl
 |row is=>cases b with
  |row js=>
   show dj (cT 1) (is.map .int) (js.map .int)=_;rw[Xe];by_cases h:is=js
   ·subst h;simp
   ·have hn:¬Kx.row is=Kx.row js:=λz=>h (by cases z;rfl);simp[h,hn]
  |_=>rfl
theorem Xf{x y:List Kx}:cT 3 (jz x) (jz y)=some (decide (x=y)):=by
 show dj (cT 2) (x.map qy) (y.map qy)=_
 induction x generalizing y with
 |nil=>cases y<;>rfl
 |cons a x ih=>cases y with
  |nil=>rfl
  |cons b y=>
   simp only[jq,dj,ih,zlp]
   congr 1
   by_cases h:a=b
   ·subst h;by_cases h2:x=y<;>simp[h2]
   ·simp[h]
theorem Xg:∀{xs:List D} {is:List Int},bG xs=some is->xs=is.map .int
 |[],is,h=>by cases h;rfl
 |x::r,is,h=>by
  cases x with
  |int i=>
   simp only[bG,p7] at h;obtain⟨js,h1,rfl⟩:=h;rw[Xg h1];rfl
  |_=>cases h
theorem zh6{d:D}{k:Kx}(h:sO d=some k):d=qy k:=by
 cases d with
 |non=>cases h;rfl
 |int i=>cases h;rfl
 |tup xs=>
  simp only[sO,p7] at h;obtain⟨js,h1,rfl⟩:=h;rw[Xg h1];rfl
 |_=>cases h
theorem Xh:∀{xs:List D} {k:List Kx},zU xs=some k->xs=k.map qy
 |[],k,h=>by cases h;rfl
 |x::r,k,h=>by
  unfold zU at h;cases e1:sO x with
  |none=>simp only[e1] at h;cases h
  |some a=>cases e2:zU r with
   |none=>simp only[e1,e2] at h;cases h
   |some b=>
    simp only[e1,e2] at h;cases h;rw[zh6 e1,Xh e2];rfl
theorem zk0{d:D}{k:List Kx}(h:kOf d=some k):d=jz k:=by
 cases d with
 |tup xs=>show D.tup xs=.tup _;rw[Xh h]
 |_=>cases h
noncomputable def Xi:Kx->Nat
 |.row is=>is.length+1
 |_=>1
noncomputable def tG:List Kx->Nat
 |[]=>0
 |x::r=>Xi x+tG r
section
variable {prog:Program}{w:World}{A:Around}{E:Value->Shared->Prop}{s:Shared}{h h':Heap}
theorem Xj:∀{is:List Int} {us:List Value},iu h (is.map .int) us->ItemsAre (intKind prog w) is us
 |[],us,r=>by cases r;exact .nil
 |i::is,us,r=>by
  cases r with
  |cons a r=>cases a with
   |int i t=>exact .cons (by simp[intKind,Value.isInt]) (Xj r)
   |oth k=>cases k
theorem tH{is:List Int}{a:Value}(x:Is h (.tup (is.map .int)) a):∃b,a=.ref b/\IsTupleKey (intKind prog w) h is b:=by
 cases x with
 |tup p r=>
  obtain⟨o,e,c,n,d⟩:=p;exact⟨_,rfl,o,_,n,e,c,d,by simpa using Xj r⟩
 |oth k=>cases k
theorem zih{x:Kx}{u:Value}{Q:Int->Shared->Prop}(hu:A.units<cLine)(hx:Is s.heap (qy x) u)(q:Q (QZ x) {s with toks:=s.toks+Xi x}):wpAny (model prog w) A (pyHash u) Q E s:=by
 cases x with
 |non=>
  cases hx with
  |non=>exact PySem.W.pyHash_slot (T:="NoneType") rfl F.slot_NoneType_hash F.entry_NoneType_hash (F.args_NoneType_hash_1 _) (beq_builtin_none _) (.inr hu) (aA (aO (aA (wpAny_mkInt (aO ⟨_,_,rfl,q⟩)))))
  |oth k=>cases k
 |int i=>
  cases hx with
  |int i t=>exact wpAny_pyHash_int q
  |oth k=>cases k
 |row is=>
  obtain⟨b,rfl,k⟩:=tH (prog:=prog) (w:=w) hx;exact wpAny_pyHash_tuple hu k q
theorem Xk{k:List Kx}:∀{r:List Kx} {us:List Value} {b:Array Int} {s:Shared} {Q:Array Int->Shared->Prop},A.units<cLine->iu s.heap (r.map qy) us->(∀b':Array Int,b'.toList=b.toList++r.map QZ->Q b' {s with toks:=s.toks+tG r})->
  wpAny (model prog w) A (forIn us b λx r=>do let h <-pyHash x;pure PUnit.unit;pure (ForInStep.yield (r.push h))) Q E s
 |[],us,b,s,Q,hu,x,q=>by cases x;exact aO (q b Qi)
 |a::r,us,b,s,Q,hu,x,q=>by
  cases x with
  |cons x1 x2=>
   rw[BW];refine aA (aA (zih hu x1 (aA (aO (aO ?_)))));refine Xk (k:=k) hu x2 λb' e=>?_;have:=q b' (by simp[e]);simpa [tG,Nat.add_assoc] using this
theorem zgZ{k:List Kx}{a:Addr}{Q:Int->Shared->Prop}(hu:A.units+1<cLine)(hk:Is s.heap (jz k) (.ref a))(q:Q (pI k) {s with toks:=s.toks+(tG k+1)}):wpAny (model prog w) A (pyHash (.ref a)) Q E s:=by
 cases hk with
 |oth k=>cases k
 |tup p r=>
  obtain⟨o,e,c,n,d⟩:=p;refine PySem.W.pyHash_slot (T:="tuple") ⟨_,e,c⟩ F.slot_tuple_hash F.entry_tuple_hash (F.args_tuple_hash_1 _) (beq_builtin_none _) (.inr gV) ?_;show wpAny _ _ (Builtin.Tuple.tupleItemsOf (.ref a) >>= _) _ _ s;refine aA (wpAny_tupleItemsOf e d (aA ?_));rw[<-Ng];refine Xk (A:=A.in1) (k:=k) (show A.units+1<cLine from hu) (by simpa using r) λb hb=>?_;show wpAny _ _ (retInt (Builtin.Tuple.tupleHashOf b.toList)) _ _ _;rw[hb];exact aA (wpAny_mkInt (aO ⟨_,_,rfl,by simpa [Nat.add_assoc,pI] using q⟩))
theorem Rf(ht:∀a xs,h.IsTuple a xs->h'.IsTuple a xs)(hl:∀a xs,h.IsList a xs->h'.IsList a xs){d:D}{u:Value}(x:Is h d u):Is h' d u:=
 Is.rec (motive_1:=λd u _=>Is h' d u) (motive_2:=λd u _=>iu h' d u) .non .bl .int .str (λp _ r=>.tup (ht _ _ p) r) (λp _ r=>.fl (hl _ _ p) r) (λk=>.oth k) .nil (λ_ _ a r=>.cons a r) x
theorem zgN:∀{n:Nat} {x:Kx} {u:Value} {Q:Bool->Shared->Prop},Is s.heap (qy x) u->Q true s->wpAny (model prog w) A (eqIsQuiet (n+1) u) Q E s:=by
 intro n x u Q hx q;cases x with
 |non=>
  cases hx with
  |non=>rw[eqIsQuiet_byValue _ rfl];exact aO q
  |oth k=>cases k
 |int i=>
  cases hx with
  |int i t=>rw[eqIsQuiet_byValue _ rfl];exact aO q
  |oth k=>cases k
 |row is=>
  obtain⟨b,rfl,k⟩:=tH (prog:=prog) (w:=w) hx;have ty:=k.typeIs;obtain⟨o,items,m,ho,_,hd,hi⟩:=k;unfold eqIsQuiet;refine aA (wpAny_specialOf ty F.slot_tuple_eq.lookup ?_);show wpAny _ A (isInstance (.ref b) (.type "tuple") >>= _) Q E s;refine aA (wpAny_isInstance ty isSubtype_tuple_tuple ?_);simp only[Bool.not_true,uc,qd];refine aA (oO ho hd (aA ?_));show wpAny _ A (forIn items _ _) _ E s;rw[<-Ng];refine DP _ (λl r t=>r.1=none/\t=s/\∀v∈l,carriedByValue v=true) _ (λv l r t z=>?_) (λr t z=>?_) _ _ ⟨rfl,rfl,hi.byValue⟩
  ·obtain⟨_,rfl,nQ⟩:=z;rw[eqIsQuiet_byValue _ (nQ v lV)];exact aA (aO (aO ⟨rfl,rfl,λy hy=>nQ y (iI _ hy)⟩))
  ·obtain⟨r1,r2⟩:=r;obtain⟨z1,rfl,_⟩:=z;cases z1;exact aO q
theorem zeW{k:List Kx}{a:Addr}{Q:Bool->Shared->Prop}(hk:Is s.heap (jz k) (.ref a))(q:Q true s):wpAny (model prog w) A (eqIsQuiet 8 (.ref a)) Q E s:=by
 cases hk with
 |oth k=>cases k
 |@tup _ _ its p r=>
  obtain⟨o,ho,c,n,hd⟩:=p;unfold eqIsQuiet;refine aA (wpAny_specialOf ⟨_,ho,c⟩ F.slot_tuple_eq.lookup ?_);show wpAny _ A (isInstance (.ref a) (.type "tuple") >>= _) Q E s;refine aA (wpAny_isInstance ⟨_,ho,c⟩ isSubtype_tuple_tuple ?_);simp only[Bool.not_true,uc,qd];refine aA (oO ho hd (aA ?_));show wpAny _ A (forIn its.toArray _ _) _ E s;rw[<-Ng];refine DP _ (λl r t=>r.1=none/\t=s/\∀v∈l,∃x,Is s.heap (qy x) v) _ (λv l r t z=>?_) (λr t z=>?_) _ _ ⟨rfl,rfl,?_⟩
  ·obtain⟨_,rfl,nQ⟩:=z;obtain⟨x,hx⟩:=nQ v lV;exact aA (zgN (n:=6) hx (aO ⟨rfl,rfl,λy hy=>nQ y (iI _ hy)⟩))
  ·obtain⟨r1,r2⟩:=r;obtain⟨z1,rfl,_⟩:=z;cases z1;exact aO q
  ·intro v hv;have:∀{ks:List Kx} {us:List Value},iu s.heap (ks.map qy) us->∀v∈us,∃x,Is s.heap (qy x) v:=λ{ks}=>by
    induction ks with
    |nil=>intro us r v hv;cases r;cases hv
    |cons y ks ih=>
     intro us r v hv;cases r with
     |cons a r=>
      rcases gG.mp hv with rfl|hv
      ·exact⟨y,a⟩
      ·exact ih r v hv
   exact this r v (by simpa using hv)
end
noncomputable def cF(prog:Program)(w:World):HeapKind prog w (List Kx) where
 is:=λh k a=>Is h (jz k) (.ref a)
 hash:=pI
 draws:=λk=>tG k+1
 room:=λA=>A.units+4<cLine
 inj:=λx y=>fH (Q9 3 x y Xf)
 keeps:=λ{h h' k a d o es ep} x ho hd hs=>Rf (λb xs ⟨q,e,c,n,z⟩=>⟨q,(hs.2 b λy=>by subst y;rw[ho] at e;cases e;rw[hd] at z;cases z).trans e,c,n,z⟩) (λb xs ⟨q,e,c,n,z⟩=>⟨q,(hs.2 b λy=>by subst y;rw[ho] at e;cases e;rw[hd] at z;cases z).trans e,c,n,z⟩) x
 pyHash:=λhu hk q=>zgZ gV hk q
 eqBool:=λ{A E s x y a b Q} hu hx hy q=>Hw 3 (show A.units+3<cLine by lia) hx hy Xf _ _ _ _ q
 quiet:=λhk q=>zeW hk q
section
variable {K:W.Frag}{cA:Cl}{U U':Ph}{H H':Hp}{s:S}
theorem TupAt.jC(e:∀a,U'.z a->U.z a){a:Addr}{vs:List V}(h:TupAt K U H a vs):TupAt K U' H a vs:=h.imp (λ⟨p,n⟩=>⟨p,λz=>n (e a z)⟩) id
theorem LstAt.jC(e:∀a,U'.z a->U.z a){a:Addr}{vs:List V}(h:LstAt K U H a vs):LstAt K U' H a vs:=h.imp (λ⟨p,n⟩=>⟨p,λz=>n (e a z)⟩) id
theorem ExcAt.jC(e:∀a,U'.z a->U.z a){a:Addr}{c:Nat}{vs:List V}(h:ExcAt cA U H a c vs):ExcAt cA U' H a c vs:=
 ⟨λz=>h.1 (e a z),h.2.imp id λ⟨dx,p,n,q,l⟩=>⟨dx,p,λz=>n (e dx z),q,l⟩⟩
theorem n_.jC(e:∀a,U'.z a->U.z a){a:Addr}{c:Nat}{vs:List V}(h:n_ cA U H a c vs):n_ cA U' H a c vs:=⟨λz=>h.1 (e a z),h.2⟩
theorem Rep.jC(e:∀a,U'.z a->U.z a){d:D}{v:V}(h:Rep K cA U H d v):Rep K cA U' H d v:=
 Rep.rec (motive_1:=λd v _=>Rep K cA U' H d v) (motive_2:=λd v _=>aC K cA U' H d v) .non .bl .int .str (λh _ i=>.tup (h.jC e) i) (λh _ i=>.fl (h.jC e) i) (λh n=>.fd h (λz=>n (e _ z))) (λh _ i=>.exc (h.jC e) i) (λh _ i=>.ob (h.jC e) i) .any .nil (λ_ _ i j=>.cons i j) h
theorem aC.jC(e:∀a,U'.z a->U.z a){d:List D}{v:List V}(h:aC K cA U H d v):aC K cA U' H d v:=
 aC.rec (motive_1:=λd v _=>Rep K cA U' H d v) (motive_2:=λd v _=>aC K cA U' H d v) .non .bl .int .str (λh _ i=>.tup (h.jC e) i) (λh _ i=>.fl (h.jC e) i) (λh n=>.fd h (λz=>n (e _ z))) (λh _ i=>.exc (h.jC e) i) (λh _ i=>.ob (h.jC e) i) .any .nil (λ_ _ i j=>.cons i j) h
theorem jE.jC(e:∀a,U'.z a->U.z a){a:Addr}{o:SO}(h:jE K cA U H a o):jE K cA U' H a o:=h.map (λ_ q=>q) λ_ _ r=>r.jC e
theorem Rep.zl{d:D}{v:V}(h:Rep K cA U H d v)(l:List Addr):Rep K cA ⟨U.z,l⟩ H d v:=Rep.jC (U:=U) (U':=⟨U.z,l⟩) (λ_ z=>z) h
theorem aC.zl{d:List D}{v:List V}(h:aC K cA U H d v)(l:List Addr):aC K cA ⟨U.z,l⟩ H d v:=aC.jC (U:=U) (U':=⟨U.z,l⟩) (λ_ z=>z) h
theorem jE.zl{a:Addr}{o:SO}(h:jE K cA U H a o)(l:List Addr):jE K cA ⟨U.z,l⟩ H a o:=jE.jC (U:=U) (U':=⟨U.z,l⟩) (λ_ z=>z) h
noncomputable def adr(l:List Addr):List Nat->List Addr
 |[]=>[]
 |n::r=>match l[n]? with
  |some a=>a::adr l r
  |none=>adr l r
theorem CV{l:List Addr}:∀{ns:List Nat} {a:Addr},a∈adr l ns->∃n∈ns,l[n]?=some a
 |[],a,h=>by cases h
 |n::r,a,h=>by
  unfold adr at h;cases e:l[n]? with
  |none=>
   simp only[e] at h;obtain⟨m,h1,h2⟩:=CV h;exact⟨m,iI _ h1,h2⟩
  |some b=>
   simp only[e] at h;rcases gG.mp h with rfl|h
   ·exact⟨n,lV,e⟩
   ·obtain⟨m,h1,h2⟩:=CV h;exact⟨m,iI _ h1,h2⟩
theorem Xl{s:S}:∀{ns:List Nat} {s0:S} {i n:Nat},iD s ns=some s0->ns[i]?=some n->s0[i]?=s[n]?/\∃o,s[n]?=some o
 |[],s0,i,n,h,e=>by simp at e
 |m::r,s0,i,n,h,e=>by
  unfold iD at h;cases e1:s[m]? with
  |none=>simp only[e1] at h;cases h
  |some o=>
   cases e2:iD s r with
   |none=>simp only[e1,e2] at h;cases h
   |some q=>
    simp only[e1,e2] at h;cases h;cases i with
    |zero=>simp at e;subst e;exact⟨by simp[e1],o,e1⟩
    |succ i=>simpa using Xl e2 (by simpa using e)
theorem Xm{s:S}:∀{ns:List Nat} {s0:S},iD s ns=some s0->s0.length=ns.length
 |[],s0,h=>by cases h;rfl
 |m::r,s0,h=>by
  unfold iD at h;cases e1:s[m]? with
  |none=>simp only[e1] at h;cases h
  |some o=>
   cases e2:iD s r with
   |none=>simp only[e1,e2] at h;cases h
   |some q=>
    simp only[e1,e2] at h;cases h;rw[dB,dB,Xm e2]
theorem HN{l:List Addr}:∀{ns:List Nat} {i n:Nat},(∀n∈ns,∃a,l[n]?=some a)->ns[i]?=some n->(adr l ns)[i]?=l[n]?
 |[],i,n,_,e=>by simp at e
 |m::r,i,n,h,e=>by
  obtain⟨a,ha⟩:=h m lV;unfold adr;simp only[ha];cases i with
  |zero=>simp at e;subst e;simp[ha]
  |succ i=>simpa using HN (λn hn=>h n (iI _ hn)) (by simpa using e)
theorem HS{l:List Addr}:∀{ns:List Nat},(∀n∈ns,∃a,l[n]?=some a)->(adr l ns).length=ns.length
 |[],_=>rfl
 |m::r,h=>by
  obtain⟨a,ha⟩:=h m lV;unfold adr;simp only[ha];rw[dB,dB,HS (λn hn=>h n (iI _ hn))]
theorem Xn{l:List Addr}(hl:l.Nodup):∀{ns:List Nat},ns.Nodup->(∀n∈ns,∃a,l[n]?=some a)->(adr l ns).Nodup
 |[],_,_=>BZ
 |m::r,hn,h=>by
  obtain⟨a,ha⟩:=h m lV;unfold adr;simp only[ha];obtain⟨h1,h2⟩:=uM.mp hn;refine uM.mpr ⟨λz=>?_,Xn hl h2 (λn hn=>h n (iI _ hn))⟩;obtain⟨n,q1,q2⟩:=CV z;have:m=n:=(Nk (gD.mp ha).1 hl).mp (ha.trans q2.symm);exact h1 (this▸q1)
theorem CW{s:S}:∀{ns:List Nat} {s1:S},(cN s ns s1).length=s.length
 |[],s1=>by cases s1<;>rfl
 |n::r,[]=>rfl
 |n::r,o::q=>by
  show (cN (s.set n o) r q).length=_;rw[CW,uh]
theorem Rg{s:S}:∀{ns:List Nat} {s1:S} {m:Nat},m∉ns->(cN s ns s1)[m]?=s[m]?
 |[],s1,m,_=>by cases s1<;>rfl
 |n::r,[],m,_=>rfl
 |n::r,o::q,m,h=>by
  show (cN (s.set n o) r q)[m]?=_;rw[Rg (λz=>h (iI _ z)),qW (λz=>h (by rw[z];exact lV))]
theorem Xo{s:S}:∀{ns:List Nat} {s1:S} {i m:Nat} {o:SO},ns.Nodup->ns[i]?=some m->s1[i]?=some o->m<s.length->(cN s ns s1)[m]?=some o
 |[],s1,i,m,o,_,e,_,_=>by simp at e
 |n::r,[],i,m,o,_,_,e,_=>by simp at e
 |n::r,q::qs,i,m,o,hn,e1,e2,hm=>by
  show (cN (s.set n q) r qs)[m]?=_;obtain⟨h1,h2⟩:=uM.mp hn;cases i with
  |zero=>
   simp at e1 e2;subst e1 e2;rw[Rg h1,Bq hm]
  |succ i=>exact Xo h2 (by simpa using e1) (by simpa using e2) (by rw[uh];exact hm)
theorem zfq:∀{xs:List Xv} {vs:List V} (l0:List Addr) (z:Addr->Prop) (k:Nat),aQ K cA U H xs vs->U.z=z->(∀i n,(locs xs)[i]?=some n->l0[k+i]?=U.l[n]?)->aQ K cA ⟨z,l0⟩ H (cU k xs) vs
 :=by
 intro xs vs l0 z k r0
 induction r0 generalizing k with
 |nil=>exact λ_ _=>.nil
 |@cons x v xs vs a q ih=>
  intro ez h;cases a with
  |d a=>exact .cons (.d (a.jC λb hb=>by rw[ez];exact hb)) (ih k ez h)
  |@l n a' a=>
   refine .cons (.l ?_) (ih (k+1) ez λi m e=>?_)
   ·have:=h 0 n rfl;rw[Nat.add_zero] at this;show l0[k]?=_;rw[this];exact a
   ·have:=h (i+1) m (by simpa [locs] using e);rw[<-this]
    congr 1
    lia
theorem zeA:∀{xs:List Xv} {vs:List V},aQ K cA U H xs vs->∀n∈locs xs,∃a,U.l[n]?=some a
 :=by
 intro xs vs r0
 induction r0 with
 |nil=>exact λn h=>by cases h
 |cons a q ih=>
  intro n h;cases a with
  |d a=>exact ih n h
  |l a=>
   rcases gG.mp h with rfl|h
   ·exact⟨_,a⟩
   ·exact ih n h
theorem Xp{xs:List Xv}{U1:Ph}{s0 s1:S}(hS:aD K cA U H s)(hn:(locs xs).Nodup)(ht:∀n∈locs xs,∃a,U.l[n]?=some a)(x:Ext ⟨U.z,adr U.l (locs xs)⟩ H U1 H')(r1:aD K cA U1 H' s1) :
  Ext U H ⟨U1.z,U.l⟩ H'/\aD K cA ⟨U1.z,U.l⟩ H' (cN s (locs xs) s1):=by
 have aq:∀a∈adr U.l (locs xs),a∈U.l:=λa ha=>by obtain⟨n,_,q⟩:=CV ha;exact gF q
 obtain⟨r,er,hr⟩:=x.more;have er:U1.l=adr U.l (locs xs)++r:=er;refine⟨⟨⟨[],by simp,by simp⟩,λa h=>x.qz a h,λa h=>x.jT a h,λa o h n=>x.frame a o h λz=>n (aq a z),x.stay⟩,?_⟩;refine⟨by rw[CW];exact hS.len,λn o a e1 e2=>?_,hS.uniq,λa ha=>x.qz a (hS.lz a ha),r1.zt⟩;have e2:U.l[n]?=some a:=e2;by_cases dG:n∈locs xs
 ·obtain⟨i,hi,ei⟩:=Nb dG;have ei:(locs xs)[i]?=some n:=by rw[i_ hi,ei]
  have ha:(adr U.l (locs xs))[i]?=some a:=by rw[HN ht ei];exact e2
  have Xq:U1.l[i]?=some a:=by rw[er,mZ (gD.mp ha).1];exact ha
  have fX:i<s1.length:=by rw[<-r1.len];exact(gD.mp Xq).1
  have hb:=Xo (s:=s) (s1:=s1) hn ei (i_ fX) (by rw[<-hS.len];exact(gD.mp e2).1);rw[hb] at e1;cases e1;exact jE.zl (r1.obj i _ a (i_ fX) Xq) _
 ·rw[Rg dG] at e1;have Rh:a∉adr U.l (locs xs):=λz=>by
   obtain⟨m,q1,q2⟩:=CV z;have:n=m:=(Nk (gD.mp e2).1 hS.uniq).mp (e2.trans q2.symm);exact dG (this▸q1)
  exact(hS.obj n o a e1 e2).map (λ_ q=>x.frame a _ q Rh) λ_ _ r=>Rep.zl ((Rep.zl r _).mono x λa ha=>hS.lz a (aq a ha)) _
theorem Xr{F:List Xv->M Xv}{xs:List Xv}{vs:List V}{Q:VK}{EE:Nat->List D->Ph->Hp->Prop}(hS:aD K cA U H s)(r:aQ K cA U H xs vs)
  (hE:∀c fs U1 U2 H',U1.z=U2.z->EE c fs U1 H'->EE c fs U2 H')
  (h:Run K cA (cg F xs) U H s (λx _ U' H'=>∀v,aW K cA U' H' x v->Q v H') (λc fs _ U' H'=>EE c fs U' H')) :
  ∃U0 s0,aQ K cA U0 H (cU 0 xs) vs/\aD K cA U0 H s0/\Run K cA (F (cU 0 xs)) U0 H s0 (λx _ U' H'=>∀v,aW K cA U' H' x v->Q v H') (λc fs _ U' H'=>EE c fs U' H'):=by
 unfold Run cg at h;by_cases hn:(locs xs).Nodup
 ·simp only[if_pos hn] at h;have ht:=zeA r;have aq:∀a∈adr U.l (locs xs),a∈U.l:=λa ha=>by obtain⟨n,_,q⟩:=CV ha;exact gF q
  cases e0:iD s (locs xs) with
  |none=>simp only[e0] at h
  |some s0=>
   simp only[e0] at h;refine⟨⟨U.z,adr U.l (locs xs)⟩,s0,zfq _ _ 0 r rfl (λi n e=>by rw[Nat.zero_add];exact HN ht e),?_,?_⟩
   ·refine⟨by rw[Xm e0];exact HS ht,λi o a e1 e2=>?_,Xn hS.uniq hn ht,λa ha=>hS.lz a (aq a ha),hS.zt⟩;have e2:(adr U.l (locs xs))[i]?=some a:=e2;have hi:i<(locs xs).length:=by rw[<-HS ht];exact(gD.mp e2).1
    have ei:(locs xs)[i]?=some ((locs xs)[i]):=i_ hi;rw[HN ht ei] at e2;rw[(Xl e0 ei).1] at e1;exact jE.zl (hS.obj _ o a e1 e2) _
   ·unfold Run;cases e1:F (cU 0 xs) s0 with
    |none=>simp only[e1] at h
    |some q=>
     obtain⟨q,s1⟩:=q;simp only[e1] at h;cases q with
     |er c fs=>
      intro U1 H' x r1;obtain⟨x2,r2⟩:=Xp (s0:=s0) hS hn ht x r1;exact hE c fs ⟨U1.z,U.l⟩ U1 H' rfl (h ⟨U1.z,U.l⟩ H' x2 r2)
     |ok y=>
      intro U1 H' x r1 v rv;obtain⟨x2,r2⟩:=Xp (s0:=s0) hS hn ht x r1;cases y with
      |d w=>
       cases rv with
       |d rv=>exact h ⟨U1.z,U.l⟩ H' x2 r2 v (.d (Rep.zl rv _))
      |l n=>
       cases rv with
       |@l _ a hl=>
        obtain⟨rr,er,hr⟩:=x.more;have er:U1.l=adr U.l (locs xs)++rr:=er;cases em:(locs xs)[n]? with
        |some m=>
         simp only[em] at h;refine h _ H' x2 r2 _ (.l ?_);show U.l[m]?=some a;have ha:(adr U.l (locs xs))[n]?=U.l[m]?:=HN ht em;have fX:n<(adr U.l (locs xs)).length:=by rw[HS ht];exact(gD.mp em).1
         rw[er,mZ fX] at hl;rw[<-ha];exact hl
        |none=>
         simp only[em] at h;have hge:(adr U.l (locs xs)).length<=n:=by rw[HS ht];exact qN.mp em
         have KH:a∈rr:=by
          rw[er,nA hge] at hl;exact gF hl
         have Rh:a∉U.l:=λz=>by
          obtain⟨o,eo⟩:=hS.zt a (hS.lz a z);rw[hr a KH] at eo;cases eo
         cases eo:s1[n]? with
         |none=>simp only[eo] at h
         |some o=>
          simp only[eo] at h;have ho:=r1.obj n o a eo hl;refine h ⟨U1.z,U.l++[a]⟩ H' ⟨⟨[a],rfl,by simpa using hr a KH⟩,x2.qz,x2.jT,x2.frame,x2.stay⟩ ?_ _ (.l (by show (U.l++[a])[s.length]?=_;rw[<-hS.len];simp));refine⟨by show (U.l++[a]).length=_;rw[ji,ji,CW,hS.len];rfl,λm o' a' e1 e2=>?_,?_,λb hb=>?_,r1.zt⟩
          ·have e2:(U.l++[a])[m]?=some a':=e2;by_cases hm:m<s.length
           ·rw[mZ (by rw[CW];exact hm)] at e1;rw[mZ (by rw[hS.len];exact hm)] at e2;exact jE.zl (r2.obj m o' a' e1 e2) _
           ·have CZ:m=s.length:=by
             have z:=(gD.mp e2).1;rw[ji,hS.len] at z;simp at z
             lia
            subst CZ;rw[nA (by rw[CW];exact cL _)] at e1;rw[nA (by rw[hS.len];exact cL _)] at e2;simp[CW] at e1;simp[hS.len] at e2;subst e1 e2;exact jE.zl ho _
          ·show (U.l++[a]).Nodup;rw[DK];refine⟨hS.uniq,by simp,λb hb c hc e=>?_⟩;simp at hc;subst hc e;exact Rh hb
          ·have hb:b∈U.l++[a]:=hb;rcases m5.mp hb with z|z
           ·exact x2.qz b (hS.lz b z)
           ·simp at z;subst z;exact r1.lz _ (gF hl)
 ·simp only[if_neg hn] at h
end
section
variable {X:Cx}{cA:Cl}{aq:Nat->Nat->Bool}{aj:Bool}{F:Fn}{EX:XS}{a b c d e o:Expr}{A B C Dd E' O:E}{pos pp p2 apos cpos:Pos}{es:List Expr}{Xs:Es}{fz:Bool}{p:Pr}{x:Str}{U:Ph}{H:Hp}{s:S}
theorem zfw{K:W.Frag}{β:Type}{x:Xv}{v:V}{k:Nat×List D->M β}{P:β->S->Ph->Hp->Prop}{Ee:Nat->List D->S->Ph->Hp->Prop}(hS:aD K cA U H s)(r:aW K cA U H x v)(h:Run K cA (M.bd (cM x) k) U H s P Ee) :
  ∃n ad xs vs,x=.l n/\v=.ref ad/\s[n]?=some (.lst xs)/\U.l[n]?=some ad/\H ad=some (.lst vs)/\aC K cA U H xs vs/\Run K cA (k (n,xs)) U H s P Ee:=by
 cases r with
 |d _=>exact h.elim
 |@l n ad hl=>
  unfold Run M.bd cM at h;dsimp only at h;cases e:s[n]? with
  |none=>rw[e] at h;exact h.elim
  |some o=>
   rw[e] at h;cases o with
   |lst xs=>
    obtain⟨vs,q1,q2⟩:=hS.obj n _ _ e hl;exact⟨n,ad,xs,vs,rfl,rfl,e,hl,q1,q2,h⟩
   |_=>exact h.elim
noncomputable def ni(K:W.Frag)(cA:Cl)(m:List Xv->M Xv):Sp:=λvs H Q E=>∃U xs s,aQ K cA U H xs vs/\aD K cA U H s/\Run K cA (m xs) U H s (λd _ U' H'=>∀v,aW K cA U' H' d v->Q v H') (λc fs _ U' H'=>∀dx,jB K cA U' H' c fs dx->E (.ref (cA.a c)) dx H')
theorem ziz{K:W.Frag}{U1 U2:Ph}{c:Nat}{fs:List D}{dx:Option Addr}(e:U1.z=U2.z)(h:jB K cA U2 H c fs dx):jB K cA U1 H c fs dx:=h.imp id λ⟨d,vs,a,b,c,l,r⟩=>⟨d,vs,a,by rw[e];exact b,c,l,r.jC λ_ z=>by rw[<-e];exact z⟩
theorem zhO{cm:Bool}{k f:Nat}{fa:Addr}{fd:FuncData}{ps:List Str}(Fo:bY X.prog X.w X.K X.mg X.base (fK X.prog X.w) cm k fa fd ps (ni X.K cA (F f)))(jd:cm=true->X.aj=true)(hr:bB k X.A)(hg:Gl X x)(hm:X.mg x=some (.ref fa))(hk:PySem.W.keepIn X.K (.ref fa)=true)(hb:Binds X.K fd ps [])(R:Raises X EX)
  (ha:SA X cA aq aj F EX (e::es) Xs) (ql:(x==("__debug__" : Str))=false:=by decide) (he:starEach (e::es) X.env=(false,eval e X.env)::starEach es X.env:=by rfl) (cP:(backTo pos (starEach es X.env)).any (·.1)=false:=by rfl) :
  SE X cA aq aj F EX (.Call (.Name x pp) (e::es) [] pos) (.call f Xs):=PE.weak (zgq Fo jd hr hg hm hk hb R ha ql he cP) λZ H Q hh=>un hh λU J s hL hS h=>
 oh hL hS h λvs H1 U1 ds s1 x1 hL1 aG r1 h1=>by
  obtain⟨U0,s0,a1,a2,a3⟩:=Xr (EE:=λc fs U' H'=>∀dx,jB X.K cA U' H' c fs dx->EX Z (.ref (cA.a c)) dx H') aG r1 (λc fs U1 U2 H' ez z dx q=>z dx (ziz ez q)) h1;exact⟨U0,_,s0,a1,a2,a3⟩
end
section
variable {K:W.Frag}{cA:Cl}{U U':Ph}{H H':Hp}{s:S}
def cD(U:Ph)(H H':Hp):Prop:=∀a o,H a=some o->¬U.z a->H' a=some o
theorem Rep.out(x:cD U H H'){d:D}{v:V}(h:Rep K cA U H d v):Rep K cA U H' d v:=
 Rep.rec (motive_1:=λd v _=>Rep K cA U H' d v) (motive_2:=λd v _=>aC K cA U H' d v) .non .bl .int .str
  (λh _ r=>.tup (h.imp (λz=>⟨z.1.imp (λq=>x _ _ q z.2) λw=>w.elim λo q=>⟨o,x _ _ q z.2⟩,z.2⟩) id) r)
  (λh _ r=>.fl (h.imp (λz=>⟨z.1.imp (λq=>x _ _ q z.2) λw=>w.elim λo q=>⟨o,x _ _ q z.2⟩,z.2⟩) id) r)
  (λh n=>.fd (x _ _ h n) n)
  (λh _ r=>.exc ⟨h.1,h.2.imp (λz=>z.elim λa z=>z.elim λb q=>⟨a,b,x _ _ q h.1⟩) λz=>z.elim λdx z=>⟨dx,x _ _ z.1 h.1,z.2.1,x _ _ z.2.2.1 z.2.1,z.2.2.2⟩⟩ r)
  (λh _ r=>.ob ⟨h.1,h.2.elim λdx z=>⟨dx,x _ _ z.1 h.1,z.2⟩⟩ r) .any .nil (λ_ _ a b=>.cons a b) h
theorem aC.out(x:cD U H H'){ds:List D}{vs:List V}(h:aC K cA U H ds vs):aC K cA U H' ds vs:=
 aC.rec (motive_1:=λ_ _ _=>True) (motive_2:=λd v _=>aC K cA U H' d v) trivial (λ_=>trivial) (λ_=>trivial) (λ_=>trivial) (λ_ _ _=>trivial) (λ_ _ _=>trivial) (λ_ _=>trivial) (λ_ _ _=>trivial) (λ_ _ _=>trivial) (λ_=>trivial) .nil (λh _ _ r=>.cons (h.out x) r) h
theorem aW.out(x:cD U H H'){d:Xv}{v:V}(h:aW K cA U H d v):aW K cA U H' d v:=by
 cases h with
 |d h=>exact .d (h.out x)
 |l h=>exact .l h
theorem aP.out(x:cD U H H')(h:aP K cA U H Z J):aP K cA U H' Z J:=⟨h.1,λi d e=>let ⟨v,a,b⟩:=h.2 i d e;⟨v,a,b.out x⟩⟩
theorem cD.refl:cD U H H:=λa o e _=>e
structure lU(K:W.Frag)(cA:Cl)(c:Src)(U:Ph)(H:Hp)(bF:L2.It):Prop where
 stop:∀U' H₁ H' s' i,Ext U H U' H₁->cD U' H₁ H'->aD K cA U' H' s'->c.at i s'=some none->bF.stop i H'
 go:∀U' H₁ H' s' i x,Ext U H U' H₁->cD U' H₁ H'->aD K cA U' H' s'->c.at i s'=some (some x)->bF.go i H'
 rG:∀U' H₁ H' s' i x v H2,Ext U H U' H₁->cD U' H₁ H'->aD K cA U' H' s'->c.at i s'=some (some x)->bF.rG i H' v H2->bH H' H2/\Rep K cA U' H2 x v
theorem LstAt.later(hz:∀a∈U.l,U.z a)(h:LstAt K U H a vs)(x:Ext U H U' H₁)(o:cD U' H₁ H'):LstAt K U' H' a vs:=
 (h.mono x hz).imp (λ⟨p,n⟩=>⟨p.imp (λq=>o _ _ q n) λ⟨w,q⟩=>⟨w,o _ _ q n⟩,n⟩) id
theorem TupAt.later(hz:∀a∈U.l,U.z a)(h:TupAt K U H a vs)(x:Ext U H U' H₁)(o:cD U' H₁ H'):TupAt K U' H' a vs:=
 (h.mono x hz).imp (λ⟨p,n⟩=>⟨p.imp (λq=>o _ _ q n) λ⟨w,q⟩=>⟨w,o _ _ q n⟩,n⟩) id
theorem lU.list(hz:∀a∈U.l,U.z a)(h:LstAt K U H a vs)(r:aC K cA U H xs vs):lU K cA (.fix xs) U H (Kh K a):=by
 refine⟨λU' H₁ H' s' i x o hS e=>⟨vs,(h.later hz x o).sU,?_⟩,λU' H₁ H' s' i d x o hS e=>?_,λU' H₁ H' s' i d v H2 x o hS e y=>?_⟩
 ·have e:xs[i]?=none:=dJ e;exact qN.mp ((r.mono x hz).none e)
 ·have e:xs[i]?=some d:=dJ e;obtain⟨v,q,_⟩:=r.get e;exact⟨vs,v,(h.later hz x o).sU,q⟩
 ·have e:xs[i]?=some d:=dJ e;obtain⟨rfl,y⟩:=y;obtain⟨w,q,mz⟩:=((r.mono x hz).out o).get e;have:=y vs (h.later hz x o).sU;rw[q] at this;cases this;exact⟨bH.refl,mz⟩
theorem lU.tuple(hz:∀a∈U.l,U.z a)(h:TupAt K U H a vs)(r:aC K cA U H xs vs):lU K cA (.fix xs) U H (Om K a):=by
 refine⟨λU' H₁ H' s' i x o hS e=>⟨vs,(h.later hz x o).iQ,?_⟩,λU' H₁ H' s' i d x o hS e=>?_,λU' H₁ H' s' i d v H2 x o hS e y=>?_⟩
 ·have e:xs[i]?=none:=dJ e;exact qN.mp ((r.mono x hz).none e)
 ·have e:xs[i]?=some d:=dJ e;obtain⟨v,q,_⟩:=r.get e;exact⟨vs,v,(h.later hz x o).iQ,q⟩
 ·have e:xs[i]?=some d:=dJ e;obtain⟨rfl,y⟩:=y;obtain⟨w,q,mz⟩:=((r.mono x hz).out o).get e;have:=y vs (h.later hz x o).iQ;rw[q] at this;cases this;exact⟨bH.refl,mz⟩
theorem Ri(h:(Src.live n).at i s=some o):∃xs,s[n]?=some (.lst xs)/\xs[i]?=o:=by
 unfold Src.at at h;dsimp only at h;cases e:s[n]? with
 |none=>rw[e] at h;cases h
 |some ob=>
  rw[e] at h;cases ob with
  |lst xs=>exact⟨xs,rfl,dJ h⟩
  |_=>cases h
theorem lU.live(h:U.l[n]?=some a):lU K cA (.live n) U H (Kh K a):=by
 refine⟨λU' H₁ H' s' i x o hS e=>?_,λU' H₁ H' s' i d x o hS e=>?_,λU' H₁ H' s' i d v H2 x o hS e y=>?_⟩
 ·obtain⟨xs,e1,e2⟩:=Ri e;obtain⟨vs,q1,q2⟩:=hS.obj n _ a e1 (x.get h);exact⟨vs,eE.of q1,qN.mp (q2.none e2)⟩
 ·obtain⟨xs,e1,e2⟩:=Ri e;obtain⟨vs,q1,q2⟩:=hS.obj n _ a e1 (x.get h);obtain⟨v,q3,_⟩:=q2.get e2;exact⟨vs,v,eE.of q1,q3⟩
 ·obtain⟨xs,e1,e2⟩:=Ri e;obtain⟨vs,q1,q2⟩:=hS.obj n _ a e1 (x.get h);obtain⟨w,q3,mz⟩:=q2.get e2;obtain⟨rfl,y⟩:=y;have:=y vs (eE.of q1);rw[q3] at this;cases this;exact⟨bH.refl,mz⟩
theorem Rj:(jh a b)[i]?=if i<(b-a).toNat then some (.int (a+i)) else none:=by
 unfold jh;rw[jo,List.getElem?_range']
where
 List.getElem?_range' {n i:Nat}:Option.map (λ(i:Nat)=>D.int (a+i)) (List.range n)[i]?=if i<n then some (.int (a+i)) else none:=by
  by_cases h:i<n
  ·rw[if_pos h,Jy h];rfl
  ·rw[if_neg h,List.getElem?_eq_none (by simp;lia)];rfl
theorem lU.range{a b:Int}:lU K cA (.fix (jh a b)) U H (Fe a (b-a).toNat):=by
 refine⟨λU' H₁ H' s' i x o hS e=>?_,λU' H₁ H' s' i d x o hS e=>?_,λU' H₁ H' s' i d v H2 x o hS e y=>?_⟩
 ·have e:(jh a b)[i]?=none:=dJ e;rw[Rj] at e;split at e
  ·cases e
  ·exact JM (by assumption)
 ·have e:(jh a b)[i]?=some d:=dJ e;rw[Rj] at e;split at e
  ·assumption
  ·cases e
 ·have e:(jh a b)[i]?=some d:=dJ e;rw[Rj] at e;split at e
  ·cases e;obtain⟨rfl,rfl⟩:=y;exact⟨bH.refl,.int _⟩
  ·cases e
end
noncomputable def Rm(K:W.Frag)(te:TE):TI:=λZ H R=>te Z H λv H1=>∃a,v=.ref a/\(((∃xs,eE K H1 a xs)/\R (Kh K a) H1)\/((∃xs,fV K H1 a xs)/\R (Om K a) H1))
theorem zjK(he:PE X l te):PI X tg l (Rm X.K te):=by
 intro ao s Z H R I h;refine bw (he ao s Z H _ I h) λv s1 hx=>Nv hx λx H1 I1 r1 a e q=>?_;subst e;cases r1;rcases q with ⟨⟨xs,hq⟩,q⟩|⟨⟨xs,hq⟩,q⟩
 ·obtain⟨its,rv,p,hz⟩:=I1.list hq;refine JL p.isList ?_;refine⟨s1.heap.objs.size,[s1.heap.objs.size],_,_,H1,rfl,I1.kept (t':=s1.toks) λb o e=>cO _ e,zfa a _,⟨_,fC _ rfl,rfl,rfl⟩,λb hb=>?_,q⟩;have e:b=s1.heap.objs.size:=by simpa using hb
  subst e;exact I1.uW (cL _) (I1.hok.fresh (cL _))
 ·obtain⟨its,rv,p,hz⟩:=I1.tuple hq;refine wpAny_pyIter_tuple (show s1.heap.IsTuple a its.toArray from p) ?_;refine⟨s1.heap.objs.size,[s1.heap.objs.size],_,_,H1,rfl,I1.kept (t':=s1.toks) λb o e=>cO _ e,zer a _,⟨_,fC _ rfl,rfl,rfl⟩,λb hb=>?_,q⟩;have e:b=s1.heap.objs.size:=by simpa using hb
  subst e;exact I1.uW (cL _) (I1.hok.fresh (cL _))
section
variable {X:Cx}{cA:Cl}{aq:Nat->Nat->Bool}{aj:Bool}{F:Fn}{EX:XS}{a b tg:Expr}{A B:E}{pos pp:Pos}
noncomputable def tI(K:W.Frag)(cA:Cl)(EX:XS)(m:Vs->M (Src×Nat)):TI:=λZ H R=>∃U J s,aP K cA U H Z J/\aD K cA U H s/\Run K cA (m J) U H s (λcn _ U1 H1=>∀bF,lU K cA cn.1 U1 H1 bF->R bF H1) (eX K cA EX Z)
def SI(X:Cx)(cA:Cl)(aq:Nat->Nat->Bool)(aj:Bool)(F:Fn)(EX:XS)(tg iter:Expr)(w:Wk):Prop:=PI X tg iter (tI X.K cA EX (gM aq aj F w))
theorem PI.weak{iter:Expr}{t t':TI}(h:PI X tg iter t)(f:∀Z H Q,t' Z H Q->t Z H Q):PI X tg iter t':=λao s Z H Q I q=>h ao s Z H Q I (f Z H Q q)
theorem zj2(ha:SE X cA aq aj F EX a A):SI X cA aq aj F EX tg a (.seq A):=PI.weak (zjK ha) λZ H R hh=>un hh λU J s hL hS h=>by
 refine bI hL hS h λv H1 U1 d s1 x1 hL1 aG r1 h1=>?_;cases r1 with
 |@l n ad hl=>
  unfold Run src at h1;dsimp only at h1;cases e:s1[n]? with
  |none=>rw[e] at h1;exact h1.elim
  |some o=>
   rw[e] at h1;cases o with
   |lst xs=>
    obtain⟨vs,q1,q2⟩:=aG.obj n _ _ e hl;exact⟨ad,rfl,.inl ⟨⟨vs,eE.of q1⟩,h1 U1 H1 Ext.refl aG _ (lU.live hl)⟩⟩
   |_=>exact h1.elim
 |d r1=>
  cases r1 with
  |tup q r=>exact⟨_,rfl,.inr ⟨⟨_,q.iQ⟩,h1 U1 H1 Ext.refl aG _ (lU.tuple aG.lz q r)⟩⟩
  |fl q r=>exact⟨_,rfl,.inl ⟨⟨_,q.sU⟩,h1 U1 H1 Ext.refl aG _ (lU.list aG.lz q r)⟩⟩
  |_=>exact h1.elim
theorem Xu{i:Int}(h:eY i=true) : -(2^62)<=i/\i<2^62:=by
 unfold eY at h;rw[gq,BL,BL] at h;exact⟨by lia,h.2⟩
theorem Xw{K:W.Frag}{U:Ph}{H:Hp}{s:S}{i j:Int}{P:Src×Nat->S->Ph->Hp->Prop}{Ee:Nat->List D->S->Ph->Hp->Prop}(hS:aD K cA U H s)(h:Run K cA (if (eY i&&eY j)=true then M.ret (Src.fix (jh i j),(jh i j).length) else M.no) U H s P Ee):(-(2^62)<=i/\i<2^62/\-(2^62)<=j/\j<2^62)/\P (.fix (jh i j),(jh i j).length) s U H:=by
 by_cases hk:(eY i&&eY j)=true
 ·rw[if_pos hk] at h;rw[gq] at hk;obtain⟨a,b⟩:=Xu hk.1;obtain⟨c,d⟩:=Xu hk.2;exact⟨⟨a,b,c,d⟩,h.bR hS⟩
 ·rw[if_neg hk] at h;exact h.elim
theorem zmz(qC:Gl X "range")(hmg:X.mg "range"=none)(ha:SE X cA aq aj F EX a A)(hb:SE X cA aq aj F EX b B)(h1:starEach [a,b] X.env=(false,eval a X.env)::starEach [b] X.env)(h2:starEach [b] X.env=(false,eval b X.env)::starEach [] X.env) :
  SI X cA aq aj F EX tg (.Call (.Name "range" pp) [a,b] [] pos) (.rg A B):=PI.weak (zfV qC hmg (oZ ha (oZ hb u5 h2) h1) (by rw[h1,h2];rfl) (by rw[h2];rfl)) λZ H R hh=>un hh λU J s hL hS h=>by
 refine bI hL hS h λx H1 U1 d1 s1 x1 hL1 aG r1 h1=>bI hL1 aG h1 λy H2 U2 d2 s2 x2 hL2 aV r2 h2=>?_;obtain⟨i,_,e1,h3⟩:=Ht (r1.mono x2 aG.lz) h2;obtain⟨j,_,e2,h4⟩:=Ht r2 h3;obtain⟨hz,q⟩:=Xw aV h4;subst e1 e2;exact⟨i,j,rfl,hz,q _ lU.range⟩
theorem zkM(qC:Gl X "range")(hmg:X.mg "range"=none)(hb:SE X cA aq aj F EX b B)(h2:starEach [b] X.env=(false,eval b X.env)::starEach [] X.env) :
  SI X cA aq aj F EX tg (.Call (.Name "range" pp) [b] [] pos) (.rg (.c (.int 0)) B):=PI.weak (zfS qC hmg (oZ hb u5 h2) (by rw[h2];rfl)) λZ H R hh=>un hh λU J s hL hS h=>by
 have h:Run X.K cA (M.bd (ev aq aj F B J) λy=>M.bd (int (.d (.int 0))) λi=>M.bd (int y) λj=>if (eY i&&eY j)=true then M.ret (Src.fix (jh i j),(jh i j).length) else M.no) U H s _ _:=h;refine bI hL hS h λy H2 U2 d2 s2 x2 hL2 aV r2 h2=>?_;obtain⟨j,_,e2,h4⟩:=Ht r2 (show Run X.K cA (M.bd (int d2) λj=>if (eY 0&&eY j)=true then M.ret (Src.fix (jh 0 j),(jh 0 j).length) else M.no) U2 H2 s2 _ _ from h2);obtain⟨hz,q⟩:=Xw aV h4;subst e2;refine⟨j,rfl,hz.2.2.1,hz.2.2.2,q _ ?_⟩;have:=lU.range (K:=X.K) (cA:=cA) (U:=U2) (H:=H2) (a:=0) (b:=j);rw[Int.sub_zero] at this;exact this
end
section
variable {K:W.Frag}{cA:Cl}{U U' U0:Ph}{H H' H0:Hp}{s:S}
theorem Run.bd0(x:Ext U0 H0 U H)(h:Run K cA (M.bd m k) U0 H0 s P Ee) :
  Run K cA m U H s (λa s1 U1 H1=>Ext U H U1 H1/\aD K cA U1 H1 s1/\Run K cA (k a) U0 H0 s1 P Ee) Ee:=by
 unfold Run M.bd at *;cases e:m s with
 |none=>rw[e] at h;exact h
 |some r=>
  obtain⟨r,s1⟩:=r;rw[e] at h;cases r with
  |er c f=>exact λU1 H1 x1 r1=>h U1 H1 (x.trans x1) r1
  |ok a=>exact λU1 H1 x1 r1=>⟨x1,r1,h⟩
theorem HW{α β:Type}{m:M α}{k:α->M β}{P:β->S->Ph->Hp->Prop}{Ee Ee':Nat->List D->S->Ph->Hp->Prop}(x:Ext U0 H0 U H)(h:Run K cA (M.bd (M.qt m) k) U0 H0 s P Ee) :
  Run K cA m U H s (λa s1 U1 H1=>Ext U H U1 H1/\aD K cA U1 H1 s1/\Run K cA (k a) U0 H0 s1 P Ee) Ee':=by
 have h2:=h.bd0 x;unfold Run at h2 ⊢;unfold M.qt at h2;cases e:m s with
 |none=>rw[e] at h2;exact h2
 |some r=>
  obtain⟨r,s1⟩:=r;rw[e] at h2;cases r with
  |ok a=>exact h2
  |er c f=>exact h2.elim
theorem Rn{α β:Type}{m m':M α}{k:α->M β}{P:β->S->Ph->Hp->Prop}{Ee:Nat->List D->S->Ph->Hp->Prop}(e:m s=m' s)(h:Run K cA (M.bd m k) U H s P Ee):Run K cA (M.bd m' k) U H s P Ee:=by
 unfold Run M.bd at *;rw[<-e];exact h
end
section
variable {X:Cx}{cA:Cl}{aq:Nat->Nat->Bool}{aj:Bool}{F:Fn}{EX:XS}{elt iter tg:Expr}{A B:E}{pos p:Pos}{ifs:List Expr}{scope:Scope}{N:List Str}{cond:Eo}{fr aM:List Nat}{many:Nat}{fz:Bool}{w:Wk}
def C_(X:Cx)(cA:Cl)(aq:Nat->Nat->Bool)(aj:Bool)(F:Fn)(EX:XS)(ifs:List Expr)(m:Eo):Prop:=Cr X ifs (qQ X.K cA EX (lR aq aj F m))
theorem zkN:C_ X cA aq aj F EX [] .no:=λao s Z H Q I ⟨U,J,st,hL,hS,h⟩=>zia ao s Z H Q I (h.bR hS)
theorem zhN(h:ST X cA aq aj F EX c C):C_ X cA aq aj F EX [c] (.yes C):=zif h
structure fj(K:W.Frag)(cA:Cl)(g:TG)(aM:List Nat):Prop where
 run:∀(U:Ph) (H:Hp) (s:S) (Z:L2.St) (J J':Vs) (d:D) (v:V) (Q:L2.St->Hp->Prop),aP K cA U H Z J->aD K cA U H s->Rep K cA U H d v->cV aM d J=some J'->
  (∀Z',aP K cA U H Z' J'->Z'.length=Z.length->(∀i,i∉aM->Z'[i]?=Z[i]?)->Q Z' H)->g v Z H Q
theorem oA{K:W.Frag}(i:Nat):fj K cA (c7 i) [i] where
 run:=λU H s Z J J' d v Q hL hS r e k=>by
  cases e;exact k _ (hL.set (.d r)) (uh ..) λj hj=>qW (by simpa using λz=>hj (by simp[z]))
theorem Ro{K:W.Frag}(i j:Nat):fj K cA (rE K 2 (gJ (c7 i) (gJ (c7 j) rD))) [i,j] where
 run:=λU H s Z J J' d v Q hL hS r e k=>by
  have e:(jy d).bind (λds=>eZ [i,j] (ds.map Xv.d) J)=some J':=e;obtain⟨ds,e1,e2⟩:=wg.mp e;cases r with
  |@tup ad xs vs h1 h2=>
   have e1:xs=ds:=dJ e1;subst e1;cases h2 with
   |nil=>cases e2
   |cons r1 t1=>
    cases t1 with
    |nil=>cases e2
    |cons r2 t2=>
     cases t2 with
     |nil=>
      have e2:=dJ e2;subst e2;refine⟨ad,_,rfl,h1.iQ,rfl,_,_,rfl,_,_,rfl,rfl,k _ ((hL.set (.d r1)).set (.d r2)) (by rw[uh,uh]) λm hm=>?_⟩;rw[qW (λz=>hm (by simp[z])),qW (λz=>hm (by simp[z]))]
     |cons r3 t3=>cases e2
  |_=>cases e1
noncomputable def bx(many:Nat)(fr:List Nat)(Z:L2.St):L2.St:=List.replicate many none++fr.map λj=>(Z[j]?).join
theorem Xx{U:Ph}{H:Hp}{Z:L2.St}{J:Vs}(hL:aP X.K cA U H Z J){Z':L2.St}(hl:Z'.length=many+fr.length)(hf:∀(i:Nat) j v,fr[i]?=some j->Z[j]?=some (some v)->Z'[many+i]?=some (some v)):aP X.K cA U H Z' (blk many fr J):=by
 refine⟨by unfold blk;simp[hl],λi d e=>?_⟩;unfold blk at e;by_cases hi:i<many
 ·rw[mZ (by simpa using hi),Dv,if_pos hi] at e;cases e
 ·rw[nA (by simpa using JM hi),Dw,jo] at e;cases z:fr[i-many]? with
  |none=>rw[z] at e;cases e
  |some j=>
   rw[z] at e;have e3:J[j]?.join=some d:=by simpa using e
   obtain⟨v,q1,q2⟩:=hL.2 j d (Q7 e3);refine⟨v,?_,q2⟩;have:=hf (i-many) j v z q1;rw[show many+(i-many)=i by omega] at this;exact this
structure dY(U:Ph)(H:Hp)(Dd:Addr)(o:HO):Prop where
 at_:H Dd=some o
 nl:Dd∉U.l
 z:U.z Dd
abbrev Keep(U:Ph)(H:Hp)(Dd:Addr)(vs:List V):Prop:=dY U H Dd (.lst vs)
theorem dY.mono{U U':Ph}{H H':Hp}{Dd:Addr}{o:HO}(x:Ext U H U' H')(k:dY U H Dd o):dY U' H' Dd o:=by
 refine⟨x.frame _ _ k.at_ k.nl,λz=>?_,x.qz _ k.z⟩;obtain⟨r,er,hr⟩:=x.more;rw[er] at z;rcases m5.mp z with z|z
 ·exact k.nl z
 ·have:=hr _ z;rw[k.at_] at this;cases this
theorem dY.ext{U:Ph}{H:Hp}{Dd:Addr}{o u:HO}(k:dY U H Dd o):(∀a o,H a=some o->¬U.z a->(upd H Dd u) a=some o)/\dY U (upd H Dd u) Dd u:=
 ⟨λa o e n=>by rw[cX (λz=>n (by rw[z];exact k.z))];exact e,jH,k.nl,k.z⟩
end
section
variable {K:W.Frag}{cA:Cl}{U U':Ph}{H H':Hp}
theorem aD.keep{s:S}{Dd:Addr}{o u:HO}(h:aD K cA U H s)(k:dY U H Dd o):aD K cA U (upd H Dd u) s:=by
 have x:cD U H (upd H Dd u):=k.ext.1;refine⟨h.len,λn o a e1 e2=>?_,h.uniq,h.lz,λa z=>?_⟩
 ·have na:a≠Dd:=λy=>k.nl (by rw[<-y];exact gF e2);exact(h.obj n o a e1 e2).map (λ_ q=>by rw[cX na];exact q) λ_ _ r=>r.out x
 ·by_cases e:a=Dd
  ·subst e;exact⟨_,jH⟩
  ·obtain⟨o,q⟩:=h.zt a z;exact⟨o,by rw[cX e];exact q⟩
theorem Ext.keep{U1:Ph}{H1:Hp}{Dd:Addr}{vs:List V}{u:HO}(x:Ext U1 H1 U H)(hD:H1 Dd=none):Ext U1 H1 U (upd H Dd u):=by
 refine⟨x.more,x.qz,x.jT,λa o h n=>?_,λa o h=>?_⟩
 ·rw[cX (λz=>by rw[z,hD] at h;cases h)];exact x.frame a o h n
 ·rw[cX (λz=>by rw[z,hD] at h;cases h)];exact x.stay a o h
theorem Xy{U1:Ph}{H1:Hp}{s':S}{fz:Bool}{acc:List D}{vs:List V}{Dd:Addr}{Q:VK}{Ee:Nat->List D->S->Ph->Hp->Prop}(h:Run K cA (newL fz acc) U1 H1 s' (λd _ U' H'=>∀v,aW K cA U' H' d v->Q v H') Ee)
  (x2:Ext U1 H1 U' H') (hD:H1 Dd=none) (nz:¬U1.z Dd) (aV:aD K cA U' H' s') (k:Keep U' H' Dd vs) (nj:aC K cA U' H' acc vs):Q (.ref Dd) H':=by
 cases fz with
 |true=>
  have zq:∀a,(λa=>U'.z a/\a≠Dd) a->U'.z a:=λa z=>z.1;refine h ⟨λa=>U'.z a/\a≠Dd,U'.l⟩ H' ⟨x2.more,λa z=>⟨x2.qz a z,λe=>nz (by rw[<-e];exact z)⟩,λa z=>x2.jT a z.1,x2.frame,x2.stay⟩ ?_ _ (.d (.fl (.inl ⟨.inl k.at_,λz=>z.2 rfl⟩) (aC.jC (U:=U') zq nj)));refine⟨aV.len,λn o a e1 e2=>jE.jC (U:=U') zq (aV.obj n o a e1 e2),aV.uniq,λa ha=>⟨aV.lz a ha,λe=>k.nl (by rw[<-e];exact ha)⟩,λa z=>aV.zt a z.1⟩
 |false=>
  obtain⟨r,er,hr⟩:=x2.more;refine h ⟨U'.z,U'.l++[Dd]⟩ H' ⟨⟨r++[Dd],by show U'.l++[Dd]=_;rw[er,DG],λb hb=>?_⟩,x2.qz,x2.jT,x2.frame,x2.stay⟩ ?_ _ (.l (by show (U'.l++[Dd])[s'.length]?=_;rw[<-aV.len];simp))
  ·rcases m5.mp hb with z|z
   ·exact hr b z
   ·simp at z;subst z;exact hD
  ·refine⟨by show (U'.l++[Dd]).length=_;rw[ji,ji,aV.len];rfl,λm o' a' e1 e2=>?_,?_,λb hb=>?_,aV.zt⟩
   ·have e2:(U'.l++[Dd])[m]?=some a':=e2;by_cases hm:m<s'.length
    ·rw[mZ hm] at e1;rw[mZ (by rw[aV.len];exact hm)] at e2;exact jE.zl (aV.obj m o' a' e1 e2) _
    ·have CZ:m=s'.length:=by
      have z:=(gD.mp e2).1;rw[ji,aV.len] at z;simp at z;omega
     subst CZ;rw[nA (cL _)] at e1;rw[nA (by rw[aV.len];exact cL _)] at e2;simp at e1;simp[aV.len] at e2;subst e1 e2;exact⟨vs,k.at_,aC.zl nj _⟩
   ·show (U'.l++[Dd]).Nodup;rw[DK];refine⟨aV.uniq,by simp,λb hb c hc e=>?_⟩;simp at hc;subst hc e;exact k.nl hb
   ·have hb:b∈U'.l++[Dd]:=hb;rcases m5.mp hb with z|z
    ·exact aV.lz b z
    ·simp at z;subst z;exact k.z
noncomputable def Ph.mark(U:Ph)(p:Addr):Ph:=⟨λa=>U.z a\/a=p,U.l⟩
theorem Xz{s:S}{p:Addr}(hS:aD K cA U H s)(hp:H p=none):Ext U H (U.mark p) (upd H p (.lst []))/\aD K cA (U.mark p) (upd H p (.lst [])) s/\Keep (U.mark p) (upd H p (.lst [])) p []:=by
 have g:=bH.new (o:=.lst []) hp;have nz:=hS.nz hp;refine⟨⟨⟨[],by simp[Ph.mark],by simp⟩,λa z=>.inl z,λa z=>z.imp id λe=>by rw[e];exact hp,λa o h _=>g a o h,λa o h=>⟨o,g a o h⟩⟩,⟨hS.len,λn o a e1 e2=>?_,hS.uniq,λa ha=>.inl (hS.lz a ha),λa z=>?_⟩,jH,λz=>nz (hS.lz p z),.inr rfl⟩
 ·have x:Ext U H (U.mark p) (upd H p (.lst [])):=⟨⟨[],by simp[Ph.mark],by simp⟩,λa z=>.inl z,λa z=>z.imp id λe=>by rw[e];exact hp,λa o h _=>g a o h,λa o h=>⟨o,g a o h⟩⟩;exact(hS.obj n o a e1 e2).map (g _) λ_ _ r=>r.mono x hS.lz
 ·rcases z with z|z
  ·obtain⟨o,e⟩:=hS.zt a z;exact⟨o,g _ _ e⟩
  ·subst z;exact⟨_,jH⟩
end
section
variable {X:Cx}{cA:Cl}{aq:Nat->Nat->Bool}{aj:Bool}{F:Fn}{EX:XS}{elt iter tg:Expr}{A B:E}{pos p:Pos}{ifs:List Expr}{scope:Scope}{N:List Str}{cond:Eo}{fr aM:List Nat}{many:Nat}{fz:Bool}{w:Wk}
noncomputable abbrev bK(aq:Nat->Nat->Bool)(aj:Bool)(F:Fn)(B:E)(cond:Eo)(aM:List Nat)(Jb:Vs):D->List D->M (List D):=λd acc=>M.bd (M.opt (cV aM d Jb)) λJ'=>M.bd (M.qt (lR aq aj F cond J')) λok=>
    if ok=true then M.bd (M.qt (ev aq aj F B J')) λy=>M.bd (dat y) λe=>if acc.length<sizeLine then M.ret (acc++[e]) else M.no else M.ret acc
theorem Dg{H:Hp}{a:Addr}{o:HO}(h:H a=some o):upd H a o=H:=funext λb=>by
 by_cases z:b=a
 ·subst z;rw[jH,h]
 ·rw[cX z]
theorem zgX{K:W.Frag}{g:TG}{U1 U':Ph}{H1 H2:Hp}{s':S}{Z':L2.St}{Jb:Vs}{Dd:Addr}{acc:List D}{vs:List V}{xi:D}{v:V}{β:Type}{kk:List D->M β}{P:β->S->Ph->Hp->Prop}{Ee:Nat->List D->S->Ph->Hp->Prop}(hT:fj K cA g aM)(dG:∀i∈aM,i<many)
  (hD:H1 Dd=none) (x2:Ext U1 H1 U' H2) (hL2:aP K cA U' H2 Z' Jb) (aV:aD K cA U' H2 s') (kp:Keep U' H2 Dd vs) (nj:aC K cA U' H2 acc vs) (rx:Rep K cA U' H2 xi v)
  (h:Run K cA (M.bd (bK aq aj F B cond aM Jb xi acc) kk) U1 H1 s' P Ee) {Nn:L2.St->Hp->Prop}
  (hN:∀Z3 H3 U3 s3 lB vJ,Z3.length=Z'.length->(∀i,many<=i->Z3[i]?=Z'[i]?)->Ext U1 H1 U3 H3->Ext U' H2 U3 (upd H3 Dd (.lst vs))->aD K cA U3 H3 s3->Keep U3 H3 Dd vJ->aC K cA U3 H3 lB vJ->Run K cA (kk lB) U1 H1 s3 P Ee->Nn Z3 H3) :
  g v Z' H2 λZ3 H3=>qQ K cA (λ_ _ _ _=>False) (lR aq aj F cond) Z3 H3 λok H4=>
   if ok=true then tE K cA (λ_ _ _ _=>False) (ev aq aj F B) Z3 H4 λy H5=>∃ys,H5 Dd=some (.lst ys)/\ys.length<sizeLine/\Nn Z3 (upd H5 Dd (.lst (ys++[y]))) else Nn Z3 H4:=by
 unfold bK at h;rw[gA] at h;obtain⟨J',e1,h1⟩:=Hs h;refine hT.run U' H2 s' Z' Jb J' xi v _ hL2 aV rx e1 λZ3 ou z_ Dh=>?_;rw[gA] at h1;have kf:∀i,many<=i->Z3[i]?=Z'[i]?:=λi hi=>Dh i λz=>absurd (dG i z) (Cd.mpr hi);refine⟨U',J',s',ou,aV,(HW x2 h1).imp λok s4 U4 H4 ⟨x4,pJ,h6⟩=>?_⟩;cases ok with
 |false=>
  refine iF (hN Z3 H4 U4 s4 acc vs z_ kf (x2.trans x4) (by rw[Dg (kp.mono x4).at_];exact x4) pJ (kp.mono x4) (nj.mono x4 aV.lz) ?_);rw[if_neg J0] at h6;exact h6
 |true=>
  rw[if_pos rfl,gA] at h6;refine iT ⟨U4,J',s4,ou.mono x4 aV.lz,pJ,(HW (x2.trans x4) h6).imp λy s5 U5 H5 ⟨x5,HX,h7⟩ u ru=>?_⟩;rw[gA] at h7;have k5:=(kp.mono x4).mono x5;have r5:=(nj.mono x4 aV.lz).mono x5 pJ.lz;have Rp:=(x2.trans x4).trans x5;obtain⟨dd,ey,rd,h8⟩ : ∃d,y=.d d/\Rep K cA U5 H5 d u/\Run K cA (M.bd (if acc.length<sizeLine then M.ret (acc++[d]) else M.no) kk) U1 H1 s5 P Ee:=by
   cases ru with
   |l _=>exact h7.elim
   |d r=>exact⟨_,rfl,r,h7⟩
  by_cases hz:acc.length<sizeLine
  ·rw[if_pos hz] at h8;refine⟨vs,k5.at_,by rw[<-r5.len];exact hz,?_⟩;have ox:cD U5 H5 (upd H5 Dd (.lst (vs++[u]))):=k5.ext.1;exact hN Z3 _ U5 s5 (acc++[dd]) (vs++[u]) z_ kf (Ext.keep (vs:=vs) Rp hD) (by rw[Vv,Dg k5.at_];exact x4.trans x5) (HX.keep k5) k5.ext.2 ((r5.app (.cons rd .nil)).out ox) h8
  ·rw[if_neg hz] at h8;exact h8.elim
theorem XD{g:TG}{iter':Expr}(hT:fj X.K cA g aM)(dG:∀i∈aM,i<many){Z:L2.St}{H:Hp}{Q:VK}(hh:tE X.K cA EX (ev aq aj F (.comp fz B aM w fr many cond)) Z H Q) :
  rY (tI X.K cA EX (gM aq aj F w)) (bx many fr) g (qQ X.K cA (λ_ _ _ _=>False) (lR aq aj F cond)) (tE X.K cA (λ_ _ _ _=>False) (ev aq aj F B)) Z H Q:=un hh λU J s hL hS h=>by
 by_cases cW:aj=true
 ·have h:Run X.K cA (if aj=true then M.bd (gM aq aj F w J) λcn=>M.bd (walk cn.1 (bK aq aj F B cond aM (blk many fr J)) (cn.2+1) 0 []) λxs=>newL fz xs else M.no) U H s (λd _ U' H'=>∀v,aW X.K cA U' H' d v->Q v H') (eX X.K cA EX Z):=h;rw[if_pos cW] at h;refine⟨U,J,s,hL,hS,h.bd.imp λcn s1 U1 H1 ⟨x1,aG,h1⟩ bF hJ=>?_⟩;have hL1:=hL.mono x1 hS.lz;obtain⟨c,n⟩:=cn;dsimp only at h1 hJ;intro Dd hD;obtain⟨x0,Rq,k0⟩:=Xz aG hD;have Aa:∀{Z':L2.St},(Z'.length=many+fr.length/\∀i,many<=i->Z'[i]?=(bx many fr Z)[i]?)->∀{U' H'},Ext U1 H1 U' H'->aP X.K cA U' H' Z' (blk many fr J):=λ{Z'} hZ {U' H'} x=>Xx (hL1.mono x aG.lz) hZ.1 λi j v e1 e2=>by
   rw[hZ.2 _ (by omega)];unfold bx;rw[nA Qi,Dw,jo,show many+i-many=i by omega,e1];simp[e2]
  refine⟨λi m Z' H'=>m=n+1-i/\(Z'.length=many+fr.length/\∀i,many<=i->Z'[i]?=(bx many fr Z)[i]?)/\∃U' s' acc vs,Ext U1 H1 U' H'/\aD X.K cA U' H' s'/\Keep U' H' Dd vs/\aC X.K cA U' H' acc vs /\
   Run X.K cA (M.bd (walk c (bK aq aj F B cond aM (blk many fr J)) (n+1-i) i acc) λxs=>newL fz xs) U1 H1 s' (λd _ U' H'=>∀v,aW X.K cA U' H' d v->Q v H') (eX X.K cA EX Z),⟨n+1,rfl,⟨by simp[bx],λi _=>rfl⟩,U1.mark Dd,s1,[],[],x0,Rq,k0,.nil,h1⟩,?_⟩
  rintro i m Z' H' ⟨rfl,hZ,U',s',acc,vs,x2,aV,kp,nj,h3⟩;have hL2:=Aa hZ x2;cases ek:n+1-i with
  |zero=>rw[ek] at h3;exact h3.elim
  |succ k=>
   rw[ek] at h3;cases ei:c.at i s' with
   |none=>
    exfalso
    unfold Run M.bd walk at h3;simp only[ei] at h3
   |some oi=>
    cases oi with
    |none=>
     refine .inl ⟨hJ.stop U' H' H' s' i x2 cD.refl aV ei,?_⟩;have h4:Run X.K cA (newL fz acc) U1 H1 s' (λd _ U' H'=>∀v,aW X.K cA U' H' d v->Q v H') (eX X.K cA EX Z):=by
      unfold Run M.bd walk at h3;simp only[ei] at h3;exact h3
     exact Xy h4 x2 hD (aG.nz hD) aV kp nj
    |some xi=>
     refine .inr ⟨hJ.go U' H' H' s' i xi x2 cD.refl aV ei,λZ2 H2=>(Z2.length=many+fr.length/\∀i,many<=i->Z2[i]?=(bx many fr Z)[i]?)/\∃U' s' acc vs,Ext U1 H1 U' H2/\aD X.K cA U' H2 s'/\Keep U' H2 Dd vs/\aC X.K cA U' H2 acc vs /\
      Run X.K cA (M.bd (walk c (bK aq aj F B cond aM (blk many fr J)) k (i+1) acc) λxs=>newL fz xs) U1 H1 s' (λd _ U' H'=>∀v,aW X.K cA U' H' d v->Q v H') (eX X.K cA EX Z),λZ2 H2 hn=>⟨k,by omega,by omega,hn.1,?_⟩,λv H2 hy=>?_⟩
     ·have:n+1-(i+1)=k:=by omega
      rw[this];exact hn.2
     ·obtain⟨gr,rx⟩:=hJ.rG U' H' H' s' i xi v H2 x2 cD.refl aV ei hy;have h4:Run X.K cA (M.bd (bK aq aj F B cond aM (blk many fr J) xi acc) λacc'=>M.bd (walk c (bK aq aj F B cond aM (blk many fr J)) k (i+1) acc') λxs=>newL fz xs) U1 H1 s' (λd _ U' H'=>∀v,aW X.K cA U' H' d v->Q v H') (eX X.K cA EX Z):=by
       have h5:=Rn (m':=M.bd (bK aq aj F B cond aM (blk many fr J) xi acc) λacc'=>walk c (bK aq aj F B cond aM (blk many fr J)) k (i+1) acc') (by rw[walk];simp only[ei]) h3;rw[gA] at h5;exact h5
      exact zgX hT dG hD (x2.trans gr.ext) (hL2.mono gr.ext aV.lz) (aV.grow gr) (kp.mono gr.ext) (nj.mono gr.ext aV.lz) rx h4 λZ3 H3 U3 s3 lB vJ l3 f3 x3 _ h_ k3 r3 h6=>⟨⟨l3.trans hZ.1,λi hi=>(f3 i hi).trans (hZ.2 i hi)⟩,U3,s3,lB,vJ,x3,h_,k3,r3,h6⟩
 ·have h:Run X.K cA (if aj=true then M.bd (gM aq aj F w J) λcn=>M.bd (walk cn.1 (bK aq aj F B cond aM (blk many fr J)) (cn.2+1) 0 []) λxs=>newL fz xs else M.no) U H s (λd _ U' H'=>∀v,aW X.K cA U' H' d v->Q v H') (eX X.K cA EX Z):=h;rw[if_neg cW] at h;exact h.elim
theorem Rr{XN:List Str}(pA:∀(i:Nat) (y:Str) (j:Nat),N[many+i]?=some y->fr[i]?=some j->scope.names.lookup y=some .free/\XN[j]?=some y)(Z:L2.St)(i:Nat)(x:Str)(v:V)(e1:N[i]?=some x)(e2:(bx many fr Z)[i]?=some (some v)):scope.names.lookup x=some .free/\∃j:Nat,XN[j]?=some x/\Z[j]?=some (some v):=by
 unfold bx at e2;by_cases hi:i<many
 ·rw[mZ (by simpa using hi),Dv,if_pos hi] at e2;cases e2
 ·rw[nA (by simpa using JM hi),Dw,jo] at e2;cases z:fr[i-many]? with
  |none=>rw[z] at e2;cases e2
  |some j=>
   rw[z] at e2;have e3:(Z[j]?).join=some v:=by simpa using e2
   obtain⟨a1,a2⟩:=pA (i-many) x j (by rw[show many+(i-many)=i by omega];exact e1) z;exact⟨a1,j,a2,Q7 e3⟩
theorem XH{g:TG}(hc:X.aj=true)(B':cj X.env.scope scope)(hi:SI X cA aq aj F EX tg iter w)(hN:N.length=many+fr.length)
  (pA:∀(i:Nat) (y:Str) (j:Nat),N[many+i]?=some y->fr[i]?=some j->scope.names.lookup y=some .free/\X.N[j]?=some y)
  (hg:∀cl C s3 H3 fp ao,PG (X.blk scope cl N C s3 H3 fp ao) tg g) (hT:fj X.K cA g aM) (dG:∀i∈aM,i<many)
  (ht:∀cl C s3 H3 fp ao,C_ (X.blk scope cl N C s3 H3 fp ao) cA aq aj F (λ_ _ _ _=>False) ifs cond) (he:∀cl C s3 H3 fp ao,SE (X.blk scope cl N C s3 H3 fp ao) cA aq aj F (λ_ _ _ _=>False) elt B)
  (hs:∀x,foldedSetIterable iter X.env x=pure x:=by intro _;rfl):SE X cA aq aj F EX (.ListComp elt [⟨tg,iter,ifs,0⟩] scope pos) (.comp fz B aM w fr many cond):=
 PE.weak (ziN hc B' hi (⟨hg,ht,he⟩ : Parts X elt tg ifs scope N g (qQ X.K cA (λ_ _ _ _=>False) (lR aq aj F cond)) (tE X.K cA (λ_ _ _ _=>False) (ev aq aj F B))) (ZY:=bx many fr) (λZ=>by simp[bx,hN]) (λZ i x v e1 e2=>Rr pA Z i x v e1 e2) hs) λZ H Q hh=>XD (iter':=iter) hT dG hh
end
section
variable (K:W.Frag)(cA:Cl)
def aR(m:MS)(U:Ph)(H:Hp)(s:S)(D:Ends)(EX:XS):Prop:=match m s with
 |some (.nx J,s')=>∀U' H' Z',Ext U H U' H'->aD K cA U' H' s'->aP K cA U' H' Z' J->D.nx Z' H'
 |some (.bk J,s')=>∀U' H' Z',Ext U H U' H'->aD K cA U' H' s'->aP K cA U' H' Z' J->D.bk Z' H'
 |some (.ct J,s')=>∀U' H' Z',Ext U H U' H'->aD K cA U' H' s'->aP K cA U' H' Z' J->D.ct Z' H'
 |some (.rt d,s')=>∀U' H' v,Ext U H U' H'->aD K cA U' H' s'->aW K cA U' H' d v->D.rt v H'
 |some (.er c fs J,s')=>∀U' H' Z',Ext U H U' H'->aD K cA U' H' s'->aP K cA U' H' Z' J->∀dx,jB K cA U' H' c fs dx->EX Z' (.ref (cA.a c)) dx H'
 |none=>False
noncomputable def tS(EX:XS)(m:Vs->MS):TS:=λD Z H=>∃U J s,aP K cA U H Z J/\aD K cA U H s/\aR K cA (m J) U H s D EX
end
section
variable {K:W.Frag}{cA:Cl}{U U':Ph}{H H':Hp}{s:S}{Z:L2.St}{J:Vs}{EX:XS}{D:Ends}
theorem aR.ext{m:MS}(x:Ext U H U' H')(h:aR K cA m U H s D EX):aR K cA m U' H' s D EX:=by
 unfold aR at *;split at h<;>first
  |exact λU2 H2 a y r l=>h U2 H2 a (x.trans y) r l
  |exact h.elim
theorem aR.ofM{α:Type}{m:M α}{k:α->MS}(hL:aP K cA U H Z J)(hz:∀a∈U.l,U.z a)(h:aR K cA (ofM m J k) U H s D EX):Run K cA m U H s (λa s1 U1 H1=>Ext U H U1 H1/\aD K cA U1 H1 s1/\aR K cA (k a) U1 H1 s1 D EX) (eX K cA EX Z):=by
 unfold aR Mi.ofM at h;unfold Run;cases e:m s with
 |none=>rw[e] at h;exact h
 |some r=>
  obtain⟨r,s1⟩:=r;rw[e] at h;cases r with
  |er c fs=>exact λU1 H1 x r=>h U1 H1 Z x r (hL.mono x hz)
  |ok a=>
   intro U1 H1 x r;refine⟨x,r,?_⟩;have h2:aR K cA (k a) U H s1 D EX:=h;exact h2.ext x
theorem aR.then_(h:aR K cA (cB m k) U H s D EX):aR K cA m U H s {D with nx:=λZ' H'=>∃U' J' s',aP K cA U' H' Z' J'/\aD K cA U' H' s'/\aR K cA (k J') U' H' s' D EX} EX:=by
 unfold aR cB at h;unfold aR;cases e:m s with
 |none=>rw[e] at h;exact h
 |some r=>
  obtain⟨r,s1⟩:=r;rw[e] at h;cases r with
  |nx J=>
   intro U1 H1 Z1 x r l;have h2:aR K cA (k J) U H s1 D EX:=h;exact⟨U1,J,s1,l,r,h2.ext x⟩
  |bk J=>exact h
  |ct J=>exact h
  |rt d=>exact h
  |er c fs J=>exact h
end
section
variable (X:Cx)(cA:Cl)(aq:Nat->Nat->Bool)(aj:Bool)(F:Bool->Fn)(EX:XS)
def SS(st:Stmt)(m:St):Prop:=PS X st (tS X.K cA EX (ex aq aj F m))
def vK(st:List Stmt)(m:bU):Prop:=oY X st (tS X.K cA EX (exs aq aj F m))
end
section
variable {X:Cx}{cA:Cl}{aq:Nat->Nat->Bool}{aj:Bool}{F:Bool->Fn}{EX:XS}{a b c d e:Expr}{A B C:E}{pos p p2:Pos}{st:Stmt}{sts body orelse:List Stmt}{m:St}{ms mb me mh:bU}{es:List Expr}{Xs:Es}{x y n:Str}{i j:Nat}
theorem PS.weak{t t':TS}(h:PS X st t)(f:∀D Z H,t' D Z H->t D Z H):PS X st t':=λao s Z H D I q=>h ao s Z H D I (f D Z H q)
theorem oY.weak{t t':TS}(h:oY X sts t)(f:∀D Z H,t' D Z H->t D Z H):oY X sts t':=λao s Z H D I q=>h ao s Z H D I (f D Z H q)
theorem zmq:SS X cA aq aj F EX st .no:=λ_ _ _ _ _ _ ⟨_,_,_,_,_,h⟩=>h.elim
theorem ziY:vK X cA aq aj F EX [] .nil:=oY.weak VG λD Z H hh=>un hh λU J s hL hS h=>h U H Z Ext.refl hS hL
theorem zgk(h1:SS X cA aq aj F EX st m)(h2:vK X cA aq aj F EX sts ms):vK X cA aq aj F EX (st::sts) (.cons m ms):=oY.weak (VH h1 h2) λD Z H hh=>un hh λU J s hL hS h=>by
 have h:aR X.K cA (cB (ex aq aj F m J) λJ'=>exs aq aj F ms J') U H s D EX:=h;exact⟨U,J,s,hL,hS,h.then_⟩
theorem zmg(ha:SE X cA aq aj (F aj) EX a A)(hs:swapsWith a none pos.line X.env=pure false:=by rfl):SS X cA aq aj F EX (.Expr a pos) (.ex A):=PS.weak (zhH ha hs) λD Z H hh=>un hh λU J s hL hS h=>
 ⟨U,J,s,hL,hS,(aR.ofM hL hS.lz h).imp λd s1 U1 H1 ⟨x1,aG,h1⟩ v rv=>h1 U1 H1 Z Ext.refl aG (hL.mono x1 hS.lz)⟩
theorem zjk(ha:SE X cA aq aj (F aj) EX a A):SS X cA aq aj F EX (.Return (some a) pos) (.ret A):=PS.weak (zkI ha) λD Z H hh=>un hh λU J s hL hS h=>
 ⟨U,J,s,hL,hS,(aR.ofM hL hS.lz h).imp λd s1 U1 H1 ⟨x1,aG,h1⟩ v rv=>h1 U1 H1 v Ext.refl aG rv⟩
theorem zli(hN:X.N.Nodup)(hi:X.N[i]?=some x)(hx:Loc X.env.scope x)(ha:SE X cA aq aj (F aj) EX a A)(hs:swapsWith a (some (.Name x p)) pos.line X.env=pure false:=by rfl)(hf:X.fn x=true\/X.env.scope.names.lookup x=some .local:=by first|exact .inl rfl|exact .inr rfl) :
  SS X cA aq aj F EX (.Assign [.Name x p] a pos) (.asg (.nm i) A):=PS.weak (zle hN hi hx ha hs hf) λD Z H hh=>un hh λU J s hL hS h=>
 ⟨U,J,s,hL,hS,(aR.ofM hL hS.lz h).imp λd s1 U1 H1 ⟨x1,aG,h1⟩ v rv=>h1 U1 H1 _ Ext.refl aG ((hL.mono x1 hS.lz).set rv)⟩
theorem zdt{k}(hc:X.aj=true)(hN:X.N.Nodup)(hi:X.N[i]?=some x)(hj:X.N[j]?=some y)(hx:Loc X.env.scope x)(hy:Loc X.env.scope y)(vL:X.fn x=true\/X.env.scope.names.lookup x=some .local)(vM:X.fn y=true\/X.env.scope.names.lookup y=some .local) :
  PG X (.Tuple [.Name x px,.Name y py] k pos) (rE X.K 2 (gJ (c7 i) (gJ (c7 j) rD))):=zkE hc (VJ (Kf hN hi hx vL) (VJ (Kf hN hj hy vM) zil))
theorem XJ{K:W.Frag}{U:Ph}{H:Hp}{s:S}{J:Vs}{Z:L2.St}{D:Ends}{d:Xv}{v:V}(cW:aj=true)(hL:aP K cA U H Z J)(hS:aD K cA U H s)(rv:aW K cA U H d v)(h:aR K cA (store aq aj (F aj) (.tp [i,j]) d J) U H s D EX):rE K 2 (gJ (c7 i) (gJ (c7 j) rD)) v Z H D.nx:=by
 have h:aR K cA (if aj=true then ofM (M.bd (dat d) λd=>M.opt ((jy d).bind λds=>eZ [i,j] (ds.map Xv.d) J)) J (λJ' s=>some (Out.nx J',s)) else λ_=>none) U H s D EX:=h;rw[if_pos cW] at h;obtain⟨dd,e0,rd,h1⟩:=Q5 rv (aR.ofM hL hS.lz h);obtain⟨J',e,_,aG,h2⟩:=Run.opt hS h1;refine(Ro i j).run U H s Z J J' dd v _ hL hS rd e λZ' hL' _ _=>h2 U H Z' Ext.refl hS hL'
theorem ziU{k}(hc:X.aj=true)(cW:aj=true)(hN:X.N.Nodup)(hi:X.N[i]?=some x)(hj:X.N[j]?=some y)(hx:Loc X.env.scope x)(hy:Loc X.env.scope y)(vL:X.fn x=true\/X.env.scope.names.lookup x=some .local)(vM:X.fn y=true\/X.env.scope.names.lookup y=some .local)(ha:SE X cA aq aj (F aj) EX a A)
  (hs:swapsWithSole [.Tuple [.Name x px,.Name y py] k pt] a pos.line X.env=pure false:=by rfl) (hw:swappedStores [.Tuple [.Name x px,.Name y py] k pt] a X.env=pure none:=by rfl)
  (h1:(assignEach [.Tuple [.Name x px,.Name y py] k pt] X.env).map (·.2)=[assign (.Tuple [.Name x px,.Name y py] k pt) X.env]:=by rfl) :
  SS X cA aq aj F EX (.Assign [.Tuple [.Name x px,.Name y py] k pt] a pos) (.asg (.tp [i,j]) A):=PS.weak (VL ha (zdt hc hN hi hj hx hy vL vM) hs hw h1) λD Z H hh=>un hh λU J s hL hS h=>
 ⟨U,J,s,hL,hS,(aR.ofM hL hS.lz h).imp λd s1 U1 H1 ⟨x1,aG,h1⟩ v rv=>XJ cW (hL.mono x1 hS.lz) aG rv h1⟩
theorem zkl(hO:SE X cA aq aj (F aj) EX oo O)(hI:SE X cA aq aj (F aj) EX ii I')(ha:SE X cA aq aj (F aj) EX a A)
  (Rt:∀v,assign (.Subscript oo ii p) X.env v=(do
   let ov <-holding [v] (eval oo X.env)
   let iv <-holding [v,ov] (eval ii X.env)
   standAt p
   holding [v,ov,iv] (setItem ov iv v)
   release [v,ov,iv] []):=by intro _;rfl) (hs:swapsWithSole [.Subscript oo ii p] a pos.line X.env=pure false:=by rfl) (hw:swappedStores [.Subscript oo ii p] a X.env=pure none:=by rfl)
  (h1:(assignEach [.Subscript oo ii p] X.env).map (·.2)=[assign (.Subscript oo ii p) X.env]:=by rfl) :
  SS X cA aq aj F EX (.Assign [.Subscript oo ii p] a pos) (.asg (.aq O I') A):=PS.weak (VL ha (zjD hO hI zgp Rt) hs hw h1) λD Z H hh=>un hh λU J s hL hS h=>by
 refine⟨U,J,s,hL,hS,(aR.ofM hL hS.lz h).imp λd s1 U1 H1 ⟨x1,aG,h1⟩ v rv=>?_⟩;obtain⟨dd,e0,rd,h2⟩:=Q5 rv (aR.ofM (hL.mono x1 hS.lz) aG.lz h1);refine bI (hL.mono x1 hS.lz) aG h2 λxo H2 U2 d2 s2 x2 hL2 aV r2 h3=>bI hL2 aV h3 λyi H3 U3 d3 s3 x3 ou h_ r3 h4=>?_;obtain⟨k,_,ek,h5⟩:=Ht r3 h4;obtain⟨n,ad,xs,vs,_,ea,e1,f1,g1,q1,h6⟩:=zfw h_ (r2.mono x3 aV.lz) h5;subst ek ea;cases ej:L2.rN xs.length k with
 |none=>simp only[ej] at h6;exact h6.elim
 |some jj=>
  simp only[ej] at h6;refine⟨ad,vs,k,jj,rfl,rfl,g1,by rw[<-q1.len];exact ej,?_⟩;have rv3:=(rd.mono x2 aG.lz).mono x3 aV.lz;have pJ:=h_.write e1 f1 (q1.set rv3 jj);have x4:Ext U3 H3 U3 (upd H3 ad (.lst (vs.set jj v))):=Ext.write f1 ⟨_,g1⟩;obtain⟨_,_,h8⟩:=h6 U3 _ x4 pJ;exact h8 U3 _ Z Ext.refl pJ (ou.mono x4 h_.lz)
theorem zlb{kt k2 rF}(hc:X.aj=true)(cW:aj=true)(hN:X.N.Nodup)(hi:X.N[i]?=some x)(hj:X.N[j]?=some y)(uV:i≠j)(hx:X.env.scope.names.lookup x=some .local)(hy:X.env.scope.names.lookup y=some .local)
  (ha:SE X cA aq aj (F aj) EX a A) (hb:SE X cA aq aj (F aj) EX b B) (h1:starEach [a,b] X.env=(false,eval a X.env)::starEach [b] X.env) (h2:starEach [b] X.env=(false,eval b X.env)::starEach [] X.env)
  (hw:swappedStores [.Tuple [.Name x px,.Name y py] kt pt] (.Tuple [a,b] k2 rF) X.env=pure (some [x,y]))
  (hs:swapsWithSole [.Tuple [.Name x px,.Name y py] kt pt] (.Tuple [a,b] k2 rF) pos.line X.env=pure false:=by rfl) :
  SS X cA aq aj F EX (.Assign [.Tuple [.Name x px,.Name y py] kt pt] (.Tuple [a,b] k2 rF) pos) (.par i j A B):=PS.weak (zjP hc hN hi hj uV hx hy (oZ ha (oZ hb u5 h2) h1) hw hs) λD Z H hh=>un hh λU J s hL hS h=>by
 have h:aR X.K cA (if aj=true then ofM (M.bd (ev aq aj (F aj) A J) λx=>M.bd (ev aq aj (F aj) B J) λy=>M.ret (x,y)) J (λxy s=>some (.nx ((J.set i (some xy.1)).set j (some xy.2)),s)) else λ_=>none) U H s D EX:=h;rw[if_pos cW] at h;refine bI hL hS (aR.ofM hL hS.lz h) λx H1 U1 d1 s1 x1 hL1 aG r1 h1=>bI hL1 aG h1 λy H2 U2 d2 s2 x2 hL2 aV r2 h2=>?_;obtain⟨_,_,h3⟩:=h2.bR aV;exact⟨x,y,rfl,h3 U2 H2 _ Ext.refl aV ((hL2.set (r1.mono x2 aG.lz)).set r2)⟩
theorem zlx(hc:ST X cA aq aj (F aj) EX c C)(ht:vK X cA aq aj F EX body mb)(he:vK X cA aq aj F EX orelse me):SS X cA aq aj F EX (.If c body orelse pos) (.iff C mb me):=PS.weak (zlL hc ht he) λD Z H hh=>un hh λU J s hL hS h=>by
 refine⟨U,J,s,hL,hS,(aR.ofM hL hS.lz h).imp λk s1 U1 H1 ⟨x1,aG,h1⟩=>?_⟩;cases k with
 |true=>exact iT ⟨U1,J,s1,hL.mono x1 hS.lz,aG,h1⟩
 |false=>exact iF ⟨U1,J,s1,hL.mono x1 hS.lz,aG,h1⟩
theorem zim{g:TG}{elt iter tg:Expr}{ifs:List Expr}{scope:Scope}{N:List Str}{cond:Eo}{fr aM:List Nat}{many:Nat}{fz:Bool}{w:Wk}{spos py:Pos}(hc:X.aj=true)(pL:X.N.Nodup)(rZ:X.N[i]?=some y)(hx:Loc X.env.scope y)(hf:X.fn y=true\/X.env.scope.names.lookup y=some .local)(B':cj X.env.scope scope)(hi:SI X cA aq aj (F aj) EX tg iter w)(hN:N.length=many+fr.length)
  (pA:∀(i:Nat) (y:Str) (j:Nat),N[many+i]?=some y->fr[i]?=some j->scope.names.lookup y=some .free/\X.N[j]?=some y)
  (hg:∀cl C s3 H3 fp ao,PG (X.blk scope cl N C s3 H3 fp ao) tg g) (hT:fj X.K cA g aM) (dG:∀i∈aM,i<many)
  (ht:∀cl C s3 H3 fp ao,C_ (X.blk scope cl N C s3 H3 fp ao) cA aq aj (F aj) (λ_ _ _ _=>False) ifs cond) (he:∀cl C s3 H3 fp ao,SE (X.blk scope cl N C s3 H3 fp ao) cA aq aj (F aj) (λ_ _ _ _=>False) elt B)
  (su:swapsWith (.ListComp elt [⟨tg,iter,ifs,0⟩] scope pos) (some (.Name y py)) spos.line X.env=pure true) (hs:∀x,foldedSetIterable iter X.env x=pure x:=by intro _;rfl) :
  SS X cA aq aj F EX (.Assign [.Name y py] (.ListComp elt [⟨tg,iter,ifs,0⟩] scope pos) spos) (.asg (.nm i) (.comp fz B aM w fr many cond)):=
 PS.weak (zet hc pL rZ hx hf B' hi (⟨hg,ht,he⟩ : Parts X elt tg ifs scope N g (qQ X.K cA (λ_ _ _ _=>False) (lR aq aj (F aj) cond)) (tE X.K cA (λ_ _ _ _=>False) (ev aq aj (F aj) B))) (ZY:=bx many fr) (λZ=>by simp[bx,hN]) (λZ i x v e1 e2=>Rr pA Z i x v e1 e2) su hs) λD Z H hh=>un hh λU J s hL hS h=>
  XD (iter':=iter) hT dG ⟨U,J,s,hL,hS,(aR.ofM hL hS.lz h).imp λd s1 U1 H1 ⟨x1,aG,h1⟩ v rv=>h1 U1 H1 _ Ext.refl aG ((hL.mono x1 hS.lz).set rv)⟩
noncomputable def pN(m:MS)(kN:Vs->MS):MS:=λs=>match m s with
 |some (.nx J',s')=>kN J' s'
 |some (.ct J',s')=>kN J' s'
 |some (.bk J',s')=>some (.nx J',s')
 |r=>r
theorem Kai{K:W.Frag}{U:Ph}{H:Hp}{s:S}{D:Ends}{m:MS}{kN:Vs->MS}{N:L2.St->Hp->Prop}(hN:∀U' J' s' Z' H',Ext U H U' H'->aP K cA U' H' Z' J'->aD K cA U' H' s'->aR K cA (kN J') U' H' s' D EX->N Z' H')(h:aR K cA (pN m kN) U H s D EX) :
  aR K cA m U H s {D with nx:=N,ct:=N,bk:=D.nx} EX:=by
 unfold aR pN at h;unfold aR;cases e:m s with
 |none=>rw[e] at h;exact h
 |some r=>
  obtain⟨r,s1⟩:=r;rw[e] at h;cases r with
  |nx J'=>
   intro U1 H1 Z1 x r l;have h2:aR K cA (kN J') U H s1 D EX:=h;exact hN U1 J' s1 Z1 H1 x l r (h2.ext x)
  |ct J'=>
   intro U1 H1 Z1 x r l;have h2:aR K cA (kN J') U H s1 D EX:=h;exact hN U1 J' s1 Z1 H1 x l r (h2.ext x)
  |bk J'=>exact h
  |rt d=>exact h
  |er c fs J'=>exact h
def SG(X:Cx)(cA:Cl)(aq:Nat->Nat->Bool)(aj:Bool)(F:Bool->Fn)(EX:XS)(tg:Expr)(t:Tg):Prop:=∃g:TG,PG X tg g/\∀(U:Ph) (H:Hp) (s:S) (Z:L2.St) (J:Vs) (d:Xv) (v:V) (D:Ends),aP X.K cA U H Z J->aD X.K cA U H s->aW X.K cA U H d v->
 aR X.K cA (store aq aj (F aj) t d J) U H s D EX->g v Z H D.nx
theorem ziq(hN:X.N.Nodup)(hi:X.N[i]?=some x)(hx:Loc X.env.scope x)(hf:X.fn x=true\/X.env.scope.names.lookup x=some .local:=by first|exact .inl rfl|exact .inr rfl):SG X cA aq aj F EX (.Name x pos) (.nm i):=
 ⟨_,Kf hN hi hx hf,λU H s Z J d v D hL hS r h=>h U H _ Ext.refl hS (hL.set r)⟩
theorem ziB{k}(hc:X.aj=true)(cW:aj=true)(hN:X.N.Nodup)(hi:X.N[i]?=some x)(hj:X.N[j]?=some y)(hx:Loc X.env.scope x)(hy:Loc X.env.scope y)(vL:X.fn x=true\/X.env.scope.names.lookup x=some .local)(vM:X.fn y=true\/X.env.scope.names.lookup y=some .local) :
  SG X cA aq aj F EX (.Tuple [.Name x px,.Name y py] k pos) (.tp [i,j]):=
 ⟨_,zdt hc hN hi hj hx hy vL vM,λU H s Z J d v D hL hS r h=>XJ cW hL hS r h⟩
theorem zlc(hp:PassesOwn (model X.prog X.w) X.A X.env X.xe)(hc:X.aj=true)(cW:aj=true)(ha:SI X cA aq aj (F aj) EX tg a w)(hg:SG X cA aq aj F EX tg t)(hb:vK X cA aq aj F EX body mb)
  (hs:∀x,foldedSetIterable a X.env x=pure x:=by intro _;rfl):SS X cA aq aj F EX (.For tg a body [] pos) (.fr t w mb):=by
 obtain⟨g,hG,hg⟩:=hg;refine PS.weak (zkC hp hc ha hG hb hs) λD Z H hh=>un hh λU J s hL hS h=>?_;have h:aR X.K cA (if aj=true then ofM (gM aq aj (F aj) w J) J λcn=>dw cn.1 (λd J=>cB (store aq aj (F aj) t (.d d) J) λJ'=>exs aq aj F mb J') (cn.2+1) 0 J else λ_=>none) U H s D EX:=h;rw[if_pos cW] at h;refine⟨U,J,s,hL,hS,(aR.ofM hL hS.lz h).imp λcn s1 U1 H1 ⟨x1,aG,h1⟩ bF hJ=>?_⟩;have hL1:=hL.mono x1 hS.lz;obtain⟨c,n⟩:=cn;dsimp only at h1 hJ;refine⟨λi m Z' H'=>∃U' J' s',Ext U1 H1 U' H'/\aP X.K cA U' H' Z' J'/\aD X.K cA U' H' s'/\aR X.K cA (dw c (λd J=>cB (store aq aj (F aj) t (.d d) J) λJ'=>exs aq aj F mb J') m i J') U' H' s' D EX,⟨n+1,U1,J,s1,Ext.refl,hL1,aG,h1⟩,?_⟩;rintro i m Z' H' ⟨U',J',s',x2,hL2,aV,h4⟩;cases m with
 |zero=>exact h4.elim
 |succ m=>
  cases ei:c.at i s' with
  |none=>
   exfalso
   unfold aR dw at h4;simp only[ei] at h4
  |some oi=>
   cases oi with
   |none=>
    refine .inl ⟨hJ.stop U' H' H' s' i x2 cD.refl aV ei,?_⟩;unfold aR dw at h4;simp only[ei] at h4;exact h4 U' H' Z' Ext.refl aV hL2
   |some xi=>
    refine .inr ⟨hJ.go U' H' H' s' i xi x2 cD.refl aV ei,_,λZ3 H3 z=>⟨m,DN m,z⟩,λv H3 hy=>?_⟩;obtain⟨gr,rx⟩:=hJ.rG U' H' H' s' i xi v H3 x2 cD.refl aV ei hy;have h5:aR X.K cA (pN (cB (store aq aj (F aj) t (.d xi) J') λJ'=>exs aq aj F mb J') (dw c (λd J=>cB (store aq aj (F aj) t (.d d) J) λJ'=>exs aq aj F mb J') m (i+1))) U' H' s' D EX:=by
     unfold aR at h4 ⊢;have e:dw c (λd J=>cB (store aq aj (F aj) t (.d d) J) λJ'=>exs aq aj F mb J') (m+1) i J' s'=pN (cB (store aq aj (F aj) t (.d xi) J') λJ'=>exs aq aj F mb J') (dw c (λd J=>cB (store aq aj (F aj) t (.d d) J) λJ'=>exs aq aj F mb J') m (i+1)) s':=by
      rw[dw];simp only[ei];rfl
     rw[e] at h4;exact h4
    exact hg U' H3 s' Z' J' (.d xi) v _ (hL2.mono gr.ext aV.lz) (aV.grow gr) (.d rx) (aR.then_ (Kai (λU4 J4 s4 Z4 H4 x4 l4 r4 q4=>⟨U4,J4,s4,(x2.trans gr.ext).trans x4,l4,r4,q4⟩) (h5.ext gr.ext)))
end
end Mi
namespace L2
open PySem PySem.Spec PyProof.Rows
structure nq(K:W.Frag)(x qual:Str)(st:Stmt)(f:Addr)(fd:FuncData):Prop where
 ex:∃(oc:Value) (od:Option Addr) (kV doc pm:Value) (an:Option Addr) (cdv ct:Value) (osl:Array (Option Value)),
  fd=PySem.W.fnOf x qual (aU st) (aH st) (au st) .none kV doc pm an cdv ct/\K.lookup f=some ⟨oc,od,.func fd,osl⟩/\PySem.W.codeIn K cdv qual=true
 kp:PySem.W.keepIn K (.ref f)=true
end L2
namespace Mi
open PySem PySem.Spec PyProof.Rows L2
section
variable {P:Program}{w:World}{K:W.Frag}{mg:Str->Option Value}{base:Heap}{cA:Cl}{aq:Nat->Nat->Bool}{T:Nat->Option Df}
theorem XM{U:Ph}{H:Hp}{N:List Str}{ds:List Xv}{vs:List V}{m p:Nat}(r:aQ K cA U H ds vs)(hp:p=ds.length)(hm:m=N.length):aP K cA U H (L2.start N vs) (ds.map some++List.replicate (m-p) none):=by
 subst hp hm;unfold L2.start;have hl:=r.len;refine⟨by simp[hl],λi d e=>?_⟩;by_cases hi:i<ds.length
 ·rw[mZ (by simpa using hi),jo] at e;cases z:ds[i]? with
  |none=>rw[z] at e;cases e
  |some x=>
   rw[z] at e;cases e;obtain⟨v,a,b⟩:=r.get z;exact⟨v,by rw[mZ (by simp;lia),jo,a];rfl,b⟩
 ·rw[nA (by simpa using hi),Dv] at e;split at e<;>cases e
theorem XQ{U:Ph}{H:Hp}{s:S}{ds:List Xv}{k n:Nat}{cm:Bool}{df:Df}{Q:VK}{E:XK}(hT:T n=some df)
  (h:Run K cA (call aq T (k+1) cm n ds) U H s (λd _ U' H'=>∀v,aW K cA U' H' d v->Q v H') (λc fs _ U' H'=>∀dx,jB K cA U' H' c fs dx->E (.ref (cA.a c)) dx H')) :
  ds.length=df.gO/\aR K cA (exs aq cm (λc=>call aq T k c) df.body (ds.map some++List.replicate (df.many-df.gO) none)) U H s {nx:=λ_ H'=>Q .non H',rt:=Q} (λ_ C dx H'=>E C dx H'):=by
 unfold call at h;simp only[hT] at h;by_cases hl:ds.length=df.gO
 ·refine⟨hl,?_⟩;rw[if_pos hl] at h;unfold Run at h;unfold aR;cases e:exs aq cm (λc=>call aq T k c) df.body (ds.map some++List.replicate (df.many-df.gO) none) s with
  |none=>simp only[e] at h
  |some r=>
   obtain⟨r,s1⟩:=r;simp only[e] at h;cases r with
   |nx J=>exact λU' H' Z' x r l=>h U' H' x r _ (.d .non)
   |rt d=>exact λU' H' v x r rv=>h U' H' x r v rv
   |er c fs J=>exact λU' H' Z' x r l=>h U' H' x r
   |bk J=>exact h.elim
   |ct J=>exact h.elim
 ·rw[if_neg hl] at h;exact h.elim
theorem dH{cm:Bool}{n:Nat}{f:Addr}{fd:FuncData}{ps:List Str}:bY P w K mg base (fK P w) cm 0 f fd ps (ni K cA (call aq T 0 cm n)):=by
 have no:∀vs H Q E,ni K cA (call aq T 0 cm n) vs H Q E->False:=by
  rintro vs H Q E ⟨_,_,_,_,_,h⟩;exact h.elim
 exact⟨λvs H Q E h=>(no _ _ _ _ h).elim,λA outer s H args us vs Q E _ _ _ _ _ h=>(no _ _ _ _ h).elim⟩
theorem XR{x qual:Str}{st:Stmt}{f:Addr}{fd:FuncData}{N ps:List Str}{k n:Nat}{cm:Bool}{df:Df}(F:nq K x qual st f fd)(S:cQ N ps (au st))(hT:T n=some df)(hp:df.gO=ps.length)(hm:df.many=N.length)
  (hb:∀(cdv:Value) (A:Around) (outer:List Env) (s:Shared) (H:Hp) (E:XK),bB (k+1) A->
   vK (fD (fK P w) P w K mg base N qual (au st) f cdv A outer s H E cm) cA aq cm (λc=>call aq T k c) (λ_ C dx H'=>E C dx H') (aH st) df.body) :
  bY P w K mg base (fK P w) cm (k+1) f fd ps (ni K cA (call aq T (k+1) cm n)):=by
 obtain⟨oc,od,kV,doc,pm,an,cdv,ct,osl,rfl,lk,jN⟩:=F.ex;refine V9 lk jN S (λvs H Q E hz=>?_) λA outer s H vs Q E hr hz=>?_
 ·obtain⟨U,ds,s,r,hS,h⟩:=hz;rw[<-r.len,(XQ hT h).1,hp]
 ·obtain⟨U,ds,st',r,hS,h⟩:=hz;obtain⟨hl,h2⟩:=XQ hT h;exact⟨_,hb cdv A outer s H E hr,U,_,st',XM r hl.symm hm,hS,h2⟩
theorem zjX{x qual:Str}{st:Stmt}{f:Addr}{fd:FuncData}{N ps:List Str}{k n:Nat}{cm:Bool}{df:Df}(F:nq K x qual st f fd)(S:cQ N ps (au st))(hT:T n=some df)(hp:df.gO=ps.length)(hm:df.many=N.length)
  (hb:∀(cdv:Value) (A:Around) (outer:List Env) (s:Shared) (H:Hp) (E:XK),bB k (A.deeper (envOfC qual (au st) s.heap.objs.size f cdv))->
   vK (fD (fK P w) P w K mg base N qual (au st) f cdv A outer s H E cm) cA aq cm (λc=>call aq T k c) (λ_ C dx H'=>E C dx H') (aH st) df.body) :
  bY P w K mg base (fK P w) cm (k+1) f fd ps (ni K cA (call aq T (k+1) cm n)):=XR F S hT hp hm λcdv A outer s H E hr=>hb cdv A outer s H E (hr.deeper _)
end
theorem zjU{K:W.Frag}{cA:Cl}{m:List Xv->M Xv}{H:Hp}{a:Addr}{ns:List Int}(hq:eE K H a (ns.map V.int))(hm:∃s',m [.d (.fl (ns.map D.int))] []=some (.ok (.d (.bl true)),s')) :
  ni K cA m [.ref a] H (λv _=>v=.bl true) λ_ _ _=>False:=by
 have rs:∀(l:List Int) U,aC K cA U H (l.map D.int) (l.map V.int):=λl U=>by
  induction l with
  |nil=>exact .nil
  |cons i l ih=>exact .cons (.int i) ih
 have hl:LstAt K ⟨λ_=>False,[]⟩ H a (ns.map V.int):=by
  rcases hq with h|h
  ·exact .inl ⟨h,λz=>z⟩
  ·exact .inr (.inr h)
 refine⟨⟨λ_=>False,[]⟩,[.d (.fl (ns.map D.int))],[],.cons (.d (.fl hl (rs ns _))) .nil,⟨rfl,(λn o b e1 e2=>by simp at e1),BZ,(λb hb=>by cases hb),(λb z=>False.elim z)⟩,?_⟩;obtain⟨s',e⟩:=hm;unfold Run;rw[e];intro U' H' _ _ v rv;cases rv with
 |d rv=>cases rv;rfl
theorem zf3:Raises X (λ_ _ _ _=>False):=λ_ _ _ _ _ _ _ _ _ _ _ _ _ z=>z.elim
theorem qD(r:bB k A):A.units+60<cLine:=by have:=r.un;lia
noncomputable def aF:Expr->Bool
 |.Starred _ _=>false
 |_=>true
theorem aX(h:aF e=true):starEach (e::es) env=(false,eval e env)::starEach es env:=by
 cases e<;>first|rfl|cases h
theorem bf:∀{es:List Expr} {env:Env} {pos:Pos},es.all aF=true->(backTo pos (starEach es env)).any (·.1)=false
 |[],_,_,_=>rfl
 |e::es,env,pos,h=>by
  rw[yG,gq] at h;rw[aX h.1];show (false||(backTo pos (starEach es env)).any (·.1))=false;rw[bf h.2];rfl
noncomputable def qF(sc scope:Scope):Bool:=(match scope.kind with|.function=>true|_=>false)&&scope.names.all λy=>match y.2 with
 |.cell=>(match scope.names.lookup y.1 with|some .cell=>true|_=>false)
 |.free=>(match sc.names.lookup y.1 with|some .cell=>true|some .free=>true|_=>false)
 |.local=>(match scope.names.lookup y.1 with|some .local=>true|_=>false)
 |_=>true
theorem cj.of(h:qF sc scope=true):cj sc scope:=by
 unfold qF at h;rw[gq,gY] at h;obtain⟨h1,h2⟩:=h;refine⟨?_,λy hy z=>?_,λy hy z=>?_,λy hy z=>?_⟩
 ·split at h1
  ·assumption
  ·cases h1
 ·have:=h2 y hy;rw[z] at this;dsimp only at this;split at this
  ·assumption
  ·cases this
 ·have:=h2 y hy;rw[z] at this;dsimp only at this;split at this
  ·exact .inl (by assumption)
  ·exact .inr (by assumption)
  ·cases this
 ·have:=h2 y hy;rw[z] at this;dsimp only at this;split at this
  ·assumption
  ·cases this
noncomputable def frB(scope:Scope)(XN:List Str):List Str->List Nat->Bool
 |y::N,j::fr=>(match scope.names.lookup y with|some .free=>true|_=>false)&&decide (XN[j]?=some y)&&frB scope XN N fr
 |[],[]=>true
 |_,_=>false
theorem X3:∀{N:List Str} {fr:List Nat},frB scope XN N fr=true->N.length=fr.length/\∀(i:Nat) (y:Str) (j:Nat),N[i]?=some y->fr[i]?=some j->scope.names.lookup y=some .free/\XN[j]?=some y
 |[],[],_=>⟨rfl,λi y j h=>by simp at h⟩
 |[],_::_,h=>by cases h
 |_::_,[],h=>by cases h
 |y::N,j::fr,h=>by
  unfold frB at h;rw[gq,gq,BL] at h;obtain⟨⟨h1,h2⟩,h3⟩:=h;obtain⟨l,q⟩:=X3 h3;refine⟨by simp[l],λi z m e1 e2=>?_⟩;cases i with
  |zero=>
   simp at e1 e2;subst e1 e2;refine⟨?_,h2⟩;split at h1
   ·assumption
   ·cases h1
  |succ i=>exact q i z m (by simpa using e1) (by simpa using e2)
noncomputable def okN(x:Str):Bool:=!(x==("__debug__" : Str)) && !(x==("__classdict__" : Str)) && !decide (x="__name__")
theorem tK(h:okN x=true):(x==("__debug__" : Str))=false/\(x==("__classdict__" : Str))=false/\x≠"__name__":=by
 unfold okN at h;simp only[gq,Bool.not_eq_true',decide_eq_false_iff_not] at h;exact⟨h.1.1,h.1.2,h.2⟩
theorem K7{env:Env}{k:NameKind}(hk:k≠.free):∀{names:List (Str×NameKind)} {x:Str},names.lookup x=some k->
  (names.map λ(n,k)=>if (k==NameKind.free&&env.scope.kind==.function&&env.kindOf n==some .cell) then (n,NameKind.cell) else (n,k)).lookup x=some k
 |[],x,h=>by simp at h
 |(n,q)::r,x,h=>by
  rw[nG] at h;rw[jq,nG];have hd:∀c:Bool,(if c=true then (n,NameKind.cell) else (n,q)).1=n:=λc=>by cases c<;>rfl
  rw[hd];by_cases z:x=n
  ·subst z;simp only[BP] at h ⊢;cases h
   split
   ·rename_i y;simp only[gq,m8] at y;exact absurd y.1.1 hk
   ·rfl
  ·have z':(x==n)=false:=by simpa using z
   simp only[z'] at h ⊢;exact K7 hk h
noncomputable def tL(K:W.Frag):Sp:=λvs H Q _=>∃(a:Addr) (ns:List Int),vs=[.ref a]/\eE K H a (ns.map V.int)/\ns.length<=63/\Only H/\∀H',Q (.bl true) H'
theorem zit{K:W.Frag}{cA:Cl}{m:List Xv->M Xv}(hm:∀ns:List Int,ns.length<=63->∃s',m [.d (.fl (ns.map D.int))] []=some (.ok (.d (.bl true)),s'))(vs:List V)(H:Hp)(Q:VK)(E:XK)(h:tL K vs H Q E):ni K cA m vs H Q E:=by
 obtain⟨a,ns,rfl,hq,hl,hO,k⟩:=h;obtain⟨U,ds,s,r1,r2,h⟩:=zjU (cA:=cA) (m:=m) hq (hm ns hl);refine⟨U,ds,s,r1,r2,?_⟩;unfold Run at h ⊢;split at h
 ·intro U' H' x r v rv;rw[h U' H' x r v rv];exact k H'
 ·exact λU' H' x r dx q=>(h U' H' x r dx q).elim
 ·exact h
theorem Ab{K:W.Frag}{fd:FuncData}{p:Str}(h:∀a,bindArgs fd ⟨[a],[]⟩=pure [(p,a)]):Binds K fd [p] []:=.all λus hl=>by
 cases us with
 |nil=>cases hl
 |cons a r=>cases r with
  |nil=>exact h a
  |cons b r=>cases hl
theorem Ac{K:W.Frag}{fd:FuncData}{p q:Str}(h:∀a b,bindArgs fd ⟨[a,b],[]⟩=pure [(p,a),(q,b)]):Binds K fd [p,q] []:=.all λus hl=>by
 cases us with
 |nil=>cases hl
 |cons a r=>cases r with
  |nil=>cases hl
  |cons b r=>cases r with
   |nil=>exact h a b
   |cons c r=>cases hl
theorem tM{K:W.Frag}{fd:FuncData}{p q t:Str}(h:∀a b c,bindArgs fd ⟨[a,b,c],[]⟩=pure [(p,a),(q,b),(t,c)]):Binds K fd [p,q,t] []:=.all λus hl=>by
 cases us with
 |nil=>cases hl
 |cons a r=>cases r with
  |nil=>cases hl
  |cons b r=>cases r with
   |nil=>cases hl
   |cons c r=>cases r with
    |nil=>exact h a b c
    |cons d r=>cases hl
theorem tO{K:W.Frag}{fd:FuncData}{p q t u:Str}(h:∀a b c d,bindArgs fd ⟨[a,b,c,d],[]⟩=pure [(p,a),(q,b),(t,c),(u,d)]):Binds K fd [p,q,t,u] []:=.all λus hl=>by
 cases us with
 |nil=>cases hl
 |cons a r=>cases r with
  |nil=>cases hl
  |cons b r=>cases r with
   |nil=>cases hl
   |cons c r=>cases r with
    |nil=>cases hl
    |cons d r=>cases r with
     |nil=>exact h a b c d
     |cons e r=>cases hl
theorem zkw:bootBuiltins "int"=some (.type "int"):=by decide +kernel
theorem zic:bootBuiltins "bool"=some (.type "bool"):=by decide +kernel
theorem K8:bootBuiltins "tuple"=some (.type "tuple"):=by decide +kernel
structure JE(X:Cx)(cA:Cl)(aq:Nat->Nat->Bool)(aj:Bool)(F:Fn)(EX:XS)(e:Expr)(m:E):Prop where
 o:SE X cA aq aj F EX e m
structure JA(X:Cx)(cA:Cl)(aq:Nat->Nat->Bool)(aj:Bool)(F:Fn)(EX:XS)(e:List Expr)(m:Es):Prop where
 o:SA X cA aq aj F EX e m
structure JT(X:Cx)(cA:Cl)(aq:Nat->Nat->Bool)(aj:Bool)(F:Fn)(EX:XS)(e:Expr)(m:E):Prop where
 o:ST X cA aq aj F EX e m
structure JW(X:Cx)(cA:Cl)(aq:Nat->Nat->Bool)(aj:Bool)(F:Fn)(EX:XS)(e:Expr)(m:E):Prop where
 o:SW X cA aq aj F EX e m
structure JC(X:Cx)(cA:Cl)(aq:Nat->Nat->Bool)(aj:Bool)(F:Fn)(EX:XS)(e:List Expr)(m:Eo):Prop where
 o:C_ X cA aq aj F EX e m
structure JO(X:Cx)(cA:Cl)(aq:Nat->Nat->Bool)(aj:Bool)(F:Fn)(EX:XS)(e:Option Expr)(m:Eo):Prop where
 o:HD X cA aq aj F EX e m
structure JI(X:Cx)(cA:Cl)(aq:Nat->Nat->Bool)(aj:Bool)(F:Fn)(EX:XS)(tg e:Expr)(m:Wk):Prop where
 o:SI X cA aq aj F EX tg e m
structure JG(X:Cx)(cA:Cl)(aq:Nat->Nat->Bool)(aj:Bool)(F:Bool->Fn)(EX:XS)(e:Expr)(m:Tg):Prop where
 o:SG X cA aq aj F EX e m
structure JS(X:Cx)(cA:Cl)(aq:Nat->Nat->Bool)(aj:Bool)(F:Bool->Fn)(EX:XS)(e:Stmt)(m:St):Prop where
 o:SS X cA aq aj F EX e m
structure JB(X:Cx)(cA:Cl)(aq:Nat->Nat->Bool)(aj:Bool)(F:Bool->Fn)(EX:XS)(e:List Stmt)(m:bU):Prop where
 o:vK X cA aq aj F EX e m
structure JK(X:Cx)(x:Str)(k:NameKind):Prop where
 o:X.env.scope.names.lookup x=some k
structure JP(X:Cx)(cA:Cl)(op:CmpOp)(p:Pr):Prop where
 o:∃r,dO X (compareOp op) r/\bD X.K cA p (r2 r)
structure JQ(X:Cx)(cA:Cl)(op:Operator)(p:Pr):Prop where
 o:∃r,dO X (binaryOp op) r/\bD X.K cA p (r2 r)
structure JN(X:Cx)(cA:Cl)(kx:Expr)(k:Kd):Prop where
 o:PE X kx (tC (CT cA k))
structure JR(X:Cx)(EX:XS):Prop where
 o:Raises X EX
structure JH(X:Cx):Prop where
 o:PassesOwn (model X.prog X.w) X.A X.env X.xe
structure JY(X:Cx)(tg:Expr)(g:TG):Prop where
 o:PG X tg g
noncomputable def lC:NameKind->Bool
 |.local=>true
 |.cell=>true
 |_=>false
noncomputable def Ad:NameKind->Bool
 |.local=>true
 |.cell=>true
 |.free=>true
 |_=>false
section
variable {X:Cx}{cA:Cl}{aq:Nat->Nat->Bool}{aj:Bool}{F:Fn}{EX:XS}{a b c d e:Expr}{A B C Dd E':E}{pos p p2 apos:Pos}{es:List Expr}{Xs:Es}{x y:Str}{k k':NameKind}{q q1 q2 q3:Pr}{fz:Bool}
theorem X4(h:scope.names.lookup x=some k)(hk:(match k with|.free=>false|_=>true)=true):JK (X.blk scope cl N Cc s3 H3 fp ao) x k:=
 ⟨K7 (by intro z;subst z;cases hk) h⟩
theorem X5(i:Nat)(hN:X.N[i]?=some x)(h:JK X x k)(hv:Ad k=true)(hd:okN x=true):JE X cA aq aj F EX (.Name x pos) (.v i):=
 ⟨W0 i hN (by cases k<;>first|exact .inl h.o|exact .inr (.inl h.o)|exact .inr (.inr h.o)|cases hv) (tK hd).1 (tK hd).2.1⟩
theorem znh(i:Nat)(hN:N[i]?=some x)(h:scope.names.lookup x=some .free)(hd:okN x=true):JE (X.blk scope cl N Cc s3 H3 fp ao) cA aq aj F EX (.Name x pos) (.v i):=
 ⟨W0 i hN (.inr (Kw h)) (tK hd).1 (tK hd).2.1⟩
theorem aY{i j p}:JE X cA aq aj F EX (.Constant (.int i) j p) (.c (.int i)):=⟨zjy⟩
theorem oE{i j p}:JE X cA aq aj F EX (.Constant (.bool i) j p) (.c (.bl i)):=⟨zmn⟩
theorem zma{j p}:JE X cA aq aj F EX (.Constant .none j p) (.c .non):=⟨zk4⟩
theorem HY(h:∃t,X.mg x=some (.int i t))(hg:JK X x .globalImplicit)(hd:okN x=true):JE X cA aq aj F EX (.Name x pos) (.c (.int i)):=by
 obtain⟨t,h⟩:=h;exact⟨zh0 hg.o h (tK hd).1⟩
theorem vN:JQ X cA .Add .add:=⟨_,zfu,zkg⟩
theorem Ae:JQ X cA .Sub .aq:=⟨_,zk3,zjf⟩
theorem Af:JQ X cA .Mult .mul:=⟨_,zkt,zk6⟩
theorem zjE:JQ X cA .FloorDiv .fdiv:=⟨_,zh3,ziW⟩
theorem Ag:JQ X cA .Mod .mod:=⟨_,zkQ,zkc⟩
theorem zms:JQ X cA .Pow .pow:=⟨_,zjz,zjV⟩
theorem fO(h:JQ X cA op q)(ha:JE X cA aq aj F EX a A)(hb:JE X cA aq aj F EX b B):JE X cA aq aj F EX (.BinOp a op b pos) (.pr fz q (.cons A (.cons B .nil))):=by
 obtain⟨r,h1,h2⟩:=h.o;exact⟨zjT h1 h2 ha.o hb.o⟩
theorem X6(ha:JE X cA aq aj F EX a A):JE X cA aq aj F EX (.UnaryOp .USub a pos) (.pr true .neg (.cons A .nil)):=⟨zl3 zjJ zko ha.o⟩
theorem zl8(ha:JE X cA aq aj F EX a A):JE X cA aq aj F EX (.UnaryOp .Not a pos) (.not A):=⟨zkG ha.o⟩
theorem Ah{op}(ha:JE X cA aq aj F EX a A):JE X cA aq aj F EX (.BoolOp op [a] pos) A:=⟨zkU ha.o⟩
theorem xP{rest:List Expr}(ha:JE X cA aq aj F EX a A)(hb:JE X cA aq aj F EX (.BoolOp .And (b::rest) pos) B):JE X cA aq aj F EX (.BoolOp .And (a::b::rest) pos) (.and A B):=⟨zkL ha.o hb.o⟩
theorem Ai{k:Nat}(hr:bB k X.A):JP X cA .Eq .eq:=⟨_,zkJ (qD hr),zmx⟩
theorem H_{k:Nat}(hr:bB k X.A):JP X cA .NotEq .ne:=⟨_,zj9 (qD hr),zmo⟩
theorem xQ{k:Nat}(hr:bB k X.A):JP X cA .Lt .lt:=⟨_,Fp.or (zj3 (by have:=qD hr;lia)),zlS⟩
theorem K9:JP X cA .LtE .le:=⟨_,zlQ,zl2⟩
theorem K_:JP X cA .Gt .gt:=⟨_,zl4,zl5⟩
theorem X7:JP X cA .GtE .ge:=⟨_,zlZ,zlJ⟩
theorem zni{k:Nat}(hr:bB k X.A):JP X cA .In .inn:=⟨_,zkY (qD hr),zmw⟩
noncomputable def pO:Expr->Bool
 |.Set _ _ _=>false
 |_=>true
theorem Aj(h:pO b=true):behindInMarks op b=false:=by cases b<;>first|rfl|cases h
theorem xR(ho:JP X cA op q)(ha:JE X cA aq aj F EX a A)(hb:JE X cA aq aj F EX b B)(h1:pO b=true:=by rfl):JE X cA aq aj F EX (.Compare a [op] [b] pos) (.pr true q (.cons A (.cons B .nil))):=by
 obtain⟨r,h2,h3⟩:=ho.o;exact⟨zkf h2 h3 ha.o hb.o (Aj h1)⟩
theorem lD(ho:JP X cA op q)(ha:JE X cA aq aj F EX a A)(hb:JE X cA aq aj F EX b B)(h1:pO b=true:=by rfl):JT X cA aq aj F EX (.Compare a [op] [b] pos) (.pr true q (.cons A (.cons B .nil))):=by
 obtain⟨r,h2,h3⟩:=ho.o;exact⟨zjO h2 h3 ha.o hb.o (Aj h1)⟩
theorem zl7(h1:JP X cA op q1)(h2:JP X cA op' q2)(ha:JE X cA aq aj F EX a A)(hb:JE X cA aq aj F EX b B)(hc:JE X cA aq aj F EX c C)(hm:pO c=true:=by rfl):JE X cA aq aj F EX (.Compare a [op,op'] [b,c] pos) (.wY q1 q2 A B C):=by
 obtain⟨r,h3,h4⟩:=h1.o;obtain⟨r',h5,h6⟩:=h2.o;exact⟨zjw h3 h4 h5 h6 ha.o hb.o hc.o (Aj hm)⟩
theorem zmc{j p}(ha:JE X cA aq aj F EX a A):JE X cA aq aj F EX (.Compare a [.Is] [.Constant .none j p] pos) (.pr true .Gp (.cons A .nil)):=⟨zkh ha.o⟩
noncomputable def Ia:Expr->Bool
 |.Call _ _ _ _=>true
 |.Name _ _=>true
 |.Subscript _ _ _=>true
 |.Attribute _ _ _=>true
 |_=>false
theorem qT(ha:JE X cA aq aj F EX a A)(he:Ia a=true:=by rfl):JT X cA aq aj F EX a A:=⟨zlh ha.o (by cases a<;>first|(intro _;rfl)|cases he)⟩
theorem tQ(ha:JT X cA aq aj F EX a A):JT X cA aq aj F EX (.UnaryOp .Not a pos) (.not A):=⟨zk7 ha.o⟩
theorem Ru(ha:JT X cA aq aj F EX a A):JW X cA aq aj F EX (.BoolOp .Or [a] pos) A:=⟨zks ha.o⟩
theorem Di{rest:List Expr}(ha:JT X cA aq aj F EX a A)(hb:JW X cA aq aj F EX (.BoolOp .Or (b::rest) pos) B):JW X cA aq aj F EX (.BoolOp .Or (a::b::rest) pos) (.or A B):=⟨zmr ha.o hb.o⟩
theorem Rw(h:JW X cA aq aj F EX a A):JT X cA aq aj F EX a A:=⟨znl h.o⟩
theorem zlW(hc:JT X cA aq aj F EX c C)(ha:JE X cA aq aj F EX a A)(hb:JE X cA aq aj F EX b B):JE X cA aq aj F EX (.IfExp c a b pos) (.ite C A B):=⟨zkD hc.o ha.o hb.o⟩
theorem aK:JA X cA aq aj F EX [] .nil:=⟨zkq⟩
theorem aB(ha:JE X cA aq aj F EX a A)(hr:JA X cA aq aj F EX es Xs)(hs:aF a=true:=by rfl):JA X cA aq aj F EX (a::es) (.cons A Xs):=⟨zja ha.o hr.o (aX hs)⟩
theorem lE{k}(ha:JA X cA aq aj F EX es Xs)(hz:decide (Es.len Xs<=sizeLine)=true:=by rfl):JE X cA aq aj F EX (.Tuple es k pos) (.tup Xs):=⟨zlg ha.o (fH hz)⟩
theorem Ak(ha:JA X cA aq aj F EX es Xs)(hz:decide (Es.len Xs<=sizeLine)=true:=by rfl):JE X cA aq aj F EX (.List es pos) (.lst fz Xs):=⟨zkk ha.o (fH hz)⟩
noncomputable def tR:Expr->Bool
 |.Constant _ _ _=>true
 |.Name _ _=>true
 |.Call _ _ _ _=>true
 |.BinOp _ _ _ _=>true
 |.UnaryOp _ _ _=>true
 |.Subscript _ _ _=>true
 |.IfExp _ _ _ _=>true
 |.Attribute _ _ _=>true
 |.Compare _ _ _ _=>true
 |.BoolOp _ _ _=>true
 |_=>false
theorem f9(ha:JE X cA aq aj F EX a A)(hb:JE X cA aq aj F EX b B)(hs:tR b=true:=by rfl):JE X cA aq aj F EX (.Subscript a b pos) (.pr true .ix (.cons A (.cons B .nil))):=⟨zlz zmt ha.o hb.o (by cases b<;>first|(intro _ _;rfl)|cases hs)⟩
theorem znd:JO X cA aq aj F EX none .no:=⟨zly⟩
theorem Rx(ha:JE X cA aq aj F EX a A):JO X cA aq aj F EX (some a) (.yes A):=⟨zk5 ha.o⟩
theorem X8{lo hi:Option Expr}{Lo Hi:Eo}(ha:JE X cA aq aj F EX a A)(hl:JO X cA aq aj F EX lo Lo)(hh:JO X cA aq aj F EX hi Hi):JE X cA aq aj F EX (.Subscript a (.Slice lo hi none p2) pos) (.sl fz A Lo Hi):=⟨zml ha.o hl.o hh.o⟩
theorem zkm(f:Nat){cm:Bool}{k:Nat}{fa:Addr}{fd:FuncData}{ps:List Str}(Fo:bY X.prog X.w X.K X.mg X.base (fK X.prog X.w) cm k fa fd ps (ni X.K cA (F f)))(jd:cm=true->X.aj=true)(hr:bB k X.A)(hm:X.mg x=some (.ref fa))(hk:PySem.W.keepIn X.K (.ref fa)=true)(hb:Binds X.K fd ps [])(R:JR X EX)(hg:JK X x .globalImplicit)
  (ha:JA X cA aq aj F EX (e::es) Xs) (hd:okN x=true) (he:aF e=true:=by rfl) (cP:es.all aF=true:=by rfl) :
  JE X cA aq aj F EX (.Call (.Name x p) (e::es) [] pos) (.call f Xs):=⟨zhO Fo jd hr hg.o hm hk hb R.o ha.o (tK hd).1 (aX he) (bf cP)⟩
theorem La(hv:CT cA kd=.ty T)(hm:X.mg x=none)(hb:bootBuiltins x=some (.type T))(hg:JK X x .globalImplicit)(hd:okN x=true):JN X cA (.Name x pos) kd:=⟨λao s Z H Q I h=>by
 rw[hv] at h;exact wN I hg.o hm hb ⟨.ty T,H,I,rfl,h⟩ (tK hd).2.2 (tK hd).1⟩
theorem Lb(h0:(tu kd).isSome=true)(hm:X.mg "isinstance"=none)(hg:JK X "isinstance" .globalImplicit)(ha:JE X cA aq aj F EX a A)(hk:JN X cA kx kd)(h1:aF a=true:=by rfl)(h2:aF kx=true:=by rfl):JE X cA aq aj F EX (.Call (.Name "isinstance" p) [a,kx] [] pos) (.pD A kd):=
 ⟨zjH (λz=>by rw[z] at h0;cases h0) hg.o hm ha.o hk.o (aX h1) (aX h2) (bf (by rw[yG,h2];rfl))⟩
theorem Al(hm:X.mg "len"=none)(hg:JK X "len" .globalImplicit)(ha:JA X cA aq aj F EX (e::es) Xs)(he:aF e=true:=by rfl)(cP:es.all aF=true:=by rfl):JE X cA aq aj F EX (.Call (.Name "len" p) (e::es) [] pos) (.pr fz .len Xs):=⟨zZ zcT zkA hg.o hm PySem.boot_len ha.o J0 J0 (aX he) (bf cP)⟩
theorem zl9(hm:X.mg "abs"=none)(hg:JK X "abs" .globalImplicit)(ha:JA X cA aq aj F EX (e::es) Xs)(he:aF e=true:=by rfl)(cP:es.all aF=true:=by rfl):JE X cA aq aj F EX (.Call (.Name "abs" p) (e::es) [] pos) (.pr fz .abs Xs):=⟨zZ zgL zji hg.o hm PyProof.Rows.boot_abs ha.o J0 J0 (aX he) (bf cP)⟩
theorem zkz(hc:X.aj=true)(hm:X.mg "max"=none)(hg:JK X "max" .globalImplicit)(ha:JA X cA aq aj F EX (e::es) Xs)(he:aF e=true:=by rfl)(cP:es.all aF=true:=by rfl):JE X cA aq aj F EX (.Call (.Name "max" p) (e::es) [] pos) (.pr fz .max2 Xs):=⟨zZ (zeU hc) zio hg.o hm PyProof.Rows.boot_max ha.o J0 J0 (aX he) (bf cP)⟩
theorem X_(hc:X.aj=true)(hm:X.mg "min"=none)(hg:JK X "min" .globalImplicit)(ha:JA X cA aq aj F EX (e::es) Xs)(he:aF e=true:=by rfl)(cP:es.all aF=true:=by rfl):JE X cA aq aj F EX (.Call (.Name "min" p) (e::es) [] pos) (.pr fz .min2 Xs):=⟨zZ (zfe hc) ziS hg.o hm PyProof.Rows.boot_min ha.o J0 J0 (aX he) (bf cP)⟩
theorem zj8(hm:X.mg "int"=none)(hg:JK X "int" .globalImplicit)(ha:JA X cA aq aj F EX (e::es) Xs)(he:aF e=true:=by rfl)(cP:es.all aF=true:=by rfl):JE X cA aq aj F EX (.Call (.Name "int" p) (e::es) [] pos) (.pr fz .vq Xs):=⟨W3 zfA zi9 hg.o hm PyProof.Rows.boot_int ha.o J0 J0 (aX he) (bf cP)⟩
theorem zgC(hm:X.mg "divmod"=none)(hg:JK X "divmod" .globalImplicit)(ha:JA X cA aq aj F EX (e::es) Xs)(he:aF e=true:=by rfl)(cP:es.all aF=true:=by rfl):JE X cA aq aj F EX (.Call (.Name "divmod" p) (e::es) [] pos) (.pr fz .divmod Xs):=⟨zZ zdJ ze2 hg.o hm PyProof.Rows.boot_divmod ha.o J0 J0 (aX he) (bf cP)⟩
theorem Ld(hc:X.aj=true)(hm:X.mg "all"=none)(hg:JK X "all" .globalImplicit)(ha:JA X cA aq aj F EX (e::es) Xs)(he:aF e=true:=by rfl)(cP:es.all aF=true:=by rfl):JE X cA aq aj F EX (.Call (.Name "all" p) (e::es) [] pos) (.pr fz .all Xs):=⟨zZ (zfT hc) zjC hg.o hm PyProof.Rows.boot_all ha.o J0 J0 (aX he) (bf cP)⟩
theorem Le(hm:X.mg "tuple"=none)(hg:JK X "tuple" .globalImplicit)(ha:JA X cA aq aj F EX (e::es) Xs)(he:aF e=true:=by rfl)(cP:es.all aF=true:=by rfl):JE X cA aq aj F EX (.Call (.Name "tuple" p) (e::es) [] pos) (.pr fz .tuple Xs):=⟨W3 zcl zgU hg.o hm K8 ha.o J0 J0 (aX he) (bf cP)⟩
theorem tU:JC X cA aq aj F EX [] .no:=⟨zkN⟩
theorem Ib(h:JT X cA aq aj F EX c C):JC X cA aq aj F EX [c] (.yes C):=⟨zhN h.o⟩
theorem qG(ha:JE X cA aq aj F EX a A):JI X cA aq aj F EX tg a (.seq A):=⟨zj2 ha.o⟩
theorem Yb(hmg:X.mg "range"=none)(qC:JK X "range" .globalImplicit)(ha:JE X cA aq aj F EX a A)(hb:JE X cA aq aj F EX b B)(h1:aF a=true:=by rfl)(h2:aF b=true:=by rfl):JI X cA aq aj F EX tg (.Call (.Name "range" p) [a,b] [] pos) (.rg A B):=⟨zmz qC.o hmg ha.o hb.o (aX h1) (aX h2)⟩
theorem Ie(hmg:X.mg "range"=none)(qC:JK X "range" .globalImplicit)(hb:JE X cA aq aj F EX b B)(h2:aF b=true:=by rfl):JI X cA aq aj F EX tg (.Call (.Name "range" p) [b] [] pos) (.rg (.c (.int 0)) B):=⟨zkM qC.o hmg hb.o (aX h2)⟩
noncomputable def Ig(scope:Scope)(x:Str):Bool:=match scope.names.lookup x with
 |some .local=>true
 |some .cell=>true
 |_=>false
theorem Dj(h:Ig scope x=true):Loc (X.blk scope cl N Cc s3 H3 fp ao).env.scope x/\((X.blk scope cl N Cc s3 H3 fp ao).fn x=true\/(X.blk scope cl N Cc s3 H3 fp ao).env.scope.names.lookup x=some .local):=by
 unfold Ig at h;split at h
 ·rename_i z;exact⟨.inl (lookup_relabel_local z),.inr (lookup_relabel_local z)⟩
 ·rename_i z;exact⟨.inr (K7 (by intro y;cases y) z),.inl (by show (scope.names.lookup x==some NameKind.cell)=true;rw[z];rfl)⟩
 ·cases h
theorem oF(i:Nat)(Ry:N.Nodup)(hi:N[i]?=some x)(hl:Ig scope x=true):JY (X.blk scope cl N Cc s3 H3 fp ao) (.Name x tp) (c7 i):=
 ⟨Kf Ry hi (Dj hl).1 (Dj hl).2⟩
theorem Yc(i j:Nat)(hc:X.aj=true)(Ry:N.Nodup)(hi:N[i]?=some x)(hj:N[j]?=some y)(hl:Ig scope x=true)(CZ:Ig scope y=true):JY (X.blk scope cl N Cc s3 H3 fp ao) (.Tuple [.Name x px,.Name y py] kt tp) (rE X.K 2 (gJ (c7 i) (gJ (c7 j) rD))):=
 ⟨zdt (X:=X.blk scope cl N Cc s3 H3 fp ao) hc Ry hi hj (Dj hl).1 (Dj CZ).1 (Dj hl).2 (Dj CZ).2⟩
theorem xT{scope:Scope}{XN:List Str}{M0 N:List Str}{fr:List Nat}(h:frB scope XN N fr=true):(M0++N).length=M0.length+fr.length/\∀(i:Nat) (y:Str) (j:Nat),(M0++N)[M0.length+i]?=some y->fr[i]?=some j->scope.names.lookup y=some .free/\XN[j]?=some y:=by
 obtain⟨l,q⟩:=X3 h;refine⟨by rw[ji,l],λi y j e1 e2=>q i y j ?_ e2⟩;rw[nA gV] at e1;rw[show M0.length+i-M0.length=i by lia] at e1;exact e1
theorem qH{elt iter tg:Expr}{ifs:List Expr}{scope:Scope}{cond:Eo}{aM:List Nat}{g:TG}{w:Wk}(sc:Scope)(XN M0 N:List Str)(fr:List Nat)(hc:X.aj=true)(Ih:X.env.scope=sc)(pL:X.N=XN)(hB:qF sc scope=true)(hf:frB scope XN N fr=true)(hT:fj X.K cA g aM)(dG:aM.all (λi=>decide (i<M0.length))=true)
  (hi:JI X cA aq aj F EX tg iter w) (hg:∀cl C s3 H3 fp ao,JY (X.blk scope cl (M0++N) C s3 H3 fp ao) tg g)
  (ht:∀cl C s3 H3 fp ao,JC (X.blk scope cl (M0++N) C s3 H3 fp ao) cA aq aj F (λ_ _ _ _=>False) ifs cond) (he:∀cl C s3 H3 fp ao,JE (X.blk scope cl (M0++N) C s3 H3 fp ao) cA aq aj F (λ_ _ _ _=>False) elt B)
  (hs:∀x,foldedSetIterable iter X.env x=pure x:=by intro _;rfl):JE X cA aq aj F EX (.ListComp elt [⟨tg,iter,ifs,0⟩] scope pos) (.comp fz B aM w fr M0.length cond):=
 ⟨XH hc (cj.of (Ih▸hB)) hi.o (xT (pL▸hf)).1 (xT (pL▸hf)).2 (λa b c d e f=>(hg a b c d e f).o) hT (λi hi=>fH (gY.mp dG i hi)) (λa b c d e f=>(ht a b c d e f).o) (λa b c d e f=>(he a b c d e f).o) hs⟩
theorem Kaa{scope dU:Scope}{env:Env}(h:cj scope dU):cj (relabel scope env) dU:=⟨h.kind,h.Wt,λy hy z=>by
 rcases h.free y hy z with q|q
 ·exact .inl (K7 (by intro y;cases y) q)
 ·exact Kw q,h.loc⟩
theorem ziG{elt iter tg:Expr}{ifs:List Expr}{scope dU:Scope}{cond:Eo}{aM:List Nat}{g:TG}{w:Wk}{cl:List (Str×Addr)}{xU:List Str}{Cc:Addr}{s3:Shared}{H3:Hp}{fp:List Addr}{ao:List (Addr×Obj)}(XN M0 N:List Str)(fr:List Nat)(hc:X.aj=true)(pL:xU=XN)(hB:qF scope dU=true)(hf:frB dU XN N fr=true)(hT:fj X.K cA g aM)(dG:aM.all (λi=>decide (i<M0.length))=true)
  (hi:JI (X.blk scope cl xU Cc s3 H3 fp ao) cA aq aj F EX tg iter w) (hg:∀cl2 C s3' Ii fp' iK,JY ((X.blk scope cl xU Cc s3 H3 fp ao).blk dU cl2 (M0++N) C s3' Ii fp' iK) tg g)
  (ht:∀cl2 C s3' Ii fp' iK,JC ((X.blk scope cl xU Cc s3 H3 fp ao).blk dU cl2 (M0++N) C s3' Ii fp' iK) cA aq aj F (λ_ _ _ _=>False) ifs cond) (he:∀cl2 C s3' Ii fp' iK,JE ((X.blk scope cl xU Cc s3 H3 fp ao).blk dU cl2 (M0++N) C s3' Ii fp' iK) cA aq aj F (λ_ _ _ _=>False) elt B)
  (hs:∀x,foldedSetIterable iter (X.blk scope cl xU Cc s3 H3 fp ao).env x=pure x:=by intro _;rfl):JE (X.blk scope cl xU Cc s3 H3 fp ao) cA aq aj F EX (.ListComp elt [⟨tg,iter,ifs,0⟩] dU pos) (.comp fz B aM w fr M0.length cond):=by
 subst pL;exact⟨XH (X:=X.blk scope cl xU Cc s3 H3 fp ao) hc (Kaa (cj.of hB)) hi.o (xT hf).1 (xT hf).2 (λa b c d e f=>(hg a b c d e f).o) hT (λi hi=>fH (gY.mp dG i hi)) (λa b c d e f=>(ht a b c d e f).o) (λa b c d e f=>(he a b c d e f).o) hs⟩
theorem Am:JR X (λ_ _ _ _=>False):=⟨zf3⟩
theorem bM{P:Program}{w:World}{K:W.Frag}{mg:Str->Option Value}{base:Heap}{N:List Str}{qual:Str}{scope:Scope}{f:Addr}{cd:Value}{A:Around}{outer:List Env}{s:Shared}{H:Hp}{E:XK}{cm:Bool} :
  JR (fD (fK P w) P w K mg base N qual scope f cd A outer s H E cm) (λ_ C dx H'=>E C dx H'):=⟨zeN⟩
theorem Lf{CX:qj}{P:Program}{w:World}{K:W.Frag}{mg:Str->Option Value}{base:Heap}{N:List Str}{qual:Str}{scope:Scope}{f:Addr}{cd:Value}{A:Around}{outer:List Env}{s:Shared}{H:Hp}{E:XK}{cm:Bool} :
  JH (fD CX P w K mg base N qual scope f cd A outer s H E cm):=⟨PassesOwn.leaving⟩
end
section
variable {X:Cx}{cA:Cl}{aq:Nat->Nat->Bool}{aj:Bool}{F:Bool->Fn}{EX:XS}{a b c d e:Expr}{A B C:E}{pos p p2:Pos}{st:Stmt}{sts body orelse:List Stmt}{m:St}{ms mb me mh:bU}{es:List Expr}{Xs:Es}{x y n:Str}{k k':NameKind}
theorem xV(h:JK X x k)(hv:lC k=true):Loc X.env.scope x:=by cases k<;>first|exact .inl h.o|exact .inr h.o|cases hv
theorem xW(h:JK X x k)(hv:X.fn x=true\/k=.local):X.fn x=true\/X.env.scope.names.lookup x=some .local:=by
 rcases hv with hv|hv
 ·exact .inl hv
 ·subst hv;exact .inr h.o
theorem bA:JB X cA aq aj F EX [] .nil:=⟨ziY⟩
theorem aL(h1:JS X cA aq aj F EX st m)(h2:JB X cA aq aj F EX sts ms):JB X cA aq aj F EX (st::sts) (.cons m ms):=⟨zgk h1.o h2.o⟩
theorem Lg:JS X cA aq aj F EX st .no:=⟨zmq⟩
theorem nu(ha:JE X cA aq aj (F aj) EX a A)(hs:swapsWith a none pos.line X.env=pure false:=by rfl):JS X cA aq aj F EX (.Expr a pos) (.ex A):=⟨zmg ha.o hs⟩
theorem cI(ha:JE X cA aq aj (F aj) EX a A):JS X cA aq aj F EX (.Return (some a) pos) (.ret A):=⟨zjk ha.o⟩
theorem jF(i:Nat)(hN:X.N.Nodup)(hi:X.N[i]?=some x)(hx:JK X x k)(hl:lC k=true)(ha:JE X cA aq aj (F aj) EX a A)(hs:swapsWith a (some (.Name x p)) pos.line X.env=pure false:=by rfl)(hf:X.fn x=true\/k=.local:=by first|exact .inl rfl|exact .inr rfl):JS X cA aq aj F EX (.Assign [.Name x p] a pos) (.asg (.nm i) A):=
 ⟨zli hN hi (xV hx hl) ha.o hs (xW hx hf)⟩
theorem zk8{elt iter tg:Expr}{ifs:List Expr}{scope:Scope}{cond:Eo}{aM:List Nat}{g:TG}{w:Wk}{fz:Bool}{py spos:Pos}(i:Nat)(sc:Scope)(XN M0 N:List Str)(fr:List Nat)(hN:X.N.Nodup)(rZ:X.N[i]?=some y)(hx:JK X y k)(hl:lC k=true)(hc:X.aj=true)(Ih:X.env.scope=sc)(pL:X.N=XN)(hB:qF sc scope=true)(hf:frB scope XN N fr=true)(hT:fj X.K cA g aM)(dG:aM.all (λi=>decide (i<M0.length))=true)
  (hi:JI X cA aq aj (F aj) EX tg iter w) (hg:∀cl C s3 H3 fp ao,JY (X.blk scope cl (M0++N) C s3 H3 fp ao) tg g)
  (ht:∀cl C s3 H3 fp ao,JC (X.blk scope cl (M0++N) C s3 H3 fp ao) cA aq aj (F aj) (λ_ _ _ _=>False) ifs cond) (he:∀cl C s3 H3 fp ao,JE (X.blk scope cl (M0++N) C s3 H3 fp ao) cA aq aj (F aj) (λ_ _ _ _=>False) elt B)
  (su:swapsWith (.ListComp elt [⟨tg,iter,ifs,0⟩] scope pos) (some (.Name y py)) spos.line X.env=pure true:=by rfl) (RB:X.fn y=true\/k=.local:=by first|exact .inl rfl|exact .inr rfl) (hs:∀x,foldedSetIterable iter X.env x=pure x:=by intro _;rfl) :
  JS X cA aq aj F EX (.Assign [.Name y py] (.ListComp elt [⟨tg,iter,ifs,0⟩] scope pos) spos) (.asg (.nm i) (.comp fz B aM w fr M0.length cond)):=
 ⟨zim hc hN rZ (xV hx hl) (xW hx RB) (cj.of (Ih▸hB)) hi.o (xT (pL▸hf)).1 (xT (pL▸hf)).2 (λa b c d e f=>(hg a b c d e f).o) hT (λi hi=>fH (gY.mp dG i hi)) (λa b c d e f=>(ht a b c d e f).o) (λa b c d e f=>(he a b c d e f).o) su hs⟩
theorem Ij(i j:Nat){k0}(hc:X.aj=true)(cW:aj=true)(hN:X.N.Nodup)(hi:X.N[i]?=some x)(hj:X.N[j]?=some y)(hx:JK X x k)(hy:JK X y k')(RD:lC k=true)(RG:lC k'=true)(ha:JE X cA aq aj (F aj) EX a A)
  (vL:X.fn x=true\/k=.local:=by first|exact .inl rfl|exact .inr rfl) (vM:X.fn y=true\/k'=.local:=by first|exact .inl rfl|exact .inr rfl)
  (hs:swapsWithSole [.Tuple [.Name x px,.Name y py] k0 pt] a pos.line X.env=pure false:=by rfl) (hw:swappedStores [.Tuple [.Name x px,.Name y py] k0 pt] a X.env=pure none:=by rfl) (h1:(assignEach [.Tuple [.Name x px,.Name y py] k0 pt] X.env).map (·.2)=[assign (.Tuple [.Name x px,.Name y py] k0 pt) X.env]:=by rfl) :
  JS X cA aq aj F EX (.Assign [.Tuple [.Name x px,.Name y py] k0 pt] a pos) (.asg (.tp [i,j]) A):=⟨ziU hc cW hN hi hj (xV hx RD) (xV hy RG) (xW hx vL) (xW hy vM) ha.o hs hw h1⟩
theorem Yd(hO:JE X cA aq aj (F aj) EX oo O)(hI:JE X cA aq aj (F aj) EX ii I')(ha:JE X cA aq aj (F aj) EX a A)
  (Rt:∀v,assign (.Subscript oo ii p) X.env v=(do
   let obj <-holding [v] (eval oo X.env)
   let at_ <-holding [v,obj] (eval ii X.env)
   standAt p
   holding [v,obj,at_] (setItem obj at_ v)
   release [v,obj,at_] []):=by intro _;rfl) (hs:swapsWithSole [.Subscript oo ii p] a pos.line X.env=pure false:=by rfl) (hw:swappedStores [.Subscript oo ii p] a X.env=pure none:=by rfl)
  (h1:(assignEach [.Subscript oo ii p] X.env).map (·.2)=[assign (.Subscript oo ii p) X.env]:=by rfl):JS X cA aq aj F EX (.Assign [.Subscript oo ii p] a pos) (.asg (.aq O I') A):=⟨zkl hO.o hI.o ha.o Rt hs hw h1⟩
theorem zmj(i j:Nat){kt k2 rF}(hc:X.aj=true)(cW:aj=true)(hN:X.N.Nodup)(hi:X.N[i]?=some x)(hj:X.N[j]?=some y)(uV:i≠j)(hx:JK X x .local)(hy:JK X y .local)
  (ha:JE X cA aq aj (F aj) EX a A) (hb:JE X cA aq aj (F aj) EX b B) (hw:swappedStores [.Tuple [.Name x px,.Name y py] kt pt] (.Tuple [a,b] k2 rF) X.env=pure (some [x,y])) (h1:aF a=true:=by rfl) (h2:aF b=true:=by rfl)
  (hs:swapsWithSole [.Tuple [.Name x px,.Name y py] kt pt] (.Tuple [a,b] k2 rF) pos.line X.env=pure false:=by rfl):JS X cA aq aj F EX (.Assign [.Tuple [.Name x px,.Name y py] kt pt] (.Tuple [a,b] k2 rF) pos) (.par i j A B):=
 ⟨zlb hc cW hN hi hj uV hx.o hy.o ha.o hb.o (aX h1) (aX h2) hw hs⟩
theorem lF(hc:JT X cA aq aj (F aj) EX c C)(ht:JB X cA aq aj F EX body mb)(he:JB X cA aq aj F EX orelse me):JS X cA aq aj F EX (.If c body orelse pos) (.iff C mb me):=⟨zlx hc.o ht.o he.o⟩
theorem RJ(i:Nat)(hN:X.N.Nodup)(hi:X.N[i]?=some x)(hx:JK X x k)(hl:lC k=true)(hf:X.fn x=true\/k=.local:=by first|exact .inl rfl|exact .inr rfl):JG X cA aq aj F EX (.Name x pos) (.nm i):=⟨ziq hN hi (xV hx hl) (xW hx hf)⟩
theorem zj1(i j:Nat){k0}(hc:X.aj=true)(cW:aj=true)(hN:X.N.Nodup)(hi:X.N[i]?=some x)(hj:X.N[j]?=some y)(hx:JK X x k)(hy:JK X y k')(RD:lC k=true)(RG:lC k'=true)(vL:X.fn x=true\/k=.local:=by first|exact .inl rfl|exact .inr rfl)(vM:X.fn y=true\/k'=.local:=by first|exact .inl rfl|exact .inr rfl) :
  JG X cA aq aj F EX (.Tuple [.Name x px,.Name y py] k0 pos) (.tp [i,j]):=⟨ziB hc cW hN hi hj (xV hx RD) (xV hy RG) (xW hx vL) (xW hy vM)⟩
theorem Lh(hp:JH X)(hc:X.aj=true)(cW:aj=true)(ha:JI X cA aq aj (F aj) EX tg a w)(hg:JG X cA aq aj F EX tg t)(hb:JB X cA aq aj F EX body mb)(hs:∀x,foldedSetIterable a X.env x=pure x:=by intro _;rfl):JS X cA aq aj F EX (.For tg a body [] pos) (.fr t w mb):=
 ⟨zlc hp.o hc cW ha.o hg.o hb.o hs⟩
end
theorem Ye{P:Program}{w:World}{K:W.Frag}{mg:Str->Option Value}{base:Heap}{cA:Cl}{aq:Nat->Nat->Bool}{T:Nat->Option Df}{x qual:Str}{st:Stmt}{f:Addr}{fd:FuncData}{N ps:List Str}{k n:Nat}{cm:Bool}{df:Df}(F:nq K x qual st f fd)(S:cQ N ps (au st))(hT:T n=some df)(hp:df.gO=ps.length)(hm:df.many=N.length)
  (hb:∀(cdv:Value) (A:Around) (outer:List Env) (s:Shared) (H:Hp) (E:XK),bB k (A.deeper (envOfC qual (au st) s.heap.objs.size f cdv))->
   JB (fD (fK P w) P w K mg base N qual (au st) f cdv A outer s H E cm) cA aq cm (λc=>call aq T k c) (λ_ C dx H'=>E C dx H') (aH st) df.body) :
  bY P w K mg base (fK P w) cm (k+1) f fd ps (ni K cA (call aq T (k+1) cm n)):=zjX F S hT hp hm λcdv A outer s H E hr=>(hb cdv A outer s H E hr).o
section
variable {K:W.Frag}{cA:Cl}{U:Ph}{H:Hp}{kvs:jR}{xs:fZ}{k:List Kx}
theorem iG.len(r:iG K cA U H kvs xs):kvs.length=xs.length:=by
 induction r with
 |nil=>rfl
 |cons _ _ _ _ ih=>rw[dB,dB,ih]
theorem zhV{j:List Kx}{a:Addr}{u:Value}{r:fZ}:atKey ((j,a,u)::r) k=if j=k then some (a,u) else atKey r k:=by
 unfold atKey;rw[List.find?_cons];by_cases e:j=k
 ·simp[e]
 ·simp[e]
theorem iG.at(r:iG K cA U H kvs xs):(jg k kvs=none/\atKey xs k=none)\/∃d p v,jg k kvs=some d/\atKey xs k=some p/\RelV v p.2/\Rep K cA U H d v:=by
 induction r with
 |nil=>exact .inl ⟨rfl,rfl⟩
 |@cons j d ka u v r xs hk hu hv q ih=>
  rw[zhV];unfold jg;by_cases e:j=k
  ·rw[if_pos e,if_pos e];exact .inr ⟨d,(ka,u),v,rfl,rfl,hu,hv⟩
  ·rw[if_neg e,if_neg e];exact ih
theorem iG.isSome(r:iG K cA U H kvs xs):(atKey xs k).isSome=(jg k kvs).isSome:=by
 rcases r.at (k:=k) with ⟨a,b⟩|⟨d,p,v,a,b,_⟩<;>rw[a,b]<;>rfl
theorem iG.app{kvs':jR}{xs':fZ}(r:iG K cA U H kvs xs)(r':iG K cA U H kvs' xs'):iG K cA U H (kvs++kvs') (xs++xs'):=by
 induction r with
 |nil=>exact r'
 |cons a b c _ ih=>exact .cons a b c ih
theorem iG.put{ka:Addr}{u:Value}{v:V}{d:D}(r:iG K cA U H kvs xs)(hk:Rep K cA U H (jz k) (.ref ka))(hu:RelV v u)(hv:Rep K cA U H d v):iG K cA U H (lu k d kvs) (storedH xs k ka u):=by
 unfold lu storedH;rw[r.isSome];by_cases e:(jg k kvs).isSome=true
 ·rw[if_pos e,if_pos e];clear e
  induction r with
  |nil=>exact .nil
  |@cons j d' Yg u' v' r xs Yh hu' Ot q ih=>
   rw[jq,jq];show iG K cA U H ((if j=k then (j,d) else (j,d'))::_) ((if j=k then (j,Yg,u) else (j,Yg,u'))::_);by_cases e:j=k
   ·rw[if_pos e,if_pos e];exact .cons Yh hu hv ih
   ·rw[if_neg e,if_neg e];exact .cons Yh hu' Ot ih
 ·rw[if_neg e,if_neg e];exact r.app (.cons hk hu hv .nil)
end
section
variable {X:Cx}{cA:Cl}{ao:List (Addr×Obj)}{Z:L2.St}{H:Hp}{s:Shared}{U:Ph}{a:Addr}{kvs:jR}{xs:fZ}{k:List Kx}{y v:V}{u:Value}{A:Around}{E:Value->Shared->Prop}
theorem zkp(I:Inv X ao Z H s)(e:H a=some (zW a xs))(r:iG X.K cA U H kvs xs):(a==sysModules)=false/\xs.length<=sizeLine/\s.heap.DictOfH (cF X.prog X.w) a xs:=by
 have z:=(I.hok a _ e).1;obtain⟨h1,h2,o,es,ep,h3,h4,h5,h6,h7⟩:=z;refine⟨h1,h2,o,es,ep,h3,h4,h5,h6,?_,h7⟩;clear h2 h6 h7 e
 induction r with
 |nil=>exact λx hx=>nomatch hx
 |cons hk hu hv q ih=>exact List.forall_mem_cons.mpr ⟨sW I hk rfl,ih⟩
theorem ziJ{d:D}(hk:Rep X.K cA U H (jz k) y):∃b,y=.ref b:=by cases hk;exact⟨_,rfl⟩
variable {o i value:Expr}{pos pos':Pos}{td ty tv:TE}
theorem zeE{xs:fZ}{b:Addr}{u:Value}:(storedH xs k b u).length<=xs.length+1:=by
 unfold storedH
 split
 ·rw[cY];lia
 ·simp
end
section
variable {X:Cx}{cA:Cl}{aq:Nat->Nat->Bool}{aj:Bool}{F:Fn}{EX:XS}{a b:Expr}{A B:E}{pos p:Pos}{K:W.Frag}{U:Ph}{H:Hp}{s:S}
theorem ze7{β:Type}{x:Xv}{v:V}{k:Nat×jR->M β}{P:β->S->Ph->Hp->Prop}{Ee:Nat->List D->S->Ph->Hp->Prop}(hS:aD K cA U H s)(r:aW K cA U H x v)(h:Run K cA (M.bd (iM x) k) U H s P Ee) :
  ∃n ad kvs xs,x=.l n/\v=.ref ad/\s[n]?=some (.dct kvs)/\U.l[n]?=some ad/\H ad=some (zW ad xs)/\iG K cA U H kvs xs/\Run K cA (k (n,kvs)) U H s P Ee:=by
 cases r with
 |d _=>exact h.elim
 |@l n ad hl=>
  unfold Run M.bd iM at h;dsimp only at h;cases e:s[n]? with
  |none=>rw[e] at h;exact h.elim
  |some o=>
   rw[e] at h;cases o with
   |dct kvs=>
    obtain⟨xs,q1,q2⟩:=hS.obj n _ _ e hl;exact⟨n,ad,kvs,xs,rfl,rfl,e,hl,q1,q2,h⟩
   |_=>exact h.elim
end
end Mi
namespace Mi
open PySem PySem.Spec PyProof.Rows L2 PySem.W
theorem zkR{fd:FuncData}{x:Str}{st:Stmt}(h:lX fd=ur x st):fd=fnOf x x (aU st) (aH st) (au st) .none fd.kwdefaults fd.doc fd.pyModule fd.annotations fd.code fd.closureTuple:=by
 cases fd;unfold lX ur at h;cases h;rfl
noncomputable def gP(K:Frag)(x:Str):Addr:=match yJ K x with
 |some p=>p.1
 |none=>0
noncomputable def fdOf(K:Frag)(x:Str)(st:Stmt):FuncData:=match yJ K x with
 |some p=>p.2
 |none=>ur x st
structure FnAt(K:Frag)(x:Str)(st:Stmt):Prop where
 ns:nsIn K mainGlobals x=some (some (.ref (gP K x)))
 fn:nq K x x st (gP K x) (fdOf K x st)
theorem zlA{K:Frag}{x:Str}{st:Stmt}(h:(yJ K x).map (λp=>lX p.2)=some (ur x st)):FnAt K x st:=by
 cases e:yJ K x with
 |none=>rw[e] at h;cases h
 |some p=>
  rw[e] at h;have hp:lX p.2=ur x st:=dJ h;have h1:gP K x=p.1:=by unfold gP;rw[e]
  have h2:fdOf K x st=p.2:=by unfold fdOf;rw[e]
  unfold yJ at e;split at e
  ·rename_i f hf;split at e
   ·rename_i oc od fd sl hl;split at e
    ·rename_i hc;cases e;rw[gq] at hc;refine⟨by rw[h1];exact hf,?_⟩;rw[h1,h2];exact⟨⟨oc,od,_,_,_,_,_,_,sl,zkR hp,hl,hc.1⟩,hc.2⟩
    ·cases e
   ·cases e
  ·cases e
theorem FnAt.m{K:Frag}{x:Str}{st:Stmt}(F:FnAt K x st){h:Heap}{mg:Str->Option Value}(X:K.In h)(G:h.Ns mainGlobals mg):mg x=some (.ref (gP K x)):=mg_of X G F.ns
theorem zlI{K:Frag}{x:Str}(h:q_ K x=true){hp:Heap}{mg:Str->Option Value}(X:K.In hp)(G:hp.Ns mainGlobals mg):mg x=some (.ref (dD K x)):=by
 refine mg_of X G ?_;unfold q_ at h;unfold dD;split at h
 ·rename_i C e;rw[e]
 ·cases h
theorem Ik{K:Frag}{x:Str}{i:Int}(h:kh K (x,i)=true){hp:Heap}{mg:Str->Option Value}(X:K.In hp)(G:hp.Ns mainGlobals mg):∃t,mg x=some (.int i t):=by
 unfold kh at h;split at h
 ·rename_i j t e;rw[BL] at h;subst h;exact⟨t,mg_of X G e⟩
 ·cases h
theorem pP{K:Frag}{x:Str}(h:oR K x=true){hp:Heap}{mg:Str->Option Value}(X:K.In hp)(G:hp.Ns mainGlobals mg):mg x=none:=by
 refine mg_none_of X G ?_;unfold oR at h;split at h
 ·rename_i e;exact e
 ·cases h
structure xX(l:Lk)(K:Frag):Prop where
 cl:∀x∈l.Ek,q_ K x=true
 cs:l.Ek.isEmpty=true\/wF K (l.L K)=true
 ra:∀k∈l.Vo,Ej K (iw (l.L K) k)=true
 ca:∀k∈l.Vp,subB K (l.L K) k=true
 it:∀p∈l.wG,kh K p=true
 no:∀x∈l.Vn,oR K x=true
 st:∀p∈l.Vq,rm K p=true
theorem Kac{l:Lk}{K:Frag}(h:l.good K=true):xX l K:=by
 unfold Lk.good at h;simp only[gq,Bool.or_eq_true,gY] at h;obtain⟨⟨⟨⟨⟨⟨h1,h2⟩,h3⟩,h4⟩,h5⟩,h6⟩,h7⟩:=h;exact⟨h1,h2,h3,h4,h5,h6,h7⟩
theorem vO{K:Frag}{x:Str}{st:Stmt}{f:Addr}{fd:FuncData}{p:Str}(F:nq K x x st f fd)(h:∀(kV doc pm:Value) (an:Option Addr) (cdv ct a:Value),bindArgs (fnOf x x (aU st) (aH st) (au st) .none kV doc pm an cdv ct) ⟨[a],[]⟩=pure [(p,a)]):Binds K fd [p] []:=by
 obtain⟨oc,od,kV,doc,pm,an,cdv,ct,osl,rfl,lk,jN⟩:=F.ex;exact Ab (h kV doc pm an cdv ct)
theorem vP{K:Frag}{x:Str}{st:Stmt}{f:Addr}{fd:FuncData}{p q:Str}(F:nq K x x st f fd)(h:∀(kV doc pm:Value) (an:Option Addr) (cdv ct a b:Value),bindArgs (fnOf x x (aU st) (aH st) (au st) .none kV doc pm an cdv ct) ⟨[a,b],[]⟩=pure [(p,a),(q,b)]):Binds K fd [p,q] []:=by
 obtain⟨oc,od,kV,doc,pm,an,cdv,ct,osl,rfl,lk,jN⟩:=F.ex;exact Ac (h kV doc pm an cdv ct)
theorem vQ{K:Frag}{x:Str}{st:Stmt}{f:Addr}{fd:FuncData}{p q t:Str}(F:nq K x x st f fd)(h:∀(kV doc pm:Value) (an:Option Addr) (cdv ct a b c:Value),bindArgs (fnOf x x (aU st) (aH st) (au st) .none kV doc pm an cdv ct) ⟨[a,b,c],[]⟩=pure [(p,a),(q,b),(t,c)]):Binds K fd [p,q,t] []:=by
 obtain⟨oc,od,kV,doc,pm,an,cdv,ct,osl,rfl,lk,jN⟩:=F.ex;exact tM (h kV doc pm an cdv ct)
theorem vR{K:Frag}{x:Str}{st:Stmt}{f:Addr}{fd:FuncData}{p q t u:Str}(F:nq K x x st f fd)(h:∀(kV doc pm:Value) (an:Option Addr) (cdv ct a b c d:Value),bindArgs (fnOf x x (aU st) (aH st) (au st) .none kV doc pm an cdv ct) ⟨[a,b,c,d],[]⟩=pure [(p,a),(q,b),(t,c),(u,d)]):Binds K fd [p,q,t,u] []:=by
 obtain⟨oc,od,kV,doc,pm,an,cdv,ct,osl,rfl,lk,jN⟩:=F.ex;exact tO (h kV doc pm an cdv ct)
theorem Ao{K:Frag}{x:Str}{st:Stmt}{f:Addr}{fd:FuncData}{p:Str}(F:nq K x x st f fd)(h:∀(kV doc pm:Value) (an:Option Addr) (cdv ct a:Value),bindArgs (fnOf x x (aU st) (aH st) (au st) .none kV doc pm an cdv ct) ⟨[a],[]⟩=pure [(p,a)]):∀(s:Shared) (u:Value),BindsTo s fd ⟨[u],[]⟩ [(p,u)]:=by
 obtain⟨oc,od,kV,doc,pm,an,cdv,ct,osl,rfl,lk,jN⟩:=F.ex;exact λs u=>.of_eq (h kV doc pm an cdv ct u)
end Mi
namespace Mi
open PySem PySem.Spec PyProof.Rows L2
theorem Yi:∀{is:List Nat} {ds:List α} {J J':List (Option α)},eZ is ds J=some J'->∀j,j∉is->J'[j]?=J[j]?
 |[],[],J,J',e,j,_=>by cases e;rfl
 |[],_::_,J,J',e,j,_=>by cases e
 |_::_,[],J,J',e,j,_=>by cases e
 |i::is,d::ds,J,J',e,j,h=>by
  have h1:=Yi (is:=is) (ds:=ds) e j (λz=>h (iI _ z));rw[h1,qW (λz=>h (by rw[z];exact lV))]
theorem zgn{tg:List Nat}{x:D}{J J':Vs}(e:cV tg x J=some J')(j:Nat)(h:j∉tg):J'[j]?=J[j]?:=by
 unfold cV at e;split at e
 ·cases e;rw[qW (λz=>h (by simp[z]))]
 ·cases ht:jy x with
  |none=>rw[ht] at e;cases e
  |some ds=>rw[ht] at e;exact Yi e j h
theorem zgj{many:Nat}{fr:List Nat}{J:Vs}{i:Nat}(h:i<many):(blk many fr J)[i]?=some none:=by
 unfold blk;rw[mZ (by simpa using h),Dv,if_pos h]
section
variable {K:W.Frag}{cA:Cl}{U U' jA:Ph}{H H' lA:Hp}{s:S}
theorem Ext.put{Dd:Addr}{us vs:List V}(x:Ext U H U' (upd H' Dd (.lst us)))(k:Keep U H Dd us):Ext U (upd H Dd (.lst vs)) U' (upd H' Dd (.lst vs)):=by
 obtain⟨r,er,hr⟩:=x.more;have nD:∀b,H b=none->b≠Dd:=λb e z=>by rw[z,k.at_] at e;cases e
 refine⟨⟨r,er,λb hb=>by rw[cX (nD b (hr b hb))];exact hr b hb⟩,x.qz,λa z=>?_,λa o e n=>?_,λa o e=>?_⟩
 ·rcases x.jT a z with z|z
  ·exact .inl z
  ·exact .inr (by rw[cX (nD a z)];exact z)
 ·by_cases z:a=Dd
  ·subst z;rw[jH] at e ⊢;exact e
  ·rw[cX z] at e ⊢;have:=x.frame a o e n;rw[cX z] at this;exact this
 ·by_cases z:a=Dd
  ·subst z;exact⟨_,jH⟩
  ·rw[cX z] at e ⊢;have:=x.stay a o e;rw[cX z] at this;exact this
theorem aP.slots{Z Z':L2.St}{J:Vs}{is:List Nat}(h:aP K cA U H Z J)(hl:Z'.length=Z.length)(he:∀j,j∉is->Z'[j]?=Z[j]?)(hn:∀i∈is,∀x,J[i]?≠some (some x)):aP K cA U H Z' J:=by
 refine⟨hl.trans h.1,λi x e=>?_⟩;obtain⟨v,a,b⟩:=h.2 i x e;exact⟨v,by rw[he i λz=>hn i z x e];exact a,b⟩
end
section
variable {X:Cx}{cA:Cl}{aq:Nat->Nat->Bool}{aj:Bool}{F:Fn}{EX:XS}{elt iter tg iter₂ tg₂:Expr}{A B:E}{pos p:Pos}{ifs:List Expr}{scope:Scope}{N:List Str}{cond:Eo}{fr aM aM₂:List Nat}{many:Nat}{fz:Bool}{w w₂:Wk}
theorem ziQ{K:W.Frag}{g:TG}{U1 U':Ph}{H1 H':Hp}{s':S}{Z3:L2.St}{J':Vs}{Dd:Addr}{acc:List D}{vs:List V}{β:Type}{kk:List D->M β}{P:β->S->Ph->Hp->Prop}{Ee:Nat->List D->S->Ph->Hp->Prop}{c:Src}{n:Nat}{bF:It}
  (hT:fj K cA g aM) (dG:∀i∈aM,i<many) (O6:∀i∈aM,∀x,J'[i]?≠some (some x)) (hD:H1 Dd=none) (x2:Ext U1 H1 U' H') (hL:aP K cA U' H' Z3 J') (aV:aD K cA U' H' s') (kp:Keep U' H' Dd vs) (nj:aC K cA U' H' acc vs) (hJ:lU K cA c U' H' bF)
  (h:Run K cA (M.bd (walk c (bK aq aj F B cond aM J') (n+1) 0 acc) kk) U1 H1 s' P Ee) {Nn:L2.St->Hp->Prop}
  (hN:∀Z4 H4 U4 s4 Il Yj,Z4.length=Z3.length->(∀i,i∉aM->Z4[i]?=Z3[i]?)->Ext U1 H1 U4 H4->Ext U' H' U4 (upd H4 Dd (.lst vs))->aD K cA U4 H4 s4->Keep U4 H4 Dd Yj->aC K cA U4 H4 Il Yj->Run K cA (kk Il) U1 H1 s4 P Ee->Nn Z4 H4) :
  Qf g (qQ K cA (λ_ _ _ _=>False) (lR aq aj F cond)) (tE K cA (λ_ _ _ _=>False) (ev aq aj F B)) Dd bF Z3 H' Nn:=by
 refine⟨λi m Im lA=>m=n+1-i/\(Im.length=Z3.length/\∀j,j∉aM->Im[j]?=Z3[j]?)/\∃jA s'' fP vs'',Ext U1 H1 jA lA/\Ext U' H' jA (upd lA Dd (.lst vs))/\aD K cA jA lA s''/\Keep jA lA Dd vs''/\aC K cA jA lA fP vs'' /\
  Run K cA (M.bd (walk c (bK aq aj F B cond aM J') (n+1-i) i fP) kk) U1 H1 s'' P Ee,⟨n+1,rfl,⟨rfl,λ_ _=>rfl⟩,U',s',acc,vs,x2,by rw[Dg kp.at_];exact Ext.refl,aV,kp,nj,h⟩,?_⟩
 rintro i m Im lA ⟨rfl,hZ,jA,s'',fP,vs'',x3,xb,h_,k3,r3,h3⟩;have ox:cD jA (upd lA Dd (.lst vs)) lA:=λa o e nz=>by
  rw[cX (λz=>nz (by rw[z];exact k3.z))] at e;exact e
 have ou:aP K cA jA lA Im J':=((hL.mono xb aV.lz).out ox).slots hZ.1 hZ.2 O6;cases ek:n+1-i with
 |zero=>rw[ek] at h3;exact h3.elim
 |succ k=>
  rw[ek] at h3;cases ei:c.at i s'' with
  |none=>
   exfalso
   unfold Run M.bd walk at h3;simp only[ei] at h3
  |some oi=>
   cases oi with
   |none=>
    refine .inl ⟨hJ.stop jA _ lA s'' i xb ox h_ ei,?_⟩;have h4:Run K cA (kk fP) U1 H1 s'' P Ee:=by
     unfold Run M.bd walk at h3;simp only[ei] at h3;exact h3
    exact hN Im lA jA s'' fP vs'' hZ.1 hZ.2 x3 xb h_ k3 r3 h4
   |some xi=>
    refine .inr ⟨hJ.go jA _ lA s'' i xi xb ox h_ ei,λZ2 H2=>(Z2.length=Z3.length/\∀j,j∉aM->Z2[j]?=Z3[j]?)/\∃jA s'' fP vs'',Ext U1 H1 jA H2/\Ext U' H' jA (upd H2 Dd (.lst vs))/\aD K cA jA H2 s''/\Keep jA H2 Dd vs''/\aC K cA jA H2 fP vs'' /\
     Run K cA (M.bd (walk c (bK aq aj F B cond aM J') k (i+1) fP) kk) U1 H1 s'' P Ee,λZ2 H2 hn=>⟨k,by omega,by omega,hn.1,?_⟩,λv H2 hy=>?_⟩
    ·have:n+1-(i+1)=k:=by omega
     rw[this];exact hn.2
    ·obtain⟨gr,rx⟩:=hJ.rG jA _ lA s'' i xi v H2 xb ox h_ ei hy;have h4:Run K cA (M.bd (bK aq aj F B cond aM J' xi fP) λacc'=>M.bd (walk c (bK aq aj F B cond aM J') k (i+1) acc') kk) U1 H1 s'' P Ee:=by
      have h5:=Rn (m':=M.bd (bK aq aj F B cond aM J' xi fP) λacc'=>walk c (bK aq aj F B cond aM J') k (i+1) acc') (by rw[walk];simp only[ei]) h3;rw[gA] at h5;exact h5
     have kg:=k3.mono gr.ext;have xg:Ext U' H' jA (upd H2 Dd (.lst vs)):=xb.trans (Ext.put (us:=vs'') (vs:=vs) (by rw[Dg kg.at_];exact gr.ext) k3);refine qI hT (x3.trans gr.ext) hD (ou.mono gr.ext h_.lz) (h_.grow gr) kg (r3.mono gr.ext h_.lz) rx h4 λZ3' H3 U3 s3 lB vJ l3 f3 x3' xe RK k3' r3' h6=>⟨⟨l3.trans hZ.1,λj hj=>(f3 j hj).trans (hZ.2 j hj)⟩,U3,s3,lB,vJ,x3',xg.trans (Ext.put (us:=vs'') (vs:=vs) xe kg),RK,k3',r3',h6⟩
where
 qI {K:W.Frag} {g:TG} {U1 U':Ph} {H1 H2:Hp} {s':S} {Z':L2.St} {Jb:Vs} {Dd:Addr} {acc:List D} {vs:List V} {xi:D} {v:V} {β:Type} {kk:List D->M β} {P:β->S->Ph->Hp->Prop} {Ee:Nat->List D->S->Ph->Hp->Prop} (hT:fj K cA g aM)
  (x2:Ext U1 H1 U' H2) (hD:H1 Dd=none) (hL2:aP K cA U' H2 Z' Jb) (aV:aD K cA U' H2 s') (kp:Keep U' H2 Dd vs) (nj:aC K cA U' H2 acc vs) (rx:Rep K cA U' H2 xi v)
  (h:Run K cA (M.bd (bK aq aj F B cond aM Jb xi acc) kk) U1 H1 s' P Ee) {Nn:L2.St->Hp->Prop}
  (hN:∀Z3 H3 U3 s3 lB vJ,Z3.length=Z'.length->(∀i,i∉aM->Z3[i]?=Z'[i]?)->Ext U1 H1 U3 H3->Ext U' H2 U3 (upd H3 Dd (.lst vs))->aD K cA U3 H3 s3->Keep U3 H3 Dd vJ->aC K cA U3 H3 lB vJ->Run K cA (kk lB) U1 H1 s3 P Ee->Nn Z3 H3) :
  g v Z' H2 λZ3 H3=>qQ K cA (λ_ _ _ _=>False) (lR aq aj F cond) Z3 H3 λok H4=>
   if ok=true then tE K cA (λ_ _ _ _=>False) (ev aq aj F B) Z3 H4 λy H5=>∃ys,H5 Dd=some (.lst ys)/\ys.length<sizeLine/\Nn Z3 (upd H5 Dd (.lst (ys++[y]))) else Nn Z3 H4:=by
  unfold bK at h;rw[gA] at h;obtain⟨J',e1,h1⟩:=Hs h;refine hT.run U' H2 s' Z' Jb J' xi v _ hL2 aV rx e1 λZ3 ou z_ Dh=>?_;rw[gA] at h1;refine⟨U',J',s',ou,aV,(HW x2 h1).imp λok s4 U4 H4 ⟨x4,pJ,h6⟩=>?_⟩;cases ok with
  |false=>
   refine iF (hN Z3 H4 U4 s4 acc vs z_ Dh (x2.trans x4) (by rw[Dg (kp.mono x4).at_];exact x4) pJ (kp.mono x4) (nj.mono x4 aV.lz) ?_);rw[if_neg J0] at h6;exact h6
  |true=>
   rw[if_pos rfl,gA] at h6;refine iT ⟨U4,J',s4,ou.mono x4 aV.lz,pJ,(HW (x2.trans x4) h6).imp λy s5 U5 H5 ⟨x5,HX,h7⟩ u ru=>?_⟩;rw[gA] at h7;have k5:=(kp.mono x4).mono x5;have r5:=(nj.mono x4 aV.lz).mono x5 pJ.lz;have Rp:=(x2.trans x4).trans x5;obtain⟨dd,ey,rd,h8⟩ : ∃d,y=.d d/\Rep K cA U5 H5 d u/\Run K cA (M.bd (if acc.length<sizeLine then M.ret (acc++[d]) else M.no) kk) U1 H1 s5 P Ee:=by
    cases ru with
    |l _=>exact h7.elim
    |d r=>exact⟨_,rfl,r,h7⟩
   by_cases hz:acc.length<sizeLine
   ·rw[if_pos hz] at h8;refine⟨vs,k5.at_,by rw[<-r5.len];exact hz,?_⟩;have ox:cD U5 H5 (upd H5 Dd (.lst (vs++[u]))):=k5.ext.1;exact hN Z3 _ U5 s5 (acc++[dd]) (vs++[u]) z_ Dh (Ext.keep (vs:=vs) Rp hD) (by rw[Vv,Dg k5.at_];exact x4.trans x5) (HX.keep k5) k5.ext.2 ((r5.app (.cons rd .nil)).out ox) h8
   ·rw[if_neg hz] at h8;exact h8.elim
noncomputable abbrev fQ(aq:Nat->Nat->Bool)(aj:Bool)(F:Fn)(B:E)(cond:Eo)(aM aM₂:List Nat)(w₂:Wk)(Jb:Vs):D->List D->M (List D):=λd acc=>M.bd (M.opt (cV aM d Jb)) λJ'=>M.bd (M.qt (gM aq aj F w₂ J')) λn6=>
    walk n6.1 (bK aq aj F B cond aM₂ J') (n6.2+1) 0 acc
theorem zeu{g₁ g:TG}(hT:fj X.K cA g₁ aM)(dG:∀i∈aM,i<many)(hT₂:fj X.K cA g aM₂)(dG₂:∀i∈aM₂,i<many)(Aq:∀i∈aM₂,i∉aM){Z:L2.St}{H:Hp}{Q:VK}(hh:tE X.K cA EX (ev aq aj F (.jY fz B aM w aM₂ w₂ fr many cond)) Z H Q) :
  sy (tI X.K cA EX (gM aq aj F w)) (bx many fr) g₁ (tI X.K cA (λ_ _ _ _=>False) (gM aq aj F w₂)) g (qQ X.K cA (λ_ _ _ _=>False) (lR aq aj F cond)) (tE X.K cA (λ_ _ _ _=>False) (ev aq aj F B)) Z H Q:=un hh λU J s hL hS h=>by
 by_cases cW:aj=true
 ·have h:Run X.K cA (if aj=true then M.bd (gM aq aj F w J) λcn=>M.bd (walk cn.1 (fQ aq aj F B cond aM aM₂ w₂ (blk many fr J)) (cn.2+1) 0 []) λxs=>newL fz xs else M.no) U H s (λd _ U' H'=>∀v,aW X.K cA U' H' d v->Q v H') (eX X.K cA EX Z):=h;rw[if_pos cW] at h;refine⟨U,J,s,hL,hS,h.bd.imp λcn s1 U1 H1 ⟨x1,aG,h1⟩ bF hJ=>?_⟩;have hL1:=hL.mono x1 hS.lz;obtain⟨c,n⟩:=cn;dsimp only at h1 hJ;intro Dd hD;obtain⟨x0,Rq,k0⟩:=Xz aG hD;have Aa:∀{Z':L2.St},(Z'.length=many+fr.length/\∀i,many<=i->Z'[i]?=(bx many fr Z)[i]?)->∀{U' H'},Ext U1 H1 U' H'->aP X.K cA U' H' Z' (blk many fr J):=λ{Z'} hZ {U' H'} x=>Xx (hL1.mono x aG.lz) hZ.1 λi j v e1 e2=>by
   rw[hZ.2 _ (by omega)];unfold bx;rw[nA Qi,Dw,jo,show many+i-many=i by omega,e1];simp[e2]
  refine⟨λi m Z' H'=>m=n+1-i/\(Z'.length=many+fr.length/\∀i,many<=i->Z'[i]?=(bx many fr Z)[i]?)/\∃U' s' acc vs,Ext U1 H1 U' H'/\aD X.K cA U' H' s'/\Keep U' H' Dd vs/\aC X.K cA U' H' acc vs /\
   Run X.K cA (M.bd (walk c (fQ aq aj F B cond aM aM₂ w₂ (blk many fr J)) (n+1-i) i acc) λxs=>newL fz xs) U1 H1 s' (λd _ U' H'=>∀v,aW X.K cA U' H' d v->Q v H') (eX X.K cA EX Z),⟨n+1,rfl,⟨by simp[bx],λi _=>rfl⟩,U1.mark Dd,s1,[],[],x0,Rq,k0,.nil,h1⟩,?_⟩
  rintro i m Z' H' ⟨rfl,hZ,U',s',acc,vs,x2,aV,kp,nj,h3⟩;have hL2:=Aa hZ x2;cases ek:n+1-i with
  |zero=>rw[ek] at h3;exact h3.elim
  |succ k=>
   rw[ek] at h3;cases ei:c.at i s' with
   |none=>
    exfalso
    unfold Run M.bd walk at h3;simp only[ei] at h3
   |some oi=>
    cases oi with
    |none=>
     refine .inl ⟨hJ.stop U' H' H' s' i x2 cD.refl aV ei,?_⟩;have h4:Run X.K cA (newL fz acc) U1 H1 s' (λd _ U' H'=>∀v,aW X.K cA U' H' d v->Q v H') (eX X.K cA EX Z):=by
      unfold Run M.bd walk at h3;simp only[ei] at h3;exact h3
     exact Xy h4 x2 hD (aG.nz hD) aV kp nj
    |some xi=>
     refine .inr ⟨hJ.go U' H' H' s' i xi x2 cD.refl aV ei,λZ2 H2=>(Z2.length=many+fr.length/\∀i,many<=i->Z2[i]?=(bx many fr Z)[i]?)/\∃U' s' acc vs,Ext U1 H1 U' H2/\aD X.K cA U' H2 s'/\Keep U' H2 Dd vs/\aC X.K cA U' H2 acc vs /\
      Run X.K cA (M.bd (walk c (fQ aq aj F B cond aM aM₂ w₂ (blk many fr J)) k (i+1) acc) λxs=>newL fz xs) U1 H1 s' (λd _ U' H'=>∀v,aW X.K cA U' H' d v->Q v H') (eX X.K cA EX Z),λZ2 H2 hn=>⟨k,by omega,by omega,hn.1,?_⟩,λv H2 hy=>?_⟩
     ·have:n+1-(i+1)=k:=by omega
      rw[this];exact hn.2
     ·obtain⟨gr,rx⟩:=hJ.rG U' H' H' s' i xi v H2 x2 cD.refl aV ei hy;have h4:Run X.K cA (M.bd (M.opt (cV aM xi (blk many fr J))) λJ'=>M.bd (M.qt (gM aq aj F w₂ J')) λn6=>M.bd (walk n6.1 (bK aq aj F B cond aM₂ J') (n6.2+1) 0 acc) λacc'=>M.bd (walk c (fQ aq aj F B cond aM aM₂ w₂ (blk many fr J)) k (i+1) acc') λxs=>newL fz xs) U1 H1 s' (λd _ U' H'=>∀v,aW X.K cA U' H' d v->Q v H') (eX X.K cA EX Z):=by
       have h5:=Rn (m':=M.bd (fQ aq aj F B cond aM aM₂ w₂ (blk many fr J) xi acc) λacc'=>walk c (fQ aq aj F B cond aM aM₂ w₂ (blk many fr J)) k (i+1) acc') (by rw[walk];simp only[ei]) h3;rw[gA] at h5;unfold fQ at h5;rw[gA] at h5;have e:(λJ'=>M.bd (M.bd (M.qt (gM aq aj F w₂ J')) λn6=>walk n6.1 (bK aq aj F B cond aM₂ J') (n6.2+1) 0 acc) λacc'=>M.bd (walk c (fQ aq aj F B cond aM aM₂ w₂ (blk many fr J)) k (i+1) acc') λxs=>newL fz xs)=λJ'=>M.bd (M.qt (gM aq aj F w₂ J')) λn6=>M.bd (walk n6.1 (bK aq aj F B cond aM₂ J') (n6.2+1) 0 acc) λacc'=>M.bd (walk c (fQ aq aj F B cond aM aM₂ w₂ (blk many fr J)) k (i+1) acc') λxs=>newL fz xs:=funext λJ'=>gA _ _ _;rw[<-e];exact h5
      obtain⟨J',e1,h6⟩:=Hs h4;have h_:=aV.grow gr;refine hT.run U' H2 s' Z' _ J' xi v _ (hL2.mono gr.ext aV.lz) h_ rx e1 λZ3 ou z_ Dh=>?_;have kg:=kp.mono gr.ext;have rg:=nj.mono gr.ext aV.lz;have xg:=x2.trans gr.ext;refine⟨U',J',s',ou,h_,(HW xg h6).imp λn6 s4 U4 H4 ⟨x4,pJ,h7⟩ bF₂ hJ₂=>?_⟩;refine ziQ (many:=many) hT₂ dG₂ (λi hi x z=>?_) hD (xg.trans x4) (ou.mono x4 h_.lz) pJ (kg.mono x4) (rg.mono x4 h_.lz) hJ₂ h7 λZ4 H5 U5 s5 RL vs5 l5 f5 x5 _ HX k5 r5 h8=>⟨⟨l5.trans (z_.trans hZ.1),λi hi=>?_⟩,U5,s5,RL,vs5,x5,HX,k5,r5,h8⟩
      ·rw[zgn e1 i (Aq i hi),zgj (dG₂ i hi)] at z;cases z
      ·rw[f5 i λz=>absurd (dG₂ i z) (Cd.mpr hi),Dh i λz=>absurd (dG i z) (Cd.mpr hi)];exact hZ.2 i hi
 ·have h:Run X.K cA (if aj=true then M.bd (gM aq aj F w J) λcn=>M.bd (walk cn.1 (fQ aq aj F B cond aM aM₂ w₂ (blk many fr J)) (cn.2+1) 0 []) λxs=>newL fz xs else M.no) U H s (λd _ U' H'=>∀v,aW X.K cA U' H' d v->Q v H') (eX X.K cA EX Z):=h;rw[if_neg cW] at h;exact h.elim
end
section
variable {X:Cx}{cA:Cl}{aq:Nat->Nat->Bool}{aj:Bool}{F:Bool->Fn}{EX:XS}{elt iter tg iter₂ tg₂:Expr}{A B:E}{pos p:Pos}{ifs:List Expr}{scope:Scope}{N:List Str}{cond:Eo}{fr aM aM₂:List Nat}{many:Nat}{fz:Bool}{w w₂:Wk}{i:Nat}{y:Str}
theorem zha(hc:X.aj=true)(pL:X.N.Nodup)(rZ:X.N[i]?=some y)(hx:Loc X.env.scope y)(hf:X.fn y=true\/X.env.scope.names.lookup y=some .local)(B':cj X.env.scope scope)(hi:SI X cA aq aj (F aj) EX tg iter w)(hN:N.length=many+fr.length)
  (pA:∀(i:Nat) (y:Str) (j:Nat),N[many+i]?=some y->fr[i]?=some j->scope.names.lookup y=some .free/\X.N[j]?=some y)
  (hg₁:∀cl C s3 H3 fp ao,PG (X.blk scope cl N C s3 H3 fp ao) tg g₁) (hT:fj X.K cA g₁ aM) (dG:∀i∈aM,i<many) (hi₂:∀cl C s3 H3 fp ao,SI (X.blk scope cl N C s3 H3 fp ao) cA aq aj (F aj) (λ_ _ _ _=>False) tg₂ iter₂ w₂)
  (hg:∀cl C s3 H3 fp ao,PG (X.blk scope cl N C s3 H3 fp ao) tg₂ g) (hT₂:fj X.K cA g aM₂) (dG₂:∀i∈aM₂,i<many) (Aq:∀i∈aM₂,i∉aM)
  (ht:∀cl C s3 H3 fp ao,C_ (X.blk scope cl N C s3 H3 fp ao) cA aq aj (F aj) (λ_ _ _ _=>False) ifs cond) (he:∀cl C s3 H3 fp ao,SE (X.blk scope cl N C s3 H3 fp ao) cA aq aj (F aj) (λ_ _ _ _=>False) elt B)
  (su:swapsWith (.ListComp elt [⟨tg,iter,[],0⟩,⟨tg₂,iter₂,ifs,0⟩] scope pos) (some (.Name y py)) spos.line X.env=pure true)
  (hs₂:∀env x,foldedSetIterable iter₂ env x=pure x) (hs:∀x,foldedSetIterable iter X.env x=pure x:=by intro _;rfl) :
  SS X cA aq aj F EX (.Assign [.Name y py] (.ListComp elt [⟨tg,iter,[],0⟩,⟨tg₂,iter₂,ifs,0⟩] scope pos) spos) (.asg (.nm i) (.jY fz B aM w aM₂ w₂ fr many cond)):=
 PS.weak (zdd hc pL rZ hx hf B' hi (⟨hg₁,hi₂,hg,ht,he⟩ : nU X elt tg tg₂ iter₂ ifs scope N g₁ (tI X.K cA (λ_ _ _ _=>False) (gM aq aj (F aj) w₂)) g (qQ X.K cA (λ_ _ _ _=>False) (lR aq aj (F aj) cond)) (tE X.K cA (λ_ _ _ _=>False) (ev aq aj (F aj) B))) hs₂ (ZY:=bx many fr) (λZ=>by simp[bx,hN]) (λZ i x v e1 e2=>Rr pA Z i x v e1 e2) su hs) λD Z H hh=>un hh λU J s hL hS h=>
  zeu hT dG hT₂ dG₂ Aq ⟨U,J,s,hL,hS,(aR.ofM hL hS.lz h).imp λd s1 U1 H1 ⟨x1,aG,h1⟩ v rv=>h1 U1 H1 _ Ext.refl aG ((hL.mono x1 hS.lz).set rv)⟩
noncomputable def Ar(aM aM₂:List Nat)(m:Nat):Bool:=aM.all (λi=>decide (i<m))&&aM₂.all (λi=>decide (i<m) && !aM.contains i)
theorem RM(h:Ar aM aM₂ m=true):(∀i∈aM,i<m)/\(∀i∈aM₂,i<m)/\∀i∈aM₂,i∉aM:=by
 unfold Ar at h;simp only[gq,gY,BL,Bool.not_eq_true'] at h;exact⟨h.1,λi hi=>(h.2 i hi).1,λi hi z=>by have:=(h.2 i hi).2;rw[List.contains_iff_mem.mpr z] at this;cases this⟩
noncomputable def tV:Expr->Bool
 |.Call _ _ _ _=>true
 |.Name _ _=>true
 |.BinOp _ _ _ _=>true
 |.Subscript _ _ _=>true
 |.Attribute _ _ _=>true
 |_=>false
theorem zh4(h:tV e=true):∀env x,foldedSetIterable e env x=pure x:=by cases e<;>first|(intro _ _;rfl)|cases h
theorem ziF(i:Nat)(sc:Scope)(XN M0 N:List Str)(fr:List Nat)(hN:X.N.Nodup)(rZ:X.N[i]?=some y)(hx:JK X y k)(hl:lC k=true)(hc:X.aj=true)(Ih:X.env.scope=sc)(pL:X.N=XN)(hB:qF sc scope=true)(hf:frB scope XN N fr=true)(hT:fj X.K cA g₁ aM)(hT₂:fj X.K cA g aM₂)(dG:Ar aM aM₂ M0.length=true)
  (hi:JI X cA aq aj (F aj) EX tg iter w) (hg₁:∀cl C s3 H3 fp ao,JY (X.blk scope cl (M0++N) C s3 H3 fp ao) tg g₁) (hi₂:∀cl C s3 H3 fp ao,JI (X.blk scope cl (M0++N) C s3 H3 fp ao) cA aq aj (F aj) (λ_ _ _ _=>False) tg₂ iter₂ w₂) (hg:∀cl C s3 H3 fp ao,JY (X.blk scope cl (M0++N) C s3 H3 fp ao) tg₂ g)
  (ht:∀cl C s3 H3 fp ao,JC (X.blk scope cl (M0++N) C s3 H3 fp ao) cA aq aj (F aj) (λ_ _ _ _=>False) ifs cond) (he:∀cl C s3 H3 fp ao,JE (X.blk scope cl (M0++N) C s3 H3 fp ao) cA aq aj (F aj) (λ_ _ _ _=>False) elt B)
  (RN:tV iter₂=true:=by rfl) (su:swapsWith (.ListComp elt [⟨tg,iter,[],0⟩,⟨tg₂,iter₂,ifs,0⟩] scope pos) (some (.Name y py)) spos.line X.env=pure true:=by rfl) (RB:X.fn y=true\/k=.local:=by first|exact .inl rfl|exact .inr rfl) (hs:∀x,foldedSetIterable iter X.env x=pure x:=by intro _;rfl) :
  JS X cA aq aj F EX (.Assign [.Name y py] (.ListComp elt [⟨tg,iter,[],0⟩,⟨tg₂,iter₂,ifs,0⟩] scope pos) spos) (.asg (.nm i) (.jY fz B aM w aM₂ w₂ fr M0.length cond)):=
 ⟨zha hc hN rZ (xV hx hl) (xW hx RB) (cj.of (Ih▸hB)) hi.o (xT (pL▸hf)).1 (xT (pL▸hf)).2 (λa b c d e f=>(hg₁ a b c d e f).o) hT (RM dG).1 (λa b c d e f=>(hi₂ a b c d e f).o) (λa b c d e f=>(hg a b c d e f).o) hT₂ (RM dG).2.1 (RM dG).2.2 (λa b c d e f=>(ht a b c d e f).o) (λa b c d e f=>(he a b c d e f).o) su (zh4 RN) hs⟩
end
section
variable {K:W.Frag}{cA:Cl}{U:Ph}{H:Hp}
theorem aC.Io(r:aC K cA U H xs ys):∀l:List Nat,aC K cA U H (l.map λi=>xs.getD i .non) (l.map λi=>ys.getD i .non)
 |[]=>.nil
 |i::l=>by
  refine .cons ?_ (aC.Io r l);show Rep K cA U H (xs.getD i .non) (ys.getD i .non);cases e:xs[i]? with
  |some x=>
   obtain⟨u,e1,e2⟩:=r.get e;rw[nF,nF,e,e1];exact e2
  |none=>
   have e1:ys[i]?=Option.none:=r.none e;rw[nF,nF,e,e1];exact .non
theorem aC.mem(r:aC K cA U H xs ys):∀v∈ys,∃d∈xs,Rep K cA U H d v:=by
 intro v hv;obtain⟨i,hi,e⟩:=Nb hv;have e':ys[i]?=some v:=by rw[i_ hi,e]
 cases ex:xs[i]? with
 |none=>rw[r.none ex] at e';cases e'
 |some d=>
  obtain⟨u,e1,e2⟩:=r.get ex;rw[e1] at e';cases e';exact⟨d,gF ex,e2⟩
theorem Yk:∀{us ws:List D} {xs ys:List V},aC K cA U H us xs->aC K cA U H ws ys->∀{b:Bool},qw us ws=some b->jP xs ys=some b
 |[],ws,_,ys,r1,r2,b,h=>by
  cases r1;unfold qw at h;unfold jP;rw[<-r2.len];exact h
 |_::_,[],_,_,r1,r2,b,h=>by
  cases r2;cases r1;unfold qw at h;unfold jP;exact h
 |x::us,y::ws,_,_,r1,r2,b,h=>by
  cases r1 with
  |cons a1 b1=>
   cases r2 with
   |cons a2 b2=>
    unfold qw at h;split at h
    ·rename_i z;cases z
    ·rename_i z;cases z
    ·rename_i p ps q qs e1 e2;cases e1;cases e2;cases a1;cases a2;unfold jP;by_cases e:p=q
     ·rw[if_pos e] at h ⊢;exact Yk b1 b2 h
     ·rw[if_neg e] at h ⊢;exact h
    ·cases h
theorem zgr(r:aC K cA U H xs ys)(h:(xs.all jx||xs.all iC)=true):sG K H ys (w6 xs):=by
 rw[Bool.or_eq_true] at h;rcases h with h|h
 ·left
  rw[gY] at h;refine⟨λv hv=>?_,λi j b e=>?_⟩
  ·obtain⟨d,hd,q⟩:=r.mem v hv;have:=h d hd;cases q<;>first|exact⟨_,rfl⟩|cases this
  ·unfold w6 at e;cases e1:xs[i]? with
   |none=>rw[e1] at e;cases e
   |some d1=>
    cases e2:xs[j]? with
    |none=>rw[e1,e2] at e;cases d1<;>cases e
    |some d2=>
     have h1:=h d1 (gF e1);have h2:=h d2 (gF e2);rw[e1,e2] at e;obtain⟨v1,a1,b1⟩:=r.get e1;obtain⟨v2,a2,b2⟩:=r.get e2;cases d1<;>first|cases h1|skip
     cases d2<;>first|cases h2|skip
     cases b1;cases b2;cases e;exact⟨_,_,a1,a2,rfl⟩
 ·right
  rw[gY] at h;refine⟨λv hv=>?_,λi j b e=>?_⟩
  ·obtain⟨d,hd,q⟩:=r.mem v hv;have:=h d hd;unfold iC at this;split at this
   ·cases q with
    |tup t r'=>
     cases r' with
     |cons a1 b1=>
      cases a1;exact⟨_,_,_,rfl,t.iQ⟩
   ·cases this
  ·unfold w6 at e;cases e1:xs[i]? with
   |none=>rw[e1] at e;cases e
   |some d1=>
    cases e2:xs[j]? with
    |none=>rw[e1,e2] at e;cases d1<;>cases e
    |some d2=>
     have h1:=h d1 (gF e1);have h2:=h d2 (gF e2);rw[e1,e2] at e;obtain⟨v1,a1,b1⟩:=r.get e1;obtain⟨v2,a2,b2⟩:=r.get e2;unfold iC at h1 h2;split at h1
     ·split at h2
      ·cases b1 with
       |tup t1 r1=>
        cases b2 with
        |tup t2 r2=>exact⟨_,_,_,_,a1,a2,t1.iQ,t2.iQ,Yk r1 r2 e⟩
      ·cases h2
     ·cases h1
theorem zfc:bD K cA .sorted (λxs H Q=>∃l ys lt p,xs=[.ref l]/\eE K H l ys/\ys.length<64/\(2<=ys.length->sG K H ys lt/\bT lt (PySem.W.kas_sort ys.length)=some p/\p.size=ys.length)/\∀r,H r=none->Q (.ref r) (upd H r (.lst (jQ ys p)))):=by
 intro U H ds vs Q zt rs o;have o:bC K cA U H (lq ds) Q:=o;unfold lq at o;split at o
 ·rename_i xs _;obtain⟨v,rfl,r1⟩:=rs.one;obtain⟨z,e⟩:=o.some';obtain⟨zs,e1,e2⟩:=p7.mp e;subst e2;obtain⟨a,us,rfl,sq,q⟩ : ∃a us,v=.ref a/\eE K H a us/\aC K cA U H xs us:=r1;have hl:=q.len;unfold xq at e1;by_cases hk:(xs.all jx||xs.all iC)=true
  ·rw[if_pos hk] at e1;unfold pH at e1;by_cases h2:xs.length<2
   ·rw[if_pos h2] at e1;cases e1;refine⟨a,us,λ_ _=>none,#[],rfl,sq,by lia,λz=>absurd z gV,λr hr=>?_⟩;have:jQ us #[]=us:=by unfold jQ;rw[if_pos gV]
    rw[this];exact(o.of e) r us hr q
   ·rw[if_neg h2] at e1;by_cases sE:xs.length<64
    ·rw[if_pos sE] at e1;cases ek:bT (w6 xs) (PySem.W.kas_sort xs.length) with
     |none=>rw[ek] at e1;cases e1
     |some p=>
      rw[ek] at e1;dsimp only at e1;by_cases hp:p.size=xs.length
      ·rw[if_pos hp] at e1;cases e1;refine⟨a,us,w6 xs,p,rfl,sq,by lia,λ_=>⟨zgr q hk,by rw[<-hl];exact ek,by lia⟩,λr hr=>?_⟩;have:jQ us p=p.toList.map λi=>us.getD i .non:=by unfold jQ;rw[if_neg gV]
       rw[this];exact(o.of e) r _ hr (q.Io p.toList)
      ·rw[if_neg hp] at e1;cases e1
    ·rw[if_neg sE] at e1;cases e1
  ·rw[if_neg hk] at e1;cases e1
 ·exact o.elim
end
section
variable {X:Cx}{cA:Cl}{aq:Nat->Nat->Bool}{aj:Bool}{F:Fn}{EX:XS}{e:Expr}{pos p:Pos}{es:List Expr}{Xs:Es}{fz:Bool}
theorem zdw:bootBuiltins "sorted"=some (.builtin "sorted"):=by decide +kernel
theorem zgW(hm:X.mg "sorted"=none)(hg:JK X "sorted" .globalImplicit)(ha:JA X cA aq aj F EX (e::es) Xs)(he:aF e=true:=by rfl)(cP:es.all aF=true:=by rfl):JE X cA aq aj F EX (.Call (.Name "sorted" p) (e::es) [] pos) (.pr fz .sorted Xs):=⟨zZ zdx zfc hg.o hm zdw ha.o J0 J0 (aX he) (bf cP)⟩
end
section
variable {X:Cx}{cA:Cl}{aq:Nat->Nat->Bool}{aj:Bool}{F:Fn}{EX:XS}{a b:Expr}{A B:E}{pos pp tpos:Pos}{elts:List Expr}{kk:Nat}
theorem Yl:∀(ns:List Str) (vs:List V),((ns.zip vs).map (·.1)).Sublist ns
 |[],vs=>by simp
 |n::ns,[]=>by simp
 |n::ns,v::vs=>by
  rw[uI,jq];exact(Yl ns vs).cons₂ n
theorem zeJ:∀{ns:List Str} {vs:List V} {i:Nat} {x:Str} {v:V},ns.Nodup->ns[i]?=some x->vs[i]?=some v->(ns.zip vs).lookup x=some v
 |ns,vs,i,x,v,hn,h1,h2=>by
  refine WM ?_ (zhM h1 h2);exact List.Sublist.nodup (Yl ns vs) hn
end
end Mi
namespace Mi
open PySem PySem.Spec PyProof.Rows L2 PySem.W
theorem zhQ{fd:FuncData}{q:Str}{st:Stmt}(h:lX fd=yK q st):fd=fnOf "__init__" q (aU st) (aH st) (au st) .none fd.kwdefaults fd.doc fd.pyModule fd.annotations fd.code fd.closureTuple:=by
 cases fd;unfold lX yK at h;cases h;rfl
structure Ip(K:Frag)(C:Addr)(q:Str)(st:Stmt):Prop where
 ex:∃(fI:Addr) (od:Option Addr) (kV doc pm:Value) (an:Option Addr) (cdv ct:Value) (osl:Array (Option Value)) (cd:ClassData),
  K.lookup fI=some ⟨.type "function",od,.func (fnOf "__init__" q (aU st) (aH st) (au st) .none kV doc pm an cdv ct),osl⟩/\codeIn K cdv q=true/\qZ K C fI=true/\clsIn K C=some cd/\qY cd.mro=true/\cd.hasDict=true
theorem zmA{K:Frag}{C:Addr}{q:Str}{st:Stmt}(h:(El K C).map lX=some (yK q st)):Ip K C q st:=by
 cases e:El K C with
 |none=>rw[e] at h;cases h
 |some fd=>
  rw[e] at h;have hp:lX fd=yK q st:=dJ h;unfold El at e;split at e
  ·rename_i cd jN;split at e
   ·rename_i f hf;split at e
    ·rename_i od fd' sl hl;split at e
     ·rename_i hc;cases e;simp only[gq] at hc;obtain⟨⟨⟨c1,c2⟩,c3⟩,c4⟩:=hc;have eq:=zhQ hp;have qn:fd.qualname=q:=by rw[eq]
      refine⟨⟨f,od,fd.kwdefaults,fd.doc,fd.pyModule,fd.annotations,fd.code,fd.closureTuple,sl,cd,?_,by rw[<-qn];exact c1,c2,jN,c3,c4⟩⟩;rw[<-eq];exact hl
     ·cases e
    ·cases e
   ·cases e
  ·cases e
theorem zlE{K:Frag}{C:Addr}{f:Str}(h:J3 K C f=true):XF K C f:=by
 unfold J3 at h;simp only[gq,m8] at h;obtain⟨⟨⟨⟨h1,h2⟩,h3⟩,h4⟩,h5⟩:=h;exact⟨h1,h2,h3,h4,h5⟩
structure mR(fs:List (Str×Stmt))(ms:List rz)(xs:List (Nat×Str))(l:Lk)(K:Frag):Prop where
 fn:∀p∈fs,FnAt K p.1 p.2
 gd:xX l K
 mi:∀m∈ms,Ip K (iw (l.L K) m.c) m.q m.st
 se:∀m∈ms,setB K (iw (l.L K) m.c) m.fs=true
 xf:∀x∈xs,XF K (iw (l.L K) x.1) x.2
theorem RP{a:Nat}{o:Obj}:∀{l:List Obj} {i:Nat},((a:Addr),o)∈Em i l->i<=a/\l[a-i]?=some o/\o.isFreed=false
 |[],i,h=>by cases h
 |p::r,i,h=>by
  unfold Em at h;split at h
  ·obtain⟨h1,h2,h3⟩:=RP h;refine⟨by lia,?_,h3⟩;rw[show a-i=(a-(i+1))+1 by lia];exact h2
  ·rename_i hf;rcases gG.mp h with e|h
   ·cases e;exact⟨cL _,by simp,hf⟩
   ·obtain⟨h1,h2,h3⟩:=RP h;refine⟨by lia,?_,h3⟩;rw[show a-i=(a-(i+1))+1 by lia];exact h2
theorem Ym:∀{K:Frag},K.lookup a=some o->(a,o)∈K
 |[],h=>by cases h
 |(b,p)::r,h=>by
  rw[nG] at h;by_cases e:a=b
  ·subst e;simp only[BP] at h;cases h;exact lV
  ·rw[show (a==b)=false by simpa using e] at h;exact iI _ (Ym h)
theorem zgB:(bN h).In h:=λa o e=>by
 have hm:=Ym e;unfold bN at hm;rcases m5.mp hm with z|z
 ·unfold oU at z;split at z
  ·rename_i p hp;rcases gG.mp z with e|z
   ·cases e;exact hp
   ·cases z
  ·cases z
 ·obtain⟨_,h2,h3⟩:=RP (List.mem_reverse.mp z);rw[Heap.get?_some_iff];refine⟨?_,h3⟩;have:h.objs.toList[a]?=some o:=by simpa using h2
  simpa using this
end Mi
namespace Mi
open PySem PySem.Spec PyProof.Rows L2
section
variable {K:W.Frag}{cA:Cl}{U:Ph}{H:Hp}
noncomputable def iR(K:W.Frag)(U:Ph)(H:Hp):Bool->Addr->List V->Prop
 |true,a,vs=>LstAt K U H a vs
 |false,a,vs=>TupAt K U H a vs
theorem iR.sk{kd:Bool}{a:Addr}{vs:List V}(h:iR K U H kd a vs):Sk kd K H a vs:=by
 cases kd
 ·exact TupAt.iQ h
 ·exact LstAt.sU h
theorem iR.later{kd:Bool}{a:Addr}{vs:List V}{U':Ph}{H₁ H':Hp}(hz:∀a∈U.l,U.z a)(h:iR K U H kd a vs)(x:Ext U H U' H₁)(o:cD U' H₁ H'):iR K U' H' kd a vs:=by
 cases kd
 ·exact TupAt.later hz h x o
 ·exact LstAt.later hz h x o
theorem RQ{xs ys:List D}{i:Nat}:(List.zipWith (λp q=>D.tup [p,q]) xs ys)[i]?=match xs[i]?,ys[i]? with
  |some p,some q=>some (.tup [p,q])
  |_,_=>none:=by
 rw[List.getElem?_zipWith];cases xs[i]?<;>cases ys[i]?<;>rfl
theorem lU.zip{k1 k2:Bool}{l1 l2:Addr}{xs ys:List D}{us vs:List V}(hz:∀a∈U.l,U.z a)(h1:iR K U H k1 l1 us)(h2:iR K U H k2 l2 vs)(r1:aC K cA U H xs us)(r2:aC K cA U H ys vs):lU K cA (.fix (List.zipWith (λp q=>D.tup [p,q]) xs ys)) U H (Ql K k1 k2 l1 l2):=by
 refine⟨λU' H₁ H' s' i x o hS e=>?_,λU' H₁ H' s' i d x o hS e=>?_,λU' H₁ H' s' i d v H2 x o hS e y=>?_⟩
 ·have e:(List.zipWith (λp q=>D.tup [p,q]) xs ys)[i]?=none:=dJ e;rw[RQ] at e;refine⟨us,vs,(h1.later hz x o).sk,(h2.later hz x o).sk,?_⟩;cases ex:xs[i]? with
  |none=>exact .inl (qN.mp (r1.none ex))
  |some p=>
   cases ey:ys[i]? with
   |none=>exact .inr (qN.mp (r2.none ey))
   |some q=>rw[ex,ey] at e;cases e
 ·have e:(List.zipWith (λp q=>D.tup [p,q]) xs ys)[i]?=some d:=dJ e;rw[RQ] at e;cases ex:xs[i]? with
  |none=>rw[ex] at e;cases e
  |some p=>
   cases ey:ys[i]? with
   |none=>rw[ex,ey] at e;cases e
   |some q=>
    obtain⟨u,q1,_⟩:=r1.get ex;obtain⟨v,q2,_⟩:=r2.get ey;exact⟨us,vs,u,v,(h1.later hz x o).sk,(h2.later hz x o).sk,q1,q2⟩
 ·have e:(List.zipWith (λp q=>D.tup [p,q]) xs ys)[i]?=some d:=dJ e;rw[RQ] at e;cases ex:xs[i]? with
  |none=>rw[ex] at e;cases e
  |some p=>
   cases ey:ys[i]? with
   |none=>rw[ex,ey] at e;cases e
   |some q=>
    rw[ex,ey] at e;cases e;obtain⟨a,u,w,hn,rfl,rfl,hu,hw⟩:=y;obtain⟨u',q1,ru⟩:=((r1.mono x hz).out o).get ex;obtain⟨w',q2,mz⟩:=((r2.mono x hz).out o).get ey;have e1:=hu us (h1.later hz x o).sk;have e2:=hw vs (h2.later hz x o).sk;rw[q1] at e1;rw[q2] at e2;cases e1;cases e2;have g:bH H' (upd H' a (.tup [u,w])):=bH.new hn;exact⟨g,.tup (.inl ⟨.inl jH,hS.nz hn⟩) (.cons (ru.mono g.ext hS.lz) (.cons (mz.mono g.ext hS.lz) .nil))⟩
theorem Yn(r:aW K cA U H x v)(h:Run K cA (M.bd (nZ x) k) U H s P Ee) :
  ∃xs kd a vs,v=.ref a/\iR K U H kd a vs/\aC K cA U H xs vs/\Run K cA (k xs) U H s P Ee:=by
 cases r with
 |l _=>exact h.elim
 |d r=>
  cases r with
  |tup q r=>exact⟨_,false,_,_,rfl,q,r,h⟩
  |fl q r=>exact⟨_,true,_,_,rfl,q,r,h⟩
  |_=>exact h.elim
end
section
variable {X:Cx}{cA:Cl}{aq:Nat->Nat->Bool}{aj:Bool}{F:Fn}{EX:XS}{a b:Expr}{A B:E}{pos pp tpos:Pos}{elts:List Expr}{kk:Nat}
theorem zjG(qC:Gl X "zip")(hmg:X.mg "zip"=none)(ha:SE X cA aq aj F EX a A)(hb:SE X cA aq aj F EX b B)(h1:starEach [a,b] X.env=(false,eval a X.env)::starEach [b] X.env)(h2:starEach [b] X.env=(false,eval b X.env)::starEach [] X.env) :
  SI X cA aq aj F EX (.Tuple elts kk tpos) (.Call (.Name "zip" pp) [a,b] [] pos) (.zip A B):=PI.weak (zjt qC hmg (oZ ha (oZ hb u5 h2) h1) (by rw[h1,h2];rfl) (by rw[h2];rfl)) λZ H R hh=>un hh λU J s hL hS h=>by
 refine bI hL hS h λx H1 U1 d1 s1 x1 hL1 aG r1 h1=>bI hL1 aG h1 λy H2 U2 d2 s2 x2 hL2 aV r2 h2=>?_;obtain⟨xs,k1,l1,us,e1,q1,p1,h3⟩:=Yn (r1.mono x2 aG.lz) h2;obtain⟨ys,k2,l2,vs,e2,q2,p2,h4⟩:=Yn r2 h3;subst e1 e2;exact⟨k1,k2,l1,l2,us,vs,rfl,q1.sk,q2.sk,(h4.bR aV) _ (lU.zip aV.lz q1 q2 p1 p2)⟩
theorem zlG(hmg:X.mg "zip"=none)(qC:JK X "zip" .globalImplicit)(ha:JE X cA aq aj F EX a A)(hb:JE X cA aq aj F EX b B)(h1:aF a=true:=by rfl)(h2:aF b=true:=by rfl):JI X cA aq aj F EX (.Tuple elts kk tpos) (.Call (.Name "zip" p) [a,b] [] pos) (.zip A B):=⟨zjG qC.o hmg ha.o hb.o (aX h1) (aX h2)⟩
end
noncomputable def Dk(i:Int)(n:Nat):List V:=(List.range n).map λk=>.int (i+(k:Nat))
theorem zir{i:Int}{acc:Array Value}:∀{n m:Nat},(∀k v,acc.toList[k]?=some (v:Value)->∃t,v=Value.int (i+((m+k:Nat):Int)) t)->acc.toList.length=n->Vals ((List.range n).map λk=>V.int (i+((m+k:Nat):Int))) acc.toList:=by
 generalize acc.toList=l
 induction l with
 |nil=>intro n m _ e;subst e;exact .nil
 |cons v l ih=>
  intro n m h e;subst e;rw[dB,Js,jq,m7];refine .cons (h 0 v rfl) ?_;have:=ih (n:=l.length) (m:=m+1) (λk v e=>by
   have:=h (k+1) v e;rw[show m+1+k=m+(k+1) by lia];exact this) rfl
  have e:((λk=>V.int (i+((m+k:Nat):Int)))∘Nat.succ)=λk=>V.int (i+((m+1+k:Nat):Int)):=by
   funext k
   show V.int (i+((m+(k+1):Nat):Int))=_;rw[show m+(k+1)=m+1+k by lia]
  rw[e];exact this
section
variable {K:W.Frag}{cA:Cl}{U:Ph}{H:Hp}
theorem Yo:∀l:List Nat,aC K cA U H (l.map λk=>D.int (i+(k:Nat))) (l.map λk=>V.int (i+(k:Nat)))
 |[]=>.nil
 |_::l=>.cons (.int _) (Yo l)
end
end Mi
namespace Mi
open PySem PySem.Spec PyProof.Rows L2 PySem.W
structure D3(K:Frag)(mg:Str->Option Value)(x:Str)(st:Stmt)(ps:List Str):Prop where
 f:nq K x x st (gP K x) (fdOf K x st)
 m:mg x=some (.ref (gP K x))
 b:Binds K (fdOf K x st) ps []
theorem dk{p:Prop}(h:p:=by decide +kernel):p:=h
section
variable {fs:List (Str×Stmt)}{ms:List rz}{xs:List (Nat×Str)}{lk:Lk}{K:Frag}{h:Heap}{mg:Str->Option Value}{x:Str}{st:Stmt}
theorem uF(S:mR fs ms xs lk K)(X:K.In h)(G:h.Ns mainGlobals mg)(j:Nat)(hj:fs[j]?=some (x,st):=by rfl)(hb:∀(kV doc pm:Value) (an:Option Addr) (cdv ct a:Value),bindArgs (fnOf x x (aU st) (aH st) (au st) .none kV doc pm an cdv ct) ⟨[a],[]⟩=pure [(p,a)]:=by intros;rfl):D3 K mg x st [p]:=have F:=S.fn (x,st) (gF hj);⟨F.fn,F.m X G,vO F.fn hb⟩
theorem mU(S:mR fs ms xs lk K)(X:K.In h)(G:h.Ns mainGlobals mg)(j:Nat)(hj:fs[j]?=some (x,st):=by rfl)(hb:∀(kV doc pm:Value) (an:Option Addr) (cdv ct a b:Value),bindArgs (fnOf x x (aU st) (aH st) (au st) .none kV doc pm an cdv ct) ⟨[a,b],[]⟩=pure [(p,a),(q,b)]:=by intros;rfl):D3 K mg x st [p,q]:=have F:=S.fn (x,st) (gF hj);⟨F.fn,F.m X G,vP F.fn hb⟩
theorem uG(S:mR fs ms xs lk K)(X:K.In h)(G:h.Ns mainGlobals mg)(j:Nat)(hj:fs[j]?=some (x,st):=by rfl)(hb:∀(kV doc pm:Value) (an:Option Addr) (cdv ct a b c:Value),bindArgs (fnOf x x (aU st) (aH st) (au st) .none kV doc pm an cdv ct) ⟨[a,b,c],[]⟩=pure [(p,a),(q,b),(t,c)]:=by intros;rfl):D3 K mg x st [p,q,t]:=have F:=S.fn (x,st) (gF hj);⟨F.fn,F.m X G,vQ F.fn hb⟩
theorem RT(S:mR fs ms xs lk K)(X:K.In h)(G:h.Ns mainGlobals mg)(j:Nat)(hj:fs[j]?=some (x,st):=by rfl)(hb:∀(kV doc pm:Value) (an:Option Addr) (cdv ct a b c d:Value),bindArgs (fnOf x x (aU st) (aH st) (au st) .none kV doc pm an cdv ct) ⟨[a,b,c,d],[]⟩=pure [(p,a),(q,b),(t,c),(u,d)]:=by intros;rfl):D3 K mg x st [p,q,t,u]:=have F:=S.fn (x,st) (gF hj);⟨F.fn,F.m X G,vR F.fn hb⟩
theorem mG{α:Type}{l:List α}{a:α}(j:Nat)(h:l[j]?=some a:=by rfl):a∈l:=gF h
end
end Mi
namespace Mi
open PySem
def W{α:Type}(m:M α)(s:S)(P:α->S->Prop):Prop:=∃a s',m s=some (.ok a,s')/\P a s'
def WS(m:MS)(s:S)(Q:Out->S->Prop):Prop:=∃o s',m s=some (o,s')/\Q o s'
section
variable {α β:Type}{m:M α}{k:α->M β}{s:S}{P:α->S->Prop}{R:β->S->Prop}
theorem W.bd(h:W m s λa s'=>W (k a) s' R):W (M.bd m k) s R:=by
 obtain⟨a,s',e,b,s2,e2,r⟩:=h;exact⟨b,s2,by unfold M.bd;rw[e];exact e2,r⟩
theorem W.ret{a:α}(h:P a s):W (M.ret a) s P:=⟨a,s,rfl,h⟩
theorem W.qt(h:W m s P):W (M.qt m) s P:=by
 obtain⟨a,s',e,p⟩:=h;exact⟨a,s',by unfold M.qt;rw[e],p⟩
theorem W.opt(e:o=some a)(h:P a s):W (M.opt o) s P:=by subst e;exact⟨a,s,rfl,h⟩
theorem W.imp{P':α->S->Prop}(h:W m s P)(f:∀a s',P a s'->P' a s'):W m s P':=let ⟨a,s',e,p⟩:=h;⟨a,s',e,f a s' p⟩
theorem W.eq(e:m s=some (.ok a,s'))(p:P a s'):W m s P:=⟨a,s',e,p⟩
theorem Ka4{d:D}{P:D->S->Prop}(h:P d s):W (rd (.d d)) s P:=⟨d,s,rfl,h⟩
theorem Yp{n:Nat}{xs:List D}{P:D->S->Prop}(e:s[n]?=some (.lst xs))(h:P (.fl xs) s):W (rd (.l n)) s P:=⟨.fl xs,s,by unfold rd;simp only[e],h⟩
theorem Ka7{P:List D->S->Prop}(h:P [] s):W (gw []) s P:=⟨[],s,rfl,h⟩
theorem Ka6{x:Xv}{r:List Xv}{P:List D->S->Prop}(h:W (rd x) s λd s1=>W (gw r) s1 λds s2=>P (d::ds) s2):W (gw (x::r)) s P:=W.bd (h.imp λd s1 h1=>W.bd (h1.imp λds s2 h2=>W.ret h2))
theorem KaB{P:List D->S->Prop}(h:P [] s):W (bW []) s P:=⟨[],s,rfl,h⟩
theorem KaA{d:D}{r:List Xv}{P:List D->S->Prop}(h:W (bW r) s λds s2=>P (d::ds) s2):W (bW (.d d::r)) s P:=W.bd (W.ret (W.bd (h.imp λds s2 h2=>W.ret h2)))
theorem W.dat{x:D}{P:D->S->Prop}(h:P x s):W (dat (.d x)) s P:=⟨x,s,rfl,h⟩
theorem W.bool{b:Bool}{P:Bool->S->Prop}(h:P b s):W (bool (.d (.bl b))) s P:=⟨b,s,rfl,h⟩
theorem W.int{b:Int}{P:Int->S->Prop}(h:P b s):W (int (.d (.int b))) s P:=⟨b,s,rfl,h⟩
theorem gC{fz:Bool}{o:Option Rz}{d:D}{P:Xv->S->Prop}(e:o=some (.dat d))(h:P (.d d) s):W (b_ fz o) s P:=by subst e;exact⟨_,s,rfl,h⟩
theorem Li{o:Option Rz}{xs:List D}{P:Xv->S->Prop}(e:o=some (.nw xs))(h:P (.d (.fl xs)) s):W (b_ true o) s P:=by subst e;exact⟨_,s,rfl,h⟩
theorem KaV{xs:List D}{P:Xv->S->Prop}(h:P (.d (.fl xs)) s):W (newL true xs) s P:=⟨_,s,rfl,h⟩
theorem KaU{xs:List D}{P:Xv->S->Prop}(h:P (.l s.length) (s++[.lst xs])):W (newL false xs) s P:=⟨_,_,rfl,h⟩
theorem vU{F:List Xv->M Xv}{xs:List Xv}{P:Xv->S->Prop}(hl:locs xs=[])(h:W (F (cU 0 xs)) [] λv _=>∃d,v=.d d/\P (.d d) s):W (cg F xs) s P:=by
 obtain⟨v,s1,e,d,rfl,p⟩:=h;refine⟨.d d,s,?_,p⟩;unfold cg;rw[hl,if_pos BZ];simp only[iD,e,cN]
theorem Kaq{F:List Xv->M Xv}{xs:List Xv}{P:Xv->S->Prop}(hl:locs xs=[])(h:W (F (cU 0 xs)) [] λv s1=>∃n o,v=.l n/\s1[n]?=some o/\P (.l s.length) (s++[o])):W (cg F xs) s P:=by
 obtain⟨v,s1,e,n,o,rfl,eo,p⟩:=h;refine⟨.l s.length,s++[o],?_,p⟩;unfold cg;rw[hl,if_pos BZ];simp only[iD,e,cN,List.getElem?_nil,eo]
theorem Lj{F:List Xv->M Xv}{xs:List Xv}{n:Nat}{o:SO}{P:Xv->S->Prop}(hl:locs xs=[n])(ho:s[n]?=some o)(h:W (F (cU 0 xs)) [o] λv s1=>∃d o',v=.d d/\s1=[o']/\P (.d d) (s.set n o')):W (cg F xs) s P:=by
 obtain⟨v,s1,e,d,o',rfl,rfl,p⟩:=h;refine⟨.d d,s.set n o',?_,p⟩;unfold cg;rw[hl,if_pos Qi];simp only[iD,ho,e,cN]
end
section
variable {s:S}{Q:Out->S->Prop}
theorem WS.ofM(h:W m s λa s'=>WS (k a) s' Q):WS (Mi.ofM m J k) s Q:=by
 obtain⟨a,s',e,o,s2,e2,q⟩:=h;exact⟨o,s2,by unfold Mi.ofM;rw[e];exact e2,q⟩
theorem WS.nx(h:Q (.nx J) s):WS (λs=>some (.nx J,s)) s Q:=⟨_,s,rfl,h⟩
theorem WS.rt(h:Q (.rt x) s):WS (λs=>some (.rt x,s)) s Q:=⟨_,s,rfl,h⟩
end
theorem W.call(hT:T f=some d)(hl:xs.length=d.gO)
  (h:WS (exs aq aj (λc=>Mi.call aq T k c) d.body (xs.map some++List.replicate (d.many-d.gO) none)) s λo s'=>match o with|.nx _=>P (.d .non) s'|.rt v=>P v s'|_=>False):W (Mi.call aq T (k+1) aj f xs) s P:=by
 obtain⟨o,s',e,q⟩:=h;unfold Mi.call;simp only[hT,if_pos hl];unfold W;simp only[e];cases o with
 |nx J=>exact⟨_,_,rfl,q⟩
 |rt v=>exact⟨_,_,rfl,q⟩
 |bk J=>exact q.elim
 |ct J=>exact q.elim
 |er c fs J=>exact q.elim
theorem Ln(I:Nat->Vs->S->Prop)(h0:I 0 J s)(hb:∀i x J s,c[i]?=some x->I i J s->WS (b x J) s λo s'=>∃J',o=.nx J'/\I (i+1) J' s')
  (he:∀J s,I c.length J s->Q (.nx J) s):WS (dw (.fix c) b (c.length+1) 0 J) s Q:=by
 have key:∀n i J s,i+n=c.length->I i J s->WS (dw (.fix c) b (n+1) i J) s Q:=by
  intro n
  induction n with
  |zero=>
   intro i J s hi hI;have e:c[i]?=none:=by rw[qN];lia
   have:i=c.length:=by lia
   subst this;refine⟨_,s,?_,he J s hI⟩;unfold dw;simp only[Src.at,e]
  |succ n ih=>
   intro i J s hi hI;have fX:i<c.length:=by lia
   have e:c[i]?=some c[i]:=i_ fX;obtain⟨o,s',eb,J',rfl,Ir⟩:=hb i c[i] J s e hI;obtain⟨o2,s2,e2,q⟩:=ih (i+1) J' s' gV Ir;refine⟨o2,s2,?_,q⟩;unfold dw;simp only[Src.at,e,eb];exact e2
 exact key c.length 0 J s gV h0
theorem zl0{i j:Int}(h:(-(2^64)<i/\i<2^64)\/(-(2^64)<j/\j<2^64)):prim .mul [.int i,.int j]=some (.dat (.int (i*j))):=by
 show Option.map _ (if _ then _ else _)=_;rw[if_pos h];rfl
theorem zmh{i j:Int}(h:0<j):prim .mod [.int i,.int j]=some (.dat (.int (i%j))):=by
 show Option.map _ (if _ then _ else _)=_;rw[if_pos h];rfl
theorem zjA{i j:Int}(h:0<j/\j<1073741824):prim .fdiv [.int i,.int j]=some (.dat (.int (i/j))):=by
 show Option.map _ (if _ then _ else _)=_;rw[if_pos h];rfl
theorem zg6{i j:Int}(h:0<j/\j<1073741824):prim .divmod [.int i,.int j]=some (.dat (.tup [.int (i/j),.int (i%j)])):=by
 show Option.map _ (if _ then _ else _)=_;rw[if_pos h];rfl
theorem zlX{i j:Int}(h:0<=j/\j<=1000000/\i.natAbs<2^64):prim .pow [.int i,.int j]=some (.dat (.int (i^j.toNat))):=by
 show Option.map _ (if _ then _ else _)=_;rw[if_pos h];rfl
theorem Lp{xs:List D}{i:Nat}{x:D}(h:xs[i]?=some x):prim .ix [.fl xs,.int i]=some (.dat x):=by
 show Option.map Rz.dat (L2.o9 xs i)=_;have:L2.o9 xs (i:Int)=some x:=by
  unfold L2.o9 L2.rN;have hl:i<xs.length:=(gD.mp h).1;simp[hl];exact(gD.mp h).2
 rw[this];rfl
theorem Yq(h:xs.length+ys.length<=sizeLine):prim .add [.fl xs,.fl ys]=some (.nw (xs++ys)):=by
 show (if _ then _ else _)=_;rw[if_pos h]
theorem W.ite[Decidable c](h1:c->W m1 s P)(h2:¬c->W m2 s P):W (if c then m1 else m2) s P:=by
 by_cases h:c
 ·rw[if_pos h];exact h1 h
 ·rw[if_neg h];exact h2 h
theorem WS.ite[Decidable c](h1:c->WS m1 s P)(h2:¬c->WS m2 s P):WS (if c then m1 else m2) s P:=by
 by_cases h:c
 ·rw[if_pos h];exact h1 h
 ·rw[if_neg h];exact h2 h
theorem RV{n:Nat}{xs:List D}{s:S}{P:Unit->S->Prop}(h:P () (s.set n (.lst xs))):W (putL n xs) s P:=⟨_,_,rfl,h⟩
theorem W.cM{n:Nat}{xs:List D}{s:S}{P:Nat×List D->S->Prop}(e:s[n]?=some (.lst xs))(h:P (n,xs) s):W (cM (.l n)) s P:=⟨_,s,by unfold Mi.cM;simp only[e],h⟩
theorem Ka9{xs:List D}{s:S}{P:Src×Nat->S->Prop}(h:P (.fix xs,xs.length) s):W (src (.d (.tup xs))) s P:=⟨_,s,rfl,h⟩
theorem Ka8{xs:List D}{s:S}{P:Src×Nat->S->Prop}(h:P (.fix xs,xs.length) s):W (src (.d (.fl xs))) s P:=⟨_,s,rfl,h⟩
theorem WS.nil{aq:Nat->Nat->Bool}{aj:Bool}{F:Bool->Fn}{J:Vs}{s:S}{Q:Out->S->Prop}(h:Q (.nx J) s):WS (exs aq aj F .nil J) s Q:=⟨_,s,rfl,h⟩
theorem WS.cons{aq:Nat->Nat->Bool}{aj:Bool}{F:Bool->Fn}{a:St}{r:bU}{J:Vs}{s:S}{Q:Out->S->Prop}(h:WS (ex aq aj F a J) s λo s'=>match o with|.nx J'=>WS (exs aq aj F r J') s' Q|.rt x=>Q (.rt x) s'|_=>False):WS (exs aq aj F (.cons a r) J) s Q:=by
 obtain⟨o,s',e,q⟩:=h;unfold WS exs Mi.cB;rw[e];cases o with
 |nx J'=>exact q
 |rt x=>exact⟨_,_,rfl,q⟩
 |bk _=>exact q.elim
 |ct _=>exact q.elim
 |er _ _ _=>exact q.elim
def qU{α:Type}(o:Option α)(P:α->Prop):Prop:=∃a,o=some a/\P a
theorem qU.mk{α:Type}{o:Option α}{P:α->Prop}{a:α}(e:o=some a)(h:P a):qU o P:=⟨a,e,h⟩
section
variable {aq:Nat->Nat->Bool}{aj:Bool}{F:Fn}{J:Vs}{s:S}{P:Xv->S->Prop}
theorem W.eC{d:D}(h:P (.d d) s):W (ev aq aj F (.c d) J) s P:=W.ret h
theorem W.eV{i:Nat}{x:Xv}(e:J[i]?.join=some x)(h:P x s):W (ev aq aj F (.v i) J) s P:=W.opt e h
theorem Yr{fz:Bool}{p:Pr}{xs:Es}(h:W (evs aq aj F xs J) s λvs s1=>W (gw vs) s1 λds s2=>W (b_ fz (prim p ds)) s2 P):W (ev aq aj F (.pr fz p xs) J) s P:=W.bd (h.imp λ_ _ h=>W.bd h)
theorem KaD{a b:E}(h:W (ev aq aj F a J) s λx s1=>W (Mi.bool x) s1 λk s2=>W (if k=true then ev aq aj F b J else M.ret (.d (.bl false))) s2 P):W (ev aq aj F (.and a b) J) s P:=W.bd (h.imp λ_ _ h=>W.bd h)
theorem KaL{a b:E}(h:W (ev aq aj F a J) s λx s1=>W (Mi.bool x) s1 λk s2=>W (if k=true then M.ret (.d (.bl true)) else ev aq aj F b J) s2 P):W (ev aq aj F (.or a b) J) s P:=W.bd (h.imp λ_ _ h=>W.bd h)
theorem KaK{a:E}(h:W (ev aq aj F a J) s λx s1=>W (Mi.bool x) s1 λk s2=>P (.d (.bl (!k))) s2):W (ev aq aj F (.not a) J) s P:=W.bd (h.imp λ_ _ h=>W.bd (h.imp λ_ _ h=>W.ret h))
theorem KaO{xs:Es}(h:W (evs aq aj F xs J) s λvs s1=>W (bW vs) s1 λds s2=>P (.d (.tup ds)) s2):W (ev aq aj F (.tup xs) J) s P:=W.bd (h.imp λ_ _ h=>W.bd (h.imp λ_ _ h=>W.ret h))
theorem KaJ{fz:Bool}{xs:Es}(h:W (evs aq aj F xs J) s λvs s1=>W (bW vs) s1 λds s2=>W (newL fz ds) s2 P):W (ev aq aj F (.lst fz xs) J) s P:=W.bd (h.imp λ_ _ h=>W.bd h)
theorem KaG{k:Str}{i:Int}(h:P (.d (.fd [.str k] [.int i])) s):W (ev aq aj F (.Gx k i) J) s P:=W.ret h
theorem Ys{f:Nat}{xs:Es}(h:W (evs aq aj F xs J) s λvs s1=>W (cg (F f) vs) s1 P):W (ev aq aj F (.call f xs) J) s P:=W.bd h
theorem KaN{fz:Bool}{a:E}{lo hi:Eo}(h:W (ev aq aj F a J) s λx s1=>W (vC aq aj F lo J) s1 λl s2=>W (vC aq aj F hi J) s2 λu s3=>W (rd x) s3 λd s4=>W (b_ fz (cutD d l u)) s4 P):W (ev aq aj F (.sl fz a lo hi) J) s P:=W.bd (h.imp λ_ _ h=>W.bd (h.imp λ_ _ h=>W.bd (h.imp λ_ _ h=>W.bd h)))
theorem KaW{P:Option Int->S->Prop}(h:P none s):W (vC aq aj F .no J) s P:=W.ret h
theorem KaX{a:E}{P:Option Int->S->Prop}(h:W (ev aq aj F a J) s λx s1=>W (Mi.int x) s1 λi s2=>P (some i) s2):W (vC aq aj F (.yes a) J) s P:=W.bd (h.imp λ_ _ h=>W.bd (h.imp λ_ _ h=>W.ret h))
theorem Kam{P:List Xv->S->Prop}(h:P [] s):W (evs aq aj F .nil J) s P:=W.ret h
theorem Yt{a:E}{r:Es}{P:List Xv->S->Prop}(h:W (ev aq aj F a J) s λx s1=>W (evs aq aj F r J) s1 λxs s2=>P (x::xs) s2):W (evs aq aj F (.cons a r) J) s P:=W.bd (h.imp λ_ _ h=>W.bd (h.imp λ_ _ h=>W.ret h))
theorem KaS{a:E}{P:Src×Nat->S->Prop}(h:W (ev aq aj F a J) s λx s1=>W (src x) s1 P):W (gM aq aj F (.seq a) J) s P:=W.bd h
end
section
variable {aq:Nat->Nat->Bool}{aj:Bool}{F:Bool->Fn}{J:Vs}{s:S}{Q:Out->S->Prop}
theorem WS.RW{b:Bool}{m1 m2:MS}(e:b=true)(h:WS m1 s Q):WS (if b=true then m1 else m2) s Q:=by rw[if_pos e];exact h
theorem WS.RX{b:Bool}{m1 m2:MS}(e:b=false)(h:WS m2 s Q):WS (if b=true then m1 else m2) s Q:=by rw[if_neg (by rw[e];decide)];exact h
theorem WS.xY{m1 m2:MS}(h:WS m1 s Q):WS (if true=true then m1 else m2) s Q:=by rw[if_pos rfl];exact h
theorem WS.RZ{m1 m2:MS}(h:WS m2 s Q):WS (if false=true then m1 else m2) s Q:=by rw[if_neg J0];exact h
theorem Kbf{e:E}(h:W (ev aq aj (F aj) e J) s λ_ s1=>Q (.nx J) s1):WS (ex aq aj F (.ex e) J) s Q:=WS.ofM (h.imp λ_ _ h=>WS.nx h)
theorem Yu{i:Nat}{e:E}(h:W (ev aq aj (F aj) e J) s λx s1=>Q (.nx (J.set i (some x))) s1):WS (ex aq aj F (.asg (.nm i) e) J) s Q:=WS.ofM (h.imp λ_ _ h=>WS.nx h)
theorem Kbn{is:List Nat}{e:E}(h:W (ev aq true (F true) e J) s λx s1=>W (dat x) s1 λd s2=>qU ((jy d).bind λds=>eZ is (ds.map .d) J) λJ'=>Q (.nx J') s2):WS (ex aq true F (.asg (.tp is) e) J) s Q:=by
 refine WS.ofM (h.imp λx s1 h=>?_);exact WS.xY (m2:=λ_=>none) (WS.ofM (W.bd (h.imp λd s2 ⟨J',e,q⟩=>W.opt e (WS.nx q))))
theorem Kbm{o i e:E}(h:W (ev aq aj (F aj) e J) s λx s1=>W (dat x) s1 λd s2=>W (ev aq aj (F aj) o J) s2 λy s3=>W (ev aq aj (F aj) i J) s3 λz s4=>W (Mi.int z) s4 λj s5=>W (cM y) s5 λnx s6=>qU (L2.rN nx.2.length j) λq=>Q (.nx J) (s6.set nx.1 (.lst (nx.2.set q d)))):WS (ex aq aj F (.asg (.aq o i) e) J) s Q:=by
 refine WS.ofM (h.imp λx s1 h=>WS.ofM (W.bd (h.imp λd s2 h=>W.bd (h.imp λy s3 h=>W.bd (h.imp λz s4 h=>W.bd (h.imp λj s5 h=>W.bd (h.imp λnx s6 h=>?_)))))));obtain⟨q,e,h⟩:=h;simp only[e];exact RV (WS.nx h)
theorem Kbj{i j:Nat}{a b:E}(h:W (ev aq true (F true) a J) s λx s1=>W (ev aq true (F true) b J) s1 λy s2=>Q (.nx ((J.set i (some x)).set j (some y))) s2):WS (ex aq true F (.par i j a b) J) s Q:=by
 exact WS.xY (m2:=λ_=>none) (WS.ofM (W.bd (h.imp λx s1 h=>W.bd (h.imp λy s2 h=>W.ret (WS.nx h)))))
theorem Yv{e:E}(h:W (ev aq aj (F aj) e J) s λx s1=>Q (.rt x) s1):WS (ex aq aj F (.ret e) J) s Q:=WS.ofM (h.imp λ_ _ h=>WS.rt h)
theorem Yw{c:E}{t e:bU}(h:W (ev aq aj (F aj) c J) s λx s1=>W (Mi.bool x) s1 λb s2=>WS (if b=true then exs aq aj F t J else exs aq aj F e J) s2 Q):WS (ex aq aj F (.iff c t e) J) s Q:=WS.ofM (W.bd h)
theorem Kbg{t:Tg}{w:Wk}{b:bU}(h:W (gM aq true (F true) w J) s λcn s1=>WS (dw cn.1 (λd J=>Mi.cB (store aq true (F true) t (.d d) J) λJ'=>exs aq true F b J') (cn.2+1) 0 J) s1 Q):WS (ex aq true F (.fr t w b) J) s Q:=by
 exact WS.xY (m2:=λ_=>none) (WS.ofM h)
end
theorem W.RW{α:Type}{b:Bool}{m1 m2:M α}{s:S}{P:α->S->Prop}(e:b=true)(h:W m1 s P):W (if b=true then m1 else m2) s P:=by rw[if_pos e];exact h
theorem W.RX{α:Type}{b:Bool}{m1 m2:M α}{s:S}{P:α->S->Prop}(e:b=false)(h:W m2 s P):W (if b=true then m1 else m2) s P:=by rw[if_neg (by rw[e];decide)];exact h
theorem W.xY{α:Type}{m1 m2:M α}{s:S}{P:α->S->Prop}(h:W m1 s P):W (if true=true then m1 else m2) s P:=by rw[if_pos rfl];exact h
theorem W.RZ{α:Type}{m1 m2:M α}{s:S}{P:α->S->Prop}(h:W m2 s P):W (if false=true then m1 else m2) s P:=by rw[if_neg J0];exact h
structure Bx(R:Prop):Prop where
 o:R
end Mi
namespace Mi
open PySem PySem.W PyProof.Rows L2
def qJ{α:Type}(lt:Nat->Nat->Option Bool)(t:KasT α)(P:α->Prop):Prop:=∃a,bT lt t=some a/\P a
section
variable {α β:Type}{lt:Nat->Nat->Option Bool}{n:Nat}
theorem qJ.ret(h:P a):qJ lt (.ret a) P:=⟨a,rfl,h⟩
theorem qJ.bind(hf:∀a,P a->qJ lt (f a) R):∀{t:KasT α},qJ lt t P->qJ lt (t.bind f) R
 |.ret a,⟨a',e,h⟩=>by cases e;exact hf _ h
 |.ask i j k,⟨a',e,h⟩=>by
  unfold bT at e;cases el:lt i j with
  |none=>rw[el] at e;cases e
  |some b=>
   rw[el] at e;obtain⟨c,e1,h1⟩:=qJ.bind hf (t:=k b) ⟨a',e,h⟩;refine⟨c,?_,h1⟩;show bT lt (.ask i j λb=>(k b).bind f)=some c;unfold bT;rw[el];exact e1
def Tot(n:Nat)(lt:Nat->Nat->Option Bool):Prop:=∀i j,i<n->j<n->∃b,lt i j=some b
variable (ht:Tot n lt)(hn:0<n)
include ht hn
end
section
variable {lt:Nat->Nat->Option Bool}{n:Nat}
theorem Yx(h:∀k,1<=k->k<n->lt (p.getD k 0) (p.getD (k-1) 0)=some false):∀f k,1<=k->k+f=n->qJ lt (kas_asc p f k) λr=>r=n
 |0,k,h1,e=>.ret gV
 |f+1,k,h1,e=>by
  obtain⟨a,e1,e2⟩:=Yx h f (k+1) gV gV;refine⟨a,?_,e2⟩;unfold kas_asc bT;rw[h k h1 gV];exact e1
theorem Yy(hk:k<n):(List.range n).toArray.getD k 0=k:=by
 simp[Array.getD,hk]
theorem zfz(hn:0<n)(h:∀k,k+1<n->lt (k+1) k=some false):bT lt (kas_sort n)=some (List.range n).toArray:=by
 have h1:qJ lt (kas_asc (List.range n).toArray (n-1) 1) λr=>r=n:=Yx (λk a b=>by
  rw[Yy b,Yy gV];have:=h (k-1) gV
  rwa [show k-1+1=k by lia] at this) _ _ (cL _) gV
 have h2:qJ lt (kas_count n (List.range n).toArray) λr=>r=(n,(List.range n).toArray):=by
  refine qJ.bind (λr hr=>?_) h1;subst hr;rw[if_pos Qi];exact .ret rfl
 have h3:qJ lt (kas_sort n) λr=>r=(List.range n).toArray:=by
  refine qJ.bind (λr hr=>?_) h2;subst hr;rw[if_neg (lM _)];exact .ret rfl
 obtain⟨a,e,rfl⟩:=h3;exact e
end
theorem zg5(hk:(xs.all jx||xs.all iC)=true)(sE:xs.length<64)(h:∀k,k+1<xs.length->w6 xs (k+1) k=some false):xq xs=some xs:=by
 unfold xq;rw[if_pos hk];unfold pH;by_cases h2:xs.length<2
 ·rw[if_pos h2]
 ·rw[if_neg h2,if_pos sE,zfz gV h];dsimp only;rw[if_pos Qi]
  congr 1
  apply List.ext_getElem
  ·simp
  ·intro i a b;simp[nF,b]
noncomputable def iU(p:Int×Int):D:=.tup [.int p.1,.int p.2]
end Mi
namespace Mi
open PySem
theorem W.walk{c:List D}{f:D->List D->M (List D)}{s:S}{acc:List D}{P:List D->S->Prop}(I:Nat->List D->S->Prop)(h0:I 0 acc s)(hb:∀i x acc s,c[i]?=some x->I i acc s->W (f x acc) s λa s'=>I (i+1) a s')
  (he:∀acc s,I c.length acc s->P acc s):W (Mi.walk (.fix c) f (c.length+1) 0 acc) s P:=by
 have key:∀n i acc s,i+n=c.length->I i acc s->W (Mi.walk (.fix c) f (n+1) i acc) s P:=by
  intro n
  induction n with
  |zero=>
   intro i acc s hi hI;have e:c[i]?=none:=by rw[qN];lia
   have:i=c.length:=by lia
   subst this;refine⟨acc,s,?_,he acc s hI⟩;unfold Mi.walk;simp only[Src.at,e]
  |succ n ih=>
   intro i acc s hi hI;have fX:i<c.length:=by lia
   have e:c[i]?=some c[i]:=i_ fX;obtain⟨a,s',eb,Ir⟩:=hb i c[i] acc s e hI;obtain⟨a2,s2,e2,q⟩:=ih (i+1) a s' gV Ir;refine⟨a2,s2,?_,q⟩;unfold Mi.walk;simp only[Src.at,e,M.bd,eb];exact e2
 exact key c.length 0 acc s gV h0
section
variable {aq:Nat->Nat->Bool}{F:Fn}{J:Vs}{s:S}{P:Xv->S->Prop}
theorem Kaw{fz:Bool}{elt:E}{tg:List Nat}{it:Wk}{fr:List Nat}{many:Nat}{cond:Eo}{c:List D}(g:D->Option D)(hc:c.length<=sizeLine)
  (hw:W (gM aq true F it J) s λcn s1=>cn=(.fix c,c.length)/\s1=s)
  (hb:∀x∈c,∃J',cV tg x (blk many fr J)=some J'/\W (lR aq true F cond J') s λb s1=>s1=s/\(if b=true then W (ev aq true F elt J') s λy s2=>s2=s/\∃d,y=.d d/\g x=some d else g x=none))
  (h:W (newL fz (c.filterMap g)) s P):W (ev aq true F (.comp fz elt tg it fr many cond) J) s P:=by
 change W (_root_.ite (true=true) _ _) s P
 rw[if_pos rfl];refine W.bd (hw.imp λcn s1=>?_);rintro⟨rfl,rfl⟩;refine W.bd ?_;refine W.walk (c:=c) (λi acc s'=>s'=s1/\acc=(c.take i).filterMap g) ⟨rfl,rfl⟩ (λi x acc s' e hI=>?_) (λacc s' hI=>?_)
 ·obtain⟨rfl,rfl⟩:=hI;have hi:i<c.length:=(gD.mp e).1;have ht:c.take (i+1)=c.take i++[x]:=by rw[DX,e];rfl
  have hl:((c.take i).filterMap g).length<sizeLine:=Nat.lt_of_le_of_lt (Du _ _) (by rw[wz];lia);obtain⟨J',e1,h1⟩:=hb x (gF e);refine W.bd (W.opt e1 ?_);refine W.bd (W.qt (h1.imp λb s2=>?_));rintro⟨rfl,h2⟩;rw[ht,Ju];cases b
  ·rw[if_neg J0] at h2 ⊢;refine W.ret ⟨rfl,?_⟩;simp[h2]
  ·rw[if_pos rfl] at h2 ⊢;refine W.bd (W.qt (h2.imp λy s3=>?_));rintro⟨rfl,d,rfl,eg⟩;refine W.bd (W.dat ?_);rw[if_pos hl];refine W.ret ⟨rfl,?_⟩;simp[eg]
 ·obtain⟨rfl,rfl⟩:=hI;rw[BR];exact h
end
section
variable {aq:Nat->Nat->Bool}{aj:Bool}{F:Fn}{J:Vs}{s:S}{P:Xv->S->Prop}
theorem KaH(h:W (ev aq aj F a J) s λx s1=>W (rd x) s1 λd s2=>∃b,jZ aq d k=some b/\P (.d (.bl b)) s2):W (ev aq aj F (.pD a k) J) s P:=
 W.bd (h.imp λ_ _ h=>W.bd (h.imp λ_ _ ⟨_,e,h⟩=>W.bd (W.opt e (W.ret h))))
theorem KaF(h:W (ev aq aj F a J) s λx s1=>W (ev aq aj F b J) s1 λy s2=>W (gw [x,y]) s2 λds s3=>W (b_ true (prim p ds)) s3 λt s4=>W (Mi.bool t) s4 λk s5=>
  W (if k=true then M.bd (ev aq aj F c J) λz=>M.bd (gw [y,z]) λds=>b_ true (prim q ds) else M.ret (.d (.bl false))) s5 P):W (ev aq aj F (.wY p q a b c) J) s P:=
 W.bd (h.imp λ_ _ h=>W.bd (h.imp λ_ _ h=>W.bd (h.imp λ_ _ h=>W.bd (h.imp λ_ _ h=>W.bd h))))
end
noncomputable def Iu(fz:Bool):Option Rz->Option Xv
 |some (.dat d)=>some (.d d)
 |some (.nw ys)=>match fz with
  |true=>some (.d (.fl ys))
  |false=>none
 |none=>none
noncomputable def addQ:D->D->Option Rz
 |.int i,.int j=>some (.dat (.int (i+j)))
 |_,_=>none
noncomputable def xZ:List D->Option Rz
 |a::r=>match r with
  |b::r=>match r with
   |[]=>addQ a b
   |_::_=>none
  |[]=>none
 |[]=>none
noncomputable def quick:Pr->Bool
 |.nW=>false|.Cy=>false|.mul=>false|.fdiv=>false|.mod=>false|.pow=>false|.divmod=>false|.sorted=>false|.pC=>false|.Gu=>false|.mult=>false|.wX=>false|.repr=>false|.str1=>false|.WX=>false|.Gq=>false|.Gs=>false|.shl=>false|.shr=>false|.band=>false|.sH=>false
 |_=>true
noncomputable def pQ(p:Pr)(ds:List D):Option Rz:=match p with
 |.add=>xZ ds
 |p=>match quick p with
  |true=>prim p ds
  |false=>none
theorem Iv{ds:List D}{r:Rz}(h:xZ ds=some r):zJ ds=some r:=by
 cases ds with
 |nil=>cases h
 |cons a t=>cases t with
  |nil=>cases h
  |cons b t=>cases t with
   |cons _ _=>cases h
   |nil=>cases a with
    |int i=>cases b with
     |int j=>exact h
     |_=>cases h
    |_=>cases h
theorem Av{p:Pr}{ds:List D}{r:Rz}(h:pQ p ds=some r):prim p ds=some r:=by
 cases p with
 |add=>exact Iv h
 |_=>first|exact h|cases h
noncomputable def R0(fz:Bool)(ds:List D):Option Xv:=match fz with
 |true=>some (.d (.fl ds))
 |false=>none
noncomputable def Iw:Xv->Option D
 |.d x=>some x
 |.l _=>none
noncomputable def obP(c:Nat):Xv->Option (List D)
 |.d (.ob e fs)=>if e=c then some fs else none
 |_=>none
noncomputable def notP:Xv->Option Xv
 |.d (.bl b)=>some (.d (.bl (!b)))
 |_=>none
noncomputable def R3(r:Option Xv):Xv->Option Xv
 |.d (.bl true)=>r
 |.d (.bl false)=>some (.d (.bl false))
 |_=>none
noncomputable def orP(r:Option Xv):Xv->Option Xv
 |.d (.bl true)=>some (.d (.bl true))
 |.d (.bl false)=>r
 |_=>none
section
variable (aq:Nat->Nat->Bool)
mutual
noncomputable def gb:E->Vs->Option Xv
 |.c d,_=>some (.d d)
 |.v i,J=>J[i]?.join
 |.pr fz p xs,J=>(oG xs J).bind λds=>Iu fz (pQ p ds)
 |.tup xs,J=>(oG xs J).bind λds=>some (.d (.tup ds))
 |.lst fz xs,J=>(oG xs J).bind λds=>R0 fz ds
 |.not a,J=>(gb a J).bind notP
 |.and a b,J=>(gb a J).bind (R3 (gb b J))
 |.or a b,J=>(gb a J).bind (orP (gb b J))
 |.pD a k,J=>(gb a J).bind λx=>(Iw x).bind λd=>(jZ aq d k).bind λb=>some (.d (.bl b))
 |.of o c i,J=>(gb o J).bind λx=>(obP c x).bind λfs=>fs[i]?.map .d
 |_,_=>none
noncomputable def oG:Es->Vs->Option (List D)
 |.nil,_=>some []
 |.cons a r,J=>(gb a J).bind λx=>(Iw x).bind λd=>(oG r J).bind λds=>some (d::ds)
end
noncomputable def pR:Es->Vs->Option (List Xv)
 |.nil,_=>some []
 |.cons a r,J=>(gb aq a J).bind λx=>(pR r J).bind λxs=>some (x::xs)
end
theorem lG{α β:Type}{o:Option α}{f:α->Option β}{b:β}(h:o.bind f=some b):∃a,o=some a/\f a=some b:=wg.mp h
theorem iV{α β:Type}{m:M α}{k:α->M β}{s s':S}{a:α}(e:m s=some (.ok a,s')):M.bd m k s=k a s':=by
 show (match m s with|some (.ok a,s')=>k a s'|some (.er c f,s')=>some (.er c f,s')|none=>none)=_;rw[e]
theorem Aw(s:S):∀ds:List D,gw (ds.map .d) s=some (.ok ds,s)
 |[]=>rfl
 |d::r=>(iV (s':=s) (a:=d) rfl).trans ((iV (Aw s r)).trans rfl)
theorem tW(s:S):∀ds:List D,bW (ds.map .d) s=some (.ok ds,s)
 |[]=>rfl
 |d::r=>(iV (s':=s) (a:=d) rfl).trans ((iV (tW s r)).trans rfl)
theorem R4{fz:Bool}{p:Pr}{ds:List D}{x:Xv}{s:S}(h:Iu fz (pQ p ds)=some x):b_ fz (prim p ds) s=some (.ok x,s):=by
 cases o:pQ p ds with
 |none=>rw[o] at h;cases h
 |some r=>
  rw[o] at h;rw[Av o];cases r with
  |dat d=>cases h;rfl
  |nw ys=>cases fz with
   |true=>cases h;rfl
   |false=>cases h
section
variable {aq:Nat->Nat->Bool}{aj:Bool}{F:Fn}{J:Vs}{s:S}
theorem pU(e:E):∀x:Xv,gb aq e J=some x->ev aq aj F e J s=some (.ok x,s):=by
 refine E.rec (motive_1:=λe=>∀x:Xv,gb aq e J=some x->ev aq aj F e J s=some (.ok x,s)) (motive_2:=λ_=>True) (motive_3:=λxs=>∀ds:List D,oG aq xs J=some ds->evs aq aj F xs J s=some (.ok (ds.map .d),s)) (motive_4:=λ_=>True)
  ?c ?v ?pr (λ_ _ _ _ _ _ _ _ _ h=>nomatch h) (λ_ _ _ _ _ _ _ _ _ _ _ _ h=>nomatch h) ?and ?or ?not (λ_ _ _ _ _ _ _ h=>nomatch h) ?tup ?lst (λ_ _ _ h=>nomatch h) (λ_ _ _ _ h=>nomatch h) ?pD (λ_ _ _ _ _ _ _ _ h=>nomatch h) (λ_ _ _ _ _ _ _ _ h=>nomatch h) (λ_ _ _ _ _ h=>nomatch h) (λ_ _ _ h=>nomatch h)
  (λ_ _ _ _ _ _ _ _ _ _ _ h=>nomatch h) (λ_ _ _ _ _ _ _ _ _ _ _ _ _ _ h=>nomatch h) (λ_ _ _ _ _ h=>nomatch h) ?of (λ_ _ _ _ _ h=>nomatch h) (λ_ _ _ _ _ _ _ h=>nomatch h) (λ_ h=>nomatch h) (λ_ _ _ _ _ _ h=>nomatch h) (λ_ _ _ _ _ h=>nomatch h) (λ_ _ _ h=>nomatch h) (λ_ _ _ _ _ _ h=>nomatch h) (λ_ _ _ _ _ h=>nomatch h) (λ_ _ _ _ _ _ _ h=>nomatch h) (λ_ _ _ h=>nomatch h) (λ_ _ _ h=>nomatch h) (λ_ h=>nomatch h)
  (λ_ _=>trivial) (λ_ _ _ _=>trivial) (λ_ _ _ _=>trivial) (λ_ _=>trivial) (λ_ _=>trivial) ?nil ?cons trivial (λ_ _=>trivial) e
 case c=>intro d x h;cases h;rfl
 case v=>intro i x h;exact(show M.opt (J[i]?.join) s=_ from by rw[show J[i]?.join=some x from h];rfl)
 case pr=>
  intro fz p xs ih x h;obtain⟨ds,e1,e2⟩:=lG h;exact(iV (ih _ e1)).trans ((iV (Aw s ds)).trans (R4 e2))
 case tup=>
  intro xs ih x h;obtain⟨ds,e1,e2⟩:=lG h;cases e2;exact(iV (ih _ e1)).trans ((iV (tW s ds)).trans rfl)
 case lst=>
  intro fz xs ih x h;obtain⟨ds,e1,e2⟩:=lG h;cases fz with
  |false=>cases e2
  |true=>cases e2;exact(iV (ih _ e1)).trans ((iV (tW s ds)).trans rfl)
 case not=>
  intro a ih x h;obtain⟨y,e1,e2⟩:=lG h;cases y with
  |l n=>cases e2
  |d y=>cases y with
   |bl b=>cases e2;exact(iV (ih _ e1)).trans rfl
   |_=>cases e2
 case and=>
  intro a b ih ih2 x h;obtain⟨y,e1,e2⟩:=lG h;cases y with
  |l n=>cases e2
  |d y=>cases y with
   |bl b=>cases b with
    |true=>exact(iV (ih _ e1)).trans (ih2 _ e2)
    |false=>cases e2;exact(iV (ih _ e1)).trans rfl
   |_=>cases e2
 case or=>
  intro a b ih ih2 x h;obtain⟨y,e1,e2⟩:=lG h;cases y with
  |l n=>cases e2
  |d y=>cases y with
   |bl b=>cases b with
    |true=>cases e2;exact(iV (ih _ e1)).trans rfl
    |false=>exact(iV (ih _ e1)).trans (ih2 _ e2)
   |_=>cases e2
 case pD=>
  intro a k ih x h;obtain⟨y,e1,e2⟩:=lG h;cases y with
  |l n=>cases e2
  |d y=>
   obtain⟨d,e3,e4⟩:=lG e2;cases e3;obtain⟨b,e5,e6⟩:=lG e4;cases e6;refine(iV (ih _ e1)).trans ((iV (s':=s) (a:=y) rfl).trans ((iV (s':=s) (a:=b) ?_).trans rfl));rw[e5];rfl
 case of=>
  intro o c i ih x h;obtain⟨y,e1,e2⟩:=lG h;obtain⟨fs,e3,e4⟩:=lG e2;refine(iV (ih _ e1)).trans ((iV (s':=s) (a:=fs) ?_).trans ?_)
  ·cases y with
   |l n=>cases e3
   |d y=>cases y with
    |ob e gs=>
     have e3:(if e=c then some gs else none)=some fs:=e3;show (if e=c then M.ret gs else M.no) s=_;split at e3
     ·rename_i h;cases e3;rw[if_pos h];rfl
     ·cases e3
    |_=>cases e3
  ·show M.opt (fs[i]?.map Xv.d) s=_;rw[e4];rfl
 case nil=>intro ds h;cases h;rfl
 case cons=>
  intro a r ih ih2 ds h;obtain⟨y,e1,e2⟩:=lG h;cases y with
  |l n=>cases e2
  |d y=>
   obtain⟨d,e3,e4⟩:=lG e2;cases e3;obtain⟨rs,e5,e6⟩:=lG e4;cases e6;exact(iV (ih _ e1)).trans ((iV (ih2 _ e5)).trans rfl)
theorem tX:∀(xs:Es) (ds:List D),oG aq xs J=some ds->evs aq aj F xs J s=some (.ok (ds.map .d),s)
 |.nil,ds,h=>by cases h;rfl
 |.cons a r,ds,h=>by
  obtain⟨y,e1,e2⟩:=lG h;cases y with
  |l n=>cases e2
  |d y=>
   obtain⟨d,e3,e4⟩:=lG e2;cases e3;obtain⟨rs,e5,e6⟩:=lG e4;cases e6;exact(iV (pU a _ e1)).trans ((iV (tX r _ e5)).trans rfl)
theorem lH:∀(xs:Es) {vs:List Xv},pR aq xs J=some vs->evs aq aj F xs J s=some (.ok vs,s)
 |.nil,vs,h=>by cases h;rfl
 |.cons a r,vs,h=>by
  obtain⟨y,e1,e2⟩:=lG h;obtain⟨ys,e3,e4⟩:=lG e2;cases e4;exact(iV (pU a _ e1)).trans ((iV (lH r e3)).trans rfl)
variable {P:Xv->S->Prop}
theorem W.pv{e:E}{x:Xv}(h:gb aq e J=some x)(k:P x s):W (ev aq aj F e J) s P:=W.eq (pU e _ h) k
theorem Ka2{f:Nat}{xs:Es}{vs:List Xv}(h:pR aq xs J=some vs)(k:W (cg (F f) vs) s P):W (ev aq aj F (.call f xs) J) s P:=Ys (W.eq (lH xs h) k)
theorem Yz{fz:Bool}{p:Pr}{xs:Es}{ds:List D}(h:oG aq xs J=some ds)(k:W (b_ fz (prim p ds)) s P):W (ev aq aj F (.pr fz p xs) J) s P:=Yr (W.eq (tX xs _ h) (W.eq (Aw s ds) k))
theorem Ka1{xs:Es}{vs:List Xv}{P:List Xv->S->Prop}(h:pR aq xs J=some vs)(k:P vs s):W (evs aq aj F xs J) s P:=W.eq (lH xs h) k
end
section
variable {aq:Nat->Nat->Bool}{aj:Bool}{F:Bool->Fn}{J:Vs}{s:S}{Q:Out->S->Prop}{e:E}{r:bU}
theorem Kbd{i:Nat}{x:Xv}(h:gb aq e J=some x)(k:WS (exs aq aj F r (J.set i (some x))) s Q):WS (exs aq aj F (.cons (.asg (.nm i) e) r) J) s Q:=WS.cons (Yu (W.pv h k))
theorem Kbe{x:Xv}(h:gb aq e J=some x)(k:Q (.rt x) s):WS (exs aq aj F (.cons (.ret e) r) J) s Q:=WS.cons (Yv (W.pv h k))
theorem Kbc{b:Bool}{t u:bU}(h:gb aq e J=some (.d (.bl b)))(k:WS (if b=true then exs aq aj F t J else exs aq aj F u J) s λo s'=>match o with|.nx J'=>WS (exs aq aj F r J') s' Q|.rt x=>Q (.rt x) s'|_=>False):WS (exs aq aj F (.cons (.iff e t u) r) J) s Q:=WS.cons (Yw (W.pv h (W.bool k)))
end
section
variable {aq:Nat->Nat->Bool}{aj:Bool}{F:Bool->Fn}{J:Vs}{s:S}{Q:Out->S->Prop}{c:Nat}{fs:List D}
theorem Kbl{c:Nat}{kp:Bool}{xs:Es}(h:W (evs aq true (F true) xs J) s λvs s1=>W (bW vs) s1 λds s2=>Q (.er c (if kp=true then ds else []) J) s2):WS (ex aq true F (.rise c kp xs) J) s Q:=by
 refine WS.xY (m2:=λ_=>none) (WS.ofM (W.bd (h.imp λvs s1 h=>h.imp λds s2 h=>?_)));exact⟨_,s2,rfl,h⟩
theorem Kbq{m:MS}{k:Vs->MS}(h:WS m s λo s'=>match o with|.nx J'=>WS (k J') s' Q|.rt x=>Q (.rt x) s'|_=>False):WS (Mi.cB m k) s Q:=by
 obtain⟨o,s',e,q⟩:=h;unfold WS Mi.cB;rw[e];cases o with
 |nx J'=>exact q
 |rt x=>exact⟨_,_,rfl,q⟩
 |bk _=>exact q.elim
 |ct _=>exact q.elim
 |er _ _ _=>exact q.elim
theorem Kbo{F:Fn}{i:Nat}{x:Xv}(h:Q (.nx (J.set i (some x))) s):WS (store aq aj F (.nm i) x J) s Q:=⟨_,s,rfl,h⟩
theorem Kbp{F:Fn}{is:List Nat}{d:D}(h:qU ((jy d).bind λds=>eZ is (ds.map .d) J) λJ'=>Q (.nx J') s):WS (store aq true F (.tp is) (.d d) J) s Q:=by
 obtain⟨J',e,q⟩:=h;exact WS.xY (m2:=λ_=>none) (WS.ofM (W.bd (W.dat (W.opt e (WS.nx q)))))
end
section
variable {aq:Nat->Nat->Bool}{aj:Bool}{F:Fn}{J:Vs}{s:S}{P:Xv->S->Prop}
theorem W.pD{a:E}{k:Kd}(h:W (ev aq aj F a J) s λx s1=>W (rd x) s1 λd s2=>qU (jZ aq d k) λb=>P (.d (.bl b)) s2):W (ev aq aj F (.pD a k) J) s P:=KaH h
theorem W.wY{p q:Pr}{a b c:E}(h:W (ev aq aj F a J) s λx s1=>W (ev aq aj F b J) s1 λy s2=>W (gw [x,y]) s2 λds s3=>W (b_ true (prim p ds)) s3 λt s4=>W (Mi.bool t) s4 λk s5=>
  W (if k=true then M.bd (ev aq aj F c J) λz=>M.bd (gw [y,z]) λds=>b_ true (prim q ds) else M.ret (.d (.bl false))) s5 P):W (ev aq aj F (.wY p q a b c) J) s P:=KaF h
theorem KaI{c a b:E}(h:W (ev aq aj F c J) s λx s1=>W (Mi.bool x) s1 λk s2=>W (if k=true then ev aq aj F a J else ev aq aj F b J) s2 P):W (ev aq aj F (.ite c a b) J) s P:=W.bd (h.imp λ_ _ h=>W.bd h)
theorem KaQ{a:E}{P:Src×Nat->S->Prop}(h:W (ev aq aj F a J) s λx s1=>W (sS x) s1 P):W (gM aq aj F (.enum a) J) s P:=W.bd h
theorem KaP{xs:List D}{P:Src×Nat->S->Prop}(h:P (.fix (enumFrom 0 xs),(enumFrom 0 xs).length) s):W (sS (.d (.fl xs))) s P:=⟨_,s,rfl,h⟩
theorem KaR{a b:E}{P:Src×Nat->S->Prop}(h:W (ev aq aj F a J) s λx s1=>W (ev aq aj F b J) s1 λy s2=>W (Mi.int x) s2 λi s3=>W (Mi.int y) s3 λj s4=>(eY i&&eY j)=true/\P (.fix (jh i j),(jh i j).length) s4):W (gM aq aj F (.rg a b) J) s P:=by
 refine W.bd (h.imp λx s1 h=>W.bd (h.imp λy s2 h=>W.bd (h.imp λi s3 h=>W.bd (h.imp λj s4 h=>?_))));rw[if_pos h.1];exact W.ret h.2
theorem KaT{a b:E}{P:Src×Nat->S->Prop}(h:W (ev aq aj F a J) s λx s1=>W (ev aq aj F b J) s1 λy s2=>W (nZ x) s2 λxs s3=>W (nZ y) s3 λys s4=>P (.fix (List.zipWith (λp q=>.tup [p,q]) xs ys),(List.zipWith (λ(p q:D)=>D.tup [p,q]) xs ys).length) s4):W (gM aq aj F (.zip a b) J) s P:=
 W.bd (h.imp λx s1 h=>W.bd (h.imp λy s2 h=>W.bd (h.imp λxs s3 h=>W.bd (h.imp λys s4 h=>W.ret h))))
theorem W.iQ{xs:List D}{P:List D->S->Prop}(h:P xs s):W (nZ (.d (.tup xs))) s P:=W.ret h
theorem W.sU{xs:List D}{P:List D->S->Prop}(h:P xs s):W (nZ (.d (.fl xs))) s P:=W.ret h
theorem Kan{P:Bool->S->Prop}(h:P true s):W (lR aq aj F .no J) s P:=W.ret h
theorem Kao{a:E}{P:Bool->S->Prop}(h:W (ev aq aj F a J) s λx s1=>W (Mi.bool x) s1 P):W (lR aq aj F (.yes a) J) s P:=W.bd h
theorem YB(g:D->D)(hc:c.length<=sizeLine)
  (hw:W (gM aq true F it J) s λcn s1=>cn=(.fix c,c.length)/\s1=s)
  (hb:∀x∈c,qU (cV tg x (blk many fr J)) λJ'=>W (ev aq true F elt J') s λy s2=>s2=s/\y=.d (g x))
  (h:W (newL fz (c.map g)) s P):W (ev aq true F (.comp fz elt tg it fr many .no) J) s P:=by
 refine Kaw (c:=c) (λx=>some (g x)) hc hw (λx hx=>?_) ?_
 ·obtain⟨J',e,h1⟩:=hb x hx;refine⟨J',e,W.ret ⟨rfl,?_⟩⟩;rw[if_pos rfl];exact h1.imp λy s2 ⟨a,b⟩=>⟨a,_,b,rfl⟩
 ·rw[show c.filterMap (λx=>some (g x))=c.map g by rw[<-List.filterMap_eq_map];rfl];exact h
theorem qK{α:Type}{f:α->D}{l:List α}{fz:Bool}{elt:E}{tg:List Nat}{it:Wk}{fr:List Nat}{many:Nat}{cond:Eo}(g:α->Option D)(hc:l.length<=sizeLine)
  (hw:W (gM aq true F it J) s λcn s1=>cn=(.fix (l.map f),(l.map f).length)/\s1=s)
  (hb:∀x∈l,qU (cV tg (f x) (blk many fr J)) λJ'=>W (lR aq true F cond J') s λb s1=>s1=s/\(b=true->W (ev aq true F elt J') s λy s2=>s2=s/\∃d,y=.d d/\g x=some d)/\(b=false->g x=none))
  (h:W (newL fz (l.filterMap g)) s P):W (ev aq true F (.comp fz elt tg it fr many cond) J) s P:=by
 change W (_root_.ite (true=true) _ _) s P
 rw[if_pos rfl];refine W.bd (hw.imp λcn s1=>?_);rintro⟨rfl,rfl⟩;refine W.bd ?_;refine W.walk (c:=l.map f) (λi acc s'=>s'=s1/\acc=(l.take i).filterMap g) ⟨rfl,rfl⟩ (λi x acc s' e hI=>?_) (λacc s' hI=>?_)
 ·obtain⟨rfl,rfl⟩:=hI;rw[jo] at e;cases el:l[i]? with
  |none=>rw[el] at e;cases e
  |some y=>
   rw[el] at e;cases e;have hi:i<l.length:=(gD.mp el).1;have ht:l.take (i+1)=l.take i++[y]:=by rw[DX,el];rfl
   have hl:((l.take i).filterMap g).length<sizeLine:=Nat.lt_of_le_of_lt (Du _ _) (by rw[wz];lia);obtain⟨J',e1,h1⟩:=hb y (gF el);refine W.bd (W.opt e1 ?_);refine W.bd (W.qt (h1.imp λb s2=>?_));rintro⟨rfl,h2,h3⟩;rw[ht,Ju];cases b
   ·rw[if_neg J0];refine W.ret ⟨rfl,?_⟩;simp[h3 rfl]
   ·rw[if_pos rfl];refine W.bd (W.qt ((h2 rfl).imp λy s3=>?_));rintro⟨rfl,d,rfl,eg⟩;refine W.bd (W.dat ?_);rw[if_pos hl];refine W.ret ⟨rfl,?_⟩;simp[eg]
 ·obtain⟨rfl,rfl⟩:=hI;rw[cY,BR];exact h
theorem Kax{c:List D}{fz:Bool}{elt:E}{tg:List Nat}{it:Wk}{fr:List Nat}{many:Nat}{cond:Eo}(I:Nat->List D->S->Prop)
  (hw:W (gM aq true F it J) s λcn s1=>cn=(.fix c,c.length)/\I 0 [] s1)
  (hb:∀i x acc s,c[i]?=some x->I i acc s->qU (cV tg x (blk many fr J)) λJ'=>W (lR aq true F cond J') s λb s1=>(b=true->W (ev aq true F elt J') s1 λy s2=>∃d,y=.d d/\acc.length<sizeLine/\I (i+1) (acc++[d]) s2)/\(b=false->I (i+1) acc s1))
  (h:∀acc s,I c.length acc s->W (newL fz acc) s P):W (ev aq true F (.comp fz elt tg it fr many cond) J) s P:=by
 change W (_root_.ite (true=true) _ _) s P
 rw[if_pos rfl];refine W.bd (hw.imp λcn s1=>?_);rintro⟨rfl,h0⟩;refine W.bd ?_;refine W.walk (c:=c) I h0 (λi x acc s' e hI=>?_) (λacc s' hI=>h acc s' hI);obtain⟨J',e1,h1⟩:=hb i x acc s' e hI;refine W.bd (W.opt e1 ?_);refine W.bd (W.qt (h1.imp λb s2=>?_));rintro⟨h2,h3⟩;cases b
 ·rw[if_neg J0];exact W.ret (h3 rfl)
 ·rw[if_pos rfl];refine W.bd (W.qt ((h2 rfl).imp λy s3=>?_));rintro⟨d,rfl,hl,hi⟩;refine W.bd (W.dat ?_);rw[if_pos hl];exact W.ret hi
theorem W.push{o a:E}(h:W (ev aq aj F o J) s λx s1=>W (Mi.cM x) s1 λ_ s2=>W (ev aq aj F a J) s2 λy s3=>W (Mi.dat y) s3 λd s4=>W (Mi.cM x) s4 λnx s5=>nx.2.length<sizeLine/\P (.d .non) (s5.set nx.1 (.lst (nx.2++[d])))):W (ev aq aj F (.push o a) J) s P:=by
 refine W.bd (h.imp λx s1 h=>W.bd (h.imp λ_ s2 h=>W.bd (h.imp λy s3 h=>W.bd (h.imp λd s4 h=>W.bd (h.imp λnx s5 h=>?_)))));rw[if_pos h.1];exact W.bd (RV (W.ret h.2))
end
theorem YC{s:S}{o:SO}:(s++[o])[s.length]?=some o:=by simp
theorem Y{P R:Prop}(k:R)(h:Bx R->P:=by
 intro k
 repeat (first|with_reducible first
   |refine Kbd (by with_unfolding_all rfl) ?_|refine Kbe (by with_unfolding_all rfl) ?_|refine Kbc (by with_unfolding_all rfl) ?_|refine W.pv (by with_unfolding_all rfl) ?_|refine Yz (by with_unfolding_all rfl) ?_|refine Ka2 (by with_unfolding_all rfl) ?_|refine Ka1 (by with_unfolding_all rfl) ?_
   |refine WS.cons ?_|refine WS.nil ?_|refine Kbq ?_|refine Kbo ?_|refine Kbp ?_|refine Yu ?_|refine Yv ?_|refine Yw ?_|refine Kbn ?_|refine Kbm ?_|refine Kbj ?_|refine Kbf ?_|refine Kbg ?_|refine Kbl ?_|refine WS.xY ?_|refine WS.RZ ?_|refine WS.RW (by with_unfolding_all rfl) ?_|refine WS.RX (by with_unfolding_all rfl) ?_|refine qU.mk (by with_unfolding_all rfl) ?_
   |refine Yt ?_|refine Kam ?_|refine W.eC ?_|refine W.eV (by with_unfolding_all rfl) ?_|refine Yr ?_|refine Ys ?_|refine KaO ?_|refine KaJ ?_|refine KaK ?_|refine KaD ?_|refine KaL ?_|refine KaI ?_|refine W.pD ?_|refine W.wY ?_|refine W.push ?_|refine KaN ?_|refine KaG ?_|refine KaW ?_|refine KaX ?_|refine KaS ?_|refine KaR ?_|refine KaT ?_|refine KaQ ?_|refine Kan ?_|refine Kao ?_|refine W.xY ?_|refine W.RZ ?_|refine W.RW (by with_unfolding_all rfl) ?_|refine W.RX (by with_unfolding_all rfl) ?_
   |refine Ka6 ?_|refine Ka7 ?_|refine Ka4 ?_|refine Yp (by with_unfolding_all rfl) ?_|refine Yp YC ?_|refine KaA ?_|refine KaB ?_|refine W.dat ?_|refine W.bool ?_|refine W.int ?_|refine W.cM (by with_unfolding_all rfl) ?_|refine W.cM YC ?_|refine RV ?_|refine Ka9 ?_|refine KaP ?_|refine W.iQ ?_|refine W.sU ?_|refine Ka8 ?_|refine KaV ?_|refine KaU ?_
   |refine gC (by first|(with_unfolding_all rfl)|exact zl0 (by first|(left;constructor<;>lia)|(right;constructor<;>lia))|exact zmh gV|exact zjA gV|exact zg6 gV|exact zlX J0) ?_|refine Li (by with_unfolding_all rfl) ?_
   |refine W.ret ?_|refine W.bd ?_
   | (dsimp only))
 all_goals exact k.o):P:=h ⟨k⟩
def lx(p q:Int×Int):Prop:=p.1<q.1\/p.1=q.1/\p.2<q.2
noncomputable def bJ(n:Int)(ps:List (Int×Int)):D:=.tup [.int n,.tup (ps.map iU)]
structure Web(n:Int)(ps:List (Int×Int)):Prop where
 h1:1<=n
 h8:n<=8
 tie:∀p∈ps,0<=p.1/\p.1<p.2/\p.2<n
 inc:ps.Pairwise lx
 len:(ps.length:Int)<=7*n
theorem zhL(h:∀x∈xs,x=.bl true):dX xs=some (List.replicate xs.length true):=by
 induction xs with
 |nil=>rfl
 |cons x r ih=>
  rw[h x Qi];show Option.map _ (dX r)=_;rw[ih λy hy=>h y (by simp[hy])];rfl
theorem R5(h:∀x∈xs,x=.bl true):prim .all [.fl xs]=some (.dat (.bl true)):=by
 show Option.map _ (dX xs)=_;rw[zhL h];simp
theorem zlT(h:lx p q):ltI [p.1,p.2] [q.1,q.2]=true:=by
 simp only[ltI];rcases h with h|⟨h,h2⟩
 ·rw[if_neg gV];simp[h]
 ·rw[if_pos h,if_neg gV];simp[h2]
theorem R6(xs:List D):cut xs (some 1) none=xs.drop 1:=by
 unfold cut;rw[HT.rM];rw[show (some 1:Option Int)=some ((1:Nat):Int) from rfl,HT.u9];cases xs with
 |nil=>rfl
 |cons x r=>simp
theorem YD:∀{ps:List (Int×Int)},ps.Pairwise lx->∀x∈List.zipWith (λ(p q:D)=>D.tup [p,q]) (ps.map iU) ((ps.map iU).drop 1),∃p q,x=.tup [iU p,iU q]/\lx p q
 |[],_,x,hx=>by simp at hx
 |[p],_,x,hx=>by simp at hx
 |p::q::r,h,x,hx=>by
  rw[show (List.map iU (p::q::r)).drop 1=List.map iU (q::r) from rfl] at hx;have e:List.zipWith (λ(p q:D)=>D.tup [p,q]) (List.map iU (p::q::r)) (List.map iU (q::r))=.tup [iU p,iU q]::List.zipWith (λ(p q:D)=>D.tup [p,q]) (List.map iU (q::r)) (List.map iU r):=rfl;rw[e,gG] at hx;rcases hx with rfl|hx
  ·exact⟨p,q,rfl,(BK.mp h).1 q Qi⟩
  ·exact YD (ps:=q::r) (BK.mp h).2 x hx
theorem zfx(h:xq xs=some ys):prim .sorted [.fl xs]=some (.nw ys):=by
 show Option.map Rz.nw (xq xs)=_;rw[h];rfl
theorem zgt{es:List Int}(sE:es.length<64)(h:es.Pairwise (·<·)):xq (es.map D.int)=some (es.map D.int):=by
 refine zg5 ?_ (by rw[cY];exact sE) λk hk=>?_
 ·rw[Bool.or_eq_true]
  left
  rw[List.all_map,gY];intro x _;rfl
 ·rw[cY] at hk;unfold w6;rw[jo,jo,i_ hk,i_ (show k<es.length by lia)];have:=List.pairwise_iff_getElem.mp h k (k+1) gV hk gV;simp only[Option.map_some]
  congr 1
  apply oN
  lia
noncomputable def endOf(i:Int)(p:Int×Int):Option Int:=if p.1=i then some p.2 else if p.2=i then some p.1 else none
noncomputable def aZ(i:Int)(ps:List (Int×Int)):List Int:=ps.filterMap (endOf i)
theorem R7(h:Web n ps)(i:Int):(aZ i ps).Pairwise (·<·):=by
 have ht:=h.tie;have hi:=h.inc;clear h;unfold aZ
 induction ps with
 |nil=>simp
 |cons p r ih=>
  obtain⟨hp,hr⟩:=BK.mp hi;have ih:=ih (λq hq=>ht q (by simp[hq])) hr;rw[yt]
  split
  ·exact ih
  ·rename_i b eb;refine BK.mpr ⟨λc hc=>?_,ih⟩;obtain⟨q,hq,eq⟩:=Bv.mp hc;have l:=hp q hq;have tp:=ht p Qi;have tq:=ht q (by simp[hq]);unfold endOf at eb eq;unfold lx at l;split at eb
   ·cases eb;split at eq
    ·cases eq;lia
    ·split at eq
     ·cases eq;lia
     ·cases eq
   ·split at eb
    ·cases eb;split at eq
     ·cases eq;lia
     ·split at eq
      ·cases eq;lia
      ·cases eq
    ·cases eb
theorem YF(h:Web n ps)(he:e∈aZ i ps):0<=e/\e<n:=by
 obtain⟨q,hq,eq⟩:=Bv.mp he;have tq:=h.tie q hq;unfold endOf at eq;split at eq
 ·cases eq;lia
 ·split at eq
  ·cases eq;lia
  ·cases eq
theorem R8:∀{es:List Int} {a n:Int},es.Pairwise (·<·)->(∀e∈es,a<=e/\e<n)->a<=n->(es.length:Int)<=n-a
 |[],a,n,_,_,h=>by simp;lia
 |e::r,a,n,h,hb,ha=>by
  obtain⟨h1,h2⟩:=BK.mp h;have he:=hb e Qi;have:=R8 (es:=r) (a:=e+1) (n:=n) h2 (λx hx=>⟨by have:=h1 x hx;lia,(hb x (by simp[hx])).2⟩) gV;rw[dB]
  lia
theorem YG{a b:Int}{i:Nat}{x:D}(h:(jh a b)[i]?=some x):x=.int (a+i)/\a+i<b:=by
 unfold jh at h;rw[jo] at h;cases e:(List.range (b-a).toNat)[i]? with
 |none=>rw[e] at h;cases h
 |some j=>
  rw[e] at h;cases h;obtain⟨hl,rfl⟩:=gD.mp e;rw[uK] at hl;rw[List.getElem_range];exact⟨rfl,by lia⟩
theorem YH:(jh a b).length=(b-a).toNat:=by unfold jh;simp
theorem pW(h1 : -1000<=a)(h2:a<=1000):eY a=true:=by
 unfold eY;rw[dZ gV,dZ gV];rfl
theorem R9(hl:locs xs=[s.length])(h:W (F (cU 0 xs)) [o] λv s1=>∃d o',v=.d d/\s1=[o']/\P (.d d) (s++[o'])):W (cg F xs) (s++[o]) P:=by
 refine Lj (n:=s.length) (o:=o) hl Qi (h.imp λv s1=>?_);rintro⟨d,o',rfl,rfl,hp⟩;exact⟨d,o',rfl,rfl,by rw[show (s++[o]).set s.length o'=s++[o'] by simp];exact hp⟩
theorem zhW{ns:List Int}{lo hi:Option Int}{x:D}(h:x∈cut (ns.map D.int) lo hi):∃n,x=.int n:=by
 have:=List.mem_of_mem_drop (List.mem_of_mem_take h);obtain⟨n,_,rfl⟩:=gZ.mp this;exact⟨n,rfl⟩
theorem zhK{ns:List Int}{lo hi:Option Int}:(cut (ns.map D.int) lo hi).length<=ns.length:=by
 unfold cut;rw[wz,List.length_drop,cY]
 lia
theorem YJ{α:Type}[DecidableEq α]:∀{l m:List α},l.Nodup->(∀x∈l,x∈m)->l.length<=m.length
 |[],m,_,_=>uP _
 |x::r,m,h,hm=>by
  obtain⟨h1,h2⟩:=uM.mp h;have hx:x∈m:=hm x Qi;have:=YJ (l:=r) (m:=m.erase x) h2 λy hy=>(List.mem_erase_of_ne (λe=>by subst e;exact h1 hy)).mpr (hm y (by simp[hy]));rw[List.length_erase_of_mem hx] at this;have:=List.length_pos_of_mem hx;rw[dB]
  lia
noncomputable def at'(fs:List Int)(j:Int):Int:=fs.getD j.toNat 0
theorem Lq{fs:List Int}{j:Int}(h0:0<=j)(h:j<fs.length):∃(i:Nat) (hi:i<fs.length),j=i/\at' fs j=fs[i]:=by
 obtain⟨i,rfl⟩:=MN h0;have hi:i<fs.length:=by lia
 refine⟨i,hi,rfl,?_⟩;unfold at';rw[ud,nF,i_ hi];rfl
theorem Ax{fs:List Int}{j:Int}(h0:0<=j)(h:j<fs.length):at' fs j∈fs:=by
 obtain⟨i,hi,_,e⟩:=Lq h0 h;rw[e];exact List.getElem_mem _
theorem znm{fs:List Int}{j:Int}(h0:0<=j)(h:j<fs.length):(fs.map D.int)[j.toNat]?=some (.int (at' fs j)):=by
 obtain⟨i,hi,rfl,e⟩:=Lq h0 h;rw[e,ud,jo,i_ hi];rfl
theorem Ay{fs gs:List Int}{j:Int}(h0:0<=j)(h:j<fs.length):at' (fs++gs) j=at' fs j:=by
 obtain⟨i,hi,rfl,e⟩:=Lq h0 h;unfold at';rw[ud,nF,nF,mZ hi]
theorem YK:at' (fs++[x]) fs.length=x:=by
 unfold at';rw[ud,nF,nA (cL _)];simp
theorem Dl(h0:0<=j)(h:xs[j.toNat]?=some x):prim .ix [.fl xs,.int j]=some (.dat x):=by
 obtain⟨k,rfl⟩:=MN h0;exact Lp h
theorem Az(h0:0<=j)(h:j<fs.length):prim .ix [.tup (fs.map .int),.int j]=some (.dat (.int (at' fs j))):=Dl h0 (znm h0 h)
noncomputable def eO(k a b:Int):Int:=if k-(if a-b<0 then -(a-b) else a-b)<(if a-b<0 then -(a-b) else a-b) then k-(if a-b<0 then -(a-b) else a-b) else (if a-b<0 then -(a-b) else a-b)
theorem yc(hd:1<=d):d<=eO k a b↔(d<=a-b/\a-b<=k-d)\/(d<=b-a/\b-a<=k-d):=by
 unfold eO
 split<;>split<;>lia
structure cR(n k d:Int)(ps:List (Int×Int))(hs:List Int):Prop where
 len:(hs.length:Int)=n
 lo:∀x∈hs,0<=x/\x<k
 fit:∀p∈ps,d<=eO k (at' hs p.1) (at' hs p.2)
noncomputable def aJ(k d:Int):D:=.tup [.int k,.int d]
noncomputable def A_(k d:Int)(ps:List (Int×Int))(hs:List Int):Bool:=ps.all λp=>decide (d<=eO k (at' hs p.1) (at' hs p.2))
theorem mV:A_ k d ps hs=true↔∀p∈ps,d<=eO k (at' hs p.1) (at' hs p.2):=by
 unfold A_;rw[gY];exact⟨λh p hp=>fH (h p hp),λh p hp=>dZ (h p hp)⟩
theorem vV{α:Type}{l:List α}{f:α->D}:l.filterMap (λx=>some (f x))=l.map f:=by
 rw[<-List.filterMap_eq_map];rfl
theorem Kbb(I:Nat->Vs->S->Prop)(h0:I 0 J s)(hb:∀i x J s,c[i]?=some x->I i J s->WS (b x J) s λo s'=>(∃J',o=.nx J'/\I (i+1) J' s')\/(∃x,o=.rt x/\Q (.rt x) s'))
  (he:∀J s,I c.length J s->Q (.nx J) s):WS (dw (.fix c) b (c.length+1) 0 J) s Q:=by
 have key:∀n i J s,i+n=c.length->I i J s->WS (dw (.fix c) b (n+1) i J) s Q:=by
  intro n
  induction n with
  |zero=>
   intro i J s hi hI;have e:c[i]?=none:=by rw[qN];lia
   have:i=c.length:=by lia
   subst this;refine⟨_,s,?_,he J s hI⟩;unfold dw;simp only[Src.at,e]
  |succ n ih=>
   intro i J s hi hI;have fX:i<c.length:=by lia
   have e:c[i]?=some c[i]:=i_ fX;obtain⟨o,s',eb,hr⟩:=hb i c[i] J s e hI;rcases hr with ⟨J',rfl,Ir⟩|⟨x,rfl,hq⟩
   ·obtain⟨o2,s2,e2,q⟩:=ih (i+1) J' s' gV Ir;refine⟨o2,s2,?_,q⟩;unfold dw;simp only[Src.at,e,eb];exact e2
   ·refine⟨_,s',?_,hq⟩;unfold dw;simp only[Src.at,e,eb]
 exact key c.length 0 J s gV h0
theorem tY{hs:List Int}{f:Int->Int}{j:Int}(h0:0<=j)(h:j<hs.length):at' (hs.map f) j=f (at' hs j):=by
 obtain⟨i,hi,rfl,e⟩:=Lq h0 h;rw[e];unfold at';rw[ud,nF,jo,i_ hi];rfl
theorem zjg(h:xs.length+ys.length<=sizeLine):prim .add [.tup xs,.tup ys]=some (.dat (.tup (xs++ys))):=by
 show (if _ then _ else _)=_;rw[if_pos h]
theorem zeV{α:Type}(l:List α)(f:α->Bool):dX (l.map λx=>D.bl (f x))=some (l.map f):=by
 induction l with
 |nil=>rfl
 |cons x r ih=>
  show Option.map _ (dX (r.map λx=>D.bl (f x)))=_;rw[ih];rfl
theorem zkF{α:Type}{l:List α}{f:α->Bool}:prim .all [.fl (l.map λx=>D.bl (f x))]=some (.dat (.bl (l.all f))):=by
 show Option.map _ (dX (l.map λx=>D.bl (f x)))=_;rw[zeV];show some (Rz.dat (.bl ((l.map f).all id)))=_;rw[List.all_map];rfl
end Mi
namespace Mi
open PySem PySem.W PyProof.Rows L2
structure Ord(n:Nat)(lt:Nat->Nat->Option Bool)(le:Nat->Nat->Prop):Prop where
 ans:∀i j,i<n->j<n->(lt i j=some true/\le i j)\/(lt i j=some false/\le j i)
 tr:∀i j k,i<n->j<n->k<n->le i j->le j k->le i k
end Mi
namespace Mi
open PySem PySem.Spec PyProof.Rows L2 PySem.W
section
variable {X:Cx}{cA:Cl}{aq:Nat->Nat->Bool}{aj:Bool}{F:Fn}{EX:XS}{a b:Expr}{A B:E}{pos p:Pos}{x:Str}{e:Expr}{es:List Expr}{Xs:Es}
noncomputable def tZ(sc:Scope)(x:Str):Bool:=match sc.names.lookup x with
 |some k=>Ad k
 |none=>false
noncomputable def Lr(sc:Scope)(x:Str):Bool:=match sc.names.lookup x with
 |some .globalImplicit=>true
 |_=>false
theorem R_{sc:Scope}{x:Str}(h:tZ sc x=true):∃k,sc.names.lookup x=some k/\Ad k=true:=by
 unfold tZ at h;split at h
 ·rename_i k e;exact⟨k,e,h⟩
 ·cases h
theorem YL{sc:Scope}{x:Str}(h:Lr sc x=true):sc.names.lookup x=some .globalImplicit:=by
 unfold Lr at h;split at h
 ·assumption
 ·cases h
theorem gk(h:Lr X.env.scope x=true:=by kernel_rfl):JK X x .globalImplicit:=⟨YL h⟩
theorem jl(h:(match X.env.scope.names.lookup x with|some .local=>true|_=>false)=true:=by kernel_rfl):JK X x .local:=by
 split at h
 ·exact⟨by assumption⟩
 ·cases h
theorem jc(h:(match X.env.scope.names.lookup x with|some .cell=>true|_=>false)=true:=by kernel_rfl):JK X x .cell:=by
 split at h
 ·exact⟨by assumption⟩
 ·cases h
theorem vW{scope:Scope}{cl:List (Str×Addr)}{N:List Str}{Cc:Addr}{s3:Shared}{H3:Hp}{fp:List Addr}{ao:List (Addr×Obj)}(h:Lr scope x=true:=by kernel_rfl):JK (X.blk scope cl N Cc s3 H3 fp ao) x .globalImplicit:=X4 (YL h) rfl
theorem gv(i:Nat)(h:(decide (X.N[i]?=some x)&&tZ X.env.scope x&&okN x)=true:=by kernel_rfl):JE X cA aq aj F EX (.Name x pos) (.v i):=by
 rw[gq,gq] at h;obtain⟨k,e,hv⟩:=R_ h.1.2;exact X5 i (fH h.1.1) ⟨e⟩ hv h.2
theorem cH(i:Nat){scope:Scope}{cl:List (Str×Addr)}{N:List Str}{Cc:Addr}{s3:Shared}{H3:Hp}{fp:List Addr}{ao:List (Addr×Obj)}(h:(decide (N[i]?=some x)&&tZ scope x&&okN x)=true:=by kernel_rfl):JE (X.blk scope cl N Cc s3 H3 fp ao) cA aq aj F EX (.Name x pos) (.v i):=by
 rw[gq,gq] at h;obtain⟨k,e,hv⟩:=R_ h.1.2;by_cases hk:k=.free
 ·subst hk;exact znh i (fH h.1.1) e h.2
 ·exact X5 i (fH h.1.1) (X4 e (by cases k<;>first|rfl|exact absurd rfl hk)) hv h.2
theorem gc{f k:Nat}{cm:Bool}{st:Stmt}{ps:List Str}(Fo:bY X.prog X.w X.K X.mg X.base (fK X.prog X.w) cm k (gP X.K x) (fdOf X.K x st) ps (ni X.K cA (F f)))(D:D3 X.K X.mg x st ps)(hr:bB k X.A)(R:JR X EX)(g:JK X x .globalImplicit)(ha:JA X cA aq aj F EX (e::es) Xs)(h:okN x=true:=by kernel_rfl)
  (jd:cm=true->X.aj=true:=by first|exact λ_=>rfl|exact λz=>nomatch z) (he:aF e=true:=by rfl) (cP:es.all aF=true:=by rfl):JE X cA aq aj F EX (.Call (.Name x p) (e::es) [] pos) (.call f Xs):=
 zkm f Fo jd hr D.m D.f.kp D.b R g ha h he cP
theorem nd(h:decide X.N.Nodup=true:=by kernel_rfl):X.N.Nodup:=fH h
end
theorem fJ{P:Program}{w:World}{K:W.Frag}{mg:Str->Option Value}{base:Heap}{cA:Cl}{aq:Nat->Nat->Bool}{T:Nat->Option Df}{x:Str}{st:Stmt}{ps:List Str}{k n:Nat}{cm:Bool}{df:Df}(D:D3 K mg x st ps)(N:List Str)(hT:T n=some df)
  (hb:∀(cdv:Value) (A:Around) (outer:List Env) (s:Shared) (H:Hp) (E:XK),bB k (A.deeper (envOfC x (au st) s.heap.objs.size (gP K x) cdv))->
   JB (fD (fK P w) P w K mg base N x (au st) (gP K x) cdv A outer s H E cm) cA aq cm (λc=>call aq T k c) (λ_ C dx H'=>E C dx H') (aH st) df.body) (S:cQ N ps (au st):=by exact⟨rfl,rfl,rfl,dk,rfl,dk,dk⟩) (hp:df.gO=ps.length:=by rfl) (hm:df.many=N.length:=by rfl) :
  bY P w K mg base (fK P w) cm (k+1) (gP K x) (fdOf K x st) ps (ni K cA (call aq T (k+1) cm n)):=Ye D.f S hT hp hm hb
end Mi
namespace Mi
open PySem PySem.Spec PyProof.Rows L2
section
variable {K:W.Frag}{cA:Cl}{U:Ph}{H:Hp}{s:S}
theorem YM{β:Type}{c:Nat}{x:Xv}{v:V}{k:List D->M β}{P:β->S->Ph->Hp->Prop}{Ee:Nat->List D->S->Ph->Hp->Prop}(r:aW K cA U H x v)(h:Run K cA (M.bd (qx c x) k) U H s P Ee) :
  ∃fs ad dx vs,v=.ref ad/\H ad=some (.ins (cA.b c) dx ((cA.g c).zip vs))/\aC K cA U H fs vs/\Run K cA (k fs) U H s P Ee:=by
 cases r with
 |l _=>exact h.elim
 |d r=>cases r with
  |@ob ad e fs vs q r=>
   have h2:Run K cA (M.bd (if e=c then M.ret fs else M.no) k) U H s P Ee:=h;clear h;by_cases z:e=c
   ·rw[if_pos z] at h2;subst z;obtain⟨_,dx,q1,_⟩:=q;exact⟨fs,ad,dx,vs,rfl,q1,r,h2⟩
   ·rw[if_neg z] at h2;exact h2.elim
  |_=>exact h.elim
theorem Run.qt'{α:Type}{m:M α}{P:α->S->Ph->Hp->Prop}{Ee Ee':Nat->List D->S->Ph->Hp->Prop}(h:Run K cA (M.qt m) U H s P Ee):Run K cA m U H s P Ee':=by
 unfold Run M.qt at *;cases e:m s with
 |none=>rw[e] at h;exact h
 |some r=>
  obtain⟨r,s1⟩:=r;rw[e] at h;cases r with
  |ok a=>exact h
  |er c f=>exact h.elim
theorem YQ:∀{ns:List Str} {vs:List V} {m:Str},m∉ns->(ns.zip vs).lookup m=none
 |[],vs,m,_=>by simp
 |n::ns,[],m,_=>by simp
 |n::ns,v::vs,m,h=>by
  rw[uI,nG,show (m==n)=false from Br.mpr λe=>h (by simp[e])];exact YQ λz=>h (iI _ z)
end
structure Ow(K:W.Frag)(cA:Cl)(c:Nat):Prop where
 cl:Cls K (cA.b c)
 nf:∀f∈cA.g c,fW K (cA.b c) f
 nd:(cA.g c).Nodup
section
variable {X:Cx}{cA:Cl}{aq:Nat->Nat->Bool}{aj:Bool}{F:Fn}{EX:XS}{a e:Expr}{es:List Expr}{A:E}{Xs:Es}{pos apos p:Pos}{x:Str}
theorem Sg{c i:Nat}(o:Ow X.K cA c)(ha:JE X cA aq aj F EX a A)(hi:((cA.g c)[i]?==some x)=true:=by kernel_rfl)(hb:attributeBase a x X.env (eval a X.env)=eval a X.env:=by rfl):JE X cA aq aj F EX (.Attribute a x pos) (.of A c i):=⟨PE.weak (zke ha.o hb) λZ H Q hh=>un hh λU J s hL hS h=>by
 refine bI hL hS h λy H1 U1 d1 s1 x1 hL1 aG r1 h1=>?_;obtain⟨fs,ad,dx,vs,rfl,q1,q2,h2⟩:=YM r1 h1;have hi:(cA.g c)[i]?=some x:=m8.mp hi;cases ef:fs[i]? with
 |none=>rw[ef] at h2;exact h2.elim
 |some d=>
  rw[ef] at h2;obtain⟨v,e1,rv⟩:=q2.get ef;exact⟨ad,_,dx,_,v,rfl,q1,o.cl,o.nf x (gF hi),zeJ o.nd hi e1,h2.bR aG v (.d rv)⟩⟩
theorem YS:Passes (fK X.prog X.w) X λ_ _ _=>False:=λao Z H s e s' I h=>by
 obtain⟨_,_,_,_,_,_,_,_,_,_,z⟩:=h;exact z.elim
structure Mt(K:W.Frag)(C:Addr)(m q:Str)(st:Stmt)(ps:List Str)(f:Addr)(fd:FuncData):Prop where
 fn:nq K m q st f fd
 mt:Meth K C m f
 bd:Binds K fd ps []
theorem znj{c f k:Nat}{cm:Bool}{m q:Str}{st:Stmt}{ps:List Str}{fa:Addr}{fd:FuncData}{pl:Sem Bool}(o:Ow X.K cA c)(D:Mt X.K (cA.b c) m q st ps fa fd)(Fo:bY X.prog X.w X.K X.mg X.base (fK X.prog X.w) cm k fa fd ps (ni X.K cA (F f)))(hr:bB k X.A)(ha:JE X cA aq aj F EX a A)(hb:JA X cA aq aj F EX (e::es) Xs)
  (hm:decide (m∉cA.g c)=true:=by kernel_rfl) (jd:cm=true->X.aj=true:=by first|exact λ_=>rfl|exact λz=>nomatch z) (he:aF e=true:=by rfl) (cP:es.all aF=true:=by rfl)
  (ht:eval (.Call (.Attribute a m apos) (e::es) [] pos) X.env=(do
   let ov <-eval a X.env
   standAt apos.atName
   let (f,first) <-holding [ov] (getMethod ov m pl)
   callWith pos f first (backTo pos (starEach (e::es) X.env)) (backToKw pos (keywordEach [] X.env))):=by rfl):JE X cA aq aj F EX (.Call (.Attribute a m apos) (e::es) [] pos) (.cm c f A Xs):=⟨PE.weak (ziC (pl:=pl) (mC:=[]) ha.o o.cl D.mt Fo jd hr D.bd .nil YS hb.o (aX he) (bf cP) ht) λZ H Q hh=>un hh λU J s hL hS h=>by
 refine bI hL hS h λy H1 U1 d1 s1 x1 hL1 aG r1 h1=>?_;obtain⟨fs,ad,dx,vs,rfl,q1,q2,h2⟩:=YM r1 h1;refine⟨ad,dx,_,rfl,q1,YQ (fH hm),oh hL1 aG h2 λus H2 U2 ds s2 x2 hL2 aV r2 h3=>?_⟩;rw[ug];obtain⟨U0,s0,a1,a2,a3⟩:=Xr (EE:=λ_ _ _ _=>False) aV (.cons (r1.mono x2 aG.lz) r2) (λ_ _ _ _ _ _ z=>z) (h3.qt');refine⟨U0,_,s0,a1,a2,?_⟩;unfold Run at a3 ⊢;split at a3
 ·exact a3
 ·exact λU' H' x r=>(a3 U' H' x r).elim
 ·exact a3⟩
end
noncomputable def Iz(K:W.Frag)(cA:Cl)(c:Nat)(m:List Xv->M Xv):Sp:=λvs H Q _=>∃x dx us U H0 xs s,vs=.ref x::us/\H0 x=none/\H0 dx=none/\dx≠x/\H=upd (upd H0 dx (.own x)) x (.ins (cA.b c) dx [])/\aQ K cA U H0 xs us/\aD K cA U H0 s /\
 Run K cA (m (.d .any::xs)) U H0 s (λr _ U' H'=>∀ds ws,r=.d (.tup ds)->aC K cA U' H' ds ws->dY U' H' x (.ins (cA.b c) dx ((cA.g c).zip ws))->(cA.g c).length=ws.length->Q .non H') (λ_ _ _ _ _=>False)
section
variable {K:W.Frag}{cA:Cl}{U:Ph}{H:Hp}{s:S}
theorem zgo{xs:List Xv}{vs:List V}(h:locs xs=[])(r:aQ K cA U H xs vs)(l:List Addr):aQ K cA ⟨U.z,l⟩ H xs vs:=by
 induction r with
 |nil=>exact .nil
 |cons a r ih=>cases a with
  |d a=>exact .cons (.d (Rep.zl a l)) (ih h)
  |l a=>cases h
theorem Ext.made{x dx:Addr}{C:Addr}(hx:H x=none)(hd:H dx=none)(hn:dx≠x):Ext U H (U.mark x) (upd (upd H dx (.own x)) x (.ins C dx [])):=by
 have g:bH H (upd (upd H dx (.own x)) x (.ins C dx [])):=(bH.new hd).trans (bH.new (by rw[cX hn.symm];exact hx));exact⟨⟨[],by simp[Ph.mark],by simp⟩,λa z=>.inl z,λa z=>z.imp id λe=>by rw[e];exact hx,λa o h _=>g a o h,λa o h=>⟨o,g a o h⟩⟩
theorem aD.made{x dx:Addr}{C:Addr}(hS:aD K cA U H s)(hx:H x=none)(hd:H dx=none)(hn:dx≠x):aD K cA (U.mark x) (upd (upd H dx (.own x)) x (.ins C dx [])) s:=by
 have xt:=Ext.made (U:=U) (C:=C) hx hd hn;refine⟨hS.len,λn o a e1 e2=>(hS.obj n o a e1 e2).map (λu q=>?_) λ_ _ r=>r.mono xt hS.lz,hS.uniq,λa ha=>.inl (hS.lz a ha),λa z=>?_⟩
 ·have n1:a≠x:=λy=>by rw[y,hx] at q;cases q
  have n2:a≠dx:=λy=>by rw[y,hd] at q;cases q
  rw[cX n1,cX n2];exact q
 ·rcases z with z|z
  ·obtain⟨o,e⟩:=hS.zt a z;exact xt.stay a o e
  ·subst z;exact⟨_,jH⟩
end
section
variable {X:Cx}{cA:Cl}{aq:Nat->Nat->Bool}{aj:Bool}{F:Fn}{EX:XS}{e:Expr}{es:List Expr}{Xs:Es}{pos p:Pos}{x:Str}
theorem znn{c f k:Nat}{cm:Bool}{ps:List Str}{fa:Addr}{fd:FuncData}(M:Mk X.K (cA.b c) fa)(Fo:bY X.prog X.w X.K X.mg X.base (fK X.prog X.w) cm k fa fd ps (Iz X.K cA c (F f)))(hr:∀us,bB k (X.A.under (.builtin "type.__call__" ⟨.ref (cA.b c)::us,[]⟩)))(hb:Binds X.K fd ps [])(hm:X.mg x=some (.ref (cA.b c)))(hg:JK X x .globalImplicit)
  (ha:JA X cA aq aj F EX (e::es) Xs) (h:okN x=true:=by kernel_rfl) (jd:cm=true->X.aj=true:=by first|exact λ_=>rfl|exact λz=>nomatch z) (he:aF e=true:=by rfl) (cP:es.all aF=true:=by rfl):JE X cA aq aj F EX (.Call (.Name x p) (e::es) [] pos) (.mk c f Xs):=⟨PE.weak (zik (mC:=[]) M Fo jd hr hg.o hm hb .nil YS ha.o (tK h).1 (aX he) (bf cP)) λZ H Q hh=>un hh λU J s hL hS h=>
 oh hL hS h λus H1 U1 ds s1 x1 hL1 aG r1 h1 x dx hx hd hn=>by
  rw[ug];unfold Run QX at h1;by_cases hl:locs ds=[]
  ·simp only[if_pos hl] at h1;refine⟨x,dx,us,⟨U1.z,[]⟩,H1,ds,[],rfl,hx,hd,hn,rfl,zgo hl r1 [],⟨rfl,(λn o a e=>by simp at e),BZ,(λa ha=>by cases ha),aG.zt⟩,?_⟩;unfold Run;cases e:F f (.d .any::ds) [] with
   |none=>simp only[e] at h1
   |some r=>
    obtain⟨r,s2⟩:=r;simp only[e] at h1;cases r with
    |er c f=>exact h1.elim
    |ok r=>
     intro U' H' xt aV ts ws er rs kp hlen;subst er;have nx:¬U1.z x:=aG.nz hx;have ne:∀a o,H1 a=some o->a≠x:=λa o q y=>by rw[y,hx] at q;cases q
     have YT:Ext U1 H1 ⟨λa=>U'.z a/\a≠x,U1.l⟩ H':=by
      refine⟨⟨[],by simp,by simp⟩,λa z=>⟨xt.qz a z,λy=>nx (y▸z)⟩,λa z=>xt.jT a z.1,λa o q _=>xt.frame a o q Qi,xt.stay⟩
     refine⟨rfl,h1 _ H' YT ⟨aG.len,λn o a e1 e2=>(aG.obj n o a e1 e2).map (λu q=>xt.frame a u q Qi) λ_ _ r=>r.mono YT aG.lz,aG.uniq,λa ha=>⟨xt.qz a (aG.lz a ha),λy=>nx (y▸aG.lz a ha)⟩,λa z=>aV.zt a z.1⟩ _ (.d (.ob ⟨λz=>z.2 rfl,dx,kp.at_,hlen⟩ (rs.jC (U':=⟨λa=>U'.z a/\a≠x,U1.l⟩) λ_ z=>z.1)))⟩
  ·simp only[if_neg hl] at h1⟩
end
structure vX(X:Cx)(cA:Cl)(aq:Nat->Nat->Bool)(aj:Bool)(F:Fn)(EX:XS)(c:Nat)(body:List Stmt)(is:Es)(ns:List Str):Prop where
 o:oY X body λD Z H=>∃U0 H0 U J s x dx done vs ys,Ext U0 H0 U H/\aP X.K cA U H Z J/\aD X.K cA U H s/\H0 x=none/\Z[0]?=some (some (.ref x))/\dY U H x (.ins (cA.b c) dx (done.zip vs))/\aQ X.K cA U H ys vs/\done.length=vs.length/\done++ns=cA.g c/\done.length+ns.length<=900 /\
  Run X.K cA (M.bd (evs aq aj F is J) λzs=>bW (ys++zs)) U0 H0 s (λes _ U' H'=>∀ws,aC X.K cA U' H' es ws->dY U' H' x (.ins (cA.b c) dx ((cA.g c).zip ws))->(cA.g c).length=ws.length->D.nx Z H') (eX X.K cA EX Z)
theorem YW{f:Str}{v:V}:∀{fs:List (Str×V)},f∉fs.map (·.1)->eN f v fs=fs++[(f,v)]
 |[],_=>rfl
 |(g,x)::r,h=>by
  unfold eN;rw[if_neg λe=>h (by simp[e]),YW λz=>h (iI _ z)];rfl
theorem aQ.out{K:W.Frag}{cA:Cl}{U:Ph}{H H':Hp}(x:cD U H H'){ds:List Xv}{vs:List V}(h:aQ K cA U H ds vs):aQ K cA U H' ds vs:=by
 induction h with
 |nil=>exact .nil
 |cons h _ ih=>exact .cons (h.out x) ih
theorem aQ.app{K:W.Frag}{cA:Cl}{U:Ph}{H:Hp}{ds es:List Xv}{vs us:List V}(h:aQ K cA U H ds vs)(s:aQ K cA U H es us):aQ K cA U H (ds++es) (vs++us):=by
 induction h with
 |nil=>exact s
 |cons h _ ih=>exact .cons h ih
theorem Run.er{K:W.Frag}{cA:Cl}{U:Ph}{H:Hp}{s:S}{α:Type}{m:M α}{P:α->S->Ph->Hp->Prop}{Ee:Nat->List D->S->Ph->Hp->Prop}(h:Run K cA m U H s P λ_ _ _ _ _=>False):Run K cA m U H s P Ee:=by
 unfold Run at *;split at h
 ·exact h
 ·exact λU' H' x r=>(h U' H' x r).elim
 ·exact h
section
variable {X:Cx}{cA:Cl}{aq:Nat->Nat->Bool}{aj:Bool}{F:Fn}{EX:XS}{c:Nat}{a:Expr}{A:E}{is:Es}{ns:List Str}{body:List Stmt}{f:Str}{pos p p2:Pos}
theorem zkb:vX X cA aq aj F EX c [] .nil []:=⟨λao s Z H D I hh=>VG ao s Z H D I (by
 obtain⟨U0,H0,U,J,st,x,dx,done,vs,ys,xt,hL,hS,hx,h0,kp,rs,hl,hg,hz,h⟩:=hh;rw[ug] at hg;subst hg;have h2:Run X.K cA (M.bd (bW ys) M.ret) U H st (λes _ U' H'=>∀ws,aC X.K cA U' H' es ws->dY U' H' x (.ins (cA.b c) dx ((cA.g c).zip ws))->(cA.g c).length=ws.length->D.nx Z H') (eX X.K cA EX Z):=by
  have h3:=h.ext xt;unfold Run at h3 ⊢;have e0:M.bd (evs aq aj F .nil J) (λzs=>bW (ys++zs)) st=bW ys st:=by show bW (ys++[]) st=_;rw[ug]
  rw[e0] at h3;unfold M.bd;cases e1:bW ys st with
  |none=>rw[e1] at h3;exact h3
  |some r=>
   obtain⟨r,s2⟩:=r;rw[e1] at h3;cases r with
   |er c f=>exact h3
   |ok ds=>exact h3
 obtain⟨ds,_,rs2,h4⟩:=K4 rs h2;exact h4.bR hS vs rs2 kp hl)⟩
theorem Ls{j:Nat}(ow:Ow X.K cA c)(ha:JE X cA aq aj F EX a A)(hr:vX X cA aq aj F EX c body is ns)(h0:(decide (X.N[0]?=some ("self" : Str))&&tZ X.env.scope "self"&&okN "self")=true:=by kernel_rfl)
  (hs:swapsWith a (some (.Attribute (.Name "self" p) f p2)) pos.line X.env=pure false:=by rfl):vX X cA aq aj F EX c (.Assign [.Attribute (.Name "self" p) f p2] a pos::body) (.cons A is) (f::ns):=by
 rw[gq,gq] at h0;obtain⟨k,e,hv⟩:=R_ h0.1.2;refine⟨λao s Z H D I hh=>VH (zjZ (VD (i:=0) (fH h0.1.1) (by cases k<;>first|exact .inl e|exact .inr (.inl e)|exact .inr (.inr e)|cases hv) (tK h0.2).1 (tK h0.2).2.1) ha.o hs) hr.o ao s Z H D I ?_⟩;obtain⟨U0,H0,U,J,st,x,dx,done,vs,ys,xt,hL,hS,hx,YX,kp,rs,hl,hg,hz,h⟩:=hh;have h:Run X.K cA (M.bd (M.bd (ev aq aj F A J) λy=>M.bd (evs aq aj F is J) λzs=>M.ret (y::zs)) λzs=>bW (ys++zs)) U0 H0 st _ _:=h;simp only[gA] at h;refine⟨U,J,st,hL,hS,(h.bd0 xt).imp λy s1 U1 H1 ⟨x1,aG,h1⟩ v rv=>?_⟩;have Ba:=kp.mono x1;have nf:f∈cA.g c:=by rw[<-hg];simp
 have nd:f∉done:=λz=>by
  have:=ow.nd;rw[<-hg,DK] at this;exact this.2.2 f z f Qi rfl
 have hk:(done.zip vs).map (·.1)=done:=by rw[List.map_fst_zip];lia
 refine⟨.ref x,YX,x,_,dx,_,rfl,Ba.at_,ow.cl,ow.nf f nf,?_,?_⟩
 ·have:(done.zip vs).length<=done.length:=by rw[List.length_zip];lia
  simp at hz
  lia
 rw[YW (by rw[hk];exact nd)];have ez:done.zip vs++[(f,v)]=(done++[f]).zip (vs++[v]):=by rw[List.zip_append hl];rfl
 rw[ez];have ox:cD U1 H1 (upd H1 x (.ins (cA.b c) dx ((done++[f]).zip (vs++[v])))):=Ba.ext.1;refine⟨U0,H0,U1,J,s1,x,dx,done++[f],vs++[v],ys++[y],Ext.keep (vs:=[]) (xt.trans x1) hx,(hL.mono x1 hS.lz).out ox,aG.keep Ba,hx,YX,Ba.ext.2,((rs.mono x1 hS.lz).app (.cons rv .nil)).out ox,by simp[hl],by rw[<-hg,DG];rfl,by simp at hz ⊢;lia,?_⟩;have h1:Run X.K cA (M.bd (evs aq aj F is J) λzs=>M.bd (M.ret (y::zs)) λzs=>bW (ys++zs)) U0 H0 s1 _ _:=h1;have e2:(λzs=>bW (ys++[y]++zs))=λzs=>M.bd (M.ret (y::zs)) λzs=>bW (ys++zs):=by
  funext zs
  rw[DG];rfl
 rw[e2];exact h1
end
theorem zg4{K:W.Frag}{cA:Cl}{U:Ph}{H:Hp}{s:S}{α:Type}{m m':M α}{P:α->S->Ph->Hp->Prop}{Ee:Nat->List D->S->Ph->Hp->Prop}(e:m s=m' s)(h:Run K cA m U H s P Ee):Run K cA m' U H s P Ee:=by
 unfold Run at *;rw[<-e];exact h
theorem zfn{aq:Nat->Nat->Bool}{T:Nat->Option Df}{k n m p:Nat}{cm:Bool}{is:Es}{xs:List Xv}{s:S}(hT:T n=some ⟨m,p,.cons (.ret (.tup is)) .nil⟩)(hl:xs.length=p) :
  call aq T (k+1) cm n xs s=M.bd (M.bd (evs aq cm (call aq T k cm) is (xs.map some++List.replicate (m-p) none)) bW) (λds=>M.ret (.d (.tup ds))) s:=by
 unfold call;simp only[hT,if_pos hl];show (match cB (ofM (M.bd (evs aq cm (call aq T k cm) is _) λvs=>M.bd (bW vs) λds=>M.ret (.d (.tup ds))) _ λx s=>some (.rt x,s)) _ s with|some (.nx _,s')=>_|some (.rt v,s')=>_|some (.er c fs _,s')=>_|_=>none)=_;rw[gA];unfold cB ofM;cases e:M.bd (evs aq cm (call aq T k cm) is (xs.map some++List.replicate (m-p) none)) (λvs=>M.bd (bW vs) λds=>M.ret (Xv.d (.tup ds))) s with
 |none=>rfl
 |some r=>
  obtain⟨r,s1⟩:=r;cases r<;>rfl
theorem ziu{P:Program}{w:World}{K:W.Frag}{mg:Str->Option Value}{base:Heap}{cA:Cl}{aq:Nat->Nat->Bool}{T:Nat->Option Df}{x qual:Str}{st:Stmt}{f:Addr}{fd:FuncData}{N ps:List Str}{k n c m p:Nat}{cm:Bool}{is:Es}(F:nq K x qual st f fd)(hT:T n=some ⟨m,p,.cons (.ret (.tup is)) .nil⟩)
  (hb:∀(cdv:Value) (A:Around) (outer:List Env) (s:Shared) (H:Hp) (E:XK),bB k (A.deeper (envOfC qual (au st) s.heap.objs.size f cdv))->
   vX (fD (fK P w) P w K mg base N qual (au st) f cdv A outer s H E cm) cA aq cm (call aq T k cm) (λ_ C dx H'=>E C dx H') c (aH st) is (cA.g c)) (hg:(cA.g c).length<=900) (S:cQ N ps (au st):=by exact⟨rfl,rfl,rfl,dk,rfl,dk,dk⟩) (hp:p=ps.length:=by rfl) (hm:m=N.length:=by rfl) (h0:0<p:=by decide) :
  bY P w K mg base (fK P w) cm (k+1) f fd ps (Iz K cA c (call aq T (k+1) cm n)):=by
 obtain⟨oc,od,kV,doc,pm,an,cdv,ct,osl,rfl,lk,jN⟩:=F.ex;have hlen:∀{U:Ph} {H:Hp} {s:Mi.S} {xs:List Xv} {P:Xv->Mi.S->Ph->Hp->Prop},Run K cA (call aq T (k+1) cm n (.d .any::xs)) U H s P (λ_ _ _ _ _=>False)->xs.length+1=p:=λ{U H s xs P} h=>by
  unfold call at h;simp only[hT] at h;by_cases hl:(Xv.d D.any::xs).length=p
  ·simpa using hl
  ·rw[if_neg hl] at h;exact h.elim
 refine V9 lk jN S (λvs H Q E hz=>?_) λA outer s H vs Q E hr hz=>?_
 ·obtain⟨x,dx,us,U,H0,xs,s,e,_,_,_,_,r,_,h⟩:=hz;have:=hlen h;rw[e,dB,<-r.len,<-hp]
  lia
 ·obtain⟨x,dx,us,U,H0,xs,st',e,hx,hd,hn,eH,r,hS,h⟩:=hz;refine⟨_,(hb cdv A outer s H E (hr.deeper _)).o,?_⟩;subst e eH;have hl:=hlen h;have xt:=Ext.made (U:=U) (C:=cA.b c) hx hd hn;refine⟨U,H0,U.mark x,(Xv.d .any::xs).map some++List.replicate (m-p) none,st',x,dx,[],[],[],xt,XM (.cons (.d (.any x)) (r.mono xt hS.lz)) (by simp;lia) hm,hS.made hx hd hn,hx,rfl,⟨jH,λz=>hS.nz hx (hS.lz x z),.inr rfl⟩,.nil,rfl,rfl,by simpa using hg,?_⟩;have h2:=(zg4 (zfn hT (by simpa using hl)) h).bd0 Ext.refl;exact Run.er (Run.imp h2 λds s1 U1 H1 ⟨x1,aG,h4⟩ ws rs kp hl=>h4 U1 H1 x1 aG ds ws rfl rs kp hl)
section
variable {prog:Program}{w:World}{A:Around}{E:Value->Shared->Prop}{s:Shared}
theorem zdu{r:Addr}{n:Nat}{lo hi:Int}{t u v:Tok}{Q:List Value->Shared->Prop}(hh:A.handled=none)(hr:IsRange s.heap r lo hi 1 t u v)(hs:Builtin.Range.small lo hi 1=true)(hn:Builtin.Range.rangeSize lo hi 1=n)(hl:n<=65536)
  (q:∀(h':Heap) (tk:Nat) (acc:Array Value),(∀b o,s.heap.get? b=some o->h'.get? b=some o)->ItemsOf (λi v=>∃t,v=.int (lo+i*1) t) acc n->Q acc.toList {s with heap:=h',toks:=tk}):wpAny (model prog w) A (collect (.ref r)) Q E s:=by
 unfold collect;refine aA (wpAny_runValue (yE F.entry_proto_collect ?_));rw[yr F.plain_proto_collect _];refine aA (m:=newList []) (wpAny_newList (aO ⟨yH F.plain_list_iadd _,yE F.entry_list_iadd ?_⟩));rw[yr F.plain_list_iadd _];have fin:∀{r':Result} {s':Shared},(∃h' tk acc c,r'=.ok (.ret (.ref s.heap.objs.size))/\s'={s with heap:=h',toks:=tk}/\h'.get? s.heap.objs.size=some (seqObj "list" acc c)/\(∀b o,s.heap.get? b=some o->h'.get? b=some o)/\ItemsOf (λi v=>∃t,v=.int (lo+i*1) t) acc n)->(match r' with
   |.ok (.ret v)=>wpAny (model prog w) A (match v with
    |.ref a=>do
     match (<-load a).data with
      |.seq xs _=>pure xs.toList
      |_=>unsupported "internal:collect"
    |_=>unsupported "internal:collect") Q E s'
   |.ok _=>False
   |.error e=>E e s'):=λ{r' s'} z=>by
  obtain⟨h',tk,acc,c,rfl,rfl,hS,kp,qL⟩:=z;exact aA (wpAny_load hS (aO (q h' tk acc kp qL)))
 refine g8 (wpAny_extend_range (A:=A) (s:={s with heap:=s.heap.push (seqObj "list" #[] 0)}) (R:=λr' s'=>∃h' tk acc c,r'=.ok (.ret (.ref s.heap.objs.size))/\s'={s with heap:=h',toks:=tk}/\h'.get? s.heap.objs.size=some (seqObj "list" acc c)/\(∀b o,s.heap.get? b=some o->h'.get? b=some o)/\ItemsOf (λi v=>∃t,v=.int (lo+i*1) t) acc n)
  hh (cO _ hr) hs hn gV s.heap.objs.size (.ref s.heap.objs.size) 0 (fC _ rfl) λh' tk acc c kp hS qL=>⟨h',tk,acc,c,rfl,rfl,hS,λb o e=>kp b o (dM (bV e)) (cO _ e),qL⟩) (λf s' z=>?_) λe s' z=>?_
 ·cases f with
  |done f=>exact fin z
  |again c'=>exact⟨z.1,yI z.2 λr s'' hr=>fin hr⟩
 ·obtain⟨_,_,_,_,e,_⟩:=z;cases e
end
theorem zeG(r:Addr)(lo hi:Int)(t u v:Tok)(n:Nat)(hs:Builtin.Range.small lo hi 1=true)(hn:Builtin.Range.rangeSize lo hi 1=n)(hl:n<=65536):Meets (Builtin.«tuple.__new__» ⟨[.type "tuple",.ref r],[]⟩)
   (λA R s=>A.handled=none/\IsRange s.heap r lo hi 1 t u v/\∀(h':Heap) (tk:Nat) (acc:Array Value),(∀b o,s.heap.get? b=some o->h'.get? b=some o)->ItemsOf (λi v=>∃t,v=.int (lo+i*1) t) acc n->R (.ok (.ret (.ref h'.objs.size))) {s with heap:=h'.push {cls:=.type "tuple",data:=.seq acc},toks:=tk}):=
 .of_wp λprog w A R s h=>by
  obtain⟨hh,hr,h⟩:=h;have hsub:=sub_tuple_self;have hinit:=init_tuple_lookup;have hmh:=madeHere_tuple;have hT:s.TypeIs (.ref r) "range":=⟨_,hr,rfl⟩;have hh1:A.in1.handled=none:=hh
  wp_walk using B_ hT,AutoSeq1.wpAny_loadPart' hr,zdu hh1 hr hs hn hl
  intro h' tk acc hk qL;show wpAny _ _ (Builtin.Tuple.tupleExact acc.toList.toArray >>= λv=>ret v) _ _ _;unfold Builtin.Tuple.tupleExact;have e:acc.toList.toArray=acc:=by simp
  rw[e];exact aA (qb (aO ⟨_,rfl,h h' tk acc hk qL⟩) (show acc.size<=sizeLine by rw[qL.1];exact lN hl J0))
section
variable {X:Cx}
theorem zbS{ao:List (Addr×Obj)}{Z:L2.St}{H:Hp}{s:Shared}{Q:VK}{hi:Int}{t u v:Tok}{tk:Nat}(hc:X.aj=true)(I:Inv X ao Z H s)(hk:okR 0 hi=true)
  (q:∀l,H l=none->Q (.ref l) (upd H l (.tup (Dk 0 (hi-0).toNat)))) :
  wpAny (model X.prog X.w) X.A (PySem.call (.type "tuple") [.ref s.heap.objs.size]) (EP X ao Z Q) X.xe {s with heap:=s.heap.push {cls:=.type "range",data:=.fields #[.int 0 t,.int hi u,.int 1 v]},toks:=tk}:=by
 obtain⟨h1,h2,h3,h4,h5⟩:=fH hk;have en:Builtin.Range.rangeSize 0 hi 1=((hi-0).toNat:Nat):=by rw[rangeSize_one];split<;>lia
 refine callType_new F.called_tuple J0 (F.typeCall_tuple_1 _) (F.newCall_tuple_1 _) (λobj=>F.args_object_init_2 obj _) F.entry_tuple_new (zeG _ 0 hi t u v _ (small_one h1 h2 h3 h4) en h5) ⟨I.ok.hd hc,IsRange.new ..,λh' tk' acc kp ⟨z1,z2⟩=>?_⟩;have hv:Vals (Dk 0 (hi-0).toNat) acc.toList:=by
  have:=zir (i:=0) (acc:=acc) (n:=(hi-0).toNat) (m:=0) (λk v e=>by
   obtain⟨t,e⟩:=z2 k v (by simpa using e);exact⟨t,by rw[e,Int.mul_one,Nat.zero_add]⟩) (by rw[yu];exact z1)
  simpa [Dk] using this
 have hz:s.heap.objs.size<=h'.objs.size:=uN (bV (kp _ _ (fC s.heap rfl)));have I':=I.laid (a:=h'.objs.size) (o:=.tup (Dk 0 (hi-0).toNat)) (h':=h'.push {cls:=.type "tuple",data:=.seq acc}) (t':=tk') (λb u q=>cO _ (kp b u (cO _ q))) hz (show bO X.prog X.w _ _ _ (.tup (Dk 0 (hi-0).toNat)) from ⟨by
  rw[hv.length,yu,z1];exact lN h5 J0,acc.toList,hv,⟨_,fC _ rfl,rfl,0,by simp,rfl⟩⟩)
 exact⟨⟨_,fC _ rfl,rfl⟩,.ref h'.objs.size,_,I',rfl,q _ (I.hok.fresh hz)⟩
def IK(vs:List V)(H:Hp)(Q:VK):Prop:=∃j:Int,vs=[.int j]/\okR 0 j=true/\∀l,H l=none->Q (.ref l) (upd H l (.tup (Dk 0 (j-0).toNat)))
theorem zkO{e:Expr}{t:TA}{p p' pos pos':Pos}(hc:X.aj=true)(hg:Gl X "tuple")(hm:X.mg "tuple"=none)(Sh:Gl X "range")(Sq:X.mg "range"=none)(ha:PA X [e] t)(he:starEach [e] X.env=(false,eval e X.env)::starEach [] X.env:=by rfl) :
  PE X (.Call (.Name "tuple" p) [.Call (.Name "range" p') [e] [] pos'] [] pos) (O2 IK t):=by
 intro ao s Z H Q I h;refine Bw (wN I hg hm K8 ?_);refine Bp ?_ rfl rfl;show wpAny _ _ (spliced ((false,eval (.Call (.Name "range" p') [e] [] pos') X.env)::backTo pos (starEach [] X.env))) _ _ s;refine Calls.spliced_cons ?_;refine Bw (wN I Sh Sq boot_range ?_);refine Bp (bw (ha pos' ao s Z H _ I h) λus s1 hz=>?_) he rfl;obtain⟨vs,H1,I1,r1,q1⟩:=hz;obtain⟨j,rfl,hk,q⟩:=q1;cases r1 with
 |cons r rr=>
  cases rr;obtain⟨t,rfl⟩:=r;exact call_range_1 (Calls.spliced_nil (zbS hc I1 hk q))
end
section
variable {K:W.Frag}{cA:Cl}{U:Ph}{H:Hp}
theorem zkX:bD K cA .Cy IK:=by
 intro U H ds vs Q zt rs o;have o:bC K cA U H (zM ds) Q:=o;unfold zM at o;split at o
 ·rename_i j _;obtain⟨v,rfl,r1⟩:=rs.one;cases (show Rep K cA U H (.int j) v from r1);by_cases hk:okR 0 j=true
  ·rw[if_pos hk] at o;exact⟨j,rfl,hk,λl hl=>o.tup zt (Yo _) hl⟩
  ·rw[if_neg hk] at o;exact o.elim
 ·exact o.elim
end
section
variable {X:Cx}{cA:Cl}{aq:Nat->Nat->Bool}{aj:Bool}{F:Fn}{EX:XS}{a e:Expr}{A:E}{pos pos' p p':Pos}{Xs:Es}{fz:Bool}
theorem zmk(hc:X.aj=true)(hm:X.mg "tuple"=none)(hg:JK X "tuple" .globalImplicit)(Sq:X.mg "range"=none)(Sh:JK X "range" .globalImplicit)(ha:JA X cA aq aj F EX [e] Xs)(he:aF e=true:=by rfl):JE X cA aq aj F EX (.Call (.Name "tuple" p) [.Call (.Name "range" p') [e] [] pos'] [] pos) (.pr fz .Cy Xs):=⟨PE.weak (zkO hc hg.o hm Sh.o Sq ha.o (aX he)) λZ H Q hh=>un hh λU J s hL hS h=>
 oh hL hS h λvs H1 U1 ds s1 x1 hL1 aG r1 h1=>by
  obtain⟨ds,rs,h3⟩:=xK aG r1 h1;exact zkX U1 H1 ds _ _ aG.zs rs (sV aG h3)⟩
end
def fu(h:Heap)(items:Array Value)(rows:List (List Int))(no:List Addr):Prop:=∀i v,items[i]?=some v->∃a xs,v=.ref a/\IsTup h a xs/\IntsAre xs.toList (rows.getD i [])/\a∉no
theorem fu.keep{h h':Heap}{items:Array Value}{rows:List (List Int)}{no:List Addr}(g:fu h items rows no)(k:∀b o,b∉no->h.get? b=some o->h'.get? b=some o):fu h' items rows no:=λi v e=>by
 obtain⟨a,xs,e1,⟨o,e2,r⟩,e3,e4⟩:=g i v e;exact⟨a,xs,e1,⟨o,k a o e4 e2,r⟩,e3,e4⟩
noncomputable abbrev yd(rows:List (List Int))(i j:Nat):Bool:=HT.lexLt (rows.getD i []) (rows.getD j [])
section
variable {prog:Program}{w:World}{A:Around}{R:Result->Shared->Prop}{I S l:Addr}{items:Array Value}{rows:List (List Int)}
theorem zix{s:Shared}{i j:Nat}{u v:Value}{Q:Value->Shared->Prop}{E:Value->Shared->Prop}(hu:A.units<cLine)(g:fu s.heap items rows [I,S])(h1:items[i]?=some u)(h2:items[j]?=some v)(q:Q (.bool (yd rows i j)) s):wpAny (model prog w) A (richCompare .Lt u v) Q E s:=by
 obtain⟨a,xs,rfl,p1,i1,_⟩:=g i u h1;obtain⟨b,ys,rfl,p2,i2,_⟩:=g j v h2;exact HT.ju p1 p2 i1 i2 hu q
end
theorem YZ{K:W.Frag}{cA:Cl}{U:Ph}{H:Hp}:∀{xs:List D} {rs:List (List Int)} {vs:List V},fL xs=some rs->aC K cA U H xs vs->rs.length=vs.length/\∀(i:Nat) v,vs[i]?=some v->∃a,v=.ref a/\TupAt K U H a ((rs.getD i []).map .int)
 |[],rs,vs,h,r=>by cases h;cases r;exact⟨rfl,λi v e=>by simp at e⟩
 |d::xs,rs,vs,h,r=>by
  cases r with
  |cons q r=>cases q with
   |@tup a ys us t ts=>
    unfold fL at h;cases e1:bG ys with
    |none=>simp only[e1] at h;cases h
    |some is=>cases e2:fL xs with
     |none=>simp only[e1,e2] at h;cases h
     |some rr=>
      simp only[e1,e2] at h;cases h;obtain⟨l,k⟩:=YZ e2 r;refine⟨by simp[l],λi v e=>?_⟩;cases i with
      |zero=>
       simp at e;subst e;refine⟨a,rfl,?_⟩;show TupAt K U H a (is.map V.int);rw[<-show _=is.map V.int from CQ e1 ts];exact t
      |succ i=>exact k i v (by simpa using e)
   |_=>cases h
section
variable {X:Cx}{cA:Cl}{aq:Nat->Nat->Bool}{aj:Bool}{F:Fn}{EX:XS}{e:Expr}{pos p:Pos}{es:List Expr}{Xs:Es}{fz:Bool}
theorem Ss:∀{is:List Int} {us:List Value},Vals (is.map V.int) us->IntsAre us is
 |[],_,.nil=>.nil
 |_::is,_,.cons ⟨t,e⟩ r=>by subst e;exact .cons _ t (Ss r)
end
end Mi
namespace HT
open PySem PySem.Spec PyProof.Rows L2
noncomputable def dh(a b:List Int):Bool:=lexLt b a
noncomputable def lexLe(a b:List Int):Bool:=!lexLt b a
theorem zeD(x y:Int)(xs ys:List Int):dh (x::xs) (y::ys)=if x=y then dh xs ys else decide (x>y):=by
 unfold dh;rw[dR];by_cases h:x=y
 ·rw[if_pos h,if_pos h.symm]
 ·rw[if_neg h,if_neg λz=>h z.symm]
theorem zex(x y:Int)(xs ys:List Int):lexLe (x::xs) (y::ys)=if x=y then lexLe xs ys else decide (x<=y):=by
 unfold lexLe;rw[dR];by_cases h:x=y
 ·rw[if_pos h,if_pos h.symm]
 ·rw[if_neg h,if_neg λz=>h z.symm,<-decide_not];exact qO.mpr gV
theorem zcb:dh [] []=false:=rfl
theorem zbN(y:Int)(ys:List Int):dh [] (y::ys)=false:=rfl
theorem zbM(x:Int)(xs:List Int):dh (x::xs) []=true:=rfl
theorem zcs:lexLe [] []=true:=rfl
theorem zbO(y:Int)(ys:List Int):lexLe [] (y::ys)=true:=rfl
theorem zbR(x:Int)(xs:List Int):lexLe (x::xs) []=false:=rfl
theorem zgY(A:Around)(s:Shared)(a:Int)(t:Tok)(c:Int)(u:Tok)(prog:Program)(w:World)(E:Value->Shared->Prop)(Q:Value->Shared->Prop)(h:Q (.bool (decide (a>c))) s) :
  wpAny (model prog w) A (richCompare .Gt (.int a t) (.int c u)) Q E s:=
 (PyProof.Rows.gt_int h:wpAny (model prog w) A (compareOp .Gt (.int a t) (.int c u)) Q E s)
theorem zgx(A:Around)(s:Shared)(a:Int)(t:Tok)(c:Int)(u:Tok)(prog:Program)(w:World)(E:Value->Shared->Prop)(Q:Value->Shared->Prop)(h:Q (.bool (decide (a<=c))) s) :
  wpAny (model prog w) A (richCompare .LtE (.int a t) (.int c u)) Q E s:=
 (PyProof.Rows.le_int h:wpAny (model prog w) A (compareOp .LtE (.int a t) (.int c u)) Q E s)
section
open PySem.SeqAt
open PySem.AutoSeq1 (wpAny_loadPart')
open PySem.MeetsSeq PySem.MeetsSeq2 PySem.MeetsSeq3
theorem zcg(l b:Addr)(items items2:Array Value)(n n2:Nat)(dd dd2:Option Addr)(sl sl2:Array (Option Value))(ns ms:List Int)(hi:IntsAre items.toList ns)(hj:IntsAre items2.toList ms) :
  Meets (Builtin.«tuple.__gt__» ⟨[.ref l,.ref b],[]⟩)
   (λ_ R s=>s.heap.get? l=some {cls:=.type "tuple",dict:=dd,data:=.seq items n,slots:=sl}/\s.heap.get? b=some {cls:=.type "tuple",dict:=dd2,data:=.seq items2 n2,slots:=sl2} /\
    R (.ok (.ret (.bool (dh ns ms)))) s):=
 .of_wp λprog w A R s h=>by
  obtain⟨hp,g,d,tk,os⟩:=s;obtain⟨hl,hb,h⟩:=h;have f2:=Mx;have z1:items.size=ns.length:=by rw[<-hi.length];simp
  have z2:items2.size=ms.length:=by rw[<-hj.length];simp
  wp_walk using Bt hl,Bt hb,DP _ (λrest b s'=>b.1=none/\s'=⟨hp,g,d,tk,os⟩/\∃(vs ws:List Value) (ns' jX:List Int),rest=vs.zip ws /\
   IntsAre vs ns'/\IntsAre ws jX/\ns'.length+items2.size=jX.length+items.size/\R (.ok (.ret (.bool (dh ns' jX)))) ⟨hp,g,d,tk,os⟩) _
  case turn=>
   rintro⟨y,x⟩ rest b s' ⟨hb',rfl,vs,ws,ns',jX,hz,rH,o7,hlen,hR⟩;cases rH with
   |nil=>rw[JD] at hz;cases hz
   |cons a t rJ=>
    cases o7 with
    |nil=>rw[Jz] at hz;cases hz
    |cons c u rK=>
     rw[uI] at hz;injection hz with FP mD;injection FP with hy hx;subst hy hx;rw[zeD] at hR;simp only[dB] at hlen;obtain⟨e,he,mF⟩:=O4 A.in1 ⟨hp,g,d,tk,os⟩ a t c u;refine aA (he prog w _ _ ?_);cases e with
     |true=>
      rw[if_pos (mF.mp rfl)] at hR
      wp_walk
      exact⟨rfl,rfl,_,_,_,_,mD,rJ,rK,by lia,hR⟩
     |false=>
      rw[if_neg (λq=>absurd (mF.mpr q) wj)] at hR;have FQ:=zgY A.in1 ⟨hp,g,d,tk,os⟩ a t c u prog w
      wp_walk using FQ
      exact⟨_,rfl,by simpa using hR⟩
  case fin=>
   rintro⟨b1,b2⟩ s' ⟨hb',rfl,vs,ws,ns',jX,hz,rH,o7,hlen,hR⟩;simp only at hb';subst hb';have hv:dh ns' jX=decide (items2.size<items.size):=by
    cases rH with
    |nil=>
     cases o7 with
     |nil=>
      simp only[qX] at hlen;rw[zcb];exact(oN gV).symm
     |cons c u hw=>
      simp only[qX,dB] at hlen;rw[zbN];exact(oN gV).symm
    |cons a t hv=>
     cases o7 with
     |nil=>
      simp only[qX,dB] at hlen;rw[zbM];exact(dZ gV).symm
     |cons c u hw=>
      rw[uI] at hz;cases hz
   rw[hv] at hR
   wp_walk
   exact⟨_,rfl,by simpa [Builtin.Tuple.tupleCompareSizes] using hR⟩
  case h=>
   exact⟨rfl,rfl,items.toList,items2.toList,ns,ms,rfl,hi,hj,by lia,h⟩
theorem zb9(l b:Addr)(items items2:Array Value)(n n2:Nat)(dd dd2:Option Addr)(sl sl2:Array (Option Value))(ns ms:List Int)(hi:IntsAre items.toList ns)(hj:IntsAre items2.toList ms) :
  Meets (Builtin.«tuple.__le__» ⟨[.ref l,.ref b],[]⟩)
   (λ_ R s=>s.heap.get? l=some {cls:=.type "tuple",dict:=dd,data:=.seq items n,slots:=sl}/\s.heap.get? b=some {cls:=.type "tuple",dict:=dd2,data:=.seq items2 n2,slots:=sl2} /\
    R (.ok (.ret (.bool (lexLe ns ms)))) s):=
 .of_wp λprog w A R s h=>by
  obtain⟨hp,g,d,tk,os⟩:=s;obtain⟨hl,hb,h⟩:=h;have f2:=Mx;have z1:items.size=ns.length:=by rw[<-hi.length];simp
  have z2:items2.size=ms.length:=by rw[<-hj.length];simp
  wp_walk using Bt hl,Bt hb,DP _ (λrest b s'=>b.1=none/\s'=⟨hp,g,d,tk,os⟩/\∃(vs ws:List Value) (ns' jX:List Int),rest=vs.zip ws /\
   IntsAre vs ns'/\IntsAre ws jX/\ns'.length+items2.size=jX.length+items.size/\R (.ok (.ret (.bool (lexLe ns' jX)))) ⟨hp,g,d,tk,os⟩) _
  case turn=>
   rintro⟨y,x⟩ rest b s' ⟨hb',rfl,vs,ws,ns',jX,hz,rH,o7,hlen,hR⟩;cases rH with
   |nil=>rw[JD] at hz;cases hz
   |cons a t rJ=>
    cases o7 with
    |nil=>rw[Jz] at hz;cases hz
    |cons c u rK=>
     rw[uI] at hz;injection hz with FP mD;injection FP with hy hx;subst hy hx;rw[zex] at hR;simp only[dB] at hlen;obtain⟨e,he,mF⟩:=O4 A.in1 ⟨hp,g,d,tk,os⟩ a t c u;refine aA (he prog w _ _ ?_);cases e with
     |true=>
      rw[if_pos (mF.mp rfl)] at hR
      wp_walk
      exact⟨rfl,rfl,_,_,_,_,mD,rJ,rK,by lia,hR⟩
     |false=>
      rw[if_neg (λq=>absurd (mF.mpr q) wj)] at hR;have FQ:=zgx A.in1 ⟨hp,g,d,tk,os⟩ a t c u prog w
      wp_walk using FQ
      exact⟨_,rfl,by simpa using hR⟩
  case fin=>
   rintro⟨b1,b2⟩ s' ⟨hb',rfl,vs,ws,ns',jX,hz,rH,o7,hlen,hR⟩;simp only at hb';subst hb';have hv:lexLe ns' jX=decide (items.size<=items2.size):=by
    cases rH with
    |nil=>
     cases o7 with
     |nil=>
      simp only[qX] at hlen;rw[zcs];exact(dZ gV).symm
     |cons c u hw=>
      simp only[qX,dB] at hlen;rw[zbO];exact(dZ gV).symm
    |cons a t hv=>
     cases o7 with
     |nil=>
      simp only[qX,dB] at hlen;rw[zbR];exact(oN gV).symm
     |cons c u hw=>
      rw[uI] at hz;cases hz
   rw[hv] at hR
   wp_walk
   exact⟨_,rfl,by simpa [Builtin.Tuple.tupleCompareSizes] using hR⟩
  case h=>
   exact⟨rfl,rfl,items.toList,items2.toList,ns,ms,rfl,hi,hj,by lia,h⟩
end
section
variable {prog:Program}{w:World}{A:Around}{E:Value->Shared->Prop}{s:Shared}
theorem oH{l b:Addr}{items items2:Array Value}{ns ms:List Int}{Q:Value->Shared->Prop}(hl:IsTup s.heap l items)(hb:IsTup s.heap b items2)(hi:IntsAre items.toList ns)(hj:IntsAre items2.toList ms)
  (hu:A.units<cLine) (h:Q (.bool (dh ns ms)) s):wpAny (model prog w) A (compareOp .Gt (.ref l) (.ref b)) Q E s:=by
 obtain⟨⟨cls,dd,data,sl⟩,ho,hc,n,hd⟩:=id hl;obtain⟨⟨cls2,dd2,data2,sl2⟩,jO,lQ,n2,hd2⟩:=id hb;simp only at hc hd lQ hd2;subst hc hd lQ hd2;exact M4 (op:=.Gt) ⟨_,ho,rfl⟩ ⟨_,jO,rfl⟩ PySem.F.slot_tuple_gt PySem.F.entry_tuple_gt (PySem.F.args_tuple_gt_2 _ _) (zcg l b items items2 n n2 dd dd2 sl sl2 ns ms hi hj)
  ⟨ho,jO,show Value.bool (dh ns ms)≠Value.notImplemented/\Q (.bool (dh ns ms)) s from ⟨(λx=>nomatch x),h⟩⟩ hu
theorem oJ{l b:Addr}{items items2:Array Value}{ns ms:List Int}{Q:Value->Shared->Prop}(hl:IsTup s.heap l items)(hb:IsTup s.heap b items2)(hi:IntsAre items.toList ns)(hj:IntsAre items2.toList ms)
  (hu:A.units<cLine) (h:Q (.bool (lexLe ns ms)) s):wpAny (model prog w) A (compareOp .LtE (.ref l) (.ref b)) Q E s:=by
 obtain⟨⟨cls,dd,data,sl⟩,ho,hc,n,hd⟩:=id hl;obtain⟨⟨cls2,dd2,data2,sl2⟩,jO,lQ,n2,hd2⟩:=id hb;simp only at hc hd lQ hd2;subst hc hd lQ hd2;exact M4 (op:=.LtE) ⟨_,ho,rfl⟩ ⟨_,jO,rfl⟩ PySem.F.slot_tuple_le PySem.F.entry_tuple_le (PySem.F.args_tuple_le_2 _ _) (zb9 l b items items2 n n2 dd dd2 sl sl2 ns ms hi hj)
  ⟨ho,jO,show Value.bool (lexLe ns ms)≠Value.notImplemented/\Q (.bool (lexLe ns ms)) s from ⟨(λx=>nomatch x),h⟩⟩ hu
end
end HT
namespace L2
open PySem PySem.Spec PyProof.Rows
section
variable {X:Cx}
noncomputable def Bb(f:List Int->List Int->Bool)(K:W.Frag):R2:=λx y H Q=>∃a b ns ms,x=.ref a/\y=.ref b/\fV K H a (ns.map V.int)/\fV K H b (ms.map V.int)/\Q (.bl (f ns ms)) H
theorem zkd(hu:X.A.units<cLine):dO X (compareOp .Gt) (Bb HT.dh X.K):=by
 intro ao s Z H x y v u Q I rx ry h;obtain⟨a,b,ns,ms,rfl,rfl,ha,hb,q⟩:=h;cases rx;cases ry;obtain⟨its,r1,p1,_⟩:=I.tuple ha;obtain⟨its2,r2,p2,_⟩:=I.tuple hb;have i1:IntsAre its.toArray.toList ns:=Cq r1;have i2:IntsAre its2.toArray.toList ms:=Cq r2;exact HT.oH p1 p2 i1 i2 hu ⟨.bl (HT.dh ns ms),H,I,rfl,q⟩
theorem zkj(hu:X.A.units<cLine):dO X (compareOp .LtE) (Bb HT.lexLe X.K):=by
 intro ao s Z H x y v u Q I rx ry h;obtain⟨a,b,ns,ms,rfl,rfl,ha,hb,q⟩:=h;cases rx;cases ry;obtain⟨its,r1,p1,_⟩:=I.tuple ha;obtain⟨its2,r2,p2,_⟩:=I.tuple hb;have i1:IntsAre its.toArray.toList ns:=Cq r1;have i2:IntsAre its2.toArray.toList ms:=Cq r2;exact HT.oJ p1 p2 i1 i2 hu ⟨.bl (HT.lexLe ns ms),H,I,rfl,q⟩
end
end L2
namespace Mi
open PySem PySem.Spec PyProof.Rows L2 PySem.W
section
variable {X:Cx}{cA:Cl}
theorem Y0{K:W.Frag}{p:Pr}{f g:List Int->List Int->Bool}(hp:prim p=mQ f)(hf:∀a b,f a b=g a b):bD K cA p (r2 (Bb g K)):=by
 intro U H ds vs Q zt rs o;rw[hp] at o;obtain⟨z,e⟩:=o.some';unfold mQ at e;split at e
 ·split at e
  ·rename_i a b h1 h2;cases e;obtain⟨v,v',rfl,r1,r2⟩:=rs.two (ds:=[]);obtain⟨p,us,rfl,t1,q1⟩:=r1.tup;obtain⟨p',us',rfl,t2,q2⟩:=r2.tup;have o2:bC K cA U H (some (.dat (.bl (f a b)))) Q:=by
    unfold mQ at o;simp only[h1,h2] at o;exact o
   refine⟨_,_,rfl,p,p',a,b,rfl,rfl,by rw[<-CQ h1 q1];exact t1.iQ,by rw[<-CQ h2 q2];exact t2.iQ,?_⟩;rw[<-hf];exact o2.here (.bl _)
  ·cases e
 ·cases e
theorem zlF{k:Nat}(hr:bB k X.A):JP X cA .Gt .KR:=⟨_,zkd (by have:=qD hr;lia),Y0 rfl λa b=>by show ltI b a=HT.lexLt b a;exact HB b a⟩
theorem zlU{k:Nat}(hr:bB k X.A):JP X cA .LtE .KY:=⟨_,zkj (by have:=qD hr;lia),Y0 rfl λa b=>by show (!ltI b a) = !HT.lexLt b a;rw[HB b a]⟩
end
end Mi
end Lake
namespace PySem
open Lake
theorem Kab:typeLookup (.type "list") "keys"=pure none:=by rw[typeLookup_type,builtinLookup_eq_fast];kernel_rfl
theorem zbT{prog:Program}{w:World}{A:Around}{E:Value->Shared->Prop}{s:Shared}{a:Addr}{o:Obj}{xs:Array Value}{k:Nat}{Q:Option Value->Shared->Prop}
  (hx:s.heap.get? a=some o) (hc:o.cls=.type "list") (vY:o.data=.seq xs k) (hd:o.dict=none) (hA:A.handled=none)
  (h:∀h' tk e,Heap.NewExcOf s.heap h' e "AttributeError"->Q none {s with heap:=h',toks:=tk}) :
  wpAny (model prog w) A (getAttr? (.ref a) "keys") Q E s:=by
 obtain⟨c,dct,dat,sl⟩:=o;simp only at hc vY hd;subst hc vY hd;obtain⟨hp,g,d,tk,os⟩:=s;have hT:∀tk',(⟨hp,g,d,tk',os⟩ : Shared).TypeIs (.ref a) "list":=λ_=>⟨_,hx,rfl⟩;have f1:=sub_AttributeError;have f3:=MJ.lookup;have f4:=MJ.bind (.ref a);have f5:=am_list_getattr_none;unfold getAttr? getAttrBy? getAttrBy
 repeat (any_goals (first|assumption|exact hT _|((with_reducible show wpAny _ _ (call (Value.builtin "list.__getattribute__") _ _) _ _ _);refine call_meets MJ (hT _) am_entry_list_getattribute (F.args_list_getattribute_2 _ _) (meets_getattribute_miss_list a xs k sl "keys" _ Kab J0 (by size_fits)) ⟨hx,hA,λh' tk' e Kg=>?_⟩)|wp_step))
 obtain⟨t',u',he⟩:=Kg.there;show wpAny _ _ (getattributeRaised _ _ _ _ _ _ _) _ _ _;unfold getattributeRaised
 repeat (any_goals (first|assumption|wp_step))
 exact h _ _ _ Kg.of
end PySem
namespace Lake
namespace Mi
open PySem PySem.Spec PyProof.Rows L2
theorem Y4:entryFor table "dict.update.loop"=some Builtin.«dict.update.loop»:=entryFor_of_tree (by kernel_rfl)
theorem Lw:plainId "dict.update.loop"=true:=by decide +kernel
def pX(h:Heap)(items:Array Value)(ks:List (List Kx×Addr×Value)):Prop:=items.size=ks.length/\∀(i:Nat) (v:Value),items[i]?=some v->∃(p:Addr) (k:List Kx) (a:Addr) (u:Value),v=Value.ref p/\ks[i]?=some (k,a,u)/\h.IsTuple p #[Value.ref a,u]/\Is h (jz k) (.ref a)
theorem Sv{h:Heap}{I l j:Nat}(z:h.IsListIter I l j):(∀xs,¬h.IsTuple I xs)/\∀xs,¬h.IsList I xs:=by
 obtain⟨o,e,c,d⟩:=z;refine⟨λxs q=>?_,λxs q=>?_⟩ <;>
 ·obtain⟨o',e',_,_,d'⟩:=q;rw[e] at e';cases e';rw[d] at d';cases d'
theorem Y5{h h':Heap}{I l j:Nat}(z:h.IsListIter I l j)(kp:∀(b:Addr) (o:Obj),b∉[I]->h.get? b=some o->h'.get? b=some o){d:D}{u:Value}(x:Is h d u):Is h' d u:=by
 obtain⟨n1,n2⟩:=Sv z;refine Rf (λb xs q=>?_) (λb xs q=>?_) x
 ·obtain⟨o,e,r⟩:=id q;exact⟨o,kp b o (λy=>n1 xs (by rw[jG] at y;subst y;exact q)) e,r⟩
 ·obtain⟨o,e,r⟩:=id q;exact⟨o,kp b o (λy=>n2 xs (by rw[jG] at y;subst y;exact q)) e,r⟩
theorem Y6{prog:Program}{w:World}{h h':Heap}{I l j D:Nat}{xs:fZ}(z:h.IsListIter I l j)(kp:∀(b:Addr) (o:Obj),b∉[I]->h.get? b=some o->h'.get? b=some o)(hD:D∉[I])(dd:h.DictOfH (cF prog w) D xs):h'.DictOfH (cF prog w) D xs:=by
 obtain⟨o,es,ep,ho,a,b,c,d,e⟩:=dd;exact⟨o,es,ep,kp D o hD ho,a,b,c,λx hx=>Y5 z kp (d x hx),e⟩
noncomputable def putAll(xs:fZ)(ks:List (List Kx×Addr×Value)):fZ:=ks.foldl (λx y=>storedH x y.1 y.2.1 y.2.2) xs
section
variable {prog:Program}{w:World}{A:Around}{R:Result->Shared->Prop}{I D l:Addr}{items:Array Value}{ks:List (List Kx×Addr×Value)}
theorem zeR(hh:A.handled=none)(hu:A.units+6<cLine)(Sw:l≠I)(hD:D∉[I,l])(hz:items.size<=sizeLine):∀(k j:Nat) (s:Shared) (xs:fZ) (c:Int),items.size-j=k->j<=items.size->
  (s.heap.IsListIter I l j/\s.heap.IsList l items)->pX s.heap items ks->s.heap.DictOfH (cF prog w) D xs->xs.length<=j->
  (∀h' tk,h'.DictOfH (cF prog w) D (putAll xs (ks.drop j))->(∀b o,b∉[I,D]->s.heap.get? b=some o->h'.get? b=some o)->R (.ok (.ret .none)) {s with heap:=h',toks:=tk})->
  codeAny (model prog w) A (.builtin "dict.update.loop" ⟨[.ref D,.ref I,rawInt c,.none],[]⟩) R s:=by
 have W:=Walks.list (prog:=prog) (w:=w) (A:=A.in1) hh I l Sw items;intro k
 induction k with
 |zero=>
  intro j s xs c e1 e2 st g dd hx q;refine yE Y4 ?_;rw[yr Lw _];show wpAny _ A.in1 (pyNext (.ref I) >>= _) _ _ s;refine aA (W.done s _ _ ((show j=items.size by lia)▸st) λh' tk kp=>?_);have ed:ks.drop j=[]:=List.drop_eq_nil_of_le (by have:=g.1;lia);rw[ed] at q;show wpAny _ _ (do Builtin.Dict.addKeywords D [];ret Value.none) _ _ _;unfold Builtin.Dict.addKeywords
  wp_walk
  exact q h' tk (Y6 st.1 kp (λz=>hD (by simp at z;simp[z])) dd) λb o hb e=>kp b o (λz=>hb (by simp at z;simp[z])) e
 |succ k ih=>
  intro j s xs c e1 e2 st g dd hx q;refine yE Y4 ?_;rw[yr Lw _];show wpAny _ A.in1 (pyNext (.ref I) >>= _) _ _ s;refine aA (W.item j s _ _ gV st λv h' tk hP st' kp=>?_);obtain⟨p,k0,a,u,rfl,ek,Y7,hi⟩:=g.2 j v hP;obtain⟨o,ho,Ka,n,hod⟩:=id Y7;have ho':=kp p o (λz=>(Sv st.1).1 _ (by rw[jG] at z;rw[<-z];exact Y7)) ho;dsimp only;refine aA (m6 ?_);refine aA (m:=tryCatch (Builtin.Dict.pairItems (.ref p)) _) (DY ?_);unfold Builtin.Dict.pairItems;refine aA (B_ ⟨o,ho',Ka⟩ ?_);simp only[BEq.rfl,Bool.or_true,if_true];refine aA (oO ho' hod ?_);refine aO ?_;show wpAny _ _ (holding [.ref a,u] (dictSet D (.ref a) u)) _ _ _;have Ba:∀{d:Mi.D} {u:Value},Is s.heap d u->Is h' d u:=λx=>Y5 st.1 kp x;have Lx:=Y6 st.1 kp (λz=>hD (by simp at z;simp[z])) dd;obtain⟨od,es,ep,q1,q2,q3,_⟩:=id Lx;refine m6 (wpAny_dictSet_heap (knd:=cF prog w) (s:={s with heap:=h',toks:=tk}) (show A.in1.units+4<cLine by show A.units+1+4<cLine;lia) (Ba hi) Lx (λh2 dd2 sb=>?_) gV);have Sx:∀{b:Addr} {xs:Array Value},s.heap.IsTuple b xs->h2.IsTuple b xs:=λ{b xs} z=>by
   obtain⟨o,e,r1,n,r2⟩:=id z;have e1:=kp b o (λy=>(Sv st.1).1 _ (by rw[jG] at y;rw[<-y];exact z)) e;refine⟨o,(sb.2 b λy=>?_).trans e1,r1,n,r2⟩;subst y;rw[e1] at q1;cases q1;rw[q3] at r2;cases r2
  have oth:∀b o,b∉[I,D]->s.heap.get? b=some o->h2.get? b=some o:=λb o hb e=>(sb.2 b λy=>hb (by simp[y])).trans (kp b o (λz=>hb (by simp at z;simp[z])) e);refine aO ⟨yH Lw _,ih (j+1) _ _ (c+1) gV gV (W.frame _ _ _ st' λb hb o e=>(sb.2 b λy=>hD (by rw[<-y];exact hb)).trans e) ⟨g.1,λi' v' e'=>?_⟩ dd2 ?_ λh3 tk3 dd3 Bc=>?_⟩
  ·obtain⟨p',k',a',u',r1,r2,r3,r4⟩:=g.2 i' v' e';exact⟨p',k',a',u',r1,r2,Sx r3,(cF prog w).keeps (Ba r4) q1 q3 sb⟩
  ·unfold storedH
   split
   ·rw[cY];lia
   ·simp;lia
  ·refine q h3 tk3 ?_ λb o hb e=>Bc b o hb (oth b o hb e);have ed:ks.drop j=(k0,a,u)::ks.drop (j+1):=by
    have hj:=(gD.mp ek).1;rw[List.drop_eq_getElem_cons hj,(gD.mp ek).2]
   rw[ed];exact dd3
theorem zbm{s:Shared}{E:Value->Shared->Prop}{Q:Value->Shared->Prop}(hh:A.handled=none)(hu:A.units+8<cLine)(hl:s.heap.IsList l items)(hld:∀o,s.heap.get? l=some o->o.dict=none)(g:pX s.heap items ks)(hz:items.size<=sizeLine)
  (q:∀h' tk,h'.DictOfH (cF prog w) s.heap.objs.size (putAll [] ks)->(∀b o,s.heap.get? b=some o->h'.get? b=some o)->Q (.ref s.heap.objs.size) {s with heap:=h',toks:=tk}) :
  wpAny (model prog w) A (PySem.call (.type "dict") [.ref l]) Q E s:=by
 refine callType_codes (Q₁:=λobj s₁=>obj=.ref s.heap.objs.size/\s₁={s with heap:=s.heap.push {cls:=.type "dict",data:=.dict #[]}}) F.kt_called_dict (F.kt_typeCall_dict_1 _) F.entry_dict_init (kt_code_dict_new _ ⟨rfl,rfl⟩) ?_;rintro obj s₁ ⟨rfl,rfl⟩;have Bf:(s.heap.push {cls:=.type "dict",data:=.dict #[]}).DictOfH (cF prog w) s.heap.objs.size []:=Heap.DictOfH.new s.heap;have k0:∀b o,s.heap.get? b=some o->(s.heap.push {cls:=.type "dict",data:=.dict #[]}).get? b=some o:=λb o e=>cO _ e;obtain⟨ol,e1,e2,n,e3⟩:=id hl;have fX:l<s.heap.objs.size:=bV e1;refine⟨Bf.typeIs,F.args_dict_init_2 _ _,?_⟩;unfold Builtin.«dict.__init__»;refine aA ?_;unfold Builtin.Dict.selfAndRest;refine aA (wpAny_notOrdered_dict Bf.typeIs ?_);show wpAny _ _ (pure (s.heap.objs.size,[Value.ref l])) _ _ _;refine aO ?_;show wpAny _ _ (Builtin.Dict.updateFrom "dict.__init__" s.heap.objs.size (.ref l) [] .none) _ _ _;unfold Builtin.Dict.updateFrom;refine aA (B_ ⟨ol,k0 _ _ e1,e2⟩ ?_);rw[if_pos J0];refine aA (zbT (k0 _ _ e1) e2 e3 (hld _ e1) (by first|exact hh|simp[hh]) λh1 tk e x=>?_);simp only[Option.isNone_none,if_true];refine aA (wC ?_);have k1:∀b o,s.heap.get? b=some o->h1.get? b=some o:=λb o e=>x.keeps b o (k0 b o e);have Sy:h1.IsList l items:=hl.at λo e=>k1 l o e;refine aA (JL Sy ?_);have hI:∀b o,h1.get? b=some o->b≠h1.objs.size:=λb o e=>dM (bV e);have k2:∀b o,h1.get? b=some o->(h1.push {cls:=.type "list_iterator",data:=.fields #[.ref l,.int 0 0]}).get? b=some o:=λb o e=>cO _ e;have Lx:h1.DictOfH (cF prog w) s.heap.objs.size []:=by
  obtain⟨o,es,ep,a1,a2,a3,a4,a5,a6⟩:=Bf;exact⟨o,es,ep,x.keeps _ _ a1,a2,a3,a4,λx hx=>(nomatch hx),a6⟩
 obtain⟨od,es,ep,a1,a2,a3,a4,a5,a6⟩:=Lx;refine aO ⟨yH Lw _,?_⟩;refine zeR (I:=h1.objs.size) (l:=l) (items:=items) (ks:=ks) (by first|exact hh|simp[hh]) (by show A.units+1+6<cLine;lia) (hI l _ (k1 _ _ e1)) (λz=>?_) hz items.size 0 _ [] 0 gV gV ⟨⟨_,fC _ rfl,rfl,rfl⟩,Sy.at λo e=>k2 l o e⟩ ⟨g.1,λi v e=>?_⟩
  ⟨od,es,ep,k2 _ _ a1,a2,a3,a4,λx hx=>(nomatch hx),a6⟩ Qi λh' tk' dd kp=>?_
 ·rcases gG.mp z with z|z
  ·exact hI _ _ a1 z
  ·rw[jG] at z;exact absurd fX (by rw[z];exact lM _)
 ·obtain⟨p,k,a,u,r1,r2,r3,r4⟩:=g.2 i v e;exact⟨p,k,a,u,r1,r2,r3.at λo e=>k2 _ _ (k1 _ _ e),Rf (λb xs z=>z.at λo e=>k2 _ _ (k1 _ _ e)) (λb xs z=>z.at λo e=>k2 _ _ (k1 _ _ e)) r4⟩
 ·rw[List.drop_zero] at dd;refine⟨rfl,q h' tk' dd λb o e=>kp b o (λz=>?_) (k2 _ _ (k1 _ _ e))⟩;rcases gG.mp z with z|z
  ·exact hI _ _ (k1 _ _ e) z
  ·rw[jG] at z;exact absurd (bV e) (by rw[z];exact lM _)
end
end Mi
end Lake
namespace PySem
open Lake
section
variable {prog:Program}{w:World}{K:Type}[DecidableEq K]{knd:HeapKind prog w K}{A:Around}{E:Value->Shared->Prop}{s:Shared}
theorem zbH(d:Addr)(hd:(d==sysModules)=false) :
  MeetsIn prog w (Builtin.«dict.__len__» ⟨[.ref d],[]⟩) (λ_ R s=>∃xs,s.heap.DictOfH knd d xs/\R (.ok (.ret (.int xs.length s.toks))) {s with toks:=s.toks+1}):=
 .of_wp λA R s ⟨xs,hm,h⟩=>by
  obtain⟨o,es,ep,ho,hc,vY,he,hi,hn⟩:=hm;show wpAny _ _ (dictSize d >>= _) _ _ s;unfold dictSize;refine aA (aA (wpAny_dictEntries ho vY (aO ?_)));show wpAny _ _ (Builtin.Dict.pendingCount d >>= _) _ _ s;refine aA (wpAny_pendingCount_other hd ?_);refine wpAny_ret_mkInt ?_;rw[Nat.add_zero,size_of_entries he];exact h
theorem zcf{d:Addr}{xs:List (K×Addr×Value)}{Q:Value->Shared->Prop}(hd:(d==sysModules)=false)(hm:s.heap.DictOfH knd d xs)(aad:(xs.length:Int)<2^63)
  (h:Q (.int xs.length (s.toks+1)) {s with toks:=s.toks+1+1}):wpAny (model prog w) A (call (.builtin "len") [.ref d]) Q E s:=by
 refine Calls.call_function_entry kind_len plain_len entry_len (args_len1 _) ?_;unfold Builtin.«len»;refine aA (m:=oneArg "len" _) (aO ?_);refine aA (m:=callSpecial? (.ref d) (Str.ofString "__len__")) (yp (name:=Str.ofString "__len__") hm.typeIs F.slot_dict_len
  (call_meetsIn F.slot_dict_len hm.typeIs F.entry_dict_len (F.args_dict_len_1 _) (zbH (knd:=knd) d hd) ⟨xs,hm,?_⟩))
 show wpAny _ _ _ _ _ {s with toks:=s.toks+1};refine aA (m6 (aO ?_));refine aA (wB ?_);show wpAny _ _ (if ((xs.length:Nat):Int)<0 then _ else _) _ _ _;rw[if_neg gV];show wpAny _ _ (if ((xs.length:Nat):Int)>=2^63 then _ else _) _ _ _;rw[if_neg gV];exact aA (wpAny_mkInt (aO ⟨_,rfl,h⟩))
end
end PySem
namespace Lake
namespace Mi
open PySem PySem.Spec PyProof.Rows L2
def Bg(h:Heap)(its:List Value)(ks:List (List Kx×Addr×Value)):Prop:=its.length=ks.length/\∀(i:Nat) (v:Value),its[i]?=some v->∃(p:Addr) (k:List Kx) (a:Addr) (u:Value),v=Value.ref p/\ks[i]?=some (k,a,u)/\h.IsTuple p #[Value.ref a,u]/\Is h (jz k) (.ref a)
section
variable {X:Cx}{cA:Cl}{ao:List (Addr×Obj)}{Z:L2.St}{H:Hp}{s:Shared}{U:Ph}
theorem Y8(I:Inv X ao Z H s):∀{ds:List D} {us:List V} {its:List Value} {r kvs:jR},aC X.K cA U H ds us->Vals us its->cC ds r=some kvs->
  ∃ks,Bg s.heap its ks/\∀xs,iG X.K cA U H r xs->iG X.K cA U H kvs (putAll xs ks)
 |[],_,its,r,kvs,q,rv,e=>by
  cases q;cases rv;cases e;exact⟨[],⟨rfl,λi v e=>by simp at e⟩,λxs h=>h⟩
 |d::ds,us,its,r,kvs,q,rv,e=>by
  cases q with
  |cons rd q=>
  cases rv with
  |cons ru rv=>
  unfold cC at e;split at e
  ·cases ‹_::_=[]›
  ·rename_i k v t heq;cases heq;split at e
   ·rename_i kx ek;cases rd with
    |@tup ad _ vs h1 h2=>
    cases (show _=Value.ref ad from ru);obtain⟨its2,wW,ht,_⟩:=I.tuple h1.iQ;cases h2 with
    |cons rk h2=>
    cases h2 with
    |cons rw h2=>
    cases h2;obtain⟨uk0,Y9,rfl,uk,uw⟩:=vals2 wW;rw[zk0 ek] at rk;obtain⟨b,rfl⟩:=ziJ (X:=X) (d:=.non) rk;cases (show uk0=Value.ref b from uk);obtain⟨ks,⟨g1,g2⟩,g3⟩:=Y8 I q rv e;refine⟨(kx,b,Y9)::ks,⟨by simp[g1],λi v e=>?_⟩,λxs h=>?_⟩
    ·cases i with
     |zero=>
      cases e;obtain⟨o,z1,z2,n,z3⟩:=ht;exact⟨ad,kx,b,Y9,rfl,rfl,⟨o,z1,z2,n,z3⟩,sW I rk rfl⟩
     |succ i=>exact g2 i v e
    ·exact g3 _ (h.put rk uw rw)
   ·cases e
  ·cases e
end
def IV(K:W.Frag)(cA:Cl)(vs:List V)(H:Hp)(Q:VK):Prop:=∃(l:Addr) (U:Ph) (ds:List D) (us:List V) (kvs:jR),vs=[.ref l]/\eE K H l us/\aC K cA U H ds us/\ds.length<=sizeLine/\cC ds []=some kvs/\∀p,H p=none->∀xs,xs.length<=sizeLine->iG K cA U H kvs xs->Q (.ref p) (upd H p (zW p xs))
section
variable {X:Cx}{cA:Cl}
theorem Y_:∀{ks:List (List Kx×Addr×Value)} {xs:fZ},(putAll xs ks).length<=xs.length+ks.length
 |[],xs=>cL _
 |k::ks,xs=>by
  have:=Y_ (ks:=ks) (xs:=storedH xs k.1 k.2.1 k.2.2);have h2:=zeE (xs:=xs) (k:=k.1) (b:=k.2.1) (u:=k.2.2);show (putAll (storedH xs k.1 k.2.1 k.2.2) ks).length<=_;rw[dB]
  lia
theorem zem(hc:X.aj=true)(hu:X.A.units+8<cLine):cG X (.type "dict") (IV X.K cA):=by
 rintro ao s Z H xs us Q I r ⟨l,U,ds,ws,kvs,e,hl,rp,hz,ek,q⟩;subst e;obtain⟨u,rfl,ru⟩:=Vals.one r;cases (show u=Value.ref l from ru);obtain⟨its,rv,pl,hz2⟩:=I.list hl;obtain⟨ks,⟨g1,g2⟩,g3⟩:=Y8 I rp rv ek;have hL:=rv.length;have hR:=rp.len;refine zbm (I.ok.hd hc) hu pl.isList (λo e=>?_) (ks:=ks) ⟨by simpa using g1,λi v e=>g2 i v (by simpa using e)⟩ (by simp;lia) λh' tk dd kp=>?_
 ·obtain⟨o',n,e1,_,e3,_⟩:=pl;rw[e1] at e;cases e
  first|exact e3|assumption
 ·obtain⟨o,es,ep,a1,a2,a3,a4,a5,a6⟩:=dd;have hn:H s.heap.objs.size=none:=I.hok.fresh (cL _);have hlen:(putAll [] ks).length<=sizeLine:=by have:=Y_ (ks:=ks) (xs:=[]);simp at this;lia
  exact⟨.ref s.heap.objs.size,_,I.laid (a:=s.heap.objs.size) (o:=zW s.heap.objs.size (putAll [] ks)) (t':=tk) kp (cL _)
   ⟨⟨Br.mpr (Ne.symm (dM I.big)),hlen,o,es,ep,a1,a2,a3,a4,a6⟩,⟨_,a1⟩,λh1 h2 ⟨a1,a2,o,es,ep,a3,a4⟩ kp=>⟨a1,a2,o,es,ep,kp o a3,a4⟩⟩,rfl,q _ hn _ hlen (g3 [] .nil)⟩
def IW(K:W.Frag)(cA:Cl)(vs:List V)(H:Hp)(Q:VK):Prop:=∃(a:Addr) (U:Ph) (kvs:jR) (xs:fZ),vs=[.ref a]/\H a=some (zW a xs)/\iG K cA U H kvs xs/\Q (.int kvs.length) H
theorem zft:cG X (.builtin "len") (IW X.K cA):=by
 rintro ao s Z H vs us Q I r ⟨a,U,kvs,xs,e,ha,rr,q⟩;subst e;obtain⟨u,rfl,ru⟩:=Vals.one r;cases (show u=Value.ref a from ru);obtain⟨z1,z2,dd⟩:=zkp I ha rr;have hs:(sizeLine:Int)<2^63:=by decide
 rw[rr.len] at q;exact zcf z1 dd gV ⟨.int (xs.length:Nat),H,I.tok _,⟨_,rfl⟩,q⟩
end
section
variable {X:Cx}{cA:Cl}{aq:Nat->Nat->Bool}{aj:Bool}{F:Fn}{EX:XS}{a:Expr}{A:E}{pos p:Pos}
theorem zjQ(hm:X.mg "len"=none)(hg:JK X "len" .globalImplicit)(ha:JE X cA aq aj F EX a A)(he:aF a=true:=by rfl):JE X cA aq aj F EX (.Call (.Name "len" p) [a] [] pos) (.qu A):=
 ⟨PE.weak (Kp (zft (cA:=cA)) hg.o hm PySem.boot_len (oZ ha.o u5 (aX he)) J0 J0 (aX he) (bf rfl)) λZ H Q hh=>un hh λU J s hL hS h=>
  bI hL hS h λv H1 U1 d1 s1 x1 hL1 aG r1 h1=>by
   obtain⟨n,ad,kvs,xs,_,rfl,e1,e2,e3,rr,h4⟩:=ze7 aG r1 h1;exact⟨ad,U1,kvs,xs,rfl,e3,rr,h4.bR aG _ (.d (.int _))⟩⟩
theorem zlR{k:Nat}(hr:bB k X.A)(hc:X.aj=true)(hm:X.mg "dict"=none)(hg:JK X "dict" .globalImplicit)(ha:JE X cA aq aj F EX a A)(he:aF a=true:=by rfl):JE X cA aq aj F EX (.Call (.Name "dict" p) [a] [] pos) (.Cz A):=
 ⟨PE.weak (V_ (zem (cA:=cA) hc (by have:=hr.un;lia)) hg.o hm PyProof.Rows.boot_dict (oZ ha.o u5 (aX he)) J0 J0 (aX he) (bf rfl)) λZ H Q hh=>un hh λU J s hL hS h=>
  bI hL hS h λv H1 U1 d1 s1 x1 hL1 aG r1 h1=>by
   obtain⟨w,_,mz,h2⟩:=Q5 r1 h1;obtain⟨kvs,ek,h3⟩:=Hs h2;cases w with
   |fl ds=>
    have ek:(if ds.length<=sizeLine then cC ds [] else none)=some kvs:=ek;split at ek
    ·rename_i hz;cases mz with
     |@fl ad _ vs q1 q2=>
     refine⟨ad,U1,ds,vs,kvs,rfl,q1.sU,q2,hz,ek,λp hp xs hl kr=>?_⟩;have x2:Ext U1 H1 (U1.add p) (upd H1 p (zW p xs)):=Ext.add hp;exact h3 (U1.add p) _ x2 (aG.Hr hp ⟨xs,jH,kr.map λ_ _ r=>r.mono x2 aG.lz⟩) _ (.l (by show (U1.l++[p])[s1.length]?=_;rw[<-aG.len];simp))
    ·cases ek
   |_=>cases (show (none:Option jR)=some kvs from ek)⟩
end
section
variable {prog:Program}{w:World}{A:Around}{R:Result->Shared->Prop}{I S l:Addr}{items:Array Value}{rows:List (List Int)}
theorem zdG(hh:A.handled=none)(hu:A.units+1<cLine)(Sw:l≠I)(hS:S∉[I,l]):∀(k j:Nat) (s:Shared) (vb:Value) (c:Nat),items.size-(j+1)=k->j+1<=items.size->(s.heap.IsTupleIter I l (j+1)/\s.heap.IsTuple l items)->items[argBest (yd rows) j]?=some vb->fu s.heap items rows [I,S]->
  s.heap.get? S=some (seqObj "list" #[vb,vb] c)->(∀v h' tk,items[argBest (yd rows) (items.size-1)]?=some v->(∀b o,b∉[I,S]->s.heap.get? b=some o->h'.get? b=some o)->R (.ok (.ret v)) {s with heap:=h',toks:=tk})->
  codeAny (model prog w) A (.builtin "min.loop" ⟨[.ref I,.none,.ref S],[]⟩) R s:=by
 have W:=Walks.tuple (prog:=prog) (w:=w) (A:=A.in1) hh I l Sw items;have nm:(toString "min"++toString ".loop" : String)="min.loop":=by decide
 have SI:S∉[I]:=λz=>hS (by simp at z;simp[z]);intro k
 induction k with
 |zero=>
  intro j s vb c e1 e2 st hb g oS q;refine yE F.entry_min_loop ?_;rw[yr yD _];refine aA (m:=seqItems? (.ref S)) (oO oS rfl ?_);refine aA (m:=tryCatch (pyNext (.ref I)) _) (DY (W.done s _ _ ((show j+1=items.size by lia)▸st) λh' tk kp=>?_));refine aA (m:=updateSeq S λ_=>#[]) (wpAny_updateSeq (kp S _ SI oS) rfl (aA (wB (aO (q vb _ tk ?_ λb o hb e=>?_)))))
  ·rw[show items.size-1=j by lia];exact hb
  ·exact(uH _ _ (λz=>hb (by simp[z]))).trans (kp b o (λz=>hb (by simp at z;simp[z])) e)
 |succ k ih=>
  intro j s vb c e1 e2 st hb g oS q;refine yE F.entry_min_loop ?_;rw[yr yD _];refine aA (m:=seqItems? (.ref S)) (oO oS rfl ?_);refine aA (m:=tryCatch (pyNext (.ref I)) _) (DY (W.item (j+1) s _ _ gV st λv h' tk hP st' kp=>?_));have SJ:=kp S _ SI oS;have g':fu h' items rows [I,S]:=g.keep λb o hb e=>kp b o (λz=>hb (by simp at z;simp[z])) e;refine aA (m:=tryCatch (holding [v,v] (richCompare .Lt v vb >>= _)) _) (DY (m6 (aA (zix (A:=A.in1) (s:={s with heap:=h',toks:=tk}) hu g' hP hb ?_))));refine aA (m6 (yw (aA (wB (aO ?_)))));cases e3:yd rows (j+1) (argBest (yd rows) j) with
  |true=>
   simp only[if_true];refine aA (wpAny_updateSeq SJ rfl (aA (wB ?_)));rw[nm];have Dm:∀b o,b≠S->h'.get? b=some o->(h'.update S (Obj.mapSeq λ_=>#[v,v])).get? b=some o:=λb o hb e=>(uH _ _ (Ne.symm hb)).trans e;refine aO ⟨yH yD _,ih (j+1) _ v _ gV gV (W.frame _ _ _ st' λb hb o e=>Dm b o (λz=>hS (by rw[<-z];exact hb)) e) (by simp only[argBest,e3,if_true];exact hP) (g'.keep λb o hb e=>Dm b o (λz=>hb (by simp[z])) e) (yq _ SJ rfl) λv' h2 tk2 I8 Bc=>q v' h2 tk2 I8 λb o hb e=>Bc b o hb (Dm b o (λz=>hb (by simp[z])) (kp b o (λz=>hb (by simp at z;simp[z])) e))⟩
  |false=>
   simp only[uc,qd];refine aA (wB ?_);rw[nm];exact aO ⟨yH yD _,ih (j+1) _ vb c gV gV st' (by simp only[argBest,e3,uc,qd];exact hb) g' SJ λv' h2 tk2 I8 Bc=>q v' h2 tk2 I8 λb o hb e=>Bc b o hb (kp b o (λz=>hb (by simp at z;simp[z])) e)⟩
theorem zds{s:Shared}{E:Value->Shared->Prop}{Q:Value->Shared->Prop}(hh:A.handled=none)(hu:A.units+2<cLine){a b:Value}(g:fu s.heap #[a,b] rows [])
  (q:∀v h' tk,#[a,b][argBest (yd rows) 1]?=some v->(∀b o,s.heap.get? b=some o->h'.get? b=some o)->Q v {s with heap:=h',toks:=tk}):wpAny (model prog w) A (PySem.call (.builtin "min") [a,b]) Q E s:=by
 have nm:(toString "min"++toString ".loop" : String)="min.loop":=by decide
 refine call_function_tree F.kind_min F.plain_min F.entry_min (F.args_min2 _ _) ?_;show wpAny _ A.in1 (Builtin.Builtins.bindParams "min" ["key","default"] 0 ⟨[],[]⟩ >>= _) _ _ s;refine aA (Ca (show Builtin.Builtins.bindParams "min" ["key","default"] 0 ⟨[],[]⟩=pure [none,none] from rfl) ?_);show wpAny _ A.in1 (newTuple [a,b] >>= _) _ _ s;refine aA (qb ?_);have hl:(s.heap.push {cls:=.type "tuple",data:=.seq #[a,b]}).IsTuple s.heap.objs.size #[a,b]:=⟨_,fC _ rfl,rfl,0,rfl⟩;have hold:∀c o,s.heap.get? c=some o->(s.heap.push {cls:=.type "tuple",data:=.seq #[a,b]}).get? c=some o:=λc o e=>cO _ e;have fX:s.heap.objs.size<(s.heap.push {cls:=.type "tuple",data:=.seq #[a,b]}).objs.size:=by rw[uo];exact DN _
 have g:fu (s.heap.push {cls:=.type "tuple",data:=.seq #[a,b]}) #[a,b] rows []:=g.keep λb o _ e=>hold b o e;have h0:0<(#[a,b]:Array Value).size:=by simp
 have q:∀v h' tk,#[a,b][argBest (yd rows) ((#[a,b]:Array Value).size-1)]?=some v->(∀b o,s.heap.get? b=some o->h'.get? b=some o)->Q v {s with heap:=h',toks:=tk}:=q;show wpAny _ A.in1 (pyIter (.ref s.heap.objs.size) >>= _) _ _ {s with heap:=s.heap.push {cls:=.type "tuple",data:=.seq #[a,b]}};generalize s.heap.push {cls:=.type "tuple",data:=.seq #[a,b]}=lJ at *;generalize s.heap.objs.size=l at hl fX ⊢;refine aA (wpAny_pyIter_tuple hl (aA (qb ?_)));rw[nm];have n1:(lJ.push {cls:=.type "tuple_iterator",data:=.fields #[.ref l,.int 0 0]}).objs.size=lJ.objs.size+1:=uo ..;refine aO ⟨yH yD _,?_⟩;refine yE F.entry_min_loop ?_;rw[yr yD _];have W:=Walks.tuple (prog:=prog) (w:=w) (A:=A.in1) hh lJ.objs.size l (dM fX) #[a,b];have oS:((lJ.push {cls:=.type "tuple_iterator",data:=.fields #[.ref l,.int 0 0]}).push (seqObj "list" #[] 0)).get? (lJ.objs.size+1)=some (seqObj "list" #[] 0):=by rw[<-n1];exact fC _ rfl
 have k0:∀b o,lJ.get? b=some o->((lJ.push {cls:=.type "tuple_iterator",data:=.fields #[.ref l,.int 0 0]}).push (seqObj "list" #[] 0)).get? b=some o:=λb o e=>cO _ (cO _ e);rw[n1];refine aA (m:=seqItems? (.ref (lJ.objs.size+1))) (oO oS rfl ?_);refine aA (m:=tryCatch (pyNext (.ref lJ.objs.size)) _) (DY (W.item 0 _ _ _ h0 ⟨⟨_,cO _ (fC _ rfl),rfl,rfl⟩,hl.at λo e=>k0 l o e⟩ λv h' tk hP st' kp=>?_));have ne1:lJ.objs.size+1∉[lJ.objs.size]:=by simp
 refine aA (m:=updateSeq (lJ.objs.size+1) λ_=>#[v,v]) (wpAny_updateSeq (kp _ _ ne1 oS) rfl ?_);rw[nm];have Dm:∀b o,b≠lJ.objs.size+1->h'.get? b=some o->(h'.update (lJ.objs.size+1) (Obj.mapSeq λ_=>#[v,v])).get? b=some o:=λb o hb e=>(uH _ _ (Ne.symm hb)).trans e;have I9:∀b o,lJ.get? b=some o->(h'.update (lJ.objs.size+1) (Obj.mapSeq λ_=>#[v,v])).get? b=some o:=λb o e=>Dm b o (dM (uJ (bV e))) (kp b o (by simpa using dM (bV e)) (k0 b o e));have out:∀b o,lJ.get? b=some o->b∉[lJ.objs.size,lJ.objs.size+1]:=λb o e z=>by
  rcases gG.mp z with z|z
  ·exact absurd z (dM (bV e))
  ·exact absurd (jG.mp z) (dM (uJ (bV e)))
 refine aO ⟨yH yD _,zdG (A:=A) (rows:=rows) hh gV (dM fX) (λz=>by
  rcases gG.mp z with z|z
  ·exact absurd z (Nat.succ_ne_self _)
  ·exact absurd (jG.mp z) (uO (uJ fX))) _ 0 _ v _ rfl h0 (W.frame _ _ _ st' λb hb o e=>Dm b o (λz=>by
  rcases gG.mp hb with y|y
  ·exact absurd (z.symm.trans y) (Nat.succ_ne_self _)
  ·exact absurd (z.symm.trans (jG.mp y)) (uO (uJ fX))) e) hP ?_ (yq _ (kp _ _ ne1 oS) rfl) λv' h2 tk2 I8 Bc=>q v' h2 tk2 I8 λb o e=>Bc b o (out b o (hold b o e)) (I9 b o (hold b o e))⟩
 intro i u e;obtain⟨c,xs,e1,⟨o,e2,r⟩,e3,_⟩:=g i u e;exact⟨c,xs,e1,⟨o,I9 c o e2,r⟩,e3,out c o e2⟩
end
def yg(K:W.Frag)(vs:List V)(H:Hp)(Q:VK):Prop:=∃(a b:Addr) (ns ms:List Int),vs=[.ref a,.ref b]/\fV K H a (ns.map V.int)/\fV K H b (ms.map V.int)/\Q (.ref (if ltI ms ns=true then b else a)) H
section
variable {X:Cx}{cA:Cl}
theorem zga(hc:X.aj=true)(hu:X.A.units+2<cLine):cG X (.builtin "min") (yg X.K):=by
 rintro ao s Z H xs us Q I r ⟨a,b,ns,ms,e,ha,hb,q⟩;subst e;obtain⟨u,u2,rfl,ru,ru2⟩:=vals2 r;cases (show u=Value.ref a from ru);cases (show u2=Value.ref b from ru2);obtain⟨its,rv,p,_⟩:=I.tuple ha;obtain⟨its2,wW,p2,_⟩:=I.tuple hb;refine zds (rows:=[ns,ms]) (I.ok.hd hc) hu (λi v e=>?_) λv h' tk hP hk=>?_
 ·match i,e with
  |0,e=>cases e;exact⟨a,_,rfl,p,by simpa using Ss rv,by simp⟩
  |1,e=>cases e;exact⟨b,_,rfl,p2,by simpa using Ss wW,by simp⟩
  |i+2,e=>simp at e
 ·have eb:argBest (yd [ns,ms]) 1=if ltI ms ns=true then 1 else 0:=by
   show (if HT.lexLt ms ns=true then 1 else 0)=_;rw[HB]
  rw[eb] at hP;have ev:v=.ref (if ltI ms ns=true then b else a):=by
   split at hP
   ·rename_i z;rw[if_pos z];cases hP;rfl
   ·rename_i z;rw[if_neg z];cases hP;rfl
  subst ev;exact⟨.ref _,H,I.kept (h':=h') (t':=tk) hk,rfl,q⟩
end
section
variable {X:Cx}{cA:Cl}{aq:Nat->Nat->Bool}{aj:Bool}{F:Fn}{EX:XS}{e1 e2:Expr}{A B:E}{pos p:Pos}
theorem zjc{J:Vs}{s:S}:ev aq aj F (.pr true .nW (.cons (.lst true (.cons A (.cons B .nil))) .nil)) J s=(M.bd (ev aq aj F A J) λx=>M.bd (ev aq aj F B J) λy=>M.bd (bW [x,y]) λds=>b_ true (sJ [.fl ds])) s:=by
 show M.bd (M.bd (M.bd (M.bd (ev aq aj F A J) λx=>M.bd (M.bd (ev aq aj F B J) λy=>M.bd (M.ret []) λys=>M.ret (y::ys)) λxs=>M.ret (x::xs)) λvs=>M.bd (bW vs) λds=>newL true ds) λx=>M.bd (M.ret []) λxs=>M.ret (x::xs)) (λvs=>M.bd (gw vs) λds=>b_ true (prim .nW ds)) s=_;unfold M.bd;cases ev aq aj F A J s with
 |none=>rfl
 |some q=>
  obtain⟨q,s'⟩:=q;cases q with
  |er c f=>rfl
  |ok x=>
   dsimp only;cases ev aq aj F B J s' with
   |none=>rfl
   |some q=>
    obtain⟨q,s'⟩:=q;cases q with
    |er c f=>rfl
    |ok y=>
     dsimp only[M.ret];cases bW [x,y] s' with
     |none=>rfl
     |some q=>
      obtain⟨q,s'⟩:=q;cases q<;>rfl
theorem zjY{k:Nat}(hr:bB k X.A)(hc:X.aj=true)(hm:X.mg "min"=none)(hg:JK X "min" .globalImplicit)(ha:JE X cA aq aj F EX e1 A)(hb:JE X cA aq aj F EX e2 B)(he:aF e1=true:=by rfl)(RN:aF e2=true:=by rfl)(cP:[e2].all aF=true:=by rfl):JE X cA aq aj F EX (.Call (.Name "min" p) [e1,e2] [] pos) (.pr true .nW (.cons (.lst true (.cons A (.cons B .nil))) .nil)):=
 ⟨PE.weak (Kp (zga hc (by have:=hr.un;lia)) hg.o hm PyProof.Rows.boot_min (oZ ha.o (oZ hb.o u5 (aX RN)) (aX he)) J0 J0 (aX he) (bf cP)) λZ H Q hh=>un hh λU J s hL hS h=>by
  have h:Run X.K cA (M.bd (ev aq aj F A J) λx=>M.bd (ev aq aj F B J) λy=>M.bd (bW [x,y]) λds=>b_ true (sJ [.fl ds])) U H s (λx _ U' H'=>∀v,aW X.K cA U' H' x v->Q v H') (eX X.K cA EX Z):=by
   unfold Run at h ⊢;rw[<-zjc];exact h
  refine bI hL hS h λv1 H1 U1 d1 s1 x1 hL1 aG r1 h1=>bI hL1 aG h1 λv2 H2 U2 d2 s2 x2 hL2 aV r2 h2=>?_;obtain⟨ws,e,rs,h3⟩:=K4 (xs:=[d1,d2]) (vs:=[v1,v2]) (.cons (r1.mono x2 aG.lz) (.cons r2 .nil)) h2;have o:=sV aV h3
  match ws,e,rs,o with
  |[a,b],e,rs,o=>
   have o:bC X.K cA U2 H2 (match fL [a,b] with|some (x::r)=>some (.dat (.tup ((pG x r).map .int)))|_=>none) Q:=o;show yg X.K [v1,v2] H2 Q;cases er:fL [a,b] with
   |none=>rw[er] at o;exact o.elim
   |some rows=>
    rw[er] at o;obtain⟨l,k⟩:=YZ er rs
    match rows,l,k,o with
    |[x,y],l,k,o=>
     obtain⟨p1,e1,t1⟩:=k 0 v1 rfl;obtain⟨p2,e2,t2⟩:=k 1 v2 rfl;subst e1 e2;have rr:∀is:List Int,aC X.K cA U2 H2 (is.map D.int) (is.map V.int):=λis=>by
      induction is with
      |nil=>exact .nil
      |cons j is ih=>exact .cons (.int j) ih
     have o:bC X.K cA U2 H2 (some (.dat (.tup ((if ltI y x=true then y else x).map .int)))) Q:=o;refine⟨p1,p2,x,y,rfl,t1.iQ,t2.iQ,?_⟩
     split
     ·rename_i z;rw[if_pos z] at o;exact o.here (.tup t2 (rr _))
     ·rename_i z;rw[if_neg z] at o;exact o.here (.tup t1 (rr _))
    |[],l,_,_=>cases l
    |[_],l,_,_=>cases l
    |_::_::_::_,l,_,_=>cases l
  |[],e,_,_=>cases e
  |[_],e,_,_=>cases e
  |_::_::_::_,e,_,_=>cases e⟩
end
end Mi
namespace Mi
open PySem PySem.Spec PyProof.Rows L2 PySem.W
noncomputable def jU(K:Frag)(C:Addr)(m:Str):Addr:=match jV K C m with
 |some p=>p.1
 |none=>0
noncomputable def oK(K:Frag)(C:Addr)(m:Str)(st:Stmt):FuncData:=match jV K C m with
 |some p=>p.2
 |none=>Ce m m st
theorem zh5{fd:FuncData}{m q:Str}{st:Stmt}(h:lX fd=Ce m q st):fd=fnOf m q (aU st) (aH st) (au st) .none fd.kwdefaults fd.doc fd.pyModule fd.annotations fd.code fd.closureTuple:=by
 cases fd;unfold lX Ce at h;cases h;rfl
theorem zmp{K:Frag}{C:Addr}{m q:Str}{st:Stmt}(h:(jV K C m).map (λp=>lX p.2)=some (Ce m q st)):nq K m q st (jU K C m) (oK K C m st)/\Meth K C m (jU K C m):=by
 cases e:jV K C m with
 |none=>rw[e] at h;cases h
 |some p=>
  rw[e] at h;have hp:lX p.2=Ce m q st:=dJ h;have h1:jU K C m=p.1:=by unfold jU;rw[e]
  have h2:oK K C m st=p.2:=by unfold oK;rw[e]
  rw[h1,h2];unfold jV at e;split at e
  ·rename_i f hf;split at e
   ·rename_i oc od fd sl hl;split at e
    ·rename_i hc;cases e;simp only[gq] at hc;have eq:fd=_:=zh5 hp;have qn:fd.qualname=q:=by rw[eq]
     exact⟨⟨⟨oc,od,_,_,_,_,_,_,sl,eq,hl,by rw[<-qn];exact hc.1.1⟩,hc.1.2⟩,hf,hc.2,hc.1.2⟩
    ·cases e
   ·cases e
  ·cases e
structure pY(fs:List (Str×Stmt))(ms:List rz)(xs:List (Nat×Str))(l:Lk)(b:Bd)(K:Frag):Prop where
 i:mR fs ms xs l K
 m:∀p∈b.ms,nq K p.1 p.2.1 p.2.2 (jU K (dD K b.n) p.1) (oK K (dD K b.n) p.1 p.2.2)/\Meth K (dD K b.n) p.1 (jU K (dD K b.n) p.1)
 b:wI K b=true
noncomputable def j9(fs:List (Str×Stmt))(ms:List rz)(xs:List (Nat×Str))(l:Lk)(b:Bd):Hook where
 α:=(List (Option FuncData)×List (Option FuncData)×Bool)×(List (Option FuncData)×Bool)
 obs:=λs=>(kj fs ms xs l s,yM b s)
 val:=λw=>(lY fs ms w,yN b)
 says:=λ_ h=>∃K:Frag,K.In h/\pY fs ms xs l b K
 of:=λw s e=>by
  have e0:kj fs ms xs l s=lY fs ms w:=lW Prod.fst e;have e4:yM b s=yN b:=lW Prod.snd e;have e3:(_&&_&&_)=true:=lW (λx=>x.2.2) e0;rw[gq,gq,gY,gY] at e3;refine⟨bN s.heap,zgB,⟨λp hp=>?_,Kac e3.1.1,λm hm=>?_,e3.1.2,λx hx=>zlE (e3.2 x hx)⟩,λp hp=>?_,lW Prod.snd e4⟩
  ·exact zlA (Nm.mp (lW Prod.fst e0) p hp)
  ·exact zmA (Nm.mp (lW (λx=>x.2.1) e0) m hm)
  ·exact zmp (Nm.mp (lW Prod.fst e4) p hp)
 keeps:=λw h h' ⟨K,X,Y⟩ k=>⟨K,X.keeps k,Y⟩
theorem I_{l:OpenLaw}{k:Nat}{q:Program}{loose:List Str}{XP:(Str->Option Value)->Heap->Prop}{fs:List (Str×Stmt)}{ms:List rz}{xs:List (Nat×Str)}{lk:Lk}{b:Bd}{d:DefRec}{x:Str}(hn:l.most=some 63)(Pj:d.params.defaults=[])(hr:bB k callerA)
  (F:∀(w:World) (K:Frag) (mg:Str->Option Value) (fa:Addr) (h:Heap),pY fs ms xs lk b K->K.In h->h.Ns mainGlobals mg->mg d.name=some (.ref fa)->
   ∃fd:FuncData,(∀(s:Shared) (u:Value),BindsTo s fd ⟨[u],[]⟩ [(x,u)])/\∀base:Heap,K.In base->base.Ns mainGlobals mg->bY l.prog w K mg base (fK l.prog w) true k fa fd [x] (tL K)) :
  WalkO q loose XP (j9 fs ms xs lk b).says l.row.toRowW d [] (λf vs=>PySem.call f vs):=by
 refine Wh.mH hn Pj λw s₀ s₁ mg mb fa o pm cd doc a vs ns G Y ho hd jN hmg zu hints hlen hg=>?_;obtain⟨K,KX,SY⟩:=Y;obtain⟨fd,hb,hF⟩:=F w K mg fa _ SY KX G.T.g hmg;exact zgQ KX G.T.g G.T.b G.T.builtins G.T.nolimit hg zu hints (lN hlen J0) hr hF hb (λH hO hS=>⟨a,ns,rfl,hS,hlen,hO,λ_=>rfl⟩) λH e s' h=>by
  obtain⟨_,_,_,_,_,_,_,_,_,_,z⟩:=h;exact z
section
variable {K:Frag}{b:Bd}
theorem zmm{cA:Cl}(h:wI K b=true)(hb:cA.b 0=dD K b.n)(hg:cA.g 0=b.fs)(nd:b.fs.Nodup):Ow K cA 0:=by
 unfold wI at h;simp only[gq,m8,gY] at h;obtain⟨⟨⟨⟨⟨⟨⟨h1,h2⟩,h3⟩,h4⟩,h5⟩,h6⟩,h7⟩,h8⟩:=h;exact⟨by rw[hb];exact⟨h2,h3,h4,h5⟩,λf hf=>by rw[hb];rw[hg] at hf;exact h8 f hf,by rw[hg];exact nd⟩
theorem zmC{f:Addr}(h:wI K b=true)(m:Meth K (dD K b.n) "__init__" f):Mk K (dD K b.n) f:=by
 unfold wI at h;simp only[gq,m8,gY] at h;exact⟨h.1.1.2,m.at_,m.fn,h.1.2⟩
theorem zmv{h:Heap}{mg:Str->Option Value}(z:wI K b=true)(X:K.In h)(G:h.Ns mainGlobals mg):mg b.n=some (.ref (dD K b.n)):=by
 unfold wI at z;simp only[gq] at z;exact zlI z.1.1.1.1.1.1.1 X G
end
theorem bB.made{k:Nat}{A:Around}(r:bB (k+1) A)(env:Env)(C:Addr)(us:List Value):bB k ((A.deeper env).under (.builtin "type.__call__" ⟨.ref C::us,[]⟩)):=
 ⟨by have:=r.dp;rw[zes];show A.depth+1+1+3*k+5<_;lia,by have:=r.un;rw[zeQ];show A.units+3+1+16*k+200<_;lia,by
  have e:(A.deeper env).guards=some []:=r.gd;rw[<-e];cases h:(A.deeper env).guards<;>simp[Around.under,pushGuards,Code.guards,Code.isGuard,guardIds,h]⟩
section
variable {P:Program}{w:World}{K:Frag}{mg:Str->Option Value}{base:Heap}{cA:Cl}{aq:Nat->Nat->Bool}{T:Nat->Option Df}{x m q:Str}{st:Stmt}{ps:List Str}{k n:Nat}{cm:Bool}{df:Df}{C fa:Addr}{fd:FuncData}
theorem fM(D:Mt K C m q st ps fa fd)(N:List Str)(hT:T n=some df)
  (hb:∀(cdv:Value) (A:Around) (outer:List Env) (s:Shared) (H:Hp) (E:XK),bB k (A.deeper (envOfC q (au st) s.heap.objs.size fa cdv))->
   JB (fD (fK P w) P w K mg base N q (au st) fa cdv A outer s H E cm) cA aq cm (λc=>call aq T k c) (λ_ C dx H'=>E C dx H') (aH st) df.body) (S:cQ N ps (au st):=by exact⟨rfl,rfl,rfl,dk,rfl,dk,dk⟩) (hp:df.gO=ps.length:=by rfl) (hm:df.many=N.length:=by rfl) :
  bY P w K mg base (fK P w) cm (k+1) fa fd ps (ni K cA (call aq T (k+1) cm n)):=Ye D.fn S hT hp hm hb
theorem zhb{c:Nat}:bY P w K mg base (fK P w) cm 0 fa fd ps (Iz K cA c (call aq T 0 cm n)):=by
 have no:∀vs H Q E,Iz K cA c (call aq T 0 cm n) vs H Q E->False:=by
  rintro vs H Q E ⟨_,_,_,_,_,_,_,_,_,_,_,_,_,_,h⟩;exact h.elim
 exact⟨λvs H Q E h=>(no _ _ _ _ h).elim,λA outer s H args us vs Q E _ _ _ _ _ h=>(no _ _ _ _ h).elim⟩
theorem fR(D:D3 K mg x st ps)(N:List Str)(hT:T n=some df)
  (hb:∀(cdv:Value) (A:Around) (outer:List Env) (s:Shared) (H:Hp) (E:XK),bB (k+1) A->
   JB (fD (fK P w) P w K mg base N x (au st) (gP K x) cdv A outer s H E cm) cA aq cm (λc=>call aq T k c) (λ_ C dx H'=>E C dx H') (aH st) df.body) (S:cQ N ps (au st):=by exact⟨rfl,rfl,rfl,dk,rfl,dk,dk⟩) (hp:df.gO=ps.length:=by rfl) (hm:df.many=N.length:=by rfl) :
  bY P w K mg base (fK P w) cm (k+1) (gP K x) (fdOf K x st) ps (ni K cA (call aq T (k+1) cm n)):=XR D.f S hT hp hm λcdv A outer s H E hr=>(hb cdv A outer s H E hr).o
theorem znf{p p2 p3:Str}(h:nq K m q st fa fd/\Meth K C m fa)(hb:∀(kV doc pm:Value) (an:Option Addr) (cdv ct a b c:Value),bindArgs (fnOf m q (aU st) (aH st) (au st) .none kV doc pm an cdv ct) ⟨[a,b,c],[]⟩=pure [(p,a),(p2,b),(p3,c)]:=by intros;rfl):Mt K C m q st [p,p2,p3] fa fd:=⟨h.1,h.2,by
 obtain⟨oc,od,kV,doc,pm,an,cdv,ct,osl,rfl,lk,jN⟩:=h.1.ex;exact tM (hb kV doc pm an cdv ct)⟩
theorem znk{p p2 p3 p4:Str}(h:nq K m q st fa fd/\Meth K C m fa)(hb:∀(kV doc pm:Value) (an:Option Addr) (cdv ct a b c d:Value),bindArgs (fnOf m q (aU st) (aH st) (au st) .none kV doc pm an cdv ct) ⟨[a,b,c,d],[]⟩=pure [(p,a),(p2,b),(p3,c),(p4,d)]:=by intros;rfl):Mt K C m q st [p,p2,p3,p4] fa fd:=⟨h.1,h.2,by
 obtain⟨oc,od,kV,doc,pm,an,cdv,ct,osl,rfl,lk,jN⟩:=h.1.ex;exact tO (hb kV doc pm an cdv ct)⟩
end
end Mi
namespace Mi
open PySem PySem.W L2
noncomputable def pZ(k d:Int)(ps:List (Int×Int))(hs:List Int):List (Int×Int):=ps.filter λp=>decide (eO k (at' hs p.1) (at' hs p.2)<d)
noncomputable def wD(k d:Int)(ps:List (Int×Int))(hs:List Int):D:=match pZ k d ps hs with
 |[]=>.non
 |p::_=>iU p
theorem Bh{k d:Int}{ps:List (Int×Int)}{hs:List Int}:pZ k d ps hs=[]↔A_ k d ps hs=true:=by
 unfold pZ;rw[M6,mV]
 constructor
 ·intro h p hp;have:=h p hp;simp at this
  lia
 ·intro h p hp;have:=h p hp;simp
  lia
end Mi
namespace Mi
open PySem
theorem W.c0{F:List Xv->M Xv}{xs:List Xv}{s:S}{e:D}{P:Xv->S->Prop}(h:W (F (cU 0 xs)) [] λv _=>v=.d e)(k:P (.d e) s)(hl:locs xs=[]:=by rfl):W (cg F xs) s P:=vU hl (h.imp λ_ _ q=>⟨_,q,k⟩)
theorem W.c1{F:List Xv->M Xv}{xs:List Xv}{s:S}{P:Xv->S->Prop}(h:W (F (cU 0 xs)) [] λv _=>∃d,v=.d d)(k:∀d,P (.d d) s)(hl:locs xs=[]:=by rfl):W (cg F xs) s P:=vU hl (h.imp λ_ _ ⟨d,q⟩=>⟨d,q,k d⟩)
theorem Dn:∀l:List Int,bG (l.map .int)=some l
 |[]=>rfl
 |i::l=>by show Option.map _ (bG (l.map .int))=_;rw[Dn l];rfl
section
variable {n k:Nat}{es:Nat->List Int}{A:Int->Int->Bool}{F:Fr}{p:Nat}{x:Int}{g:Nat->Int}
noncomputable def gj(k:Nat):List Int:=(List.range k).map λ(i:Nat)=>(i:Int)
theorem cJ{k:Nat}{y:Int}:y∈gj k↔0<=y/\y<k:=by
 unfold gj;rw[gZ]
 constructor
 ·rintro⟨i,hi,rfl⟩;have:=yF.mp hi;lia
 ·intro h;exact⟨y.toNat,yF.mpr gV,by lia⟩
end
section
variable {aq:Nat->Nat->Bool}{aj:Bool}{F:Fn}{J:Vs}{s:S}{P:Xv->S->Prop}
theorem W.qx{c:Nat}{fs:List D}{P:List D->S->Prop}(h:P fs s):W (Mi.qx c (.d (.ob c fs))) s P:=by
 show W (if c=c then M.ret fs else M.no) s P;rw[if_pos rfl];exact W.ret h
theorem W.mk{c f:Nat}{xs:Es}{vs:List Xv}{ds:List D}(h:W (evs aq aj F xs J) s λus s1=>us=vs/\P (.d (.ob c ds)) s1)(hl:locs vs=[])(k:W (F f (.d .any::vs)) [] λv _=>v=.d (.tup ds)):W (ev aq aj F (.mk c f xs) J) s P:=by
 refine W.bd (h.imp λus s1 ⟨e,hp⟩=>?_);subst e;obtain⟨v,s2,e1,rfl⟩:=k;refine⟨_,s1,?_,hp⟩;unfold QX;rw[if_pos hl];simp only[e1]
end
theorem zi2{n:Nat}{j:Int}(h0:j<0)(h : -(n:Int)<=j):L2.rN n j=some (j+n).toNat:=by
 unfold L2.rN;rw[if_neg gV,if_pos h]
theorem zl6{xs:List D}{j:Int}{x:D}(h0:j<0)(h1 : -(xs.length:Int)<=j)(h:xs[(j+xs.length).toNat]?=some x):prim .ix [.fl xs,.int j]=some (.dat x):=by
 show Option.map Rz.dat (L2.o9 xs j)=_;have:L2.o9 xs j=some x:=by
  unfold L2.o9;rw[zi2 h0 h1];exact h
 rw[this];rfl
theorem Za{k':Nat}:∀(a b:List Int),dj (cT k') (a.map D.int) (b.map D.int)=some (decide (a=b))
 |[],[]=>by simp[dj]
 |[],_::_=>by simp[dj]
 |_::_,[]=>by simp[dj]
 |x::a,y::b=>by
  have hi:cT k' (.int x) (.int y)=some (x==y):=by cases k'<;>rfl
  simp only[jq,dj,Za a b,hi]
  congr 1
  by_cases e:x=y<;>by_cases e2:a=b<;>simp[e,e2]
theorem SM{f:Bool->Bool}{a b:List Int}:zK f [.tup (a.map .int),.tup (b.map .int)]=some (.dat (.bl (f (decide (a=b))))):=by
 show Option.map _ (dj (cT 49) (a.map D.int) (b.map D.int))=_;rw[Za];rfl
theorem zmd{n:Nat}(h:n<=65536):prim .Cy [.int n]=some (.dat (.tup ((gj n).map .int))):=by
 show (if okR 0 (n:Int)=true then some (Rz.dat (.tup (GQ 0 ((n:Int)-0).toNat))) else none)=_;rw[if_pos (show okR 0 (n:Int)=true from dZ gV)];unfold GQ gj;rw[m7,show ((n:Int)-0).toNat=n by lia]
 congr 4
 funext i
 simp
noncomputable def Dp(n:Nat)(es:Nat->List Int):List D:=(List.range n).map λi=>.tup ((es i).map .int)
noncomputable def vZ(k:Nat)(A:Int->Int->Bool):List D:=(List.range k).map λ(a:Nat)=>.fl ((List.range k).map λ(b:Nat)=>.bl (A a b))
noncomputable def SN(al:Bool)(n k:Nat)(es:Nat->List Int)(A:Int->Int->Bool):D:=.ob 0 [.fl (Dp n es),.tup ((gj k).map .int),.fl (vZ k A),.bl al]
noncomputable abbrev SQ(n k:Nat)(es:Nat->List Int)(A:Int->Int->Bool):D:=SN true n k es A
theorem zlC{n:Nat}{es:Nat->List Int}{i:Nat}(h:i<n):(Dp n es)[i]?=some (.tup ((es i).map .int)):=by
 unfold Dp;rw[jo,Jy h];rfl
theorem zmB{k:Nat}{A:Int->Int->Bool}{a:Int}(h0:0<=a)(h:a<k):(vZ k A)[a.toNat]?=some (.fl ((List.range k).map λ(b:Nat)=>.bl (A a b))):=by
 unfold vZ;rw[jo,Jy gV];have:((a.toNat:Nat):Int)=a:=by lia
 simp[this]
theorem SX{k:Nat}{f:Int->Bool}{b:Int}(h0:0<=b)(h:b<k):((List.range k).map λ(b:Nat)=>D.bl (f b))[b.toNat]?=some (.bl (f b)):=by
 rw[jo,Jy gV];have:((b.toNat:Nat):Int)=b:=by lia
 simp[this]
theorem zfW{α:Type}{p:Int->Bool}(l:List Int):l.filterMap (λy=>if p y=true then some (D.int y) else none)=(l.filter p).map .int:=by
 induction l with
 |nil=>rfl
 |cons a l ih=>
  rw[yt,uf];by_cases q:p a=true
  ·simp[q,ih]
  ·simp[q,ih]
theorem Zb{k:Nat}{L:List Int}(h:L.Pairwise (·<·))(hb:∀x∈L,0<=x/\x<k):L.length<=k:=by
 have key:∀(L:List Int) (a:Int),L.Pairwise (·<·)->(∀x∈L,a<=x/\x<k)->a<=k->(L.length:Int)<=k-a:=by
  intro L
  induction L with
  |nil=>intro a _ _ ha;simp;lia
  |cons x r ih=>
   intro a h hb ha;rw[BK] at h;have hx:=hb x Qi;have:=ih (x+1) h.2 (λy hy=>by have:=h.1 y hy;have:=hb y (by simp[hy]);lia) gV;rw[dB]
   lia
 have:=key L 0 h hb gV
 lia
noncomputable def dz(k d:Int)(a b:Int):Bool:=decide (d<=eO k a b)
section
variable {n k d:Int}{ps:List (Int×Int)}{ls:List Int}
theorem Zc(hd:1<=d){a b:Int}:dz k d a b=dz k d b a:=by
 unfold dz;rw[qO,yc hd,yc hd]
 lia
theorem S5(hd:1<=d)(t a b:Int)(a0:0<=a)(ak:a<k)(b0:0<=b)(bk:b<k):dz k d ((a+t)%k) ((b+t)%k)=dz k d a b:=by
 unfold dz;rw[qO,yc hd,yc hd];have e1:=Jv (a+t) k;have e2:=Jv (b+t) k;have u0:=BX (a+t) (b:=k) gV;have w0:=BX (b+t) (b:=k) gV;have uk:=Dz (a+t) (b:=k) gV;have wk:=Dz (b+t) (b:=k) gV;generalize (a+t)%k=u at *;generalize (b+t)%k=w at *;generalize (a+t)/k=q1 at *;generalize (b+t)/k=q2 at *;have e3:k*(q1-q2)=(a-b)-(u-w):=by rw[Int.mul_sub];lia
 have c:q1-q2 = -1\/q1-q2=0\/q1-q2=1:=by
  have h1:q1-q2<2:=Int.not_le.mp λz=>by
   have:=Ms z (show 0<=k by lia)
   lia
  have h2 : -2<q1-q2:=Int.not_le.mp λz=>by
   have:=Ms z (show 0<=k by lia)
   lia
  lia
 rcases c with c|c|c<;>rw[c] at e3<;>lia
theorem zhP(w:Web n ps){i e:Int}:e∈aZ i ps↔(i,e)∈ps\/(e,i)∈ps:=by
 unfold aZ;rw[Bv]
 constructor
 ·rintro⟨p,hp,h⟩;obtain⟨a,b⟩:=p;unfold endOf at h;dsimp only at h;split at h
  ·cases h;subst_vars;exact .inl hp
  ·split at h
   ·cases h;subst_vars;exact .inr hp
   ·cases h
 ·rintro(hp|hp)
  ·exact⟨_,hp,by simp[endOf]⟩
  ·have:=w.tie _ hp;dsimp only at this;exact⟨_,hp,by unfold endOf;dsimp only;rw[if_neg gV,if_pos rfl]⟩
end
theorem Zd(a k:Int) : -(a%k)%k = -a%k:=by
 have e:=Jv a k;have : -(a%k) = -a+k*(a/k):=by lia
 rw[this,Mv]
theorem S6(a b k:Int):(a%k+b)%k=(a+b)%k:=by
 have e:=Jv a k;have:a%k+b=(a+b)+k*(-(a/k)):=by rw[Int.mul_neg];lia
 rw[this,Mv]
theorem Bj{a k:Int}(h0:0<=a)(h:a<k):a%k=a:=Int.emod_eq_of_lt h0 h
theorem Ly{a k:Int}(h:0<k):0<=a%k/\a%k<k:=⟨BX _ gV,Dz _ h⟩
noncomputable def aN(k m:Int)(hs:List Int):List Int:=hs.map λx=>(x+m)%k
noncomputable def bL(k:Int)(hs:List Int):List Int:=hs.map λx=>-x%k
section
variable {n k d m:Int}{ps:List (Int×Int)}{hs:List Int}
theorem S7(w:Web n ps)(hd:1<=d)(hk:1<=k)(h:cR n k d ps hs):cR n k d ps (aN k m hs) where
 len:=by unfold aN;rw[cY];exact h.len
 lo:=λx hx=>by
  obtain⟨y,_,rfl⟩:=gZ.mp hx;exact Ly gV
 fit:=λp hp=>by
  have ht:=w.tie p hp;have hl:=h.len;have a:=h.lo _ (Ax (fs:=hs) (j:=p.1) gV gV);have b:=h.lo _ (Ax (fs:=hs) (j:=p.2) gV gV);unfold aN;rw[tY gV gV,tY gV gV];have:=S5 (k:=k) hd m _ _ a.1 a.2 b.1 b.2;unfold dz at this;rw[qO] at this;exact this.mpr (h.fit p hp)
theorem zhY(hd:1<=d){a b:Int}(a0:0<=a)(ak:a<k)(b0:0<=b)(bk:b<k):d<=eO k (-a%k) (-b%k)↔d<=eO k a b:=by
 have key:∀a:Int,0<=a->a<k->(a=0/\-a%k=0)\/-a%k=k-a:=λa h0 h1=>by
  by_cases c:a=0
  ·exact .inl ⟨c,by rw[c];simp⟩
  ·refine .inr ?_;rw[show -a=(k-a)+k*(-1) by lia,Mv,Bj gV gV]
 rw[yc hd,yc hd];rcases key a a0 ak with ⟨e1,e2⟩|e1<;>rcases key b b0 bk with ⟨e3,e4⟩|e3<;>lia
theorem S8(w:Web n ps)(hd:1<=d)(hk:1<=k)(h:cR n k d ps hs):cR n k d ps (bL k hs) where
 len:=by unfold bL;rw[cY];exact h.len
 lo:=λx hx=>by
  obtain⟨y,_,rfl⟩:=gZ.mp hx;exact Ly gV
 fit:=λp hp=>by
  have ht:=w.tie p hp;have hl:=h.len;have a:=h.lo _ (Ax (fs:=hs) (j:=p.1) gV gV);have b:=h.lo _ (Ax (fs:=hs) (j:=p.2) gV gV);unfold bL;rw[tY gV gV,tY gV gV];exact(zhY hd a.1 a.2 b.1 b.2).mpr (h.fit p hp)
theorem Ja(h:∀x∈hs,0<=x/\x<k):bL k (bL k hs)=hs:=by
 unfold bL;rw[m7]
 conv=>rhs;rw[<-List.map_id hs]
 refine Bu λx hx=>?_;show -(-x%k)%k=x;rw[Zd,Int.neg_neg,Bj (h x hx).1 (h x hx).2]
theorem ziM(h:cR n k d ps hs):pZ k d ps hs=[]:=Bh.mpr (mV.mpr h.fit)
theorem zjB:(wD k d ps hs).sI=decide (pZ k d ps hs=[]):=by
 unfold wD;cases pZ k d ps hs with
 |nil=>rfl
 |cons p r=>rfl
end
section
variable {n k d:Int}{ps:List (Int×Int)}
noncomputable def mW(k d:Int)(ps:List (Int×Int))(r:List Int)(x:Int):Bool:=ps.all λp=>decide (p.2=(r.length:Int)->d<=eO k (at' r p.1) x)
noncomputable def nextR(k d:Int)(ps:List (Int×Int))(r:List Int):List (List Int):=((gj k.toNat).filter (mW k d ps r)).map λx=>r++[x]
noncomputable def grow(k d:Int)(ps:List (Int×Int))(rows:List (List Int)):List (List Int):=rows.flatMap (nextR k d ps)
noncomputable def grows(k d:Int)(ps:List (Int×Int))(rows:List (List Int)):Nat->List (List Int)
 |0=>rows
 |i+1=>grow k d ps (grows k d ps rows i)
theorem jD{rows:List (List Int)}{h:List Int}:h∈grow k d ps rows↔∃r∈rows,∃x:Int,(0<=x/\x<(k.toNat:Nat))/\mW k d ps r x=true/\h=r++[x]:=by
 unfold grow nextR;rw[List.mem_flatMap]
 constructor
 ·rintro⟨r,hr,hh⟩;obtain⟨x,hx,rfl⟩:=gZ.mp hh;obtain⟨h1,h2⟩:=j_.mp hx;exact⟨r,hr,x,cJ.mp h1,h2,rfl⟩
 ·rintro⟨r,hr,x,h1,h2,rfl⟩;exact⟨r,hr,gZ.mpr ⟨x,j_.mpr ⟨cJ.mpr h1,h2⟩,rfl⟩⟩
theorem zf0{c:Int}{rows:List (List Int)}(h:∀r∈rows,r≠[]):(grow k d ps rows).filter (λr=>decide (at' r 0=c))=grow k d ps (rows.filter λr=>decide (at' r 0=c)):=by
 unfold grow
 induction rows with
 |nil=>rfl
 |cons r rows ih=>
  have hr:=h r Qi;have hl:0<r.length:=List.length_pos_iff.mpr hr;have e:∀(l:List Int),(l.map λx=>r++[x]).filter (λr=>decide (at' r 0=c))=if at' r 0=c then l.map (λx=>r++[x]) else []:=λl=>by
   induction l with
   |nil=>simp
   |cons y l ih2=>
    rw[jq,uf,Ay gV gV,ih2];by_cases q:at' r 0=c
    ·simp[q]
    ·simp[q]
  rw[uL,Nh,ih λq hq=>h q (by simp[hq]),uf];unfold nextR;rw[e];by_cases q:at' r 0=c
  ·simp[q]
  ·simp[q]
theorem ziE{rows:List (List Int)}:∀r∈grow k d ps rows,r≠[]:=λr hr=>by
 obtain⟨q,_,x,_,_,rfl⟩:=jD.mp hr;simp
theorem Ze(w:Web n ps):grow k d ps [[]]=(gj k.toNat).map λx=>[x]:=by
 unfold grow nextR;rw[uL,List.flatMap_nil,ug];have:(gj k.toNat).filter (mW k d ps [])=gj k.toNat:=by
  refine List.filter_eq_self.mpr λx _=>gY.mpr λp hp=>dZ λe=>?_;have:=w.tie p hp;simp at e
  lia
 rw[this];rfl
theorem Zf(w:Web n ps)(hd:1<=d){r:List Int}(hr:∀x∈r,0<=x/\x<k)(t x:Int)(hx:0<=x/\x<k):mW k d ps (aN k t r) ((x+t)%k)=mW k d ps r x:=by
 unfold mW;rw[DR,gY,gY];have key:∀p∈ps,(p.2=((aN k t r).length:Int)->d<=eO k (at' (aN k t r) p.1) ((x+t)%k))↔(p.2=(r.length:Int)->d<=eO k (at' r p.1) x):=λp hp=>by
  have ht:=w.tie p hp;have el:(aN k t r).length=r.length:=by unfold aN;rw[cY]
  rw[el]
  constructor
  ·intro h e;have:=h e;unfold aN at this;rw[tY gV gV] at this;have a:=hr _ (Ax (fs:=r) (j:=p.1) gV gV);have f:=S5 (k:=k) hd t _ _ a.1 a.2 hx.1 hx.2;unfold dz at f;rw[qO] at f;exact f.mp this
  ·intro h e;have:=h e;unfold aN;rw[tY gV gV];have a:=hr _ (Ax (fs:=r) (j:=p.1) gV gV);have f:=S5 (k:=k) hd t _ _ a.1 a.2 hx.1 hx.2;unfold dz at f;rw[qO] at f;exact f.mpr this
 constructor
 ·intro h p hp;exact dZ ((key p hp).mp (fH (h p hp)))
 ·intro h p hp;exact dZ ((key p hp).mpr (fH (h p hp)))
theorem mX{k:Nat}:(gj k).Nodup:=by
 unfold gj;exact yx.mpr (List.nodup_range.imp λh e=>h gV)
theorem zfQ(w:Web n ps)(hd:1<=d)(hk:1<=k){r:List Int}(hr:∀x∈r,0<=x/\x<k)(t:Int):((nextR k d ps r).map (aN k t)).Perm (nextR k d ps (aN k t r)):=by
 unfold nextR;have e1:(((gj k.toNat).filter (mW k d ps r)).map λx=>r++[x]).map (aN k t)=((((gj k.toNat).filter (mW k d ps r)).map λx=>(x+t)%k).map λx=>aN k t r++[x]):=by
  rw[m7,m7];refine Bu λx _=>?_;show aN k t (r++[x])=aN k t r++[(x+t)%k];unfold aN;rw[wA];rfl
 rw[e1];refine List.Perm.map _ ?_;have inj:∀a b:Int,0<=a->a<k->0<=b->b<k->(a+t)%k=(b+t)%k->a=b:=λa b a0 a1 b0 b1 e=>by
  have h1:((a+t)%k + -t)%k=a:=by rw[S6,show a+t + -t=a by lia,Bj a0 a1]
  have h2:((b+t)%k + -t)%k=b:=by rw[S6,show b+t + -t=b by lia,Bj b0 b1]
  rw[<-h1,<-h2,e]
 refine(List.perm_ext_iff_of_nodup ?_ (mX.filter _)).mpr λy=>?_
 ·refine yx.mpr (List.Pairwise.imp_of_mem (λ{a b} ha hb h e=>?_) (mX.filter (mW k d ps r)));have a1:=cJ.mp (j_.mp ha).1;have b1:=cJ.mp (j_.mp hb).1;exact h (inj a b gV gV gV gV e)
 ·constructor
  ·intro hy;obtain⟨x,hx,rfl⟩:=gZ.mp hy;obtain⟨h1,h2⟩:=j_.mp hx;have h1:=cJ.mp h1;have:=Ly (a:=x+t) (k:=k) gV;exact j_.mpr ⟨cJ.mpr gV,by rw[Zf w hd hr t x gV];exact h2⟩
  ·intro hy;obtain⟨h1,h2⟩:=j_.mp hy;have h1:=cJ.mp h1;have hm:=Ly (a:=y + -t) (k:=k) gV;have ey:((y + -t)%k+t)%k=y:=by rw[S6,show y + -t+t=y by lia,Bj gV gV]
   refine gZ.mpr ⟨(y + -t)%k,j_.mpr ⟨cJ.mpr gV,?_⟩,ey⟩;rw[<-Zf w hd hr t _ hm,ey];exact h2
theorem zid(hk:1<=k){rows:List (List Int)}(h:∀r∈rows,∀x∈r,0<=x/\x<k):∀r∈grow k d ps rows,∀x∈r,0<=x/\x<k:=λr hr x hx=>by
 obtain⟨q,hq,y,hy,_,rfl⟩:=jD.mp hr;rcases m5.mp hx with hx|hx
 ·exact h q hq x hx
 ·have:x=y:=jG.mp hx
  lia
theorem Zg(w:Web n ps)(hd:1<=d)(hk:1<=k)(t:Int):∀{rows:List (List Int)},(∀r∈rows,∀x∈r,0<=x/\x<k)->((grow k d ps rows).map (aN k t)).Perm (grow k d ps (rows.map (aN k t)))
 |[],_=>List.Perm.refl _
 |r::rows,h=>by
  have e1:grow k d ps (r::rows)=nextR k d ps r++grow k d ps rows:=by unfold grow;rw[uL]
  have e2:grow k d ps ((r::rows).map (aN k t))=nextR k d ps (aN k t r)++grow k d ps (rows.map (aN k t)):=by unfold grow;rw[jq,uL]
  rw[e1,e2,wA];exact(zfQ w hd hk (h r Qi) t).append (Zg w hd hk t λq hq=>h q (by simp[hq]))
theorem S9(w:Web n ps)(hd:1<=d)(hk:1<=k)(t:Int){rows:List (List Int)}(h:∀r∈rows,∀x∈r,0<=x/\x<k):∀m,(∀r∈grows k d ps rows m,∀x∈r,0<=x/\x<k)/\((grows k d ps rows m).map (aN k t)).Perm (grows k d ps (rows.map (aN k t)) m)
 |0=>⟨h,List.Perm.refl _⟩
 |m+1=>by
  obtain⟨h1,h2⟩:=S9 w hd hk t h m;refine⟨zid hk h1,?_⟩;show ((grow k d ps (grows k d ps rows m)).map (aN k t)).Perm (grow k d ps (grows k d ps (rows.map (aN k t)) m));refine(Zg w hd hk t h1).trans ?_;unfold grow;exact List.Perm.flatMap_right _ h2
theorem Zh{a b:List (List Int)}:∀m,grows k d ps (a++b) m=grows k d ps a m++grows k d ps b m
 |0=>rfl
 |m+1=>by
  show grow k d ps (grows k d ps (a++b) m)=grow k d ps (grows k d ps a m)++grow k d ps (grows k d ps b m);rw[Zh m];unfold grow;rw[List.flatMap_append]
theorem Zi:∀m,grows k d ps [] m=[]
 |0=>rfl
 |m+1=>by show grow k d ps (grows k d ps [] m)=[];rw[Zi m];rfl
theorem Zj{rows:List (List Int)}:∀m,grows k d ps rows (m+1)=grows k d ps (grow k d ps rows) m
 |0=>rfl
 |m+1=>by
  show grow k d ps (grows k d ps rows (m+1))=grow k d ps (grows k d ps (grow k d ps rows) m);rw[Zj m]
theorem S_(w:Web n ps)(hd:1<=d)(hk:1<=k)(m:Nat):(grows k d ps [[]] (m+1)).length=k.toNat*(grows k d ps [[0]] m).length:=by
 rw[Zj,Ze w];have one:∀x:Int,0<=x->x<k->(grows k d ps [[x]] m).length=(grows k d ps [[0]] m).length:=λx h0 h1=>by
  have:=(S9 w hd hk x (rows:=[[0]]) (λr hr y hy=>by
   rw[jG.mp hr] at hy;have:y=0:=jG.mp hy
   lia) m).2.length_eq
  rw[cY] at this;rw[this];have e:[[(0:Int)]].map (aN k x)=[[x]]:=by
   unfold aN;simp[Bj h0 h1]
  rw[e]
 have all:∀l:List Int,(∀x∈l,0<=x/\x<k)->(grows k d ps (l.map λx=>[x]) m).length=l.length*(grows k d ps [[0]] m).length:=λl=>by
  induction l with
  |nil=>intro _;rw[List.map_nil,Zi];simp
  |cons x l ih=>
   intro h;rw[jq,show [x]::l.map (λx=>[x])=[[x]]++l.map (λx=>[x]) from rfl,Zh,ji,one x (h x Qi).1 (h x Qi).2,ih λy hy=>h y (by simp[hy]),dB,D_]
   lia
 rw[all _ λx hx=>by have:=cJ.mp hx;lia]
 congr 1
 unfold gj;simp
theorem zgP{m:Nat}:∀r∈grows k d ps [[]] (m+1),r≠[]:=λr hr=>ziE r hr
theorem Zk(w:Web n ps)(hk:1<=k):∀m,(grows k d ps [[]] (m+1)).filter (λr=>decide (at' r 0=0))=grows k d ps [[0]] m
 |0=>by
  show (grow k d ps [[]]).filter _=[[0]];rw[Ze w];obtain⟨j,hj⟩ : ∃j,k.toNat=j+1:=⟨k.toNat-1,by lia⟩;unfold gj;rw[hj,Js,jq,jq,uf,if_pos J0]
  congr 1
  refine M6.mpr λr hr=>?_;obtain⟨x,hx,rfl⟩:=gZ.mp hr;obtain⟨i,hi,rfl⟩:=gZ.mp hx;obtain⟨q,_,rfl⟩:=gZ.mp hi;intro h;have h:at' [((q+1:Nat):Int)] 0=0:=fH h;have:at' [((q+1:Nat):Int)] 0=((q+1:Nat):Int):=rfl
  lia
 |m+1=>by
  show (grow k d ps (grows k d ps [[]] (m+1))).filter _=grow k d ps (grows k d ps [[0]] m);rw[zf0 zgP,Zk w hk m]
end
section
variable {aq:Nat->Nat->Bool}{F:Fn}{J:Vs}{s:S}{P:Xv->S->Prop}
theorem Kav{α β:Type}{f:α->D}{l:List α}{f2:β->D}{l2:List β}{fz:Bool}{elt:E}{tg Gy:List Nat}{it wV:Wk}{fr:List Nat}{many:Nat}{cond:Eo}(g:α->β->Option D)(hc:l.length*l2.length<=sizeLine)
  (hw:W (gM aq true F it J) s λcn s1=>cn=(.fix (l.map f),(l.map f).length)/\s1=s)
  (hb:∀x∈l,qU (cV tg (f x) (blk many fr J)) λJ'=>(W (gM aq true F wV J') s λcn s1=>cn=(.fix (l2.map f2),(l2.map f2).length)/\s1=s)/\∀y∈l2,qU (cV Gy (f2 y) J') λJ2=>W (lR aq true F cond J2) s λb s1=>s1=s/\(b=true->W (ev aq true F elt J2) s λv s2=>s2=s/\∃d,v=.d d/\g x y=some d)/\(b=false->g x y=none))
  (h:W (newL fz (l.flatMap λx=>l2.filterMap (g x))) s P):W (ev aq true F (.jY fz elt tg it Gy wV fr many cond) J) s P:=by
 change W (_root_.ite (true=true) _ _) s P
 rw[if_pos rfl];refine W.bd (hw.imp λcn s1=>?_);rintro⟨rfl,rfl⟩;refine W.bd ?_;refine W.walk (c:=l.map f) (λi acc s'=>s'=s1/\acc=(l.take i).flatMap λx=>l2.filterMap (g x)) ⟨rfl,rfl⟩ (λi x acc s' e hI=>?_) (λacc s' hI=>?_)
 ·obtain⟨rfl,rfl⟩:=hI;rw[jo] at e;cases el:l[i]? with
  |none=>rw[el] at e;cases e
  |some y=>
   rw[el] at e;cases e;have hi:i<l.length:=(gD.mp el).1;have ht:l.take (i+1)=l.take i++[y]:=by rw[DX,el];rfl
   have hl0:∀m:List α,(m.flatMap λx=>l2.filterMap (g x)).length<=m.length*l2.length:=by
    intro m
    induction m with
    |nil=>simp
    |cons a r ih=>
     have:=Du (g a) l2;simp only[uL,ji,dB];rw[D_]
     lia
   have Sy:(l.take i).length*l2.length+l2.length<=sizeLine:=by
    have:(l.take i).length+1<=l.length:=by rw[wz];lia
    have:=Jx l2.length this;rw[D_] at this
    lia
   obtain⟨J',e1,hw2,hb2⟩:=hb y (gF el);refine W.bd (W.opt e1 ?_);refine W.bd (W.qt (hw2.imp λcn s2=>?_));rintro⟨rfl,rfl⟩;refine W.walk (c:=l2.map f2) (λj acc s'=>s'=s2/\acc=((l.take i).flatMap λx=>l2.filterMap (g x))++(l2.take j).filterMap (g y)) ⟨rfl,by simp⟩ (λj x acc s' e hI=>?_) (λacc s' hI=>?_)
   ·obtain⟨rfl,rfl⟩:=hI;rw[jo] at e;cases el2:l2[j]? with
    |none=>rw[el2] at e;cases e
    |some z=>
     rw[el2] at e;cases e;have hj:j<l2.length:=(gD.mp el2).1;have Zm:l2.take (j+1)=l2.take j++[z]:=by rw[DX,el2];rfl
     obtain⟨J2,e2,hv⟩:=hb2 z (gF el2);refine W.bd (W.opt e2 ?_);refine W.bd (W.qt (hv.imp λb s3=>?_));rintro⟨rfl,h1,h2⟩;cases b
     ·rw[if_neg J0];refine W.ret ⟨rfl,?_⟩;rw[Zm,Ju];simp[h2 rfl]
     ·rw[if_pos rfl];refine W.bd (W.qt ((h1 rfl).imp λv s4=>?_));rintro⟨rfl,d,rfl,eg⟩;refine W.bd (W.dat ?_);have q1:=hl0 (l.take i);have q2:=Du (g y) (l2.take j);rw[wz (i:=j)] at q2;rw[if_pos (by rw[ji];lia)];refine W.ret ⟨rfl,?_⟩;rw[Zm,Ju,DG];simp[eg]
   ·obtain⟨rfl,rfl⟩:=hI;refine⟨rfl,?_⟩;rw[cY,BR,ht,List.flatMap_append];simp
 ·obtain⟨rfl,rfl⟩:=hI;rw[cY,BR];exact h
end
section
variable {n k d:Int}{ps:List (Int×Int)}
noncomputable def dI(r:List Int):D:=.tup (r.map .int)
noncomputable def v7(ps:List (Int×Int))(i:Nat):List Int:=(aZ i ps).filter λe=>decide (e<(i:Int))
theorem Tc(w:Web n ps){i:Nat}{e:Int}:e∈v7 ps i↔(e,(i:Int))∈ps:=by
 unfold v7;rw[j_,zhP w]
 constructor
 ·rintro⟨h|h,q⟩
  ·have:=w.tie _ h;have q:=fH q;dsimp only at this
   lia
  ·exact h
 ·intro h;have:=w.tie _ h;dsimp only at this;exact⟨.inr h,dZ gV⟩
theorem zi4(w:Web n ps)(hd:1<=d){r:List Int}{x:Int}:((v7 ps r.length).all λe=>dz k d x (at' r e))=mW k d ps r x:=by
 unfold mW;rw[DR,gY,gY]
 constructor
 ·intro h p hp;refine dZ λe=>?_;obtain⟨a,b⟩:=p;dsimp only at e ⊢;subst e;have:=h a ((Tc w).mpr hp);rw[Zc hd] at this;unfold dz at this;rw[Ni] at this;exact this
 ·intro h e he;have hp:=(Tc w).mp he;have:=fH (h _ hp) rfl;rw[Zc hd];unfold dz;rw[Ni];exact this
theorem zfH{m:Nat}:(grows k d ps [[0]] m).length<=k.toNat^m:=by
 induction m with
 |zero=>simp[grows]
 |succ m ih=>
  show (grow k d ps (grows k d ps [[0]] m)).length<=_;have:∀rows:List (List Int),(grow k d ps rows).length<=rows.length*k.toNat:=λrows=>by
   unfold grow
   induction rows with
   |nil=>simp
   |cons r rows ih2=>
    have e:(nextR k d ps r).length<=k.toNat:=by
     unfold nextR;rw[cY];refine lN (Jw _ _) ?_;unfold gj;simp
    rw[uL,ji,dB,D_]
    lia
  have h1:=this (grows k d ps [[0]] m);rw[Nat.pow_succ];exact lN h1 (Jx _ ih)
theorem zfZ{m:Nat}:∀r∈grows k d ps [[0]] m,r.length=m+1:=by
 induction m with
 |zero=>intro r hr;rw[jG.mp hr];rfl
 |succ m ih=>
  intro r hr;obtain⟨q,hq,x,_,_,rfl⟩:=jD.mp hr;simp[ih q hq]
end
section
variable {α β:Type}
theorem Zn{p:α->Bool}{f:α->List β}:∀l:List α,(l.filter p).flatMap f=l.flatMap λa=>if p a=true then f a else []
 |[]=>rfl
 |x::l=>by
  rw[uf,uL,<-Zn l];by_cases h:p x=true
  ·rw[if_pos h,if_pos h,uL]
  ·rw[if_neg h,if_neg h];rfl
end
theorem Zo{α:Type}{f g:α->Bool}:∀{l:List α},(∀p∈l,f p=g p)->l.all f=l.all g
 |[],_=>rfl
 |a::l,h=>by rw[yG,yG,h a Qi,Zo λp hp=>h p (by simp[hp])]
noncomputable def allR(k:Nat):Nat->List (List Int)
 |0=>[[]]
 |m+1=>(allR k m).flatMap λr=>(gj k).map λx=>r++[x]
theorem Jc{k:Nat}:∀{m:Nat} {r:List Int},r∈allR k m->r.length=m/\∀x∈r,0<=x/\x<k
 |0,r,h=>by
  rw[jG.mp h];exact⟨rfl,λx hx=>nomatch hx⟩
 |m+1,r,h=>by
  obtain⟨q,hq,h2⟩:=List.mem_flatMap.mp h;obtain⟨x,hx,rfl⟩:=gZ.mp h2;obtain⟨e1,e2⟩:=Jc hq;refine⟨by simp[e1],λy hy=>?_⟩;rcases m5.mp hy with hy|hy
  ·exact e2 y hy
  ·rw[jG.mp hy];exact cJ.mp hx
section
variable {n k d:Int}{ps:List (Int×Int)}
noncomputable def qM(k d:Int)(ps:List (Int×Int))(r:List Int):Bool:=ps.all λp=>decide (p.2<(r.length:Int)->d<=eO k (at' r p.1) (at' r p.2))
noncomputable def Jd(k d:Int)(ps:List (Int×Int))(r:List Int):Bool:=ps.all λp=>decide (d<=eO k (at' r p.1) (at' r p.2))
theorem Zq(w:Web n ps)(r:List Int)(x:Int):qM k d ps (r++[x])=(qM k d ps r&&mW k d ps r x):=by
 unfold qM mW;rw[DR,gq,gY,gY,gY];have el:((r++[x]).length:Int)=r.length+1:=by simp
 rw[el]
 constructor
 ·intro h;refine⟨λp hp=>dZ λc=>?_,λp hp=>dZ λc=>?_⟩
  ·have ht:=w.tie p hp;have:=fH (h p hp) gV
   rwa [Ay gV gV,Ay gV gV] at this
  ·have ht:=w.tie p hp;have:=fH (h p hp) gV
   rwa [Ay gV gV,c,YK] at this
 ·rintro⟨h1,h2⟩ p hp;refine dZ λc=>?_;have ht:=w.tie p hp;by_cases e:p.2=(r.length:Int)
  ·have:=fH (h2 p hp) e
   rwa [Ay gV gV,e,YK]
  ·have:=fH (h1 p hp) gV
   rwa [Ay gV gV,Ay gV gV]
theorem Zr(w:Web n ps):∀m,grows k d ps [[]] m=(allR k.toNat m).filter (qM k d ps)
 |0=>by
  refine(List.filter_eq_self.mpr λr hr=>?_).symm;rw[jG.mp hr];exact gY.mpr λp hp=>dZ λc=>by have:=w.tie p hp;simp at c;lia
 |m+1=>by
  show grow k d ps (grows k d ps [[]] m)=((allR k.toNat m).flatMap _).filter _;rw[Zr w m];unfold grow nextR;rw[Zn,List.filter_flatMap]
  congr 1
  funext r
  generalize gj k.toNat=l;by_cases c:qM k d ps r=true
  ·rw[if_pos c]
   induction l with
   |nil=>rfl
   |cons x l ih=>
    rw[jq,uf,uf,Zq w,c,Bool.true_and,<-ih]
    split<;>rfl
  ·rw[if_neg c];refine(M6.mpr λq hq=>?_).symm;obtain⟨x,_,rfl⟩:=gZ.mp hq;rw[Zq w,Bool.not_eq_true] at *;rw[c];rfl
theorem zln(w:Web n ps){r:List Int}(h:(r.length:Int)=n):qM k d ps r=Jd k d ps r:=
 Zo λp hp=>qO.mpr ⟨λq=>q (by have:=w.tie p hp;lia),λq _=>q⟩
theorem Td(w:Web n ps):grows k d ps [[]] n.toNat=(allR k.toNat n.toNat).filter (Jd k d ps):=by
 rw[Zr w];refine List.filter_congr λr hr=>zln w ?_;have:=(Jc hr).1;have:=w.h1
 lia
end
end Mi
namespace Mi
open PySem PySem.W L2
theorem Je:∀a:List Int,ltI a a=false
 |[]=>rfl
 |x::a=>by show (if x=x then ltI a a else _)=false;rw[if_pos rfl];exact Je a
theorem Zu:∀a b:List Int,ltI a b=true\/a=b\/ltI b a=true
 |[],[]=>.inr (.inl rfl)
 |[],y::b=>.inl rfl
 |x::a,[]=>.inr (.inr rfl)
 |x::a,y::b=>by
  show (if x=y then ltI a b else decide (x<y))=true\/_\/(if y=x then ltI b a else decide (y<x))=true;by_cases e:x=y
  ·subst e;rw[if_pos rfl,if_pos rfl];rcases Zu a b with h|h|h
   ·exact .inl h
   ·exact .inr (.inl (by rw[h]))
   ·exact .inr (.inr h)
  ·rw[if_neg e,if_neg (Ne.symm e)];by_cases h:x<y
   ·exact .inl (dZ h)
   ·exact .inr (.inr (dZ gV))
theorem Zv:∀{a b c:List Int},ltI a b=true->ltI b c=true->ltI a c=true
 |a,b,[],_,h=>by cases b<;>cases h
 |[],_,z::c,_,_=>rfl
 |x::a,[],z::c,h,_=>by cases h
 |x::a,y::b,z::c,h1,h2=>by
  have h1:(if x=y then ltI a b else decide (x<y))=true:=h1;have h2:(if y=z then ltI b c else decide (y<z))=true:=h2;show (if x=z then ltI a c else decide (x<z))=true;by_cases e1:x=y
  ·subst e1;rw[if_pos rfl] at h1;by_cases e2:x=z
   ·rw[if_pos e2] at h2 ⊢;exact Zv h1 h2
   ·rw[if_neg e2] at h2 ⊢;exact h2
  ·rw[if_neg e1] at h1;have h1:=fH h1;by_cases e2:y=z
   ·subst e2;rw[if_neg e1];exact dZ h1
   ·rw[if_neg e2] at h2;have h2:=fH h2;rw[if_neg gV];exact dZ gV
theorem Jf{a b:List Int}(h:ltI a b=true):ltI b a=false:=by
 cases e:ltI b a
 ·rfl
 ·have:=Zv h e;rw[Je] at this;cases this
theorem Zw{c d:List Int}:∀{a b:List Int},a.length=b.length->ltI a b=true->ltI (a++c) (b++d)=true
 |[],[],_,h=>by cases h
 |[],_::_,h,_=>by cases h
 |_::_,[],h,_=>by cases h
 |x::a,y::b,hl,h=>by
  have h:(if x=y then ltI a b else decide (x<y))=true:=h;show (if x=y then ltI (a++c) (b++d) else decide (x<y))=true;by_cases e:x=y
  ·rw[if_pos e] at h ⊢;exact Zw (Nat.succ.inj hl) h
  ·rw[if_neg e] at h ⊢;exact h
theorem Zx{b c:List Int}:∀a:List Int,ltI (a++b) (a++c)=ltI b c
 |[]=>rfl
 |x::a=>by show (if x=x then ltI (a++b) (a++c) else _)=_;rw[if_pos rfl];exact Zx a
abbrev Zy(a b:List Int):Prop:=ltI a b=true
end Mi
namespace Mi
open PySem
theorem Kas{F:List Xv->M Xv}{xs:List Xv}{n:Nat}{o:SO}{s:S}{P:Xv->S->Prop}(hl:locs xs=[n])(ho:s[n]?=some o)(h:W (F (cU 0 xs)) [o] λv s1=>∃d o' r,v=.d d/\s1=o'::r/\P (.d d) (s.set n o')):W (cg F xs) s P:=by
 obtain⟨v,s1,e,d,o',r,rfl,rfl,p⟩:=h;refine⟨.d d,s.set n o',?_,p⟩;unfold cg;rw[hl,if_pos Qi];simp only[iD,ho,e,cN]
theorem Kau{F:List Xv->M Xv}{s:S}{o:SO}{xs:List Xv}{P:Xv->S->Prop}(hl:locs xs=[s.length])(h:W (F (cU 0 xs)) [o] λv s1=>∃d o' r,v=.d d/\s1=o'::r/\P (.d d) (s++[o'])):W (cg F xs) (s++[o]) P:=by
 refine Kas (n:=s.length) (o:=o) hl Qi (h.imp λv s1=>?_);rintro⟨d,o',r,rfl,rfl,hp⟩;exact⟨d,o',r,rfl,rfl,by rw[show (s++[o]).set s.length o'=s++[o'] by simp];exact hp⟩
end Mi
namespace dN
open PySem Mi
noncomputable def b0:bU:=.nil
noncomputable def b1:bU:=(.cons (.ret (.and (.pD (.v 0) .int) (.not (.pD (.v 0) .bool)))) .nil)
noncomputable def b2:bU:=(.cons (.ret (.and (.call 1 (Ea (.v 0))) (.wY .le .le (.v 1) (.v 0) (.v 2)))) .nil)
noncomputable def b3:bU:=(.cons (.ret (.and (.pD (.v 0) .tuple) (.pr true .eq (Eb (.pr true .len (Ea (.v 0))) (.v 1))))) .nil)
noncomputable def b4:bU:=(.cons (.iff (.pr true .gt (Eb (.v 0) (.v 1))) (.cons .no .nil) .nil) .nil)
noncomputable def b5:bU:=(.cons (.iff (.not (.call 3 (Eb (.v 0) (Ci 2)))) (.cons (.ret (.c (.bl false))) .nil) .nil) (.cons (.asg (.tp [1,2]) (.v 0)) (.cons (.iff (.or (.not (.call 6 (Ea (.v 1)))) (.not (.pD (.v 2) .tuple))) (.cons (.ret (.c (.bl false))) .nil) .nil) (.cons (.iff (.not (.pr true .all (Ea (.comp true (.call 8 (Eb (.v 1) (.v 0))) [0] (.seq (.v 2)) [1] 1 .no)))) (.cons (.ret (.c (.bl false))) .nil) .nil) (.cons (.ret (.pr true .all (Ea (.comp true (.pr true .lt (Eb (.v 0) (.v 1))) [0,1] (.zip (.v 2) (.sl true (.v 2) (.yes (Ci 1)) .no)) [] 2 .no)))) .nil)))))
noncomputable def b6:bU:=(.cons (.ret (.call 2 (Ec (.v 0) (Ci 1) (Ci 8)))) .nil)
noncomputable def b7:bU:=(.cons (.ret (.call 2 (Ec (.v 1) (Ci 0) (.pr true .aq (Eb (.v 0) (Ci 1)))))) .nil)
noncomputable def b8:bU:=(.cons (.iff (.not (.call 3 (Eb (.v 1) (Ci 2)))) (.cons (.ret (.c (.bl false))) .nil) .nil) (.cons (.asg (.tp [2,3]) (.v 1)) (.cons (.ret (.and (.call 7 (Eb (.v 0) (.v 2))) (.and (.call 7 (Eb (.v 0) (.v 3))) (.pr true .lt (Eb (.v 2) (.v 3)))))) .nil)))
noncomputable def b9:bU:=(.cons (.iff (.not (.call 5 (Ea (.v 0)))) (.cons .no .nil) .nil) .nil)
noncomputable def b10:bU:=(.cons (.asg (.nm 2) (.comp true (.ite (.pr true .eq (Eb (.v 0) (.v 2))) (.v 1) (.v 0)) [0,1] (.seq (Ei (.v 0) (Ci 1))) [1] 2 (.yes (.pr true .inn (Eb (.v 2) (.tup (Eb (.v 0) (.v 1)))))))) (.cons (.ret (.pr true .tuple (Ea (.pr true .sorted (Ea (.v 2)))))) .nil))
noncomputable def Te:bU:=(.cons (.ret (.comp true (.call 10 (Eb (.v 1) (.v 0))) [0] (.rg (Ci 0) (Ei (.v 0) (Ci 0))) [0] 1 .no)) .nil)
noncomputable def Tf:bU:=(.cons (.ret (.tup (.cons (.call 11 (Ea (.v 1))) (Ec (.pr true .Cy (Ea (.pr true .len (Ea (.v 2))))) (.v 2) (.v 3))))) .nil)
noncomputable def Ti:bU:=(.cons (.ret (Ei (Ei (.of (.v 0) 0 2) (.v 1)) (.v 2))) .nil)
noncomputable def Zz:bU:=.nil
noncomputable def ZC:bU:=.nil
noncomputable def ZD:bU:=.nil
noncomputable def ZF:bU:=.nil
noncomputable def ZG:bU:=.nil
noncomputable def Tj:bU:=(.cons (.asg (.tp [2,3]) (.v 1)) (.cons (.asg (.nm 4) (.comp true (.pr true .ge (Eb (.pr true .min2 (Eb (.v 0) (.pr true .aq (Eb (.v 1) (.v 0))))) (.v 2))) [0] (.rg (Ci 0) (.v 2)) [2,3] 1 .no)) (.cons (.ret (.mk 0 12 (Ec (.v 0) (.comp true (.comp true (Ei (.v 1) (.pr true .aq (Eb (.v 2) (.v 0)))) [0] (.rg (Ci 0) (.v 1)) [2,0] 1 .no) [0] (.rg (Ci 0) (.v 2)) [2,4] 1 .no) (.c (.bl true))))) .nil)))
noncomputable def Tn:bU:=(.cons (.iff (.not (.call 3 (Eb (.v 0) (Ci 2)))) (.cons (.ret (.c (.bl false))) .nil) .nil) (.cons (.asg (.tp [1,2]) (.v 0)) (.cons (.ret (.and (.call 2 (Ec (.v 1) (Ci 1) (Ci 24))) (.call 2 (Ec (.v 2) (Ci 1) (.v 1))))) .nil)))
noncomputable def Tq:bU:=(.cons (.ret (.call 2 (Ec (.v 1) (Ci 0) (.pr true .aq (Eb (Ei (.v 0) (Ci 0)) (Ci 1)))))) .nil)
noncomputable def Tt:bU:=(.cons (.iff (.not (.call 20 (Ea (.v 0)))) (.cons .no .nil) .nil) .nil)
noncomputable def ZJ:bU:=(.cons (.asg (.nm 3) (.pr true .abs (Ea (.pr true .aq (Eb (.v 1) (.v 2)))))) (.cons (.ret (.pr true .min2 (Eb (.v 3) (.pr true .aq (Eb (Ei (.v 0) (Ci 0)) (.v 3)))))) .nil))
noncomputable def Tv:bU:=(.cons (.asg (.nm 2) (.call 25 (Eb (.v 0) (.v 1)))) (.cons (.ret (.pr true .mul (Eb (Ei (.v 1) (Ci 0)) (.v 2)))) .nil))
noncomputable def Tw:bU:=(.cons (.ex (.call 27 (Eb (.v 0) (.v 1)))) (.cons (.ret (.pr true .len (Ea (.call 28 (Eb (.v 0) (.v 1)))))) .nil))
noncomputable def Tz:bU:=(.cons (.ex (.call 27 (Eb (.v 0) (.v 1)))) (.cons (.asg (.nm 2) (.call 28 (Eb (.v 0) (.v 1)))) (.cons (.ex (.call 4 (Eb (.pr true .len (Ea (.v 2))) (Ci 300)))) (.cons (.ret (.v 2)) .nil))))
noncomputable def TF:bU:=(.cons (.ex (.call 9 (Ea (.v 0)))) (.cons (.ex (.call 22 (Ea (.v 1)))) (.cons (.ex (.call 4 (Eb (Ei (.v 0) (Ci 0)) (Ci 6)))) (.cons (.ex (.call 4 (Eb (Ei (.v 1) (Ci 0)) (Ci 8)))) .nil))))
noncomputable def TJ:bU:=(.cons (.asg (.nm 2) (.call 19 (Eb (.v 0) (.v 1)))) (.cons (.asg (.nm 3) (.lst true (Ea (.tup (Ea (Ci 0)))))) (.cons (.fr (.nm 4) (.rg (Ci 1) (Ei (.v 0) (Ci 0))) (.cons (.asg (.nm 5) (.comp true (.v 0) [0] (.seq (Ei (.of (.v 2) 0 0) (.v 4))) [4] 1 (.yes (.pr true .lt (Eb (.v 0) (.v 1)))))) (.cons (.asg (.nm 3) (.jY true (.pr true .add (Eb (.v 0) (.tup (Ea (.v 1))))) [0] (.seq (.v 3)) [1] (.seq (.of (.v 2) 0 1)) [2,5] 2 (.yes (.call 29 (.cons (.v 2) (Ec (.v 0) (.v 3) (.v 1))))))) .nil))) (.cons (.ret (.v 3)) .nil))))
noncomputable def TQ:bU:=(.cons (.ret (.pr true .all (Ea (.comp true (.cm 0 13 (.v 1) (Eb (.v 2) (Ei (.v 3) (.v 0)))) [0] (.seq (.v 2)) [0,3,1] 1 .no)))) .nil)
noncomputable def TV:bU:=(.cons (.ex (.call 9 (Ea (.v 0)))) (.cons (.ex (.call 22 (Ea (.v 1)))) (.cons (.ret (.call 35 (Ec (.v 0) (.v 1) (.v 2)))) .nil)))
noncomputable def TX:bU:=(.cons (.ex (.call 36 (Ec (.v 0) (.v 1) (.v 2)))) (.cons (.ret (.pr true .tuple (Ea (.comp true (.pr true .mod (Eb (.pr true .add (Eb (.v 0) (.v 1))) (Ei (.v 2) (Ci 0)))) [0] (.seq (.v 2)) [3,1] 1 .no)))) .nil))
noncomputable def TY:bU:=(.cons (.ex (.call 36 (Ec (.v 0) (.v 1) (.v 2)))) (.cons (.ret (.call 33 (Eb (.v 1) (.v 2)))) .nil))
noncomputable def Lz:bU:=(.cons (.ret (.pr true .tuple (Ea (.comp true (.pr true .mod (Eb (.pr true .neg (Ea (.v 0))) (Ei (.v 1) (Ci 0)))) [0] (.seq (.v 1)) [0] 1 .no)))) .nil)
noncomputable def T3:bU:=(.cons (.ret (.and (.call 3 (Eb (.v 2) (Ei (.v 0) (Ci 0)))) (.pr true .all (Ea (.comp true (.call 21 (Eb (.v 1) (.v 0))) [0] (.seq (.v 2)) [1] 1 .no))))) .nil)
noncomputable def LC:bU:=(.cons (.ret (.and (.call 34 (Ec (.v 0) (.v 1) (.v 2))) (.pr true .Gp (Ea (.call 37 (Ec (.v 0) (.v 1) (.v 2))))))) .nil)
noncomputable def T4:bU:=(.cons (.ex (.call 9 (Ea (.v 0)))) (.cons (.ex (.call 22 (Ea (.v 1)))) (.cons (.iff (.not (.call 35 (Ec (.v 0) (.v 1) (.v 2)))) (.cons .no .nil) .nil) .nil)))
noncomputable def LQ:bU:=(.cons (.fr (.tp [3,4]) (.seq (Ei (.v 0) (Ci 1))) (.cons (.iff (.pr true .lt (Eb (.call 23 (Ec (.v 1) (Ei (.v 2) (.v 3)) (Ei (.v 2) (.v 4)))) (Ei (.v 1) (Ci 1)))) (.cons (.ret (.tup (Eb (.v 3) (.v 4)))) .nil) .nil) .nil)) (.cons (.ret (.c .non)) .nil))
noncomputable def T5:bU:=(.cons (.ex (.call 27 (Eb (.v 0) (.v 1)))) (.cons (.ret (.pr true .len (Ea (.comp true (.v 0) [0] (.seq (.call 28 (Eb (.v 0) (.v 1)))) [1] 1 (.yes (.pr true .KY (Eb (.v 0) (.call 33 (Eb (.v 1) (.v 0)))))))))) .nil))
noncomputable def T6:bU:=(.cons (.ex (.call 27 (Eb (.v 0) (.v 1)))) (.cons (.ex (.call 36 (Ec (.v 0) (.v 1) (.v 2)))) (.cons (.asg (.nm 3) (.call 31 (.cons (.v 0) (Ec (.v 1) (.v 2) (.pr true .neg (Ea (Ei (.v 2) (Ci 0)))))))) (.cons (.ret (.pr true .nW (Ea (.lst true (Eb (.v 3) (.call 32 (Ec (.v 0) (.v 1) (.v 3)))))))) .nil))))
noncomputable def T7:bU:=(.cons (.iff (.pr true .lt (Eb (.v 1) (.pr true .len (Ea (.v 0))))) (.cons (.ret (Ei (.v 0) (.v 1))) .nil) .nil) (.cons (.ret (Ci 0)) .nil))
noncomputable def T8:bU:=(.cons (.asg (.nm 1) (.pr true .max2 (Eb (.v 0) (.pr true .aq (Eb (Ci 0) (.v 0)))))) (.cons (.ret (.lst false (Eb (.v 1) (.pr true .vq (Ea (.pr true .ge (Eb (.v 1) (.pr true .pow (Eb (Ci 10) (Ci 18)))))))))) .nil))
noncomputable def T9:bU:=(.cons (.iff (.pr true .eq (Eb (Ei (.v 0) (Ci 1)) (Ci 1))) (.cons (.asg (.tp [2,3]) (.pr true .divmod (Eb (Ei (.v 0) (Ci 0)) (.v 1)))) (.cons (.asg (.aq (.v 0) (Ci 0)) (.v 2)) (.cons (.ret (.v 3)) .nil))) .nil) (.cons (.asg (.nm 4) (.pr true .mod (Eb (.pr true .mul (Eb (.pr true .add (Eb (.pr true .mod (Eb (Ei (.v 0) (Ci 0)) (Ci 2147483647))) (Ci 40503))) (Ci 69621))) (Ci 2147483629)))) (.cons (.asg (.nm 4) (.pr true .mod (Eb (.pr true .add (Eb (.pr true .mul (Eb (.v 4) (.v 4))) (Ci 7817))) (Ci 2147483587)))) (.cons (.asg (.aq (.v 0) (Ci 0)) (.pr true .mod (Eb (.pr true .add (Eb (.pr true .mul (Eb (.v 4) (Ci 48271))) (Ci 11))) (Ci 2147483629)))) (.cons (.ret (.pr true .mod (Eb (.pr true .fdiv (Eb (Ei (.v 0) (Ci 0)) (Ci 32))) (.v 1)))) .nil)))))
noncomputable def T_:bU:=(.cons (.asg (.nm 2) (Ei (.lst true (Ec (Ci 2) (Ci 4) (Ci 6))) (.call 42 (Eb (.v 0) (Ci 3))))) (.cons (.asg (.nm 3) (.lst true .nil)) (.cons (.fr (.nm 4) (.rg (Ci 0) (.v 1)) (.cons (.asg (.nm 3) (.pr true .add (Eb (.v 3) (.comp true (.tup (Eb (.v 1) (.v 0))) [0] (.rg (.pr true .add (Eb (.v 4) (Ci 1))) (.v 1)) [4,0,2] 1 (.yes (.pr true .lt (Eb (.call 42 (Eb (.v 2) (Ci 8))) (.v 3)))))))) .nil)) (.cons (.ret (.tup (Eb (.v 1) (.pr true .tuple (Ea (.v 3)))))) .nil))))
noncomputable def Ua:bU:=(.cons (.asg (.nm 1) (.lst true (.cons (.tup (Eb (Ci 2) (Ci 1))) (.cons (.tup (Eb (Ci 3) (Ci 1))) (.cons (.tup (Eb (Ci 4) (Ci 1))) (.cons (.tup (Eb (Ci 5) (Ci 2))) (.cons (.tup (Eb (Ci 5) (Ci 1))) (.cons (.tup (Eb (Ci 4) (Ci 2))) (.cons (.tup (Eb (Ci 6) (Ci 2))) (.cons (.tup (Eb (Ci 7) (Ci 3))) (.cons (.tup (Eb (Ci 7) (Ci 2))) (Ec (.tup (Eb (Ci 8) (Ci 3))) (.tup (Eb (Ci 3) (Ci 2))) (.tup (Eb (Ci 1) (Ci 1))))))))))))))) (.cons (.ret (Ei (.v 1) (.call 42 (Eb (.v 0) (Ci 12))))) .nil))
noncomputable def Ub:bU:=(.cons (.asg (.nm 4) (.call 39 (Ec (.v 1) (.v 2) (.v 3)))) (.cons (.iff (.or (.not (.call 30 (Ec (.v 1) (.v 2) (.v 4)))) (.or (.pr true .KR (Eb (.v 4) (.v 3))) (.or (.pr true .ne (Eb (Ei (.v 4) (Ci 0)) (Ci 0))) (.pr true .ne (Eb (.call 39 (Ec (.v 1) (.v 2) (.v 4))) (.v 4)))))) (.cons (.ret (.c (.bl false))) .nil) .nil) (.cons (.asg (.nm 5) (.call 31 (.cons (.v 1) (Ec (.v 2) (.call 32 (Ec (.v 1) (.v 2) (.v 3))) (.call 42 (Eb (.v 0) (Ci 9))))))) (.cons (.iff (.pr true .ne (Eb (.call 39 (Ec (.v 1) (.v 2) (.v 5))) (.v 4))) (.cons (.ret (.c (.bl false))) .nil) .nil) (.cons (.ret (.pr true .eq (Eb (.call 39 (Ec (.v 1) (.v 2) (.call 31 (.cons (.v 1) (Ec (.v 2) (.v 3) (.call 42 (Eb (.v 0) (Ci 9)))))))) (.v 4)))) .nil)))))
noncomputable def Uc:bU:=(.cons (.par 3 4 (.call 24 (Eb (.v 1) (.v 2))) (.call 38 (Eb (.v 1) (.v 2)))) (.cons (.iff (.or (.pr true .lt (Eb (.pr true .mul (Eb (.pr true .mul (Eb (Ci 2) (Ei (.v 2) (Ci 0)))) (.v 4))) (.v 3))) (.or (.pr true .lt (Eb (.pr true .mul (Eb (Ci 2) (.v 4))) (.call 25 (Eb (.v 1) (.v 2))))) (.pr true .ne (Eb (.pr true .eq (Eb (.v 4) (Ci 0))) (.pr true .eq (Eb (.v 3) (Ci 0))))))) (.cons (.ret (.c (.bl false))) .nil) .nil) (.cons (.iff (.pr true .gt (Eb (.call 25 (Eb (.v 1) (.v 2))) (Ci 100))) (.cons (.ret (.c (.bl true))) .nil) .nil) (.cons (.asg (.nm 5) (.call 26 (Eb (.v 1) (.v 2)))) (.cons (.asg (.nm 6) (.Cz (.comp true (.tup (Eb (.call 39 (Ec (.v 1) (.v 2) (.v 0))) (.c (.bl true)))) [0] (.seq (.v 5)) [1,2] 1 .no))) (.cons (.iff (.pr true .ne (Eb (.qu (.v 6)) (.v 4))) (.cons (.ret (.c (.bl false))) .nil) .nil) (.cons (.iff (.pr true .eq (Eb (.v 5) (.lst true .nil))) (.cons (.ret (.c (.bl true))) .nil) .nil) (.cons (.asg (.nm 7) (Ei (.v 5) (.call 42 (Eb (.v 0) (.pr true .len (Ea (.v 5))))))) (.cons (.ret (.call 45 (.cons (.v 0) (Ec (.v 1) (.v 2) (.v 7))))) .nil)))))))))
noncomputable def Ud:bU:=(.cons (.fr (.nm 1) (.seq (.pr true .add (Eb (.lst true (Ea (.call 40 (Eb (.v 0) (Ci 0))))) (.sl true (.v 0) (.yes (Ci 1)) (.yes (Ci 3)))))) (.cons (.asg (.nm 2) (.call 41 (Ea (.v 1)))) (.cons (.asg (.nm 3) (.call 43 (Eb (.v 2) (.pr true .add (Eb (Ci 1) (.call 42 (Eb (.v 2) (Ci 4)))))))) (.cons (.iff (.not (.call 46 (Ec (.v 2) (.v 3) (.call 44 (Ea (.v 2)))))) (.cons (.ret (.c (.bl false))) .nil) .nil) .nil)))) (.cons (.ret (.c (.bl true))) .nil))
noncomputable def T(n:Nat):Option Df:=([⟨1,1,b0⟩,⟨1,1,b1⟩,⟨3,3,b2⟩,⟨2,2,b3⟩,⟨2,2,b4⟩,⟨3,1,b5⟩,⟨1,1,b6⟩,⟨2,2,b7⟩,⟨4,2,b8⟩,⟨1,1,b9⟩,⟨3,2,b10⟩,⟨1,1,Te⟩,⟨4,4,Tf⟩,⟨3,3,Ti⟩,⟨4,4,Zz⟩,⟨3,3,ZC⟩,⟨2,2,ZD⟩,⟨2,2,ZF⟩,⟨2,2,ZG⟩,⟨5,2,Tj⟩,⟨3,1,Tn⟩,⟨2,2,Tq⟩,⟨1,1,Tt⟩,⟨4,3,ZJ⟩,⟨3,2,Tv⟩,⟨2,2,Tw⟩,⟨3,2,Tz⟩,⟨2,2,TF⟩,⟨6,2,TJ⟩,⟨4,4,TQ⟩,⟨3,3,TV⟩,⟨4,4,TX⟩,⟨3,3,TY⟩,⟨2,2,Lz⟩,⟨3,3,T3⟩,⟨3,3,LC⟩,⟨3,3,T4⟩,⟨5,3,LQ⟩,⟨2,2,T5⟩,⟨4,3,T6⟩,⟨2,2,T7⟩,⟨2,1,T8⟩,⟨5,2,T9⟩,⟨5,2,T_⟩,⟨2,1,Ua⟩,⟨6,4,Ub⟩,⟨8,3,Uc⟩,⟨4,1,Ud⟩]:List Df)[n]?
theorem T_0:T 0=some ⟨1,1,b0⟩:=rfl
theorem T_1:T 1=some ⟨1,1,b1⟩:=rfl
theorem ZK:T 2=some ⟨3,3,b2⟩:=rfl
theorem ZL:T 3=some ⟨2,2,b3⟩:=rfl
theorem ZM:T 4=some ⟨2,2,b4⟩:=rfl
theorem ZP:T 5=some ⟨3,1,b5⟩:=rfl
theorem ZQ:T 6=some ⟨1,1,b6⟩:=rfl
theorem ZR:T 7=some ⟨2,2,b7⟩:=rfl
theorem ZS:T 8=some ⟨4,2,b8⟩:=rfl
theorem ZV:T 9=some ⟨1,1,b9⟩:=rfl
theorem ZW:T 10=some ⟨3,2,b10⟩:=rfl
theorem ZX:T 11=some ⟨1,1,Te⟩:=rfl
theorem Z0:T 12=some ⟨4,4,Tf⟩:=rfl
theorem Z9:T 13=some ⟨3,3,Ti⟩:=rfl
theorem znp:T 14=some ⟨4,4,Zz⟩:=rfl
theorem zno:T 15=some ⟨3,3,ZC⟩:=rfl
theorem znq:T 16=some ⟨2,2,ZD⟩:=rfl
theorem zns:T 17=some ⟨2,2,ZF⟩:=rfl
theorem znr:T 18=some ⟨2,2,ZG⟩:=rfl
theorem Z_:T 19=some ⟨5,2,Tj⟩:=rfl
theorem zm6:T 20=some ⟨3,1,Tn⟩:=rfl
theorem zmT:T 21=some ⟨2,2,Tq⟩:=rfl
theorem zmX:T 22=some ⟨1,1,Tt⟩:=rfl
theorem zne:T 23=some ⟨4,3,ZJ⟩:=rfl
theorem zmS:T 24=some ⟨3,2,Tv⟩:=rfl
theorem zm0:T 25=some ⟨2,2,Tw⟩:=rfl
theorem zmR:T 26=some ⟨3,2,Tz⟩:=rfl
theorem zmJ:T 27=some ⟨2,2,TF⟩:=rfl
theorem zm7:T 28=some ⟨6,2,TJ⟩:=rfl
theorem znb:T 29=some ⟨4,4,TQ⟩:=rfl
theorem zmY:T 30=some ⟨3,3,TV⟩:=rfl
theorem zm3:T 31=some ⟨4,4,TX⟩:=rfl
theorem zmN:T 32=some ⟨3,3,TY⟩:=rfl
theorem Ue:T 33=some ⟨2,2,Lz⟩:=rfl
theorem zmE:T 34=some ⟨3,3,T3⟩:=rfl
theorem Ug:T 35=some ⟨3,3,LC⟩:=rfl
theorem zmO:T 36=some ⟨3,3,T4⟩:=rfl
theorem Uh:T 37=some ⟨5,3,LQ⟩:=rfl
theorem zmZ:T 38=some ⟨2,2,T5⟩:=rfl
theorem zmK:T 39=some ⟨4,3,T6⟩:=rfl
theorem zmW:T 40=some ⟨2,2,T7⟩:=rfl
theorem zmQ:T 41=some ⟨2,1,T8⟩:=rfl
theorem zm8:T 42=some ⟨5,2,T9⟩:=rfl
theorem zmP:T 43=some ⟨5,2,T_⟩:=rfl
theorem zm2:T 44=some ⟨2,1,Ua⟩:=rfl
theorem zmG:T 45=some ⟨6,4,Ub⟩:=rfl
theorem zmV:T 46=some ⟨8,3,Uc⟩:=rfl
theorem znc:T 47=some ⟨4,1,Ud⟩:=rfl
noncomputable def aq:Nat->Nat->Bool:=λc e=>(let n:=λc=>if c<0 then c else 0;n e==0||n c==n e)
end dN
namespace dN
open PySem PySem.Spec PyProof.Rows L2 Mi
abbrev LK(i:Nat)(x:Str)(k:NameKind):Prop:=(au (top i)).names.lookup x=some k
noncomputable abbrev gI:NameKind:=.globalImplicit
abbrev N5:List Str:=["thing","many","ties"]
abbrev N10:List Str:=["web","place","ends"]
abbrev N11:List Str:=["web"]
abbrev Ui:List Str:=["web","ring","k","d","wide"]
abbrev Uj:List Str:=["web","ring","board","rows","place","ahead"]
abbrev N29:List Str:=["board","row","ahead","spot"]
abbrev N31:List Str:=["web","ring","hues","steps"]
abbrev N33:List Str:=["ring","hues"]
abbrev N34:List Str:=["web","ring","thing"]
abbrev N38:List Str:=["web","ring"]
abbrev N43:List Str:=["_law_pen_here","_law_many","_law_often","_law_ties","_law_one"]
abbrev N46:List Str:=["_law_pen_here","_law_web_here","_law_ring","_law_many","_law_lots","_law_rows","_law_firsts","_law_row"]
noncomputable def cl(K:W.Frag):Cl:=⟨iw (lk.L K),λ_=>[],λ_=>dD K "Board",λ_=>["ends","spots","apart","alike"]⟩
structure Top(K:W.Frag)(mg:Str->Option Value):Prop where
 d1:D3 K mg "is_whole" (top 8) ["thing"]
 d2:D3 K mg "is_within" (top 9) ["thing","least","most"]
 d3:D3 K mg "is_row" (top 10) ["thing","many"]
 d4:D3 K mg "check_most" (top 11) ["many","most"]
 d5:D3 K mg "is_web" (top 14) ["thing"]
 d6:D3 K mg "is_many" (top 15) ["thing"]
 d7:D3 K mg "is_place" (top 16) ["many","thing"]
 d8:D3 K mg "is_tie" (top 17) ["many","thing"]
 d9:D3 K mg "check_web" (top 18) ["thing"]
 Uk:D3 K mg "tied_to" (top 19) ["web","place"]
 Ul:D3 K mg "all_ends" (top 20) ["web"]
 Um:D3 K mg "ring_board" (top 23) ["web","ring"]
 Uo:D3 K mg "is_ring" (top 26) ["thing"]
 Uq:D3 K mg "is_spot" (top 27) ["ring","thing"]
 Jg:D3 K mg "check_ring" (top 28) ["thing"]
 Ur:D3 K mg "gap_of" (top 29) ["ring","one","other"]
 Us:D3 K mg "hues_many" (top 34) ["web","ring"]
 Jh:D3 K mg "fixed_many" (top 35) ["web","ring"]
 Ut:D3 K mg "all_fixed" (top 36) ["web","ring"]
 Dq:D3 K mg "check_few" (top 37) ["web","ring"]
 Ji:D3 K mg "fixed_rows" (top 38) ["web","ring"]
 Uu:D3 K mg "is_free" (top 39) ["board","row","ahead","spot"]
 Uv:D3 K mg "hues_hold" (top 41) ["web","ring","thing"]
 Jj:D3 K mg "turned_on" (top 42) ["web","ring","hues","steps"]
 LR:D3 K mg "mirrored_hues" (top 43) ["web","ring","hues"]
 L_:D3 K mg "mirrored" (top 44) ["ring","hues"]
 Uw:D3 K mg "are_spots" (top 45) ["web","ring","thing"]
 Ma:D3 K mg "are_hues" (top 46) ["web","ring","thing"]
 Jk:D3 K mg "check_hues" (top 47) ["web","ring","thing"]
 Ux:D3 K mg "clash_of" (top 48) ["web","ring","spots"]
 Uy:D3 K mg "folded_many" (top 50) ["web","ring"]
 Bk:D3 K mg "first_folded" (top 51) ["web","ring","hues"]
 Uz:D3 K mg "_law_cell" (top 53) ["_law_script","_law_k"]
 UG:D3 K mg "_law_pen" (top 54) ["_law_cell_here"]
 v8:D3 K mg "_law_draw" (top 55) ["_law_pen_here","_law_many"]
 UJ:D3 K mg "_law_web" (top 56) ["_law_pen_here","_law_many"]
 UL:D3 K mg "_law_small_ring" (top 57) ["_law_pen_here"]
 UW:D3 K mg "_law_hues_right" (top 58) ["_law_pen_here","_law_web_here","_law_ring","_law_row"]
 U6:D3 K mg "_law_right" (top 59) ["_law_pen_here","_law_web_here","_law_ring"]
 Mf:D3 K mg "law" (top 60) ["_law_script"]
 fU:∃t,mg "MOST_PLACES"=some (.int 8 t)
 gQ:∃t,mg "MOST_SPOTS"=some (.int 24 t)
 gR:∃t,mg "FEW_PLACES"=some (.int 6 t)
 iW:∃t,mg "FEW_SPOTS"=some (.int 8 t)
 iY:∃t,mg "MOST_TOLD"=some (.int 300 t)
 z10:mg "abs"=none
 z6:mg "all"=none
 z2:mg "bool"=none
 z13:mg "dict"=none
 z12:mg "divmod"=none
 z1:mg "int"=none
 z0:mg "isinstance"=none
 z4:mg "len"=none
 z11:mg "max"=none
 z9:mg "min"=none
 z8:mg "range"=none
 z7:mg "sorted"=none
 z3:mg "tuple"=none
 z5:mg "zip"=none
 ow:Ow K (cl K) 0
 mq:Mk K ((cl K).b 0) (jU K ((cl K).b 0) "__init__")
 mc:mg "Board"=some (.ref ((cl K).b 0))
 U7:Mt K ((cl K).b 0) "__init__" "Board.__init__" Cg ["self","web","apart","alike"] (jU K ((cl K).b 0) "__init__") (oK K ((cl K).b 0) "__init__" Cg)
 U8:Mt K ((cl K).b 0) "far_apart" "Board.far_apart" En ["self","spot","other"] (jU K ((cl K).b 0) "far_apart") (oK K ((cl K).b 0) "far_apart" En)
theorem zkS{K:W.Frag}{h:Heap}{mg:Str->Option Value}(Sb:pY fs ms xs lk bd K)(X:K.In h)(G:h.Ns mainGlobals mg):Top K mg where
 d1:=uF Sb.i X G 0
 d2:=uG Sb.i X G 1
 d3:=mU Sb.i X G 2
 d4:=mU Sb.i X G 3
 d5:=uF Sb.i X G 4
 d6:=uF Sb.i X G 5
 d7:=mU Sb.i X G 6
 d8:=mU Sb.i X G 7
 d9:=uF Sb.i X G 8
 Uk:=mU Sb.i X G 9
 Ul:=uF Sb.i X G 10
 Um:=mU Sb.i X G 11
 Uo:=uF Sb.i X G 12
 Uq:=mU Sb.i X G 13
 Jg:=uF Sb.i X G 14
 Ur:=uG Sb.i X G 15
 Us:=mU Sb.i X G 16
 Jh:=mU Sb.i X G 17
 Ut:=mU Sb.i X G 18
 Dq:=mU Sb.i X G 19
 Ji:=mU Sb.i X G 20
 Uu:=RT Sb.i X G 21
 Uv:=uG Sb.i X G 22
 Jj:=RT Sb.i X G 23
 LR:=uG Sb.i X G 24
 L_:=mU Sb.i X G 25
 Uw:=uG Sb.i X G 26
 Ma:=uG Sb.i X G 27
 Jk:=uG Sb.i X G 28
 Ux:=uG Sb.i X G 29
 Uy:=mU Sb.i X G 30
 Bk:=uG Sb.i X G 31
 Uz:=mU Sb.i X G 32
 UG:=uF Sb.i X G 33
 v8:=mU Sb.i X G 34
 UJ:=mU Sb.i X G 35
 UL:=uF Sb.i X G 36
 UW:=RT Sb.i X G 37
 U6:=uG Sb.i X G 38
 Mf:=uF Sb.i X G 39
 fU:=Ik (Sb.i.gd.it ("MOST_PLACES",8) (mG 0)) X G
 gQ:=Ik (Sb.i.gd.it ("MOST_SPOTS",24) (mG 1)) X G
 gR:=Ik (Sb.i.gd.it ("FEW_PLACES",6) (mG 2)) X G
 iW:=Ik (Sb.i.gd.it ("FEW_SPOTS",8) (mG 3)) X G
 iY:=Ik (Sb.i.gd.it ("MOST_TOLD",300) (mG 4)) X G
 z10:=pP (Sb.i.gd.no "abs" (mG 0)) X G
 z6:=pP (Sb.i.gd.no "all" (mG 1)) X G
 z2:=pP (Sb.i.gd.no "bool" (mG 2)) X G
 z13:=pP (Sb.i.gd.no "dict" (mG 3)) X G
 z12:=pP (Sb.i.gd.no "divmod" (mG 4)) X G
 z1:=pP (Sb.i.gd.no "int" (mG 5)) X G
 z0:=pP (Sb.i.gd.no "isinstance" (mG 6)) X G
 z4:=pP (Sb.i.gd.no "len" (mG 7)) X G
 z11:=pP (Sb.i.gd.no "max" (mG 8)) X G
 z9:=pP (Sb.i.gd.no "min" (mG 9)) X G
 z8:=pP (Sb.i.gd.no "range" (mG 10)) X G
 z7:=pP (Sb.i.gd.no "sorted" (mG 11)) X G
 z3:=pP (Sb.i.gd.no "tuple" (mG 12)) X G
 z5:=pP (Sb.i.gd.no "zip" (mG 13)) X G
 ow:=zmm Sb.b rfl rfl Dc
 mq:=zmC Sb.b (Sb.m ("__init__","Board.__init__",Cg) (mG 0)).2
 mc:=zmv Sb.b X G
 U7:=znk (Sb.m ("__init__","Board.__init__",Cg) (mG 0))
 U8:=znf (Sb.m ("far_apart","Board.far_apart",En) (mG 1))
abbrev FO(P:Program)(w:World)(K:W.Frag)(mg:Str->Option Value)(base:Heap)(k:Nat)(c:Bool)(x:Str)(i:Nat)(ps:List Str)(n:Nat):Prop:=bY P w K mg base (fK P w) c k (gP K x) (fdOf K x (top i)) ps (ni K (cl K) (call aq T k c n))
abbrev FM(P:Program)(w:World)(K:W.Frag)(mg:Str->Option Value)(base:Heap)(k:Nat)(m:Str)(st:Stmt)(ps:List Str)(sp:Sp):Prop:=bY P w K mg base (fK P w) true k (jU K ((cl K).b 0) m) (oK K ((cl K).b 0) m st) ps sp
structure Fs(P:Program)(w:World)(K:W.Frag)(mg:Str->Option Value)(base:Heap)(k:Nat):Prop where
 t1:FO P w K mg base k true "is_whole" 8 ["thing"] 1
 t2:FO P w K mg base k true "is_within" 9 ["thing","least","most"] 2
 t3:FO P w K mg base k true "is_row" 10 ["thing","many"] 3
 t4:FO P w K mg base k true "check_most" 11 ["many","most"] 4
 t5:FO P w K mg base k true "is_web" 14 ["thing"] 5
 t6:FO P w K mg base k true "is_many" 15 ["thing"] 6
 t7:FO P w K mg base k true "is_place" 16 ["many","thing"] 7
 t8:FO P w K mg base k true "is_tie" 17 ["many","thing"] 8
 t9:FO P w K mg base k true "check_web" 18 ["thing"] 9
 t10:FO P w K mg base k true "tied_to" 19 ["web","place"] 10
 t11:FO P w K mg base k true "all_ends" 20 ["web"] 11
 t12:FM P w K mg base k "__init__" Cg ["self","web","apart","alike"] (Iz K (cl K) 0 (call aq T k true 12))
 t13:FM P w K mg base k "far_apart" En ["self","spot","other"] (ni K (cl K) (call aq T k true 13))
 t19:FO P w K mg base k true "ring_board" 23 ["web","ring"] 19
 t20:FO P w K mg base k true "is_ring" 26 ["thing"] 20
 t21:FO P w K mg base k true "is_spot" 27 ["ring","thing"] 21
 Mg:FO P w K mg base k true "check_ring" 28 ["thing"] 22
 t23:FO P w K mg base k true "gap_of" 29 ["ring","one","other"] 23
 t24:FO P w K mg base k true "hues_many" 34 ["web","ring"] 24
 Mh:FO P w K mg base k true "fixed_many" 35 ["web","ring"] 25
 t26:FO P w K mg base k true "all_fixed" 36 ["web","ring"] 26
 Jl:FO P w K mg base k true "check_few" 37 ["web","ring"] 27
 Mj:FO P w K mg base k true "fixed_rows" 38 ["web","ring"] 28
 t29:FO P w K mg base k true "is_free" 39 ["board","row","ahead","spot"] 29
 t30:FO P w K mg base k true "hues_hold" 41 ["web","ring","thing"] 30
 Ml:FO P w K mg base k true "turned_on" 42 ["web","ring","hues","steps"] 31
 U9:FO P w K mg base k true "mirrored_hues" 43 ["web","ring","hues"] 32
 U_:FO P w K mg base k true "mirrored" 44 ["ring","hues"] 33
 t34:FO P w K mg base k true "are_spots" 45 ["web","ring","thing"] 34
 Va:FO P w K mg base k true "are_hues" 46 ["web","ring","thing"] 35
 Mp:FO P w K mg base k true "check_hues" 47 ["web","ring","thing"] 36
 t37:FO P w K mg base k true "clash_of" 48 ["web","ring","spots"] 37
 t38:FO P w K mg base k true "folded_many" 50 ["web","ring"] 38
 Dr:FO P w K mg base k true "first_folded" 51 ["web","ring","hues"] 39
 t40:FO P w K mg base k true "_law_cell" 53 ["_law_script","_law_k"] 40
 t41:FO P w K mg base k true "_law_pen" 54 ["_law_cell_here"] 41
 yh:FO P w K mg base k true "_law_draw" 55 ["_law_pen_here","_law_many"] 42
 t43:FO P w K mg base k true "_law_web" 56 ["_law_pen_here","_law_many"] 43
 t44:FO P w K mg base k true "_law_small_ring" 57 ["_law_pen_here"] 44
 t45:FO P w K mg base k true "_law_hues_right" 58 ["_law_pen_here","_law_web_here","_law_ring","_law_row"] 45
 t46:FO P w K mg base k true "_law_right" 59 ["_law_pen_here","_law_web_here","_law_ring"] 46
 t47:FO P w K mg base k true "law" 60 ["_law_script"] 47
section
variable {P:Program}{w:World}{K:W.Frag}{mg:Str->Option Value}{base:Heap}{k:Nat}
theorem zh2(Tp:Top K mg)(Fk:Fs P w K mg base k):Fs P w K mg base (k+1) where
 t1:=fJ Tp.d1 ["thing"] T_1 λ_ _ _ _ _ _ hr=>(aL (cI (xP (Lb rfl Tp.z0 gk (gv 0) (La rfl Tp.z1 zkw gk dk)) (Ah (zl8 (Lb rfl Tp.z0 gk (gv 0) (La rfl Tp.z2 zic gk dk))))))
 bA)
 t2:=fJ Tp.d2 ["thing","least","most"] ZK λ_ _ _ _ _ _ hr=>(aL (cI (xP (gc Fk.t1 Tp.d1 hr bM gk (aB (gv 0) aK)) (Ah (zl7 K9 K9 (gv 1) (gv 0) (gv 2)))))
 bA)
 t3:=fJ Tp.d3 ["thing","many"] ZL λ_ _ _ _ _ _ hr=>(aL (cI (xP (Lb rfl Tp.z0 gk (gv 0) (La rfl Tp.z3 K8 gk dk)) (Ah (xR (Ai hr) (Al Tp.z4 gk (aB (gv 0) aK)) (gv 1)))))
 bA)
 t4:=fJ Tp.d4 ["many","most"] ZM λ_ _ _ _ _ _ hr=>(aL (lF (lD K_ (gv 0) (gv 1)) (aL Lg
 bA) bA)
 bA)
 t5:=fJ Tp.d5 N5 ZP λ_ _ _ _ _ _ hr=>(aL (lF (tQ (qT (gc Fk.t3 Tp.d3 hr bM gk (aB (gv 0) (aB aY aK))))) (aL (cI oE)
 bA) bA)
 (aL (Ij 1 2 rfl rfl nd rfl rfl jc jl rfl rfl (gv 0))
 (aL (lF (Rw (Di (tQ (qT (gc Fk.t6 Tp.d6 hr bM gk (aB (gv 1) aK)))) (Ru (tQ (qT (Lb rfl Tp.z0 gk (gv 2) (La rfl Tp.z3 K8 gk dk))))))) (aL (cI oE)
 bA) bA)
 (aL (lF (tQ (qT (Ld rfl Tp.z6 gk (aB (qH (au (top 14)) N5 ["tie"] ["many"] [1] rfl rfl rfl Dc Dc (oA 0) Dc (qG (gv 2)) (λ_ _ _ _ _ _=>(oF 0 Dc rfl Dc)) (λ_ _ _ _ _ _=>tU) (λ_ _ _ _ _ _=>(gc Fk.t8 Tp.d8 hr Am vW (aB (cH 1) (aB (cH 0) aK))))) aK)))) (aL (cI oE)
 bA) bA)
 (aL (cI (Ld rfl Tp.z6 gk (aB (qH (au (top 14)) N5 ["tie","later"] [] [] rfl rfl rfl Dc Dc (Ro 0 1) Dc (zlG Tp.z5 gk (gv 2) (X8 (gv 2) (Rx aY) znd)) (λ_ _ _ _ _ _=>(Yc 0 1 rfl Dc rfl rfl Dc Dc)) (λ_ _ _ _ _ _=>tU) (λ_ _ _ _ _ _=>(xR (xQ hr) (cH 0) (cH 1)))) aK)))
 bA)))))
 t6:=fJ Tp.d6 ["thing"] ZQ λ_ _ _ _ _ _ hr=>(aL (cI (gc Fk.t2 Tp.d2 hr bM gk (aB (gv 0) (aB aY (aB (HY Tp.fU gk dk) aK)))))
 bA)
 t7:=fJ Tp.d7 ["many","thing"] ZR λ_ _ _ _ _ _ hr=>(aL (cI (gc Fk.t2 Tp.d2 hr bM gk (aB (gv 1) (aB aY (aB (fO Ae (gv 0) aY) aK)))))
 bA)
 t8:=fJ Tp.d8 ["many","thing","one","other"] ZS λ_ _ _ _ _ _ hr=>(aL (lF (tQ (qT (gc Fk.t3 Tp.d3 hr bM gk (aB (gv 1) (aB aY aK))))) (aL (cI oE)
 bA) bA)
 (aL (Ij 2 3 rfl rfl nd rfl rfl jl jl rfl rfl (gv 1))
 (aL (cI (xP (gc Fk.t7 Tp.d7 hr bM gk (aB (gv 0) (aB (gv 2) aK))) (xP (gc Fk.t7 Tp.d7 hr bM gk (aB (gv 0) (aB (gv 3) aK))) (Ah (xR (xQ hr) (gv 2) (gv 3))))))
 bA)))
 t9:=fJ Tp.d9 ["thing"] ZV λ_ _ _ _ _ _ hr=>(aL (lF (tQ (qT (gc Fk.t5 Tp.d5 hr bM gk (aB (gv 0) aK)))) (aL Lg
 bA) bA)
 bA)
 t10:=fJ Tp.Uk N10 ZW λ_ _ _ _ _ _ hr=>(aL (zk8 2 (au (top 19)) N10 ["one","other"] ["place"] [1] nd rfl jl rfl rfl rfl rfl Dc Dc (Ro 0 1) Dc (qG (f9 (gv 0) aY)) (λ_ _ _ _ _ _=>(Yc 0 1 rfl Dc rfl rfl Dc Dc)) (λ_ _ _ _ _ _=>(Ib (lD (zni hr) (cH 2) (lE (aB (cH 0) (aB (cH 1) aK)))))) (λ_ _ _ _ _ _=>(zlW (lD (Ai hr) (cH 0) (cH 2)) (cH 1) (cH 0))))
 (aL (cI (Le Tp.z3 gk (aB (zgW Tp.z7 gk (aB (gv 2) aK)) aK)))
 bA))
 t11:=fJ Tp.Ul N11 ZX λ_ _ _ _ _ _ hr=>(aL (cI (qH (au (top 20)) N11 ["place"] ["web"] [0] rfl rfl rfl Dc Dc (oA 0) Dc (Ie Tp.z8 gk (f9 (gv 0) aY)) (λ_ _ _ _ _ _=>(oF 0 Dc rfl Dc)) (λ_ _ _ _ _ _=>tU) (λ_ _ _ _ _ _=>(gc Fk.t10 Tp.Uk hr Am vW (aB (cH 1) (aB (cH 0) aK))))))
 bA)
 t12:=ziu (N:=["self","web","apart","alike"]) Tp.U7.fn Z0 (λ_ _ _ _ _ _ hr=>(Ls (j:=0) Tp.ow (gc Fk.t11 Tp.Ul hr bM gk (aB (gv 1) aK)) (Ls (j:=0) Tp.ow (zmk rfl Tp.z3 gk Tp.z8 gk (aB (Al Tp.z4 gk (aB (gv 2) aK)) aK)) (Ls (j:=0) Tp.ow (gv 2) (Ls (j:=0) Tp.ow (gv 3) zkb))))) (by show (4:Nat)<=900;decide)
 t13:=fM Tp.U8 ["self","spot","other"] Z9 λ_ _ _ _ _ _ hr=>(aL (cI (f9 (f9 (Sg Tp.ow (gv 0)) (gv 1)) (gv 2)))
 bA)
 t19:=fR Tp.Um Ui Z_ λ_ _ _ _ _ _ hr=>(aL (Ij 2 3 rfl rfl nd rfl rfl jc jc rfl rfl (gv 1))
 (aL (jF 4 nd rfl jc rfl (qH (au (top 23)) Ui ["gap"] ["k","d"] [2,3] rfl rfl rfl Dc Dc (oA 0) Dc (Ie Tp.z8 gk (gv 2)) (λ_ _ _ _ _ _=>(oF 0 Dc rfl Dc)) (λ_ _ _ _ _ _=>tU) (λ_ _ _ _ _ _=>(xR X7 (X_ rfl Tp.z9 vW (aB (cH 0) (aB (fO Ae (cH 1) (cH 0)) aK))) (cH 2)))))
 (aL (cI (znn Tp.mq Fk.t12 (Mi.bB.made hr _ _) Tp.U7.bd Tp.mc gk (aB (gv 0) (aB (qH (au (top 23)) Ui ["spot"] ["k","wide"] [2,4] rfl rfl rfl Dc Dc (oA 0) Dc (Ie Tp.z8 gk (gv 2)) (λ_ _ _ _ _ _=>(oF 0 Dc rfl Dc)) (λ_ _ _ _ _ _=>tU) (λ_ _ _ _ _ _=>(ziG ["spot","k","wide"] ["other"] ["wide","spot"] [2,0] rfl rfl Dc Dc (oA 0) Dc (Ie Tp.z8 vW (cH 1)) (λ_ _ _ _ _ _=>(oF 0 Dc rfl Dc)) (λ_ _ _ _ _ _=>tU) (λ_ _ _ _ _ _=>(f9 (cH 1) (fO Ae (cH 2) (cH 0))))))) (aB oE aK)))))
 bA)))
 t20:=fJ Tp.Uo ["thing","k","d"] zm6 λ_ _ _ _ _ _ hr=>(aL (lF (tQ (qT (gc Fk.t3 Tp.d3 hr bM gk (aB (gv 0) (aB aY aK))))) (aL (cI oE)
 bA) bA)
 (aL (Ij 1 2 rfl rfl nd rfl rfl jl jl rfl rfl (gv 0))
 (aL (cI (xP (gc Fk.t2 Tp.d2 hr bM gk (aB (gv 1) (aB aY (aB (HY Tp.gQ gk dk) aK)))) (Ah (gc Fk.t2 Tp.d2 hr bM gk (aB (gv 2) (aB aY (aB (gv 1) aK)))))))
 bA)))
 t21:=fJ Tp.Uq ["ring","thing"] zmT λ_ _ _ _ _ _ hr=>(aL (cI (gc Fk.t2 Tp.d2 hr bM gk (aB (gv 1) (aB aY (aB (fO Ae (f9 (gv 0) aY) aY) aK)))))
 bA)
 Mg:=fJ Tp.Jg ["thing"] zmX λ_ _ _ _ _ _ hr=>(aL (lF (tQ (qT (gc Fk.t20 Tp.Uo hr bM gk (aB (gv 0) aK)))) (aL Lg
 bA) bA)
 bA)
 t23:=fJ Tp.Ur ["ring","one","other","gap"] zne λ_ _ _ _ _ _ hr=>(aL (jF 3 nd rfl jl rfl (zl9 Tp.z10 gk (aB (fO Ae (gv 1) (gv 2)) aK)))
 (aL (cI (X_ rfl Tp.z9 gk (aB (gv 3) (aB (fO Ae (f9 (gv 0) aY) (gv 3)) aK))))
 bA))
 t24:=fJ Tp.Us ["web","ring","many"] zmS λ_ _ _ _ _ _ hr=>(aL (jF 2 nd rfl jl rfl (gc Fk.Mh Tp.Jh hr bM gk (aB (gv 0) (aB (gv 1) aK))))
 (aL (cI (fO Af (f9 (gv 1) aY) (gv 2)))
 bA))
 Mh:=fJ Tp.Jh ["web","ring"] zm0 λ_ _ _ _ _ _ hr=>(aL (nu (gc Fk.Jl Tp.Dq hr bM gk (aB (gv 0) (aB (gv 1) aK))))
 (aL (cI (Al Tp.z4 gk (aB (gc Fk.Mj Tp.Ji hr bM gk (aB (gv 0) (aB (gv 1) aK))) aK)))
 bA))
 t26:=fJ Tp.Ut ["web","ring","rows"] zmR λ_ _ _ _ _ _ hr=>(aL (nu (gc Fk.Jl Tp.Dq hr bM gk (aB (gv 0) (aB (gv 1) aK))))
 (aL (jF 2 nd rfl jl rfl (gc Fk.Mj Tp.Ji hr bM gk (aB (gv 0) (aB (gv 1) aK))))
 (aL (nu (gc Fk.t4 Tp.d4 hr bM gk (aB (Al Tp.z4 gk (aB (gv 2) aK)) (aB (HY Tp.iY gk dk) aK))))
 (aL (cI (gv 2))
 bA))))
 Jl:=fJ Tp.Dq ["web","ring"] zmJ λ_ _ _ _ _ _ hr=>(aL (nu (gc Fk.t9 Tp.d9 hr bM gk (aB (gv 0) aK)))
 (aL (nu (gc Fk.Mg Tp.Jg hr bM gk (aB (gv 1) aK)))
 (aL (nu (gc Fk.t4 Tp.d4 hr bM gk (aB (f9 (gv 0) aY) (aB (HY Tp.gR gk dk) aK))))
 (aL (nu (gc Fk.t4 Tp.d4 hr bM gk (aB (f9 (gv 1) aY) (aB (HY Tp.iW gk dk) aK))))
 bA))))
 Mj:=fJ Tp.Ji Uj zm7 λ_ _ _ _ _ _ hr=>(aL (jF 2 nd rfl jc rfl (gc Fk.t19 Tp.Um hr bM gk (aB (gv 0) (aB (gv 1) aK))))
 (aL (jF 3 nd rfl jl rfl (Ak (aB (lE (aB aY aK)) aK)))
 (aL (Lh Lf rfl rfl (Yb Tp.z8 gk aY (f9 (gv 0) aY)) (RJ 4 nd rfl jc rfl) (aL (jF 5 nd rfl jc rfl (qH (au (top 38)) Uj ["end"] ["place"] [4] rfl rfl rfl Dc Dc (oA 0) Dc (qG (f9 (Sg Tp.ow (gv 2)) (gv 4))) (λ_ _ _ _ _ _=>(oF 0 Dc rfl Dc)) (λ_ _ _ _ _ _=>(Ib (lD (xQ hr) (cH 0) (cH 1)))) (λ_ _ _ _ _ _=>(cH 0))))
 (aL (ziF 3 (au (top 38)) Uj ["row","spot"] ["board","ahead"] [2,5] nd rfl jl rfl rfl rfl rfl Dc Dc (oA 0) (oA 1) Dc (qG (gv 3)) (λ_ _ _ _ _ _=>(oF 0 Dc rfl Dc)) (λ_ _ _ _ _ _=>(qG (Sg Tp.ow (cH 2)))) (λ_ _ _ _ _ _=>(oF 1 Dc rfl Dc)) (λ_ _ _ _ _ _=>(Ib (qT (gc Fk.t29 Tp.Uu hr Am vW (aB (cH 2) (aB (cH 0) (aB (cH 3) (aB (cH 1) aK)))))))) (λ_ _ _ _ _ _=>(fO vN (cH 0) (lE (aB (cH 1) aK)))))
 bA)))
 (aL (cI (gv 3))
 bA))))
 t29:=fJ Tp.Uu N29 znb λ_ _ _ _ _ _ hr=>(aL (cI (Ld rfl Tp.z6 gk (aB (qH (au (top 39)) N29 ["place"] ["board","spot","row"] [0,3,1] rfl rfl rfl Dc Dc (oA 0) Dc (qG (gv 2)) (λ_ _ _ _ _ _=>(oF 0 Dc rfl Dc)) (λ_ _ _ _ _ _=>tU) (λ_ _ _ _ _ _=>(znj Tp.ow Tp.U8 Fk.t13 hr (cH 1) (aB (cH 2) (aB (f9 (cH 3) (cH 0)) aK))))) aK)))
 bA)
 t30:=fJ Tp.Uv ["web","ring","thing"] zmY λ_ _ _ _ _ _ hr=>(aL (nu (gc Fk.t9 Tp.d9 hr bM gk (aB (gv 0) aK)))
 (aL (nu (gc Fk.Mg Tp.Jg hr bM gk (aB (gv 1) aK)))
 (aL (cI (gc Fk.Va Tp.Ma hr bM gk (aB (gv 0) (aB (gv 1) (aB (gv 2) aK)))))
 bA)))
 Ml:=fJ Tp.Jj N31 zm3 λ_ _ _ _ _ _ hr=>(aL (nu (gc Fk.Mp Tp.Jk hr bM gk (aB (gv 0) (aB (gv 1) (aB (gv 2) aK)))))
 (aL (cI (Le Tp.z3 gk (aB (qH (au (top 42)) N31 ["spot"] ["steps","ring"] [3,1] rfl rfl rfl Dc Dc (oA 0) Dc (qG (gv 2)) (λ_ _ _ _ _ _=>(oF 0 Dc rfl Dc)) (λ_ _ _ _ _ _=>tU) (λ_ _ _ _ _ _=>(fO Ag (fO vN (cH 0) (cH 1)) (f9 (cH 2) aY)))) aK)))
 bA))
 U9:=fJ Tp.LR ["web","ring","hues"] zmN λ_ _ _ _ _ _ hr=>(aL (nu (gc Fk.Mp Tp.Jk hr bM gk (aB (gv 0) (aB (gv 1) (aB (gv 2) aK)))))
 (aL (cI (gc Fk.U_ Tp.L_ hr bM gk (aB (gv 1) (aB (gv 2) aK))))
 bA))
 U_:=fJ Tp.L_ N33 Ue λ_ _ _ _ _ _ hr=>(aL (cI (Le Tp.z3 gk (aB (qH (au (top 44)) N33 ["spot"] ["ring"] [0] rfl rfl rfl Dc Dc (oA 0) Dc (qG (gv 1)) (λ_ _ _ _ _ _=>(oF 0 Dc rfl Dc)) (λ_ _ _ _ _ _=>tU) (λ_ _ _ _ _ _=>(fO Ag (X6 (cH 0)) (f9 (cH 1) aY)))) aK)))
 bA)
 t34:=fJ Tp.Uw N34 zmE λ_ _ _ _ _ _ hr=>(aL (cI (xP (gc Fk.t3 Tp.d3 hr bM gk (aB (gv 2) (aB (f9 (gv 0) aY) aK))) (Ah (Ld rfl Tp.z6 gk (aB (qH (au (top 45)) N34 ["spot"] ["ring"] [1] rfl rfl rfl Dc Dc (oA 0) Dc (qG (gv 2)) (λ_ _ _ _ _ _=>(oF 0 Dc rfl Dc)) (λ_ _ _ _ _ _=>tU) (λ_ _ _ _ _ _=>(gc Fk.t21 Tp.Uq hr Am vW (aB (cH 1) (aB (cH 0) aK))))) aK)))))
 bA)
 Va:=fJ Tp.Ma ["web","ring","thing"] Ug λ_ _ _ _ _ _ hr=>(aL (cI (xP (gc Fk.t34 Tp.Uw hr bM gk (aB (gv 0) (aB (gv 1) (aB (gv 2) aK)))) (Ah (zmc (gc Fk.t37 Tp.Ux hr bM gk (aB (gv 0) (aB (gv 1) (aB (gv 2) aK))))))))
 bA)
 Mp:=fJ Tp.Jk ["web","ring","thing"] zmO λ_ _ _ _ _ _ hr=>(aL (nu (gc Fk.t9 Tp.d9 hr bM gk (aB (gv 0) aK)))
 (aL (nu (gc Fk.Mg Tp.Jg hr bM gk (aB (gv 1) aK)))
 (aL (lF (tQ (qT (gc Fk.Va Tp.Ma hr bM gk (aB (gv 0) (aB (gv 1) (aB (gv 2) aK)))))) (aL Lg
 bA) bA)
 bA)))
 t37:=fJ Tp.Ux ["web","ring","spots","one","other"] Uh λ_ _ _ _ _ _ hr=>(aL (Lh Lf rfl rfl (qG (f9 (gv 0) aY)) (zj1 3 4 rfl rfl nd rfl rfl jl jl rfl rfl) (aL (lF (lD (xQ hr) (gc Fk.t23 Tp.Ur hr bM gk (aB (gv 1) (aB (f9 (gv 2) (gv 3)) (aB (f9 (gv 2) (gv 4)) aK)))) (f9 (gv 1) aY)) (aL (cI (lE (aB (gv 3) (aB (gv 4) aK))))
 bA) bA)
 bA))
 (aL (cI zma)
 bA))
 t38:=fJ Tp.Uy N38 zmZ λ_ _ _ _ _ _ hr=>(aL (nu (gc Fk.Jl Tp.Dq hr bM gk (aB (gv 0) (aB (gv 1) aK))))
 (aL (cI (Al Tp.z4 gk (aB (qH (au (top 50)) N38 ["row"] ["ring"] [1] rfl rfl rfl Dc Dc (oA 0) Dc (qG (gc Fk.Mj Tp.Ji hr bM gk (aB (gv 0) (aB (gv 1) aK)))) (λ_ _ _ _ _ _=>(oF 0 Dc rfl Dc)) (λ_ _ _ _ _ _=>(Ib (lD (zlU hr) (cH 0) (gc Fk.U_ Tp.L_ hr Am vW (aB (cH 1) (aB (cH 0) aK)))))) (λ_ _ _ _ _ _=>(cH 0))) aK)))
 bA))
 Dr:=fJ Tp.Bk ["web","ring","hues","fixed"] zmK λ_ _ _ _ _ _ hr=>(aL (nu (gc Fk.Jl Tp.Dq hr bM gk (aB (gv 0) (aB (gv 1) aK))))
 (aL (nu (gc Fk.Mp Tp.Jk hr bM gk (aB (gv 0) (aB (gv 1) (aB (gv 2) aK)))))
 (aL (jF 3 nd rfl jl rfl (gc Fk.Ml Tp.Jj hr bM gk (aB (gv 0) (aB (gv 1) (aB (gv 2) (aB (X6 (f9 (gv 2) aY)) aK))))))
 (aL (cI (zjY hr rfl Tp.z9 gk (gv 3) (gc Fk.U9 Tp.LR hr bM gk (aB (gv 0) (aB (gv 1) (aB (gv 3) aK))))))
 bA))))
 t40:=fJ Tp.Uz ["_law_script","_law_k"] zmW λ_ _ _ _ _ _ hr=>(aL (lF (lD (xQ hr) (gv 1) (Al Tp.z4 gk (aB (gv 0) aK))) (aL (cI (f9 (gv 0) (gv 1)))
 bA) bA)
 (aL (cI aY)
 bA))
 t41:=fJ Tp.UG ["_law_cell_here","_law_left"] zmQ λ_ _ _ _ _ _ hr=>(aL (jF 1 nd rfl jl rfl (zkz rfl Tp.z11 gk (aB (gv 0) (aB (fO Ae aY (gv 0)) aK))))
 (aL (cI (Ak (aB (gv 1) (aB (zj8 Tp.z1 gk (aB (xR X7 (gv 1) (fO zms aY aY)) aK)) aK))))
 bA))
 yh:=fJ Tp.v8 ["_law_pen_here","_law_many","_law_left","_law_found","_law_stir"] zm8 λ_ _ _ _ _ _ hr=>(aL (lF (lD (Ai hr) (f9 (gv 0) aY) aY) (aL (Ij 2 3 rfl rfl nd rfl rfl jl jl rfl rfl (zgC Tp.z12 gk (aB (f9 (gv 0) aY) (aB (gv 1) aK))))
 (aL (Yd (gv 0) aY (gv 2))
 (aL (cI (gv 3))
 bA))) bA)
 (aL (jF 4 nd rfl jl rfl (fO Ag (fO Af (fO vN (fO Ag (f9 (gv 0) aY) aY) aY) aY) aY))
 (aL (jF 4 nd rfl jl rfl (fO Ag (fO vN (fO Af (gv 4) (gv 4)) aY) aY))
 (aL (Yd (gv 0) aY (fO Ag (fO vN (fO Af (gv 4) aY) aY) aY))
 (aL (cI (fO Ag (fO zjE (f9 (gv 0) aY) aY) (gv 1)))
 bA)))))
 t43:=fJ Tp.UJ N43 zmP λ_ _ _ _ _ _ hr=>(aL (jF 2 nd rfl jc rfl (f9 (Ak (aB aY (aB aY (aB aY aK)))) (gc Fk.yh Tp.v8 hr bM gk (aB (gv 0) (aB aY aK)))))
 (aL (jF 3 nd rfl jl rfl (Ak aK))
 (aL (Lh Lf rfl rfl (Ie Tp.z8 gk (gv 1)) (RJ 4 nd rfl jc rfl) (aL (jF 3 nd rfl jl rfl (fO vN (gv 3) (qH (au (top 56)) N43 ["_law_other"] ["_law_one","_law_pen_here","_law_often"] [4,0,2] rfl rfl rfl Dc Dc (oA 0) Dc (Yb Tp.z8 gk (fO vN (gv 4) aY) (gv 1)) (λ_ _ _ _ _ _=>(oF 0 Dc rfl Dc)) (λ_ _ _ _ _ _=>(Ib (lD (xQ hr) (gc Fk.yh Tp.v8 hr Am vW (aB (cH 2) (aB aY aK))) (cH 3)))) (λ_ _ _ _ _ _=>(lE (aB (cH 1) (aB (cH 0) aK)))))))
 bA))
 (aL (cI (lE (aB (gv 1) (aB (Le Tp.z3 gk (aB (gv 3) aK)) aK))))
 bA))))
 t44:=fJ Tp.UL ["_law_pen_here","_law_some"] zm2 λ_ _ _ _ _ _ hr=>(aL (jF 1 nd rfl jl rfl (Ak (aB (lE (aB aY (aB aY aK))) (aB (lE (aB aY (aB aY aK))) (aB (lE (aB aY (aB aY aK))) (aB (lE (aB aY (aB aY aK))) (aB (lE (aB aY (aB aY aK))) (aB (lE (aB aY (aB aY aK))) (aB (lE (aB aY (aB aY aK))) (aB (lE (aB aY (aB aY aK))) (aB (lE (aB aY (aB aY aK))) (aB (lE (aB aY (aB aY aK))) (aB (lE (aB aY (aB aY aK))) (aB (lE (aB aY (aB aY aK))) aK))))))))))))))
 (aL (cI (f9 (gv 1) (gc Fk.yh Tp.v8 hr bM gk (aB (gv 0) (aB aY aK)))))
 bA))
 t45:=fJ Tp.UW ["_law_pen_here","_law_web_here","_law_ring","_law_row","_law_first","_law_other"] zmG λ_ _ _ _ _ _ hr=>(aL (jF 4 nd rfl jl rfl (gc Fk.Dr Tp.Bk hr bM gk (aB (gv 1) (aB (gv 2) (aB (gv 3) aK)))))
 (aL (lF (Rw (Di (tQ (qT (gc Fk.t30 Tp.Uv hr bM gk (aB (gv 1) (aB (gv 2) (aB (gv 4) aK)))))) (Di (lD (zlF hr) (gv 4) (gv 3)) (Di (lD (H_ hr) (f9 (gv 4) aY) aY) (Ru (lD (H_ hr) (gc Fk.Dr Tp.Bk hr bM gk (aB (gv 1) (aB (gv 2) (aB (gv 4) aK)))) (gv 4))))))) (aL (cI oE)
 bA) bA)
 (aL (jF 5 nd rfl jl rfl (gc Fk.Ml Tp.Jj hr bM gk (aB (gv 1) (aB (gv 2) (aB (gc Fk.U9 Tp.LR hr bM gk (aB (gv 1) (aB (gv 2) (aB (gv 3) aK)))) (aB (gc Fk.yh Tp.v8 hr bM gk (aB (gv 0) (aB aY aK))) aK))))))
 (aL (lF (lD (H_ hr) (gc Fk.Dr Tp.Bk hr bM gk (aB (gv 1) (aB (gv 2) (aB (gv 5) aK)))) (gv 4)) (aL (cI oE)
 bA) bA)
 (aL (cI (xR (Ai hr) (gc Fk.Dr Tp.Bk hr bM gk (aB (gv 1) (aB (gv 2) (aB (gc Fk.Ml Tp.Jj hr bM gk (aB (gv 1) (aB (gv 2) (aB (gv 3) (aB (gc Fk.yh Tp.v8 hr bM gk (aB (gv 0) (aB aY aK))) aK))))) aK)))) (gv 4)))
 bA)))))
 t46:=fJ Tp.U6 N46 zmV λ_ _ _ _ _ _ hr=>(aL (zmj 3 4 rfl rfl nd rfl rfl J0 jl jl (gc Fk.t24 Tp.Us hr bM gk (aB (gv 1) (aB (gv 2) aK))) (gc Fk.t38 Tp.Uy hr bM gk (aB (gv 1) (aB (gv 2) aK))) rfl)
 (aL (lF (Rw (Di (lD (xQ hr) (fO Af (fO Af aY (f9 (gv 2) aY)) (gv 4)) (gv 3)) (Di (lD (xQ hr) (fO Af aY (gv 4)) (gc Fk.Mh Tp.Jh hr bM gk (aB (gv 1) (aB (gv 2) aK)))) (Ru (lD (H_ hr) (xR (Ai hr) (gv 4) aY) (xR (Ai hr) (gv 3) aY)))))) (aL (cI oE)
 bA) bA)
 (aL (lF (lD K_ (gc Fk.Mh Tp.Jh hr bM gk (aB (gv 1) (aB (gv 2) aK))) aY) (aL (cI oE)
 bA) bA)
 (aL (jF 5 nd rfl jl rfl (gc Fk.t26 Tp.Ut hr bM gk (aB (gv 1) (aB (gv 2) aK))))
 (aL (jF 6 nd rfl jl rfl (zlR hr rfl Tp.z13 gk (qH (au (top 59)) N46 ["_law_row"] ["_law_web_here","_law_ring"] [1,2] rfl rfl rfl Dc Dc (oA 0) Dc (qG (gv 5)) (λ_ _ _ _ _ _=>(oF 0 Dc rfl Dc)) (λ_ _ _ _ _ _=>tU) (λ_ _ _ _ _ _=>(lE (aB (gc Fk.Dr Tp.Bk hr Am vW (aB (cH 1) (aB (cH 2) (aB (cH 0) aK)))) (aB oE aK)))))))
 (aL (lF (lD (H_ hr) (zjQ Tp.z4 gk (gv 6)) (gv 4)) (aL (cI oE)
 bA) bA)
 (aL (lF (lD (Ai hr) (gv 5) (Ak aK)) (aL (cI oE)
 bA) bA)
 (aL (jF 7 nd rfl jl rfl (f9 (gv 5) (gc Fk.yh Tp.v8 hr bM gk (aB (gv 0) (aB (Al Tp.z4 gk (aB (gv 5) aK)) aK)))))
 (aL (cI (gc Fk.t45 Tp.UW hr bM gk (aB (gv 0) (aB (gv 1) (aB (gv 2) (aB (gv 7) aK))))))
 bA)))))))))
 t47:=fJ Tp.Mf ["_law_script","_law_cell_here","_law_pen_here","_law_web_here"] znc λ_ _ _ _ _ _ hr=>(aL (Lh Lf rfl rfl (qG (fO vN (Ak (aB (gc Fk.t40 Tp.Uz hr bM gk (aB (gv 0) (aB aY aK))) aK)) (X8 (gv 0) (Rx aY) (Rx aY)))) (RJ 1 nd rfl jl rfl) (aL (jF 2 nd rfl jl rfl (gc Fk.t41 Tp.UG hr bM gk (aB (gv 1) aK)))
 (aL (jF 3 nd rfl jl rfl (gc Fk.t43 Tp.UJ hr bM gk (aB (gv 2) (aB (fO vN aY (gc Fk.yh Tp.v8 hr bM gk (aB (gv 2) (aB aY aK)))) aK))))
 (aL (lF (tQ (qT (gc Fk.t46 Tp.U6 hr bM gk (aB (gv 2) (aB (gv 3) (aB (gc Fk.t44 Tp.UL hr bM gk (aB (gv 2) aK)) aK)))))) (aL (cI oE)
 bA) bA)
 bA))))
 (aL (cI oE)
 bA))
theorem zhu(Tp:Top K mg):∀k,Fs P w K mg base k
 |0=>⟨dH,dH,dH,dH,dH,dH,dH,dH,dH,dH,dH,zhb,dH,dH,dH,dH,dH,dH,dH,dH,dH,dH,dH,dH,dH,dH,dH,dH,dH,dH,dH,dH,dH,dH,dH,dH,dH,dH,dH,dH,dH,dH⟩
 |k+1=>zh2 Tp (zhu Tp k)
end
theorem all_mk{l:PySem.W.OpenLaw}{w:World}{K:W.Frag}{h:Heap}{mg:Str->Option Value}{fa:Addr}(hm:∀ns:List Int,ns.length<=63->∃s',call aq T 60 true 47 [.d (.fl (ns.map D.int))] []=some (.ok (.d (.bl true)),s'))
  (S:pY fs ms xs lk bd K) (X:K.In h) (G:h.Ns mainGlobals mg) (Vb:mg "law"=some (.ref fa)) :
  ∃fd:FuncData,(∀(s:Shared) (u:Value),BindsTo s fd ⟨[u],[]⟩ [("_law_script",u)])/\∀base:Heap,K.In base->base.Ns mainGlobals mg->bY l.prog w K mg base (fK l.prog w) true 60 fa fd ["_law_script"] (tL K):=by
 have Tp:Top K mg:=zkS S X G;have e:=Vb.symm.trans Tp.Mf.m;cases e;exact⟨_,Ao Tp.Mf.f (λ_ _ _ _ _ _ _=>rfl),λbase _ _=>(zhu Tp 60).t47.imp (zit hm)⟩
end dN
namespace dN
open PySem Mi
section
variable {al:Bool}{n k:Nat}{es:Nat->List Int}{A:Int->Int->Bool}{F:Fr}{p:Nat}{x y:Int}
theorem zmu{k':Nat}(hx:0<=x/\x<k)(hy:0<=y/\y<k):W (call aq T (k'+1) true 13 [.d (SN al n k es A),.d (.int x),.d (.int y)]) [] λv s=>v=.d (.bl (A x y)):=by
 refine W.call Z9 rfl ?_;unfold Ti SN;refine Y ?_;refine gC (Dl hx.1 (zmB hx.1 hx.2)) ?_;refine Y ?_;refine gC (Dl hy.1 (SX hy.1 hy.2)) ?_;exact Y trivial
end
theorem zgl{k:Nat}{n i:Int}{ps:List (Int×Int)}(h:Web n ps):W (call aq T (k+1) true 10 [.d (bJ n ps),.d (.int i)]) [] λv s=>v=.d (.tup ((aZ i ps).map .int)):=by
 refine W.call ZW rfl ?_;unfold b10 bJ;have hl:(ps.map iU).length<=100:=by rw[cY];have:=h.len;have:=h.h8;lia
 have hs:(100:Nat)<=sizeLine:=by decide
 refine Y ?_;refine qK (l:=ps) (f:=iU) (λp=>(endOf i p).map .int) (by rw[cY] at hl;lia) ?_ (λp hp=>?_) ?_
 ·refine Y ?_;exact⟨rfl,rfl⟩
 ·obtain⟨a,b⟩:=p;refine Y ?_;refine⟨rfl,λhb=>?_,λhb=>?_⟩
  ·refine Y ?_;refine W.ite (λh1=>?_) (λh1=>?_)
   ·refine Y ?_;refine⟨rfl,_,rfl,?_⟩;have h1:a=i:=by simpa using h1
    simp[endOf,h1]
   ·refine Y ?_;refine⟨rfl,_,rfl,?_⟩;simp[m8] at h1 hb;rcases hb with hb|hb
    ·exact absurd hb h1
    ·simp[endOf,h1,hb]
  ·simp[m8] at hb;simp[endOf,hb]
 ·have he:ps.filterMap (λp=>(endOf i p).map D.int)=(aZ i ps).map D.int:=by unfold aZ;rw[List.map_filterMap]
  rw[he];refine Y ?_;refine Li (zfx (zgt ?_ (R7 h i))) ?_
  ·have:=Du (endOf i) ps;have:=h.len;have:=h.h8;unfold aZ
   lia
  exact Y trivial
section
variable {n k d:Int}{ps:List (Int×Int)}
theorem zfp{k':Nat}(h:Web n ps):W (call aq T (k'+2) true 11 [.d (bJ n ps)]) [] λv s=>v=.d (.fl (Dp n.toNat λi=>aZ i ps)):=by
 refine W.call ZX rfl ?_;unfold Te;have v9:(100:Nat)<=sizeLine:=by decide
 have h1:=h.h1;have h8:=h.h8;refine Y ?_;refine qK (l:=List.range (n-0).toNat) (f:=λ(j:Nat)=>.int (0+j)) (λ(i:Nat)=>some (.tup ((aZ i ps).map .int))) (by rw[uK];lia) ?_ (λj hj=>?_) ?_
 ·unfold bJ;refine Y ?_;refine⟨by rw[pW gV gV,pW gV gV];rfl,?_⟩;exact⟨rfl,rfl⟩
 ·refine Y ?_;refine⟨rfl,λ_=>?_,λhb=>by cases hb⟩;refine Y ?_;refine W.c0 (zgl h) ?_;exact⟨rfl,_,rfl,by rw[show (0:Int)+j=j by lia]⟩
 ·rw[show (List.range (n-0).toNat).filterMap (λ(i:Nat)=>some (D.tup ((aZ i ps).map .int)))=Dp n.toNat λi=>aZ i ps by rw[vV,show n-0=n by lia];rfl];exact Y trivial
theorem zjM{k':Nat}{al:Bool}{A:Int->Int->Bool}(h:Web n ps){m:Nat}(hm:m<=24):W (call aq T (k'+3) true 12 [.d .any,.d (bJ n ps),.d (.fl (vZ m A)),.d (.bl al)]) [] λv s=>v=.d (.tup [.fl (Dp n.toNat λi=>aZ i ps),.tup ((gj m).map .int),.fl (vZ m A),.bl al]):=by
 refine W.call Z0 rfl ?_;unfold Tf;refine Y ?_;refine W.c0 (zfp h) ?_;have em:(vZ m A).length=m:=by unfold vZ;simp
 refine Yt (Yz (ds:=[.int ((vZ m A).length:Nat)]) rfl (gC (d:=.tup ((gj m).map .int)) (by rw[em];exact zmd gV) ?_));exact Y trivial
theorem zi0{k':Nat}(h:Web n ps)(hd:1<=d)(Jm:d<=k)(hk:k<=24):W (call aq T (k'+4) true 19 [.d (bJ n ps),.d (aJ k d)]) [] λv s=>v=.d (SQ n.toNat k.toNat (λi=>aZ i ps) (dz k d)):=by
 refine W.call Z_ rfl ?_;unfold Tj aJ;have v9:(100:Nat)<=sizeLine:=by decide
 have e0:(k-0).toNat=k.toNat:=by lia
 refine Y ?_;refine qK (l:=List.range (k-0).toNat) (f:=λ(j:Nat)=>.int (0+j)) (λ(j:Nat)=>some (.bl ((λj:Int=>decide (d<=j/\d<=k-j)) j))) (by rw[uK];lia) ?_ (λj hj=>?_) ?_
 ·refine Y ?_;refine⟨by rw[pW gV gV,pW gV gV];rfl,?_⟩;exact⟨rfl,rfl⟩
 ·refine Y ?_;refine⟨rfl,λ_=>?_,λhb=>by cases hb⟩;refine Y ?_;refine⟨rfl,_,rfl,?_⟩
  congr 2
  rw[qO]
  split<;>lia
 ·rw[vV,e0];refine Y ?_;refine W.mk (vs:=[.d (bJ n ps),.d (.fl (vZ k.toNat (dz k d))),.d (.bl true)]) ?_ rfl (zjM h gV);refine Y ?_;refine qK (l:=List.range (k-0).toNat) (f:=λ(j:Nat)=>.int (0+j)) (λ(a:Nat)=>some (.fl ((List.range k.toNat).map λ(b:Nat)=>.bl (dz k d a b)))) (by rw[uK];lia) ?_ (λa ha=>?_) ?_
  ·refine Y ?_;refine⟨by rw[pW gV gV,pW gV gV];rfl,?_⟩;exact⟨rfl,rfl⟩
  ·have ha:=yF.mp ha;refine Y ?_;refine⟨rfl,λ_=>?_,λhb=>by cases hb⟩;refine Y ?_;refine qK (l:=List.range (k-0).toNat) (f:=λ(j:Nat)=>.int (0+j)) (λ(b:Nat)=>some (.bl (dz k d a b))) (by rw[uK];lia) ?_ (λb hb=>?_) ?_
   ·refine Y ?_;refine⟨by rw[pW gV gV,pW gV gV];rfl,?_⟩;exact⟨rfl,rfl⟩
   ·have hb:=yF.mp hb;refine Y ?_;refine⟨rfl,λ_=>?_,λhb=>by cases hb⟩;refine Y ?_;by_cases c:(0:Int)<=(0+a:Int)-(0+b)
    ·refine gC (Dl c (SX (f:=λj=>decide (d<=j/\d<=k-j)) c gV)) ?_;refine⟨rfl,_,rfl,?_⟩;unfold dz
     congr 2
     rw[qO,yc hd]
     lia
    ·refine gC (zl6 (x:=.bl (decide (d<=a-b+k/\d<=k-(a-b+k)))) gV (by rw[cY,uK];lia) ?_) ?_
     ·rw[cY,uK];refine(SX (f:=λj=>decide (d<=j/\d<=k-j)) gV gV).trans ?_
      congr 3
      simp
      lia
     ·refine⟨rfl,_,rfl,?_⟩;unfold dz
      congr 2
      rw[qO,yc hd]
      lia
   ·rw[vV,e0];refine Y ?_;exact⟨rfl,_,rfl,rfl⟩
  ·rw[vV,e0];refine Y ?_;exact⟨rfl,rfl⟩
end
theorem zi1{k:Nat}{i:Int}:W (call aq T (k+1) true 1 [.d (.int i)]) [] λv s=>v=.d (.bl true):=W.eq (a:=.d (.bl true)) (s':=[]) rfl rfl
theorem Vc{k:Nat}{a b:D}:W (call aq T (k+1) true 3 [.d (.tup [a,b]),.d (.int 2)]) [] λv s=>v=.d (.bl true):=W.eq (a:=.d (.bl true)) (s':=[]) rfl rfl
theorem fB{k:Nat}{i a b:Int}:W (call aq T (k+2) true 2 [.d (.int i),.d (.int a),.d (.int b)]) [] λv s=>v=.d (.bl (decide (a<=i/\i<=b))):=by
 refine W.call ZK rfl ?_;unfold b2;refine Y ?_;refine W.c0 zi1 ?_;refine Y ?_;refine W.ite (λh1=>?_) (λh1=>?_)
 ·refine Y ?_;have:=fH h1;simp[this]
 ·refine Y ?_;simp at h1;have:¬(a<=i/\i<=b):=by lia
  simp[this]
theorem zjv{k:Nat}{i:Int}(h1:1<=i)(h2:i<=8):W (call aq T (k+3) true 6 [.d (.int i)]) [] λv s=>v=.d (.bl true):=by
 refine W.call ZQ rfl ?_;unfold b6;refine Y ?_;exact vU rfl (fB.imp λv s e=>⟨_,e,by rw[dZ (And.intro h1 h2)]⟩)
theorem zfl{k:Nat}{n i:Int}:W (call aq T (k+3) true 7 [.d (.int n),.d (.int i)]) [] λv s=>v=.d (.bl (decide (0<=i/\i<n))):=by
 refine W.call ZR rfl ?_;unfold b7;refine Y ?_;exact vU rfl (fB.imp λv s e=>⟨_,e,by rw[qO.mpr (show 0<=i/\i<=n-1↔0<=i/\i<n by lia)]⟩)
theorem zme{k:Nat}{n:Int}{p:Int×Int}(h:0<=p.1/\p.1<p.2/\p.2<n):W (call aq T (k+4) true 8 [.d (.int n),.d (iU p)]) [] λv s=>v=.d (.bl true):=by
 obtain⟨a,b⟩:=p;obtain⟨h1,h2,h3⟩:=h;unfold iU;dsimp only at h1 h2 h3 ⊢;refine W.call ZS rfl ?_;unfold b8;refine Y ?_;refine W.c0 Vc ?_;refine Y ?_;refine W.c0 zfl ?_;rw[dZ (show 0<=a/\a<n by lia)];refine Y ?_;refine W.c0 zfl ?_;rw[dZ (show 0<=b/\b<n by lia)];refine Y ?_;rw[dZ h2]
theorem ziO{k:Nat}{n:Int}{ps:List (Int×Int)}(h:Web n ps):W (call aq T (k+5) true 5 [.d (bJ n ps)]) [] λv s=>v=.d (.bl true):=by
 refine W.call ZP rfl ?_;unfold b5 bJ;have hl:(ps.map iU).length<=100:=by rw[cY];have:=h.len;have:=h.h8;lia
 have hs:(100:Nat)<=sizeLine:=by decide
 refine Y ?_;refine W.c0 Vc ?_;refine Y ?_;refine W.c0 (zjv h.h1 h.h8) ?_;refine Y ?_;refine YB (c:=ps.map iU) (λ_=>.bl true) gV ?_ (λx hx=>?_) ?_
 ·refine Y ?_;exact⟨rfl,rfl⟩
 ·obtain⟨p,hp,rfl⟩:=gZ.mp hx;refine Y ?_;exact vU rfl ((zme (h.tie p hp)).imp λv s e=>⟨_,e,rfl,rfl⟩)
 ·refine Y ?_;refine gC (R5 ?_) ?_
  ·intro x hx;obtain⟨_,_,e⟩:=gZ.mp hx;exact e.symm
  refine Y ?_;refine YB (c:=List.zipWith (λ(p q:D)=>D.tup [p,q]) (ps.map iU) ((ps.map iU).drop 1)) (λ_=>.bl true) (by rw[List.length_zipWith];lia) ?_ (λx hx=>?_) ?_
  ·refine Y ?_;rw[R6];exact⟨rfl,rfl⟩
  ·obtain⟨p,q,rfl,hpq⟩:=YD h.inc x hx;refine Y ?_;rw[zlT hpq];exact⟨rfl,rfl⟩
  ·refine Y ?_;refine gC (R5 ?_) ?_
   ·intro x hx;obtain⟨_,_,e⟩:=gZ.mp hx;exact e.symm
   rfl
theorem Vd{k:Nat}{n:Int}{ps:List (Int×Int)}(h:Web n ps):W (call aq T (k+6) true 9 [.d (bJ n ps)]) [] λv s=>∃d,v=.d d:=by
 refine W.call ZV rfl ?_;unfold b9;refine Y ?_;refine W.c0 (ziO h) ?_;refine Y ?_;exact⟨_,rfl⟩
theorem zgz{k':Nat}{k d:Int}(hd:1<=d)(Jm:d<=k)(hk:k<=24):W (call aq T (k'+3) true 20 [.d (aJ k d)]) [] λv s=>v=.d (.bl true):=by
 refine W.call zm6 rfl ?_;unfold Tn aJ;refine Y ?_;refine W.c0 Vc ?_;refine Y ?_;refine W.c0 fB ?_;rw[dZ (show 1<=k/\k<=24 by lia)];refine Y ?_;refine W.c0 fB ?_;rw[dZ (show 1<=d/\d<=k by lia)]
theorem Ve{k':Nat}{k d:Int}(hd:1<=d)(Jm:d<=k)(hk:k<=24):W (call aq T (k'+4) true 22 [.d (aJ k d)]) [] λv s=>∃d,v=.d d:=by
 refine W.call zmX rfl ?_;unfold Tt;refine Y ?_;refine W.c0 (zgz hd Jm hk) ?_;refine Y ?_;exact⟨_,rfl⟩
theorem zgv{k':Nat}{k d x:Int}:W (call aq T (k'+3) true 21 [.d (aJ k d),.d (.int x)]) [] λv s=>v=.d (.bl (decide (0<=x/\x<k))):=by
 refine W.call zmT rfl ?_;unfold Tq aJ;refine Y ?_;exact vU rfl (fB.imp λv s e=>⟨_,e,by rw[qO.mpr (show 0<=x/\x<=k-1↔0<=x/\x<k by lia)]⟩)
theorem zfI{k':Nat}{k d a b:Int}:W (call aq T (k'+1) true 23 [.d (aJ k d),.d (.int a),.d (.int b)]) [] λv s=>v=.d (.int (eO k a b)):=W.eq (a:=.d (.int (eO k a b))) (s':=[]) rfl rfl
section
variable {n k d:Int}{ps:List (Int×Int)}
theorem zlr{k':Nat}{r:List Int}{x:Int}(h:Web n ps)(hd:1<=d)(hk:1<=k)(hrn:(r.length:Int)<n)(hr:∀y∈r,0<=y/\y<k)(hx:0<=x/\x<k):W (call aq T (k'+2) true 29 [.d (SQ n.toNat k.toNat (λi=>aZ i ps) (dz k d)),.d (.tup (r.map .int)),.d (.fl ((v7 ps r.length).map .int)),.d (.int x)]) [] λv s=>v=.d (.bl (mW k d ps r x)):=by
 refine W.call znb rfl ?_;unfold TQ;have v9:(100:Nat)<=sizeLine:=by decide
 have h8:=h.h8;have hal:(v7 ps r.length).length<=8:=by
  unfold v7;have:=Jw (λe=>decide (e<(r.length:Int))) (aZ r.length ps);have:=Zb (k:=n.toNat) (R7 h r.length) (λx hx=>by have:=YF h hx;have:=h.h1;lia)
  lia
 refine Y ?_;refine qK (l:=v7 ps r.length) (f:=D.int) (λe=>some (.bl (dz k d x (at' r e)))) gV ?_ (λe he=>?_) ?_
 ·refine Y ?_;exact⟨rfl,rfl⟩
 ·have ht:=h.tie _ ((Tc h).mp he);dsimp only at ht;have hy:=hr _ (Ax (fs:=r) (j:=e) gV gV);refine Y ?_;refine⟨rfl,λ_=>?_,λhb=>by cases hb⟩;have hix:prim .ix [.tup (r.map .int),.int e]=some (.dat (.int (at' r e))):=Az gV gV;refine W.bd (W.eq (pU (.v 1) _ rfl) (W.bd (W.qx (W.bd ?_))));refine Y ?_;refine gC hix ?_;refine Y ?_;refine W.qt ?_;refine W.c0 (zmu gV gV) ?_;exact⟨rfl,_,rfl,rfl⟩
 ·rw[vV];refine Y ?_;refine gC zkF ?_;rw[zi4 h hd]
theorem Vf{k':Nat}(h:Web n ps)(hr:1<=d/\d<=k/\k<=8)(h6:n<=6):W (call aq T (k'+5) true 28 [.d (bJ n ps),.d (aJ k d)]) [] λv s=>v=.d (.fl ((grows k d ps [[0]] (n.toNat-1)).map dI)):=by
 refine W.call zm7 rfl ?_;unfold TJ;have v9:(1000000:Nat)<=sizeLine:=by decide
 have h1:=h.h1;have ew:bJ n ps=.tup [.int n,.tup (ps.map iU)]:=rfl;refine Y ?_;refine W.c0 (zi0 h hr.1 hr.2.1 gV) ?_;refine Y ?_;refine⟨by rw[pW gV gV,pW gV gV];rfl,?_⟩;refine Ln (c:=(List.range (n-1).toNat).map λ(j:Nat)=>.int (1+j)) (λi J s=>s=[]/\∃a4 a5:Option Xv,J=[some (.d (bJ n ps)),some (.d (aJ k d)),some (.d (SQ n.toNat k.toNat (λi=>aZ i ps) (dz k d))),some (.d (.fl ((grows k d ps [[0]] i).map dI))),a4,a5]) ⟨rfl,_,_,rfl⟩ (λi z J s e hI=>?_) (λJ s hI=>?_)
 ·obtain⟨rfl,a4,a5,rfl⟩:=hI;obtain⟨hi,e⟩:=gD.mp e;rw[List.getElem_map,List.getElem_range] at e;rw[cY,uK] at hi;subst e;have ei:(1:Int)+(i:Nat)=((i+1:Nat):Int):=by lia
  rw[ei];have hel:(aZ ((i+1:Nat):Int) ps).length<=8:=by
   have:=Zb (k:=n.toNat) (R7 h ((i+1:Nat):Int)) (λx hx=>by have:=YF h hx;lia)
   lia
  have qC:(grows k d ps [[0]] i).length*(gj k.toNat).length<=sizeLine:=by
   have g1:=zfH (k:=k) (d:=d) (ps:=ps) (m:=i);have g2:k.toNat^i<=8^i:=Nat.pow_le_pow_left gV _;have g3:(8:Nat)^i<=8^5:=Nat.pow_le_pow_right J0 gV;have g4:(gj k.toNat).length<=8:=by unfold gj;simp;lia
   have g5:(8:Nat)^5=32768:=by decide
   have:=Nat.mul_le_mul (show (grows k d ps [[0]] i).length<=32768 by lia) g4
   lia
  refine Y ?_;refine qK (l:=aZ ((i+1:Nat):Int) ps) (f:=D.int) (λe=>if decide (e<((i+1:Nat):Int))=true then some (.int e) else none) gV ?_ (λe he=>?_) ?_
  ·refine Y ?_;refine gC (Dl gV (zlC (by rw[ud];lia))) ?_;rw[ud];refine Y ?_;exact⟨rfl,rfl⟩
  ·refine Y ?_;refine⟨rfl,λhb=>?_,λhb=>?_⟩
   ·refine Y ?_;exact⟨rfl,_,rfl,by rw[if_pos hb]⟩
   ·rw[if_neg (by rw[hb];decide)]
  ·rw[zfW (α:=Unit)];refine Y ?_;refine Kav (l:=grows k d ps [[0]] i) (f:=dI) (l2:=gj k.toNat) (f2:=D.int) (λr x=>if mW k d ps r x=true then some (dI (r++[x])) else none) qC ?_ (λr hrr=>?_) ?_
   ·refine Y ?_;exact⟨rfl,rfl⟩
   ·have hrl:=zfZ r hrr;have hrlo:=(S9 h hr.1 gV 0 (rows:=[[0]]) (λr hr y hy=>by
     rw[jG.mp hr] at hy;have:y=0:=jG.mp hy
     lia) i).1 r hrr
    unfold dI;refine Y ?_;refine⟨?_,λx hx=>?_⟩
    ·refine Y ?_;exact⟨rfl,rfl⟩
    ·have hx:=cJ.mp hx;refine Y ?_;have ea:(aZ ((i+1:Nat):Int) ps).filter (λe=>decide (e<((i+1:Nat):Int)))=v7 ps r.length:=by unfold v7;rw[hrl]
     rw[ea];refine W.c0 (zlr (k':=k'+2) h hr.1 gV gV hrlo gV) ?_;refine Y ?_;refine⟨rfl,λhb=>?_,λhb=>?_⟩
     ·refine Y ?_;refine gC (zjg (by rw[cY];show _+1<=_;lia)) ?_;exact⟨rfl,_,rfl,by rw[if_pos hb,wA];rfl⟩
     ·rw[if_neg (by rw[hb];decide)]
   ·have eg:((grows k d ps [[0]] i).flatMap λr=>(gj k.toNat).filterMap λx=>if mW k d ps r x=true then some (dI (r++[x])) else none)=(grows k d ps [[0]] (i+1)).map dI:=by
     show _=(grow k d ps (grows k d ps [[0]] i)).map dI;unfold grow nextR;rw[List.map_flatMap]
     congr 1
     funext r
     rw[m7];generalize gj k.toNat=l
     induction l with
     |nil=>rfl
     |cons a l ih=>
      rw[yt,uf];by_cases q:mW k d ps r a=true
      ·simp[q,ih]
      ·simp[q,ih]
    rw[eg];refine Y ?_;exact⟨_,rfl,rfl,_,_,rfl⟩
 ·obtain⟨rfl,a4,a5,rfl⟩:=hI;rw[cY,uK,show (n-1).toNat=n.toNat-1 by lia];exact Y trivial
theorem Vg{k':Nat}{a b:Int}(h:a<=b):W (call aq T (k'+1) true 4 [.d (.int a),.d (.int b)]) [] λv s=>∃d,v=.d d:=by
 refine W.call ZM rfl ?_;unfold b4;refine Y ?_;refine WS.ite (λc=>absurd (fH c) gV) (λc=>?_);refine Y ?_;exact⟨_,rfl⟩
theorem Mq{k':Nat}(h:Web n ps)(hr:1<=d/\d<=k/\k<=8)(h6:n<=6):W (call aq T (k'+7) true 27 [.d (bJ n ps),.d (aJ k d)]) [] λv s=>∃d,v=.d d:=by
 have ew:bJ n ps=.tup [.int n,.tup (ps.map iU)]:=rfl;have er:aJ k d=.tup [.int k,.int d]:=rfl;refine W.call zmJ rfl ?_;unfold TF;refine Y ?_;refine W.c1 (Vd h) λ_=>?_;refine Y ?_;refine W.c1 (Ve hr.1 hr.2.1 gV) λ_=>?_;refine Y ?_;refine W.c1 (Vg h6) λ_=>?_;refine Y ?_;refine W.c1 (Vg hr.2.2) λ_=>?_;refine Y ?_;exact⟨_,rfl⟩
theorem zfF{k':Nat}(h:Web n ps)(hr:1<=d/\d<=k/\k<=8)(h6:n<=6):W (call aq T (k'+8) true 25 [.d (bJ n ps),.d (aJ k d)]) [] λv s=>v=.d (.int ((grows k d ps [[0]] (n.toNat-1)).length:Nat)):=by
 refine W.call zm0 rfl ?_;unfold Tw;refine Y ?_;refine W.c1 (Mq h hr h6) λ_=>?_;refine Y ?_;refine W.c0 (Vf (k':=k'+2) h hr h6) ?_;refine Y ?_;rw[cY]
theorem ziw{k':Nat}(h:Web n ps)(hr:1<=d/\d<=k/\k<=8)(h6:n<=6):W (call aq T (k'+9) true 24 [.d (bJ n ps),.d (aJ k d)]) [] λv s=>v=.d (.int ((grows k d ps [[]] n.toNat).length:Nat)):=by
 have er:aJ k d=.tup [.int k,.int d]:=rfl;have h1:=h.h1;refine W.call zmS rfl ?_;unfold Tv;refine Y ?_;refine W.c0 (zfF h hr h6) ?_;refine Y ?_;have e:=S_ h hr.1 (show 1<=k by lia) (n.toNat-1);rw[show n.toNat-1+1=n.toNat by lia] at e;rw[e,Int.natCast_mul,show ((k.toNat:Nat):Int)=k by lia]
end
theorem zj4{k':Nat}{xs:List D}{n:Int}(h:(xs.length:Int)=n):W (call aq T (k'+1) true 3 [.d (.tup xs),.d (.int n)]) [] λv s=>v=.d (.bl true):=by
 refine W.call ZL rfl ?_;unfold b3;refine Y ?_;simp[h]
section
variable {n k d:Int}{ps:List (Int×Int)}{hs:List Int}
theorem zbZ{k':Nat}(hn:n<=8)(hl:(hs.length:Int)=n)(Kr:∀x∈hs,0<=x/\x<k):W (call aq T (k'+4) true 34 [.d (bJ n ps),.d (aJ k d),.d (.tup (hs.map .int))]) [] λv s=>v=.d (.bl true):=by
 refine W.call zmE rfl ?_;unfold T3 bJ;have v9:(100:Nat)<=sizeLine:=by decide
 refine Y ?_;refine W.c0 (zj4 (by rw[cY];exact hl)) ?_;refine Y ?_;refine qK (l:=hs) (f:=D.int) (λ_=>some (.bl true)) gV ?_ (λx hx=>?_) ?_
 ·refine Y ?_;exact⟨rfl,rfl⟩
 ·refine Y ?_;refine⟨rfl,λ_=>?_,λhb=>by cases hb⟩;refine Y ?_;refine W.c0 zgv ?_;rw[dZ (Kr x hx)];exact⟨rfl,_,rfl,rfl⟩
 ·refine Y ?_;refine gC (R5 ?_) ?_
  ·intro x hx;obtain⟨_,_,e⟩:=Bv.mp hx;exact(dJ e).symm
  exact Y trivial
theorem zii{k':Nat}(h:Web n ps)(hh:cR n k d ps hs):W (call aq T (k'+2) true 37 [.d (bJ n ps),.d (aJ k d),.d (.tup (hs.map .int))]) [] λv s=>v=.d .non:=by
 refine W.call Uh rfl ?_;unfold LQ;have hl:=hh.len;have er:aJ k d=.tup [.int k,.int d]:=rfl;refine Y ?_;refine Ln (λi J s=>s=[]/\∃(a b:Option Xv),J=[some (.d (bJ n ps)),some (.d (aJ k d)),some (.d (.tup (hs.map .int))),a,b]) ⟨rfl,_,_,rfl⟩ (λi x J s e hI=>?_) (λJ s hI=>?_)
 ·obtain⟨rfl,a,b,rfl⟩:=hI;have hm:=gF e;obtain⟨p,hp,rfl⟩:=gZ.mp hm;have ht:=h.tie p hp;have hf:=hh.fit p hp;obtain⟨a,b⟩:=p;dsimp only at ht hf;refine Y ?_;refine gC (Az gV gV) ?_;refine Y ?_;refine gC (Az gV gV) ?_;refine Y ?_;refine W.c0 zfI ?_;unfold aJ;refine Y ?_;rw[oN gV];refine Y ?_;exact⟨_,rfl,rfl,_,_,rfl⟩
 ·obtain⟨rfl,a,b,rfl⟩:=hI;exact Y trivial
theorem zfU{k':Nat}(h:Web n ps)(hh:cR n k d ps hs):W (call aq T (k'+5) true 35 [.d (bJ n ps),.d (aJ k d),.d (.tup (hs.map .int))]) [] λv s=>v=.d (.bl true):=by
 refine W.call Ug rfl ?_;unfold LC;refine Y ?_;refine W.c0 (zbZ h.h8 hh.len hh.lo) ?_;refine Y ?_;refine W.c0 (zii h hh) ?_;refine Y ?_;rfl
theorem Vh{k':Nat}(h:Web n ps)(hd:1<=d)(Jm:d<=k)(hk:k<=24)(hh:cR n k d ps hs):W (call aq T (k'+7) true 36 [.d (bJ n ps),.d (aJ k d),.d (.tup (hs.map .int))]) [] λv s=>∃d,v=.d d:=by
 refine W.call zmO rfl ?_;unfold T4;refine Y ?_;refine W.c1 (Vd h) λ_=>?_;refine Y ?_;refine W.c1 (Ve hd Jm hk) λ_=>?_;refine Y ?_;refine W.c0 (zfU h hh) ?_;refine Y ?_;exact⟨_,rfl⟩
end
section
variable {n k d m:Int}{ps:List (Int×Int)}{hs:List Int}
theorem zgK{k':Nat}(h:Web n ps)(hl:(hs.length:Int)=n):W (call aq T (k'+2) true 37 [.d (bJ n ps),.d (aJ k d),.d (.tup (hs.map .int))]) [] λv s=>v=.d (wD k d ps hs):=by
 refine W.call Uh rfl ?_;unfold LQ;refine Y ?_;refine Kbb (λi J s=>s=[]/\(∃(a b:Option Xv),J=[some (.d (bJ n ps)),some (.d (aJ k d)),some (.d (.tup (hs.map .int))),a,b])/\pZ k d (ps.take i) hs=[]) ⟨rfl,⟨_,_,rfl⟩,rfl⟩ (λi x J s e hI=>?_) (λJ s hI=>?_)
 ·obtain⟨rfl,⟨a,b,rfl⟩,hI⟩:=hI;rw[jo,p7] at e;obtain⟨p,ep,rfl⟩:=e;have ht:=h.tie p (gF ep);obtain⟨p1,p2⟩:=p;dsimp only at ht;refine Y ?_;refine gC (Az gV gV) ?_;refine Y ?_;refine gC (Az gV gV) ?_;refine Y ?_;refine W.c0 zfI ?_;unfold aJ;refine Y ?_;have et:ps.take (i+1)=ps.take i++[(p1,p2)]:=by rw[DX,ep];rfl
  have ec:pZ k d (ps.take (i+1)) hs=if eO k (at' hs p1) (at' hs p2)<d then [(p1,p2)] else []:=by
   unfold pZ at hI ⊢;rw[et,Nh,hI,List.nil_append,uf];simp only[List.filter_nil,BL]
  refine WS.ite (λhb=>?_) (λhb=>?_)
  ·have hb:=fH hb;rw[if_pos hb] at ec;refine Y ?_;refine .inr ⟨_,rfl,?_⟩;have:pZ k d ps hs=(p1,p2)::pZ k d (ps.drop (i+1)) hs:=by
    have e1:ps=ps.take (i+1)++ps.drop (i+1):=(List.take_append_drop ..).symm;unfold pZ at ec ⊢
    conv=>lhs;rw[e1,Nh,ec]
    rfl
   unfold wD;rw[this];rfl
  ·have hb:¬eO k (at' hs p1) (at' hs p2)<d:=λz=>hb (dZ z);rw[if_neg hb] at ec;refine Y ?_;exact .inl ⟨_,rfl,rfl,⟨_,_,rfl⟩,ec⟩
 ·obtain⟨rfl,⟨a,b,rfl⟩,hI⟩:=hI;rw[cY,BR] at hI;refine Y ?_;unfold wD;rw[hI]
theorem zj6{k':Nat}(h:Web n ps)(hr:1<=d/\d<=k/\k<=24)(hl:(hs.length:Int)=n)(Kr:∀x∈hs,0<=x/\x<k):W (call aq T (k'+8) true 30 [.d (bJ n ps),.d (aJ k d),.d (.tup (hs.map .int))]) [] λv s=>v=.d (.bl (decide (pZ k d ps hs=[]))):=by
 have key:∀kk,W (call aq T (kk+5) true 35 [.d (bJ n ps),.d (aJ k d),.d (.tup (hs.map .int))]) [] λv s=>v=.d (.bl (decide (pZ k d ps hs=[]))):=λkk=>by
  refine W.call Ug rfl ?_;unfold LC;refine Y ?_;refine W.c0 (zbZ h.h8 hl Kr) ?_;refine Y ?_;refine W.c0 (zgK h hl) ?_;refine Y ?_;show Xv.d (.bl (wD k d ps hs).sI)=_;rw[zjB]
 refine W.call zmY rfl ?_;unfold TV;refine Y ?_;refine W.c1 (Vd h) λ_=>?_;refine Y ?_;refine W.c1 (Ve hr.1 hr.2.1 hr.2.2) λ_=>?_;refine Y ?_;exact vU rfl ((key _).imp λv s e=>⟨_,e,rfl⟩)
theorem zi8{k':Nat}(h:Web n ps)(hr:1<=d/\d<=k/\k<=24)(hh:cR n k d ps hs):W (call aq T (k'+8) true 30 [.d (bJ n ps),.d (aJ k d),.d (.tup (hs.map .int))]) [] λv s=>v=.d (.bl true):=by
 have:=zj6 (k':=k') h hr hh.len hh.lo;rw[dZ (ziM hh)] at this;exact this
theorem Vi{k':Nat}(h:Web n ps)(hr:1<=d/\d<=k/\k<=24)(hh:cR n k d ps hs):W (call aq T (k'+9) true 31 [.d (bJ n ps),.d (aJ k d),.d (.tup (hs.map .int)),.d (.int m)]) [] λv s=>v=.d (.tup ((aN k m hs).map .int)):=by
 refine W.call zm3 rfl ?_;unfold TX;have v9:(1000:Nat)<=sizeLine:=by decide
 have h8:=h.h8;have hl:=hh.len;have er:aJ k d=.tup [.int k,.int d]:=rfl;refine Y ?_;refine W.c1 (Vh h hr.1 hr.2.1 hr.2.2 hh) λ_=>?_;refine Y ?_;refine qK (l:=hs) (f:=D.int) (λx=>some (.int ((x+m)%k))) gV ?_ (λx hx=>?_) ?_
 ·refine Y ?_;exact⟨rfl,rfl⟩
 ·refine Y ?_;refine⟨rfl,λ_=>?_,λhb=>by cases hb⟩;refine Y ?_;exact⟨rfl,_,rfl,rfl⟩
 rw[vV];refine Y ?_;unfold aN;rw[m7];rfl
theorem zhp{k':Nat}(h:Web n ps)(hr:1<=d/\d<=k/\k<=24)(hh:cR n k d ps hs):W (call aq T (k'+9) true 32 [.d (bJ n ps),.d (aJ k d),.d (.tup (hs.map .int))]) [] λv s=>v=.d (.tup ((bL k hs).map .int)):=by
 have v9:(1000:Nat)<=sizeLine:=by decide
 have h8:=h.h8;have hl:=hh.len;have er:aJ k d=.tup [.int k,.int d]:=rfl;have key:∀kk,W (call aq T (kk+1) true 33 [.d (aJ k d),.d (.tup (hs.map .int))]) [] λv s=>v=.d (.tup ((bL k hs).map .int)):=λkk=>by
  refine W.call Ue rfl ?_;unfold Lz;refine Y ?_;refine qK (l:=hs) (f:=D.int) (λx=>some (.int (-x%k))) gV ?_ (λx hx=>?_) ?_
  ·refine Y ?_;exact⟨rfl,rfl⟩
  ·refine Y ?_;refine⟨rfl,λ_=>?_,λhb=>by cases hb⟩;refine Y ?_;exact⟨rfl,_,rfl,rfl⟩
  rw[vV];refine Y ?_;unfold bL;rw[m7];rfl
 refine W.call zmN rfl ?_;unfold TY;refine Y ?_;refine W.c1 (Vh h hr.1 hr.2.1 hr.2.2 hh) λ_=>?_;refine Y ?_;exact vU rfl ((key _).imp λv s e=>⟨_,e,rfl⟩)
end
section
variable {n k d:Int}{ps:List (Int×Int)}{hs:List Int}
theorem zdZ{k:Nat}:∀{m:Nat} {r:List Int},r.length=m->(∀x∈r,0<=x/\x<k)->r∈allR k m
 |0,r,h,_=>by rw[List.length_eq_zero_iff.mp h];exact jG.mpr rfl
 |m+1,r,h,hx=>by
  rcases List.eq_nil_or_concat r with rfl|⟨e,x,rfl⟩
  ·cases h
  ·rw[List.concat_eq_append] at h hx ⊢;exact List.mem_flatMap.mpr ⟨e,zdZ (by simpa using h) λy hy=>hx y (M8 _ hy),gZ.mpr ⟨x,cJ.mpr (hx x Qi),rfl⟩⟩
theorem zd0{k:Nat}:∀m,(allR k m).Pairwise Zy
 |0=>List.pairwise_singleton ..
 |m+1=>by
  unfold allR;rw[List.pairwise_flatMap];refine⟨λr hr=>?_,(zd0 m).imp_of_mem λ{r s} hr hs h a ha b hb=>?_⟩
  ·rw[yx];have Cp:(gj k).Pairwise (·<·):=by
    unfold gj;rw[yx];exact List.pairwise_lt_range.imp λ{a b} h=>by lia
   refine Cp.imp λ{x y} h=>?_;show ltI _ _=true;rw[Zx];show (if x=y then _ else decide (x<y))=true;rw[if_neg gV];exact dZ h
  ·obtain⟨x,_,rfl⟩:=gZ.mp ha;obtain⟨y,_,rfl⟩:=gZ.mp hb;exact Zw (by rw[(Jc hr).1,(Jc hs).1]) h
structure Vj(n k d:Int)(ps:List (Int×Int))(G:List (List Int)):Prop where
 inc:G.Pairwise Zy
 mem:∀r,r∈G↔cR n k d ps r
theorem zmb(w:Web n ps)(hk:1<=k):Vj n k d ps (grows k d ps [[]] n.toNat) where
 inc:=by rw[Td w];exact(zd0 _).filter _
 mem:=λr=>by
  have h1:=w.h1;rw[Td w,j_]
  constructor
  ·rintro⟨a,b⟩;obtain⟨c,e⟩:=Jc a;exact⟨by lia,λx hx=>by have:=e x hx;lia,λp hp=>fH (gY.mp b p hp)⟩
  ·intro h;have:=h.len;exact⟨zdZ gV λx hx=>by have:=h.lo x hx;lia,gY.mpr λp hp=>dZ (h.fit p hp)⟩
end
section
variable {n m k d:Int}{ps qs:List (Int×Int)}{hs:List Int}
theorem zev{k':Nat}(h:Web n ps)(hr:1<=d/\d<=k/\k<=8)(h6:n<=6)(hm:(grows k d ps [[0]] (n.toNat-1)).length<=300):W (call aq T (k'+8) true 26 [.d (bJ n ps),.d (aJ k d)]) [] λv s=>v=.d (.fl ((grows k d ps [[0]] (n.toNat-1)).map dI)):=by
 refine W.call zmR rfl ?_;unfold Tz;refine Y ?_;refine W.c1 (Mq h hr h6) λ_=>?_;refine Y ?_;refine W.c0 (Vf (k':=k'+2) h hr h6) ?_;refine Y ?_;refine W.c1 (Vg (by rw[cY];lia)) λ_=>?_;exact Y trivial
end
def oM(o:SO):Prop:=∃a b:Int,o=.lst [.int a,.int b]/\0<=a/\(b=0\/b=1)
theorem Vk{k:Nat}{o:SO}{m:Int}(ho:oM o)(hm:0<m)(hm2:m<1073741824):W (call aq T (k+1) true 42 [.l 0,.d (.int m)]) [o] λv s=>∃d o',v=.d d/\s=[o']/\(∃r:Int,d=.int r/\0<=r/\r<m)/\oM o':=by
 obtain⟨a,b,rfl,ha,hb⟩:=ho;refine W.call zm8 rfl ?_;unfold T9;rcases hb with rfl|rfl
 ·refine Y ?_;exact⟨_,_,rfl,rfl,⟨_,rfl,BX _ gV,Dz _ hm⟩,⟨_,_,rfl,BX _ J0,.inl rfl⟩⟩
 ·refine Y ?_;exact⟨_,_,rfl,rfl,⟨_,rfl,BX _ gV,Dz _ hm⟩,⟨_,_,rfl,Int.ediv_nonneg ha gV,.inr rfl⟩⟩
theorem zlV{k:Nat}{n:Int}:W (call aq T (k+1) true 41 [.d (.int n)]) [] λv s=>∃i o,v=.l i/\s[i]?=some o/\oM o:=by
 refine W.call zmQ rfl ?_;unfold T8;refine Y ?_;refine⟨0,_,rfl,rfl,⟨_,_,rfl,?_,?_⟩⟩
 ·split<;>lia
 ·have:∀c:Bool,(if c=true then (1:Int) else 0)=0\/(if c=true then (1:Int) else 0)=1:=by intro c;cases c<;>simp
  exact this _
theorem Jo{k:Nat}{o:SO}{m:Int}{P:Xv->S->Prop}(ho:oM o)(hm:0<m)(hm2:m<1073741824)(h:∀(r:Nat) o',(r:Int)<m->oM o'->P (.d (.int r)) [o']):W (cg (call aq T (k+1) true 42) [.l 0,.d (.int m)]) [o] P:=by
 refine Lj (n:=0) (o:=o) rfl rfl ((Vk ho hm hm2).imp λv s=>?_);rintro⟨d,o',rfl,rfl,⟨r,rfl,h0,h1⟩,hp⟩;obtain⟨n,rfl⟩:=MN h0;exact⟨_,_,rfl,rfl,h n o' h1 hp⟩
theorem zjq{k:Nat}{ns:List Int}:W (call aq T (k+1) true 40 [.d (.fl (ns.map D.int)),.d (.int 0)]) [] λv _=>∃n,v=.d (.int n):=by
 refine W.call zmW rfl ?_;unfold T7;cases ns with
 |nil=>
  refine Y ?_;exact⟨_,rfl⟩
 |cons n r=>
  refine Y ?_;refine WS.ite (λ_=>?_) (λ_=>?_)
  ·refine Y ?_;refine gC (Lp (i:=0) (x:=.int n) rfl) ?_;refine Y ?_;exact⟨_,rfl⟩
  ·refine Y ?_;exact⟨_,rfl⟩
theorem zg1{k:Nat}{o:SO}{n:Int}(ho:oM o)(h1:1<=n)(h8:n<=8):W (call aq T (k+2) true 43 [.l 0,.d (.int n)]) [o] λv s=>∃ps o',v=.d (bJ n ps)/\s=[o']/\Web n ps/\oM o':=by
 refine W.call zmP rfl ?_;unfold T_;have hs:(100:Nat)<=sizeLine:=by decide
 refine Y ?_;refine Jo ho J0 J0 λr o' hr hp=>?_;refine Y ?_;have vD:r<3:=by lia
 refine gC (Lp (x:=.int (([2,4,6]:List Int)[r]'vD)) ?_) ?_
 ·revert vD;revert r;intro r _ vD;exact match r,vD with
  |0,_=>rfl|1,_=>rfl|2,_=>rfl
  |n+3,h=>absurd h gV
 generalize ([2,4,6]:List Int)[r]=often;refine Y ?_;refine⟨by rw[pW gV gV,pW gV gV];rfl,?_⟩;refine Ln (λ(i:Nat) J s=>∃(ps:List (Int×Int)) (a:Option Xv) (o':SO),J=[some (.l 0),some (.d (.int n)),some (.d (.int often)),some (.d (.fl (ps.map iU))),a]/\s=[o']/\oM o'/\(∀p∈ps,0<=p.1/\p.1<(i:Int)/\p.1<p.2/\p.2<n)/\ps.Pairwise lx/\ps.length<=7*i)
  ⟨[],_,_,rfl,rfl,hp,by simp,by simp,by simp⟩ (λi x J s e hI=>?_) (λJ s hI=>?_)
 ·obtain⟨ps,a,o',rfl,rfl,hp,ht,Bl,hlen⟩:=hI;obtain⟨rfl,hi⟩:=YG e;have hi8:i<8:=by lia
  refine Y ?_;refine Kax (c:=jh (0+(i:Int)+1) n) (λ(j:Nat) acc s=>∃(es:List Int) (o':SO),acc=es.map (λe=>iU (0+(i:Int),e))/\es.Pairwise (·<·)/\(∀e∈es,(i:Int)<e/\e<(i:Int)+1+j)/\s=[o']/\oM o') ?_ (λj x acc s e hJ=>?_) (λacc s hJ=>?_)
  ·refine Y ?_;refine⟨by rw[pW gV gV,pW gV gV];rfl,?_⟩;exact⟨rfl,[],_,rfl,by simp,by simp,rfl,hp⟩
  ·obtain⟨es,o',rfl,Ds,yj,rfl,hp⟩:=hJ;obtain⟨rfl,hj⟩:=YG e;have hel:(es.length:Int)<=(i:Int)+1+j-((i:Int)+1):=R8 Ds (λe he=>by have:=yj e he;lia) gV;refine Y ?_;refine Jo hp J0 J0 λr o' hr hp=>?_;refine Y ?_;refine⟨λhb=>?_,λhb=>?_⟩
   ·refine Y ?_;refine⟨_,rfl,by rw[cY];lia,es++[0+(i:Int)+1+j],o',?_,?_,?_,rfl,hp⟩
    ·rw[wA];rfl
    ·rw[List.pairwise_append];refine⟨Ds,by simp,λa ha b hb=>?_⟩;simp at hb;have:=yj a ha
     lia
    ·intro e he;rcases m5.mp he with he|he
     ·have:=yj e he;lia
     ·simp at he;lia
   ·exact⟨es,o',rfl,Ds,λe he=>by have:=yj e he;lia,rfl,hp⟩
  ·obtain⟨es,o',rfl,Ds,yj,rfl,hp⟩:=hJ;rw[YH] at yj;have hel:(es.length:Int)<=n-((i:Int)+1):=R8 Ds (λe he=>by have:=yj e he;lia) gV;refine Y ?_;refine Li (Yq ?_) ?_
   ·rw[cY,cY];lia
   refine Y ?_;refine⟨_,rfl,ps++es.map (λe=>(0+(i:Int),e)),some (.d (.int (0+(i:Int)))),o',?_,rfl,hp,?_,?_,?_⟩
   ·rw[wA,m7];rfl
   ·intro p hp;rcases m5.mp hp with hp|hp
    ·have:=ht p hp;lia
    ·obtain⟨e,he,rfl⟩:=gZ.mp hp;have:=yj e he;dsimp only
     lia
   ·rw[List.pairwise_append,yx];refine⟨Bl,Ds.imp λh=>.inr ⟨rfl,h⟩,λp hp q hq=>?_⟩;obtain⟨e,he,rfl⟩:=gZ.mp hq;have:=ht p hp;exact .inl (by dsimp only;lia)
   ·rw[ji,cY];lia
 ·obtain⟨ps,a,o',rfl,rfl,hp,ht,Bl,hlen⟩:=hI;rw[YH] at ht hlen;refine Y ?_;refine⟨ps,o',rfl,rfl,⟨h1,h8,λp hp=>?_,Bl,by lia⟩,hp⟩;have:=ht p hp
  lia
section
variable {n k d m:Int}{ps:List (Int×Int)}{r hs:List Int}{G:List (List Int)}
noncomputable def mY(k:Int)(r:List Int):List Int:=aN k (-(at' r 0)) r
noncomputable def iZ(k:Int)(r:List Int):List Int:=if ltI (bL k (mY k r)) (mY k r)=true then bL k (mY k r) else mY k r
noncomputable def cZ(k:Int)(r:List Int):Bool:=!ltI (bL k r) r
theorem tY{f:Int->Int}{r:List Int}(h:0<r.length):at' (r.map f) 0=f (at' r 0):=by
 cases r with
 |nil=>exact absurd h (lM _)
 |cons x r=>rfl
theorem mod2(x a b k:Int):((x+a)%k + -((b+a)%k))%k=(x + -b)%k:=by
 have e:=Int.sub_emod (x+a) (b+a) k;rw[show (x+a)-(b+a)=x + -b by lia] at e;rw[e];rfl
theorem zjd(h:0<r.length):mY k (aN k m r)=mY k r:=by
 unfold mY aN;rw[tY h,m7];exact Bu λx _=>mod2 x m (at' r 0) k
theorem Vl(x b k:Int):(-x%k + -(-b%k))%k = -((x + -b)%k)%k:=by
 have e:=Int.sub_emod (-x) (-b) k;rw[Zd,show -(x + -b) = -x - -b by lia,e];rfl
theorem zhS(h:0<r.length):mY k (bL k r)=bL k (mY k r):=by
 unfold mY aN bL;rw[tY h,m7,m7];exact Bu λx _=>Vl x (at' r 0) k
theorem zng(h:0<r.length)(hk:1<=k):at' (mY k r) 0=0:=by
 unfold mY aN;rw[tY h];show (at' r 0 + -(at' r 0))%k=0;rw[Int.add_right_neg];exact Int.zero_emod k
theorem zjF(hz:at' r 0=0)(h:∀x∈r,0<=x/\x<k):mY k r=r:=by
 unfold mY aN;rw[hz]
 conv=>rhs;rw[<-List.map_id r]
 refine Bu λx hx=>?_;show (x + -0)%k=x;rw[show x + -0=x by lia,Bj (h x hx).1 (h x hx).2]
theorem zm5(h:0<r.length)(hz:at' r 0=0):at' (bL k r) 0=0:=by
 unfold bL;rw[tY h,hz];exact Int.zero_emod k
theorem Mr(w:Web n ps)(hd:1<=d)(hk:1<=k)(h:cR n k d ps r):cR n k d ps (mY k r):=S7 w hd hk h
theorem Jp(w:Web n ps)(h:cR n k d ps r):0<r.length:=by have:=w.h1;have:=h.len;lia
theorem Vm(w:Web n ps)(hd:1<=d)(hk:1<=k)(h:cR n k d ps r):cR n k d ps (iZ k r)/\at' (iZ k r) 0=0:=by
 have f:=Mr w hd hk h;have z:=zng (k:=k) (Jp w h) hk;unfold iZ
 split
 ·exact⟨S8 w hd hk f,zm5 (Jp w f) z⟩
 ·exact⟨f,z⟩
theorem zf5(w:Web n ps)(h:cR n k d ps r):iZ k (aN k m r)=iZ k r:=by
 unfold iZ;rw[zjd (Jp w h)]
theorem ziD(w:Web n ps)(hd:1<=d)(hk:1<=k)(h:cR n k d ps r):iZ k (bL k r)=iZ k r:=by
 have f:=Mr w hd hk h;unfold iZ;rw[zhS (Jp w h),Ja f.lo];rcases Zu (mY k r) (bL k (mY k r)) with c|c|c
 ·rw[if_pos c,if_neg (by rw[Jf c];exact wj)]
 ·rw[<-c,Je]
 ·rw[if_pos c,if_neg (by rw[Jf c];exact wj)]
theorem zhi(w:Web n ps)(hd:1<=d)(hk:1<=k)(h:cR n k d ps r):cZ k (iZ k r)=true:=by
 have f:=Mr w hd hk h;unfold iZ cZ
 split
 ·rename_i c;rw[Ja f.lo,Jf c];rfl
 ·rename_i c;rw[Nj.mpr c];rfl
theorem zk2(h:∀x∈r,0<=x/\x<k)(hz:at' r 0=0)(hc:cZ k r=true):iZ k r=r:=by
 unfold iZ;rw[zjF hz h];unfold cZ at hc;rw[if_neg (by intro z;rw[z] at hc;cases hc)]
theorem zmi(w:Web n ps)(hd:1<=d)(hk:1<=k)(h:cR n k d ps r):iZ k (iZ k r)=iZ k r:=by
 obtain⟨a,b⟩:=Vm w hd hk h;exact zk2 a.lo b (zhi w hd hk h)
theorem zlN(h:∀x∈r,0<=x/\x<k)(hz:at' r 0=0):ltI r (iZ k r)=false:=by
 unfold iZ;rw[zjF hz h]
 split
 ·rename_i c;exact Jf c
 ·exact Je r
structure Fix(n k d:Int)(ps:List (Int×Int))(G:List (List Int)):Prop where
 nd:G.Nodup
 mem:∀r,r∈G↔cR n k d ps r/\at' r 0=0
theorem zjI(w:Web n ps)(hk:1<=k):Fix n k d ps (grows k d ps [[0]] (n.toNat-1)):=by
 have h1:=w.h1;have A:=zmb (d:=d) w hk;have e:=Zk (d:=d) w hk (n.toNat-1);rw[show n.toNat-1+1=n.toNat by lia] at e;rw[<-e];refine⟨(A.inc.imp λ{a b} h z=>?_).filter _,λr=>?_⟩
 ·subst z;have:ltI a a=true:=h;rw[Je] at this;cases this
 ·rw[j_,A.mem,Ni]
theorem half(w:Web n ps)(hd:1<=d)(hk:1<=k)(F:Fix n k d ps G):G.length<=2*(G.filter (cZ k)).length:=by
 have e:=List.length_eq_countP_add_countP (cZ k) (l:=G);rw[List.countP_eq_length_filter,List.countP_eq_length_filter] at e;have:((G.filter λa=>decide ¬cZ k a=true).map (bL k)).length<=(G.filter (cZ k)).length:=by
  refine YJ ?_ λx hx=>?_
  ·unfold List.Nodup;rw[yx];refine(F.nd.filter _).imp_of_mem λ{a b} ha hb h z=>h ?_;have a1:=((F.mem a).mp (j_.mp ha).1).1;have b1:=((F.mem b).mp (j_.mp hb).1).1;rw[<-Ja a1.lo,z,Ja b1.lo]
  ·obtain⟨a,ha,rfl⟩:=gZ.mp hx;obtain⟨ha,hc⟩:=j_.mp ha;obtain⟨a1,a2⟩:=(F.mem a).mp ha;refine j_.mpr ⟨(F.mem _).mpr ⟨S8 w hd hk a1,zm5 (Jp w a1) a2⟩,?_⟩;have hc:=fH hc;unfold cZ at hc ⊢;rw[Ja a1.lo];have:ltI (bL k a) a=true:=by simpa using hc
   rw[Jf this];rfl
 rw[cY] at this
 lia
theorem zgI(F:Fix n k d ps G)(w:Web n ps)(hd:1<=d)(hk:1<=k):(G.filter (cZ k)).length=0↔G.length=0:=by
 have h:=half w hd hk F;have:=Jw (cZ k) G
 lia
noncomputable def kI(r:List Int):List Kx:=r.map .int
theorem zjh{a b:List Int}(h:kI a=kI b):a=b:=by
 induction a generalizing b with
 |nil=>cases b with
  |nil=>rfl
  |cons y b=>cases h
 |cons x a ih=>cases b with
  |nil=>cases h
  |cons y b=>
   have h:Kx.int x::kI a=Kx.int y::kI b:=h;injection h with h1 h2;injection h1 with h1;rw[h1,ih h2]
theorem zfg:∀{r:List Int},kOf (.tup (r.map .int))=some (kI r)
 |[]=>rfl
 |x::r=>by
  have ih:zU (r.map .int)=some (kI r):=zfg;show (match sO (.int x),zU (r.map .int) with|some a,some b=>some (a::b)|_,_=>none)=_;rw[ih];rfl
theorem zec{key:List Kx}{v:D}{kvs:jR}:(lu key v kvs).map (·.1)=if key∈kvs.map (·.1) then kvs.map (·.1) else kvs.map (·.1)++[key]:=by
 have hm:(jg key kvs).isSome=true↔key∈kvs.map (·.1):=by
  induction kvs with
  |nil=>simp[jg]
  |cons p r ih=>
   unfold jg;by_cases c:p.1=key
   ·simp[c]
   ·rw[if_neg c,ih,jq,gG];exact⟨.inr,λh=>h.resolve_left λz=>c z.symm⟩
 unfold lu;by_cases c:key∈kvs.map (·.1)
 ·rw[if_pos (hm.mpr c),if_pos c,m7];refine Bu λp _=>?_;show (if p.1=key then (p.1,v) else p).1=p.1
  split<;>rfl
 ·rw[if_neg (λz=>c (hm.mp z)),if_neg c,wA];rfl
theorem zb0:∀(l:List (List Int)) (kvs:jR),(kvs.map (·.1)).Nodup->∃kvs',cC (l.map λq=>.tup [.tup (q.map .int),.bl true]) kvs=some kvs'/\(kvs'.map (·.1)).Nodup/\∀key,key∈kvs'.map (·.1)↔key∈kvs.map (·.1)\/key∈l.map kI
 |[],kvs,nd=>⟨kvs,rfl,nd,λkey=>by simp⟩
 |q::l,kvs,nd=>by
  have e:cC ((q::l).map λq=>.tup [.tup (q.map .int),.bl true]) kvs=cC (l.map λq=>.tup [.tup (q.map .int),.bl true]) (lu (kI q) (.bl true) kvs):=by
   show (match kOf (.tup (q.map .int)) with|some kx=>cC _ (lu kx (.bl true) kvs)|none=>none)=_;rw[zfg]
  have nd2:((lu (kI q) (.bl true) kvs).map (·.1)).Nodup:=by
   rw[zec]
   split
   ·exact nd
   ·rename_i c;rw[DK];exact⟨nd,by simp,λa ha b hb z=>by rw[jG] at hb;subst hb;subst z;exact c ha⟩
  obtain⟨kvs',h1,h2,h3⟩:=zb0 l _ nd2;refine⟨kvs',e.trans h1,h2,λkey=>?_⟩;rw[h3,zec,jq,gG]
  split
  ·rename_i c;exact⟨λh=>h.imp id .inr,λh=>h.elim .inl λh=>h.elim (λz=>.inl (z▸c)) .inr⟩
  ·rw[m5,jG];exact⟨λh=>h.elim (λh=>h.elim .inl λz=>.inr (.inl z)) λh=>.inr (.inr h),λh=>h.elim (λh=>.inl (.inl h)) λh=>h.elim (λz=>.inl (.inr z)) .inr⟩
theorem zeF(w:Web n ps)(hd:1<=d)(hk:1<=k)(F:Fix n k d ps G):∃kvs,cC ((G.map (iZ k)).map λq=>.tup [.tup (q.map .int),.bl true]) []=some kvs/\kvs.length=(G.filter (cZ k)).length:=by
 obtain⟨kvs,h1,h2,h3⟩:=zb0 (G.map (iZ k)) [] BZ;refine⟨kvs,h1,?_⟩;have nd:((G.filter (cZ k)).map kI).Nodup:=by
  unfold List.Nodup;rw[yx];exact(F.nd.filter _).imp λ{a b} h z=>h (zjh z)
 have mem:∀key,key∈kvs.map (·.1)↔key∈(G.filter (cZ k)).map kI:=λkey=>by
  rw[h3,m7]
  constructor
  ·rintro(h|h)
   ·exact absurd h Qi
   ·obtain⟨r,hr,rfl⟩:=gZ.mp h;obtain⟨a,b⟩:=(F.mem r).mp hr;exact gZ.mpr ⟨iZ k r,j_.mpr ⟨(F.mem _).mpr (Vm w hd hk a),zhi w hd hk a⟩,rfl⟩
  ·intro h;obtain⟨r,hr,rfl⟩:=gZ.mp h;obtain⟨hr,hc⟩:=j_.mp hr;obtain⟨a,b⟩:=(F.mem r).mp hr;exact .inr (gZ.mpr ⟨r,hr,by show kI (iZ k r)=kI r;rw[zk2 a.lo b hc]⟩)
 have:=((List.perm_ext_iff_of_nodup h2 nd).mpr mem).length_eq;rw[cY,cY] at this;exact this
end
theorem W.Cz{aq:Nat->Nat->Bool}{aj:Bool}{F:Fn}{J:Vs}{s:S}{a:E}{P:Xv->S->Prop}(h:W (ev aq aj F a J) s λx s1=>∃ds kvs,x=.d (.fl ds)/\ds.length<=sizeLine/\cC ds []=some kvs/\P (.l s1.length) (s1++[.dct kvs])):W (ev aq aj F (.Cz a) J) s P:=
 W.bd (h.imp λx s1 ⟨ds,kvs,e,hl,ek,hp⟩=>by
  subst e;refine⟨.l s1.length,s1++[.dct kvs],?_,hp⟩;show (M.bd (M.opt (if ds.length<=sizeLine then cC ds [] else none)) _) s1=_;rw[if_pos hl,ek]
  rfl)
theorem W.qu{aq:Nat->Nat->Bool}{aj:Bool}{F:Fn}{J:Vs}{s:S}{a:E}{P:Xv->S->Prop}(h:W (ev aq aj F a J) s λx s1=>∃n kvs,x=.l n/\s1[n]?=some (.dct kvs)/\P (.d (.int kvs.length)) s1):W (ev aq aj F (.qu a) J) s P:=
 W.bd (h.imp λx s1 ⟨n,kvs,e,e2,hp⟩=>by
  subst e;refine⟨_,s1,?_,hp⟩;show (M.bd (iM (.l n)) λnk=>M.ret _) s1=_;unfold M.bd iM;simp only[e2]
  rfl)
theorem K_{a b:List Int}:prim .KR [.tup (a.map .int),.tup (b.map .int)]=some (.dat (.bl (ltI b a))):=by
 show (match bG (a.map D.int),bG (b.map D.int) with|some a,some b=>some (Rz.dat (.bl (ltI b a)))|_,_=>none)=_;rw[Dn,Dn]
theorem K9{a b:List Int}:prim .KY [.tup (a.map .int),.tup (b.map .int)]=some (.dat (.bl (!ltI b a))):=by
 show (match bG (a.map D.int),bG (b.map D.int) with|some a,some b=>some (Rz.dat (.bl (!ltI b a)))|_,_=>none)=_;rw[Dn,Dn]
theorem zkH{a b:List Int}:prim .nW [.fl [.tup (a.map .int),.tup (b.map .int)]]=some (.dat (.tup ((if ltI b a=true then b else a).map .int))):=by
 have e:fL [.tup (a.map .int),.tup (b.map .int)]=some [a,b]:=by simp only[fL,Dn]
 show (match fL [.tup (a.map .int),.tup (b.map .int)] with|some (x::r)=>some (Rz.dat (.tup ((pG x r).map .int)))|_=>none)=_;rw[e];rfl
section
variable {n k d:Int}{ps:List (Int×Int)}{hs:List Int}{G:List (List Int)}
theorem zeS{k':Nat}(hk:1<=k)(hl:hs.length<=8):W (call aq T (k'+1) true 33 [.d (aJ k d),.d (.tup (hs.map .int))]) [] λv s=>v=.d (.tup ((bL k hs).map .int)):=by
 have v9:(1000:Nat)<=sizeLine:=by decide
 have er:aJ k d=.tup [.int k,.int d]:=rfl;refine W.call Ue rfl ?_;unfold Lz;refine Y ?_;refine qK (l:=hs) (f:=D.int) (λx=>some (.int (-x%k))) gV ?_ (λx hx=>?_) ?_
 ·refine Y ?_;exact⟨rfl,rfl⟩
 ·refine Y ?_;refine⟨rfl,λ_=>?_,λhb=>by cases hb⟩;refine Y ?_;exact⟨rfl,_,rfl,rfl⟩
 rw[vV];refine Y ?_;unfold bL;rw[m7];rfl
theorem zgG{k':Nat}(h:Web n ps)(hr:1<=d/\d<=k/\k<=8)(h6:n<=6)(hG:(grows k d ps [[0]] (n.toNat-1)).length<=5000):W (call aq T (k'+8) true 38 [.d (bJ n ps),.d (aJ k d)]) [] λv s=>v=.d (.int (((grows k d ps [[0]] (n.toNat-1)).filter (cZ k)).length:Nat)):=by
 have v9:(10000:Nat)<=sizeLine:=by decide
 have Fx:=zjI (d:=d) h (show 1<=k by lia);have fx:=Vf (k':=k'+2) h hr h6;generalize grows k d ps [[0]] (n.toNat-1)=G at hG Fx fx;refine W.call zmZ rfl ?_;unfold T5;refine Y ?_;refine W.c1 (Mq h hr h6) λ_=>?_;refine Y ?_;refine qK (l:=G) (f:=dI) (λr=>if cZ k r=true then some (dI r) else none) gV ?_ (λr hr=>?_) ?_
 ·refine Y ?_;refine W.c0 fx ?_;refine Y ?_;exact⟨rfl,rfl⟩
 ·have hh:=((Fx.mem r).mp hr).1;have h8:=h.h8;have hl:=hh.len;unfold dI;refine Y ?_;refine W.c0 (zeS gV gV) ?_;refine Y ?_;refine gC K9 ?_;refine Y ?_;refine⟨rfl,λhb=>?_,λhb=>?_⟩
  ·refine Y ?_;exact⟨rfl,_,rfl,by rw[if_pos (show cZ k r=true from hb)]⟩
  ·exact if_neg (by rw[show cZ k r=false from hb];exact wj)
 ·have ef:(G.filterMap λr=>if cZ k r=true then some (dI r) else none)=(G.filter (cZ k)).map dI:=by
   clear hG Fx fx
   induction G with
   |nil=>rfl
   |cons a l ih=>
    rw[yt,uf];by_cases c:cZ k a=true
    ·simp[c,ih]
    ·simp[c,ih]
  rw[ef];refine Y ?_;rw[cY]
theorem Jq{k':Nat}(h:Web n ps)(hr:1<=d/\d<=k/\k<=8)(h6:n<=6)(hh:cR n k d ps hs):W (call aq T (k'+10) true 39 [.d (bJ n ps),.d (aJ k d),.d (.tup (hs.map .int))]) [] λv s=>v=.d (.tup ((iZ k hs).map .int)):=by
 have hl:=hh.len;have h1:=h.h1;have h8:=h.h8;refine W.call zmK rfl ?_;unfold T6;refine Y ?_;refine W.c1 (Mq h hr h6) λ_=>?_;refine Y ?_;refine W.c1 (Vh h hr.1 hr.2.1 gV hh) λ_=>?_;refine Y ?_;refine gC (Az gV gV) ?_;refine Y ?_;refine W.c0 (Vi (m:=-(at' hs 0)) h ⟨hr.1,hr.2.1,by lia⟩ hh) ?_;refine Y ?_;refine W.c0 (zhp h ⟨hr.1,hr.2.1,by lia⟩ (Mr h hr.1 gV hh)) ?_;refine Y ?_;refine gC zkH ?_;exact Y rfl
end
section
variable {n k d:Int}{ps:List (Int×Int)}{hs r:List Int}{G:List (List Int)}
theorem ziR{k':Nat}{o:SO}(ho:oM o)(h:Web n ps)(hr:1<=d/\d<=k/\k<=8)(h6:n<=6)(hh:cR n k d ps hs)(hz:at' hs 0=0):W (call aq T (k'+11) true 45 [.l 0,.d (bJ n ps),.d (aJ k d),.d (.tup (hs.map .int))]) [o] λv s=>∃e o',v=.d e/\s=[o']/\e=.bl true/\oM o':=by
 have h1:=h.h1;have Dt:1<=d/\d<=k/\k<=24:=by lia
 have hk:1<=k:=by lia
 obtain⟨f1,f2⟩:=Vm h hr.1 hk hh;have fl:=f1.len;have m1:=S8 h hr.1 hk hh;refine W.call zmG rfl ?_;unfold Ub;refine Y ?_;refine W.c0 (Jq h hr h6 hh) ?_;refine Y ?_;refine W.c0 (zi8 h Dt f1) ?_;refine Y ?_;refine gC K_ ?_;rw[zlN hh.lo hz];refine Y ?_;refine gC (Az gV gV) ?_;rw[f2];refine Y ?_;refine W.c0 (Jq h hr h6 f1) ?_;rw[zmi h hr.1 hk hh];refine Y ?_;refine gC (SM (f:=not)) ?_;rw[dZ rfl];refine Y ?_;refine W.c0 (zhp h Dt hh) ?_;refine Y ?_;refine Jo ho J0 J0 λa o1 ha hp=>?_;refine Y ?_;refine W.c0 (Vi (m:=(a:Int)) h Dt m1) ?_;refine Y ?_;refine W.c0 (Jq h hr h6 (S7 h hr.1 hk m1)) ?_;rw[zf5 h m1,ziD h hr.1 hk hh];refine Y ?_;refine gC (SM (f:=not)) ?_;rw[dZ rfl];refine Y ?_;refine Jo hp J0 J0 λb o2 hb hp=>?_;refine Y ?_;refine W.c0 (Vi (m:=(b:Int)) h Dt hh) ?_;refine Y ?_;refine W.c0 (Jq h hr h6 (S7 h hr.1 hk hh)) ?_;rw[zf5 h hh];refine Y ?_;refine gC (SM (f:=id)) ?_;rw[dZ rfl];exact⟨_,_,rfl,rfl,rfl,hp⟩
theorem zhG{xs:List D}:prim .eq [.fl xs,.fl []]=some (.dat (.bl xs.isEmpty)):=by cases xs<;>rfl
theorem zg2{k':Nat}{o:SO}(ho:oM o)(h:Web n ps)(hr:1<=d/\d<=k/\k<=8)(h6:n<=6)(hG:(grows k d ps [[0]] (n.toNat-1)).length<=5000):W (call aq T (k'+12) true 46 [.l 0,.d (bJ n ps),.d (aJ k d)]) [o] λv s=>∃e o' r,v=.d e/\s=o'::r/\e=.bl true/\oM o':=by
 have h1:=h.h1;have v9:(10000:Nat)<=sizeLine:=by decide
 have er:aJ k d=.tup [.int k,.int d]:=rfl;have hk:1<=k:=by lia
 have Fx:=zjI (d:=d) h hk;have hc:=S_ h hr.1 hk (n.toNat-1);rw[show n.toNat-1+1=n.toNat by lia] at hc;have hm:=ziw (k':=k'+2) h hr h6;rw[hc,Int.natCast_mul,show ((k.toNat:Nat):Int)=k by lia] at hm;have hf:=zgG (k':=k'+3) h hr h6 hG;have hx:=zfF (k':=k'+3) h hr h6;have ha:=λz=>zev (k':=k'+3) h hr h6 z;clear hc;generalize grows k d ps [[0]] (n.toNat-1)=G at hG Fx hm hf hx ha;have hf2:=half h hr.1 hk Fx;have hn:=zgI Fx h hr.1 hk;obtain⟨kvs,ek,el⟩:=zeF h hr.1 hk Fx;generalize ec:(G.filter (cZ k)).length=c at hf hf2 hn el;refine W.call zmV rfl ?_;unfold Uc;refine Y ?_;refine W.c0 hm ?_;refine Y ?_;refine W.c0 hf ?_;refine Y ?_;have hb1:k*(G.length:Int)<=2*k*c:=by
  have:=Ms (show (G.length:Int)<=2*c by lia) (show 0<=k by lia);rw[Int.mul_comm 2 k,Int.mul_assoc];exact this
 have e1:((c:Int)==0)=(k*(G.length:Int)==0):=by
  rw[DR,m8,m8,Int.mul_eq_zero]
  lia
 refine W.ite (λe=>absurd (fH e) (Int.not_lt.mpr hb1)) (λ_=>?_);refine Y ?_;refine W.c0 hx ?_;refine Y ?_;refine W.ite (λe=>absurd (fH e) gV) (λ_=>?_);refine Y ?_;rw[e1];refine WS.ite (λe=>absurd e Qi) (λ_=>?_);refine Y ?_;refine W.c0 hx ?_;refine Y ?_;refine WS.ite (λe=>?_) (λe=>?_)
 ·refine Y ?_;exact⟨_,_,_,rfl,rfl,rfl,ho⟩
 have aae:G.length<=100:=by
  have:¬(100:Int)<G.length:=λz=>e (dZ z)
  lia
 refine Y ?_;refine W.c0 (ha gV) ?_;refine Y ?_;refine W.Cz ?_;refine qK (l:=G) (f:=dI) (λr=>some (.tup [.tup ((iZ k r).map .int),.bl true])) gV ?_ (λr Dt=>?_) ?_
 ·refine Y ?_;exact⟨rfl,rfl⟩
 ·have hh:=((Fx.mem r).mp Dt).1;unfold dI;refine Y ?_;refine⟨rfl,λ_=>?_,λhb=>by cases hb⟩;refine Y ?_;refine W.c0 (Jq h hr h6 hh) ?_;refine Y ?_;exact⟨rfl,_,rfl,rfl⟩
 have ef:(G.filterMap λr=>some (D.tup [.tup ((iZ k r).map .int),.bl true]))=(G.map (iZ k)).map λq=>.tup [.tup (q.map .int),.bl true]:=by
  rw[vV,m7];rfl
 rw[ef];refine Y ?_;refine⟨_,kvs,rfl,by rw[cY,cY];lia,ek,?_⟩;refine Y ?_;refine W.qu ?_;refine Y ?_;refine⟨1,kvs,rfl,rfl,?_⟩;rw[el];refine Y ?_;refine WS.ite (λe=>absurd e Qi) (λ_=>?_);refine Y ?_;refine gC zhG ?_;cases eG:(G.map dI).isEmpty with
 |true=>
  refine Y ?_;exact⟨_,_,_,rfl,rfl,rfl,ho⟩
 |false=>
  have Px:0<G.length:=by
   cases G with
   |nil=>cases eG
   |cons a l=>exact Nat.succ_pos _
  refine Y ?_;rw[cY];refine Lj (n:=0) (o:=o) rfl rfl ((Vk (k:=k'+10) ho (m:=(G.length:Int)) gV gV).imp λv s=>?_);rintro⟨_,o1,rfl,rfl,⟨z,rfl,z0,z1⟩,hp⟩;refine⟨_,_,rfl,rfl,?_⟩;have hz:z.toNat<G.length:=by lia
  obtain⟨q1,q2⟩:=(Fx.mem _).mp (List.getElem_mem hz);refine Y ?_;refine gC (Dl (xs:=G.map dI) (x:=dI G[z.toNat]) z0 (by rw[jo,i_ hz];rfl)) ?_;unfold dI;refine Y ?_;refine Lj (n:=0) (o:=o1) rfl rfl ((ziR hp h hr h6 q1 q2).imp λv s=>?_);rintro⟨_,o2,rfl,rfl,rfl,hp⟩;refine⟨_,_,rfl,rfl,?_⟩;exact⟨_,_,_,rfl,rfl,rfl,hp⟩
end
section
variable {n k d:Int}{ps:List (Int×Int)}
theorem zg0(w:Web n ps)(hk:1<=k):(grows k d ps [[]] n.toNat).length<=k.toNat^n.toNat:=by
 rw[Td w];refine lN (Jw _ _) ?_;generalize n.toNat=m
 induction m with
 |zero=>exact cL 1
 |succ m ih=>
  show ((allR k.toNat m).flatMap _).length<=_;have:∀l:List (List Int),(l.flatMap λr=>(gj k.toNat).map λx=>r++[x]).length=l.length*k.toNat:=λl=>by
   induction l with
   |nil=>simp
   |cons r l ih2=>
    rw[uL,ji,ih2,dB,cY,D_];have:(gj k.toNat).length=k.toNat:=by unfold gj;simp
    lia
  rw[this,Nat.pow_succ];exact Jx _ ih
theorem zjo(w:Web n ps)(hr:1<=d/\d<=k/\k<=8)(h4:n<=4):(grows k d ps [[0]] (n.toNat-1)).length<=5000:=by
 have h1:=w.h1;have e:=S_ w hr.1 (show 1<=k by lia) (n.toNat-1);rw[show n.toNat-1+1=n.toNat by lia] at e;have p8:∀i,i<=4->8^i<=4096:=by decide
 have h:=lN (zg0 (d:=d) w (show 1<=k by lia)) (lN (Nat.pow_le_pow_left (show k.toNat<=8 by lia) _) (p8 n.toNat gV));rw[e] at h;have:=Jx (grows k d ps [[0]] (n.toNat-1)).length (show 1<=k.toNat by lia)
 lia
end
noncomputable def iH:List (Int×Int):=[(2,1),(3,1),(4,1),(5,2),(5,1),(4,2),(6,2),(7,3),(7,2),(8,3),(3,2),(1,1)]
theorem ziZ:∀p∈iH,1<=p.2/\p.2<=p.1/\p.1<=8:=by decide
theorem zij{k':Nat}{o:SO}(ho:oM o):W (call aq T (k'+2) true 44 [.l 0]) [o] λv s=>∃e o',v=.d e/\s=[o']/\(∃k d:Int,e=aJ k d/\(k,d)∈iH)/\oM o':=by
 refine W.call zm2 rfl ?_;unfold Ua;refine Y ?_;refine Jo ho J0 J0 λr o' hr hp=>?_;refine Y ?_;have vD:r<iH.length:=by show r<12;lia
 refine gC (Lp (x:=aJ iH[r].1 iH[r].2) (by show (iH.map λp=>aJ p.1 p.2)[r]?=_;rw[jo,i_ vD];rfl)) ?_;refine Y ?_;exact⟨_,_,rfl,rfl,⟨_,_,rfl,List.getElem_mem vD⟩,hp⟩
theorem t_(ns:List Int)(hn:ns.length<=63):∃s',call aq T 60 true 47 [.d (.fl (ns.map D.int))] []=some (.ok (.d (.bl true)),s'):=by
 suffices h:W (call aq T 60 true 47 [.d (.fl (ns.map D.int))]) [] λv _=>v=.d (.bl true) by
  obtain⟨v,s',e,rfl⟩:=h;exact⟨s',e⟩
 have hs:(20000:Nat)<=sizeLine:=by decide
 refine W.call (k:=59) znc rfl ?_;unfold Ud;refine Y ?_;refine vU rfl ((zjq (k:=58)).imp λv _=>?_);rintro⟨n0,rfl⟩;refine⟨_,rfl,?_⟩;refine Y ?_;refine Li (Yq ?_) ?_
 ·have:=zhK (ns:=ns) (lo:=some 1) (hi:=some 3);show 1+_<=_
  lia
 refine Y ?_;refine Ln (λ_ J s=>∃(a b c:Option Xv),J=[some (.d (.fl (ns.map D.int))),a,b,c]) ⟨_,_,_,rfl⟩ (λi x J s hx Bm=>?_) (λJ s Bm=>?_)
 ·obtain⟨m,rfl⟩ : ∃m,x=.int m:=by
   rcases m5.mp (gF hx) with z|z
   ·rcases gG.mp z with rfl|z
    ·exact⟨_,rfl⟩
    ·cases z
   ·exact zhW z
  obtain⟨a,b,c,rfl⟩:=Bm;refine Y ?_;refine Kaq rfl ((zlV (k:=58)).imp λv s1=>?_);rintro⟨j,o,rfl,hj,hp⟩;refine⟨j,o,rfl,hj,?_⟩;refine Y ?_;refine R9 rfl ((Vk (k:=58) hp (m:=4) gV gV).imp λv s1=>?_);rintro⟨_,o1,rfl,rfl,⟨r,rfl,hr0,hr1⟩,hp⟩;refine⟨_,_,rfl,rfl,?_⟩;refine Y ?_;have hz:1<=1+r/\1+r<=4:=by lia
  generalize 1+r=z at hz ⊢;refine R9 rfl ((zg1 (k:=57) hp (n:=z) gV gV).imp λv s1=>?_);rintro⟨ps,o3,rfl,rfl,hw,hp⟩;refine⟨_,_,rfl,rfl,?_⟩;refine Y ?_;refine R9 rfl ((zij (k':=57) hp).imp λv s1=>?_);rintro⟨_,o4,rfl,rfl,⟨kk,dd,rfl,hm⟩,hp⟩;refine⟨_,_,rfl,rfl,?_⟩;have hr:1<=dd/\dd<=kk/\kk<=8:=ziZ _ hm;refine Y ?_;refine Kau rfl ((zg2 (k':=47) hp hw hr gV (zjo hw hr gV)).imp λv s1=>?_);rintro⟨_,o5,rr,rfl,rfl,rfl,hp⟩;refine⟨_,_,_,rfl,rfl,?_⟩;refine Y ?_;exact⟨_,rfl,_,_,_,rfl⟩
 ·obtain⟨a,b,c,rfl⟩:=Bm;exact Y trivial
end dN
end Lake
open Lake
open PySem PySem.W PyProof.Rows
set_option maxRecDepth 100000 in
set_option maxHeartbeats 0 in
theorem PySem.Challenge.cw_ringhues_k55_whole_folds_holds : PySem.Challenge.rw_ringhues_k55_whole_folds.Holds := by
 refine PySem.W.holds_law dN.ws λsaid=>?_;refine holds_open (q:=dN.qv) (loose:=dN.loose) (Xt:=λs=>xlAt dN.qv [] s&&recOk [] s) (XP:=XL dN.qv []) (Yf:=(Mi.j9 dN.fs dN.ms dN.xs dN.lk dN.bd).obs) (Ya:=(Mi.j9 dN.fs dN.ms dN.xs dN.lk dN.bd).val) (YP:=(Mi.j9 dN.fs dN.ms dN.xs dN.lk dN.bd).says) (N:=20000) dN.left (Mi.j9 dN.fs dN.ms dN.xs dN.lk dN.bd).of (Mi.j9 dN.fs dN.ms dN.xs dN.lk dN.bd).keeps (λs e=>xl_of s (M7.mp e).1) XL.keeps (by rfl) (by rfl) (by rfl) (λs e=>recFacts_of (M7.mp e).2) (by rfl) said dN.wc ⟨rfl,rfl,rfl,rfl,rfl,dN.wt⟩ ?hw ?hc
 case hw=>w_witness2
 case hc=>exact Mi.I_ (l:=PySem.Challenge.rw_ringhues_k55_whole_folds) (x:="_law_script") (k:=60) rfl rfl ⟨by decide,by decide,rfl⟩ (λw K mg fa h S X G Vb=>dN.all_mk dN.t_ S X G Vb)
