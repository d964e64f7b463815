import PyProof.Rows.All
import Wide.All
import KE.KIsAll
import KE.KNestM
import KE.KSortTup
import KE.KLam
import KE.KTryDeep
import KE.KDictOf
import KE.KFromBytes
import Wide.FinOn
import PySem.Challenge.RW_ringhues_k16_plain_rings
set_option compiler.extract_closed false
abbrev aB:=@PySem.wpAny_bind
abbrev cP:=@PySem.Heap.get?_push_of_some
abbrev gD:=@List.getElem?_eq_some_iff
abbrev bI:=@PySem.Heap.lt_size
abbrev aQ:=@PySem.wpAny_pure
abbrev dF:=@List.size_toArray
abbrev gF:=@List.mem_append_right
abbrev eZ:=@Nat.lt_of_lt_of_le
abbrev dU:=@Bool.and_eq_true
abbrev dG:=@Option.some.inj
abbrev gP:=@List.mem_cons_of_mem
abbrev jw:=@List.getElem?_append_left
abbrev jO:=@List.getElem?_append_right
abbrev iR:=@List.mem_of_getElem?
abbrev h_:=@PySem.Heap.get?_push_size
abbrev cg:=@Nat.le_refl
abbrev kI:=@List.getElem?_eq_getElem
abbrev dH:=@Nat.ne_of_lt
abbrev iU:=@List.length_cons
abbrev jx:=@List.mem_cons_self
abbrev jy:=@List.length_append
abbrev dB:=@PySem.wpAny_mono
abbrev kJ:=@Array.length_toList
abbrev oN:=@List.getD_eq_getElem?_getD
abbrev lZ:=@List.getElem?_set_ne
abbrev jz:=@List.mem_append
abbrev qm:=@List.getElem?_eq_none_iff
abbrev oO:=@Option.map_eq_some_iff
abbrev kO:=@List.lookup_cons
abbrev uX:=@PyProof.Rows.slot_tuple_getitem
abbrev jq:=@List.mem_cons
abbrev mj:=@List.all_eq_true
abbrev jP:=@Nat.lt_irrefl
abbrev oR:=@Bool.false_eq_true
abbrev kW:=@PySem.wpAny_holding
abbrev qp:=@PySem.Heap.get?_update_ne
abbrev oU:=@List.getElem?_map
abbrev nW:=@List.length_map
abbrev nY:=@List.length_set
abbrev uY:=@Option.bind_eq_some_iff
abbrev kY:=@Nat.le_trans
abbrev uZ:=@List.getElem?_set_self
abbrev u0:=@PySem.Heap.get?_update_other
abbrev qu:=@PySem.wpAny_newObj_type
abbrev qw:=@of_decide_eq_true
abbrev oV:=@decide_eq_false
abbrev lK:=@Nat.le_of_lt
abbrev nZ:=@PySem.wpAny_standAt
abbrev vX:=@List.getElem?_replicate
abbrev rE:=@Nat.lt_succ_of_lt
abbrev u5:=@PySem.mem_of_lookup
abbrev vY:=@List.length_replicate
abbrev u6:=@PySem.Obj.data_mapFields
abbrev vZ:=@List.mem_append_left
abbrev u9:=@PySem.wpAny_truthy_bool
abbrev rF:=@PySem.wpAny_passesOwn
abbrev rG:=@List.nodup_cons
abbrev u_:=@PySem.Heap.get?_push_ne
abbrev oW:=@Nat.ne_of_gt
abbrev n6:=@Nat.zero_le
abbrev vd:=@beq_self_eq_true
abbrev zT:=@PySem.W.cellsFrom_some
abbrev BW:=@PyProof.Rows.callWith_type1
abbrev zU:=@PySem.Heap.get?_update_self
abbrev rH:=@PyProof.Rows.listUpdate_at
abbrev rJ:=@List.all_cons
abbrev v7:=@decide_eq_true_eq
abbrev zV:=@PySem.Heap.get?_none_of_le
abbrev v8:=@List.length_take
abbrev v9:=@PySem.Heap.size_update
abbrev qx:=@PySem.sizeLine_eq
abbrev BX:=@Option.isSome_iff_exists
abbrev BZ:=@PySem.F.args_tuple_add_2
abbrev lM:=@congrArg
abbrev zW:=@Bool.false_ne_true
abbrev wg:=@List.length_nil
abbrev zX:=@PySem.wpAny_Call_Name_kw
abbrev B_:=@PySem.F.entry_tuple_add
abbrev lN:=@if_false
abbrev zY:=@Nat.lt_of_le_of_lt
abbrev Ca:=@PySem.F.slot_tuple_add
abbrev rK:=@Nat.le_succ
abbrev wj:=@List.nodup_nil
abbrev Cd:=@PySem.Obj.isFreed_of_fields
abbrev zZ:=@Nat.le_of_not_lt
abbrev Ce:=@Array.toArray_toList
abbrev wk:=@List.map_cons
abbrev rM:=@beq_iff_eq
abbrev Cg:=@List.filterMap_cons
abbrev z_:=@List.append_nil
abbrev vf:=@PySem.wpAny_field
abbrev Cj:=@List.zip_cons_cons
abbrev wu:=@PySem.codeAny_mono
abbrev Ck:=@List.mem_singleton
abbrev vg:=@Nat.not_lt
abbrev Cm:=@bne_self_eq_false
abbrev Cp:=@List.nodup_append
abbrev Cq:=@List.getElem?_inj
set_option Elab.async false
set_option linter.all false
set_option maxRecDepth 100000
set_option maxHeartbeats 4000000
namespace L2
open PySem PySem.Spec PyProof.Rows PySem.W
noncomputable def subIn(K:W.Frag)(C D:Addr):Bool:=PySem.W.ktsIn K C "BaseException"&&PySem.W.ktsIn K D "BaseException"&&match K.lookup C with
 |some ⟨_,_,.cls cd,_⟩=>cd.mro.contains (.ref D)
 |_=>false
noncomputable def wz:List Value:=[.type "ValueError",.type "Exception",.type "BaseException",.type "object"]
noncomputable def mq:List Value->Bool
 |.ref _::r=>mq r
 |l=>l==wz
noncomputable def mz(K:Frag)(C fI:Addr):Bool:=match K.lookup C with
 |some ⟨.type "type",_,.cls cd,sl⟩=>(match cd.mro,sl.toList with
  |.ref C'::bm,[_,_,_,_,some (.builtin n),_]=>C'==C&&n=="ValueError.__new__" && !cd.hasDel&&tailIn K wz bm&&nsOkIn K cd.ns&&nsIn K cd.ns "__init__"==some (some (.ref fI))
  |_,_=>false)
 |_=>false
noncomputable def bf(s:Stmt):Arguments:=match s with
 |.FunctionDef _ a _ _ _ _ _ _ _ _=>a
 |_=>{posonlyargs:=[],args:=[],vararg:=none,kwonlyargs:=[],kw_defaults:=[],kwarg:=none,defaults:=[]}
noncomputable def aM(s:Stmt):List Stmt:=match s with
 |.FunctionDef _ _ b _ _ _ _ _ _ _=>b
 |_=>[]
noncomputable def aA(s:Stmt):Scope:=match s with
 |.FunctionDef _ _ _ _ _ _ sc _ _ _=>sc
 |_=>{kind:=.function,names:=[],isGenerator:=false,isCoroutine:=false}
end L2
namespace Mi
open PySem PySem.Spec PyProof.Rows L2 PySem.W
noncomputable def Aa(n c:Nat):Nat:=if c<n then c else 0
noncomputable def wA(n c e:Nat):Bool:=Aa n e==0||Aa n c==Aa n e
noncomputable def dW(L:List Addr)(c:Nat):Addr:=L.getD (Aa L.length c) 0
noncomputable def LQ(K:W.Frag)(C:Addr):Bool:=
 PySem.W.findIn K (.ref C) "__getattribute__"==some (some (.builtin "BaseException.__getattribute__"))&&PySem.W.findIn K (.ref C) "__getattr__"==some none&&PySem.W.findIn K (.ref C) "__class__"==some (some (.builtin "object.__class__")) &&
 PySem.W.mroIn K C (.type "BaseException")==some true&&PySem.W.mroIn K C (.type "object")==some true&&(PySem.W.clsIn K C).isSome &&
 PySem.W.specialIn K (.builtin "object.__class__") "__get__"==some (some (.builtin "getset_descriptor.__get__"))&&PySem.W.takesIn K (.builtin "object.__class__")==some true
noncomputable def qy(K:W.Frag)(L:List Addr):Bool:=(List.range L.length).all λc=>LQ K (L.getD c 0)&&PySem.W.kitOne K (.ref (L.getD c 0)) (.type "ValueError")==some true &&
 (List.range L.length).all λe=>PySem.W.kitOne K (.ref (L.getD c 0)) (.ref (L.getD e 0))==some (wA L.length c e)
noncomputable def subB(K:W.Frag)(L:List Addr)(d:Nat):Bool:=(List.range L.length).all λc=>!(wA L.length c d)||L2.subIn K (L.getD c 0) (dW L d)
noncomputable def lO(fd:FuncData):FuncData:={fd with kwdefaults:=.none,doc:=.none,pyModule:=.none,annotations:=none,code:=.none,closureTuple:=.none}
noncomputable def n8(x:Str)(st:Stmt):FuncData:=fnOf x x (bf st) (aM st) (aA st) .none .none .none .none none .none .none
noncomputable def oX(K:Frag)(x:Str):Option (Addr×FuncData):=match nsIn K mainGlobals x with
 |some (some (.ref f))=>(match K.lookup f with
  |some ⟨_,_,.func fd,_⟩=>(match codeIn K fd.code x&&keepIn K (.ref f) with
   |true=>some (f,fd)
   |false=>none)
  |_=>none)
 |_=>none
noncomputable def Cr(K:Frag)(x:Str):Addr:=match nsIn K mainGlobals x with
 |some (some (.ref C))=>C
 |_=>0
noncomputable def wB(K:Frag)(x:Str):Bool:=match nsIn K mainGlobals x with
 |some (some (.ref _))=>true
 |_=>false
noncomputable def iu(K:Frag)(p:Str×Int):Bool:=match nsIn K mainGlobals p.1 with
 |some (some (.int i _))=>decide (i=p.2)
 |_=>false
noncomputable def jQ(K:Frag)(x:Str):Bool:=match nsIn K mainGlobals x with
 |some none=>true
 |_=>false
noncomputable def wC(K:Frag)(C:Addr):Bool:=excIn K C [.type "ValueError",.type "Exception",.type "BaseException",.type "object"] "ValueError.__new__"
structure Lk where
 wD:List Str
 rN:List (Str×Int)
 Hg:List Str
 Hj:List Nat
 Hl:List Nat
noncomputable def Lk.L(l:Lk)(K:Frag):List Addr:=l.wD.map (Cr K)
noncomputable def Lk.good(l:Lk)(K:Frag):Bool:=
 l.wD.all (wB K)&&(l.wD.isEmpty||qy K (l.L K))&&l.Hj.all (λk=>wC K (dW (l.L K) k))&&l.Hl.all (λk=>subB K (l.L K) k)&&l.rN.all (iu K)&&l.Hg.all (jQ K)
noncomputable def jR(h:Heap):List Addr->Frag
 |[]=>[]
 |a::r=>match h.get? a with
  |some o=>(a,o)::jR h r
  |none=>jR h r
noncomputable def rO(q:Str)(st:Stmt):FuncData:=fnOf "__init__" q (bf st) (aM st) (aA st) .none .none .none .none none .none .none
noncomputable def wF(K:Frag)(C:Addr):Option FuncData:=match clsIn K C with
 |some cd=>(match nsIn K cd.ns "__init__" with
  |some (some (.ref f))=>(match K.lookup f with
   |some ⟨.type "function",_,.func fd,_⟩=>(match codeIn K fd.code fd.qualname&&mz K C f&&mq cd.mro&&cd.hasDict with
    |true=>some fd
    |false=>none)
   |_=>none)
  |_=>none)
 |none=>none
noncomputable def setB(K:Frag)(C:Addr)(fs:List Str):Bool:=findIn K (.ref C) "__setattr__"==some (some (.builtin "object.__setattr__"))&&fs.all (λf=>findIn K (.ref C) f==some none)
noncomputable def Ab(K:Frag)(C:Addr)(f:Str):Bool:=findIn K (.ref C) "__getattribute__"==some (some (.builtin "BaseException.__getattribute__"))&&findIn K (.ref C) "__getattr__"==some none&&mroIn K C (.type "BaseException")==some true&&findIn K (.ref C) f==some none&&hasDictIn K C
structure oY where
 c:Nat
 q:Str
 st:Stmt
 fs:List Str
noncomputable def jT(o:Obj):Bool:=match o with
 |⟨.none,none,.fields vs,sl⟩=>vs.isEmpty&&sl.isEmpty
 |_=>false
noncomputable def wG:Nat->List Obj->Frag
 |_,[]=>[]
 |i,o::r=>match o.isFreed||jT o with
  |true=>wG (i+1) r
  |false=>(i,o)::wG (i+1) r
noncomputable def aX(h:Heap):Frag:=jR h [mainGlobals]++(wG 0 h.objs.toList).reverse
noncomputable def iV(fs:List (Str×Stmt))(ms:List oY)(xs:List (Nat×Str))(l:Lk)(s:Shared):List (Option FuncData)×List (Option FuncData)×Bool:=
 (fs.map (λp=>(oX (aX s.heap) p.1).map (λq=>lO q.2)),ms.map (λm=>(wF (aX s.heap) (dW (l.L (aX s.heap)) m.c)).map lO),
  l.good (aX s.heap)&&ms.all (λm=>setB (aX s.heap) (dW (l.L (aX s.heap)) m.c) m.fs)&&xs.all (λx=>Ab (aX s.heap) (dW (l.L (aX s.heap)) x.1) x.2))
noncomputable def jA(fs:List (Str×Stmt))(ms:List oY)(w:World):List (Option FuncData)×List (Option FuncData)×Bool:=(fs.map (λp=>some (n8 p.1 p.2)),ms.map (λm=>some (rO m.q m.st)),true)
noncomputable def Ac(fs:List (Str×Stmt))(s:Shared):List (Option FuncData):=fs.map (λp=>(oX (aX s.heap) p.1).map (λq=>lO q.2))
noncomputable def Ho(ms:List oY)(xs:List (Nat×Str))(l:Lk)(s:Shared):List (Option FuncData)×Bool:=(ms.map (λm=>(wF (aX s.heap) (dW (l.L (aX s.heap)) m.c)).map lO),
  l.good (aX s.heap)&&ms.all (λm=>setB (aX s.heap) (dW (l.L (aX s.heap)) m.c) m.fs)&&xs.all (λx=>Ab (aX s.heap) (dW (l.L (aX s.heap)) x.1) x.2))
theorem LR{p q:Program}{loose:List Str}{Xt:Shared->Bool}{N:Nat}{fs1 kZ:List (Str×Stmt)}{ms:List oY}{xs:List (Nat×Str)}{l:Lk}
  (a:∀w,(openEnds treeTable p w N).map (λs=>openSeen q loose (importedModules p.main.body) Xt true s)=some (openGood q loose))
  (b1:∀w,(openEnds treeTable p w N).map (Ac fs1)=some (fs1.map λp=>some (n8 p.1 p.2)))
  (b2:∀w,(openEnds treeTable p w N).map (Ac kZ)=some (kZ.map λp=>some (n8 p.1 p.2)))
  (c:∀w,(openEnds treeTable p w N).map (Ho ms xs l)=some (ms.map (λm=>some (rO m.q m.st)),true)):LeftO p q loose Xt (iV (fs1++kZ) ms xs l) (jA (fs1++kZ) ms) N:=by
 intro w;have a:=a w;have b1:=b1 w;have b2:=b2 w;have c:=c w;cases e:openEnds treeTable p w N with
 |none=>rw[e] at a;cases a
 |some s=>
  rw[e] at a b1 b2 c;have a:openSeen q loose (importedModules p.main.body) Xt true s=openGood q loose:=dG a;have b1:=dG b1;have b2:=dG b2;have c:=dG c;have c1:=lM Prod.fst c;have c2:=lM Prod.snd c;show some (_,iV (fs1++kZ) ms xs l s)=_;rw[a];have:iV (fs1++kZ) ms xs l s=jA (fs1++kZ) ms w:=by
   unfold iV jA;rw[List.map_append,List.map_append];have b1:List.map _ fs1=List.map _ fs1:=b1;have b2:List.map _ kZ=List.map _ kZ:=b2;rw[b1,b2];exact Prod.ext rfl (Prod.ext c1 c2)
  rw[this]
noncomputable def gQ(o:Obj):Option Value:=match o.data with
 |.fields vs=>(match (vs[1]? : Option Value) with
  |some (.str q _)=>(match q=="plain_rings" with
   |true=>vs[11]?
   |false=>none)
  |_=>none)
 |_=>none
noncomputable def bmB(K:Frag):Bool:=match nsIn K mainGlobals "__builtins__" with
 |some (some (.ref bm))=>(match K.lookup bm with
  |some ⟨.type "module",some d,.plain,_⟩=>d==builtinsNs&&bm != builtinsNs&&bm != mainGlobals
  |_=>false)
 |_=>false
noncomputable def wH(h:Heap)(P:Addr):Bool:=match h.get? P with
 |some o=>jT o
 |none=>false
noncomputable def rP(K:Frag)(h:Heap):Bool:=match oX K "plain_rings" with
 |some q=>(match q.2.code with
  |.ref c=>(match (K.lookup c).bind gQ with
   |some (.ref P)=>codeHdIn K c P&&(K.lookup P).isNone&&wH h P&&bmB K&&K.all (λr=>match gQ r.2 with
    |some (.ref p)=>p==P
    |_=>true)
   |_=>false)
  |_=>false)
 |none=>false
noncomputable def iW(s:Shared):Bool:=rP (aX s.heap) s.heap
theorem L_{p q:Program}{loose:List Str}{Xt:Shared->Bool}{N:Nat}{α:Type}{Yf:Shared->α}{Ya:World->α}(h:LeftO p q loose Xt Yf Ya N)(e:∀w,(openEnds treeTable p w N).map iW=some true) :
  LeftO p q loose Xt (λs=>(Yf s,iW s)) (λw=>(Ya w,true)) N:=by
 intro w;have h:=h w;have e:=e w;cases z:openEnds treeTable p w N with
 |none=>rw[z] at h;cases h
 |some s=>
  rw[z] at h e;have h:=dG h;have e:iW s=true:=dG e;show some (_,(Yf s,iW s))=_;have h1:openSeen q loose (importedModules p.main.body) Xt true s=openGood q loose:=lM Prod.fst h;have h2:Yf s=Ya w:=lM Prod.snd h;rw[e,h1,h2]
end Mi
namespace cI
open PySem PySem.Spec PyProof.Rows PySem.W L2 Mi
noncomputable def top(i:Nat):Stmt:=PySem.Challenge.pw_ringhues_k16_plain_rings.main.body.getD i (.Pass ⟨0,0,0,0⟩)
noncomputable def fs1:List (Str×Stmt):=(("lowest_terms" : Str),top 2)::(("plain_rings" : Str),top 5)::(("is_plain" : Str),top 6)::(("_law_cell" : Str),top 8)::(("_law_pen" : Str),top 9)::[]
noncomputable def kZ:List (Str×Stmt):=(("_law_draw" : Str),top 10)::(("_law_whole" : Str),top 11)::(("_law_plain" : Str),top 12)::(("_law_right" : Str),top 13)::(("law" : Str),top 14)::[]
noncomputable abbrev fs:List (Str×Stmt):=fs1++kZ
noncomputable def lk:Lk:=⟨[],[("MOST_SPOTS",24),("SO_OFTEN",27720)],["all","bool","divmod","int","isinstance","len","list","max","min","range","sorted","tuple"],[],[]⟩
noncomputable def ms:List oY:=[]
noncomputable def xs:List (Nat×Str):=[]
noncomputable abbrev pv:Program:=PySem.Challenge.pw_ringhues_k16_plain_rings
noncomputable def qv:Program:={pv with main:={pv.main with body:=[pv.main.body.getD 14 (.Pass ⟨0,0,0,0⟩)]}}
noncomputable def loose:List Str:=(["MOST_SPOTS","lowest_terms","SO_OFTEN","plain_rings","is_plain","_law_cell","_law_pen","_law_draw","_law_whole","_law_plain","_law_right"]:List String).map Str.ofString
theorem Ma(w:World):(openEnds treeTable pv w 20000).map (λs=>openSeen qv loose (importedModules pv.main.body) (λs=>xlAt qv [] s&&recOk [] s) true s)=some (openGood qv loose):=by
 kernel_rfl
theorem Mf(w:World):(openEnds treeTable pv w 20000).map (Ac fs1)=some (fs1.map λp=>some (n8 p.1 p.2)):=by
 kernel_rfl
theorem Mg(w:World):(openEnds treeTable pv w 20000).map (Ac kZ)=some (kZ.map λp=>some (n8 p.1 p.2)):=by
 kernel_rfl
theorem Mh(w:World):(openEnds treeTable pv w 20000).map (Ho ms xs lk)=some (ms.map (λm=>some (rO m.q m.st)),true):=by
 kernel_rfl
theorem ws:PySem.Challenge.rw_ringhues_k16_plain_rings.wellSaid=true:=by
 kernel_rfl
theorem Mj:LeftO pv qv loose (λs=>xlAt qv [] s&&recOk [] s) (iV fs ms xs lk) (jA fs ms) 20000:=LR Ma Mf Mg Mh
theorem Ml(w:World):(openEnds treeTable pv w 20000).map iW=some true:=by
 kernel_rfl
theorem left:LeftO pv qv loose (λs=>xlAt qv [] s&&recOk [] s) (λs=>(iV fs ms xs lk s,iW s)) (λw=>(jA fs ms w,true)) 20000:=L_ Mj Ml
end cI
namespace L2
open PySem PySem.Spec PyProof.Rows
theorem fj{α:Sort u}{β:Sort v}{A B C:α->β->Prop}{P:Prop}(h:∃x y,A x y/\B x y/\C x y)(k:∀x y,A x y->B x y->C x y->P):P:=by
 obtain⟨x,y,a,b,c⟩:=h;exact k x y a b c
theorem Hq{α:Sort u}{β:Sort v}{γ:Sort w}{A B:α->β->Prop}{C D:α->β->γ->Prop}{P:Prop}(h:∃x y,A x y/\B x y/\∃z,C x y z/\D x y z)(k:∀x y,A x y->B x y->∀z,C x y z->D x y z->P):P:=by
 obtain⟨x,y,a,b,z,c,d⟩:=h;exact k x y a b z c d
theorem oZ{α:Sort u}{A B:α->Prop}{P:Prop}(h:∃x,A x/\B x)(k:∀x,A x->B x->P):P:=by
 obtain⟨x,a,b⟩:=h;exact k x a b
noncomputable abbrev Key:=Sum Int Str
noncomputable def qz:Key->Value->Bool
 |.inl k,v=>Value.isInt k v
 |.inr x,v=>Value.isStrOf x v
noncomputable def Cu(w:World):Key->Int
 |.inl k=>hashInt k
 |.inr x=>hashStr w x
theorem o7:∀{k:Key} {v:Value},qz k v=true->(∃i t,k=Sum.inl i/\v=Value.int i t)\/(∃x t,k=Sum.inr x/\v=Value.str x t)
 |.inl i,v,h=>by
  obtain⟨t,e⟩:=Value.isInt_shape (k:=i) (v:=v) h;exact .inl ⟨i,t,rfl,e⟩
 |.inr x,v,h=>by
  obtain⟨t,e⟩:=Value.isStrOf_shape (x:=x) (v:=v) h;exact .inr ⟨x,t,rfl,e⟩
theorem Mp(a b:Int):decide ((Sum.inl a:Key)=Sum.inl b)=(a==b):=by
 by_cases e:a=b
 ·subst e;simp
 ·have h:¬(Sum.inl a:Key)=Sum.inl b:=λq=>e (Sum.inl.inj q);rw[oV h];exact(beq_eq_false_iff_ne.mpr e).symm
theorem Mq(a b:Str):decide ((Sum.inr a:Key)=Sum.inr b)=decide (a=b):=by
 by_cases e:a=b
 ·subst e;simp
 ·have h:¬(Sum.inr a:Key)=Sum.inr b:=λq=>e (Sum.inr.inj q);rw[oV h,oV e]
theorem Mr(a:Int)(b:Str):decide ((Sum.inl a:Key)=Sum.inr b)=false:=oV (λq=>nomatch q)
theorem Ms(a:Str)(b:Int):decide ((Sum.inr a:Key)=Sum.inl b)=false:=oV (λq=>nomatch q)
noncomputable def jU(prog:Program)(w:World):PySem.KeyKind prog w Key where
 is:=qz
 hash:=Cu w
 inj:=λv a b ha hb=>by
  rcases o7 ha with ⟨i,t,rfl,rfl⟩|⟨x,t,rfl,rfl⟩
  ·rcases o7 hb with ⟨j,u,rfl,e⟩|⟨y,u,rfl,e⟩
   ·injection e with e1 _;rw[e1]
   ·exact nomatch e
  ·rcases o7 hb with ⟨j,u,rfl,e⟩|⟨y,u,rfl,e⟩
   ·exact nomatch e
   ·injection e with e1 _;rw[e1]
 byValue:=λk v h=>by
  rcases o7 h with ⟨i,t,rfl,rfl⟩|⟨x,t,rfl,rfl⟩<;>rfl
 pyHash:=λhv h=>by
  rcases o7 hv with ⟨i,t,rfl,rfl⟩|⟨x,t,rfl,rfl⟩
  ·exact wpAny_pyHash_int h
  ·exact wpAny_pyHash_str h
 eqBool:=λhu hv h=>by
  rcases o7 hu with ⟨i,t,rfl,rfl⟩|⟨x,t,rfl,rfl⟩
  ·rcases o7 hv with ⟨j,u,rfl,rfl⟩|⟨y,u,rfl,rfl⟩
   ·rw[Mp] at h;exact wpAny_eqBool_int h
   ·rw[Mr] at h;exact SeqAt.EqAt.int_str i t y u _ _ _ _ h
  ·rcases o7 hv with ⟨j,u,rfl,rfl⟩|⟨y,u,rfl,rfl⟩
   ·rw[Ms] at h;exact SeqAt.EqAt.str_int x t j u _ _ _ _ h
   ·rw[Mq] at h;exact wpAny_eqBool_str h
 «strs»:=λk x t v h=>by
  rcases o7 h with ⟨i,u,rfl,e⟩|⟨y,u,rfl,e⟩
  ·exact nomatch e
  ·injection e with e1 _;subst e1;cases v<;>rfl
inductive V where
 |non|bl (b:Bool)|int (i:Int)|str (x:Str)|Cv (b:Array UInt8)|flt (b:UInt64)|ref (a:Addr)|ty (n:String)
 deriving DecidableEq
noncomputable def RelV:V->Value->Prop
 |.non,u=>u=Value.none
 |.bl b,u=>u=Value.bool b
 |.int i,u=>∃t,u=Value.int i t
 |.str x,u=>∃t,u=Value.str x t
 |.Cv b,u=>∃t,u=Value.bytes b t
 |.flt b,u=>∃t,u=Value.float b t
 |.ref a,u=>u=Value.ref a
 |.ty n,u=>u=Value.type n
noncomputable abbrev Vals:List V->List Value->Prop:=Paired RelV
theorem Vals.length{xs:List V}{us:List Value}(r:Vals xs us):xs.length=us.length:=Paired.length r
theorem Vals.get:∀{xs:List V} {us:List Value} {i:Nat} {x:V},Vals xs us->xs[i]?=some x->∃u,us[i]?=some u/\RelV x u
 |_,_,_,_,.nil,e=>by simp at e
 |_,_,0,_,.cons r _,e=>by simp at e;subst e;exact⟨_,rfl,r⟩
 |_,_,i+1,x,.cons _ t,e=>by
  obtain⟨u,h1,h2⟩:=Vals.get (i:=i) (x:=x) t (by simpa using e);exact⟨u,by simpa using h1,h2⟩
theorem Vals.set{x:V}{u:Value}(r:RelV x u):∀{xs:List V} {us:List Value} (i:Nat),Vals xs us->Vals (xs.set i x) (us.set i u)
 |_,_,_,.nil=>.nil
 |_,_,0,.cons _ t=>.cons r t
 |_,_,i+1,.cons q t=>.cons q (Vals.set r i t)
theorem Vals.append{xs ys:List V}{us ws:List Value}(h:Vals xs us)(s:Vals ys ws):Vals (xs++ys) (us++ws):=by
 induction h with
 |nil=>exact s
 |cons r _ ih=>exact .cons r ih
theorem Vals.take:∀{xs:List V} {us:List Value} (n:Nat),Vals xs us->Vals (xs.take n) (us.take n)
 |_,_,0,_=>.nil
 |_,_,_+1,.nil=>.nil
 |_,_,n+1,.cons r t=>.cons r (Vals.take n t)
theorem Vals.drop:∀{xs:List V} {us:List Value} (n:Nat),Vals xs us->Vals (xs.drop n) (us.drop n)
 |_,_,0,r=>r
 |_,_,_+1,.nil=>.nil
 |_,_,n+1,.cons _ t=>Vals.drop n t
noncomputable def wI:Option V->Option Value->Prop
 |some v,some u=>RelV v u
 |none,none=>True
 |_,_=>False
noncomputable def KV{κ:Type}:List (κ×V)->List (κ×Value)->Prop:=Paired λ(p:κ×V) (q:κ×Value)=>p.1=q.1/\RelV p.2 q.2
noncomputable def kV:Key->V
 |.inl i=>.int i
 |.inr x=>.str x
inductive HO where
 |lst (xs:List V)
 |tup (xs:List V)
 |dK (kvs:List (Key×V))|dT (kvs:List (List Key×V))
 |set (S:Int->Bool) (n:Nat)
 |ins (C dx:Addr) (fs:List (Str×V))
 |own (x:Addr)
 |xd (fs:List (Str×V))
 |met (f x:Addr)
 |rng (lo hi:Int)
 |iY (o:Obj) (u:HO)
 |gR (ps:Array Value)
 |ext (U:Heap->Prop)
noncomputable abbrev Hp:=Addr->Option HO
noncomputable def upd(H:Hp)(a:Addr)(o:HO):Hp:=λb=>if b=a then some o else H b
theorem gU{H:Hp}{a:Addr}{o:HO}:upd H a o a=some o:=by unfold upd;rw[if_pos rfl]
theorem bA{H:Hp}{a b:Addr}{o:HO}(h:b≠a):upd H a o b=H b:=by unfold upd;rw[if_neg h]
theorem Hr{H:Hp}{a:Addr}{o u:HO}:upd (upd H a o) a u=upd H a u:=by
 funext b;unfold upd;split<;>rfl
theorem o8{H:Hp}{a b:Addr}{o:HO}(h:H a=some o)(h':H b=none):a≠b:=by
 intro e;subst e;rw[h] at h';cases h'
section
variable (P:Program)(w:World)
noncomputable def bw(H:Hp)(h:Heap)(a:Addr):HO->Prop
 |.lst xs=>xs.length<=sizeLine/\∃(its:List Value) (n:Nat),Vals xs its/\h.get? a=some {cls:=.type "list",data:=.seq its.toArray n}
 |.tup xs=>xs.length<=sizeLine/\∃its:List Value,Vals xs its/\IsTup h a its.toArray
 |.dK kvs=>kvs.length<=sizeLine/\(a==sysModules)=false/\∃vs,KV kvs vs/\h.DictOf (jU P w) a vs
 |.dT kvs=>kvs.length<=sizeLine/\(a==sysModules)=false/\∃xs:List (List Key×Addr×Value),
   Paired (λ(p:List Key×V) (q:List Key×Addr×Value)=>p.1=q.1/\H q.2.1=some (.tup (p.1.map kV))/\RelV p.2 q.2.2) kvs xs /\
   ∃o es ep,h.get? a=some o/\o.ExactDict/\o.data=.dict es ep/\es.toList=xs.map (entryOfKey (tupleKind (jU P w)))/\(xs.map (·.1)).Nodup
 |.set S n=>h.SetOf (intKind P w) a S n
 |.ins C dx fs=>H dx=some (.own a)/\fs.length<=1000/\dx≠a/\h.get? a=some (PySem.W.instObj C dx) /\
   ∃mA,h.Ns1 dx mA/\(∀f,wI (fs.lookup f) (mA f))/\PySem.Within mA (fs.map (·.1))
 |.own _=>∃o,h.get? a=some o
 |.xd fs=>∃mA,h.Ns1 a mA/\∀f,wI (fs.lookup f) (mA f)
 |.rng lo hi=>∃t u v,h.get? a=some {cls:=.type "range",data:=.fields #[.int lo t,.int hi u,.int 1 v]}
 |.iY o u=>h.get? a=some o/\bw H h a u
 |.gR ps=>h.get? a=some {cls:=.none,data:=.fields ps}
 |.met f x=>h.get? a=some (PySem.W.methodObj (.ref f) (.ref x))
 |.ext U=>U h/\(∃o,h.get? a=some o)/\∀h1 h2:Heap,U h1->(∀o,h1.get? a=some o->h2.get? a=some o)->U h2
def dX(H:Hp)(h:Heap):Prop:=∀a o,H a=some o->bw P w H h a o
end
section
variable {P:Program}{w:World}{H H':Hp}{h h':Heap}{a:Addr}{o:HO}
theorem bw.lt(x:bw P w H h a o):a<h.objs.size:=by
 cases o with
 |lst xs=>obtain⟨_,_,_,_,e⟩:=x;exact bI e
 |tup xs=>obtain⟨_,_,_,p⟩:=x;exact p.lt
 |dK kvs=>obtain⟨_,_,_,_,o,_,_,e,_⟩:=x;exact bI e
 |dT kvs=>obtain⟨_,_,_,_,o,_,_,e,_⟩:=x;exact bI e
 |set S n=>obtain⟨o,_,_,_,e,_⟩:=x;exact bI e
 |ins C dx fs=>obtain⟨_,_,_,e,_⟩:=x;exact bI e
 |own y=>obtain⟨_,e⟩:=x;exact bI e
 |xd fs=>obtain⟨_,⟨_,_,_,e,_⟩,_⟩:=x;exact bI e
 |rng lo hi=>obtain⟨_,_,_,e⟩:=x;exact bI e
 |iY ob u=>obtain⟨e,_⟩:=x;exact bI e
 |gR ps=>exact bI (show h.get? a=some _ from x)
 |met f y=>exact bI (show h.get? a=some _ from x)
 |ext U=>obtain⟨_,⟨_,e⟩,_⟩:=x;exact bI e
theorem Hs{α β:Type}{F G:α->β->Prop}:∀{l₁:List α} {l₂:List β},Paired F l₁ l₂->(∀a b,F a b->G a b)->Paired G l₁ l₂
 |_,_,.nil,_=>.nil
 |_,_,.cons r t,f=>.cons (f _ _ r) (Hs t f)
theorem bw.stay(x:bw P w H h a o)(k:∀b u,(b=a\/H b=some (.own a))->h.get? b=some u->h'.get? b=some u)
  (ho:∀b,H b=some (.own a)->H' b=some (.own a)) (ht:∀b xs,H b=some (.tup xs)->H' b=some (.tup xs)):bw P w H' h' a o:=by
 induction o with
 |lst xs=>obtain⟨z,its,n,r,e⟩:=x;exact⟨z,its,n,r,k _ _ (.inl rfl) e⟩
 |tup xs=>obtain⟨z,its,r,ob,e,c⟩:=x;exact⟨z,its,r,ob,k _ _ (.inl rfl) e,c⟩
 |dK kvs=>obtain⟨z,y,vs,r,ob,es,ep,e,c⟩:=x;exact⟨z,y,vs,r,ob,es,ep,k _ _ (.inl rfl) e,c⟩
 |dT kvs=>
  obtain⟨z,y,xs,r,ob,es,ep,e,c⟩:=x;exact⟨z,y,xs,Hs r λp q z=>⟨z.1,ht _ _ z.2.1,z.2.2⟩,ob,es,ep,k _ _ (.inl rfl) e,c⟩
 |set S n=>obtain⟨ob,es,ep,t,e,c⟩:=x;exact⟨ob,es,ep,t,k _ _ (.inl rfl) e,c⟩
 |ins C dx fs=>
  obtain⟨d,z,ne,e,mA,⟨od,es,ep,e2,c⟩,r⟩:=x;exact⟨ho _ d,z,ne,k _ _ (.inl rfl) e,mA,⟨od,es,ep,k _ _ (.inr d) e2,c⟩,r⟩
 |own y=>obtain⟨ob,e⟩:=x;exact⟨ob,k _ _ (.inl rfl) e⟩
 |xd fs=>obtain⟨mA,⟨od,es,ep,e,c⟩,r⟩:=x;exact⟨mA,⟨od,es,ep,k _ _ (.inl rfl) e,c⟩,r⟩
 |rng lo hi=>obtain⟨t,u,v,e⟩:=x;exact⟨t,u,v,k _ _ (.inl rfl) e⟩
 |iY ob u ih=>obtain⟨e,q⟩:=x;exact⟨k _ _ (.inl rfl) e,ih q⟩
 |gR ps=>
  have e:h.get? a=some {cls:=.none,data:=.fields ps}:=x;show h'.get? a=some {cls:=.none,data:=.fields ps};exact k a _ (.inl rfl) e
 |met f y=>
  have e:h.get? a=some (PySem.W.methodObj (.ref f) (.ref y)):=x;show h'.get? a=some (PySem.W.methodObj (.ref f) (.ref y));exact k a _ (.inl rfl) e
 |ext U=>obtain⟨p,⟨o,e⟩,st⟩:=x;exact⟨st _ _ p λo q=>k _ _ (.inl rfl) q,⟨o,k _ _ (.inl rfl) e⟩,st⟩
theorem dX.lt(x:dX P w H h)(e:H a=some o):a<h.objs.size:=(x a o e).lt
theorem dX.fresh(x:dX P w H h)(e:h.objs.size<=a):H a=none:=by
 cases q:H a with
 |none=>rfl
 |some u=>exact absurd (eZ (x.lt q) e) (jP _)
theorem dX.kept(x:dX P w H h)(k:∀b u,h.get? b=some u->h'.get? b=some u):dX P w H h':=λa o e=>
 (x a o e).stay (λb u _ q=>k b u q) (λ_ q=>q) λ_ _ q=>q
theorem dX.laid(x:dX P w H h)(k:∀b u,h.get? b=some u->h'.get? b=some u)(hp:h.objs.size<=a)(new:bw P w (upd H a o) h' a o):dX P w (upd H a o) h':=λb u e=>by
 have hn:=x.fresh hp;by_cases hb:b=a
 ·subst hb;rw[gU] at e;cases e;exact new
 ·rw[bA hb] at e;exact(x b u e).stay (λc v _ q=>k c v q) (λc q=>by rw[bA (o8 q hn)];exact q) λc xs q=>by rw[bA (o8 q hn)];exact q
end
def Rd(H:Hp)(a:Addr)(u:HO):Prop:=H a=some u\/∃o,H a=some (.iY o u)
theorem Rd.ok{P:Program}{w:World}{H:Hp}{h:Heap}{a:Addr}{u:HO}(r:Rd H a u)(x:dX P w H h):bw P w H h a u:=by
 rcases r with r|⟨o,r⟩
 ·exact x a u r
 ·obtain⟨_,q⟩:=x a _ r;exact q
noncomputable def Ad:Option HO->Prop
 |some (.lst _)=>True
 |some (.dK _)=>True
 |some (.dT _)=>True
 |some (.set _ _)=>True
 |some (.ins _ _ _)=>True
 |some (.ext _)=>True
 |_=>False
section
variable {P:Program}{w:World}{H:Hp}{h h':Heap}{x e:Addr}{o':HO}
theorem dX.write(ok:dX P w H h)(mu:Ad (H x))(he:e=x\/H e=some (.own x))(k:∀b u,b≠e->h.get? b=some u->h'.get? b=some u)(vh:∃u,h'.get? e=some u)
  (new:bw P w (upd H x o') h' x o'):dX P w (upd H x o') h':=λb u q=>by
 have wJ:∀c y,H c=some (.own y)->c≠x:=λc y r z=>by subst z;rw[r] at mu;exact mu
 have Cw:∀c xs,H c=some (.tup xs)->c≠x:=λc xs r z=>by subst z;rw[r] at mu;exact mu
 by_cases hb:b=x
 ·subst hb;rw[gU] at q;cases q;exact new
 ·rw[bA hb] at q;by_cases rQ:b=e
  ·have q':H b=some (.own x):=by
    rcases he with z|z
    ·exact absurd (rQ.trans z) hb
    ·rw[rQ];exact z
   rw[q] at q';cases q';obtain⟨v,hv⟩:=vh;exact⟨v,by rw[rQ];exact hv⟩
  ·refine(ok b u q).stay (λc v hc r=>k c v ?_ r) (λc r=>by rw[bA (wJ c b r)];exact r) λc xs r=>by rw[bA (Cw c xs r)];exact r
   rcases hc with rfl|hc
   ·exact rQ
   ·rintro rfl;rcases he with z|z
    ·exact wJ c b hc z
    ·rw[hc] at z;cases z;exact hb rfl
end
noncomputable def dY:Str:="plain_rings.<locals>.<lambda>"
noncomputable def jV:Bool:=true
def GoodC(H:Hp)(c:Addr):Prop:=∃oc u vs t,H c=some (.iY oc u)/\oc.data=.fields vs/\vs[1]?=some (.str dY t)
inductive cF (H:Hp):List Value->Prop
 |nil:cF H []
 |cons (l m:Int) (c:Addr) (r:List Value):GoodC H c->cF H r->cF H (rawInt l::rawInt m::.ref c::r)
theorem cF.app{H:Hp}{a b:List Value}(x:cF H a)(y:cF H b):cF H (a++b):=by
 induction x with
 |nil=>exact y
 |cons l m c r g _ ih=>exact .cons l m c _ g ih
theorem cF.mono{H H':Hp}(k:∀b o u,H b=some (.iY o u)->H' b=some (.iY o u)){a:List Value}(x:cF H a):cF H' a:=by
 induction x with
 |nil=>exact .nil
 |cons l m c r g _ ih=>
  obtain⟨oc,u,vs,t,e,q⟩:=g;exact .cons l m c _ ⟨oc,u,vs,t,k _ _ _ e,q⟩ ih
noncomputable def fM(K:W.Frag)(c P:Addr):Bool:=match K.lookup c with
 |some o=>(match o.data with
  |.fields vs=>(match (vs[1]? : Option Value) with|some (.str q _)=>q=="plain_rings"|_=>false)&&(match (vs[11]? : Option Value) with|some (.ref p)=>p==P|_=>false)
  |_=>false)
 |none=>false
def rR(K:W.Frag)(H:Hp):Prop:=jV=true->∀c P,fM K c P=true->∃ps,H P=some (.gR ps)/\cF H ps.toList
structure Un(fs ex:List Addr)(H H':Hp)(h h':Heap):Prop where
 keep:∀b o,h.get? b=some o->H b=none->b∉fs->b∉ex->h'.get? b=some o
 slot:∀b o,h.get? b=some o->H b=none->b∈fs->b∉ex->∃sl,h'.get? b=some {o with slots:=sl}
 free:∀b o,h.get? b=some o->H b=none->b∉ex->H' b=none
 there:∀b o,h.get? b=some o->b∉ex->∃o',h'.get? b=some o'
 tups:∀b xs,H b=some (.tup xs)->H' b=some (.tup xs)
 dZ:∀b o u,H b=some (.iY o u)->H' b=some (.iY o u)
 fu:∀b ps,H b=some (.gR ps)->∃more,H' b=some (.gR (ps++more))/\cF H' more.toList
section
variable {fs fs' ex ex':List Addr}{H H1 H2:Hp}{h h1 h2 h':Heap}{a x e:Addr}{o:HO}
theorem Un.any(u:Un fs ex H H1 h h1){b:Addr}{ob:Obj}(q:h.get? b=some ob)(n:H b=none)(hx:b∉ex):∃sl,h1.get? b=some {ob with slots:=sl}:=by
 by_cases hb:b∈fs
 ·exact u.slot b ob q n hb hx
 ·exact⟨ob.slots,u.keep b ob q n hb hx⟩
theorem Un.kept(k:∀b u,h.get? b=some u->h'.get? b=some u):Un fs ex H H h h':=
 ⟨λb ob q _ _ _=>k b ob q,λb ob q _ _ _=>⟨ob.slots,k b ob q⟩,λ_ _ _ n _=>n,λb ob q _=>⟨ob,k b ob q⟩,λ_ _ q=>q,λ_ _ _ q=>q,λ_ ps q=>⟨#[],by rw[q];simp,.nil⟩⟩
theorem Un.refl:Un fs ex H H h h:=Un.kept λ_ _ q=>q
theorem Un.laid(k:∀b u,h.get? b=some u->h'.get? b=some u)(hp:h.objs.size<=a)(hn:H a=none):Un fs ex H (upd H a o) h h' where
 keep:=λb u q _ _ _=>k b u q
 slot:=λb u q _ _ _=>⟨u.slots,k b u q⟩
 free:=λb u q n _=>by rw[bA (dH (eZ (bI q) hp))];exact n
 there:=λb u q _=>⟨u,k b u q⟩
 tups:=λb xs q=>by rw[bA (o8 q hn)];exact q
 dZ:=λb u xs q=>by rw[bA (o8 q hn)];exact q
 fu:=λb ps q=>⟨#[],by rw[bA (o8 q hn),q];simp,.nil⟩
theorem Un.write(mu:Ad (H x))(he:e=x\/H e=some (.own x))(k:∀b u,b≠e->h.get? b=some u->h'.get? b=some u)(vh:∃u,h'.get? e=some u):Un fs ex H (upd H x o) h h':=by
 have hx:∀b,H b=none->b≠x:=λb n z=>by subst z;rw[n] at mu;exact mu
 have hb:∀b,H b=none->b≠e:=λb n z=>by
  subst z;rcases he with r|r
  ·exact hx b n r
  ·rw[n] at r;cases r
 have hm:∀b u,H b=some u->¬Ad (some u)->b≠x:=λb u q nm z=>by subst z;rw[q] at mu;exact nm mu
 refine⟨λb u q n _ _=>k b u (hb b n) q,λb u q n _ _=>⟨u.slots,k b u (hb b n) q⟩,λb u q n _=>by rw[bA (hx b n)];exact n,λb u q _=>?_,
  λb xs q=>by rw[bA (hm b _ q λz=>z)];exact q,λb u xs q=>by rw[bA (hm b _ q λz=>z)];exact q,λb ps q=>⟨#[],by rw[bA (hm b _ q λz=>z),q];simp,.nil⟩⟩
 by_cases rQ:b=e
 ·subst rQ;exact vh
 ·exact⟨u,k b u rQ q⟩
end
noncomputable def Ae(h:Heap)(H:Hp):List Addr:=(List.range h.objs.size).filter λa=>(H a).isSome
noncomputable def iw(h:Heap)(H:Hp):Heap:=PySem.W.hideAll h (Ae h H)
theorem Mt(h:Heap)(H:Hp):(iw h H).objs.size=h.objs.size:=PySem.W.hideAll_size _ _
theorem Mu{h:Heap}{H:Hp}{b:Addr}{o:Obj}(e:h.get? b=some o)(n:H b=none):(iw h H).get? b=some o:=
 PySem.W.hideAll_get _ e λhm=>by
  have q:(H b).isSome=true:=(List.mem_filter.mp hm).2;rw[n] at q;simp at q
theorem Mv{h:Heap}{H:Hp}{b:Addr}{o:Obj}(e:(iw h H).get? b=some o):h.get? b=some o/\H b=none:=by
 have e':h.get? b=some o:=PySem.W.of_hideAll (Ae h H) e;refine⟨e',?_⟩;cases q:H b with
 |none=>rfl
 |some x=>
  have hm:b∈Ae h H:=List.mem_filter.mpr ⟨List.mem_range.mpr (bI e'),by simp[q]⟩;have z:(iw h H).get? b=none:=PySem.W.hideAll_none (Ae h H) hm;rw[z] at e;cases e
structure Mod(K:W.Frag)(mg:Str->Option Value)(base:Heap):Prop where
 rN:K.In base
 glob:base.Ns mainGlobals mg
 blt:∃mb,base.Ns builtinsNs mb/\∀x:Str,x≠"__name__"->mb x=bootBuiltins x
 nolimit:base.NoLimit
structure Cx where
 prog:Program
 w:World
 K:W.Frag
 mg:Str->Option Value
 base:Heap
 A:Around
 N:List Str
 s₀:Shared
 H₀:Hp
 env:Env
 outer:List Env
 stack:List Env
 ex:List Addr
 fn:Str->Bool
 aj:Bool
 pn:List (Addr×Obj)
 xe:Value->Shared->Prop
noncomputable def frs(l:List Env):List Addr:=l.filterMap (·.frame)
noncomputable abbrev Cx.fs(X:Cx):List Addr:=frs X.outer
def Cy(sc:Scope)(x:Str):Prop:=sc.names.lookup x=some .local\/sc.names.lookup x=some .cell\/sc.names.lookup x=some .free
def Loc(sc:Scope)(x:Str):Prop:=sc.names.lookup x=some .local\/sc.names.lookup x=some .cell
def Look(env:Env)(h:Heap)(m:Str->Option Value)(x:Str)(u:Value):Prop:=
 (env.kindOf x=some .local/\m x=some u)\/((env.kindOf x=some .cell\/env.kindOf x=some .free)/\∃c,env.cells.lookup x=some c/\h.IsCell c (some u))
structure Cx.Ok(X:Cx):Prop where
 mod:Mod X.K X.mg X.base
 kind:X.env.scope.kind=.function
 glob:X.env.globals=mainGlobals
 blt:X.env.builtins=builtinsNs
 above:X.s₀.heap.objs.size<=X.env.locals
 inj:∀x y c,X.env.cells.lookup x=some c->X.env.cells.lookup y=some c->x=y
 has:∀x,(X.env.kindOf x=some .cell\/X.env.kindOf x=some .free)->∃c,X.env.cells.lookup x=some c
 cab:∀x c,X.fn x=true->X.env.cells.lookup x=some c->X.s₀.heap.objs.size<=c
 hd:X.aj=true->X.A.handled=none
 frames:X.A.frames=some X.stack
 stk:X.stack=X.outer\/(X.stack=X.env::X.outer/\X.env.frame=some X.env.locals)
 Ht:∀b∈X.ex,b≠X.env.locals/\∀x c,X.env.cells.lookup x=some c->c≠b
 bs:∀b o,X.base.get? b=some o->X.s₀.heap.get? b=some o/\X.H₀ b=none
 qC:X.base.objs.size<=X.s₀.heap.objs.size
 mC:∀b o,X.base.get? b=some o->b∉X.ex
 o9:∀b∈X.ex,b∉X.fs
 fO:X.s₀.heap.FunFrames X.base X.outer
 rT:(∀b∈X.fs,X.H₀ b=none)/\rR X.K X.H₀
structure Inv(X:Cx)(ak:List (Addr×Obj))(Z:List (Option V))(H:Hp)(s:Shared):Prop where
 ok:X.Ok
 os:s.os=X.s₀.os
 bare:AllBare s.gens
 base:Un X.fs X.ex X.H₀ H X.s₀.heap s.heap
 loc:∃m,s.heap.Ns X.env.locals m/\∀(i:Nat) (x:Str) (v:V),X.N[i]?=some x->Z[i]?=some (some v)->Cy X.env.scope x->∃u,RelV v u/\Look X.env s.heap m x u
 cell:∀x c,X.env.cells.lookup x=some c->∃v,s.heap.IsCell c v
 free:H X.env.locals=none
 cJ:∀x c,X.env.cells.lookup x=some c->H c=none
 pin:∀p∈X.pn++ak,s.heap.get? p.1=some p.2/\H p.1=none/\p.1≠X.env.locals/\p.1∉X.fs/\∀v,p.2.data≠.cell v
 hok:dX X.prog X.w H s.heap
 len:Z.length=X.N.length
section
variable {X:Cx}{ak:List (Addr×Obj)}{Z:List (Option V)}{H H':Hp}{s:Shared}{h':Heap}
theorem Cx.Ok.Cz(ok:X.Ok){b:Addr}{o:Obj}(e:X.base.get? b=some o):b∉X.fs:=λhb=>by
 have:=(ok.fO.mem hb).1;rw[e] at this;cases this
theorem Inv.bs(I:Inv X ak Z H s):∀b o,X.base.get? b=some o->s.heap.get? b=some o/\H b=none:=λb o e=>
 ⟨I.base.keep b o (I.ok.bs b o e).1 (I.ok.bs b o e).2 (I.ok.Cz e) (I.ok.mC b o e),I.base.free b o (I.ok.bs b o e).1 (I.ok.bs b o e).2 (I.ok.mC b o e)⟩
theorem Inv.bk(I:Inv X ak Z H s):∀b o,X.base.get? b=some o->s.heap.get? b=some o:=λb o e=>(I.bs b o e).1
theorem Inv.mod(I:Inv X ak Z H s):Mod X.K X.mg X.base:=I.ok.mod
theorem Inv.lQ(I:Inv X ak Z H s):X.K.In s.heap:=I.ok.mod.rN.keeps I.bk
theorem Inv.nolimit(I:Inv X ak Z H s):s.heap.NoLimit:=I.ok.mod.nolimit.keeps I.bk
theorem Inv.lt(I:Inv X ak Z H s):X.env.locals<s.heap.objs.size:=let ⟨_,hn,_⟩:=I.loc;hn.lt
theorem Inv.sz(I:Inv X ak Z H s):X.s₀.heap.objs.size<=s.heap.objs.size:=kY I.ok.above (lK I.lt)
theorem Inv.rU(I:Inv X ak Z H s):rR X.K H:=λon c P hc=>by
 obtain⟨ps,e,g⟩:=I.ok.rT.2 on c P hc;obtain⟨more,e2,g2⟩:=I.base.fu P ps e;exact⟨ps++more,e2,by rw[Array.toList_append];exact(g.mono I.base.dZ).app g2⟩
theorem Inv.o_(I:Inv X ak Z H s){a:Addr}(h:s.heap.objs.size<=a):a∉X.fs:=λhb=>by
 obtain⟨_,o,ho,_⟩:=I.ok.fO.mem hb;exact absurd (eZ (bI ho) (kY I.sz h)) (jP _)
theorem Inv.rW(I:Inv X ak Z H s):∀x c,X.env.cells.lookup x=some c->c≠X.env.locals:=λx c e z=>by
 obtain⟨v,o,ho,hd⟩:=I.cell x c e;obtain⟨m,⟨o',es,ep,mD,Mw,_⟩,_⟩:=I.loc;rw[z,mD] at ho;cases ho;rw[Mw] at hd;cases hd
theorem Inv.fO(I:Inv X ak Z H s):s.heap.FunFrames X.base X.outer:=by
 have all:∀(l:List Env),(∀b∈frs l,b∈X.fs)->X.s₀.heap.FunFrames X.base l->s.heap.FunFrames X.base l:=by
  intro l
  induction l with
  |nil=>intro _ _;trivial
  |cons env r ih=>
   intro hs hl;obtain⟨hk,⟨L,o,hf,hn,ho,hd⟩,hr⟩:=hl;have hL:L∈X.fs:=hs L (by unfold frs;rw[Cg,hf];exact jx);obtain⟨sl,e⟩:=I.base.slot L o ho (I.ok.rT.1 L hL) hL λz=>I.ok.o9 L z hL;exact⟨hk,⟨L,_,hf,hn,e,hd⟩,ih (λb hb=>hs b (by unfold frs;rw[Cg,hf];exact gP _ hb)) hr⟩
 exact all X.outer (λ_ hb=>hb) I.ok.fO
theorem Inv.stack(I:Inv X ak Z H s):s.heap.FunFrames X.base X.stack:=by
 rcases I.ok.stk with e|⟨e,hf⟩
 ·rw[e];exact I.fO
 ·rw[e];obtain⟨m,hn,_⟩:=I.loc;refine .cons (by rw[I.ok.kind];decide) hf hn ?_ I.fO;exact zV (kY I.ok.qC I.ok.above)
theorem Inv.fP(I:Inv X ak Z H s):∀b∈frs X.stack,b∈X.env.locals::X.fs:=λb hb=>by
 rcases I.ok.stk with e|⟨e,hf⟩
 ·rw[e] at hb;exact gP _ hb
 ·rw[e] at hb;unfold frs at hb;rw[Cg,hf] at hb;exact hb
theorem Inv.iy(I:Inv X ak Z H s):∀b∈frs X.stack,H b=none:=λb hb=>by
 rcases jq.mp (I.fP b hb) with e|hb
 ·rw[e];exact I.free
 ·obtain⟨_,o,ho,_⟩:=I.ok.fO.mem hb;exact I.base.free b o ho (I.ok.rT.1 b hb) λz=>I.ok.o9 b z hb
theorem Inv.step{g':Array GenState}{t':Nat}{d':Drawn}{ch:List Addr}(I:Inv X ak Z H s)
  (n_:∀b∈ch,(b∈X.ex\/X.s₀.heap.get? b=none)/\b≠X.env.locals/\(∀x c,X.env.cells.lookup x=some c->c≠b)/\∀p∈X.pn++ak,p.1≠b)
  (keep:∀b o,b≠X.env.locals->b∉X.fs->b∉ch->s.heap.get? b=some o->H b=none->h'.get? b=some o)
  (slot:∀b o,b≠X.env.locals->b∈X.fs->b∉ch->s.heap.get? b=some o->H b=none->∃sl,h'.get? b=some {o with slots:=sl}) (free:∀b o,b∉ch->s.heap.get? b=some o->H b=none->H' b=none)
  (there:∀b o,b∉ch->s.heap.get? b=some o->∃o',h'.get? b=some o')
  (tups:∀b xs,H b=some (.tup xs)->H' b=some (.tup xs)) (dZ:∀b o u,H b=some (.iY o u)->H' b=some (.iY o u)) (fu:∀b ps,H b=some (.gR ps)->∃more,H' b=some (.gR (ps++more))/\cF H' more.toList)
  (ns:∀m,s.heap.Ns X.env.locals m->h'.Ns X.env.locals m) (hok:dX X.prog X.w H' h') (hg:AllBare g') :
  Inv X ak Z H' {s with heap:=h',gens:=g',drawn:=d',toks:=t'}:=by
 have Hu:∀b o,X.s₀.heap.get? b=some o->b≠X.env.locals:=λb o e=>dH (eZ (bI e) I.ok.above);have Af:∀b o,X.s₀.heap.get? b=some o->b∉X.ex->b∉ch:=λb o e hx hb=>by
  rcases(n_ b hb).1 with z|z
  ·exact hx z
  ·rw[e] at z;cases z
 have cellK:∀x c,X.env.cells.lookup x=some c->∀v,s.heap.IsCell c v->h'.IsCell c v:=λx c e v hx=>oZ hx λo ho hd=>by
  have wK:c∉ch:=λz=>(n_ c z).2.2.1 x c e rfl;by_cases hc:c∈X.fs
  ·obtain⟨sl,q⟩:=slot c o (I.rW x c e) hc wK ho (I.cJ x c e);exact⟨_,q,hd⟩
  ·exact⟨o,keep c o (I.rW x c e) hc wK ho (I.cJ x c e),hd⟩
 refine⟨I.ok,I.os,hg,⟨λb o e n hb hx=>?_,λb o e n hb hx=>?_,λb o e n hx=>?_,λb o e hx=>?_,λb xs e=>tups b xs (I.base.tups b xs e),λb o xs e=>dZ b o xs (I.base.dZ b o xs e),λb ps e=>?_⟩,?_,λx c e=>?_,?_,λx c e=>?_,λp hp=>?_,hok,I.len⟩
 ·exact keep b o (Hu b o e) hb (Af b o e hx) (I.base.keep b o e n hb hx) (I.base.free b o e n hx)
 ·obtain⟨sl,e1⟩:=I.base.slot b o e n hb hx;obtain⟨sl',e2⟩:=slot b _ (Hu b o e) hb (Af b o e hx) e1 (I.base.free b o e n hx);exact⟨sl',e2⟩
 ·obtain⟨o',e1⟩:=I.base.there b o e hx;exact free b o' (Af b o e hx) e1 (I.base.free b o e n hx)
 ·obtain⟨o',e1⟩:=I.base.there b o e hx;exact there b o' (Af b o e hx) e1
 ·obtain⟨m1,e1,g1⟩:=I.base.fu b ps e;obtain⟨m2,e2,g2⟩:=fu b _ e1;exact⟨m1++m2,by rw[e2,Array.append_assoc],by rw[Array.toList_append];exact(g1.mono dZ).app g2⟩
 ·obtain⟨m,hn,hl⟩:=I.loc;refine⟨m,ns m hn,λi x v e1 e2 e3=>?_⟩;obtain⟨u,r,l⟩:=hl i x v e1 e2 e3;refine⟨u,r,?_⟩;rcases l with l|⟨k,c,e,z⟩
  ·exact .inl l
  ·exact .inr ⟨k,c,e,cellK x c e _ z⟩
 ·obtain⟨v,z⟩:=I.cell x c e;exact⟨v,cellK x c e v z⟩
 ·obtain⟨m,⟨o,_,_,ho,_⟩,_⟩:=I.loc;exact free _ o (λz=>(n_ _ z).2.1 rfl) ho I.free
 ·obtain⟨v,o,ho,hd⟩:=I.cell x c e;exact free c o (λz=>(n_ c z).2.2.1 x c e rfl) ho (I.cJ x c e)
 ·obtain⟨e,n,ne,nf,d⟩:=I.pin p hp;have wK:p.1∉ch:=λz=>(n_ p.1 z).2.2.2 p hp rfl;exact⟨keep p.1 p.2 ne nf wK e n,free p.1 p.2 wK e n,ne,nf,d⟩
theorem Inv.un{t':Nat}(I:Inv X ak Z H s)(u:Un X.fs [] H H' s.heap h')(hok:dX X.prog X.w H' h'):Inv X ak Z H' {s with heap:=h',toks:=t'}:=by
 obtain⟨m,⟨o,es,ep,ho,r⟩,_⟩:=id I.loc;obtain⟨sl,hL⟩:=u.any ho I.free (by simp);exact I.step (g':=s.gens) (d':=s.drawn) (ch:=[]) (λ_ z=>nomatch z) (λb o _ hb _ e n=>u.keep b o e n hb (by simp)) (λb o _ hb _ e n=>u.slot b o e n hb (by simp)) (λb o _ e n=>u.free b o e n (by simp)) (λb o _ e=>u.there b o e (by simp)) u.tups u.dZ u.fu (λm' hm=>by
  obtain⟨o',es',ep',mD,r'⟩:=hm;rw[ho] at mD;cases mD;exact⟨_,es',ep',hL,r'⟩) hok I.bare
theorem Inv.call{g':Array GenState}{t':Nat}{d':Drawn}{ch:List Addr}(I:Inv X ak Z H s)(u:Un (frs X.stack) ch H H' s.heap h')(hok:dX X.prog X.w H' h')(hg:AllBare g')
  (n_:∀b∈ch,(b∈X.ex\/X.s₀.heap.get? b=none)/\b≠X.env.locals/\(∀x c,X.env.cells.lookup x=some c->c≠b)/\∀p∈X.pn++ak,p.1≠b) :
  Inv X ak Z H' {s with heap:=h',gens:=g',drawn:=d',toks:=t'}:=by
 obtain⟨m,⟨o,es,ep,ho,r⟩,_⟩:=id I.loc;obtain⟨sl,hL⟩:=u.any ho I.free λz=>(n_ _ z).2.1 rfl;exact I.step (ch:=ch) n_ (λb o hL hb hc e n=>u.keep b o e n (λz=>(jq.mp (I.fP b z)).elim hL hb) hc) (λb o _ _ hc e n=>u.any e n hc) (λb o hc e n=>u.free b o e n hc) (λb o hc e=>u.there b o e hc) u.tups u.dZ u.fu (λm' hm=>by
  obtain⟨o',es',ep',mD,r'⟩:=hm;rw[ho] at mD;cases mD;exact⟨_,es',ep',hL,r'⟩) hok hg
theorem Inv.turned{t':Nat}{it:Addr}(I:Inv X ak Z H s)(k:∀b o,b≠it->s.heap.get? b=some o->h'.get? b=some o)(hn:H it=none)(hL:it≠X.env.locals)
  (h1:it∈X.ex\/X.s₀.heap.objs.size<=it) (h2:∀x c,X.env.cells.lookup x=some c->c≠it) (h3:∀p∈X.pn++ak,p.1≠it):Inv X ak Z H {s with heap:=h',toks:=t'}:=by
 have Hv:∀b u,H b=some u->b≠it:=λb u e z=>by rw[z,hn] at e;cases e
 refine I.step (g':=s.gens) (d':=s.drawn) (ch:=[it]) (λb hb=>?_) (λb o _ _ hc e _=>k b o (λz=>hc (by simp[z])) e) (λb o _ _ hc e _=>⟨o.slots,k b o (λz=>hc (by simp[z])) e⟩) (λ_ _ _ _ n=>n)
  (λb o hc e=>⟨o,k b o (λz=>hc (by simp[z])) e⟩) (λ_ _ e=>e) (λ_ _ _ e=>e) (λb ps e=>⟨#[],by rw[e];simp,.nil⟩) (λm hm=>?_) (λb u e=>?_) I.bare
 ·have e:b=it:=by simpa using hb
  subst e;exact⟨h1.imp id λz=>zV z,hL,h2,h3⟩
 ·obtain⟨o,es,ep,ho,r⟩:=hm;exact⟨o,es,ep,k _ o (Ne.symm hL) ho,r⟩
 ·refine(I.hok b u e).stay (λc v hc q=>k c v ?_ q) (λ_ q=>q) λ_ _ q=>q;rcases hc with z|z
  ·rw[z];exact Hv b u e
  ·exact Hv c _ z
theorem Inv.tok(I:Inv X ak Z H s)(t:Nat):Inv X ak Z H {s with toks:=t}:=I.un (h':=s.heap) (t':=t) Un.refl I.hok
theorem Inv.kept{t':Nat}(I:Inv X ak Z H s)(k:∀b u,s.heap.get? b=some u->h'.get? b=some u):Inv X ak Z H {s with heap:=h',toks:=t'}:=I.un (Un.kept k) (I.hok.kept k)
theorem Inv.laid{a:Addr}{o:HO}{t':Nat}(I:Inv X ak Z H s)(k:∀b u,s.heap.get? b=some u->h'.get? b=some u)(hp:s.heap.objs.size<=a)(new:bw X.prog X.w (upd H a o) h' a o) :
  Inv X ak Z (upd H a o) {s with heap:=h',toks:=t'}:=I.un (Un.laid k hp (I.hok.fresh hp)) (I.hok.laid k hp new)
theorem Inv.write{x e:Addr}{o:HO}{t':Nat}(I:Inv X ak Z H s)(mu:Ad (H x))(he:e=x\/H e=some (.own x))(k:∀b u,b≠e->s.heap.get? b=some u->h'.get? b=some u)(vh:∃u,h'.get? e=some u)
  (new:bw X.prog X.w (upd H x o) h' x o):Inv X ak Z (upd H x o) {s with heap:=h',toks:=t'}:=I.un (Un.write mu he k vh) (I.hok.write mu he k vh new)
theorem Inv.fD{qD:List (Addr×Obj)}(I:Inv X ak Z H s)(h:∀p∈qD,s.heap.get? p.1=some p.2/\H p.1=none/\p.1≠X.env.locals/\p.1∉X.fs/\∀v,p.2.data≠.cell v):Inv X qD Z H s:=
 ⟨I.ok,I.os,I.bare,I.base,I.loc,I.cell,I.free,I.cJ,λp hp=>(jz.mp hp).elim (λz=>I.pin p (vZ _ z)) (h p),I.hok,I.len⟩
theorem Hw{N:List Str}(hN:N.Nodup){i j:Nat}{x:Str}(a:N[i]?=some x)(b:N[j]?=some x):i=j:=by
 obtain⟨h1,e1⟩:=gD.mp a;obtain⟨h2,e2⟩:=gD.mp b;exact(List.getElem_inj hN).mp (e1.trans e2.symm)
theorem Hx{M:Model}{A:Around}{E:Value->Shared->Prop}{i:Nat}{x:Str}{v:V}{u:Value}{Q:Unit->Shared->Prop}(I:Inv X ak Z H s)(hN:X.N.Nodup)(hi:X.N[i]?=some x)(hx:Loc X.env.scope x)(r:RelV v u)
  (h:∀s',Inv X ak (Z.set i (some v)) H s'->(∃a,Heap.SameBut a s.heap s'.heap/\(a=X.env.locals\/X.env.cells.lookup x=some a))->Q () s') (hf:X.fn x=true\/X.env.scope.names.lookup x=some .local:=by first|exact .inl rfl|exact .inr rfl|assumption):wpAny M A (storeName X.env x u) Q E s:=by
 obtain⟨m,hn,hl⟩:=id I.loc;have CG:(X.env.scope.kind==.class||(X.env.scope.kind==.module&&X.env.locals != X.env.globals))=false:=by rw[I.ok.kind];rfl
 have Hy:i<Z.length:=by rw[I.len];exact(gD.mp hi).1
 have rW:=I.rW;have tracked:∀{a:Addr} {h':Heap},(∃o,s.heap.get? a=some o/\H a=none)->Heap.SameBut a s.heap h'->dX X.prog X.w H h':=λ{a h'} ha hs b ob e=>by
  obtain⟨_,_,jW⟩:=ha;refine(I.hok b ob e).stay (λc w' hc q=>(hs.2 c ?_).trans q) (λ_ q=>q) λ_ _ q=>q;rintro rfl;rcases hc with rfl|hc
  ·rw[jW] at e;cases e
  ·rw[jW] at hc;cases hc
 rcases hx with hk|hk
 ·refine wpAny_storeName_local hk hn (λh' Ag hs=>?_) CG;obtain⟨oL,_,_,rY,_⟩:=id hn;refine h _ ⟨I.ok,I.os,I.bare,⟨λb o e n hb hx=>?_,λb o e n hb hx=>?_,I.base.free,λb o e hx=>?_,I.base.tups,I.base.dZ,I.base.fu⟩,⟨_,Ag,λj y v' e1 e2 e3=>?_⟩,λy c e=>?_,I.free,I.cJ,λp hp=>?_,tracked ⟨oL,rY,I.free⟩ hs,by simpa using I.len⟩ ⟨_,hs,.inl rfl⟩
  ·exact(hs.2 b (dH (eZ (bI e) I.ok.above))).trans (I.base.keep b o e n hb hx)
  ·obtain⟨sl,e1⟩:=I.base.slot b o e n hb hx;exact⟨sl,(hs.2 b (dH (eZ (bI e) I.ok.above))).trans e1⟩
  ·obtain⟨o',e1⟩:=I.base.there b o e hx;exact⟨o',(hs.2 b (dH (eZ (bI e) I.ok.above))).trans e1⟩
  ·by_cases hj:j=i
   ·subst hj;rw[hi] at e1;cases e1;rw[uZ Hy] at e2;cases e2;exact⟨u,r,.inl ⟨hk,by simp⟩⟩
   ·rw[lZ (Ne.symm hj)] at e2;obtain⟨u',r',q⟩:=hl j y v' e1 e2 e3;refine⟨u',r',?_⟩;rcases q with ⟨k,e⟩|⟨k,c,e,z⟩
    ·refine .inl ⟨k,?_⟩;have:y≠x:=λe=>hj (Hw hN e1 (e▸hi));simp[this,e]
    ·exact .inr ⟨k,c,e,z.sameBut hs (rW y c e)⟩
  ·obtain⟨w',z⟩:=I.cell y c e;exact⟨w',z.sameBut hs (rW y c e)⟩
  ·obtain⟨e,n,ne,nf,d⟩:=I.pin p hp;exact⟨(hs.2 p.1 ne).trans e,n,ne,nf,d⟩
 ·have CJ:X.fn x=true:=by
   rcases hf with z|z
   ·exact z
   ·rw[z] at hk;cases hk
  obtain⟨c,hc⟩:=I.ok.has x (.inl hk);obtain⟨w',z⟩:=I.cell x c hc;refine wpAny_storeName_cell I.ok.kind hk hc z (λh' rZ hs=>?_);obtain⟨oc,wL,CK⟩:=id z;refine h {s with heap:=h'} ⟨I.ok,I.os,I.bare,⟨λb o e n hb hx=>?_,λb o e n hb hx=>?_,I.base.free,λb o e hx=>?_,I.base.tups,I.base.dZ,I.base.fu⟩,⟨m,hn.sameBut hs (Ne.symm (rW x c hc)),λj y v' e1 e2 e3=>?_⟩,λy c' e=>?_,I.free,I.cJ,λp hp=>?_,tracked ⟨oc,wL,I.cJ x c hc⟩ hs,by simpa using I.len⟩ ⟨c,hs,.inr hc⟩
  ·exact(hs.2 b (dH (eZ (bI e) (I.ok.cab x c CJ hc)))).trans (I.base.keep b o e n hb hx)
  ·obtain⟨sl,e1⟩:=I.base.slot b o e n hb hx;exact⟨sl,(hs.2 b (dH (eZ (bI e) (I.ok.cab x c CJ hc)))).trans e1⟩
  ·obtain⟨o',e1⟩:=I.base.there b o e hx;exact⟨o',(hs.2 b (dH (eZ (bI e) (I.ok.cab x c CJ hc)))).trans e1⟩
  ·by_cases hj:j=i
   ·subst hj;rw[hi] at e1;cases e1;rw[uZ Hy] at e2;cases e2;exact⟨u,r,.inr ⟨.inl hk,c,hc,rZ⟩⟩
   ·rw[lZ (Ne.symm hj)] at e2;obtain⟨u',r',q⟩:=hl j y v' e1 e2 e3;refine⟨u',r',?_⟩;rcases q with q|⟨k,c',e,z'⟩
    ·exact .inl q
    ·refine .inr ⟨k,c',e,z'.sameBut hs ?_⟩;rintro rfl;exact hj (Hw hN e1 (I.ok.inj _ _ _ e hc▸hi))
  ·by_cases Hz:c'=c
   ·subst Hz;exact⟨_,rZ⟩
   ·obtain⟨w2,z2⟩:=I.cell y c' e;exact⟨w2,z2.sameBut hs Hz⟩
  ·obtain⟨e,n,ne,nf,d⟩:=I.pin p hp;refine⟨(hs.2 p.1 ?_).trans e,n,ne,nf,d⟩;intro q;rw[q,wL] at e;have q':oc=p.2:=dG e;exact d w' (by rw[<-q'];exact CK)
theorem Ah{M:Model}{A:Around}{E:Value->Shared->Prop}{i:Nat}{x:Str}{v:V}{u:Value}{Q:Unit->Shared->Prop}(I:Inv X ak Z H s)(hN:X.N.Nodup)(hi:X.N[i]?=some x)(hx:Loc X.env.scope x)(r:RelV v u)
  (h:∀s',Inv X ak (Z.set i (some v)) H s'->Q () s') (hf:X.fn x=true\/X.env.scope.names.lookup x=some .local:=by first|exact .inl rfl|exact .inr rfl|assumption):wpAny M A (storeName X.env x u) Q E s:=
 Hx I hN hi hx r (λs' I' _=>h s' I') hf
theorem Inv.call'{s':Shared}{ch:List Addr}(I:Inv X ak Z H s)(ho:s'.os=s.os)(u:Un (frs X.stack) ch H H' s.heap s'.heap)(hok:dX X.prog X.w H' s'.heap)(hg:AllBare s'.gens)
  (n_:∀b∈ch,(b∈X.ex\/X.s₀.heap.get? b=none)/\b≠X.env.locals/\(∀x c,X.env.cells.lookup x=some c->c≠b)/\∀p∈X.pn++ak,p.1≠b):Inv X ak Z H' s':=by
 obtain⟨h',g',d',t',o'⟩:=s';have e:o'=s.os:=ho;subst e;exact I.call (g':=g') (t':=t') (d':=d') u hok hg n_
end
noncomputable abbrev XK:=Value->Option Addr->Hp->Prop
noncomputable abbrev St:=List (Option V)
noncomputable abbrev VK:=V->Hp->Prop
noncomputable abbrev TE:=St->Hp->VK->Prop
noncomputable abbrev TT:=St->Hp->(Bool->Hp->Prop)->Prop
noncomputable abbrev TA:=St->Hp->(List V->Hp->Prop)->Prop
structure Ends where
 nx:St->Hp->Prop
 rt:VK
 bk:St->Hp->Prop:=λ_ _=>False
 ct:St->Hp->Prop:=λ_ _=>False
noncomputable abbrev TS:=Ends->St->Hp->Prop
def EP(X:Cx)(ak:List (Addr×Obj))(Z:St)(Q:VK)(u:Value)(s':Shared):Prop:=∃v H',Inv X ak Z H' s'/\RelV v u/\Q v H'
def TP(X:Cx)(ak:List (Addr×Obj))(Z:St)(Q:Bool->Hp->Prop)(b:Bool)(s':Shared):Prop:=∃H',Inv X ak Z H' s'/\Q b H'
def AP(X:Cx)(ak:List (Addr×Obj))(Z:St)(Q:List V->Hp->Prop)(us:List Value)(s':Shared):Prop:=∃vs H',Inv X ak Z H' s'/\Vals vs us/\Q vs H'
def SP(X:Cx)(ak:List (Addr×Obj))(D:Ends)(f:Flow)(s':Shared):Prop:=
 match f with
 |.next=>∃Z' H',Inv X ak Z' H' s'/\D.nx Z' H'
 |.brk=>∃Z' H',Inv X ak Z' H' s'/\D.bk Z' H'
 |.cont=>∃Z' H',Inv X ak Z' H' s'/\D.ct Z' H'
 |.ret u=>∃v Z' H',Inv X ak Z' H' s'/\RelV v u/\D.rt v H'
def PE(X:Cx)(e:Expr)(t:TE):Prop:=
 ∀(ak:List (Addr×Obj)) (s:Shared) (Z:St) (H:Hp) (Q:VK),Inv X ak Z H s->t Z H Q->wpAny (model X.prog X.w) X.A (eval e X.env) (EP X ak Z Q) X.xe s
def PT(X:Cx)(e:Expr)(t:TT):Prop:=
 ∀(ak:List (Addr×Obj)) (s:Shared) (Z:St) (H:Hp) (Q:Bool->Hp->Prop),Inv X ak Z H s->t Z H Q->wpAny (model X.prog X.w) X.A (isTrue e X.env (eval e X.env)) (TP X ak Z Q) X.xe s
def PW(X:Cx)(e:Expr)(t:TT):Prop:=
 ∀(whole:Sem Value) (ak:List (Addr×Obj)) (s:Shared) (Z:St) (H:Hp) (Q:Bool->Hp->Prop),Inv X ak Z H s->t Z H Q->wpAny (model X.prog X.w) X.A (isTrue e X.env whole) (TP X ak Z Q) X.xe s
theorem Mx{X:Cx}{e:Expr}{t:TT}(h:PW X e t):PT X e t:=h _
def PA(X:Cx)(es:List Expr)(t:TA):Prop:=
 ∀(pos:Pos) (ak:List (Addr×Obj)) (s:Shared) (Z:St) (H:Hp) (Q:List V->Hp->Prop),Inv X ak Z H s->t Z H Q->wpAny (model X.prog X.w) X.A (spliced (backTo pos (starEach es X.env))) (AP X ak Z Q) X.xe s
def PS(X:Cx)(st:Stmt)(t:TS):Prop:=
 ∀(ak:List (Addr×Obj)) (s:Shared) (Z:St) (H:Hp) (D:Ends),Inv X ak Z H s->t D Z H->wpAny (model X.prog X.w) X.A (exec st X.env) (SP X ak D) X.xe s
def jX(X:Cx)(st:List Stmt)(t:TS):Prop:=
 ∀(ak:List (Addr×Obj)) (s:Shared) (Z:St) (H:Hp) (D:Ends),Inv X ak Z H s->t D Z H->wpAny (model X.prog X.w) X.A (execs st X.env) (SP X ak D) X.xe s
theorem aN{α:Type}{t:Sem α}{Q Q':α->Shared->Prop}{M:Model}{A:Around}{E:Value->Shared->Prop}{s:Shared}(h:wpAny M A t Q E s)(hQ:∀a s,Q a s->Q' a s):wpAny M A t Q' E s:=dB h hQ λ_ _ x=>x
section
variable {X:Cx}
noncomputable def CP(i:Nat):TE:=λZ H Q=>∃v,Z[i]?=some (some v)/\Q v H
noncomputable def tC(v:V):TE:=λ_ H Q=>Q v H
theorem Mz{i:Nat}{x:Str}{pos:Pos}(hN:X.N[i]?=some x)(hv:Cy X.env.scope x)(hd:(x==("__debug__" : Str))=false:=by decide)(gG:(x==("__classdict__" : Str))=false:=by decide):PE X (.Name x pos) (CP i):=by
 intro ak s Z H Q I h;obtain⟨v,e,h⟩:=h;obtain⟨m,hn,hl⟩:=I.loc;obtain⟨u,r,l⟩:=hl i x v hN e hv;have fin:EP X ak Z Q u s:=⟨v,H,I,r,h⟩;rcases l with ⟨hk,hm⟩|⟨hk,c,hc,qF⟩
 ·exact wpAny_Name (wpAny_loadName_local I.ok.kind hk hn hm fin) hd
 ·rcases hk with hk|hk
  ·exact wpAny_Name (wpAny_loadName_cell I.ok.kind hk hc qF fin) hd
  ·exact wpAny_Name (wpAny_loadName_free I.ok.kind hk hc qF fin gG) hd
theorem MF{i j pos}:PE X (.Constant (.int i) j pos) (tC (.int i)):=λ_ _ _ H _ I h=>wpAny_Constant_int ⟨.int i,H,I.tok _,⟨_,rfl⟩,h⟩
theorem MJ{b j pos}:PE X (.Constant (.bool b) j pos) (tC (.bl b)):=λ_ _ _ H _ I h=>Constant_bool ⟨.bl b,H,I,rfl,h⟩
theorem MK{j pos}:PE X (.Constant .none j pos) (tC .non):=λ_ _ _ H _ I h=>Constant_none ⟨.non,H,I,rfl,h⟩
def Gl(X:Cx)(x:Str):Prop:=X.env.kindOf x=some .globalImplicit
theorem HB{E:Value->Shared->Prop}{ak:List (Addr×Obj)}{s:Shared}{Z:St}{H:Hp}{x:Str}{u:Value}{pos:Pos}{Q:Value->Shared->Prop}(I:Inv X ak Z H s)(hg:Gl X x)(hm:X.mg x=some u)(h:Q u s)
  (hd:(x==("__debug__" : Str))=false:=by decide):wpAny (model X.prog X.w) X.A (eval (.Name x pos) X.env) Q E s:=
 Calls.Name_function_global I.ok.kind hg (Calls.loadGlobal_global (by rw[I.ok.glob];exact I.mod.glob.keeps I.bk) hm h) hd
theorem vm{E:Value->Shared->Prop}{ak:List (Addr×Obj)}{s:Shared}{Z:St}{H:Hp}{x:Str}{u:Value}{pos:Pos}{Q:Value->Shared->Prop}(I:Inv X ak Z H s)(hg:Gl X x)(hm:X.mg x=none)(hv:bootBuiltins x=some u)(h:Q u s)
  (hn:x≠"__name__":=by decide) (hd:(x==("__debug__" : Str))=false:=by decide):wpAny (model X.prog X.w) X.A (eval (.Name x pos) X.env) Q E s:=by
 obtain⟨mb,h1,h2⟩:=I.mod.blt;exact Calls.Name_function_global I.ok.kind hg (Calls.loadGlobal_builtin (by rw[I.ok.glob];exact I.mod.glob.keeps I.bk) hm (by rw[I.ok.blt];exact h1.keeps I.bk) ((h2 x hn).trans hv) h) hd
theorem MN{x:Str}{v:V}{u:Value}{pos:Pos}(hg:Gl X x)(hm:X.mg x=some u)(r:RelV v u)(hd:(x==("__debug__" : Str))=false:=by decide):PE X (.Name x pos) (tC v):=
 λ_ _ _ H _ I h=>HB I hg hm ⟨v,H,I,r,h⟩ hd
variable {a b:Expr}{ta tb:TE}{pos:Pos}
noncomputable def tB(t:TE):TT:=λZ H Q=>t Z H λx H1=>∃c,x=.bl c/\Q c H1
theorem MP{e:Expr}{t:TE}(h:PE X e t)(he:∀whole,isTrue e X.env whole=(do let v <-whole;standAt e.pos;holding [v] (truthy v)):=by intro _;rfl):PT X e (tB t):=by
 intro ak s Z H Q I hw;refine isTrue_plain (aN (h ak s Z H _ I hw) λv s1 hx=>fj hx λx H1 I1 r1 q1=>?_) (he _);obtain⟨d,rfl,q⟩:=q1;cases r1;exact u9 ⟨H1,I1,q⟩
variable {tA Ai:TT}{rest:List Expr}
noncomputable def CQ(t u:TT):TT:=λZ H Q=>t Z H λc H1=>if c=true then u Z H1 Q else Q false H1
noncomputable def M4(t u:TT):TT:=λZ H Q=>t Z H λc H1=>if c=true then Q true H1 else u Z H1 Q
noncomputable def CT(t:TT):TT:=λZ H Q=>t Z H λc H1=>Q (!c) H1
theorem M5(ha:PT X a tA):PW X (.BoolOp .And [a] pos) tA:=by
 intro wh ak s Z H Q I h;refine isTrue_and (aN (ha ak s Z H Q I h) λc s1 e=>?_);cases c with
 |true=>exact isTrue_and_nil e
 |false=>exact e
theorem M6(ha:PT X a tA):PW X (.BoolOp .Or [a] pos) tA:=by
 intro wh ak s Z H Q I h;refine isTrue_or (aN (ha ak s Z H Q I h) λc s1 e=>?_);cases c with
 |false=>exact isTrue_or_nil e
 |true=>exact e
theorem M7(ha:PT X a tA)(hb:PW X (.BoolOp .And (b::rest) pos) Ai):PW X (.BoolOp .And (a::b::rest) pos) (CQ tA Ai):=by
 intro wh ak s Z H Q I h;refine isTrue_and (aN (ha ak s Z H _ I h) λc s1 hx=>oZ hx λH1 I1 q1=>?_);cases c with
 |true=>exact hb wh ak s1 Z H1 Q I1 q1
 |false=>exact⟨H1,I1,q1⟩
theorem M8(ha:PT X a tA)(hb:PW X (.BoolOp .Or (b::rest) pos) Ai):PW X (.BoolOp .Or (a::b::rest) pos) (M4 tA Ai):=by
 intro wh ak s Z H Q I h;refine isTrue_or (aN (ha ak s Z H _ I h) λc s1 hx=>oZ hx λH1 I1 q1=>?_);cases c with
 |true=>exact⟨H1,I1,q1⟩
 |false=>exact hb wh ak s1 Z H1 Q I1 q1
theorem M9(ha:PT X a tA):PT X (.UnaryOp .Not a pos) (CT tA):=by
 intro ak s Z H Q I h;exact isTrue_not (ha ak s Z H (λc H1=>Q (!c) H1) I h)
noncomputable def wM(ta tb:TE):TE:=λZ H Q=>ta Z H λx H1=>∃c,x=.bl c/\if c=true then tb Z H1 Q else Q (.bl false) H1
noncomputable def CV(ta tb:TE):TE:=λZ H Q=>ta Z H λx H1=>∃c,x=.bl c/\if c=true then Q (.bl true) H1 else tb Z H1 Q
noncomputable def wN(ta:TE):TE:=λZ H Q=>ta Z H λx H1=>∃c,x=.bl c/\Q (.bl (!c)) H1
theorem M_{op}{t:TE}(h:PE X a t):PE X (.BoolOp op [a] pos) t:=λak s Z H Q I hw=>BoolOp_one (h ak s Z H Q I hw)
theorem Nb(ha:PE X a ta)(hb:PE X (.BoolOp .And (b::rest) pos) tb):PE X (.BoolOp .And (a::b::rest) pos) (wM ta tb):=by
 intro ak s Z H Q I h;refine BoolOp_and (aN (ha ak s Z H _ I h) λv s1 hx=>fj hx λx H1 I1 r1 q1=>?_);obtain⟨c,rfl,q1⟩:=q1;cases r1;refine u9 ?_;cases c with
 |true=>exact hb ak s1 Z H1 Q I1 q1
 |false=>exact⟨.bl false,H1,I1,rfl,q1⟩
theorem Nf(ha:PE X a ta)(hb:PE X (.BoolOp .Or (b::rest) pos) tb):PE X (.BoolOp .Or (a::b::rest) pos) (CV ta tb):=by
 intro ak s Z H Q I h;refine BoolOp_or (aN (ha ak s Z H _ I h) λv s1 hx=>fj hx λx H1 I1 r1 q1=>?_);obtain⟨c,rfl,q1⟩:=q1;cases r1;refine u9 ?_;cases c with
 |false=>exact hb ak s1 Z H1 Q I1 q1
 |true=>exact⟨.bl true,H1,I1,rfl,q1⟩
theorem Ng(ha:PE X a ta):PE X (.UnaryOp .Not a pos) (wN ta):=by
 intro ak s Z H Q I h;refine UnaryOp_ (aN (ha ak s Z H _ I h) λv s1 hx=>fj hx λx H1 I1 r1 q1=>?_);obtain⟨c,rfl,q1⟩:=q1;cases r1;exact not_of (u9 ⟨.bl (!c),H1,I1,rfl,q1⟩)
end
def cH(K:W.Frag)(H:Hp)(a:Addr)(xs:List V):Prop:=
 Rd H a (.lst xs) \/
  ∃(o:Obj) (its:Array Value) (n:Nat),K.lookup a=some o/\o.cls=.type "list"/\o.dict=none/\o.data=.seq its n/\its.size<=sizeLine/\Vals xs its.toList
def fG(K:W.Frag)(H:Hp)(a:Addr)(xs:List V):Prop:=
 Rd H a (.tup xs) \/
  ∃(o:Obj) (its:Array Value) (n:Nat),K.lookup a=some o/\o.cls=.type "tuple"/\o.data=.seq its n/\its.size<=sizeLine/\Vals xs its.toList
noncomputable def CW:Value->Option V
 |.none=>some .non
 |.bool b=>some (.bl b)
 |.int i _=>some (.int i)
 |.str x _=>some (.str x)
 |.bytes b _=>some (.Cv b)
 |.float b _=>some (.flt b)
 |.ref a=>some (.ref a)
 |.type n=>some (.ty n)
 |_=>none
theorem RelV.abs{x:V}{u:Value}(r:RelV x u):CW u=some x:=by
 cases x with
 |non=>cases r;rfl
 |bl _=>cases r;rfl
 |int _=>obtain⟨t,rfl⟩:=r;rfl
 |str _=>obtain⟨t,rfl⟩:=r;rfl
 |Cv _=>obtain⟨t,rfl⟩:=r;rfl
 |flt _=>obtain⟨t,rfl⟩:=r;rfl
 |ref _=>cases r;rfl
 |ty _=>cases r;rfl
theorem RelV.inj{x y:V}{u:Value}(r:RelV x u)(q:RelV y u):x=y:=dG (r.abs.symm.trans q.abs)
theorem Vals.inj{xs ys:List V}{us:List Value}(h:Vals xs us)(h':Vals ys us):xs=ys:=by
 induction h generalizing ys with
 |nil=>cases h';rfl
 |cons r _ ih=>
  cases h' with
  |cons r' t'=>rw[r.inj r',ih t']
section
variable {X:Cx}{ak:List (Addr×Obj)}{Z:St}{H:Hp}{s:Shared}{a:Addr}{xs ys:List V}
theorem cH.of{K:W.Frag}(h:H a=some (.lst xs)):cH K H a xs:=.inl (.inl h)
theorem Inv.list(I:Inv X ak Z H s)(h:cH X.K H a xs):∃its:List Value,Vals xs its/\PlainL s.heap a its.toArray/\xs.length<=sizeLine:=by
 rcases h with h|⟨o,its,n,hk,hc,hd,hs,hz,r⟩
 ·obtain⟨z,its,n,r,e⟩:=h.ok I.hok;exact⟨its,r,⟨_,n,e,rfl,rfl,rfl⟩,z⟩
 ·refine⟨its.toList,r,⟨o,n,I.lQ a o hk,hc,hd,by simpa using hs⟩,?_⟩;have e:=r.length;simp only[kJ] at e
  lia
theorem Inv.tuple(I:Inv X ak Z H s)(h:fG X.K H a xs):∃its:List Value,Vals xs its/\IsTup s.heap a its.toArray/\xs.length<=sizeLine:=by
 rcases h with h|⟨o,its,n,hk,hc,hs,hz,r⟩
 ·obtain⟨z,its,r,p⟩:=h.ok I.hok;exact⟨its,r,p,z⟩
 ·refine⟨its.toList,r,⟨o,I.lQ a o hk,hc,n,by simpa using hs⟩,?_⟩;have e:=r.length;simp only[kJ] at e
  lia
theorem Inv.mF(I:Inv X ak Z H s)(h:cH X.K H a xs)(h':cH X.K H a ys):xs=ys:=by
 obtain⟨its,r,⟨o,n,e,_,_,d⟩,_⟩:=I.list h;obtain⟨its',r',⟨o',n',e',_,_,d'⟩,_⟩:=I.list h';rw[e] at e';cases e';rw[d] at d';injection d' with d1 _;have:its=its':=by simpa using lM Array.toList d1
 subst this;exact r.inj r'
theorem Inv.k_(I:Inv X ak Z H s)(h:fG X.K H a xs)(h':fG X.K H a ys):xs=ys:=by
 obtain⟨its,r,⟨o,e,_,n,d⟩,_⟩:=I.tuple h;obtain⟨its',r',⟨o',e',_,n',d'⟩,_⟩:=I.tuple h';rw[e] at e';cases e';rw[d] at d';injection d' with d1 _;have:its=its':=by simpa using lM Array.toList d1
 subst this;exact r.inj r'
end
section
variable {X:Cx}{ak:List (Addr×Obj)}{Z:St}{H:Hp}{s:Shared}{E:Value->Shared->Prop}
end
section
variable {X:Cx}{st:Stmt}{rest:List Stmt}{t u:TS}{e:Expr}{te:TE}{pos:Pos}
noncomputable def wO:TS:=λD Z H=>D.nx Z H
noncomputable def CZ(t u:TS):TS:=λD Z H=>t {D with nx:=u D} Z H
theorem Nh:jX X [] wO:=λ_ _ Z H _ I h=>wpAny_execs_nil ⟨Z,H,I,h⟩
theorem Ni(h1:PS X st t)(h2:jX X rest u):jX X (st::rest) (CZ t u):=by
 intro ak s Z H D I h;refine wpAny_execs_cons (aN (h1 ak s Z H {D with nx:=u D} I h) λf s1 q=>?_);cases f with
 |next=>
  obtain⟨Z',H',I',q⟩:=q;exact h2 ak s1 Z' H' D I' q
 |ret v=>exact q
 |brk=>exact q
 |cont=>exact q
theorem Inv.quiet{ak:List (Addr×Obj)}{Z:St}{H:Hp}{s:Shared}(I:Inv X ak Z H s):interactive X.env=false:=by simp[interactive,I.ok.kind]
noncomputable def wQ(te:TE):TS:=λD Z H=>te Z H λ_ H1=>D.nx Z H1
theorem Nj(he:PE X e te)(hs:swapsWith e none pos.line X.env=pure false:=by rfl):PS X (.Expr e pos) (wQ te):=by
 intro ak s Z H D I h;exact wpAny_Expr_any (aN (he ak s Z H _ I h) λv s1 hx=>fj hx λx H1 I1 r1 q1=>⟨Z,H1,I1,q1⟩) I.quiet hs
noncomputable def C_(te:TE):TS:=λD Z H=>te Z H D.rt
theorem Nk(he:PE X e te):PS X (.Return (some e) pos) (C_ te):=by
 intro ak s Z H D I h;exact wpAny_Return_some (aN (he ak s Z H _ I h) λv s1 hx=>fj hx λx H1 I1 r1 q1=>⟨x,Z,H1,I1,r1,q1⟩)
noncomputable def Dg(c:TT)(t u:TS):TS:=λD Z H=>c Z H λb H1=>if b=true then t D Z H1 else u D Z H1
theorem Nm{c:Expr}{a b:List Stmt}{tc:TT}(hc:PT X c tc)(ha:jX X a t)(hb:jX X b u):PS X (.If c a b pos) (Dg tc t u):=by
 intro ak s Z H D I h;refine wpAny_If (aN (hc ak s Z H _ I h) λd s1 hx=>oZ hx λH1 I1 q1=>?_);cases d with
 |true=>exact ha ak s1 Z H1 D I1 q1
 |false=>exact hb ak s1 Z H1 D I1 q1
end
noncomputable abbrev TG:=V->St->Hp->(St->Hp->Prop)->Prop
noncomputable abbrev su:=List V->St->Hp->(St->Hp->Prop)->Prop
def PG(X:Cx)(target:Expr)(t:TG):Prop:=
 ∀(ak:List (Addr×Obj)) (s:Shared) (Z:St) (H:Hp) (v:V) (u:Value) (Q:St->Hp->Prop),Inv X ak Z H s->RelV v u->t v Z H Q->
  wpAny (model X.prog X.w) X.A (assign target X.env u) (λ_ s'=>∃Z' H',Inv X ak Z' H' s'/\Q Z' H') X.xe s
def Aj(X:Cx)(ts:List Expr)(t:su):Prop:=
 ∀(ak:List (Addr×Obj)) (s:Shared) (Z:St) (H:Hp) (vs:List V) (us:List Value) (Q:St->Hp->Prop),Inv X ak Z H s->Vals vs us->t vs Z H Q->
  wpAny (model X.prog X.w) X.A (assignInOrder ((assignEach ts X.env).map (·.2)) us) (λ_ s'=>∃Z' H',Inv X ak Z' H' s'/\Q Z' H') X.xe s
noncomputable abbrev sy:=V->V->V->Hp->(Hp->Prop)->Prop
def wR(X:Cx)(t:sy):Prop:=
 ∀(ak:List (Addr×Obj)) (s:Shared) (Z:St) (H:Hp) (o i v:V) (ov iv u:Value) (Q:Hp->Prop),Inv X ak Z H s->RelV o ov->RelV i iv->RelV v u->t o i v H Q->
  wpAny (model X.prog X.w) X.A (setItem ov iv u) (λ_ s'=>∃H',Inv X ak Z H' s'/\Q H') X.xe s
section
variable {X:Cx}{pos:Pos}
noncomputable def bW(i:Nat):TG:=λv Z H Q=>Q (Z.set i (some v)) H
theorem Ak{i:Nat}{x:Str}(hN:X.N.Nodup)(hi:X.N[i]?=some x)(hx:Loc X.env.scope x)(hf:X.fn x=true\/X.env.scope.names.lookup x=some .local:=by first|exact .inl rfl|exact .inr rfl|assumption):PG X (.Name x pos) (bW i):=by
 intro ak s Z H v u Q I r h;exact wpAny_assign_Name (Ah I hN hi hx r (λs' I'=>⟨_,H,I',h⟩) hf)
noncomputable def mH:su:=λvs Z H Q=>vs=[]/\Q Z H
noncomputable def dI(t:TG)(u:su):su:=λvs Z H Q=>∃v r,vs=v::r/\t v Z H λZ' H'=>u r Z' H' Q
theorem Np:Aj X [] mH:=by
 intro ak s Z H vs us Q I r h;obtain⟨e,h⟩:=h;subst e;cases r;exact assignInOrder_nil ⟨Z,H,I,h⟩
theorem HD{e:Expr}{es:List Expr}{t:TG}{u:su}(h1:PG X e t)(h2:Aj X es u)
  (hs:(assignEach (e::es) X.env).map (·.2)=assign e X.env::(assignEach es X.env).map (·.2):=by rfl):Aj X (e::es) (dI t u):=by
 intro ak s Z H vs us Q I r h;obtain⟨v,vr,e1,h⟩:=h;subst e1;cases r with
 |cons r rr=>
  rw[hs];refine assignInOrder_cons (aN (h1 ak s Z H _ _ _ I r h) λ_ s1 ⟨Z1,H1,I1,q1⟩=>?_);exact h2 ak s1 Z1 H1 _ _ Q I1 rr q1
noncomputable def mJ(K:W.Frag)(n:Nat)(t:su):TG:=λv Z H Q=>∃a xs,v=.ref a/\fG K H a xs/\xs.length=n/\t xs Z H Q
theorem Nq{es:List Expr}{k:Nat}{t:su}{n:Nat}(hc:X.aj=true)(h:Aj X es t)
  (hn:(assignEach es X.env).length=n:=by rfl) (Nr:(assignEach es X.env).findIdx? (·.1)=none:=by rfl):PG X (.Tuple es k pos) (mJ X.K n t):=by
 intro ak s Z H v u Q I r hw;obtain⟨a,xs,e1,hq,hl,hw⟩:=hw;subst e1;cases r;obtain⟨its,rv,ht,hz⟩:=I.tuple hq;refine assign_Tuple_tuple (I.ok.hd hc) ht (by simp[hn,<-hl,rv.length]) Nr λh' hx=>?_;have I1:Inv X ak Z H {s with heap:=h'}:=I.kept (t':=s.toks) λb o e=>hx b o (dH (bI e)) e;exact h ak _ Z H xs _ Q I1 (by simpa using rv) hw
noncomputable def Dh(to ti:TE)(t:sy):TG:=λv Z H Q=>to Z H λo H1=>ti Z H1 λi H2=>t o i v H2 λH3=>Q Z H3
theorem Nt{o i:Expr}{to ti:TE}{t:sy}(ho:PE X o to)(hi:PE X i ti)(hs:wR X t)
  (ha:∀v,assign (.Subscript o i pos) X.env v=(do
   let ov <-holding [v] (eval o X.env)
   let iv <-holding [v,ov] (eval i X.env)
   standAt pos
   holding [v,ov,iv] (setItem ov iv v)
   release [v,ov,iv] []):=by intro _;rfl):PG X (.Subscript o i pos) (Dh to ti t):=by
 intro ak s Z H v u Q I r h;rw[ha];refine aB (kW (aN (ho ak s Z H _ I h) λov s1 hx=>fj hx λx H1 I1 r1 q1=>?_));refine aB (kW (aN (hi ak s1 Z H1 _ I1 q1) λiv s2 hx=>fj hx λy H2 I2 r2 q2=>?_));refine aB (nZ (aB (kW (aN (hs ak s2 Z H2 x y v ov iv u _ I2 r1 r2 r q2) λ_ s3 hx=>oZ hx λH3 I3 q3=>?_))));exact wpAny_release ⟨Z,H3,I3,q3⟩
noncomputable def sE(te:TE)(g:TG):TS:=λD Z H=>te Z H λx H1=>g x Z H1 D.nx
theorem HF{tg e:Expr}{te:TE}{g:TG}(he:PE X e te)(hg:PG X tg g)(hs:swapsWithSole [tg] e pos.line X.env=pure false:=by rfl)(hw:swappedStores [tg] e X.env=pure none:=by rfl)
  (h1:(assignEach [tg] X.env).map (·.2)=[assign tg X.env]:=by rfl):PS X (.Assign [tg] e pos) (sE te g):=by
 intro ak s Z H D I h;refine wpAny_Assign_stores (aN (he ak s Z H _ I h) λv s1 hx=>fj hx λx H1 I1 r1 q1=>?_) hs hw;rw[h1];exact aN (hg ak s1 Z H1 x v _ I1 r1 q1) λ_ s2 q=>q
theorem Nu{i:Nat}{x:Str}{e:Expr}{te:TE}{pos':Pos}(hN:X.N.Nodup)(hi:X.N[i]?=some x)(hx:Loc X.env.scope x)(he:PE X e te)(hs:swapsWith e (some (.Name x pos')) pos.line X.env=pure false:=by rfl)(hf:X.fn x=true\/X.env.scope.names.lookup x=some .local:=by first|exact .inl rfl|exact .inr rfl|assumption) :
  PS X (.Assign [.Name x pos'] e pos) (sE te (bW i)):=by
 intro ak s Z H D I h;refine wpAny_Assign_Name (aN (he ak s Z H _ I h) λv s1 ⟨y,H1,I1,r1,q1⟩=>?_) hs;exact Ah I1 hN hi hx r1 (λs2 I2=>⟨_,H1,I2,q1⟩) hf
noncomputable def Di(i j:Nat)(ta:TA):TS:=λD Z H=>ta Z H λvs H1=>∃v w,vs=[v,w]/\D.nx ((Z.set i (some v)).set j (some w)) H1
theorem Nv{i j:Nat}{x y:Str}{a b:Expr}{ta:TA}{px py pt:Pos}{kt k2 mK}(hc:X.aj=true)(hN:X.N.Nodup)(hi:X.N[i]?=some x)(hj:X.N[j]?=some y)(pq:i≠j)
  (hx:X.env.scope.names.lookup x=some .local) (hy:X.env.scope.names.lookup y=some .local) (ha:PA X [a,b] ta)
  (hw:swappedStores [.Tuple [.Name x px,.Name y py] kt pt] (.Tuple [a,b] k2 mK) X.env=pure (some [x,y]))
  (hs:swapsWithSole [.Tuple [.Name x px,.Name y py] kt pt] (.Tuple [a,b] k2 mK) pos.line X.env=pure false:=by rfl) :
  PS X (.Assign [.Tuple [.Name x px,.Name y py] kt pt] (.Tuple [a,b] k2 mK) pos) (Di i j ta):=by
 intro ak s Z H D I h;rw[exec_Assign_arm];refine aB (nZ ?_);rw[hs];refine aB (aQ ?_);rw[if_neg (by decide)];refine aB (Tuple_ (aN (ha _ ak s Z H _ I h) λus s1 ⟨vs,H1,I1,r1,q1⟩=>?_));obtain⟨v,w,e1,q1⟩:=q1;subst e1;obtain⟨u1,u2,rfl,rv,lg⟩ : ∃u1 u2,us=[u1,u2]/\RelV v u1/\RelV w u2:=by
  cases r1 with
  |cons p q=>
   cases q with
   |cons p' q'=>
    cases q';exact⟨_,_,rfl,p,p'⟩
 refine qu ?_ (by show 2<=sizeLine;decide);have I2:Inv X ak Z H1 {s1 with heap:=s1.heap.push {cls:=.type "tuple",data:=.seq [u1,u2].toArray}}:=I1.kept (t':=s1.toks) λb o e=>cP _ e;rw[hw];refine aB (aQ ?_);show wpAny (model X.prog X.w) X.A (do rule "assign.swapped-stores";let items <-unpackItems (.ref s1.heap.objs.size) 2 none;assignInOrder [λv=>bindName X.env y v,λv=>bindName X.env x v] items.reverse;pure Flow.next) _ _ _;refine aB (wpAny_rule (aB (unpackItems_tuple (items:=#[u1,u2]) (I.ok.hd hc) (IsTup.new s1.heap _) λh' Ny=>?_)));have I3:=I2.kept (h':=h') (t':=s1.toks) λb o e=>Ny b o (dH (bI e)) e;show wpAny _ _ (assignInOrder [λv=>bindName X.env y v,λv=>bindName X.env x v] [u2,u1] >>= λ_=>pure Flow.next) _ _ _;refine aB (assignInOrder_cons (wpAny_bindName (Ah I3 hN hj (.inl hy) lg (λs2 I4=>?_) (.inr hy))));refine assignInOrder_cons (wpAny_bindName (Ah I4 hN hi (.inl hx) rv (λs3 I5=>assignInOrder_nil (aQ ?_)) (.inr hx)));rw[List.set_comm _ _ (Ne.symm pq)] at I5;exact⟨_,H1,I5,q1⟩
end
section
variable {X:Cx}{pos:Pos}
noncomputable def sG(c:TT)(tb:TS):TS:=λD Z H=>∃W:Nat->St->Hp->Prop,(∃m,W m Z H)/\∀m Z H,W m Z H->
 c Z H λb H1=>if b=true then ∃N:St->Hp->Prop,(∀Z' H',N Z' H'->∃m',m'<m/\W m' Z' H')/\tb {D with nx:=N,ct:=N,bk:=D.nx} Z H1 else D.nx Z H1
theorem Nz{c:Expr}{body:List Stmt}{tc:TT}{tb:TS}(hp:PassesOwn (model X.prog X.w) X.A X.env X.xe)(hc:PT X c tc)(hb:jX X body tb):PS X (.While c body [] pos) (sG tc tb):=by
 intro ak s Z H D I h;obtain⟨W,⟨m0,w0⟩,turn⟩:=h;refine wpAny_While (codeAny_whileLoop (λn s'=>∃Z' H',Inv X ak Z' H' s'/\W n Z' H') ?_ m0 ⟨Z,H,I,w0⟩);rintro n s1 ⟨Z1,H1,I1,w1⟩;refine rF hp (aN (hc ak s1 Z1 H1 _ I1 (turn n Z1 H1 w1)) λb s2 hx=>oZ hx λH2 I2 q2=>?_);cases b with
 |true=>
  obtain⟨N,hN,q2⟩:=q2;rw[if_pos rfl];refine rF hp (aN (hb ak s2 Z1 H2 _ I2 q2) λf s3 q3=>?_);cases f with
  |next=>
   obtain⟨Z3,H3,I3,n3⟩:=q3;obtain⟨m',hm,w3⟩:=hN Z3 H3 n3;exact⟨m',hm,Z3,H3,I3,w3⟩
  |cont=>
   obtain⟨Z3,H3,I3,n3⟩:=q3;obtain⟨m',hm,w3⟩:=hN Z3 H3 n3;exact⟨m',hm,Z3,H3,I3,w3⟩
  |brk=>exact q3
  |ret v=>exact q3
 |false=>
  rw[if_neg zW];exact wpAny_execs_nil ⟨Z1,H2,I2,q2⟩
end
structure It where
 go:Nat->Hp->Prop
 mL:Nat->Hp->V->Hp->Prop
 stop:Nat->Hp->Prop
def cQ(X:Cx)(ak:List (Addr×Obj))(H:Hp)(b:Addr):Prop:=
 H b=none/\b≠X.env.locals/\b∉X.fs/\(b∈X.ex\/X.s₀.heap.objs.size<=b)/\(∀x c,X.env.cells.lookup x=some c->c≠b)/\∀p∈X.pn++ak,p.1≠b
theorem Inv.sH{X:Cx}{ak:List (Addr×Obj)}{Z:St}{H H':Hp}{s:Shared}{b:Addr}(I:Inv X ak Z H s)(hb:s.heap.objs.size<=b)(hn:H' b=none):cQ X ak H' b:=by
 refine⟨hn,oW (eZ I.lt hb),I.o_ hb,.inr (kY I.sz hb),λx c e z=>?_,λp hp z=>?_⟩
 ·obtain⟨v,q⟩:=I.cell x c e;exact absurd (eZ q.lt (by rw[z];exact hb)) (jP _)
 ·exact absurd (eZ (bI (I.pin p hp).1) (by rw[z];exact hb)) (jP _)
structure Turn(P:Program)(w:World)(K:W.Frag)(tg:Expr)(aK:It)(fp:List Addr)(it:Addr)(tn:Nat->Heap->Prop):Prop where
 mem:it∈fp
 obj:∀i h,tn i h->∀b∈fp,∃o,h.get? b=some o/\∀v,o.data≠.cell v
 keep:∀i h h',tn i h->(∀b∈fp,∀o,h.get? b=some o->h'.get? b=some o)->tn i h'
 item:∀(X:Cx),X.prog=P->X.w=w->X.K=K->X.aj=true->∀(i:Nat) (ak:List (Addr×Obj)) (s:Shared) (Z:St) (H:Hp) (E:Value->Shared->Prop),Inv X ak Z H s->(∀b∈fp,cQ X ak H b)->tn i s.heap->aK.go i H->
  wpAny (model P w) X.A (pyNext (.ref it)) (λr s1=>∃u,r=some u /\
   wpAny (model P w) X.A (letOwnedTupleGo tg (.ref it) u) (λ_ s2=>∃x H',Inv X ak Z H' s2/\RelV x u/\aK.mL i H x H'/\tn (i+1) s2.heap/\∀b∈fp,H' b=none) E s1) E s
 done:∀(X:Cx),X.prog=P->X.w=w->X.K=K->X.aj=true->∀(i:Nat) (ak:List (Addr×Obj)) (s:Shared) (Z:St) (H:Hp) (E:Value->Shared->Prop),Inv X ak Z H s->(∀b∈fp,cQ X ak H b)->tn i s.heap->aK.stop i H->
  wpAny (model P w) X.A (pyNext (.ref it)) (λr s1=>r=none/\Inv X ak Z H s1) E s
 self:∀(A:Around) (i:Nat) (s:Shared) (Q:Value->Shared->Prop) (E:Value->Shared->Prop),tn i s.heap->Q (.ref it) s->wpAny (model P w) A (pyIter (.ref it)) Q E s
noncomputable abbrev TI:=St->Hp->(It->Hp->Prop)->Prop
def PIE(X:Cx)(ak:List (Addr×Obj))(Z:St)(tg:Expr)(R:It->Hp->Prop)(itv:Value)(s2:Shared):Prop:=
 ∃(it:Addr) (fp:List Addr) (tn:Nat->Heap->Prop) (aK:It) (H':Hp),itv=.ref it/\Inv X ak Z H' s2/\Turn X.prog X.w X.K tg aK fp it tn/\tn 0 s2.heap/\(∀b∈fp,cQ X ak H' b)/\R aK H'
def PI(X:Cx)(tg iter:Expr)(wi:TI):Prop:=
 ∀(ak:List (Addr×Obj)) (s:Shared) (Z:St) (H:Hp) (R:It->Hp->Prop),Inv X ak Z H s->wi Z H R->
  wpAny (model X.prog X.w) X.A (eval iter X.env) (λv s1=>wpAny (model X.prog X.w) X.A (pyIter v) (PIE X ak Z tg R) X.xe s1) X.xe s
theorem Dj{M:Model}{A:Around}{E:Value->Shared->Prop}{s:Shared}{tg:Expr}{it:Addr}{u:Value}{o:Obj}{n:String}{vs:Array Value}{Q:Unit->Shared->Prop}(ho:s.heap.get? it=some o)(hc:o.cls=.type n)(hd:o.data=.fields vs)
  (hn:["enumerate","zip","dict_itemiterator","dict_reverseitemiterator","odict_iterator","itertools.zip_longest","itertools.pairwise"].contains n=false) (hQ:Q () s):wpAny M A (letOwnedTupleGo tg (.ref it) u) Q E s:=by
 unfold letOwnedTupleGo;cases tg<;>first
  |exact aQ hQ
  | (cases u<;>first
    |exact aQ hQ
    | (refine aB (wpAny_load ho ?_)
       rw[hc,hd];show wpAny M A (if (["enumerate","zip","dict_itemiterator","dict_reverseitemiterator","odict_iterator","itertools.zip_longest","itertools.pairwise"].contains n&&vs[0]?==some (rawInt _))=true then _ else _) Q E s;rw[if_neg (by intro h;rw[hn,Bool.false_and] at h;cases h)];exact aQ hQ))
noncomputable def Al(K:W.Frag)(a:Addr):It:=
 ⟨λi H=>∃xs x,cH K H a xs/\xs[i]?=some x,λi H x H'=>H'=H/\∀xs,cH K H a xs->xs[i]?=some x,λi H=>∃xs,cH K H a xs/\xs.length<=i⟩
noncomputable def Dk(K:W.Frag)(a:Addr):It:=
 ⟨λi H=>∃xs x,fG K H a xs/\xs[i]?=some x,λi H x H'=>H'=H/\∀xs,fG K H a xs->xs[i]?=some x,λi H=>∃xs,fG K H a xs/\xs.length<=i⟩
noncomputable def wU(lo:Int)(n:Nat):It:=⟨λi _=>i<n,λi H x H'=>H'=H/\x=.int (lo+i),λi _=>n<=i⟩
theorem NK{P:Program}{w:World}{K:W.Frag}{tg:Expr}(a it:Addr):Turn P w K tg (Al K a) [it] it (λi h=>h.IsListIter it a i) where
 mem:=by simp
 obj:=λi h st b hb=>by
  have e:b=it:=by simpa using hb
  subst e;obtain⟨o,e,c,d⟩:=st;exact⟨o,e,λv z=>by rw[d] at z;cases z⟩
 keep:=λi h h' st k=>st.at λo e=>k it (by simp) o e
 item:=by
  intro X hP hw hK hc i ak s Z H E I hf st hg;subst hP hw hK;obtain⟨xs,x,hq,hx⟩:=hg;obtain⟨its,rv,p,hz⟩:=I.list hq;obtain⟨u,hu,ru⟩:=rv.get hx;obtain⟨f0,f1,f2,f3,f4,f5⟩:=hf it (by simp);refine wpAny_pyNext_list_item st p.isList (x:=u) (by simpa using hu) λh' st' sb=>?_;have I1:Inv X ak Z H {s with heap:=h'}:=I.turned (t':=s.toks) (λb o hb e=>(sb.2 b hb).trans e) f0 f1 f3 f4 f5;obtain⟨o,e,c,d⟩:=id st';exact⟨u,rfl,Dj (s:={s with heap:=h'}) e c d (by decide) ⟨x,H,I1,ru,⟨rfl,λys hy=>by rw[I.mF hy hq];exact hx⟩,st',λb hb=>(hf b hb).1⟩⟩
 done:=by
  intro X hP hw hK hc i ak s Z H E I hf st hg;subst hP hw hK;obtain⟨xs,hq,hx⟩:=hg;obtain⟨its,rv,p,hz⟩:=I.list hq;obtain⟨f0,f1,f2,f3,f4,f5⟩:=hf it (by simp);have hl:=rv.length;exact wpAny_pyNext_list_end (I.ok.hd hc) st p.isList (by simp;lia) λh' eb=>⟨rfl,I.turned (t':=s.toks) (λb o hb e=>eb b o hb e) f0 f1 f3 f4 f5⟩
 self:=λ_ _ _ _ _ st h=>wpAny_pyIter_listiter st h
theorem NP{P:Program}{w:World}{K:W.Frag}{tg:Expr}(a it:Addr):Turn P w K tg (Dk K a) [it] it (λi h=>h.IsTupleIter it a i) where
 mem:=by simp
 obj:=λi h st b hb=>by
  have e:b=it:=by simpa using hb
  subst e;obtain⟨o,e,c,d⟩:=st;exact⟨o,e,λv z=>by rw[d] at z;cases z⟩
 keep:=λi h h' st k=>st.at λo e=>k it (by simp) o e
 item:=by
  intro X hP hw hK hc i ak s Z H E I hf st hg;subst hP hw hK;obtain⟨xs,x,hq,hx⟩:=hg;obtain⟨its,rv,p,hz⟩:=I.tuple hq;obtain⟨u,hu,ru⟩:=rv.get hx;obtain⟨f0,f1,f2,f3,f4,f5⟩:=hf it (by simp);refine wpAny_pyNext_tuple_item st (show s.heap.IsTuple a its.toArray from p) (x:=u) (by simpa using hu) λh' st' sb=>?_;have I1:Inv X ak Z H {s with heap:=h'}:=I.turned (t':=s.toks) (λb o hb e=>(sb.2 b hb).trans e) f0 f1 f3 f4 f5;obtain⟨o,e,c,d⟩:=id st';exact⟨u,rfl,Dj (s:={s with heap:=h'}) e c d (by decide) ⟨x,H,I1,ru,⟨rfl,λys hy=>by rw[I.k_ hy hq];exact hx⟩,st',λb hb=>(hf b hb).1⟩⟩
 done:=by
  intro X hP hw hK hc i ak s Z H E I hf st hg;subst hP hw hK;obtain⟨xs,hq,hx⟩:=hg;obtain⟨its,rv,p,hz⟩:=I.tuple hq;obtain⟨f0,f1,f2,f3,f4,f5⟩:=hf it (by simp);have hl:=rv.length;exact wpAny_pyNext_tuple_end (I.ok.hd hc) st (show s.heap.IsTuple a its.toArray from p) (by simp;lia) λh' eb=>⟨rfl,I.turned (t':=s.toks) (λb o hb e=>eb b o hb e) f0 f1 f3 f4 f5⟩
 self:=λ_ _ _ _ _ st h=>wpAny_pyIter_tupleiter st h
theorem NQ{P:Program}{w:World}{K:W.Frag}{tg:Expr}(it:Addr)(lo:Int)(n:Nat):Turn P w K tg (wU lo n) [it] it (λi h=>IsRangeIter h it (lo+(i:Nat)*1) ((n:Int)-(i:Nat)) 1) where
 mem:=by simp
 obj:=λi h st b hb=>by
  have e:b=it:=by simpa using hb
  subst e;exact⟨_,st,λv z=>by
   have z':Data.fields _=Data.cell v:=z;cases z'⟩
 keep:=λi h h' st k=>k it (by simp) _ st
 item:=by
  intro X hP hw hK hc i ak s Z H E I hf st hg;subst hP hw hK;obtain⟨f0,f1,f2,f3,f4,f5⟩:=hf it (by simp);have W:=Walks.range (prog:=X.prog) (w:=X.w) (I.ok.hd hc) it lo 1 n;refine W.item i s _ _ hg st λv h' tk hv st' kk=>?_;obtain⟨t,rfl⟩:=hv;have I1:Inv X ak Z H {s with heap:=h',toks:=tk}:=I.turned (λb o hb e=>kk b o (by simpa using hb) e) f0 f1 f3 f4 f5;refine⟨_,rfl,Dj (s:={s with heap:=h',toks:=tk}) (n:="range_iterator") st' rfl rfl (by decide) ⟨.int (lo+i),H,I1,⟨t,?_⟩,⟨rfl,rfl⟩,st',λb hb=>(hf b hb).1⟩⟩;rw[Int.mul_one]
 done:=by
  intro X hP hw hK hc i ak s Z H E I hf st hg;subst hP hw hK;obtain⟨f0,f1,f2,f3,f4,f5⟩:=hf it (by simp);exact wpAny_pyNext_range_end (I.ok.hd hc) st (by have:n<=i:=hg;lia) λh' eb=>⟨rfl,I.turned (t':=s.toks) (λb o hb e=>eb b o hb e) f0 f1 f3 f4 f5⟩
 self:=λ_ _ _ _ _ st h=>wpAny_pyIter_rangeiter st h
section
variable {X:Cx}{tg:Expr}
theorem HJ{ak:List (Addr×Obj)}{Z:St}{H:Hp}{s:Shared}{R:It->Hp->Prop}{E:Value->Shared->Prop}{lo hi:Int}{t u v:Tok}{tk:Nat}(I:Inv X ak Z H s)(h1 : -(2^62)<=lo)(h2:lo<2^62)(h3 : -(2^62)<=hi)(h4:hi<2^62)
  (q:R (wU lo (hi-lo).toNat) H):wpAny (model X.prog X.w) X.A (pyIter (.ref s.heap.objs.size)) (PIE X ak Z tg R) E {s with heap:=s.heap.push {cls:=.type "range",data:=.fields #[.int lo t,.int hi u,.int 1 v]},toks:=tk}:=by
 refine wpAny_pyIter_range (IsRange.new ..) (small_one h1 h2 h3 h4) ?_;have I1:Inv X ak Z H {s with heap:=s.heap.push {cls:=.type "range",data:=.fields #[.int lo t,.int hi u,.int 1 v]},toks:=tk}:=I.kept λb o e=>cP _ e;refine⟨(s.heap.push {cls:=.type "range",data:=.fields #[.int lo t,.int hi u,.int 1 v]}).objs.size,[(s.heap.push {cls:=.type "range",data:=.fields #[.int lo t,.int hi u,.int 1 v]}).objs.size],_,_,H,rfl,
  I1.kept (t':=tk) λb o e=>cP _ e,NQ _ lo (hi-lo).toNat,?_,λb hb=>?_,q⟩
 ·have e1:lo+((0:Nat):Int)*1=lo:=by simp
  have e2:(((hi-lo).toNat:Nat):Int)-((0:Nat):Int)=Builtin.Range.rangeSize lo hi 1:=by rw[rangeSize_one];split<;>lia
  show IsRangeIter _ _ (lo+((0:Nat):Int)*1) ((((hi-lo).toNat:Nat):Int)-((0:Nat):Int)) 1;rw[e1,e2];exact h_ _ rfl
 ·have e:b=(s.heap.push {cls:=.type "range",data:=.fields #[.int lo t,.int hi u,.int 1 v]}).objs.size:=by simpa using hb
  subst e;exact I1.sH (cg _) (I1.hok.fresh (cg _))
noncomputable def wV(ta:TA):TI:=λZ H R=>ta Z H λvs H1=>∃j:Int,vs=[.int j]/\-(2^62)<=j/\j<2^62/\R (wU 0 j.toNat) H1
noncomputable def wW(ta:TA):TI:=λZ H R=>ta Z H λvs H1=>∃i j:Int,vs=[.int i,.int j]/\(-(2^62)<=i/\i<2^62/\-(2^62)<=j/\j<2^62)/\R (wU i (j-i).toNat) H1
theorem NZ{a:Expr}{ta:TA}{p pos:Pos}(hg:Gl X "range")(hm:X.mg "range"=none)(ha:PA X [a] ta)(hs:starEach [a] X.env=[(false,eval a X.env)]:=by rfl):PI X tg (.Call (.Name "range" p) [a] [] pos) (wV ta):=by
 intro ak s Z H R I h;refine Call_ (vm I hg hm boot_range (BW (aN (ha pos ak s Z H _ I h) λus s1 hx=>fj hx λvs H1 I1 r1 q1=>?_) hs rfl));obtain⟨j,e,q1,q2,q⟩:=q1;subst e;cases r1 with
 |cons r rr=>
  cases rr;obtain⟨t,rfl⟩:=r;exact call_range_1 (HJ I1 (by lia) (by lia) q1 q2 (by simpa using q))
theorem N5{a b:Expr}{ta:TA}{p pos:Pos}(hg:Gl X "range")(hm:X.mg "range"=none)(ha:PA X [a,b] ta)(hs:starEach [a,b] X.env=[(false,eval a X.env),(false,eval b X.env)]:=by rfl)(HN:starEach [b] X.env=[(false,eval b X.env)]:=by rfl) :
  PI X tg (.Call (.Name "range" p) [a,b] [] pos) (wW ta):=by
 intro ak s Z H R I h;refine Call_ (vm I hg hm boot_range (BW (aN (ha pos ak s Z H _ I h) λus s1 hx=>fj hx λvs H1 I1 r1 q1=>?_) (by rw[hs,HN]) (by rw[HN];rfl)));obtain⟨i,j,e,⟨q1,q2,q3,q4⟩,q⟩:=q1;subst e;cases r1 with
 |cons r rr=>
  cases rr with
  |cons r' rr=>
   cases rr;obtain⟨t,rfl⟩:=r;obtain⟨t',rfl⟩:=r';exact call_range_2 (HJ I1 q1 q2 q3 q4 q)
noncomputable def Dl(wi:TI)(g:TG)(tb:TS):TS:=λD Z H=>wi Z H λaK H1=>∃W:Nat->Nat->St->Hp->Prop,(∃m,W 0 m Z H1)/\∀i m Z H,W i m Z H->
 (aK.stop i H/\D.nx Z H)\/(aK.go i H/\∃N:St->Hp->Prop,(∀Z' H',N Z' H'->∃m',m'<m/\W (i+1) m' Z' H')/\∀x H',aK.mL i H x H'->g x Z H' λZ2 H2=>tb {D with nx:=N,ct:=N,bk:=D.nx} Z2 H2)
noncomputable def eE(fp:List Addr)(h:Heap):List (Addr×Obj):=fp.filterMap λb=>(h.get? b).map λo=>(b,o)
theorem qG{fp:List Addr}{h:Heap}{b:Addr}{o:Obj}(hb:b∈fp)(e:h.get? b=some o):(b,o)∈eE fp h:=List.mem_filterMap.mpr ⟨b,hb,by rw[e];rfl⟩
theorem N6{fp:List Addr}{h:Heap}{p:Addr×Obj}(hp:p∈eE fp h):p.1∈fp/\h.get? p.1=some p.2:=by
 obtain⟨b,hb,e⟩:=List.mem_filterMap.mp hp;cases q:h.get? b with
 |none=>rw[q] at e;cases e
 |some o=>
  rw[q] at e;have e':(b,o)=p:=dG e;subst e';exact⟨hb,q⟩
theorem Inv.pinned{ak:List (Addr×Obj)}{Z:St}{H:Hp}{s:Shared}{fp:List Addr}(I:Inv X ak Z H s)(hf:∀b∈fp,cQ X ak H b)(ho:∀b∈fp,∃o,s.heap.get? b=some o/\∀v,o.data≠.cell v):Inv X (ak++eE fp s.heap) Z H s:=
 I.fD λp hp=>(jz.mp hp).elim (λz=>I.pin p (gF _ z)) λz=>by
  obtain⟨hb,e⟩:=N6 z;obtain⟨f0,f1,f2,_⟩:=hf p.1 hb;obtain⟨o,e',d⟩:=ho p.1 hb;rw[e] at e';cases e';exact⟨e,f0,f1,f2,d⟩
theorem Inv.aU{ak pl:List (Addr×Obj)}{Z:St}{H:Hp}{s:Shared}(I:Inv X (ak++pl) Z H s):Inv X ak Z H s:=I.fD λp hp=>I.pin p (gF _ (vZ _ hp))
theorem N_{iter:Expr}{body:List Stmt}{wi:TI}{g:TG}{tb:TS}{pos:Pos}(hp:PassesOwn (model X.prog X.w) X.A X.env X.xe)(hc:X.aj=true)(hi:PI X tg iter wi)(hg:PG X tg g)(hb:jX X body tb)
  (hs:∀x,foldedSetIterable iter X.env x=pure x:=by intro _;rfl):PS X (.For tg iter body [] pos) (Dl wi g tb):=by
 intro ak s Z H D I h;refine wpAny_For (aN (hi ak s Z H _ I h) λv s1 h1=>aN h1 λitv s2 h2=>?_) hs;obtain⟨it,fp,tn,aK,H2,e,I2,T,st2,f2,W,⟨m0,w0⟩,turn⟩:=h2;subst e;have stat:∀{H':Hp},(∀b∈fp,H' b=none)->∀b∈fp,cQ X ak H' b:=λhn b hb=>⟨hn b hb,(f2 b hb).2⟩;refine codeAny_forLoop_any (λn s'=>∃i Z' H',Inv X ak Z' H' s'/\tn i s'.heap/\(∀b∈fp,H' b=none)/\W i n Z' H') ?_ m0 ⟨0,Z,H2,I2,st2,λb hb=>(f2 b hb).1,w0⟩;rintro n s3 ⟨i,Z3,H3,I3,st3,HS,w3⟩;rcases turn i n Z3 H3 w3 with ⟨stop,qn⟩|⟨go,N,hN,step⟩
 ·refine rF hp (aN (T.done X rfl rfl rfl hc i ak s3 Z3 H3 X.xe I3 (stat HS) st3 stop) λr s4 ⟨hr,I4⟩=>?_);subst hr;exact wpAny_execs_nil ⟨Z3,H3,I4,qn⟩
 ·refine rF hp (aN (T.item X rfl rfl rfl hc i ak s3 Z3 H3 X.xe I3 (stat HS) st3 go) λr s4 hx=>oZ hx λu hr h4=>?_);subst hr;refine rF hp (aN h4 λ_ s5 ⟨x,H5,I5,r5,y5,lR,oh⟩=>?_);have Oa:=I5.pinned (stat oh) (T.obj _ _ lR);refine rF hp (aN (hg _ s5 Z3 H5 x u _ Oa r5 (step x H5 y5)) λ_ s6 ⟨Z6,H6,I6,q6⟩=>?_);refine rF hp (aN (hb _ s6 Z6 H6 _ I6 q6) λf s7 q7=>?_);have again:∀{Z7:St} {H7:Hp},Inv X (ak++eE fp s5.heap) Z7 H7 s7->N Z7 H7->∃m,m<n/\∃i Z' H',Inv X ak Z' H' s7/\tn i s7.heap/\(∀b∈fp,H' b=none)/\W i m Z' H':=λ{Z7 H7} I7 n7=>by
   obtain⟨m',hm,w7⟩:=hN Z7 H7 n7;refine⟨m',hm,i+1,Z7,H7,I7.aU,T.keep _ _ _ lR λb hb o e=>(I7.pin (b,o) (gF _ (gF _ (qG hb e)))).1,λb hb=>?_,w7⟩;obtain⟨o,e,d⟩:=T.obj _ _ lR b hb;exact(I7.pin (b,o) (gF _ (gF _ (qG hb e)))).2.1
  cases f with
  |next=>obtain⟨Z7,H7,I7,n7⟩:=q7;exact again I7 n7
  |cont=>obtain⟨Z7,H7,I7,n7⟩:=q7;exact again I7 n7
  |brk=>obtain⟨Z7,H7,I7,q7⟩:=q7;exact⟨Z7,H7,I7.aU,q7⟩
  |ret v=>obtain⟨x7,Z7,H7,I7,r7,q7⟩:=q7;exact⟨x7,Z7,H7,I7.aU,r7,q7⟩
end
noncomputable abbrev R2:=V->V->Hp->VK->Prop
def c7(X:Cx)(f:Value->Value->Sem Value)(r:R2):Prop:=
 ∀(ak:List (Addr×Obj)) (s:Shared) (Z:St) (H:Hp) (x y:V) (v u:Value) (Q:VK),Inv X ak Z H s->RelV x v->RelV y u->r x y H Q->
  wpAny (model X.prog X.w) X.A (f v u) (EP X ak Z Q) X.xe s
def cj(X:Cx)(f:Value)(r:List V->Hp->VK->Prop):Prop:=
 ∀(ak:List (Addr×Obj)) (s:Shared) (Z:St) (H:Hp) (xs:List V) (us:List Value) (Q:VK),Inv X ak Z H s->Vals xs us->r xs H Q->
  wpAny (model X.prog X.w) X.A (call f us) (EP X ak Z Q) X.xe s
noncomputable def Am(r:R2)(ta tb:TE):TE:=λZ H Q=>ta Z H λx H1=>tb Z H1 λy H2=>r x y H2 Q
noncomputable def rI(C:Int->Int->Prop)(g:Int->Int->V):R2:=λx y H Q=>∃i j,x=.int i/\y=.int j/\C i j/\Q (g i j) H
noncomputable def lq(g:Int->Int->V):R2:=λx y H Q=>∃i j,x=.int i/\y=.int j/\Q (g i j) H
section
variable {X:Cx}{a b c:Expr}{ta tb tc:TE}{pos:Pos}
theorem sI(ha:PE X a ta)(hb:PE X b tb){ak:List (Addr×Obj)}{s:Shared}{Z:St}{H:Hp}{R:V->V->Hp->Prop}(I:Inv X ak Z H s)
  (h:ta Z H λx H1=>tb Z H1 λy H2=>R x y H2) {Q:Value->Shared->Prop} {f:Value->Value->Sem Value}
  (hf:∀v u s2 x y H2,Inv X ak Z H2 s2->RelV x v->RelV y u->R x y H2->wpAny (model X.prog X.w) X.A (f v u) Q X.xe s2) :
  wpAny (model X.prog X.w) X.A (eval a X.env) (λv s₁=>wpAny (model X.prog X.w) X.A (eval b X.env) (λu s₂=>wpAny (model X.prog X.w) X.A (f v u) Q X.xe s₂) X.xe s₁) X.xe s:=by
 refine aN (ha ak s Z H _ I h) λv s1 hx=>fj hx λx H1 I1 r1 q1=>?_;refine aN (hb ak s1 Z H1 _ I1 q1) λu s2 hx=>fj hx λy H2 I2 r2 q2=>?_;exact hf v u s2 x y H2 I2 r1 r2 q2
theorem Ob{op:Operator}{r:R2}(ho:c7 X (binaryOp op) r)(ha:PE X a ta)(hb:PE X b tb):PE X (.BinOp a op b pos) (Am r ta tb):=by
 intro ak s Z H Q I h;exact wpAny_BinOp (sI ha hb I h λv u s2 x y H2 I2 rx ry q=>ho ak s2 Z H2 x y v u Q I2 rx ry q)
theorem Ao{f:Value->Value->Sem Value}{C:Int->Int->Prop}{g:Int->Int->Int}
  (rule:∀(i j:Int) (t u:Tok) (s:Shared) (Q:Value->Shared->Prop) (E:Value->Shared->Prop),C i j->Q (.int (g i j) s.toks) {s with toks:=s.toks+1}->wpAny (model X.prog X.w) X.A (f (.int i t) (.int j u)) Q E s) :
  c7 X f (rI C λi j=>.int (g i j)):=by
 intro ak s Z H x y v u Q I rx ry h;obtain⟨i,j,rfl,rfl,hc,q⟩:=h;obtain⟨t,rfl⟩:=rx;obtain⟨t',rfl⟩:=ry;exact rule i j t t' s _ _ hc ⟨.int (g i j),H,I.tok _,⟨_,rfl⟩,q⟩
theorem wX{f:Value->Value->Sem Value}{g:Int->Int->Int}
  (rule:∀(i j:Int) (t u:Tok) (s:Shared) (Q:Value->Shared->Prop) (E:Value->Shared->Prop),Q (.int (g i j) s.toks) {s with toks:=s.toks+1}->wpAny (model X.prog X.w) X.A (f (.int i t) (.int j u)) Q E s) :
  c7 X f (lq λi j=>.int (g i j)):=by
 intro ak s Z H x y v u Q I rx ry h;obtain⟨i,j,rfl,rfl,q⟩:=h;obtain⟨t,rfl⟩:=rx;obtain⟨t',rfl⟩:=ry;exact rule i j t t' s _ _ ⟨.int (g i j),H,I.tok _,⟨_,rfl⟩,q⟩
theorem sJ{f:Value->Value->Sem Value}{g:Int->Int->Bool}
  (rule:∀(i j:Int) (t u:Tok) (s:Shared) (Q:Value->Shared->Prop) (E:Value->Shared->Prop),Q (.bool (g i j)) s->wpAny (model X.prog X.w) X.A (f (.int i t) (.int j u)) Q E s) :
  c7 X f (lq λi j=>.bl (g i j)):=by
 intro ak s Z H x y v u Q I rx ry h;obtain⟨i,j,rfl,rfl,q⟩:=h;obtain⟨t,rfl⟩:=rx;obtain⟨t',rfl⟩:=ry;exact rule i j t t' s _ _ ⟨.bl (g i j),H,I,rfl,q⟩
def pA(i j:Int):Prop:=0<j/\j<1073741824
def wY(i j:Int):Prop:=0<=j/\j<=1000000/\i.natAbs<2^64
def pB(i j:Int):Prop:=(-(2^64)<i/\i<2^64)\/(-(2^64)<j/\j<2^64)
theorem pB.ok{i j:Int}(h:pB i j):IntMulOk i j:=by
 rcases h with ⟨h1,h2⟩|⟨h1,h2⟩
 ·exact .of_left (intBits_le_64 h1 h2)
 ·exact .of_right (intBits_le_64 h1 h2)
theorem sO:c7 X (binaryOp .Add) (lq λi j=>.int (i+j)):=wX λ_ _ _ _ _ _ _ q=>add_int q
theorem Oc:c7 X (binaryOp .Sub) (lq λi j=>.int (i-j)):=wX λ_ _ _ _ _ _ _ q=>sub_int q
theorem Od:c7 X (binaryOp .Mult) (rI pB λi j=>.int (i*j)):=Ao λ_ _ _ _ _ _ _ hc q=>mul_int q hc.ok
theorem Oe:c7 X (binaryOp .FloorDiv) (rI pA λi j=>.int (i/j)):=Ao λi j _ _ _ _ _ hc q=>by
 have h1:(0:Int)<j:=hc.1;have h2:j<1073741824:=hc.2;exact floordiv_int (by lia) (by rw[Int.fdiv_eq_ediv_of_nonneg i (by lia)];exact q) (.inl (PyProof.noPylong_small (by lia)))
theorem Og:c7 X (binaryOp .Mod) (rI (λ_ j=>0<j) λi j=>.int (i%j)):=Ao λi j _ _ _ _ _ hc q=>by
 have h1:(0:Int)<j:=hc;exact mod_int' (by lia) (by rw[Int.fmod_eq_emod_of_nonneg i (by lia)];exact q)
theorem Oh:c7 X (binaryOp .Pow) (rI wY λi j=>.int (i^j.toNat)):=Ao λ_ _ _ _ _ _ _ hc q=>pow_int_small hc.1 hc.2.1 hc.2.2 q
end
section
variable {X:Cx}{a b c:Expr}{ta tb tc:TE}{pos:Pos}
theorem wZ:c7 X (compareOp .Lt) (lq λi j=>.bl (decide (i<j))):=sJ λ_ _ _ _ _ _ _ q=>lt_int q
theorem Oi:c7 X (compareOp .Gt) (lq λi j=>.bl (decide (j<i))):=sJ λ_ _ _ _ _ _ _ q=>gt_int q
theorem Oj:c7 X (compareOp .GtE) (lq λi j=>.bl (decide (j<=i))):=sJ λ_ _ _ _ _ _ _ q=>ge_int q
theorem c7.or{f:Value->Value->Sem Value}{r r':R2}(h:c7 X f r)(h':c7 X f r'):c7 X f (λx y H Q=>r x y H Q\/r' x y H Q):=by
 intro ak s Z H x y v u Q I rx ry q;rcases q with q|q
 ·exact h ak s Z H x y v u Q I rx ry q
 ·exact h' ak s Z H x y v u Q I rx ry q
theorem Ol{op:CmpOp}{r:R2}(ho:c7 X (compareOp op) r)(ha:PE X a ta)(hb:PE X b tb)(hm:behindInMarks op b=false):PE X (.Compare a [op] [b] pos) (Am r ta tb):=by
 intro ak s Z H Q I h;exact wpAny_Compare1 (sI ha hb I h λv u s2 x y H2 I2 rx ry q=>ho ak s2 Z H2 x y v u Q I2 rx ry q) hm
noncomputable def w6(t:TE):TT:=λZ H Q=>t Z H λx H'=>∃k,x=.bl k/\Q k H'
theorem Om{op:CmpOp}{r:R2}(ho:c7 X (compareOp op) r)(ha:PE X a ta)(hb:PE X b tb)(hm:behindInMarks op b=false):PT X (.Compare a [op] [b] pos) (w6 (Am r ta tb)):=by
 intro ak s Z H Q I h;refine wpAny_isTrue_Compare1 (aN (ha ak s Z H _ I h) λv s1 hx=>fj hx λx H1 I1 r1 q1=>aN (hb ak s1 Z H1 _ I1 q1) λu s2 hx=>fj hx λy H2 I2 r2 q2=>
  aN (ho ak s2 Z H2 x y v u _ I2 r1 r2 q2) λc s3 hx=>Hq hx λz H3 I3 r3 k e q3=>?_) hm
 subst e;cases r3;exact u9 ⟨H3,I3,q3⟩
theorem fQ:(sizeLine:Nat)<2^63:=by rw[qx];decide
theorem Oo:c7 X (binaryOp .Add) (λx y H Q=>∃i j,x=.str i/\y=.str j/\i.length+j.length<=sizeLine/\Q (.str (i++j)) H):=by
 intro ak s Z H x y v u Q I rx ry h;obtain⟨i,j,rfl,rfl,hz,q⟩:=h;obtain⟨t,rfl⟩:=rx;obtain⟨t',rfl⟩:=ry;exact add_str (λt' tk=>⟨.str (i++j),H,I.tok _,⟨_,rfl⟩,q⟩) hz
theorem vals1{x:V}{us:List Value}(r:Vals [x] us):∃u,us=[u]/\RelV x u:=by
 cases r with
 |cons r1 r2=>cases r2;exact⟨_,rfl,r1⟩
theorem vals2{x y:V}{us:List Value}(r:Vals [x,y] us):∃u w',us=[u,w']/\RelV x u/\RelV y w':=by
 cases r with
 |cons r1 r2=>
  cases r2 with
  |cons r3 r4=>cases r4;exact⟨_,_,rfl,r1,r3⟩
theorem Oq(hc:X.aj=true):cj X (.builtin "max") (λxs H Q=>∃i j,xs=[.int i,.int j]/\Q (.int (if j>i then j else i)) H):=by
 intro ak s Z H xs us Q I r h;obtain⟨i,j,rfl,q⟩:=h;obtain⟨u,w',rfl,⟨t,rfl⟩,⟨t',rfl⟩⟩:=vals2 r;refine max_two_ints (I.ok.hd hc) λh' tk k=>⟨_,H,I.kept k,?_,q⟩;by_cases hj:j>i
 ·rw[if_pos hj,if_pos hj];exact⟨_,rfl⟩
 ·rw[if_neg hj,if_neg hj];exact⟨_,rfl⟩
theorem Ot(hc:X.aj=true):cj X (.builtin "min") (λxs H Q=>∃i j,xs=[.int i,.int j]/\Q (.int (if j<i then j else i)) H):=by
 intro ak s Z H xs us Q I r h;obtain⟨i,j,rfl,q⟩:=h;obtain⟨u,w',rfl,⟨t,rfl⟩,⟨t',rfl⟩⟩:=vals2 r;refine min_two_ints (I.ok.hd hc) λh' tk k=>⟨_,H,I.kept k,?_,q⟩;by_cases hj:j<i
 ·rw[if_pos hj,if_pos hj];exact⟨_,rfl⟩
 ·rw[if_neg hj,if_neg hj];exact⟨_,rfl⟩
theorem Ou:cj X (.type "int") (λxs H Q=>(∃i,xs=[.int i]/\Q (.int i) H)\/∃k,xs=[.bl k]/\Q (.int (if k then 1 else 0)) H):=by
 intro ak s Z H xs us Q I r h;rcases h with ⟨i,rfl,q⟩|⟨k,rfl,q⟩
 ·obtain⟨u,rfl,t,rfl⟩:=vals1 r;exact call_int_int ⟨.int i,H,I,⟨_,rfl⟩,q⟩
 ·obtain⟨u,rfl,r1⟩:=vals1 r;cases r1;exact call_int_bool ⟨.int (if k then 1 else 0),H,I.tok _,⟨_,rfl⟩,q⟩
theorem Ov:cj X (.builtin "divmod") (λxs H Q=>∃i j,xs=[.int i,.int j]/\pA i j/\∀p,H p=none->Q (.ref p) (upd H p (.tup [.int (i/j),.int (i%j)]))):=by
 intro ak s Z H xs us Q I r h;obtain⟨i,j,rfl,⟨h1,h2⟩,q⟩:=h;obtain⟨u,w',rfl,⟨t,rfl⟩,⟨t',rfl⟩⟩:=vals2 r;refine divmod_int (by lia) ?_ (.inl (PyProof.noPylong_small (by lia)));rw[Int.fdiv_eq_ediv_of_nonneg i (by lia),Int.fmod_eq_emod_of_nonneg i (by lia)];have hn:H s.heap.objs.size=none:=I.hok.fresh (cg _);refine⟨.ref s.heap.objs.size,_,?_,rfl,q _ hn⟩;refine I.laid (λb o e=>cP _ e) (cg _) ⟨by simp only[iU,wg];rw[qx];decide,[.int (i/j) s.toks,.int (i%j) (s.toks+1)],.cons ⟨_,rfl⟩ (.cons ⟨_,rfl⟩ .nil),?_⟩;exact⟨_,h_ s.heap rfl,rfl,0,rfl⟩
end
section
variable {prog:Program}{w:World}{A:Around}{E:Value->Shared->Prop}{s:Shared}{K:W.Frag}{x dx C f:Addr}{mA:Str->Option Value}{name:Str}{v:Value}
end
section
variable {P:Program}{w:World}{H H':Hp}{h h':Heap}{a C dx:Addr}{fs fs':List (Str×V)}
end
section
variable {X:Cx}{ak:List (Addr×Obj)}{Z:St}{H:Hp}{s:Shared}{a C dx:Addr}{fs:List (Str×V)}{f:Str}{v:V}{A:Around}{E:Value->Shared->Prop}
end
section
variable {X:Cx}{o e value:Expr}{f:Str}{pos pos' tpos:Pos}{ta tv:TE}
end
section
variable {X:Cx}{ak:List (Addr×Obj)}{Z:St}{H:Hp}{s:Shared}{A:Around}{E:Value->Shared->Prop}{Q:Value->Shared->Prop}{c:Value}{b:Bool}
end
structure bJ(k:Nat)(A:Around):Prop where
 dp:A.depth+3*k+5<recursionLimit
 un:A.units+16*k+200<cLine
 gd:A.guards=some []
theorem bJ.deeper{k:Nat}{A:Around}(r:bJ (k+1) A)(env:Env):bJ k (A.deeper env):=
 ⟨by have:=r.dp;show A.depth+1+3*k+5<_;lia,by have:=r.un;show A.units+3+16*k+200<_;lia,r.gd⟩
theorem bJ.depth{k:Nat}{A:Around}(r:bJ k A):A.depth<recursionLimit:=by have:=r.dp;lia
noncomputable def xq:TA:=λ_ H Q=>Q [] H
noncomputable def qH(ta:TE)(tr:TA):TA:=λZ H Q=>ta Z H λx H1=>tr Z H1 λxs H2=>Q (x::xs) H2
section
variable {X:Cx}{e:Expr}{es:List Expr}{te:TE}{t:TA}{pos:Pos}
theorem sS:PA X [] xq:=λ_ _ _ _ H Q I h=>Calls.spliced_nil ⟨[],H,I,.nil,h⟩
theorem ou(ha:PE X e te)(hr:PA X es t)(hs:starEach (e::es) X.env=(false,eval e X.env)::starEach es X.env:=by rfl):PA X (e::es) (qH te t):=by
 intro pos ak s Z H Q I h;rw[hs];show wpAny _ _ (spliced ((false,eval e X.env)::backTo pos (starEach es X.env))) _ _ s;refine Calls.spliced_cons (aN (ha ak s Z H _ I h) λu s1 hx=>fj hx λx H1 I1 r1 q1=>?_);exact aN (hr pos ak s1 Z H1 _ I1 q1) λus s2 hx=>fj hx λxs H2 I2 r2 q2=>⟨x::xs,H2,I2,.cons r1 r2,q2⟩
noncomputable def Dm(t:TA):TE:=λZ H Q=>t Z H λxs H1=>xs.length<=sizeLine/\∀p,H1 p=none->Q (.ref p) (upd H1 p (.tup xs))
noncomputable def Dn(t:TA):TE:=λZ H Q=>t Z H λxs H1=>xs.length<=sizeLine/\∀p,H1 p=none->Q (.ref p) (upd H1 p (.lst xs))
theorem Ow{x1}(h:PA X es t):PE X (.Tuple es x1 pos) (Dm t):=by
 intro ak s Z H Q I hq;refine wpAny_Tuple_spliced (aN (h pos ak s Z H _ I hq) λus s1 ⟨xs,H1,I1,r,z,q⟩=>⟨by rw[<-r.length];exact z,?_⟩);have hf:H1 s1.heap.objs.size=none:=I1.hok.fresh (cg _);refine⟨.ref s1.heap.objs.size,upd H1 s1.heap.objs.size (.tup xs),I1.laid (t':=s1.toks) (λb u e=>cP _ e) (cg _) ?_,rfl,q _ hf⟩;exact⟨z,us,r,⟨_,h_ _ rfl,rfl,_,rfl⟩⟩
theorem Ox(h:PA X es t):PE X (.List es pos) (Dn t):=by
 intro ak s Z H Q I hq;refine wpAny_List_spliced (aN (h pos ak s Z H _ I hq) λus s1 ⟨xs,H1,I1,r,z,q⟩=>⟨by rw[<-r.length];exact z,?_⟩);have hf:H1 s1.heap.objs.size=none:=I1.hok.fresh (cg _);refine⟨.ref s1.heap.objs.size,upd H1 s1.heap.objs.size (.lst xs),I1.laid (t':=s1.toks) (λb u e=>cP _ e) (cg _) ?_,rfl,q _ hf⟩;exact⟨z,us,0,r,h_ _ rfl⟩
end
noncomputable abbrev Sp:=List V->Hp->VK->XK->Prop
noncomputable abbrev lU:=List Env->Hp->Shared->XK->Value->Shared->Prop
structure pC(P:Program)(w:World)(K:W.Frag)(mg:Str->Option Value)(base:Heap)(A:Around)(outer:List Env)(s:Shared)(H:Hp):Prop where
 frames:A.frames=some outer
 mod:Mod K mg base
 bs:∀b o,base.get? b=some o->s.heap.get? b=some o/\H b=none
 qC:base.objs.size<=s.heap.objs.size
 fO:s.heap.FunFrames base outer
 rT:(∀b∈frs outer,H b=none)/\rR K H
 hok:dX P w H s.heap
 bare:AllBare s.gens
def CE(outer:List Env)(P:Program)(w:World)(H:Hp)(s:Shared)(Q:VK)(u:Value)(s':Shared):Prop:=
 ∃v H',s'.os=s.os/\AllBare s'.gens/\Un (frs outer) [] H H' s.heap s'.heap/\dX P w H' s'.heap/\RelV v u/\Q v H'
def CR(CX:lU)(outer:List Env)(P:Program)(w:World)(H:Hp)(s:Shared)(Q:VK)(E:XK)(r:Result)(s':Shared):Prop:=
 match r with
 |.ok (.ret u)=>CE outer P w H s Q u s'
 |.ok _=>False
 |.error e=>CX outer H s E e s'
structure bY(P:Program)(w:World)(K:W.Frag)(mg:Str->Option Value)(base:Heap)(CX:lU)(cm:Bool)(k:Nat)(f:Addr)(fd:FuncData)(ps:List Str)(sp:Sp):Prop where
 len:∀vs H Q E,sp vs H Q E->vs.length=ps.length
 run:∀(A:Around) (outer:List Env) (s:Shared) (H:Hp) (args:Args) (us:List Value) (vs:List V) (Q:VK) (E:XK),(cm=true->A.handled=none)->bJ k A->pC P w K mg base A outer s H->BindsTo s fd args (ps.zip us)->Vals vs us->sp vs H Q E->
  codeAny (model P w) A (.call (.ref f) args) (CR CX outer P w H s Q E) s
theorem bY.imp{P:Program}{w:World}{K:W.Frag}{mg:Str->Option Value}{base:Heap}{CX:lU}{cm:Bool}{k:Nat}{f:Addr}{fd:FuncData}{ps:List Str}{sp HW:Sp}(F:bY P w K mg base CX cm k f fd ps sp)
  (h:∀vs H Q E,HW vs H Q E->sp vs H Q E):bY P w K mg base CX cm k f fd ps HW:=
 ⟨λvs H Q E q=>F.len vs H Q E (h _ _ _ _ q),λA outer s H args us vs Q E jB hr he hb hv hs=>F.run A outer s H args us vs Q E jB hr he hb hv (h _ _ _ _ hs)⟩
section
variable {X:Cx}{ak:List (Addr×Obj)}{Z:St}{H:Hp}{s s':Shared}
theorem Inv.env0(I:Inv X ak Z H s):pC X.prog X.w X.K X.mg X.base X.A X.stack s H:=
 ⟨I.ok.frames,I.ok.mod,I.bs,kY I.ok.qC I.sz,I.stack,⟨I.iy,I.rU⟩,I.hok,I.bare⟩
theorem Inv.after{Q:VK}{u:Value}(I:Inv X ak Z H s)(h:CE X.stack X.prog X.w H s Q u s'):EP X ak Z Q u s':=by
 obtain⟨v,H',os,bare,un,hok,r,q⟩:=h;obtain⟨hh,g,d,t,os'⟩:=s';obtain rfl:os'=s.os:=os;exact⟨v,H',I.call (h':=hh) (g':=g) (d':=d) (t':=t) (ch:=[]) un hok bare (λb z=>absurd z (by simp)),r,q⟩
end
def Binds(K:W.Frag)(fd:FuncData)(ps:List Str)(ds:List Value):Prop:=
 ∀(s:Shared) (us:List Value),K.In s.heap->(us++ds).length=ps.length->BindsTo s fd ⟨us,[]⟩ (ps.zip (us++ds))
theorem Binds.all{K:W.Frag}{fd:FuncData}{ps:List Str}(h:∀us:List Value,us.length=ps.length->bindArgs fd ⟨us,[]⟩=pure (ps.zip us)):Binds K fd ps []:=λs us _ hl=>by
 rw[z_] at hl ⊢;exact .of_eq (h us hl)
section
variable {X:Cx}{CX:lU}{cm:Bool}{k:Nat}{f C:Addr}{fd:FuncData}{ps:List Str}{sp:Sp}{YM:List V}{ds:List Value}{E:XK}{x m:Str}{p pos apos:Pos}{e o:Expr}{es:List Expr}{ta:TE}{t:TA}
end
section
variable {X:Cx}{CX:lU}{cm:Bool}{k:Nat}{f C:Addr}{fd:FuncData}{ps ks:List Str}{sp:Sp}{E:XK}{x m:Str}{p pos apos kpos:Pos}{e o:Expr}{es:List Expr}{kws:List Keyword}{te ta:TE}{t tk:TA}{nm:Option Str}
variable {g:List Value->List Value->List Value}{gV:List V->List V->List V}
end
structure bG(N P:List Str)(sc:Scope):Prop where
 kind:sc.kind=.function
 co:sc.isCoroutine=false
 gen:sc.isGenerator=false
 nd:N.Nodup
 pre:N.take P.length=P
 par:∀x∈P,sc.names.lookup x=some .local\/sc.names.lookup x=some .cell
 sU:∀y∈sc.names,y.2≠.free
theorem HX{kindOf:Str->Option NameKind}{x:Str}:∀{binds:List (Str×Value)} {m:Str->Option Value},(∀v,(x,v)∉binds)->bindL kindOf binds m x=m x
 |[],_,_=>rfl
 |(n,v)::r,m,h=>by
  unfold bindL;rw[HX λw hw=>h w (gP _ hw)]
  split
  ·have:x≠n:=by rintro rfl;exact h v jx
   simp[this]
  ·rfl
theorem HY{kindOf:Str->Option NameKind}{x:Str}:∀{binds:List (Str×Value)} {m:Str->Option Value},(∀v,(x,v)∉binds)->bindC kindOf binds m x=m x
 |[],_,_=>rfl
 |(n,v)::r,m,h=>by
  unfold bindC;rw[HY λw hw=>h w (gP _ hw)]
  split
  ·rfl
  ·have:x≠n:=by rintro rfl;exact h v jx
   simp[this]
theorem H_{kindOf:Str->Option NameKind}{x:Str}{v:Value}:∀{P:List Str} {vs:List Value} {i:Nat} {m:Str->Option Value},P.Nodup->P[i]?=some x->vs[i]?=some v->kindOf x=some .local->
  bindL kindOf (P.zip vs) m x=some v
 |[],_,_,_,_,h,_,_=>by simp at h
 |_::_,[],_,_,_,_,h,_=>by simp at h
 |p::P,w::vs,0,m,nd,h1,h2,hk=>by
  simp at h1 h2;subst h1;subst h2;show bindL kindOf ((p,w)::P.zip vs) m p=_;unfold bindL;rw[HX λv hv=>(rG.mp nd).1 (List.of_mem_zip hv).1,if_pos hk];simp
 |p::P,w::vs,i+1,m,nd,h1,h2,hk=>by
  show bindL kindOf ((p,w)::P.zip vs) m x=_;unfold bindL;exact H_ (i:=i) (rG.mp nd).2 (by simpa using h1) (by simpa using h2) hk
theorem Ia{kindOf:Str->Option NameKind}{x:Str}{v:Value}:∀{P:List Str} {vs:List Value} {i:Nat} {m:Str->Option Value},P.Nodup->P[i]?=some x->vs[i]?=some v->kindOf x≠some .local->
  bindC kindOf (P.zip vs) m x=some v
 |[],_,_,_,_,h,_,_=>by simp at h
 |_::_,[],_,_,_,_,h,_=>by simp at h
 |p::P,w::vs,0,m,nd,h1,h2,hk=>by
  simp at h1 h2;subst h1;subst h2;show bindC kindOf ((p,w)::P.zip vs) m p=_;unfold bindC;rw[HY λv hv=>(rG.mp nd).1 (List.of_mem_zip hv).1,if_neg hk];simp
 |p::P,w::vs,i+1,m,nd,h1,h2,hk=>by
  show bindC kindOf ((p,w)::P.zip vs) m x=_;unfold bindC;exact Ia (i:=i) (rG.mp nd).2 (by simpa using h1) (by simpa using h2) hk
noncomputable def start(N:List Str)(vs:List V):St:=vs.map some++List.replicate (N.length-vs.length) none
noncomputable def bZ(CX:lU)(P:Program)(w:World)(K:W.Frag)(mg:Str->Option Value)(base:Heap)(N:List Str)(qual:Str)(scope:Scope)(f:Addr)(cd:Value)(A:Around)(outer:List Env)(s:Shared)(H:Hp)(E:XK)(cm:Bool):Cx where
 prog:=P
 w:=w
 K:=K
 mg:=mg
 base:=base
 A:=A.deeper (envOfC qual scope s.heap.objs.size f cd)
 N:=N
 s₀:=s
 H₀:=H
 env:=envOfC qual scope s.heap.objs.size f cd
 outer:=outer
 stack:=envOfC qual scope s.heap.objs.size f cd::outer
 ex:=[]
 aj:=cm
 fn:=λ_=>true
 pn:=[]
 xe:=λe s'=>wpAny (model P w) (A.deeper (envOfC qual scope s.heap.objs.size f cd)) (leaving (envOfC qual scope s.heap.objs.size f cd) e) (λ_ s''=>CX outer H s E e s'') (λe' s''=>CX outer H s E e' s'') s'
theorem Ib{sc:Scope}{n:Nat}{x:Str}(h:sc.names.lookup x=some .cell):∃c,(cellsFrom n sc.names []).lookup x=some c:=by
 have q:=zT sc.names n [] (.inl h);exact BX.mp q
theorem Ie{CX:lU}{P:Program}{w:World}{K:W.Frag}{mg:Str->Option Value}{base:Heap}{N ps:List Str}{qual:Str}{scope:Scope}{f:Addr}{cd:Value}{A:Around}{outer:List Env}{s s1:Shared}{H:Hp}{E:XK}{us:List Value}{vs:List V}
  {cm:Bool} (S:bG N ps scope) (hd:cm=true->A.handled=none) (e0:pC P w K mg base A outer s H) (hl:vs.length=ps.length) (r:Vals vs us)
  (x:InCallC s s.heap.objs.size (bindL (envOfC qual scope s.heap.objs.size f cd).kindOf (ps.zip us) λ_=>none) (cellsFrom (s.heap.objs.size+1) scope.names []) (bindC (envOfC qual scope s.heap.objs.size f cd).kindOf (ps.zip us) λ_=>none) s1) :
  Inv (bZ CX P w K mg base N qual scope f cd A outer s H E cm) [] (start N vs) H s1:=by
 have cL:ps.length<=N.length:=by have:=lM List.length S.pre;rw[v8] at this;lia
 obtain⟨h1,tk,rfl,hk⟩:=x.done;have xr:∀b:Addr,b∉(bZ CX P w K mg base N qual scope f cd A outer s H E cm).ex:=λb z=>absurd (show b∈([]:List Addr) from z) (by simp);refine⟨⟨e0.mod,S.kind,rfl,rfl,cg _,λy z c h1 h2=>?_,λy hy=>?_,λy c _ h=>?_,hd,Around.frames_deeper e0.frames,.inr ⟨rfl,rfl⟩,λb z=>absurd z (xr b),e0.bs,e0.qC,λb _ _=>xr b,λb z=>absurd z (xr b),e0.fO,e0.rT⟩,
  rfl,e0.bare,Un.kept hk,⟨_,x.toInCall.ns,λi y v h1 h2 h3=>?_⟩,λy c h=>⟨_,x.cell y c h⟩,e0.hok.fresh (cg _),λy c h=>?_,λp hp=>absurd (show p∈([]:List (Addr×Obj)) from hp) (by simp),e0.hok.kept hk,?_⟩
 ·exact name_of_addr x.apart (u5 h1) (u5 h2)
 ·have hy:scope.names.lookup y=some .cell\/scope.names.lookup y=some .free:=hy;rcases hy with hy|hy
  ·exact Ib hy
  ·exact absurd rfl (S.sU _ (u5 hy))
 ·exact lK (x.above y c (u5 h))
 ·have hi:i<vs.length:=by
   unfold start at h2;by_cases hi:i<vs.length
   ·exact hi
   ·rw[jO (by simpa using hi)] at h2;rw[vX] at h2;split at h2<;>cases h2
  have ha:vs[i]?=some v:=by
   unfold start at h2;rw[jw (by simpa using hi),oU] at h2;cases e:vs[i]? with
   |none=>rw[e] at h2;cases h2
   |some a=>rw[e] at h2;cases h2;rfl
  obtain⟨u,hu,rv⟩:=r.get ha;have hp:ps[i]?=some y:=by
   rw[<-S.pre,List.getElem?_take_of_lt (by lia)];exact h1
  have Ig:ps.Nodup:=by rw[<-S.pre];exact S.nd.sublist (List.take_sublist _ _)
  refine⟨u,rv,?_⟩;rcases S.par y (iR hp) with k|k
  ·exact .inl ⟨k,H_ Ig hp hu k⟩
  ·obtain⟨c,e⟩:=Ib (n:=s.heap.objs.size+1) k;refine .inr ⟨.inl k,c,e,?_⟩;have q:=x.cell y c e;rw[Ia Ig hp hu (by show scope.names.lookup y≠_;rw[k];decide)] at q;exact q
 ·exact e0.hok.fresh (lK (x.above y c (u5 h)))
 ·unfold start;show _=N.length;rw[jy,nW,vY]
  lia
theorem Ih{CX:lU}{cm:Bool}{P:Program}{w:World}{K:W.Frag}{mg:Str->Option Value}{base:Heap}{k:Nat}{f:Addr}{name qual:Str}{params:Arguments}{body:List Stmt}{scope:Scope}{dV kV doc pm cdv ct oc:Value}{an od:Option Addr}
  {osl:Array (Option Value)} {N ps:List Str} {sp:Sp} (lk:K.lookup f=some ⟨oc,od,.func (PySem.W.fnOf name qual params body scope dV kV doc pm an cdv ct),osl⟩) (gG:PySem.W.codeIn K cdv qual=true) (S:bG N ps scope)
  (len:∀vs H Q E,sp vs H Q E->vs.length=ps.length)
  (xu:∀(A:Around) (outer:List Env) (s:Shared) (H:Hp) (vs:List V) (Q:VK) (E:XK),bJ (k+1) A->sp vs H Q E->
   ∃t,jX (bZ CX P w K mg base N qual scope f cdv A outer s H E cm) body t/\t {nx:=λ_ H'=>Q .non H',rt:=Q} (start N vs) H) :
  bY P w K mg base CX cm (k+1) f (PySem.W.fnOf name qual params body scope dV kV doc pm an cdv ct) ps sp:=by
 refine⟨len,λA outer s H args us vs Q E jB hr e0 hb r Aq=>?_⟩;have hl:=len _ _ _ _ Aq;have KX:K.In s.heap:=e0.mod.rN.keeps λb o e=>(e0.bs b o e).1;have lim:s.heap.NoLimit:=e0.mod.nolimit.keeps λb o e=>(e0.bs b o e).1;have mO:∀y∈ps.zip us,scope.names.lookup y.1=some .local\/(scope.names.lookup y.1=some .cell/\((cellsFrom (s.heap.objs.size+1) scope.names []).lookup y.1).isSome=true):=λ⟨n,v⟩ hy=>by
  rcases S.par n (List.of_mem_zip hy).1 with q|q
  ·exact .inl q
  ·exact .inr ⟨q,zT _ _ _ (.inl q)⟩
 refine codeAny_call_function hr.depth (KX _ _ lk) rfl S.co S.gen rfl (PySem.W.codeRec_of KX gG) (hb _ _ _ _ ?_);refine wpAny_newFunctionEnv_cells S.kind mO λenv he s1 x=>?_;subst he;refine⟨lim.keeps x.toInCall.keep,codeAny_func ?_⟩;obtain⟨t,ht,hq⟩:=xu A outer s H vs Q E hr Aq;have I:Inv (bZ CX P w K mg base N qual scope f cdv A outer s H E cm) [] (start N vs) H s1:=Ie S jB e0 hl r x;refine dB (ht [] s1 (start N vs) H _ I hq) (λfl s' hs=>?_) λe s' hs=>hs;have fin:∀{Z':St} {H':Hp} {v:V} {u:Value},Inv (bZ CX P w K mg base N qual scope f cdv A outer s H E cm) [] Z' H' s'->RelV v u->Q v H'->CE outer P w H s Q u s':=
  λ{Z' H' v u} aK rv q=>⟨v,H',aK.os,aK.bare,aK.base,aK.hok,rv,q⟩
 cases fl with
 |ret u=>
  obtain⟨v,Z',H',aK,rv,q⟩:=hs;exact fin aK rv q
 |next=>
  obtain⟨Z',H',aK,q⟩:=hs;exact fin (v:=V.non) (u:=Value.none) aK rfl q
 |brk=>
  obtain⟨_,_,_,q⟩:=hs;exact False.elim q
 |cont=>
  obtain⟨_,_,_,q⟩:=hs;exact False.elim q
section
variable {X:Cx}{x:Str}{p pos:Pos}{e:Expr}{es:List Expr}{t:TA}{id T:String}{r:List V->Hp->VK->Prop}
noncomputable def Ii(r:List V->Hp->VK->Prop)(t:TA):TE:=λZ H Q=>t Z H λvs H1=>r vs H1 Q
theorem Ij(hc:cj X (.builtin id) r)(hg:Gl X x)(hm:X.mg x=none)(hv:bootBuiltins x=some (.builtin id))(ha:PA X (e::es) t)(hn:x≠"__name__":=by decide)(mQ:(x==("__debug__" : Str))=false:=by decide)
  (he:starEach (e::es) X.env=(false,eval e X.env)::starEach es X.env:=by rfl) (cL:(backTo pos (starEach es X.env)).any (·.1)=false:=by rfl):PE X (.Call (.Name x p) (e::es) [] pos) (Ii r t):=by
 intro ak s Z H Q I h;refine zX (vm I hg hm hv ?_ hn mQ);exact PyProof.Rows.callWith_builtin1 (aN (ha pos ak s Z H _ I h) λus s1 hx=>fj hx λvs H1 I1 r1 q1=>hc ak s1 Z H1 vs us Q I1 r1 q1) he cL
theorem Oz(hc:cj X (.type T) r)(hg:Gl X x)(hm:X.mg x=none)(hv:bootBuiltins x=some (.type T))(ha:PA X (e::es) t)(hn:x≠"__name__":=by decide)(mQ:(x==("__debug__" : Str))=false:=by decide)
  (he:starEach (e::es) X.env=(false,eval e X.env)::starEach es X.env:=by rfl) (cL:(backTo pos (starEach es X.env)).any (·.1)=false:=by rfl):PE X (.Call (.Name x p) (e::es) [] pos) (Ii r t):=by
 intro ak s Z H Q I h;refine zX (vm I hg hm hv ?_ hn mQ);exact BW (aN (ha pos ak s Z H _ I h) λus s1 hx=>fj hx λvs H1 I1 r1 q1=>hc ak s1 Z H1 vs us Q I1 r1 q1) he cL
end
end L2
namespace HT
open PySem PyProof.Rows
noncomputable def lexLt:List Int->List Int->Bool
 |[],[]=>false
 |[],_::_=>true
 |_::_,[]=>false
 |x::xs,y::ys=>if x=y then lexLt xs ys else decide (x<y)
theorem fU(x y:Int)(xs ys:List Int):lexLt (x::xs) (y::ys)=if x=y then lexLt xs ys else decide (x<y):=rfl
theorem OD:lexLt [] []=false:=rfl
theorem OJ(y:Int)(ys:List Int):lexLt [] (y::ys)=true:=rfl
theorem O1(x:Int)(xs:List Int):lexLt (x::xs) []=false:=rfl
theorem O2(A:Around)(s:Shared)(a:Int)(t:Tok)(c:Int)(u:Tok):∃e,SeqAt.EqAt A s (.int a t) (.int c u) e/\(e=true↔a=c):=
 ⟨(a==c),SeqAt.EqAt.int_int a t c u,by simp⟩
theorem O4(A:Around)(s:Shared)(a:Int)(t:Tok)(c:Int)(u:Tok)(prog:Program)(w:World)(E:Value->Shared->Prop)(Q:Value->Shared->Prop)(h:Q (.bool (decide (a<c))) s) :
  wpAny (model prog w) A (richCompare .Lt (.int a t) (.int c u)) Q E s:=
 (PyProof.Rows.lt_int h:wpAny (model prog w) A (compareOp .Lt (.int a t) (.int c u)) Q E s)
section
open PySem.SeqAt
open PySem.AutoSeq1 (wpAny_loadPart')
open PySem.MeetsSeq PySem.MeetsSeq2 PySem.MeetsSeq3
theorem O5(l b:Addr)(items items2:Array Value)(n n2:Nat)(dd dd2:Option Addr)(sl sl2:Array (Option Value))(ns ms:List Int)(hi:IntsAre items.toList ns)(hj:IntsAre items2.toList ms) :
  Meets (Builtin.«tuple.__lt__» ⟨[.ref l,.ref b],[]⟩)
   (λ_ R s=>s.heap.get? l=some {cls:=.type "tuple",dict:=dd,data:=.seq items n,slots:=sl}/\s.heap.get? b=some {cls:=.type "tuple",dict:=dd2,data:=.seq items2 n2,slots:=sl2} /\
    R (.ok (.ret (.bool (lexLt ns ms)))) s):=
 .of_wp λprog w A R s h=>by
  obtain⟨hp,g,d,tk,os⟩:=s;obtain⟨hl,hb,h⟩:=h;have f2:=AutoSeq1.sub_tuple_tuple;have z1:items.size=ns.length:=by rw[<-hi.length];simp
  have z2:items2.size=ms.length:=by rw[<-hj.length];simp
  wp_walk using wpAny_loadPart' hl,wpAny_loadPart' hb,wpAny_forIn_list _ (λrest b s'=>b.1=none/\s'=⟨hp,g,d,tk,os⟩/\∃(vs ws:List Value) (ns' vo:List Int),rest=vs.zip ws /\
   IntsAre vs ns'/\IntsAre ws vo/\ns'.length+items2.size=vo.length+items.size/\R (.ok (.ret (.bool (lexLt ns' vo)))) ⟨hp,g,d,tk,os⟩) _
  case turn=>
   rintro⟨y,x⟩ rest b s' ⟨hb',rfl,vs,ws,ns',vo,hz,Dp,Ar,hlen,hR⟩;cases Dp with
   |nil=>rw[List.zip_nil_left] at hz;cases hz
   |cons a t Dq=>
    cases Ar with
    |nil=>rw[List.zip_nil_right] at hz;cases hz
    |cons c u Dr=>
     rw[Cj] at hz;injection hz with O6 xG;injection O6 with hy hx;subst hy hx;rw[fU] at hR;simp only[iU] at hlen;obtain⟨e,he,xH⟩:=O2 A.in1 ⟨hp,g,d,tk,os⟩ a t c u;refine aB (he prog w _ _ ?_);cases e with
     |true=>
      rw[if_pos (xH.mp rfl)] at hR
      wp_walk
      exact⟨rfl,rfl,_,_,_,_,xG,Dq,Dr,by lia,hR⟩
     |false=>
      rw[if_neg (λq=>absurd (xH.mpr q) zW)] at hR;have O7:=O4 A.in1 ⟨hp,g,d,tk,os⟩ a t c u prog w
      wp_walk using O7
      exact⟨_,rfl,by simpa using hR⟩
  case fin=>
   rintro⟨b1,b2⟩ s' ⟨hb',rfl,vs,ws,ns',vo,hz,Dp,Ar,hlen,hR⟩;simp only at hb';subst hb';have hv:lexLt ns' vo=decide (items.size<items2.size):=by
    cases Dp with
    |nil=>
     cases Ar with
     |nil=>
      simp only[wg] at hlen;rw[OD];exact(oV (by lia)).symm
     |cons c u hw=>
      simp only[wg,iU] at hlen;rw[OJ];exact(decide_eq_true (by lia)).symm
    |cons a t hv=>
     cases Ar with
     |nil=>
      simp only[wg,iU] at hlen;rw[O1];exact(oV (by lia)).symm
     |cons c u hw=>
      rw[Cj] at hz;cases hz
   rw[hv] at hR
   wp_walk
   exact⟨_,rfl,by simpa [Builtin.Tuple.tupleCompareSizes] using hR⟩
  case h=>
   exact⟨rfl,rfl,items.toList,items2.toList,ns,ms,rfl,hi,hj,by lia,h⟩
end
section
variable {prog:Program}{w:World}{A:Around}{E:Value->Shared->Prop}{s:Shared}
theorem jC{l b:Addr}{items items2:Array Value}{ns ms:List Int}{Q:Value->Shared->Prop}(hl:IsTup s.heap l items)(hb:IsTup s.heap b items2)(hi:IntsAre items.toList ns)(hj:IntsAre items2.toList ms)
  (hu:A.units<cLine) (h:Q (.bool (lexLt ns ms)) s):wpAny (model prog w) A (compareOp .Lt (.ref l) (.ref b)) Q E s:=by
 obtain⟨⟨cls,dd,data,sl⟩,ho,hc,n,hd⟩:=id hl;obtain⟨⟨cls2,dd2,data2,sl2⟩,jD,jr,n2,hd2⟩:=id hb;simp only at hc hd jr hd2;subst hc hd jr hd2;exact richCompare_meets_room (op:=.Lt) ⟨_,ho,rfl⟩ ⟨_,jD,rfl⟩ PySem.F.slot_tuple_lt PySem.F.entry_tuple_lt (PySem.F.args_tuple_lt_2 _ _) (O5 l b items items2 n n2 dd dd2 sl sl2 ns ms hi hj)
  ⟨ho,jD,show Value.bool (lexLt ns ms)≠Value.notImplemented/\Q (.bool (lexLt ns ms)) s from ⟨(λx=>nomatch x),h⟩⟩ hu
theorem pD{t b:Addr}{vs ws:List Value}{Q:Value->Shared->Prop}(ht:IsTup s.heap t vs.toArray)(hb:IsTup s.heap b ws.toArray)(hv:vs≠[])
  (h1:ws=[]->Q (.ref t) s) (h2:ws≠[]->Q (.ref s.heap.objs.size) {s with heap:=s.heap.push {cls:=.type "tuple",data:=.seq (vs++ws).toArray}})
  (fH:vs.length+ws.length<=sizeLine):wpAny (model prog w) A (binaryOp .Add (.ref t) (.ref b)) Q E s:=by
 obtain⟨⟨cls,dd,data,sl⟩,ho,hc,n,hd⟩:=id ht;obtain⟨⟨cls2,dd2,data2,sl2⟩,jD,jr,n2,hd2⟩:=id hb;simp only at hc hd jr hd2;subst hc hd jr hd2;have e:vs.toArray++ws.toArray=(vs++ws).toArray:=by simp
 by_cases hw:ws=[]
 ·exact concat_meets ⟨_,ho,rfl⟩ ⟨_,jD,rfl⟩ noFill_tuple_add seq_tuple_add Ca B_ (BZ _ _)
   (tuple_addW1 t b vs.toArray ws.toArray n n2 dd dd2 sl sl2 (by simpa using hv) (by simp[hw])) ⟨ho,jD,h1 hw⟩
 ·refine concat_meets ⟨_,ho,rfl⟩ ⟨_,jD,rfl⟩ noFill_tuple_add seq_tuple_add Ca B_ (BZ _ _)
   (tuple_addW2 t b vs.toArray ws.toArray n n2 dd dd2 sl sl2 (by simpa using hv) (by simpa using hw) (by rw[dF,dF];exact fH)) ⟨ho,jD,?_⟩
  rw[e];exact h2 hw
noncomputable def aR(n d:Nat):Option Int->Nat
 |none=>d
 |some v=>if v<0 then (v+(n:Int)).toNat else min v.toNat n
theorem O8(n d:Nat)(hd:d<=n)(o:Option Int):aR n d o<=n:=by
 cases o with
 |none=>exact hd
 |some v=>
  show (if v<0 then (v+(n:Int)).toNat else min v.toNat n)<=n;by_cases hv:v<0
  ·rw[if_pos hv];lia
  ·rw[if_neg hv];exact Nat.min_le_right _ _
theorem zdt(v:Int)(n d:Nat):(if v<0 then max (v+(n:Int)) 0 else min v (n:Int))=((aR n d (some v):Nat):Int):=by
 show (if v<0 then max (v+(n:Int)) 0 else min v (n:Int))=(((if v<0 then (v+(n:Int)).toNat else min v.toNat n):Nat):Int);by_cases hv:v<0
 ·simp only[if_pos hv];lia
 ·simp only[if_neg hv];lia
theorem O9(lo hi:Option Int)(n:Nat):Builtin.Slice.sliceAdjust lo hi 1 (n:Int)=(((aR n 0 lo:Nat):Int),((aR n n hi:Nat):Int)):=by
 have h1:¬((1:Int)<0):=by lia
 unfold Builtin.Slice.sliceAdjust;simp only[h1,lN];refine Prod.ext ?_ ?_
 ·cases lo with
  |none=>rfl
  |some v=>exact zdt v n 0
 ·cases hi with
  |none=>rfl
  |some v=>exact zdt v n n
theorem O_(i j:Nat):Builtin.Slice.slicePlaces (i:Int) (j:Int) 1=j-i:=by
 unfold Builtin.Slice.slicePlaces;have h1:(1:Int)>0:=by lia
 simp only[h1,if_true,Int.ediv_one]
 split<;>lia
theorem Ik{v:Value}{o:Option Int}{Q:Option Int->Shared->Prop}(p:IsPart v o)(h:Q o s):wpAny (model prog w) A (Builtin.Slice.slicePartIndex v) Q E s:=by
 cases p with
 |none=>exact slicePart_none h
 |int i t=>exact slicePart_int h
theorem Il{sl:Addr}{vl vu:Value}{lo hi:Option Int}{n:Nat}{Q:Int×Int×Nat->Shared->Prop}(hs:s.heap.IsSliceOf sl vl vu .none)(pl:IsPart vl lo)(pu:IsPart vu hi)
  (h:Q (((aR n 0 lo:Nat):Int),1,aR n n hi-aR n 0 lo) s):wpAny (model prog w) A (Builtin.Slice.sliceApplied (.ref sl) (pure (n:Int))) Q E s:=by
 obtain⟨os,sV,Av,xJ⟩:=id hs;unfold Builtin.Slice.sliceApplied Builtin.Slice.sliceFields;refine aB (aB (vf sV xJ (x:=vl) rfl (aB (vf sV xJ (x:=vu) rfl (aB (vf sV xJ (x:=.none) rfl (aQ ?_)))))));refine aB (slicePart_none ?_);show wpAny _ _ (if ((1:Int)==0)=true then _ else _) _ _ s;rw[if_neg (by decide)];refine aB (Ik pl (aB (Ik pu (aB (aQ ?_)))));show wpAny _ _ (match Builtin.Slice.sliceAdjust lo hi 1 (n:Int) with|(lo,hi)=>pure (lo,(1:Int),Builtin.Slice.slicePlaces lo hi 1)) _ _ s;rw[O9 lo hi n];show wpAny _ _ (pure (((aR n 0 lo:Nat):Int),(1:Int),Builtin.Slice.slicePlaces ((aR n 0 lo:Nat):Int) ((aR n n hi:Nat):Int) 1)) _ _ s;rw[O_];exact aQ h
theorem Pa(xs:Array Value)(i k:Nat):((List.range k).filterMap λ(m:Nat)=>xs[((i:Int)+(m:Int)*1).toNat]?).toArray=((xs.toList.drop i).take k).toArray:=by
 have e:(λ(m:Nat)=>xs[((i:Int)+(m:Int)*1).toNat]?)=λm=>xs[i+m]?:=by
  funext m
  have:((i:Int)+(m:Int)*1).toNat=i+m:=by lia
  rw[this]
 rw[e];have:=pick_run xs i k;rw[List.filterMap_map] at this;have e2:((λx=>xs[x]?)∘λx=>i+x)=λm=>xs[i+m]?:=rfl;rw[e2] at this;rw[this]
theorem dJ{t sl:Addr}{items:Array Value}{vl vu:Value}{lo hi:Option Int}{Q:Value->Shared->Prop}(ht:IsTup s.heap t items)(hs:s.heap.IsSliceOf sl vl vu .none)(pl:IsPart vl lo)(pu:IsPart vu hi)
  (hw:¬(aR items.size 0 lo=0/\aR items.size items.size hi=items.size))
  (h:Q (.ref s.heap.objs.size) {s with heap:=s.heap.push {cls:=.type "tuple",data:=.seq ((items.toList.drop (aR items.size 0 lo)).take (aR items.size items.size hi-aR items.size 0 lo)).toArray}})
  (fH:items.size<=sizeLine):wpAny (model prog w) A (getItem (.ref t) (.ref sl)) Q E s:=by
 have jY:sizeOk (.seq ((items.toList.drop (aR items.size 0 lo)).take (aR items.size items.size hi-aR items.size 0 lo)).toArray):=by
  show ((items.toList.drop (aR items.size 0 lo)).take (aR items.size items.size hi-aR items.size 0 lo)).toArray.size<=sizeLine;rw[dF,v8,List.length_drop,kJ]
  lia
 have hj:aR items.size items.size hi<=items.size:=O8 _ _ (cg _) hi;obtain⟨os,sV,Av,xJ⟩:=id hs;have Ds:s.TypeIs (.ref sl) "slice":=⟨os,sV,Av⟩;unfold getItem
 try with_reducible refine kW ?_
 first|refine aB (aQ ?_)|skip
 refine aB (wpAny_sequenceKey ht.typeIs (by decide) ?_);refine aB (wpAny_callSpecial?_slot (name:=Str.ofString "__getitem__") ht.typeIs uX
  (wpAny_call_entry uX ht.typeIs entry_tuple_getitem ?_ (args_tuple_getitem _ _)))
 show wpAny _ _ (Builtin.Tuple.tupleItemsOf (.ref t) >>= _) _ _ s;refine aB (tupleItemsOf_ ht ?_);refine aB (wpAny_typeOf Ds ?_);rw[if_pos (by decide)];refine aB (Il hs pl pu ?_);have xK:¬((((aR items.size 0 lo:Nat):Int)==0&&(1:Int)==1&&(aR items.size items.size hi-aR items.size 0 lo)==items.size)=true):=by
  intro q;rw[dU,dU] at q;have q1:((aR items.size 0 lo:Nat):Int)=0:=eq_of_beq q.1.1;have q2:aR items.size items.size hi-aR items.size 0 lo=items.size:=eq_of_beq q.2;exact hw ⟨by lia,by lia⟩
 show wpAny _ _ (if (((aR items.size 0 lo:Nat):Int)==0&&(1:Int)==1&&(aR items.size items.size hi-aR items.size 0 lo)==items.size)=true then _ else _) _ _ s;rw[if_neg xK,Pa]
 first
  |exact aB (m:=Builtin.Tuple.tupleExact _) (qu (aQ ⟨_,rfl,aQ h⟩) jY)
  |exact aB (m:=Builtin.Tuple.tupleExact _) (qu (aB (aQ (aQ ⟨_,rfl,aQ h⟩))) jY)
  |exact aB (aB (m:=Builtin.Tuple.tupleExact _) (qu (aQ (aQ ⟨_,rfl,aQ h⟩)) jY))
  |exact aB (aB (m:=Builtin.Tuple.tupleExact _) (qu (aQ ⟨_,rfl,aQ h⟩) jY))
end
end HT
namespace L2
open PySem PySem.Spec PyProof.Rows
noncomputable abbrev TO:=St->Hp->(Option Int->Hp->Prop)->Prop
def PO(X:Cx)(e:Option Expr)(t:TO):Prop:=
 ∀(ak:List (Addr×Obj)) (s:Shared) (Z:St) (H:Hp) (Q:Option Int->Hp->Prop),Inv X ak Z H s->t Z H Q->
  wpAny (model X.prog X.w) X.A (evalPart e X.env) (λu s'=>∃o H',Inv X ak Z H' s'/\IsPart u o/\Q o H') X.xe s
noncomputable def xM(t:TE):TO:=λZ H Q=>t Z H λx H1=>∃i,x=.int i/\Q (some i) H1
theorem Im{ns:List Int}:∀{us:List Value},Vals (ns.map V.int) us->IntsAre us ns:=by
 induction ns with
 |nil=>intro us r;rw[List.map_nil] at r;cases r;exact .nil
 |cons n ns ih=>
  intro us r;rw[wk] at r;cases r with
  |cons r1 r2=>
   obtain⟨t,e⟩:=r1;subst e;exact .cons n t (ih r2)
section
variable {X:Cx}{e:Expr}{te:TE}{lo hi:Option Expr}{tl th:TO}{pos p2:Pos}
theorem Pb(h:PE X e te):PO X (some e) (xM te):=by
 intro ak s Z H Q I hw;rw[evalPart_some];refine aN (h ak s Z H _ I hw) λu s1 hx=>fj hx λx H1 I1 r1 q1=>?_;obtain⟨i,rfl,q⟩:=q1;obtain⟨t,rfl⟩:=r1;exact⟨some i,H1,I1,.int i t,q⟩
def pF(X:Cx)(r:V->Option Int->Option Int->Hp->VK->Prop):Prop:=
 ∀(ak:List (Addr×Obj)) (s:Shared) (Z:St) (H:Hp) (x:V) (v vl vu:Value) (lo hi:Option Int) (sl:Addr) (Q:VK),Inv X ak Z H s->RelV x v->s.heap.IsSliceOf sl vl vu .none->IsPart vl lo->IsPart vu hi->r x lo hi H Q->
  ∃T id,typeLookup (.type T) "__getitem__"=pure (some (.builtin id))/\s.TypeIs v T/\wpAny (model X.prog X.w) X.A (getItem v (.ref sl)) (EP X ak Z Q) X.xe s
theorem pF.or{r r':V->Option Int->Option Int->Hp->VK->Prop}(h:pF X r)(h':pF X r'):pF X (λx lo hi H Q=>r x lo hi H Q\/r' x lo hi H Q):=by
 intro ak s Z H x v vl vu lo hi sl Q I rx hs pl pu q;rcases q with q|q
 ·exact h ak s Z H x v vl vu lo hi sl Q I rx hs pl pu q
 ·exact h' ak s Z H x v vl vu lo hi sl Q I rx hs pl pu q
noncomputable def Pg(r:V->Option Int->Option Int->Hp->VK->Prop)(te:TE)(tl th:TO):TE:=λZ H Q=>te Z H λx H1=>tl Z H1 λl H2=>th Z H2 λu H3=>r x l u H3 Q
theorem Pj{r:V->Option Int->Option Int->Hp->VK->Prop}(hr:pF X r)(he:PE X e te)(hl:PO X lo tl)(hu:PO X hi th):PE X (.Subscript e (.Slice lo hi none p2) pos) (Pg r te tl th):=by
 intro ak s Z H Q I h;refine Subscript_ (aN (he ak s Z H _ I h) λv s1 hx=>fj hx λx H1 I1 r1 q1=>?_);refine wpAny_Slice (aN (hl ak s1 Z H1 _ I1 q1) λvl s2 hx=>fj hx λl H2 I2 pl q2=>aN (hu ak s2 Z H2 _ I2 q2) λvu s3 hx=>fj hx λu H3 I3 pu q3=>?_);rw[evalPart_none];refine aQ ?_;have I4:Inv X ak Z H3 {s3 with heap:=s3.heap.push {cls:=.type "slice",data:=.fields #[vl,vu,.none]}}:=I3.kept (t':=s3.toks) λb ob q=>cP _ q;obtain⟨T,id,hT,ht,hg⟩:=hr ak {s3 with heap:=s3.heap.push {cls:=.type "slice",data:=.fields #[vl,vu,.none]}} Z H3 x v vl vu l u s3.heap.objs.size Q I4 r1 (Heap.IsSliceOf.new ..) pl pu q3;show wpAny (model X.prog X.w) X.A (subscriptTail e (.Slice lo hi none p2) v (.ref s3.heap.objs.size)) (EP X ak Z Q) X.xe {s3 with heap:=s3.heap.push {cls:=.type "slice",data:=.fields #[vl,vu,.none]}};exact tail_any (ops:=[.ref s3.heap.objs.size,v]) ht hT hg (by with_unfolding_all rfl)
noncomputable def iz(xs:List V)(lo hi:Option Int):List V:=(xs.drop (HT.aR xs.length 0 lo)).take (HT.aR xs.length xs.length hi-HT.aR xs.length 0 lo)
theorem Io(xs:List V)(lo hi:Option Int):(iz xs lo hi).length<=xs.length:=by
 unfold iz;rw[v8,List.length_drop]
 lia
noncomputable def Dt(K:W.Frag):V->Option Int->Option Int->Hp->VK->Prop:=λx lo hi H Q=>∃a xs,x=.ref a/\fG K H a xs /\
 ¬(HT.aR xs.length 0 lo=0/\HT.aR xs.length xs.length hi=xs.length)/\∀p,H p=none->Q (.ref p) (upd H p (.tup (iz xs lo hi)))
theorem Pk:pF X (Dt X.K):=by
 intro ak s Z H x v vl vu lo hi sl Q I rx hs pl pu h;obtain⟨a,xs,rfl,hx,hw,q⟩:=h;cases rx;obtain⟨its,r,ht,hz⟩:=I.tuple hx;have hlen:its.toArray.size=xs.length:=by rw[dF];exact r.length.symm
 refine⟨"tuple",_,uX.lookup,ht.typeIs,?_⟩;refine HT.dJ ht hs pl pu (by rw[hlen];exact hw) ?_ (by rw[hlen];exact hz);rw[hlen];refine⟨.ref s.heap.objs.size,_,I.laid (t':=s.toks) (o:=.tup (iz xs lo hi)) (λb ob q=>cP _ q) (cg _) ?_,rfl,q _ (I.hok.fresh (cg _))⟩;exact⟨kY (Io xs lo hi) hz,_,(r.drop (HT.aR xs.length 0 lo)).take (HT.aR xs.length xs.length hi-HT.aR xs.length 0 lo),IsTup.new _ _⟩
noncomputable def xO(K:W.Frag):R2:=λx y H Q=>∃a b ns ms,x=.ref a/\y=.ref b/\fG K H a (ns.map V.int)/\fG K H b (ms.map V.int)/\Q (.bl (HT.lexLt ns ms)) H
theorem Pn(hu:X.A.units<cLine):c7 X (compareOp .Lt) (xO X.K):=by
 intro ak s Z H x y v u Q I rx ry h;obtain⟨a,b,ns,ms,rfl,rfl,ha,hb,q⟩:=h;cases rx;cases ry;obtain⟨its,r1,p1,_⟩:=I.tuple ha;obtain⟨its2,r2,p2,_⟩:=I.tuple hb;have i1:IntsAre its.toArray.toList ns:=Im r1;have i2:IntsAre its2.toArray.toList ms:=Im r2;exact HT.jC p1 p2 i1 i2 hu ⟨.bl (HT.lexLt ns ms),H,I,rfl,q⟩
theorem Vals.iB{xs:List V}{us:List Value}(r:Vals xs us):us=[]↔xs=[]:=by
 cases r with
 |nil=>simp
 |cons _ _=>simp
end
noncomputable def pG(n:Nat)(i:Int):Option Nat:=if 0<=i then (if i<n then some i.toNat else none) else if -(n:Int)<=i then some (i+n).toNat else none
noncomputable def mR{α:Type}(xs:List α)(i:Int):Option α:=(pG xs.length i).bind λj=>xs[j]?
theorem Ip{n:Nat}{i:Int}{j:Nat}(h:pG n i=some j):seqIndex? i n=some j/\j<n/\-(n:Int)<=i/\i<n:=by
 unfold pG at h;by_cases h0:0<=i
 ·rw[if_pos h0] at h;by_cases h1:i<n
  ·rw[if_pos h1] at h;have e:i.toNat=j:=dG h;exact⟨by rw[seqIndex_of h0 h1,e],by lia,by lia,h1⟩
  ·rw[if_neg h1] at h;cases h
 ·rw[if_neg h0] at h;by_cases h1 : -(n:Int)<=i
  ·rw[if_pos h1] at h;have e:(i+n).toNat=j:=dG h;exact⟨by rw[seqIndex_neg (by lia) h1,e],by lia,h1,by lia⟩
  ·rw[if_neg h1] at h;cases h
theorem Du{α:Type}{xs:List α}{i:Int}{v:α}(h:mR xs i=some v):∃j,seqIndex? i xs.length=some j/\xs[j]?=some v/\j<xs.length/\-(xs.length:Int)<=i/\i<xs.length:=by
 unfold mR at h;cases e:pG xs.length i with
 |none=>rw[e] at h;cases h
 |some j=>
  rw[e] at h;obtain⟨h1,h2,h3,h4⟩:=Ip e;exact⟨j,h1,h,h2,h3,h4⟩
def jZ(b:Expr):Prop:=∀o i,subscripted b false o i=operate [o,i] (getItem o i)
def pH(X:Cx)(r:R2):Prop:=
 ∀(value slice:Expr) (ak:List (Addr×Obj)) (s:Shared) (Z:St) (H:Hp) (x y:V) (v u:Value) (Q:VK),Inv X ak Z H s->RelV x v->RelV y u->r x y H Q->
  subscripted slice false v u=operate [v,u] (getItem v u)->wpAny (model X.prog X.w) X.A (subscriptTail value slice v u) (EP X ak Z Q) X.xe s
def Pq(X:Cx)(id:String)(r:V->List V->Hp->VK->Prop):Prop:=
 ∀(ak:List (Addr×Obj)) (s:Shared) (Z:St) (H:Hp) (x:V) (xs:List V) (v:Value) (us:List Value) (Q:VK),Inv X ak Z H s->RelV x v->Vals xs us->r x xs H Q->
  wpAny (model X.prog X.w) X.A (call (.builtin id) (v::us)) (EP X ak Z Q) X.xe s
section
variable {X:Cx}{a b:Expr}{ta tb:TE}{pos:Pos}
theorem pH.or{r r':R2}(h:pH X r)(h':pH X r'):pH X (λx y H Q=>r x y H Q\/r' x y H Q):=by
 intro value slice ak s Z H x y v u Q I rx ry q hs;rcases q with q|q
 ·exact h value slice ak s Z H x y v u Q I rx ry q hs
 ·exact h' value slice ak s Z H x y v u Q I rx ry q hs
theorem Pu{r:R2}(hr:pH X r)(ha:PE X a ta)(hb:PE X b tb)(hs:jZ b):PE X (.Subscript a b pos) (Am r ta tb):=by
 intro ak s Z H Q I h;exact Subscript_ (sI ha hb I h λv u s2 x y H2 I2 rx ry q=>hr a b ak s2 Z H2 x y v u Q I2 rx ry q (hs _ _))
noncomputable def xP(K:W.Frag):R2:=λx y H Q=>∃p xs i v,x=.ref p/\y=.int i/\cH K H p xs/\mR xs i=some v/\Q v H
noncomputable def xQ(K:W.Frag):R2:=λx y H Q=>∃p xs i v,x=.ref p/\y=.int i/\fG K H p xs/\mR xs i=some v/\Q v H
noncomputable def xR:R2:=λx y H Q=>∃z i c,x=.str z/\y=.int i/\z.length<=sizeLine/\mR z.cps.toList i=some c/\Q (.str ⟨#[c]⟩) H
theorem pI:pH X (xP X.K):=by
 intro value slice ak s Z H x y v u Q I rx ry h hs;obtain⟨p,xs,i,z,rfl,rfl,hq,he,q⟩:=h;cases rx;obtain⟨t,rfl⟩:=ry;obtain⟨its,r,pl,hz⟩:=I.list hq;obtain⟨j,h1,h2,h3,h4,h5⟩:=Du he;obtain⟨w,ew,lg⟩:=r.get h2;have hl:=r.length;have hn:=fQ;have fin:EP X ak Z Q w s:=⟨z,H,I,lg,q⟩;by_cases h0:0<=i
 ·have hj:i.toNat=j:=by
   rw[seqIndex_of h0 h5] at h1;exact dG h1
  exact item_listR pl.isList h0 (by lia) (by rw[hj];simpa using ew) fin hs
 ·have hj:(i+(its.toArray.size:Int)).toNat=j:=by
   rw[seqIndex_neg (by lia) h4] at h1;rw[dF,<-hl];exact dG h1
  exact subscriptTail_builtinR (x:=w) pl.isList.typeIs slot_list_getitem.lookup
   (wpAny_getItem_list_neg (Q:=λr s'=>r=w/\EP X ak Z Q r s') pl.isList (by lia) (by rw[dF]<;>lia) (by lia) (by rw[hj];simpa using ew) ⟨rfl,fin⟩) hs
theorem sW:pH X (xQ X.K):=by
 intro value slice ak s Z H x y v u Q I rx ry h hs;obtain⟨p,xs,i,z,rfl,rfl,hq,he,q⟩:=h;cases rx;obtain⟨t,rfl⟩:=ry;obtain⟨its,r,pl,hz⟩:=I.tuple hq;obtain⟨j,h1,h2,h3,h4,h5⟩:=Du he;obtain⟨w,ew,lg⟩:=r.get h2;have hl:=r.length;have hn:=fQ;have fin:EP X ak Z Q w s:=⟨z,H,I,lg,q⟩;exact subscriptTail_builtinR (x:=w) pl.typeIs slot_tuple_getitem.lookup
  (getItem_tuple (j:=j) (Q:=λr s'=>r=w/\EP X ak Z Q r s') pl (by lia) (by lia) (by rw[dF,<-hl];exact h1) (by simpa using ew) ⟨rfl,fin⟩) hs
theorem Px:pH X xR:=by
 intro value slice ak s Z H x y v u Q I rx ry h hs;obtain⟨z,i,c,rfl,rfl,hz,he,q⟩:=h;obtain⟨t,rfl⟩:=rx;obtain⟨t',rfl⟩:=ry;obtain⟨j,h1,h2,h3,h4,h5⟩:=Du he;have hl:z.cps.toList.length=z.length:=by simp[Str.length]
 rw[hl] at h1 h4 h5;have hn:=fQ;exact tail_any (typeIs_str s z t) slot_str_getitem.lookup (getItem_str (c:=c) (by
  have e1:decide (i < -(2^63:Int))=false:=oV (by lia);have e2:decide (i>=2^63)=false:=oV (by lia);rw[e1,e2,Bool.or_false]) (by rw[h1];simpa using h2) ⟨.str ⟨#[c]⟩,H,I.tok _,⟨_,rfl⟩,q⟩) hs
noncomputable def Dv(K:W.Frag):R2:=λx y H Q=>xP K x y H Q\/xQ K x y H Q\/xR x y H Q
theorem Py:pH X (Dv X.K):=pI.or (sW.or Px)
theorem Pz(its:List Value)(n j:Nat)(u:Value):Obj.mapSeq (·.setIfInBounds j u) {cls:=.type "list",data:=.seq its.toArray n}={cls:=.type "list",data:=.seq (its.set j u).toArray n}:=by
 simp[Obj.mapSeq]
theorem Inv.lst{ak:List (Addr×Obj)}{Z:St}{H:Hp}{s:Shared}{p:Addr}{xs:List V}(I:Inv X ak Z H s)(h:H p=some (.lst xs)) :
  ∃(its:List Value) (n:Nat),Vals xs its/\s.heap.get? p=some {cls:=.type "list",data:=.seq its.toArray n}/\xs.length<=sizeLine:=by
 obtain⟨z,its,n,r,e⟩:=I.hok p _ h;exact⟨its,n,r,e,z⟩
theorem Inv.sX{ak:List (Addr×Obj)}{Z:St}{H:Hp}{s:Shared}{p:Addr}{xs ys:List V}{its its':List Value}{n n':Nat}{f:Obj->Obj}(I:Inv X ak Z H s)(h:H p=some (.lst xs))
  (ho:s.heap.get? p=some {cls:=.type "list",data:=.seq its.toArray n}) (hf:f {cls:=.type "list",data:=.seq its.toArray n}={cls:=.type "list",data:=.seq its'.toArray n'}) (r:Vals ys its') (hz:ys.length<=sizeLine) (t:Nat) :
  Inv X ak Z (upd H p (.lst ys)) {s with heap:=s.heap.update p f,toks:=t}:=by
 have e:(s.heap.update p f).get? p=some {cls:=.type "list",data:=.seq its'.toArray n'}:=by
  rw[zU f ho (by rw[hf]<;>rfl),hf]
 refine I.write (x:=p) (e:=p) (by rw[h];trivial) (.inl rfl) (λb u hb q=>(u0 _ _ (Ne.symm hb)).trans q) ⟨_,e⟩ ?_;exact⟨hz,its',n',r,e⟩
noncomputable def xT:V->V->V->Hp->(Hp->Prop)->Prop:=λo i v H Q=>∃p xs k j,o=.ref p/\i=.int k/\H p=some (.lst xs)/\pG xs.length k=some j/\Q (upd H p (.lst (xs.set j v)))
theorem PB:wR X xT:=by
 intro ak s Z H o i v ov iv u Q I ro ri rv h;obtain⟨p,xs,k,j,rfl,rfl,hp,hj,q⟩:=h;cases ro;obtain⟨t,rfl⟩:=ri;obtain⟨its,n,r,ho,hz⟩:=I.lst hp;obtain⟨h1,h2,h3,h4⟩:=Ip hj;have hl:=r.length;have hn:=fQ;have I':Inv X ak Z (upd H p (.lst (xs.set j v))) {s with heap:=s.heap.update p (Obj.mapSeq (·.setIfInBounds j u))}:=
  I.sX hp ho (Pz its n j u) (r.set rv j) (by rw[nY];exact hz) s.toks
 by_cases h0:0<=k
 ·have hk:k.toNat=j:=by
   rw[seqIndex_of h0 h4] at h1;exact dG h1
  exact PySem.W.ki_setAt ho h0 (by lia) (by rw[dF,<-hl];exact h4) (by rw[hk];exact⟨_,I',q⟩)
 ·have hk:(k+(its.toArray.size:Int)).toNat=j:=by
   rw[seqIndex_neg (by lia) h3] at h1;rw[dF,<-hl];exact dG h1
  exact PySem.W.ki_setBack ho (by lia) (by rw[dF,<-hl];exact h3) (by lia) (by rw[hk];exact⟨_,I',q⟩)
theorem PJ(lo hi:Option Int)(n:Nat):(sliceBounds lo hi none n).1=((HT.aR n 0 lo:Nat):Int)/\(sliceBounds lo hi none n).2.1=((HT.aR n n hi:Nat):Int)/\(sliceBounds lo hi none n).2.2=1:=by
 refine⟨?_,?_,rfl⟩
 ·cases lo with
  |none=>simp[sliceBounds,HT.aR]
  |some i=>
   simp only[sliceBounds,HT.aR,Option.getD_none,show (1:Int)>0 by decide,if_true];by_cases h:i<0
   ·simp only[h,if_true]<;>lia
   ·simp only[h,lN]<;>lia
 ·cases hi with
  |none=>simp[sliceBounds,HT.aR]
  |some i=>
   simp only[sliceBounds,HT.aR,Option.getD_none,show (1:Int)>0 by decide,if_true];by_cases h:i<0
   ·simp only[h,if_true]<;>lia
   ·simp only[h,lN]<;>lia
theorem PK(its:List Value)(lo hi:Option Int):slicePick its.toArray lo hi none=((its.drop (HT.aR its.length 0 lo)).take (HT.aR its.length its.length hi-HT.aR its.length 0 lo)).toArray:=by
 obtain⟨h1,h2,h3⟩:=PJ lo hi its.toArray.size;unfold slicePick;rw[h1,h2,h3];simp only[sliceRange_one,pick_run,dF]<;>rfl
noncomputable def xU(K:W.Frag):V->Option Int->Option Int->Hp->VK->Prop:=λx lo hi H Q=>∃a xs,x=.ref a/\cH K H a xs/\∀p,H p=none->Q (.ref p) (upd H p (.lst (iz xs lo hi)))
theorem pJ:pF X (xU X.K):=by
 intro ak s Z H x v vl vu lo hi sl Q I rx hs pl pu h;obtain⟨a,xs,rfl,hx,q⟩:=h;cases rx;obtain⟨its,r,ht,hz⟩:=I.list hx;have hlen:=r.length;refine⟨"list",_,slot_list_getitem.lookup,ht.isList.typeIs,?_⟩;refine wpAny_getItem_list_slice ht.isList hs pl pu .none (by simp) ?_ (by rw[dF]<;>lia);rw[PK,<-hlen];refine⟨.ref s.heap.objs.size,_,I.laid (t':=s.toks) (o:=.lst (iz xs lo hi)) (λb ob q=>cP _ q) (cg _) ?_,rfl,q _ (I.hok.fresh (cg _))⟩;exact⟨kY (Io xs lo hi) hz,_,0,(r.drop (HT.aR xs.length 0 lo)).take (HT.aR xs.length xs.length hi-HT.aR xs.length 0 lo),h_ _ rfl⟩
theorem PL:cj X (.builtin "len") (λxs H Q=>∃p ys,xs=[.ref p]/\(cH X.K H p ys\/fG X.K H p ys)/\Q (.int ys.length) H):=by
 intro ak s Z H xs us Q I r h;obtain⟨p,ys,rfl,hq,q⟩:=h;obtain⟨u,rfl,rx⟩:=vals1 r;cases rx;have hn:=fQ;rcases hq with hq|hq
 ·obtain⟨its,r',pl,hz⟩:=I.list hq;have hlen:=r'.length;exact Calls.call_len_list pl.isList (by simp only[dF]<;>lia) ⟨.int ys.length,H,I.tok _,⟨s.toks+1,by rw[dF,hlen]⟩,q⟩
 ·obtain⟨its,r',pl,hz⟩:=I.tuple hq;have hlen:=r'.length;exact len_tuple pl (by simp only[dF]<;>lia) ⟨.int ys.length,H,I.tok _,⟨s.toks+1,by rw[dF,hlen]⟩,q⟩
def Ir(K:W.Frag)(T:String)(x:V)(H:Hp):Prop:=match x with
 |.str _=>T="str"
 |.int _=>T="int"
 |.ref p=>(T="list"/\∃xs,cH K H p xs)\/(T="tuple"/\∃o,K.lookup p=some o/\o.cls=.type "tuple"/\o.dict=none) \/
   (T="dict"/\((∃kvs,H p=some (.dK kvs))\/∃kvs,H p=some (.dT kvs)))\/(T="set"/\∃S n,H p=some (.set S n))
 |_=>False
theorem PN{ak:List (Addr×Obj)}{Z:St}{H:Hp}{s:Shared}{T:String}{x:V}{v:Value}(I:Inv X ak Z H s)(r:RelV x v)(ty:Ir X.K T x H) :
  s.TypeIs v T/\∀a,v=.ref a->∃ob,s.heap.get? a=some ob/\ob.dict=none:=by
 cases x with
 |str z=>
  obtain⟨t,rfl⟩:=r;cases (show T="str" from ty);exact⟨typeIs_str s z t,λ_ e=>nomatch e⟩
 |int i=>
  obtain⟨t,rfl⟩:=r;cases (show T="int" from ty);exact⟨typeIs_int s i t,λ_ e=>nomatch e⟩
 |ref p=>
  cases r;rcases ty with ⟨rfl,xs,hq⟩|⟨rfl,o,hk,hc,hd⟩|⟨rfl,hk⟩|⟨rfl,S,n,hk⟩
  ·obtain⟨its,_,pl,_⟩:=I.list hq;refine⟨pl.isList.typeIs,λa e=>?_⟩;cases e;obtain⟨o,n,e,c,hd,_⟩:=pl;exact⟨o,e,hd⟩
  ·refine⟨⟨o,I.lQ p o hk,hc⟩,λa e=>?_⟩;cases e;exact⟨o,I.lQ _ o hk,hd⟩
  ·have z:∃o,s.heap.get? p=some o/\o.ExactDict:=by
    rcases hk with ⟨kvs,hk⟩|⟨kvs,hk⟩
    ·obtain⟨_,_,_,_,o,_,_,e,ex,_⟩:=I.hok p _ hk;exact⟨o,e,ex⟩
    ·obtain⟨_,_,_,_,o,_,_,e,ex,_⟩:=I.hok p _ hk;exact⟨o,e,ex⟩
   obtain⟨o,e,ex⟩:=z;refine⟨⟨o,e,ex.1⟩,λa e2=>?_⟩;cases e2;exact⟨o,e,ex.2.1⟩
  ·obtain⟨o,_,_,_,e,ex,_⟩:=I.hok p _ hk;refine⟨⟨o,e,ex.1⟩,λa e2=>?_⟩;cases e2;exact⟨o,e,ex.2.1⟩
 |_=>exact False.elim ty
noncomputable def PX(K:W.Frag)(T:String)(r:V->List V->Hp->VK->Prop)(to:TE)(t:TA):TE:=λZ H Q=>to Z H λx H1=>Ir K T x H1/\t Z H1 λxs H2=>r x xs H2 Q
variable {o e:Expr}{es:List Expr}{to:TE}{t:TA}{name:Str}{apos cpos:Pos}{T id:String}{r:V->List V->Hp->VK->Prop}
theorem P0(pa:PlainAttrs T)(slot:Slot T name id)(P_:typeOf (.builtin id)=pure (.type "method_descriptor"))(hm:Pq X id r)(ho:PE X o to)(ha:PA X (e::es) t)
  (iZ:attributeBase o name X.env (eval o X.env)=eval o X.env:=by rfl)
  (sY:((backTo cpos (starEach (e::es) X.env)).all (λx=>!x.1)&&(backToKw cpos (keywordEach [] X.env)).all (λx=>x.1.isSome)
  &&decide ((e::es).length+([]:List Keyword).length+(if ([]:List Keyword).isEmpty then 0 else 1)<30))=true:=by rfl)
  (i_:(apos.endLine==cpos.line)=true:=by rfl) (hs:starEach (e::es) X.env=(false,eval e X.env)::starEach es X.env:=by rfl) (jE:(backTo cpos (starEach es X.env)).any (·.1)=false:=by rfl) :
  PE X (.Call (.Attribute o name apos) (e::es) [] cpos) (PX X.K T r to t):=by
 intro ak s Z H Q I h;refine wpAny_Call_method_late iZ sY i_ rfl (aN (ho ak s Z H _ I h) λv s1 ⟨x,H1,I1,r1,ty,q1⟩=>?_);obtain⟨h1,h2⟩:=PN I1 r1 ty;refine⟨T,id,pa,slot,P_,h1,h2,?_⟩;have hA:=ha cpos ak s1 Z H1 _ I1 q1;rw[hs] at hA ⊢;refine Calls.callWith_builtin (by show (false||(backTo cpos (starEach es X.env)).any (·.1))=false;rw[jE]<;>rfl) (Calls.evalArgs_plain ?_);exact aN hA λus s2 hx=>fj hx λvs H2 I2 r2 q2=>hm ak s2 Z H2 x vs v us Q I2 r1 r2 q2
end
def Qa(X:Cx)(id:String)(r:V->List V->Hp->VK->Prop):Prop:=
 ∀(ak:List (Addr×Obj)) (s:Shared) (Z:St) (H:Hp) (x:V) (xs:List V) (v:Value) (us:List Value) (Q:VK),Inv X ak Z H s->RelV x v->Vals xs us->r x xs H Q->
  wpAny (model X.prog X.w) X.A (call (.builtin id) (v::us)) (EP X ak Z Q) X.xe s
theorem Vals.one{x:V}{us:List Value}(h:Vals [x] us):∃u,us=[u]/\RelV x u:=by
 cases h with
 |cons r t=>cases t;exact⟨_,rfl,r⟩
theorem Vals.two{x y:V}{us:List Value}(h:Vals [x,y] us):∃u v,us=[u,v]/\RelV x u/\RelV y v:=by
 cases h with
 |cons r t=>
  obtain⟨v,rfl,q⟩:=Vals.one t;exact⟨_,_,rfl,r,q⟩
section
variable {X:Cx}{ak:List (Addr×Obj)}{Z:St}{H:Hp}{s:Shared}{l b:Addr}{xs ys zs:List V}
theorem Inv.Dw{its its':List Value}{n:Nat}{f:Array Value->Array Value}{t':Nat}(I:Inv X ak Z H s)(hH:H l=some (.lst xs))
  (e:s.heap.get? l=some {cls:=.type "list",data:=.seq its.toArray n}) (hf:f its.toArray=its'.toArray) (hv:Vals ys its') (hz:ys.length<=sizeLine) :
  Inv X ak Z (upd H l (.lst ys)) {s with heap:=s.heap.update l (Obj.mapSeq f),toks:=t'}:=by
 have q:=PySem.IsL.update e f;rw[hf] at q;refine I.write (x:=l) (e:=l) (by rw[hH];exact trivial) (.inl rfl) (λb' u hb hu=>(u0 s.heap (Obj.mapSeq f) (Ne.symm hb)).trans hu) ⟨_,q⟩ ?_;exact⟨hz,its',_,hv,q⟩
theorem Inv.Dy{its:List Value}{t':Nat}(I:Inv X ak Z H s)(hv:Vals ys its)(hz:ys.length<=sizeLine) :
  Inv X ak Z (upd H s.heap.objs.size (.lst ys)) {s with heap:=s.heap.push {cls:=.type "list",data:=.seq its.toArray},toks:=t'}:=
 I.laid (λ_ _ q=>cP _ q) (cg _) ⟨hz,its,0,hv,h_ _ rfl⟩
theorem Inv.fresh(I:Inv X ak Z H s):H s.heap.objs.size=none:=I.hok.fresh (cg _)
theorem Inv.Dz(I:Inv X ak Z H s)(hH:H l=some (.lst xs)):xs.length<=sizeLine/\∃(its:List Value) (n:Nat),Vals xs its/\xs.length=its.length/\s.heap.get? l=some {cls:=.type "list",data:=.seq its.toArray n}:=by
 obtain⟨z,its,n,r,e⟩:=I.hok l _ hH;exact⟨z,its,n,r,r.length,e⟩
end
section
variable {X:Cx}
noncomputable def pK:V->List V->Hp->VK->Prop:=λx vs H Q=>∃l xs y,x=.ref l/\vs=[y]/\H l=some (.lst xs)/\xs.length<sizeLine/\Q .non (upd H l (.lst (xs++[y])))
theorem DG:Qa X "list.append" pK:=by
 intro ak s Z H x vs v us Q I rx rv h;obtain⟨l,xs,y,rfl,rfl,hH,hz,q⟩:=h;cases rx;obtain⟨u,rfl,ru⟩:=rv.one;obtain⟨z,its,n,r,hl,e⟩:=I.Dz hH;refine call_meets F.slot_list_append ⟨_,e,rfl⟩ F.entry_list_append (F.args_list_append_2 _ _) (PySem.list_append l its.toArray n u (by rw[dF];lia)) ⟨e,?_⟩;refine⟨.non,_,I.Dw (its':=its++[u]) hH e (by simp) (r.append (.cons ru .nil)) ?_,rfl,q⟩;rw[jy,List.length_singleton]
 lia
end
section
variable {prog:Program}{w:World}{A:Around}{E:Value->Shared->Prop}{s:Shared}
set_option maxRecDepth 100000 in
end
section
variable {X:Cx}
end
end L2
namespace Iu
open PySem PySem.W PySem.Calls PyProof.Rows
theorem Qc{P:Params}{h:Heap}:∀(ns:List Int) (vs:List Value),WellAll P h vs (ns.map WData.int)->IntsAre vs ns:=by
 intro ns
 induction ns with
 |nil=>
  intro vs w;rw[List.map_nil] at w;cases w;exact .nil
 |cons n ns ih=>
  intro vs w;rw[wk] at w;cases w with
  |cons a b=>
   cases a;exact .cons _ _ (ih _ b)
theorem Qd{l:OpenLaw}{n:Nat}(hn:l.most=some n){P:Params}{h:Heap}{args:List WData}{vals:List Value}
  (hpre:l.row.toRowW.claim.pre args=true) (DK:WellAll P h vals args) :
  ∃a vs ns,vals=[Value.ref a]/\args=[WData.list (ns.map WData.int)]/\h.get? a=some {cls:=.type "list",data:=.seq vs.toArray}/\IntsAre vs ns/\ns.length<=n:=by
 have Qe:WShape.hasAll [] args [.list .int]=true:=(pre_splitW hpre).1;have hc:l.pre.holds [] {args:=args}=true:=(pre_splitW hpre).2;obtain⟨d,r,rfl,h1,h2⟩:=hasAllW_cons Qe;obtain rfl:=hasAllW_nil h2;obtain⟨xs,rfl,h3⟩:=hasW_list h1;obtain⟨ns,rfl⟩:=items_int h3;have hlen:ns.length<=n:=by
  unfold OpenLaw.pre at hc;have h4:(WTm.not (.lt (.lit (.int (n:Int))) (.len (.arg 0)))).holds [] {args:=[.list (ns.map .int)]}=true:=by
   have h4:=(holds_andW hc).1;rw[hn] at h4;exact h4
  have h5:=condW_of h4 (w_not (w_lt w_lit (w_len_list (w_arg rfl))));rw[nW] at h5;refine zZ λq=>?_;have q':(n:Int)<((ns.length:Nat):Int):=by lia
  first
   |(rw[decide_eq_true q'] at h5;exact absurd h5 (by decide))
   |(simp at h5;lia)
 cases DK with
 |cons w1 w2=>
  cases w2;cases w1 with
  |list ho DN=>exact⟨_,_,ns,rfl,rfl,ho,Qc ns _ DN,hlen⟩
theorem Qf(l:OpenLaw)(args:List WData):l.row.toRowW.claim.post args (.bool true) args=true:=
 postW_of (r:=l.row.toRowW) (X:=(true==true))
  (show WShape.has [] (.bool true) .bool=true by first|rfl|decide|simp[WShape.has,WShape.arms,WShape.armsAll])
  (show (WTm.eq .res (.lit (.bool true))).value [] {args:=args,res:=some (.bool true),after:=args}=some (.bool (true==true)) from w_eq_bool (w_res rfl) w_lit) rfl
theorem jd{l:OpenLaw}{n:Nat}{q:Program}{loose:List Str}{XP:(Str->Option Value)->Heap->Prop}{YP:World->Heap->Prop}{d:DefRec}
  (hn:l.most=some n) (DP:d.params.defaults=[])
  (call:∀(w:World) (s₀ s₁:Shared) (mg mb:Str->Option Value) (fa:Addr) (o:Obj) (pm cd doc:Value) (a:Addr) (vs:List Value) (ns:List Int),
   Ground q loose [] XP w s₀ mg mb s₁.heap->YP w s₁.heap->
   s₁.heap.get? fa=some o->o.data=.func (docDef d.name d.params d.body d.scope pm cd doc)->s₁.heap.CodeRec cd d.name->mg d.name=some (.ref fa)->
   s₁.heap.get? a=some {cls:=.type "list",data:=.seq vs.toArray}->IntsAre vs ns->ns.length<=n->s₁.gens=#[]->
   codeAny (model l.prog w) callerA (.call (.ref fa) ⟨[.ref a],[]⟩) (λr s'=>r=.ok (.ret (.bool true))/\OldK s₁.heap s'.heap/\s'.os=s₁.os/\AllBare s'.gens) s₁) :
  WalkO q loose XP YP l.row.toRowW d [] (λf vs=>PySem.call f vs):=by
 intro w s₀ s₁ mg mb G Y fa o pm cd doc dV kV ho hd gG hD hmg hg args vals as hpre Qg YQ DK YS;obtain rfl:dV=.none:=Dflts.none hD DP;obtain rfl:kV=.none:=Dflts.noKw hD;obtain⟨a,vs,ns,rfl,rfl,sZ,hints,hlen⟩:=Qd hn hpre DK;refine enter_call (wu (call w s₀ s₁ mg mb fa o pm cd doc a vs ns G Y ho (fd_plain hd) gG hmg sZ hints hlen hg) λr s' hq=>?_);obtain⟨rfl,h2,h3,h4⟩:=hq;exact⟨.inl ⟨.bool true,.bool true,[],rfl,λ_=>rfl,.bool true,Qf l _,λ_=>⟨List.Pairwise.nil,λ_ hm=>(nomatch hm)⟩⟩,h2,h3,h4⟩
section
variable {prog:Program}{w:World}{A:Around}{E:Value->Shared->Prop}{s:Shared}{K:Frag}
end
end Iu
namespace L2
open PySem PySem.Spec PyProof.Rows
theorem Iv:∀{vs:List Value} {ns:List Int},IntsAre vs ns->Vals (ns.map V.int) vs
 |_,_,.nil=>.nil
 |_,_,.cons n t h=>.cons ⟨t,rfl⟩ (Iv h)
def DQ(h0:Heap)(H:Hp)(h:Heap)(e:Addr)(hd:Value):Prop:=
 hd=.none\/∃T oT ts,hd=.ref T/\h0.get? T=none/\H T=none/\T≠e/\h.get? T=some oT/\oT.data=.fields ts/\ts[3]?=some .none
structure Exc(h0:Heap)(H:Hp)(h:Heap)(e C:Addr)(dx:Option Addr):Prop where
 new:h0.get? e=none
 un:H e=none
 ob:∃oe vs hd,h.get? e=some oe/\oe.cls=.ref C/\oe.dict=dx/\oe.data=.fields vs/\vs[1]?=some hd/\DQ h0 H h e hd
structure DR(h0:Heap)(H:Hp)(fr:List Addr)(h h':Heap)(ch:List Addr):Prop where
 rec_:∀b∈ch,h0.get? b=none/\H b=none/\∃o vs,h.get? b=some o/\o.data=.fields vs
 keep:∀b o,h.get? b=some o->b∉fr->b∉ch->h'.get? b=some o
 slot:∀b o,h.get? b=some o->b∈fr->∃sl,h'.get? b=some {o with slots:=sl}
 there:∀b o,h.get? b=some o->∃o',h'.get? b=some o'
noncomputable def mU(head:Value)(L:Addr)(pl:List Value):Obj:=
 {cls:=.type "traceback",dict:=none,data:=.fields ([head,.ref L,.none,rawInt L,.none]++(if pl.isEmpty then List.replicate 6 Value.none else pl)).toArray}
theorem Iw(o:Obj)(f:Array Value->Array Value):(o.mapFields f).dict=o.dict:=by
 obtain⟨c,d,dt,sl⟩:=o;cases dt<;>rfl
theorem Iz(o:Obj)(f:Array Value->Array Value):(o.mapFields f).cls=o.cls:=by
 obtain⟨c,d,dt,sl⟩:=o;cases dt<;>rfl
section
variable {M:Model}{A:Around}{E:Value->Shared->Prop}{s:Shared}{base h0:Heap}{env:Env}{outer:List Env}{L e C:Addr}{dx:Option Addr}{H:Hp}{Q:Unit->Shared->Prop}
theorem IK(lV:A.frames=some (env::outer))(hl:s.heap.FunFrames base (env::outer))(hf:env.frame=some L)
  (he:s.heap.get? e=some oe) (hd:oe.data=.fields vs) (fH:1<vs.size)
  (k:∀h' T oT ts,s.heap.objs.size<=T->(∀b o,s.heap.get? b=some o->b∉frs (env::outer)->b≠e->h'.get? b=some o)->(∀b o,s.heap.get? b=some o->b∈frs (env::outer)->∃sl,h'.get? b=some {o with slots:=sl})->
   h'.get? e=some (oe.mapFields (·.setIfInBounds 1 (.ref T)))->h'.get? T=some oT->oT.data=.fields ts->3<ts.size->ts[3]?=some (rawInt L)->Q () {s with heap:=h'}) :
  wpAny M A (do let a <-frameOf env;let pl <-entryPlaceOf L hn;let b <-EntryCells.newEntry head a .none (rawInt L) .none pl;setField (.ref e) 1 b) Q E s:=by
 have xV:e∉frs (env::outer):=λhm=>by
  obtain⟨_,o,ho,hx⟩:=hl.mem hm;rw[he] at ho;cases ho;exact hx vs hd
 refine aB (wpAny_frameOf_fun lV hl hf λh₁ sl₁=>?_);refine aB (wpAny_entryPlaceOf λpl cL=>?_);unfold EntryCells.newEntry newFields;refine aB (qu ?_ (cL.sizeOk5 _ _ _ _ _));have e1:h₁.get? e=some oe:=(sl₁.2.1 e xV).trans he;have e2:(h₁.push (mU head L pl)).get? e=some oe:=cP _ e1;refine wpAny_setField e2 hd fH ?_;have ne:h₁.objs.size≠e:=oW (bI e1);have d3:=u6 hd (·.setIfInBounds 1 (Value.ref h₁.objs.size));have kp:∀b o,h₁.get? b=some o->b≠e->((h₁.push (mU head L pl)).update e (Obj.mapFields (·.setIfInBounds 1 (Value.ref h₁.objs.size)))).get? b=some o:=λb o q n=>by
  rw[u0 _ _ n.symm];exact cP _ q
 refine k _ h₁.objs.size (mU head L pl) _ (by rw[sl₁.1];exact cg _) (λb o q n1 n2=>kp b o ((sl₁.2.1 b n1).trans q) n2) (λb o q m=>?_) (zU _ e2 (Cd d3)) ?_ rfl ?_ ?_
 ·obtain⟨sl,z⟩:=sl₁.2.2 b o q;exact⟨sl,kp b _ z λy=>xV (y▸m)⟩
 ·rw[u0 _ _ ne.symm];exact h_ _ rfl
 ·simp only[dF,jy,iU,wg]<;>lia
 ·first
   |(simp;done)
   |(rcases cL with rfl|⟨_,_,_,_,_,_,_,rfl⟩<;>simp)
theorem Qh(lV:A.frames=some (env::outer))(hl:s.heap.FunFrames base (env::outer))(hf:env.frame=some L)(x:Exc h0 H s.heap e C dx)
  (k:∀h' T oT oe ts vs ch,DR h0 H (frs (env::outer)) s.heap h' ch->s.heap.objs.size<=T->h'.get? e=some oe->oe.cls=.ref C->oe.dict=dx->oe.data=.fields vs->vs[1]?=some (.ref T)->h'.get? T=some oT->oT.data=.fields ts->
   3<ts.size->ts[3]?=some (rawInt L)->Q () {s with heap:=h'}):wpAny M A (noteFrame (.ref e) env) Q E s:=by
 obtain⟨oe,vs,hd,he,hc,Aw,oA,h1,tb⟩:=x.ob;have fH:1<vs.size:=(Array.getElem?_eq_some_iff.mp h1).1;have xV:∀b o ws,s.heap.get? b=some o->o.data=.fields ws->b∉frs (env::outer):=λb o ws q d hm=>by
  obtain⟨_,o',ho,hx⟩:=hl.mem hm;rw[q] at ho;cases ho;exact hx ws d
 unfold noteFrame;simp only[hf];refine aB (vf he oA h1 ?_);rcases tb with rfl|⟨T,oT,ts,rfl,nT,uT,neT,gT,dT,h3⟩
 ·rw[if_neg (by decide)];refine IK lV hl hf he oA fH λh' T oT ts lt kp sl ge gT dT z3 z4=>?_;refine k h' T oT _ ts _ [e] ⟨λb hb=>?_,λb o q n1 n2=>kp b o q n1 λz=>n2 (by rw[z];exact .head _),sl,λb o q=>?_⟩ lt ge ((Iz _ _).trans hc) ((Iw _ _).trans Aw) (u6 oA _) (by simp[fH]) gT dT z3 z4
  ·obtain rfl:b=e:=by simpa using hb
   exact⟨x.new,x.un,oe,vs,he,oA⟩
  ·by_cases z:b=e
   ·subst z;exact⟨_,ge⟩
   ·by_cases m:b∈frs (env::outer)
    ·obtain⟨w,q'⟩:=sl b o q m;exact⟨_,q'⟩
    ·exact⟨o,kp b o q m z⟩
 ·rw[if_pos (show (Value.ref T != Value.none)=true from by simp)];refine aB (vf gT dT h3 ?_);rw[if_neg (show ¬((Value.none==rawInt L)=true) from by simp[rawInt])];have z3:3<ts.size:=(Array.getElem?_eq_some_iff.mp h3).1;refine aB (wpAny_setField gT dT z3 ?_);have oth:∀b,b≠T->(s.heap.update T (Obj.mapFields (·.setIfInBounds 3 Value.none))).get? b=s.heap.get? b:=λb n=>u0 _ _ n.symm;have Qi:(s.heap.update T (Obj.mapFields (·.setIfInBounds 3 Value.none))).FunFrames base (env::outer):=hl.of_keeps λb o q nd=>⟨o,(oth b λz=>by subst z;rw[gT] at q;cases q;exact nd ts dT).trans q,rfl⟩;have sT:(s.heap.update T (Obj.mapFields (·.setIfInBounds 3 Value.none))).get? T=some (oT.mapFields (·.setIfInBounds 3 Value.none)):=zU _ gT (Cd (u6 dT _));refine IK lV Qi hf ((oth e neT.symm).trans he) oA fH λh' T' oT' ts' lt kp sl ge Qj Qk Ql Qm=>?_;have lt':s.heap.objs.size<=T':=by
   have:=lt;simp only[Heap.size_after_update] at this;exact this
  refine k h' T' oT' _ ts' _ [e,T] ⟨λb hb=>?_,λb o q n1 n2=>kp b o ((oth b λz=>n2 (by simp[z])).trans q) n1 λz=>n2 (by simp[z]),λb o q m=>?_,λb o q=>?_⟩ lt' ge ((Iz _ _).trans hc) ((Iw _ _).trans Aw) (u6 oA _) (by simp[fH]) Qj Qk Ql Qm
  ·have hb':b=e\/b=T:=by simpa using hb
   rcases hb' with rfl|rfl
   ·exact⟨x.new,x.un,oe,vs,he,oA⟩
   ·exact⟨nT,uT,oT,ts,gT,dT⟩
  ·exact sl b o ((oth b λz=>by subst z;exact xV b o ts q (by rw[gT] at q;cases q;exact dT) m).trans q) m
  ·by_cases z:b=e
   ·subst z;exact⟨_,ge⟩
   ·by_cases y:b=T
    ·subst y;exact⟨_,kp b _ sT (xV b oT ts gT dT) z⟩
    ·by_cases m:b∈frs (env::outer)
     ·obtain⟨w,q'⟩:=sl b o ((oth b y).trans q) m;exact⟨_,q'⟩
     ·exact⟨o,kp b o ((oth b y).trans q) m z⟩
theorem Qn(he:s.heap.get? e=some oe)(hd:oe.data=.fields vs)(h1:vs[1]?=some (.ref T))(gT:s.heap.get? T=some oT)(dT:oT.data=.fields ts)(z3:3<ts.size)
  (k:∀h',(∀b o,b≠T->s.heap.get? b=some o->h'.get? b=some o)->h'.get? T=some (oT.mapFields (·.setIfInBounds 3 Value.none))->Q () {s with heap:=h'}):wpAny M A (setFlight (.ref e) none) Q E s:=by
 unfold setFlight;refine aB (vf he hd h1 ?_);rw[if_pos (show (Value.ref T != Value.none)=true from by simp)];exact wpAny_setField gT dT z3 (k _ (λb o n q=>(u0 _ _ n.symm).trans q) (zU _ gT (Cd (u6 dT _))))
theorem Qo(lV:A.frames=some (env::outer))(hl:s.heap.FunFrames base (env::outer))(hf:env.frame=some L)(x:Exc h0 H s.heap e C dx)
  (jW:∀b,s.heap.objs.size<=b->H b=none) (Qp:∀b o,h0.get? b=some o->∃o',s.heap.get? b=some o')
  (k:∀h' ch,DR h0 H (frs (env::outer)) s.heap h' ch->Exc h0 H h' e C dx->Q () {s with heap:=h'}) :
  wpAny M A (noteFrame (.ref e) env) (λ_ s₁=>wpAny M A (setFlight (.ref e) none) Q E s₁) E s:=by
 have Qq:∃o,s.heap.get? e=some o:=let ⟨oe,_,_,he,_⟩:=x.ob;⟨oe,he⟩;refine Qh lV hl hf x λh' T oT oe ts vs ch t lt ge hc Aw oA h1 gT dT z3 z4=>?_;have neT:T≠e:=λz=>by
  obtain⟨o,q⟩:=Qq;exact absurd (eZ (bI q) (z▸lt)) (jP _)
 refine Qn (s:={s with heap:=h'}) ge oA h1 gT dT z3 λh2 kp Qs=>?_;have nT:∀b o,s.heap.get? b=some o->b≠T:=λb o q z=>absurd (eZ (bI q) (z▸lt)) (jP _);refine k h2 ch ⟨t.rec_,λb o q n1 n2=>kp b o (nT b o q) (t.keep b o q n1 n2),λb o q m=>?_,λb o q=>?_⟩ ⟨x.new,x.un,oe,vs,.ref T,kp e oe neT.symm ge,hc,Aw,oA,h1,.inr ⟨T,_,_,rfl,?_,jW T lt,neT,Qs,u6 dT _,by simp[z3]⟩⟩
 ·obtain⟨sl,q'⟩:=t.slot b o q m;exact⟨sl,kp b _ (nT b o q) q'⟩
 ·obtain⟨o',q'⟩:=t.there b o q;exact⟨o',kp b o' (nT b o q) q'⟩
 ·cases z:h0.get? T with
  |none=>rfl
  |some o=>
   obtain⟨o',q⟩:=Qp T o z;exact absurd rfl (nT T o' q)
end
noncomputable abbrev XS:=St->Value->Option Addr->Hp->Prop
def Sub(h0 h:Heap):Prop:=∀b o,h0.get? b=some o->∃o',h.get? b=some o'
theorem Sub.none{h0 h:Heap}(x:Sub h0 h){b:Addr}(e:h.get? b=none):h0.get? b=none:=by
 cases q:h0.get? b with
 |none=>rfl
 |some o=>
  obtain⟨o',z⟩:=x b o q;rw[e] at z;cases z
theorem Exc.older{h0 h1:Heap}{H:Hp}{h:Heap}{e C:Addr}{dx:Option Addr}(x:Exc h1 H h e C dx)(y:Sub h0 h1):Exc h0 H h e C dx:=by
 obtain⟨oe,vs,hd,a,b,c,d,f,tb⟩:=x.ob;refine⟨y.none x.new,x.un,oe,vs,hd,a,b,c,d,f,?_⟩;rcases tb with z|⟨T,oT,ts,z1,z2,z3⟩
 ·exact .inl z
 ·exact .inr ⟨T,oT,ts,z1,y.none z2,z3⟩
section
variable {X:Cx}{ak:List (Addr×Obj)}{Z:St}{H:Hp}{s:Shared}{h0 h':Heap}{ch fr:List Addr}
theorem dX.Qt{P:Program}{w:World}{h:Heap}(x:dX P w H h)(t:DR h0 H fr h h' ch)(hf:∀b∈fr,H b=none):dX P w H h':=λa o e=>by
 have st:∀b u,(b=a\/H b=some (.own a))->h.get? b=some u->h'.get? b=some u:=λb u z q=>by
  have nb:H b≠none:=by
   rcases z with z|z
   ·rw[z,e];simp
   ·rw[z];simp
  exact t.keep b u q (λm=>nb (hf b m)) λm=>nb (t.rec_ b m).2.1
 exact(x a o e).stay st (λ_ z=>z) λ_ _ z=>z
end
def Raises(X:Cx)(EX:XS):Prop:=
 ∀(ak:List (Addr×Obj)) (Z:St) (H:Hp) (s:Shared) (h0:Heap) (e C:Addr) (dx:Option Addr),Inv X ak Z H s->(∀b o,X.s₀.heap.get? b=some o->b∉X.ex->∃o',h0.get? b=some o')->
  (∀p∈X.pn++ak,∃o,h0.get? p.1=some o)->Sub h0 s.heap->Exc h0 H s.heap e C dx->EX Z (.ref C) dx H->X.xe (.ref e) s
noncomputable def eF(P:Program)(w:World):lU:=λouter H s E e s'=>
 ∃(a C:Addr) (dx:Option Addr) (H':Hp),e=.ref a/\s'.os=s.os/\AllBare s'.gens/\Un (frs outer) [] H H' s.heap s'.heap/\dX P w H' s'.heap/\Exc s.heap H' s'.heap a C dx/\E (.ref C) dx H'
theorem Qu{P:Program}{w:World}{K:W.Frag}{mg:Str->Option Value}{base:Heap}{N:List Str}{qual:Str}{scope:Scope}{f:Addr}{cd:Value}{A:Around}{outer:List Env}{s:Shared}{H:Hp}{E:XK}{cm:Bool} :
  Raises (bZ (eF P w) P w K mg base N qual scope f cd A outer s H E cm) (λ_ C dx H'=>E C dx H'):=by
 intro ak Z H1 s1 h0 e C dx I hs hp Qv x ex;have I0:Inv (bZ (eF P w) P w K mg base N qual scope f cd A outer s H E cm) [] Z H1 s1:=I.fD λp z=>absurd z (by simp);show wpAny (model P w) (A.deeper (envOfC qual scope s.heap.objs.size f cd)) (leaving (envOfC qual scope s.heap.objs.size f cd) (.ref e)) _ _ s1;unfold leaving;have xW:Sub s.heap h0:=λb o q=>hs b o q (by show b∉([]:List Addr);simp);refine aB (Qo (base:=base) (outer:=outer) (L:=s.heap.objs.size) I0.ok.frames I0.stack rfl x (λb z=>I0.hok.fresh z) Qv λh' ch t x'=>?_);have fin:∀b o,s.heap.get? b=some o->b∉ch:=λb o q m=>by
  have z:=xW.none (t.rec_ b m).1;rw[q] at z;cases z
 have nL:∀b o,s.heap.get? b=some o->b∉frs outer->b∉frs (envOfC qual scope s.heap.objs.size f cd::outer):=λb o q n m=>by
  have m':b∈s.heap.objs.size::frs outer:=m;rcases jq.mp m' with z|z
  ·exact absurd (bI q) (by rw[z];exact jP _)
  ·exact n z
 refine⟨e,C,dx,H1,rfl,I0.os,I0.bare,⟨λb o q n hb _=>?_,λb o q n hb _=>?_,λb o q n _=>I0.base.free b o q n (by show b∉([]:List Addr);simp),λb o q _=>?_,I0.base.tups,I0.base.dZ,I0.base.fu⟩,I0.hok.Qt t I0.iy,x'.older xW,ex⟩
 ·exact t.keep b o (I0.base.keep b o q n hb (by show b∉([]:List Addr);simp)) (nL b o q hb) (fin b o q)
 ·obtain⟨sl,q1⟩:=I0.base.slot b o q n hb (by show b∉([]:List Addr);simp);obtain⟨sl',q2⟩:=t.slot b _ q1 (show b∈s.heap.objs.size::frs outer from gP _ hb);exact⟨sl',q2⟩
 ·obtain⟨o',q1⟩:=I0.base.there b o q (by show b∉([]:List Addr);simp);exact t.there b o' q1
section
variable {X:Cx}{cm:Bool}{k:Nat}{f C:Addr}{fd:FuncData}{ps:List Str}{sp:Sp}{EX:XS}{x m:Str}{p pos apos:Pos}{e o:Expr}{es:List Expr}{ta:TE}{t:TA}
theorem Raises.pass(R:Raises X EX)(I:Inv X ak Z H s)(h:eF X.prog X.w X.stack H s (EX Z) v s'):X.xe v s':=by
 obtain⟨a,C,dx,H',rfl,os,bare,un,hok,x,q⟩:=h;have ao:Sub s.heap s'.heap:=λb o z=>un.there b o z (by simp);refine R ak Z H' s' s.heap a C dx (I.call' os un hok bare λb z=>absurd z (by simp)) (λb o z n=>I.base.there b o z n) (λp hp=>?_) ao x q;exact⟨p.2,(I.pin p hp).1⟩
noncomputable def tD(sp:Sp)(EX:XS)(t:TA):TE:=λZ H Q=>t Z H λvs H1=>sp vs H1 Q (EX Z)
theorem Qw(F:bY X.prog X.w X.K X.mg X.base (eF X.prog X.w) cm k f fd ps sp)(jB:cm=true->X.aj=true)(hr:bJ k X.A)(hb:Binds X.K fd ps [])(R:Raises X EX)
  (I:Inv X ak Z H s) (r:Vals vs us) (h:sp vs H Q (EX Z)):wpAny (model X.prog X.w) X.A (call (.ref f) us) (EP X ak Z Q) X.xe s:=by
 have hl:us.length=ps.length:=by rw[<-r.length];exact F.len _ _ _ _ h
 have hb':=hb s us I.lQ (by rw[z_];exact hl);rw[z_] at hb';refine wpAny_call (wu (F.run X.A X.stack s H ⟨us,[]⟩ us vs Q (EX Z) (λz=>I.ok.hd (jB z)) hr I.env0 hb' r h) λr s' hq=>?_);cases r with
 |error v=>exact R.pass I hq
 |ok fl=>
  cases fl with
  |ret u=>exact I.after hq
  |next=>exact False.elim hq
  |brk=>exact False.elim hq
  |cont=>exact False.elim hq
theorem Qx(F:bY X.prog X.w X.K X.mg X.base (eF X.prog X.w) cm k f fd ps sp)(jB:cm=true->X.aj=true)(hr:bJ k X.A)(hg:Gl X x)(hm:X.mg x=some (.ref f))(hk:PySem.W.keepIn X.K (.ref f)=true)(hb:Binds X.K fd ps [])(R:Raises X EX)
  (ha:PA X (e::es) t) (mQ:(x==("__debug__" : Str))=false:=by decide) (he:starEach (e::es) X.env=(false,eval e X.env)::starEach es X.env:=by rfl) (cL:(backTo pos (starEach es X.env)).any (·.1)=false:=by rfl) :
  PE X (.Call (.Name x p) (e::es) [] pos) (tD sp EX t):=by
 intro ak s Z H Q I h;refine zX (HB I hg hm ?_ mQ);exact PySem.W.callWith_K (h₀:=X.base) I.ok.mod.rN hk (aN (ha pos ak s Z H _ I h) λus s1 ⟨vs,H1,I1,r,q⟩=>⟨I1.lQ,Qw F jB hr hb R I1 r q⟩) he cL
end
noncomputable def pL(a C:Addr)(dx:Option Addr):HO:=.ext λh=>∃oe vs,h.get? a=some oe/\oe.cls=.ref C/\oe.dict=dx/\oe.data=.fields vs
section
variable {X:Cx}{ak:List (Addr×Obj)}{Z:St}{H:Hp}{s:Shared}{e:Addr}{o:HO}
theorem Inv.track(I:Inv X ak Z H s)(hn:X.s₀.heap.get? e=none)(un:H e=none)(hp:∀p∈X.pn++ak,p.1≠e)(hL:e≠X.env.locals)(hc:∀x c,X.env.cells.lookup x=some c->c≠e)
  (new:bw X.prog X.w (upd H e o) s.heap e o):Inv X ak Z (upd H e o) s:=by
 have ne:∀b u,H b=some u->b≠e:=λb u q z=>by rw[z,un] at q;cases q
 have n0:∀b u,X.s₀.heap.get? b=some u->b≠e:=λb u q z=>by rw[z,hn] at q;cases q
 refine⟨I.ok,I.os,I.bare,⟨I.base.keep,I.base.slot,λb u q n hx=>?_,I.base.there,λb xs q=>?_,λb u v q=>?_,λb ps q=>?_⟩,I.loc,I.cell,?_,λx c q=>?_,λp q=>?_,λb u q=>?_,I.len⟩
 ·rw[bA (n0 b u q)];exact I.base.free b u q n hx
 ·have z:=I.base.tups b xs q;rw[bA (ne b _ z)];exact z
 ·have z:=I.base.dZ b u v q;rw[bA (ne b _ z)];exact z
 ·obtain⟨m,z,g⟩:=I.base.fu b ps q;exact⟨m,by rw[bA (ne b _ z)];exact z,g.mono λb o u q=>by rw[bA (ne b _ q)];exact q⟩
 ·rw[bA hL.symm];exact I.free
 ·rw[bA (hc x c q)];exact I.cJ x c q
 ·obtain⟨a1,a2,a3⟩:=I.pin p q;exact⟨a1,by rw[bA (hp p q)];exact a2,a3⟩
 ·by_cases z:b=e
  ·subst z;rw[gU] at q;cases q;exact new
  ·rw[bA z] at q;exact(I.hok b u q).stay (λ_ _ _ r=>r) (λc r=>by rw[bA (ne c _ r)];exact r) λc xs r=>by rw[bA (ne c _ r)];exact r
noncomputable def Cx.seen(X:Cx)(A:Around)(aj:Bool)(pn:List (Addr×Obj))(E:Value->Shared->Prop):Cx:={X with A:=A,aj:=aj,pn:=pn,xe:=E}
theorem Inv.seen(I:Inv X ak Z H s)(hA:A.frames=X.A.frames)(hc:c=true->A.handled=none)(hp:∀p∈pn++ps,p∈X.pn++ak):Inv (X.seen A c pn E) ps Z H s:=
 ⟨⟨I.ok.mod,I.ok.kind,I.ok.glob,I.ok.blt,I.ok.above,I.ok.inj,I.ok.has,I.ok.cab,hc,hA.trans I.ok.frames,I.ok.stk,I.ok.Ht,I.ok.bs,I.ok.qC,I.ok.mC,I.ok.o9,I.ok.fO,I.ok.rT⟩,I.os,I.bare,I.base,I.loc,I.cell,I.free,I.cJ,λp z=>I.pin p (hp p z),I.hok,I.len⟩
theorem Inv.tG(I:Inv (X.seen A c pn E) ps Z H s)(hA:X.A.frames=A.frames)(hc:X.aj=true->X.A.handled=none)(hp:∀p∈X.pn++ak,p∈pn++ps):Inv X ak Z H s:=
 ⟨⟨I.ok.mod,I.ok.kind,I.ok.glob,I.ok.blt,I.ok.above,I.ok.inj,I.ok.has,I.ok.cab,hc,hA.trans I.ok.frames,I.ok.stk,I.ok.Ht,I.ok.bs,I.ok.qC,I.ok.mC,I.ok.o9,I.ok.fO,I.ok.rT⟩,I.os,I.bare,I.base,I.loc,I.cell,I.free,I.cJ,λp z=>I.pin p (hp p z),I.hok,I.len⟩
end
section
variable {X:Cx}{x n:Str}{np Qy pos:Pos}{b₀:Stmt}{body suite:List Stmt}{Dc:Addr}{i:Nat}{tb:XS->TS}{th:TS}
end
end L2
namespace L2
open PySem PySem.Spec PyProof.Rows PySem.W Builtin.ObjectAttr
section
variable {prog:Program}{w:World}{A:Around}{E:Value->Shared->Prop}{s:Shared}{K:Frag}{x C:Addr}{ox:Obj}{od:Option Obj}{name:Str}{tk:Tok}
theorem Qz(XI:K.In s.heap)(I:InstAt s.heap x ox C od)(hf:findObj K C od name=some r)
  (h:match r with|.value v=>Q (.done (.ret v)) s|.bind g a=>wpAny (model prog w) A (call g [a,.ref x,.ref C]) (λv s'=>Q (.done (.ret v)) s') E s|.missing=>False) :
  wpAny (model prog w) A (Builtin.«object.__getattribute__» ⟨[.ref x,.str name tk],[]⟩) Q E s:=by
 obtain⟨hh,g,d,t,os⟩:=s;have L0:=I.type (M:=model prog w);have L1:=looks_find (M:=model prog w) XI I hf;unfold Builtin.«object.__getattribute__»;refine aB (wpAny_of_eq (a:=(Value.ref x,[Value.str name tk])) (by rfl) ?_);refine aB (wpAny_of_eq (a:=name) (by rfl) ?_);refine aB (L0.at (aB (L1.at ?_)));cases r with
 |value v=>exact aQ h
 |bind g a=>
  show wpAny _ _ (holding [a] (call g [a,.ref x,.ref C]) >>= ret) _ _ _;exact aB (kW (dB h (λv s' z=>aQ z) λ_ _ z=>z))
 |missing=>exact h.elim
theorem QB(XI:K.In s.heap)(I:InstAt s.heap x ox C od)(hb:mroIn K C (.type "BaseException")=some true)(hf:findObj K C od name=some r)
  (h:match r with|.value v=>R (.ok (.ret v)) s|.bind g a=>wpAny (model prog w) A.in1 (call g [a,.ref x,.ref C]) (λv s'=>R (.ok (.ret v)) s') (λe s'=>R (.error e) s') s|.missing=>False) :
  codeAny (model prog w) A (.call (.builtin "BaseException.__getattribute__") ⟨[.ref x,.str name tk],[]⟩) R s:=by
 have hk:builtinKind "BaseException.__getattribute__"=some .slot:=by decide +kernel
 have tH:splitId "BaseException.__getattribute__"=some ("BaseException","__getattribute__"):=by decide +kernel
 have ha:=F.args_bexc_ga (.ref x) (.str name tk);refine codeAny_call_builtin F.attr_ValueError.ga.plain F.entry_bexc_ga ?_;have fin:wpAny (model prog w) A.in1 (Builtin.«object.__getattribute__» ⟨[.ref x,.str name tk],[]⟩) (λfin s'=>match fin with|.done f=>R (.ok f) s'|.again c'=>c'.quiet=true/\codeAny (model prog w) A c' R s') (λe s'=>R (.error e) s') s:=by
  refine Qz XI I hf ?_;cases r with
  |value v=>exact h
  |bind g a=>exact h
  |missing=>exact h.elim
 have QC:∀Q:Unit->Shared->Prop,Q () s->wpAny (model prog w) A.in1 (checkBuiltinCall "BaseException.__getattribute__" ⟨[.ref x,.str name tk],[]⟩) Q (λe s'=>R (.error e) s') s:=λQ hq=>by
  obtain⟨hh,g,d,t,os⟩:=s;have L0:=I.type (M:=model prog w);have L1:=looks_mroIn (M:=model prog w) XI hb;have LI:Looks (model prog w) hh (isInstance (.ref x) (.type "BaseException")) true:=L0.andThen L1;simp only[checkBuiltinCall,hk,tH];refine aB ?_
  repeat (first|with_reducible exact hq|with_reducible refine LI.at ?_|wp_step)
 exact QC _ fin
theorem bexc_get?(XI:K.In s.heap)(I:InstAt s.heap x ox C od)(hb:mroIn K C (.type "BaseException")=some true)(QD:findIn K (.ref C) "__getattribute__"=some (some (.builtin "BaseException.__getattribute__")))
  (QF:findIn K (.ref C) "__getattr__"=some none) (hf:findObj K C od name=some r)
  (h:match r with|.value v=>wpAny (model prog w) A (handedOut v) (λu s'=>Q (some u) s') (λ_ _=>False) {s with toks:=s.toks+1}|.bind g a=>wpAny (model prog w) A.in1 (call g [a,.ref x,.ref C]) (λv s'=>wpAny (model prog w) A (handedOut v) (λu s''=>Q (some u) s'') (λ_ _=>False) s') (λ_ _=>False) {s with toks:=s.toks+1}|.missing=>False) :
  wpAny (model prog w) A (getAttr? (.ref x) name) Q E s:=by
 obtain⟨hh,g,d,t,os⟩:=s;have L0:=I.type (M:=model prog w);have L1:=looks_findIn (M:=model prog w) XI QD;have L2:=looks_findIn (M:=model prog w) XI QF;have QG:(Value.builtin "BaseException.__getattribute__"==Value.builtin "object.__getattribute__")=false:=by decide +kernel
 unfold getAttr? getAttrBy? getAttrBy;refine aB (wpAny_mkText (aB (wpAny_attempt (kW (aB (L0.at (aB (L1.at ?_))))))));show wpAny _ _ (if (onTheHeap (.ref C)&&(Value.builtin "BaseException.__getattribute__"==Value.builtin "object.__getattribute__"))=true then _ else getAttrByItsOwn _ _ _ _ _ _) _ _ _;rw[QG,Bool.and_false,if_neg (by decide)];unfold getAttrByItsOwn hookBefore callGetattribute boundAndCalled;refine aB (L2.at ?_);refine aB (wpAny_attempt (kW (aB (wpAny_of_eq (F.attr_ValueError.ga.bind (.ref x)) ?_))));refine wpAny_call (QB XI I hb hf ?_);cases r with
 |value v=>exact dB h (λv s'' hv=>aQ hv) (λ_ _ z=>z.elim)
 |bind g a=>exact dB h (λv s' hv=>dB hv (λu s'' z=>aQ z) λ_ _ z=>z.elim) (λ_ _ z=>z.elim)
 |missing=>exact h.elim
end
structure XC(K:Frag)(C:Addr):Prop where
 ga:findIn K (.ref C) "__getattribute__"=some (some (.builtin "BaseException.__getattribute__"))
 gn:findIn K (.ref C) "__getattr__"=some none
 cl:findIn K (.ref C) "__class__"=some (some (.builtin "object.__class__"))
 mb:mroIn K C (.type "BaseException")=some true
 mo:mroIn K C (.type "object")=some true
 cd:(clsIn K C).isSome=true
 dg:specialIn K (.builtin "object.__class__") "__get__"=some (some (.builtin "getset_descriptor.__get__"))
 dt:takesIn K (.builtin "object.__class__")=some true
theorem QJ{K:Frag}{C:Addr}{od:Option Obj}{name:Str}{a g:Value}(hc:(clsIn K C).isSome=true)(ha:findIn K (.ref C) name=some (some a))(hg:specialIn K a "__get__"=some (some g))(ht:takesIn K a=some true):findObj K C od name=some (.bind g a):=by
 obtain⟨cd,z⟩:=BX.mp hc;simp only[findObj,z,ha,hg,ht,Option.bind_some]
theorem IV{K:Frag}{e C:Addr}(c:XC K C):KitX K (.ref e) (.ref C) (λh=>∃ox od,InstAt h e ox C od) where
 ty:=λ_ _ _ ⟨_,_,I⟩=>I.type
 it:=λ_ _ XI _=>by
  have q:=c.cd;unfold clsIn at q;split at q
  ·rename_i c' d' cd' sl' lk;intro A' Q' E' s' k z;unfold isType loadHead;exact aB (wpAny_loadPart (k _ _ (XI _ _ lk)) (aQ z))
  ·cases q
 ne:=λh tp dd its n sl XI QK=>by
  refine Bool.eq_false_iff.mpr λz=>?_;have ee:C=tp:=Value.ref.inj (rM.mp z);subst ee;have q:=c.cd;unfold clsIn at q;split at q
  ·rename_i c' d' cd' sl' lk;have y:=(XI _ _ lk).symm.trans QK;cases y
  ·cases q
 ca:=λ{prog w A E Q s} XI ⟨ox,od,I⟩ k=>by
  have hf:findObj K C od "__class__"=some (.bind (.builtin "getset_descriptor.__get__") (.builtin "object.__class__")):=QJ c.cd c.cl c.dg c.dt;refine bexc_get? XI I c.mb c.ga c.gn hf ?_;exact wpAny_call (class_get (s:={s with toks:=s.toks+1}) (ox:=ox) (od:=od) XI I c.mo (handed_on rfl k))
end L2
namespace L2
open PySem PySem.Spec PyProof.Rows
theorem QL:∀(names:List (Str×NameKind)) (cs:List (Str×Addr)),(∀x∈names,x.2=.free->∃c,env.cells.lookup x.1=some c)->(∀x c,cs.lookup x=some c->env.cells.lookup x=some c)->
  ∃cl,(forIn names cs λx r=>(do
    if x.2==.free then
     let a <-cellOf env x.1
     pure (ForInStep.yield ((x.1,a)::r))
    else pure (ForInStep.yield r)):Sem (List (Str×Addr)))=pure cl/\(∀x c,cl.lookup x=some c->env.cells.lookup x=some c)/\(∀x c,cs.lookup x=some c->cl.lookup x=some c)/\∀x∈names,x.2=.free->∃c,cl.lookup x.1=some c:=by
 intro names
 induction names with
 |nil=>intro cs _ h;exact⟨cs,rfl,h,λ_ _ q=>q,λx z=>nomatch z⟩
 |cons y r ih=>
  intro cs h1 h2;obtain⟨n,k⟩:=y;by_cases hk:k=.free
  ·subst hk;obtain⟨c,hc⟩:=h1 (n,.free) jx rfl;have hc:env.cells.lookup n=some c:=hc;have h3:∀x d,((n,c)::cs).lookup x=some d->env.cells.lookup x=some d:=λx d q=>by
    rw[kO] at q;by_cases z:x=n
    ·subst z;simp at q;subst q;exact hc
    ·have z':(x==n)=false:=by simpa using z
     rw[z'] at q;exact h2 x d q
   obtain⟨cl,e,a,b,d⟩:=ih ((n,c)::cs) (λx z=>h1 x (gP _ z)) h3;have QM:cellOf env n=pure c:=by
    unfold cellOf;rw[hc]
   refine⟨cl,?_,a,λx q z=>?_,λx z q=>?_⟩
   ·rw[List.forIn_cons];simp only[vd,if_true,QM];exact e
   ·by_cases y:x=n
    ·subst y;have z1:=h2 x q z;rw[hc] at z1;cases z1;exact b x c (by simp)
    ·have y':(x==n)=false:=by simpa using y
     exact b x q (by rw[kO,y'];exact z)
   ·rcases jq.mp z with z|z
    ·subst z;exact⟨c,b n c (by simp)⟩
    ·exact d x z q
  ·have hb:(k==NameKind.free)=false:=by simpa using hk
   obtain⟨cl,e,a,b,d⟩:=ih cs (λx z=>h1 x (gP _ z)) h2;refine⟨cl,?_,a,b,λx z q=>?_⟩
   ·rw[List.forIn_cons];simp only[hb,oR,lN];exact e
   ·rcases jq.mp z with z|z
    ·subst z;exact absurd q hk
    ·exact d x z q
theorem QS(h:∀x∈scope.names,x.2=.free->∃c,env.cells.lookup x.1=some c):∃cl,closureFor scope env=pure cl/\(∀x c,cl.lookup x=some c->env.cells.lookup x=some c)/\∀x∈scope.names,x.2=.free->∃c,cl.lookup x.1=some c:=by
 obtain⟨cl,e,a,_,d⟩:=QL scope.names [] h (λx c q=>by cases q);refine⟨cl,?_,a,d⟩;unfold closureFor;have e':=e;simp only[pure_bind,bind_pure] at e' ⊢;exact e'
theorem DW{env:Env}{k:NameKind}:∀{names:List (Str×NameKind)} {x:Str},(names.map λ(n,k)=>if (k==NameKind.free&&env.scope.kind==.function&&env.kindOf n==some .cell) then (n,NameKind.cell) else (n,k)).lookup x=some k->
  names.lookup x=some k\/(k=.cell/\names.lookup x=some .free)
 |[],x,h=>by simp at h
 |(n,q)::r,x,h=>by
  rw[wk,kO] at h;rw[kO];have hd:∀c:Bool,(if c=true then (n,NameKind.cell) else (n,q)).1=n:=λc=>by cases c<;>rfl
  rw[hd] at h;by_cases z:x=n
  ·subst z;simp only[vd] at h ⊢;split at h
   ·rename_i y;simp only[dU,rM] at y;cases h;exact .inr ⟨rfl,by rw[y.1.1]⟩
   ·cases h;exact .inl rfl
  ·have z':(x==n)=false:=by simpa using z
   simp only[z'] at h ⊢;exact DW h
theorem DX{env:Env}:∀{names:List (Str×NameKind)} {x:Str},names.lookup x=some .free->
  (names.map λ(n,k)=>if (k==NameKind.free&&env.scope.kind==.function&&env.kindOf n==some .cell) then (n,NameKind.cell) else (n,k)).lookup x=some .cell \/
  (names.map λ(n,k)=>if (k==NameKind.free&&env.scope.kind==.function&&env.kindOf n==some .cell) then (n,NameKind.cell) else (n,k)).lookup x=some .free
 |[],x,h=>by simp at h
 |(n,q)::r,x,h=>by
  rw[kO] at h;rw[wk,kO];have hd:∀c:Bool,(if c=true then (n,NameKind.cell) else (n,q)).1=n:=λc=>by cases c<;>rfl
  rw[hd];by_cases z:x=n
  ·subst z;simp only[vd] at h ⊢;cases h
   split
   ·exact .inl rfl
   ·exact .inr rfl
  ·have z':(x==n)=false:=by simpa using z
   simp only[z'] at h ⊢;exact DX h
structure je(n:Nat)(h1:Heap)(names:List (Str×NameKind))(cl cB:List (Str×Addr)):Prop where
 d1:∀x c,cB.lookup x=some c->(cl.lookup x=some c/\(x,NameKind.cell)∉names)\/((x,NameKind.cell)∈names/\n<c/\h1.IsCell c none)
 d2:∀x y c,n<c->cB.lookup x=some c->cB.lookup y=some c->x=y
 d3:∀x,names.lookup x=some .cell->∃c,cB.lookup x=some c
 d4:∀x c,(x,NameKind.cell)∉names->cl.lookup x=some c->cB.lookup x=some c
theorem cc:(NameKind.cell==NameKind.cell)=true:=by decide
theorem xX:∀(names:List (Str×NameKind)) (h:Heap) (b:Addr) (o:Obj),h.get? b=some o->(pushCells h names).get? b=some o
 |[],h,b,o,e=>e
 |(x,k)::r,h,b,o,e=>by
  rw[pushCells]
  split
  ·exact xX r _ b o (cP _ e)
  ·exact xX r h b o e
theorem DY:∀(names:List (Str×NameKind)) (h:Heap) (acc:List (Str×Addr)) (x:Str) (c:Addr),(cellsFrom h.objs.size names acc).lookup x=some c->
  (acc.lookup x=some c/\(x,NameKind.cell)∉names)\/((x,NameKind.cell)∈names/\h.objs.size<=c/\(pushCells h names).IsCell c none)
 |[],h,acc,x,c,e=>.inl ⟨e,by simp⟩
 |(y,k)::r,h,acc,x,c,e=>by
  rw[cellsFrom] at e;rw[pushCells];by_cases hk:k=.cell
  ·subst hk;rw[if_pos cc] at e ⊢;have sz:(h.push {cls:=Value.type "cell",data:=Data.cell none}).objs.size=h.objs.size+1:=by unfold Heap.push;simp
   rw[<-sz] at e;rcases DY r _ _ x c e with ⟨a,b⟩|⟨a,b,d⟩
   ·rw[kO] at a;by_cases z:x=y
    ·subst z;simp at a;subst a;exact .inr ⟨jx,cg _,_,xX r _ _ _ (h_ _ rfl),rfl⟩
    ·have z':(x==y)=false:=by simpa using z
     rw[z'] at a;exact .inl ⟨a,by simp[z,b]⟩
   ·exact .inr ⟨gP _ a,by lia,d⟩
  ·have hb:(k==NameKind.cell)=false:=by simpa using hk
   rw[if_neg (by rw[hb];decide)] at e ⊢;rcases DY r _ _ x c e with ⟨a,b⟩|⟨a,b,d⟩
   ·exact .inl ⟨a,by simp[b];intro _ q;exact hk q.symm⟩
   ·exact .inr ⟨gP _ a,b,d⟩
theorem D_:∀(names:List (Str×NameKind)) (n:Nat) (acc:List (Str×Addr)) (x y:Str) (c:Addr),(∀u v,acc.lookup u=some c->acc.lookup v=some c->u=v)->(∀u a,acc.lookup u=some a->a<n\/a≠c)->(cellsFrom n names acc).lookup x=some c->(cellsFrom n names acc).lookup y=some c->x=y
 |[],n,acc,x,y,c,h,_,e1,e2=>h x y e1 e2
 |(z,k)::r,n,acc,x,y,c,h,hl,e1,e2=>by
  rw[cellsFrom] at e1 e2;by_cases hk:k=.cell
  ·subst hk;rw[if_pos cc] at e1 e2;refine D_ r (n+1) _ x y c (λu v a b=>?_) (λu a q=>?_) e1 e2
   ·rw[kO] at a b;by_cases u1:u=z
    ·by_cases v1:v=z
     ·rw[u1,v1]
     ·have v':(v==z)=false:=by simpa using v1
      subst u1;simp at a;rw[v'] at b;subst a;have b:acc.lookup v=some n:=b;rcases hl v n b with q|q
      ·exact absurd q (jP _)
      ·exact absurd rfl q
    ·have u':(u==z)=false:=by simpa using u1
     rw[u'] at a;have a:acc.lookup u=some c:=a;by_cases v1:v=z
     ·subst v1;simp at b;subst b;rcases hl u n a with q|q
      ·exact absurd q (jP _)
      ·exact absurd rfl q
     ·have v':(v==z)=false:=by simpa using v1
      rw[v'] at b;exact h u v a b
   ·rw[kO] at q;by_cases u1:u=z
    ·subst u1;simp at q;subst q;exact .inl (Nat.lt_succ_self _)
    ·have u':(u==z)=false:=by simpa using u1
     rw[u'] at q;exact(hl u a q).imp (λq=>rE q) id
  ·have hb:(k==NameKind.cell)=false:=by simpa using hk
   rw[if_neg (by rw[hb];decide)] at e1 e2;exact D_ r n acc x y c h hl e1 e2
theorem Ed:∀(names:List (Str×NameKind)) (n:Nat) (acc:List (Str×Addr)) (x:Str) (c:Addr),(x,NameKind.cell)∉names->acc.lookup x=some c->(cellsFrom n names acc).lookup x=some c
 |[],n,acc,x,c,_,e=>e
 |(z,k)::r,n,acc,x,c,h,e=>by
  rw[cellsFrom];have hr:(x,NameKind.cell)∉r:=λq=>h (gP _ q);by_cases hk:k=.cell
  ·subst hk;rw[if_pos cc];refine Ed r (n+1) _ x c hr ?_;have:x≠z:=λq=>h (by rw[q];exact jx);have z':(x==z)=false:=by simpa using this
   rw[kO,z'];exact e
  ·have hb:(k==NameKind.cell)=false:=by simpa using hk
   rw[if_neg (by rw[hb];decide)];exact Ed r n acc x c hr e
theorem Ef:∀(names:List (Str×NameKind)) (acc:List (Str×Addr)) (s:Shared) (Q:List (Str×Addr)->Shared->Prop),
  Q (cellsFrom s.heap.objs.size names acc) {s with heap:=pushCells s.heap names}->
  wpAny M A (forIn names acc λx (cells:List (Str×Addr))=>match x with
   |(name,kind)=>if (kind==NameKind.cell)=true then do
     let a <-alloc {cls:=Value.type "cell",data:=Data.cell none}
     pure (ForInStep.yield ((name,a)::cells))
    else pure (ForInStep.yield cells)) Q E s
 |[],acc,s,Q,h=>by
  rw[List.forIn_nil];exact aQ h
 |(z,k)::r,acc,s,Q,h=>by
  rw[List.forIn_cons];rw[cellsFrom,pushCells] at h;by_cases hk:k=.cell
  ·subst hk;rw[if_pos cc,if_pos cc] at h;refine aB ?_;dsimp only;rw[if_pos cc];refine aB (wpAny_alloc (aQ ?_));refine Ef r _ _ Q ?_;have sz:(s.heap.push {cls:=Value.type "cell",data:=Data.cell none}).objs.size=s.heap.objs.size+1:=by unfold Heap.push;simp
   rw[sz];exact h
  ·have hb:(k==NameKind.cell)=false:=by simpa using hk
   rw[if_neg (by rw[hb];decide),if_neg (by rw[hb];decide)] at h;refine aB ?_;dsimp only;rw[if_neg (by rw[hb];decide)];exact aQ (Ef r _ _ Q h)
theorem IW(old:∀x c,cl.lookup x=some c->c<s.heap.objs.size)(inj:∀x y c,cl.lookup x=some c->cl.lookup y=some c->x=y)
  (h:∀h1 cB,h1.Ns s.heap.objs.size (λ_=>none)->(∀b o,s.heap.get? b=some o->h1.get? b=some o)->je s.heap.objs.size h1 scope.names cl cB->Q {scope:=scope,locals:=s.heap.objs.size,globals:=globals,cells:=cB,qual:=qual,func:=none,code:=env.code,frame:=env.frame,builtins:=env.builtins} {s with heap:=h1}) :
  wpAny M A (newFunctionEnv scope globals cl [] qual none .none (some env)) Q E s:=by
 unfold newFunctionEnv;refine aB (wpAny_alloc ?_);refine aB ?_;refine Ef scope.names cl _ _ ?_;dsimp only;rw[List.forIn_nil];refine aB (aQ (aQ ?_));have sz:(s.heap.push {cls:=Value.type (if (some env).isSome=true then "dict" else "frame"),data:=Data.dict #[]}).objs.size=s.heap.objs.size+1:=by unfold Heap.push;simp
 refine h _ _ ?_ (λb o e=>xX _ _ _ _ (cP _ e)) ⟨λx c e=>?_,λx y c hc e1 e2=>?_,λx e=>?_,λx c hx e=>Ed _ _ _ x c hx e⟩
 ·refine⟨_,#[],_,xX _ _ _ _ (h_ _ rfl),rfl,?_,λ_=>rfl⟩;intro e he;simp at he
 ·rcases DY _ _ _ x c e with ⟨a,b⟩|⟨a,b,d⟩
  ·exact .inl ⟨a,b⟩
  ·rw[sz] at b;exact .inr ⟨a,by lia,d⟩
 ·exact D_ _ _ _ x y c (λu v a b=>inj u v c a b) (λu a q=>.inl (by rw[sz];exact rE (old u a q))) e1 e2
 ·have:=zT scope.names (s.heap.push {cls:=Value.type (if (some env).isSome=true then "dict" else "frame"),data:=Data.dict #[]}).objs.size cl (.inl e);exact BX.mp this
noncomputable def Cx.blk(X:Cx)(scope:Scope)(cl:List (Str×Addr))(N:List Str)(C:Addr)(s3:Shared)(H3:Hp)(fp:List Addr)(ak:List (Addr×Obj)):Cx where
 prog:=X.prog
 w:=X.w
 K:=X.K
 mg:=X.mg
 base:=X.base
 A:=X.A
 N:=N
 s₀:=s3
 H₀:=H3
 env:=compEnvC scope cl C X.env
 outer:=X.stack
 stack:=X.stack
 ex:=fp
 fn:=λx=>scope.names.lookup x==some .cell
 aj:=X.aj
 pn:=X.pn++ak
 xe:=λ_ _=>False
structure cC(sc scope:Scope):Prop where
 kind:scope.kind=.function
 QT:∀y∈scope.names,y.2=.cell->scope.names.lookup y.1=some .cell
 free:∀y∈scope.names,y.2=.free->sc.names.lookup y.1=some .cell\/sc.names.lookup y.1=some .free
 loc:∀y∈scope.names,y.2=.local->scope.names.lookup y.1=some .local
section
variable {X:Cx}{ak:List (Addr×Obj)}{Z:St}{H:Hp}{s:Shared}{scope:Scope}{cl:List (Str×Addr)}{N:List Str}{fp:List Addr}{ZY:St}
theorem I8{h1:Heap}{t:Nat}{cB:List (Str×Addr)}(I:Inv X ak Z H s)(B:cC X.env.scope scope)(c1:∀x c,cl.lookup x=some c->X.env.cells.lookup x=some c)(c2:∀x∈scope.names,x.2=.free->∃c,cl.lookup x.1=some c)
  (f:∀b∈fp,cQ X ak H b) (fo:∀b∈fp,∃o,s.heap.get? b=some o) (hn:h1.Ns s.heap.objs.size (λ_=>none)) (kp:∀b o,s.heap.get? b=some o->h1.get? b=some o) (CN:je s.heap.objs.size h1 scope.names cl cB)
  (hl:ZY.length=N.length) (hZ:∀(i:Nat) (x:Str) (v:V),N[i]?=some x->ZY[i]?=some (some v)->scope.names.lookup x=some .free/\∃j:Nat,X.N[j]?=some x/\Z[j]?=some (some v)) :
  Inv (X.blk scope cB N s.heap.objs.size s H fp ak) [] ZY H {s with heap:=h1,toks:=t}:=by
 have lt:∀b o,s.heap.get? b=some o->b≠s.heap.objs.size:=λb o q=>dH (bI q);have I9:∀b,b≠X.env.locals->b∉X.fs->b∉frs X.stack:=λb a c z=>(jq.mp (I.fP b z)).elim a c;have mem_of:∀x k,scope.names.lookup x=some k->(x,k)∈scope.names:=λx k q=>u5 q;have old:∀x c,cl.lookup x=some c->c<s.heap.objs.size:=λx c q=>by
  obtain⟨v,o,q1,q2⟩:=I.cell x c (c1 x c q);exact bI q1
 have I_:∀x,scope.names.lookup x=some .free->(x,NameKind.cell)∉scope.names:=λx q z=>by
  have:=B.QT _ z rfl;have this:scope.names.lookup x=some .cell:=this;rw[q] at this;cases this
 refine⟨⟨I.ok.mod,B.kind,I.ok.glob,I.ok.blt,cg _,λx y c a b=>?_,λx hx=>?_,λx c z q=>?_,I.ok.hd,I.ok.frames,.inl rfl,λb hb=>?_,I.bs,kY I.ok.qC I.sz,λb o q hb=>?_,λb hb=>I9 b (f b hb).2.1 (f b hb).2.2.1,I.stack,⟨I.iy,I.rU⟩⟩,
  rfl,I.bare,Un.kept kp,⟨_,hn,λi x v e1 e2 e3=>?_⟩,λx c q=>?_,I.hok.fresh (cg _),λx c q=>?_,λp hp=>?_,I.hok.kept kp,hl⟩
 ·by_cases hc:s.heap.objs.size<c
  ·exact CN.d2 x y c hc a b
  ·rcases CN.d1 x c a with ⟨a1,_⟩|⟨_,a1,_⟩
   ·rcases CN.d1 y c b with ⟨b1,_⟩|⟨_,b1,_⟩
    ·exact I.ok.inj x y c (c1 x c a1) (c1 y c b1)
    ·exact absurd b1 hc
   ·exact absurd a1 hc
 ·have hx:(relabel scope X.env).names.lookup x=some .cell\/(relabel scope X.env).names.lookup x=some .free:=hx;have fr:scope.names.lookup x=some .cell\/scope.names.lookup x=some .free:=by
   rcases hx with hx|hx
   ·rcases DW hx with z|⟨_,z⟩
    ·exact .inl z
    ·exact .inr z
   ·rcases DW hx with z|⟨z,_⟩
    ·exact .inr z
    ·cases z
  rcases fr with fr|fr
  ·exact CN.d3 x fr
  ·obtain⟨c,hc⟩:=c2 (x,.free) (mem_of x _ fr) rfl;exact⟨c,CN.d4 x c (I_ x fr) hc⟩
 ·rcases CN.d1 x c q with ⟨_,q1⟩|⟨_,q1,_⟩
  ·have z:(scope.names.lookup x==some NameKind.cell)=true:=z;exact absurd (mem_of x _ (by simpa using z)) q1
  ·exact lK q1
 ·obtain⟨o,q⟩:=fo b hb;refine⟨lt b o q,λx c z=>?_⟩;rcases CN.d1 x c z with ⟨q1,_⟩|⟨_,q1,_⟩
  ·exact(f b hb).2.2.2.2.1 x c (c1 x c q1)
  ·exact λe=>absurd (bI q) (by rw[<-e];exact vg.mpr (lK q1))
 ·obtain⟨_,_,_,z,_⟩:=f b hb;rcases z with z|z
  ·exact I.ok.mC b o q z
  ·exact absurd (eZ (bI q) (kY I.ok.qC z)) (jP _)
 ·obtain⟨fr,j,hj,hv⟩:=hZ i x v e1 e2;have hk:=B.free (x,.free) (mem_of x _ fr) rfl;obtain⟨m,hm,QV⟩:=I.loc;obtain⟨u,r,l⟩:=QV j x v hj hv (hk.elim (λz=>.inr (.inl z)) λz=>.inr (.inr z));obtain⟨c',rZ⟩:=c2 (x,.free) (mem_of x _ fr) rfl;have rZ:cl.lookup x=some c':=rZ;refine⟨u,r,.inr ⟨DX fr,c',CN.d4 x c' (I_ x fr) rZ,?_⟩⟩;rcases l with ⟨k1,_⟩|⟨_,c,k2,oc,k3,k4⟩
  ·have k1:X.env.scope.names.lookup x=some .local:=k1;rcases hk with hk|hk
   ·have hk:X.env.scope.names.lookup x=some .cell:=hk;rw[k1] at hk;cases hk
   ·have hk:X.env.scope.names.lookup x=some .free:=hk;rw[k1] at hk;cases hk
  ·have e:=c1 x c' rZ;rw[k2] at e;cases e;exact⟨oc,kp _ oc k3,k4⟩
 ·rcases CN.d1 x c q with ⟨q1,_⟩|⟨_,_,q1⟩
  ·obtain⟨v,o,q1,q2⟩:=I.cell x c (c1 x c q1);exact⟨v,o,kp c o q1,q2⟩
  ·exact⟨none,q1⟩
 ·rcases CN.d1 x c q with ⟨q1,_⟩|⟨_,q1,_⟩
  ·exact I.cJ x c (c1 x c q1)
  ·exact I.hok.fresh (lK q1)
 ·have hp:p∈X.pn++ak:=by
   have z:p∈(X.pn++ak)++[]:=hp;simpa using z
  obtain⟨a1,a2,a3,a4,a5⟩:=I.pin p hp;exact⟨kp _ _ a1,a2,lt _ _ a1,I9 _ a3 a4,a5⟩
theorem Ja(I:Inv X ak Z H s)(f:∀b∈fp,cQ X ak H b)(aK:Inv (X.blk scope cl N s.heap.objs.size s H fp ak) [] Z' H' s'):Inv X ak Z H' s':=
 I.call' (ch:=fp) aK.os aK.base aK.hok aK.bare λb hb=>by
  obtain⟨_,a2,_,a4,a5,a6⟩:=f b hb;exact⟨a4.imp id λz=>zV z,a2,a5,a6⟩
theorem Jc{Z':St}{H':Hp}{s':Shared}{h2:Heap}{C:Addr}(aK:Inv X ak Z H' s')(hC:X.s₀.heap.objs.size<=C)(n1:H' C=none)(n2:C≠X.env.locals)(n3:∀x c,X.env.cells.lookup x=some c->c≠C)(n4:∀p∈X.pn++ak,p.1≠C)
  (sb:Heap.SameBut C s'.heap h2):Inv X ak Z H' {s' with heap:=h2}:=
 aK.turned (t':=s'.toks) (λb o z q=>(sb.2 b z).trans q) n1 n2 (.inr hC) n3 n4
end
noncomputable abbrev fK(ifs:List Expr)(env:Env):Sem Bool:=forIn ifs true λc r=>if r=true then do let ok <-isTrue c env (eval c env);pure (ForInStep.yield ok) else pure (ForInStep.yield r)
theorem QW{prog:Program}{w:World}{A:Around}{R:Result->Shared->Prop}{s:Shared}{elt target iter:Expr}{ifs:List Expr}{scope:Scope}{pos:Pos}{it acc:Value}{env:Env}(V:Nat->Shared->Prop)
  (turn:∀n s,V n s->wpAny (model prog w) A (pyNext it) (λr s₁=>match r with
   |none=>R (.ok .next) s₁
   |some v=>wpAny (model prog w) A (letOwnedTupleGo target it v) (λ_ s₂=>wpAny (model prog w) A (assign target env v) (λ_ s₃=>
     wpAny (model prog w) A (fK ifs env) (λok s₄=>
      if ok=true then wpAny (model prog w) A (eval elt env) (λx s₅=>wpAny (model prog w) A (call (.builtin "list.append") [acc,x]) (λ_ s₆=>∃m,m<n/\V m s₆) (λ_ _=>False) s₅) (λ_ _=>False) s₄
      else ∃m,m<n/\V m s₄) (λ_ _=>False) s₃) (λ_ _=>False) s₂) (λ_ _=>False) s₁) (λ_ _=>False) s)
  (n:Nat) (h:V n s):codeAny (model prog w) A (.compLoop (.ListComp elt [⟨target,iter,ifs,0⟩] scope pos) 0 it acc env) R s:=by
 refine codeAny_loop rfl V (λn s hV=>?_) n h;show wpAny _ A ((compTurn (.ListComp elt [⟨target,iter,ifs,0⟩] scope pos) 0 it acc env).onRaise (λx=>do noteFrame x env;theTreesLotGoes x)) _ _ s;refine wpAny_noted ?_;rw[compTurn_list];refine aB (nZ (aB (dB (turn n s hV) (λr s₁ h₁=>?_) λ_ _ z=>z.elim)));cases r with
 |none=>exact aQ h₁
 |some v=>
  refine aB (dB h₁ (λ_ s₂ h₂=>?_) λ_ _ z=>z.elim);refine aB (dB h₂ (λ_ s₃ h₃=>aB (dB h₃ (λok s₄ h₄=>?_) λ_ _ z=>z.elim)) λ_ _ z=>z.elim);cases ok with
  |true=>
   simp only[if_true] at h₄ ⊢;exact aB (aB (dB h₄ (λx s₅ h₅=>aB (dB h₅ (λ_ s₆ h₆=>aQ (aQ ⟨rfl,h₆⟩)) λ_ _ z=>z.elim)) λ_ _ z=>z.elim))
  |false=>
   simp only[oR,lN] at h₄ ⊢;exact aQ ⟨rfl,h₄⟩
def vp(X:Cx)(ifs:List Expr)(t:TT):Prop:=
 ∀(ak:List (Addr×Obj)) (s:Shared) (Z:St) (H:Hp) (Q:Bool->Hp->Prop),Inv X ak Z H s->t Z H Q->wpAny (model X.prog X.w) X.A (fK ifs X.env) (TP X ak Z Q) X.xe s
noncomputable def Eh:TT:=λ_ H Q=>Q true H
theorem QX:vp X [] Eh:=λ_ _ _ H _ I h=>wpAny_tests_nil ⟨H,I,h⟩
theorem QZ(h:PT X c t):vp X [c] t:=λak s Z H Q I hq=>wpAny_tests_one (h ak s Z H Q I hq)
def xY(ZY:St->St)(g:TG)(tt:TT)(te:TE)(aK:It)(Z:St)(H:Hp)(Q:VK):Prop:=∀D,H D=none->∃W:Nat->Nat->St->Hp->Prop,(∃m,W 0 m (ZY Z) (upd H D (.lst [])))/\∀i m Z' H',W i m Z' H'->
 (aK.stop i H'/\Q (.ref D) H')\/(aK.go i H'/\∃N:St->Hp->Prop,(∀Z2 H2,N Z2 H2->∃m',m'<m/\W (i+1) m' Z2 H2)/\∀x H2,aK.mL i H' x H2->g x Z' H2 λZ3 H3=>tt Z3 H3 λok H4=>
  if ok=true then te Z3 H4 λy H5=>∃ys,H5 D=some (.lst ys)/\ys.length<sizeLine/\N Z3 (upd H5 D (.lst (ys++[y]))) else N Z3 H4)
section
variable {X:Cx}{elt tg iter:Expr}{ifs:List Expr}{scope:Scope}{pos:Pos}{N:List Str}{ZY:St->St}{wi:TI}{g:TG}{tt:TT}{te:TE}
structure Parts(X:Cx)(elt tg:Expr)(ifs:List Expr)(scope:Scope)(N:List Str)(g:TG)(tt:TT)(te:TE):Prop where
 tgt:∀cl C s3 H3 fp ak,PG (X.blk scope cl N C s3 H3 fp ak) tg g
 xZ:∀cl C s3 H3 fp ak,vp (X.blk scope cl N C s3 H3 fp ak) ifs tt
 el:∀cl C s3 H3 fp ak,PE (X.blk scope cl N C s3 H3 fp ak) elt te
theorem Q0(hc:X.aj=true)(B:cC X.env.scope scope)(P:Parts X elt tg ifs scope N g tt te)(hl:∀Z,(ZY Z).length=N.length)
  (hZ:∀(Z:St) (i:Nat) (x:Str) (v:V),N[i]?=some x->(ZY Z)[i]?=some (some v)->scope.names.lookup x=some .free/\∃j:Nat,X.N[j]?=some x/\Z[j]?=some (some v))
  {ak:List (Addr×Obj)} {s:Shared} {Z:St} {H:Hp} {Q:VK} {it:Addr} {fp:List Addr} {tn:Nat->Heap->Prop} {aK:It} (I:Inv X ak Z H s) (T:Turn X.prog X.w X.K tg aK fp it tn) (st:tn 0 s.heap) (f:∀b∈fp,cQ X ak H b) (h:xY ZY g tt te aK Z H Q)
  {cl:List (Str×Addr)} (c1:∀x c,cl.lookup x=some c->X.env.cells.lookup x=some c) (c2:∀x∈scope.names,x.2=.free->∃c,cl.lookup x.1=some c) {R:Value->Addr->Result->Shared->Prop} {E:Value->Shared->Prop}
  (k:∀D C s' H',Inv X ak Z H' s'->X.s₀.heap.objs.size<=C->H' C=none->C≠X.env.locals->(∀x c,X.env.cells.lookup x=some c->c≠C)->(∀p∈X.pn++ak,p.1≠C)->(∃m,s'.heap.Ns C m)->Q (.ref D) H'->R (.ref D) C (.ok .next) s') :
  wpAny (model X.prog X.w) X.A (newList []) (λacc s₃=>wpAny (model X.prog X.w) X.A (newFunctionEnv scope X.env.globals cl [] X.env.qual none .none (some X.env)) (λcenv s₄=>
   codeAny (model X.prog X.w) X.A (.compStart (.ListComp elt [⟨tg,iter,ifs,0⟩] scope pos) 0 (.ref it) acc {cenv with scope:=relabel scope X.env}) (R acc cenv.locals) s₄) E s₃) E s:=by
 refine qu ?_;have hD:H s.heap.objs.size=none:=I.hok.fresh (cg _);have I3:Inv X ak Z (upd H s.heap.objs.size (.lst [])) {s with heap:=s.heap.push {cls:=.type "list",dict:=none,data:=.seq ([]:List Value).toArray}}:=
  I.laid (t':=s.toks) (λb u q=>cP _ q) (cg _) ⟨n6 _,[],0,.nil,h_ _ rfl⟩
 have f3:∀b∈fp,cQ X ak (upd H s.heap.objs.size (.lst [])) b:=λb hb=>by
  obtain⟨a1,a2⟩:=f b hb;obtain⟨o,q,_⟩:=T.obj 0 _ st b hb;exact⟨by rw[bA (dH (bI q))];exact a1,a2⟩
 have st3:tn 0 (s.heap.push {cls:=.type "list",dict:=none,data:=.seq ([]:List Value).toArray}):=T.keep _ _ _ st λb hb o q=>cP _ q;obtain⟨W,⟨m0,w0⟩,turn⟩:=h s.heap.objs.size hD;generalize Ej:({s with heap:=s.heap.push {cls:=.type "list",dict:=none,data:=.seq ([]:List Value).toArray}}:Shared)=s3 at *;have jF:tn 0 s3.heap:=by rw[<-Ej];exact st3
 generalize Q5:upd H s.heap.objs.size (.lst [])=H3 at *;refine IW (λx c q=>by obtain⟨v,o,q1,_⟩:=I3.cell x c (c1 x c q);exact bI q1) (λx y c a b=>I3.ok.inj x y c (c1 x c a) (c1 y c b)) λh1 cB hn kp CN=>?_;have tK:Inv (X.blk scope cB N s3.heap.objs.size s3 H3 fp ak) [] (ZY Z) H3 {s3 with heap:=h1}:=
  I8 (t:=s3.toks) I3 B c1 c2 f3 (λb hb=>let ⟨o,q,_⟩:=T.obj 0 _ jF b hb;⟨o,q⟩) hn kp CN (hl Z) (hZ Z)
 have yc:tn 0 h1:=T.keep _ _ _ jF λb hb o q=>kp b o q;have fY:∀{H':Hp},(∀b∈fp,H' b=none)->∀b∈fp,cQ (X.blk scope cB N s3.heap.objs.size s3 H3 fp ak) [] H' b:=λ{H'} z b hb=>by
  obtain⟨a1,a2,a3,a4,a5,a6⟩:=f3 b hb;obtain⟨o,q,_⟩:=T.obj 0 _ jF b hb;refine⟨z b hb,dH (bI q),λy=>(jq.mp (I3.fP b y)).elim a2 a3,.inl hb,λx c y=>?_,λp hp=>a6 p ?_⟩
  ·rcases CN.d1 x c y with ⟨q1,_⟩|⟨_,q1,_⟩
   ·exact a5 x c (c1 x c q1)
   ·exact λe=>absurd (bI q) (by rw[<-e];exact vg.mpr (lK q1))
  have y:p∈(X.pn++ak)++[]:=hp;simpa using y
 have loop:codeAny (model X.prog X.w) X.A (.compLoop (.ListComp elt [⟨tg,iter,ifs,0⟩] scope pos) 0 (.ref it) (.ref s.heap.objs.size) (compEnvC scope cB s3.heap.objs.size X.env)) (R (.ref s.heap.objs.size) s3.heap.objs.size) {s3 with heap:=h1}:=by
  refine QW (λn s'=>∃i Z' H',Inv (X.blk scope cB N s3.heap.objs.size s3 H3 fp ak) [] Z' H' s'/\tn i s'.heap/\(∀b∈fp,H' b=none)/\W i n Z' H') ?_ m0 ⟨0,ZY Z,H3,tK,yc,λb hb=>(f3 b hb).1,w0⟩;rintro n s5 ⟨i,Z5,H5,gK,lR,oh,w5⟩;rcases turn i n Z5 H5 w5 with ⟨stop,q⟩|⟨go,Nx,hN,step⟩
  ·refine aN (T.done (X.blk scope cB N s3.heap.objs.size s3 H3 fp ak) rfl rfl rfl hc i [] s5 Z5 H5 _ gK (fY oh) lR stop) λr s6 ⟨hr,iC⟩=>?_;subst hr;have JX:=Ja I3 f3 iC;refine k s.heap.objs.size s3.heap.objs.size s6 H5 JX I3.sz iC.free (oW I3.lt) (λx c y z=>?_) (λp hp z=>?_) ?_ q
   ·obtain⟨v,qc⟩:=I3.cell x c y;exact absurd qc.lt (by rw[z];exact jP _)
   ·exact absurd (bI (I3.pin p hp).1) (by rw[z];exact jP _)
   ·obtain⟨m,hm,_⟩:=iC.loc;exact⟨m,hm⟩
  ·refine aN (T.item (X.blk scope cB N s3.heap.objs.size s3 H3 fp ak) rfl rfl rfl hc i [] s5 Z5 H5 _ gK (fY oh) lR go) λr s6 hx=>oZ hx λu hr h6=>?_;subst hr;refine aN h6 λ_ s7 ⟨x,H7,mV,r7,y7,mW,yd⟩=>?_;have jf:=mV.pinned (fY yd) (T.obj _ _ mW);refine aN (P.tgt cB s3.heap.objs.size s3 H3 fp ak _ s7 Z5 H7 x u _ jf r7 (step x H7 y7)) λ_ s8 ⟨Z8,H8,mX,q8⟩=>?_;refine aN (P.xZ cB s3.heap.objs.size s3 H3 fp ak _ s8 Z8 H8 _ mX q8) λok s9 hx=>oZ hx λH9 mY q9=>?_;have again:∀{H':Hp} {s':Shared},Inv (X.blk scope cB N s3.heap.objs.size s3 H3 fp ak) ([]++eE fp s7.heap) Z8 H' s'->Nx Z8 H'->∃m,m<n/\∃i Z' H',Inv (X.blk scope cB N s3.heap.objs.size s3 H3 fp ak) [] Z' H' s'/\tn i s'.heap/\(∀b∈fp,H' b=none)/\W i m Z' H':=λ{H' s'} dh n'=>by
    obtain⟨m',hm,w'⟩:=hN Z8 H' n';refine⟨m',hm,i+1,Z8,H',dh.aU,T.keep _ _ _ mW λb hb o e=>(dh.pin (b,o) (gF _ (gF _ (qG hb e)))).1,λb hb=>?_,w'⟩;obtain⟨o,e,d⟩:=T.obj _ _ mW b hb;exact(dh.pin (b,o) (gF _ (gF _ (qG hb e)))).2.1
   cases ok with
   |false=>
    rw[if_neg (by decide)] at q9 ⊢;exact again mY q9
   |true=>
    rw[if_pos rfl] at q9 ⊢;refine aN (P.el cB s3.heap.objs.size s3 H3 fp ak _ s9 Z8 H9 _ mY q9) λv Ax ⟨y,Ek,mZ,r10,ys,tL,hz,El⟩=>?_;refine aN (DG (X:=(X.blk scope cB N s3.heap.objs.size s3 H3 fp ak)) _ Ax Z8 Ek (.ref s.heap.objs.size) [y] (.ref s.heap.objs.size) [v] (λ_ H'=>Nx Z8 H') mZ rfl (.cons r10 .nil) ⟨s.heap.objs.size,ys,y,rfl,rfl,tL,hz,El⟩) λ_ Jd hx=>fj hx λ_ Je jg _ Em=>again jg Em
 exact codeAny_compStart_list loop (T.self _ 0 _ _ _ yc loop)
end
noncomputable def qI(wi:TI)(ZY:St->St)(g:TG)(tt:TT)(te:TE):TE:=λZ H Q=>wi Z H λaK H1=>xY ZY g tt te aK Z H1 Q
section
variable {X:Cx}{elt tg iter:Expr}{ifs:List Expr}{scope:Scope}{pos spos py:Pos}{N:List Str}{ZY:St->St}{wi:TI}{g:TG}{tt:TT}{te:TE}{i:Nat}{y:Str}
theorem Jf(I:Inv X ak Z H s)(B:cC X.env.scope scope):∃cl,closureFor scope X.env=pure cl/\(∀x c,cl.lookup x=some c->X.env.cells.lookup x=some c)/\∀x∈scope.names,x.2=.free->∃c,cl.lookup x.1=some c:=
 QS λx hx hf=>I.ok.has x.1 (B.free x hx hf)
theorem Q6(hc:X.aj=true)(B:cC X.env.scope scope)(hi:PI X tg iter wi)(P:Parts X elt tg ifs scope N g tt te)(hl:∀Z,(ZY Z).length=N.length)
  (hZ:∀(Z:St) (i:Nat) (x:Str) (v:V),N[i]?=some x->(ZY Z)[i]?=some (some v)->scope.names.lookup x=some .free/\∃j:Nat,X.N[j]?=some x/\Z[j]?=some (some v))
  (hs:∀x,foldedSetIterable iter X.env x=pure x:=by intro _;rfl):PE X (.ListComp elt [⟨tg,iter,ifs,0⟩] scope pos) (qI wi ZY g tt te):=by
 intro ak s Z H Q I h;obtain⟨cl,oE,c1,c2⟩:=Jf I B;rw[eval_ListComp];refine wpAny_comprehension_free (use:=none) rfl hs oE B.kind B.loc (aN (hi ak s Z H _ I h) λxv s1 h1=>aN h1 λitv s2 h2=>?_);obtain⟨it,fp,tn,aK,H2,e,I2,T,st2,f2,hq⟩:=h2;subst e;exact Q0 hc B P hl hZ I2 T st2 f2 hq c1 c2 (R:=λacc C=>compPost (model X.prog X.w) X.A X.xe none (EP X ak Z Q) acc C) λD C s' H' dh a b c d e ⟨m,hm⟩ q=>⟨m,hm,λh' sb=>⟨.ref D,H',Jc (Z':=Z) dh a b c d e sb,rfl,q⟩⟩
end
theorem Q7(elt target iter:Expr)(ifs:List Expr)(g₁:Comprehension)(scope:Scope)(pos:Pos)(it acc:Value)(env:Env) :
  compTurn (.ListComp elt [g₁,⟨target,iter,ifs,0⟩] scope pos) 1 it acc env=(do
   standAt iter.pos
   match <-pyNext it with
   |none=>pure (.done .next)
   |some v=>
    letOwnedTupleGo target it v
    assign target env v
    let mut ok:=true
    for c in ifs do
     if ok then ok <-isTrue c env (eval c env)
    if ok then
     (do let _ <-call (.builtin "list.append") [acc,<-eval elt env])
    again (.compLoop (.ListComp elt [g₁,⟨target,iter,ifs,0⟩] scope pos) 1 it acc env)):=by rfl
theorem Q8(elt target iter target₂ iter₂:Expr)(ifs ifs₂:List Expr)(scope:Scope)(pos:Pos)(it acc:Value)(env:Env) :
  compTurn (.ListComp elt [⟨target,iter,ifs,0⟩,⟨target₂,iter₂,ifs₂,0⟩] scope pos) 0 it acc env=(do
   standAt iter.pos
   match <-pyNext it with
   |none=>pure (.done .next)
   |some v=>
    letOwnedTupleGo target it v
    assign target env v
    let mut ok:=true
    for c in ifs do
     if ok then ok <-isTrue c env (eval c env)
    if ok then
     let x <-eval iter₂ env
     standAt iter₂.pos
     let x <-foldedSetIterable iter₂ env x
     let _ <-runOwn (.compStart (.ListComp elt [⟨target,iter,ifs,0⟩,⟨target₂,iter₂,ifs₂,0⟩] scope pos) 1 (<-holding [x] (pyIter x)) acc env) env
     again (.compLoop (.ListComp elt [⟨target,iter,ifs,0⟩,⟨target₂,iter₂,ifs₂,0⟩] scope pos) 0 it acc env)
    else
     again (.compLoop (.ListComp elt [⟨target,iter,ifs,0⟩,⟨target₂,iter₂,ifs₂,0⟩] scope pos) 0 it acc env)):=by rfl
theorem Q9(V:Nat->Shared->Prop)
  (turn:∀n s,V n s->wpAny (model prog w) A (pyNext it) (λr s₁=>match r with
   |none=>R (.ok .next) s₁
   |some v=>wpAny (model prog w) A (letOwnedTupleGo target it v) (λ_ s₂=>wpAny (model prog w) A (assign target env v) (λ_ s₃=>
     wpAny (model prog w) A (fK ifs env) (λok s₄=>
      if ok=true then wpAny (model prog w) A (eval elt env) (λx s₅=>wpAny (model prog w) A (call (.builtin "list.append") [acc,x]) (λ_ s₆=>∃m,m<n/\V m s₆) (λ_ _=>False) s₅) (λ_ _=>False) s₄
      else ∃m,m<n/\V m s₄) (λ_ _=>False) s₃) (λ_ _=>False) s₂) (λ_ _=>False) s₁) (λ_ _=>False) s)
  (n:Nat) (h:V n s):codeAny (model prog w) A (.compLoop (.ListComp elt [g₁,⟨target,iter,ifs,0⟩] scope pos) 1 it acc env) R s:=by
 refine codeAny_loop rfl V (λn s hV=>?_) n h;show wpAny _ A ((compTurn (.ListComp elt [g₁,⟨target,iter,ifs,0⟩] scope pos) 1 it acc env).onRaise (λx=>do noteFrame x env;theTreesLotGoes x)) _ _ s;refine wpAny_noted ?_;rw[Q7];refine aB (nZ (aB (dB (turn n s hV) (λr s₁ h₁=>?_) λ_ _ z=>z.elim)));cases r with
 |none=>exact aQ h₁
 |some v=>
  refine aB (dB h₁ (λ_ s₂ h₂=>?_) λ_ _ z=>z.elim);refine aB (dB h₂ (λ_ s₃ h₃=>aB (dB h₃ (λok s₄ h₄=>?_) λ_ _ z=>z.elim)) λ_ _ z=>z.elim);cases ok with
  |true=>
   simp only[if_true] at h₄ ⊢;exact aB (aB (dB h₄ (λx s₅ h₅=>aB (dB h₅ (λ_ s₆ h₆=>aQ (aQ ⟨rfl,h₆⟩)) λ_ _ z=>z.elim)) λ_ _ z=>z.elim))
  |false=>
   simp only[oR,lN] at h₄ ⊢;exact aQ ⟨rfl,h₄⟩
theorem Q_{prog:Program}{w:World}{A:Around}{R:Result->Shared->Prop}{s:Shared}{elt target iter target₂ iter₂:Expr}{ifs ifs₂:List Expr}{scope:Scope}{pos:Pos}{it acc:Value}{env:Env}(V:Nat->Shared->Prop)(hs:∀x,foldedSetIterable iter₂ env x=pure x)
  (turn:∀n s,V n s->wpAny (model prog w) A (pyNext it) (λr s₁=>match r with
   |none=>R (.ok .next) s₁
   |some v=>wpAny (model prog w) A (letOwnedTupleGo target it v) (λ_ s₂=>wpAny (model prog w) A (assign target env v) (λ_ s₃=>
     wpAny (model prog w) A (fK ifs env) (λok s₄=>
      if ok=true then wpAny (model prog w) A (eval iter₂ env) (λx s₅=>wpAny (model prog w) A (pyIter x) (λit₂ s₆=>codeAny (model prog w) A (.compStart (.ListComp elt [⟨target,iter,ifs,0⟩,⟨target₂,iter₂,ifs₂,0⟩] scope pos) 1 it₂ acc env) (λr s₇=>r=.ok .next/\∃m,m<n/\V m s₇) s₆) (λ_ _=>False) s₅) (λ_ _=>False) s₄
      else ∃m,m<n/\V m s₄) (λ_ _=>False) s₃) (λ_ _=>False) s₂) (λ_ _=>False) s₁) (λ_ _=>False) s)
  (n:Nat) (h:V n s):codeAny (model prog w) A (.compLoop (.ListComp elt [⟨target,iter,ifs,0⟩,⟨target₂,iter₂,ifs₂,0⟩] scope pos) 0 it acc env) R s:=by
 refine codeAny_loop rfl V (λn s hV=>?_) n h;show wpAny _ A ((compTurn (.ListComp elt [⟨target,iter,ifs,0⟩,⟨target₂,iter₂,ifs₂,0⟩] scope pos) 0 it acc env).onRaise (λx=>do noteFrame x env;theTreesLotGoes x)) _ _ s;refine wpAny_noted ?_;rw[Q8];refine aB (nZ (aB (dB (turn n s hV) (λr s₁ h₁=>?_) λ_ _ z=>z.elim)));cases r with
 |none=>exact aQ h₁
 |some v=>
  refine aB (dB h₁ (λ_ s₂ h₂=>?_) λ_ _ z=>z.elim);refine aB (dB h₂ (λ_ s₃ h₃=>aB (dB h₃ (λok s₄ h₄=>?_) λ_ _ z=>z.elim)) λ_ _ z=>z.elim);cases ok with
  |true=>
   simp only[if_true] at h₄ ⊢;refine aB (dB h₄ (λx s₅ h₅=>aB (nZ (aB (wpAny_of_eq (hs x) (aB (kW (dB h₅ (λit₂ s₆ h₆=>aB (wpAny_runOwn (wu h₆ λr s₇ h₇=>?_))) λ_ _ z=>z.elim))))))) λ_ _ z=>z.elim);obtain⟨rfl,h₇⟩:=h₇;exact aQ ⟨rfl,h₇⟩
  |false=>
   simp only[oR,lN] at h₄ ⊢;exact aQ ⟨rfl,h₄⟩
theorem Ra
  (h0:codeAny (model prog w) A (.compLoop (.ListComp elt [g₁,⟨target,iter,ifs,0⟩] scope pos) 1 it acc env) R s)
  (h:wpAny (model prog w) A (pyIter it) (λit' s'=>codeAny (model prog w) A (.compLoop (.ListComp elt [g₁,⟨target,iter,ifs,0⟩] scope pos) 1 it' acc env) R s') (λ_ _=>False) s) :
  codeAny (model prog w) A (.compStart (.ListComp elt [g₁,⟨target,iter,ifs,0⟩] scope pos) 1 it acc env) R s:=by
 refine codeAny_of_tree ?_;show wpAny _ _ ((compStart (.ListComp elt [g₁,⟨target,iter,ifs,0⟩] scope pos) 1 it acc env).onRaise (λx=>do noteFrame x env;standAt theWindowsPlace)) _ _ s;refine wpAny_notedAt ?_;unfold compStart;show wpAny _ _ (ask >>= _) _ _ s;refine aB (wpAny_askSetting (wpAny_ite ?_))
 split
 ·first
   |exact aB (aQ (aQ (And.intro rfl h0)))
   |exact aQ (And.intro rfl h0)
 ·first
   |exact aB (wpAny_rule (aB (nZ (aB (dB h (λit' s' h'=>aQ (And.intro rfl h')) λ_ _ x=>x.elim)))))
   |(refine aB (wpAny_rule ?_);show wpAny _ _ (standAt iter.pos >>= _) _ _ s;exact aB (nZ (aB (dB h (λit' s' h'=>aQ (And.intro rfl h')) λ_ _ x=>x.elim))))
def En(g:TG)(tt:TT)(te:TE)(D:Addr)(aK:It)(Z:St)(H:Hp)(Nx:St->Hp->Prop):Prop:=∃W:Nat->Nat->St->Hp->Prop,(∃m,W 0 m Z H)/\∀i m Z' H',W i m Z' H'->
 (aK.stop i H'/\Nx Z' H')\/(aK.go i H'/\∃N:St->Hp->Prop,(∀Z2 H2,N Z2 H2->∃m',m'<m/\W (i+1) m' Z2 H2)/\∀x H2,aK.mL i H' x H2->g x Z' H2 λZ3 H3=>tt Z3 H3 λok H4=>
  if ok=true then te Z3 H4 λy H5=>∃ys,H5 D=some (.lst ys)/\ys.length<sizeLine/\N Z3 (upd H5 D (.lst (ys++[y]))) else N Z3 H4)
theorem Rb{Y:Cx}{elt tg iter:Expr}{ifs:List Expr}{g₁:Comprehension}{scope:Scope}{pos:Pos}{g:TG}{tt:TT}{te:TE}(hc:Y.aj=true)(Ay:Y.xe=λ_ _=>False)(tgt:PG Y tg g)(xZ:vp Y ifs tt)(el:PE Y elt te)
  {ak:List (Addr×Obj)} {s:Shared} {Z:St} {H:Hp} {D it:Addr} {fp:List Addr} {tn:Nat->Heap->Prop} {aK:It} {Nx:St->Hp->Prop} (I:Inv Y ak Z H s) (T:Turn Y.prog Y.w Y.K tg aK fp it tn) (st:tn 0 s.heap) (f:∀b∈fp,cQ Y ak H b) (h:En g tt te D aK Z H Nx)
  {R:Result->Shared->Prop} (k:∀s' Z' H',Inv Y ak Z' H' s'->Nx Z' H'->R (.ok .next) s') :
  codeAny (model Y.prog Y.w) Y.A (.compStart (.ListComp elt [g₁,⟨tg,iter,ifs,0⟩] scope pos) 1 (.ref it) (.ref D) Y.env) R s:=by
 obtain⟨W,⟨m0,w0⟩,turn⟩:=h;have fY:∀{H':Hp},(∀b∈fp,H' b=none)->∀b∈fp,cQ Y ak H' b:=λ{H'} z b hb=>⟨z b hb,(f b hb).2⟩;have loop:codeAny (model Y.prog Y.w) Y.A (.compLoop (.ListComp elt [g₁,⟨tg,iter,ifs,0⟩] scope pos) 1 (.ref it) (.ref D) Y.env) R s:=by
  refine Q9 (λn s'=>∃i Z' H',Inv Y ak Z' H' s'/\tn i s'.heap/\(∀b∈fp,H' b=none)/\W i n Z' H') ?_ m0 ⟨0,Z,H,I,st,λb hb=>(f b hb).1,w0⟩;rintro n s5 ⟨i,Z5,H5,gK,lR,oh,w5⟩;rcases turn i n Z5 H5 w5 with ⟨stop,q⟩|⟨go,Nn,hN,step⟩
  ·refine aN (T.done Y rfl rfl rfl hc i ak s5 Z5 H5 _ gK (fY oh) lR stop) λr s6 ⟨hr,iC⟩=>?_;subst hr;exact k s6 Z5 H5 iC q
  ·refine aN (T.item Y rfl rfl rfl hc i ak s5 Z5 H5 _ gK (fY oh) lR go) λr s6 ⟨u,hr,h6⟩=>?_;subst hr;refine aN h6 λ_ s7 ⟨x,H7,mV,r7,y7,mW,yd⟩=>?_;have jf:=mV.pinned (fY yd) (T.obj _ _ mW);have a1:=tgt _ s7 Z5 H7 x u _ jf r7 (step x H7 y7);rw[Ay] at a1;refine aN a1 λ_ s8 ⟨Z8,H8,mX,q8⟩=>?_;have a2:=xZ _ s8 Z8 H8 _ mX q8;rw[Ay] at a2;refine aN a2 λok s9 ⟨H9,mY,q9⟩=>?_;have again:∀{H':Hp} {s':Shared},Inv Y (ak++eE fp s7.heap) Z8 H' s'->Nn Z8 H'->∃m,m<n/\∃i Z' H',Inv Y ak Z' H' s'/\tn i s'.heap/\(∀b∈fp,H' b=none)/\W i m Z' H':=λ{H' s'} dh n'=>by
    obtain⟨m',hm,w'⟩:=hN Z8 H' n';refine⟨m',hm,i+1,Z8,H',dh.aU,T.keep _ _ _ mW λb hb o e=>(dh.pin (b,o) (gF _ (gF _ (qG hb e)))).1,λb hb=>?_,w'⟩;obtain⟨o,e,d⟩:=T.obj _ _ mW b hb;exact(dh.pin (b,o) (gF _ (gF _ (qG hb e)))).2.1
   cases ok with
   |false=>
    rw[if_neg (by decide)] at q9 ⊢;exact again mY q9
   |true=>
    rw[if_pos rfl] at q9 ⊢;have a3:=el _ s9 Z8 H9 _ mY q9;rw[Ay] at a3;refine aN a3 λv Ax ⟨y,Ek,mZ,r10,ys,tL,hz,El⟩=>?_;have a4:=DG (X:=Y) _ Ax Z8 Ek (.ref D) [y] (.ref D) [v] (λ_ H'=>Nn Z8 H') mZ rfl (.cons r10 .nil) ⟨D,ys,y,rfl,rfl,tL,hz,El⟩;rw[Ay] at a4;exact aN a4 λ_ Jd ⟨_,Je,jg,_,Em⟩=>again jg Em
 exact Ra loop (T.self _ 0 _ _ _ st loop)
def qJ(ZY:St->St)(g₁:TG)(wi₂:TI)(g:TG)(tt:TT)(te:TE)(aK:It)(Z:St)(H:Hp)(Q:VK):Prop:=∀D,H D=none->∃W:Nat->Nat->St->Hp->Prop,(∃m,W 0 m (ZY Z) (upd H D (.lst [])))/\∀i m Z' H',W i m Z' H'->
 (aK.stop i H'/\Q (.ref D) H')\/(aK.go i H'/\∃N:St->Hp->Prop,(∀Z2 H2,N Z2 H2->∃m',m'<m/\W (i+1) m' Z2 H2)/\∀x H2,aK.mL i H' x H2->g₁ x Z' H2 λZ3 H3=>wi₂ Z3 H3 λaK₂ H5=>En g tt te D aK₂ Z3 H5 N)
section
variable {X:Cx}{elt tg iter tg₂ iter₂:Expr}{ifs₂:List Expr}{scope:Scope}{pos spos py:Pos}{N:List Str}{ZY:St->St}{wi wi₂:TI}{g g₁:TG}{tt:TT}{te:TE}{i:Nat}{y:Str}
structure jG(X:Cx)(elt tg tg₂ iter₂:Expr)(ifs₂:List Expr)(scope:Scope)(N:List Str)(g₁:TG)(wi₂:TI)(g:TG)(tt:TT)(te:TE):Prop where
 tgt₁:∀cl C s3 H3 fp ak,PG (X.blk scope cl N C s3 H3 fp ak) tg g₁
 it:∀cl C s3 H3 fp ak,PI (X.blk scope cl N C s3 H3 fp ak) tg₂ iter₂ wi₂
 tgt:∀cl C s3 H3 fp ak,PG (X.blk scope cl N C s3 H3 fp ak) tg₂ g
 xZ:∀cl C s3 H3 fp ak,vp (X.blk scope cl N C s3 H3 fp ak) ifs₂ tt
 el:∀cl C s3 H3 fp ak,PE (X.blk scope cl N C s3 H3 fp ak) elt te
theorem Rf(hc:X.aj=true)(B:cC X.env.scope scope)(P:jG X elt tg tg₂ iter₂ ifs₂ scope N g₁ wi₂ g tt te)(hs₂:∀env x,foldedSetIterable iter₂ env x=pure x)(hl:∀Z,(ZY Z).length=N.length)
  (hZ:∀(Z:St) (i:Nat) (x:Str) (v:V),N[i]?=some x->(ZY Z)[i]?=some (some v)->scope.names.lookup x=some .free/\∃j:Nat,X.N[j]?=some x/\Z[j]?=some (some v))
  {ak:List (Addr×Obj)} {s:Shared} {Z:St} {H:Hp} {Q:VK} {it:Addr} {fp:List Addr} {tn:Nat->Heap->Prop} {aK:It} (I:Inv X ak Z H s) (T:Turn X.prog X.w X.K tg aK fp it tn) (st:tn 0 s.heap) (f:∀b∈fp,cQ X ak H b) (h:qJ ZY g₁ wi₂ g tt te aK Z H Q)
  {cl:List (Str×Addr)} (c1:∀x c,cl.lookup x=some c->X.env.cells.lookup x=some c) (c2:∀x∈scope.names,x.2=.free->∃c,cl.lookup x.1=some c) {R:Value->Addr->Result->Shared->Prop} {E:Value->Shared->Prop}
  (k:∀D C s' H',Inv X ak Z H' s'->X.s₀.heap.objs.size<=C->H' C=none->C≠X.env.locals->(∀x c,X.env.cells.lookup x=some c->c≠C)->(∀p∈X.pn++ak,p.1≠C)->(∃m,s'.heap.Ns C m)->Q (.ref D) H'->R (.ref D) C (.ok .next) s') :
  wpAny (model X.prog X.w) X.A (newList []) (λacc s₃=>wpAny (model X.prog X.w) X.A (newFunctionEnv scope X.env.globals cl [] X.env.qual none .none (some X.env)) (λcenv s₄=>
   codeAny (model X.prog X.w) X.A (.compStart (.ListComp elt [⟨tg,iter,[],0⟩,⟨tg₂,iter₂,ifs₂,0⟩] scope pos) 0 (.ref it) acc {cenv with scope:=relabel scope X.env}) (R acc cenv.locals) s₄) E s₃) E s:=by
 refine qu ?_;have hD:H s.heap.objs.size=none:=I.hok.fresh (cg _);have I3:Inv X ak Z (upd H s.heap.objs.size (.lst [])) {s with heap:=s.heap.push {cls:=.type "list",dict:=none,data:=.seq ([]:List Value).toArray}}:=
  I.laid (t':=s.toks) (λb u q=>cP _ q) (cg _) ⟨n6 _,[],0,.nil,h_ _ rfl⟩
 have f3:∀b∈fp,cQ X ak (upd H s.heap.objs.size (.lst [])) b:=λb hb=>by
  obtain⟨a1,a2⟩:=f b hb;obtain⟨o,q,_⟩:=T.obj 0 _ st b hb;exact⟨by rw[bA (dH (bI q))];exact a1,a2⟩
 have st3:tn 0 (s.heap.push {cls:=.type "list",dict:=none,data:=.seq ([]:List Value).toArray}):=T.keep _ _ _ st λb hb o q=>cP _ q;obtain⟨W,⟨m0,w0⟩,turn⟩:=h s.heap.objs.size hD;generalize Ej:({s with heap:=s.heap.push {cls:=.type "list",dict:=none,data:=.seq ([]:List Value).toArray}}:Shared)=s3 at *;have jF:tn 0 s3.heap:=by rw[<-Ej];exact st3
 generalize Q5:upd H s.heap.objs.size (.lst [])=H3 at *;refine IW (λx c q=>by obtain⟨v,o,q1,_⟩:=I3.cell x c (c1 x c q);exact bI q1) (λx y c a b=>I3.ok.inj x y c (c1 x c a) (c1 y c b)) λh1 cB hn kp CN=>?_;have tK:Inv (X.blk scope cB N s3.heap.objs.size s3 H3 fp ak) [] (ZY Z) H3 {s3 with heap:=h1}:=
  I8 (t:=s3.toks) I3 B c1 c2 f3 (λb hb=>let ⟨o,q,_⟩:=T.obj 0 _ jF b hb;⟨o,q⟩) hn kp CN (hl Z) (hZ Z)
 have yc:tn 0 h1:=T.keep _ _ _ jF λb hb o q=>kp b o q;have fY:∀{H':Hp},(∀b∈fp,H' b=none)->∀b∈fp,cQ (X.blk scope cB N s3.heap.objs.size s3 H3 fp ak) [] H' b:=λ{H'} z b hb=>by
  obtain⟨a1,a2,a3,a4,a5,a6⟩:=f3 b hb;obtain⟨o,q,_⟩:=T.obj 0 _ jF b hb;refine⟨z b hb,dH (bI q),λy=>(jq.mp (I3.fP b y)).elim a2 a3,.inl hb,λx c y=>?_,λp hp=>a6 p ?_⟩
  ·rcases CN.d1 x c y with ⟨q1,_⟩|⟨_,q1,_⟩
   ·exact a5 x c (c1 x c q1)
   ·exact λe=>absurd (bI q) (by rw[<-e];exact vg.mpr (lK q1))
  have y:p∈(X.pn++ak)++[]:=hp;simpa using y
 have loop:codeAny (model X.prog X.w) X.A (.compLoop (.ListComp elt [⟨tg,iter,[],0⟩,⟨tg₂,iter₂,ifs₂,0⟩] scope pos) 0 (.ref it) (.ref s.heap.objs.size) (compEnvC scope cB s3.heap.objs.size X.env)) (R (.ref s.heap.objs.size) s3.heap.objs.size) {s3 with heap:=h1}:=by
  refine Q_ (λn s'=>∃i Z' H',Inv (X.blk scope cB N s3.heap.objs.size s3 H3 fp ak) [] Z' H' s'/\tn i s'.heap/\(∀b∈fp,H' b=none)/\W i n Z' H') (hs₂ _) ?_ m0 ⟨0,ZY Z,H3,tK,yc,λb hb=>(f3 b hb).1,w0⟩;rintro n s5 ⟨i,Z5,H5,gK,lR,oh,w5⟩;rcases turn i n Z5 H5 w5 with ⟨stop,q⟩|⟨go,Nx,hN,step⟩
  ·refine aN (T.done (X.blk scope cB N s3.heap.objs.size s3 H3 fp ak) rfl rfl rfl hc i [] s5 Z5 H5 _ gK (fY oh) lR stop) λr s6 ⟨hr,iC⟩=>?_;subst hr;have JX:=Ja I3 f3 iC;refine k s.heap.objs.size s3.heap.objs.size s6 H5 JX I3.sz iC.free (oW I3.lt) (λx c y z=>?_) (λp hp z=>?_) ?_ q
   ·obtain⟨v,qc⟩:=I3.cell x c y;exact absurd qc.lt (by rw[z];exact jP _)
   ·exact absurd (bI (I3.pin p hp).1) (by rw[z];exact jP _)
   ·obtain⟨m,hm,_⟩:=iC.loc;exact⟨m,hm⟩
  ·refine aN (T.item (X.blk scope cB N s3.heap.objs.size s3 H3 fp ak) rfl rfl rfl hc i [] s5 Z5 H5 _ gK (fY oh) lR go) λr s6 ⟨u,hr,h6⟩=>?_;subst hr;refine aN h6 λ_ s7 ⟨x,H7,mV,r7,y7,mW,yd⟩=>?_;have jf:=mV.pinned (fY yd) (T.obj _ _ mW);refine aN (P.tgt₁ cB s3.heap.objs.size s3 H3 fp ak _ s7 Z5 H7 x u _ jf r7 (step x H7 y7)) λ_ s8 ⟨Z8,H8,mX,q8⟩=>?_;refine aN (wpAny_tests_nil (env:=compEnvC scope cB s3.heap.objs.size X.env) (Q:=λok s'=>ok=true/\s'=s8) ⟨rfl,rfl⟩) λok s9 ⟨e9,Rg⟩=>?_;subst e9 Rg;rw[if_pos rfl];refine aN (P.it cB s3.heap.objs.size s3 H3 fp ak _ s9 Z8 H8 _ mX q8) λxv Ax Rh=>aN Rh λitv Jd Ri=>?_;obtain⟨it₂,fp₂,tn₂,aK₂,Je,Ep,jg,T₂,st₂,f₂,hq⟩:=Ri;subst Ep;refine Rb (Y:=X.blk scope cB N s3.heap.objs.size s3 H3 fp ak) hc rfl (P.tgt cB s3.heap.objs.size s3 H3 fp ak) (P.xZ cB s3.heap.objs.size s3 H3 fp ak) (P.el cB s3.heap.objs.size s3 H3 fp ak) jg T₂ st₂ f₂ hq λs' Z' H' dh n'=>⟨rfl,?_⟩;obtain⟨m',hm,w'⟩:=hN Z' H' n';refine⟨m',hm,i+1,Z',H',dh.aU,T.keep _ _ _ mW λb hb o e=>(dh.pin (b,o) (gF _ (gF _ (qG hb e)))).1,λb hb=>?_,w'⟩;obtain⟨o,e,d⟩:=T.obj _ _ mW b hb;exact(dh.pin (b,o) (gF _ (gF _ (qG hb e)))).2.1
 exact codeAny_compStart_list loop (T.self _ 0 _ _ _ yc loop)
noncomputable def m5(wi:TI)(ZY:St->St)(g₁:TG)(wi₂:TI)(g:TG)(tt:TT)(te:TE):TE:=λZ H Q=>wi Z H λaK H1=>qJ ZY g₁ wi₂ g tt te aK Z H1 Q
theorem Rj(hc:X.aj=true)(hN:X.N.Nodup)(tM:X.N[i]?=some y)(hx:Loc X.env.scope y)(hf:X.fn y=true\/X.env.scope.names.lookup y=some .local)(B:cC X.env.scope scope)(hi:PI X tg iter wi)(P:jG X elt tg tg₂ iter₂ ifs₂ scope N g₁ wi₂ g tt te)(hs₂:∀env x,foldedSetIterable iter₂ env x=pure x)(hl:∀Z,(ZY Z).length=N.length)
  (hZ:∀(Z:St) (i:Nat) (x:Str) (v:V),N[i]?=some x->(ZY Z)[i]?=some (some v)->scope.names.lookup x=some .free/\∃j:Nat,X.N[j]?=some x/\Z[j]?=some (some v))
  (yg:swapsWith (.ListComp elt [⟨tg,iter,[],0⟩,⟨tg₂,iter₂,ifs₂,0⟩] scope pos) (some (.Name y py)) spos.line X.env=pure true) (hs:∀x,foldedSetIterable iter X.env x=pure x:=by intro _;rfl) :
  PS X (.Assign [.Name y py] (.ListComp elt [⟨tg,iter,[],0⟩,⟨tg₂,iter₂,ifs₂,0⟩] scope pos) spos) (sE (m5 wi ZY g₁ wi₂ g tt te) (bW i)):=by
 intro ak s Z H D I h;obtain⟨cl,oE,c1,c2⟩:=Jf I B;rw[exec_Assign_Name_used _ _ _ _ yg];refine aB (nZ (aB ?_));show wpAny _ X.A (do let _ <-comprehension (.ListComp elt [⟨tg,iter,[],0⟩,⟨tg₂,iter₂,ifs₂,0⟩] scope pos) scope X.env _ (newList []) false (eval iter X.env) (some (assign (.Name y py) X.env))) _ _ s;refine aB (wpAny_comprehension_free (use:=some (assign (.Name y py) X.env)) rfl hs oE B.kind B.loc (aN (hi ak s Z H _ I h) λxv s1 h1=>aN h1 λitv s2 h2=>?_));obtain⟨it,fp,tn,aK,H2,e,I2,T,st2,f2,hq⟩:=h2;subst e;refine Rf hc B P hs₂ hl hZ I2 T st2 f2 hq c1 c2 (R:=λacc C=>compPost (model X.prog X.w) X.A X.xe (some (assign (.Name y py) X.env)) _ acc C) λD' C s' H' dh a b c d e ⟨m,hm⟩ q=>?_;show wpAny _ _ (assign (.Name y py) X.env (.ref D')) _ _ s';refine wpAny_assign_Name (Hx (v:=.ref D') dh hN tM hx rfl (λs5 gK ⟨ad,sb,Rk⟩=>?_) hf);have nC:C≠ad:=by
  rcases Rk with z|z
  ·rw[z];exact c
  ·exact(d y ad z).symm
 obtain⟨ol,es,ep,e1,r1⟩:=hm;refine⟨m,⟨ol,es,ep,(sb.2 C nC).trans e1,r1⟩,λh' Rm=>aQ (aQ ⟨_,H',Jc (Z':=Z) gK a b c d e Rm,q⟩)⟩
end
end L2
namespace L2
open PySem PySem.Spec PyProof.Rows PySem.W
noncomputable def aW{α:Type}(lt:Nat->Nat->Option Bool):KasT α->Option α
 |.ret a=>some a
 |.ask i j k=>match lt i j with
  |some b=>aW lt (k b)
  |none=>none
theorem Er{α:Type}{lt:Nat->Nat->Option Bool}{cmp:Nat->Nat->(Bool->Shared->Prop)->Shared->Prop}{Q:α->Shared->Prop}{s:Shared}(hc:∀i j b C,lt i j=some b->C b s->cmp i j C s){a:α}(q:Q a s):∀{t:KasT α},aW lt t=some a->t.kasWp cmp Q s
 |.ret a',h=>by
  unfold aW at h;cases h;exact q
 |.ask i j k,h=>by
  unfold aW at h;cases e:lt i j with
  |none=>rw[e] at h;cases h
  |some b=>
   rw[e] at h;exact hc i j b _ e (Er hc q h)
noncomputable def bT(vs:List Value)(p:Array Nat):Array Value:=if vs.length<2 then vs.toArray else List.toArray (p.toList.map λi=>vs.getD i Value.none)
section
variable {prog:Program}{w:World}{A:Around}{E:Value->Shared->Prop}{s:Shared}{κ:SortKind}{lt:Nat->Nat->Option Bool}{p:Array Nat}
theorem Rn{a:Addr}{vs:List Value}{n:Nat}{P:PySem.Fin->Shared->Prop}(ho:s.heap.get? a=some (seqObj "list" vs.toArray n))(j4:vs.length<64)
  (hk:2<=vs.length->∀(s':Shared) (Q:SortKind->Shared->Prop),(∀b o,b≠a->s.heap.get? b=some o->s'.heap.get? b=some o)->Q κ s'->wpAny (model prog w) A (keyKind' vs.toArray) Q E s')
  (cM:2<=vs.length->∀(s':Shared) i j b C,(∀b o,b≠a->s.heap.get? b=some o->s'.heap.get? b=some o)->lt i j=some b->C b s'->kas_ask prog w A κ vs i j C s') (hr:2<=vs.length->aW lt (kas_sort vs.length)=some p) (yh:2<=vs.length->p.size=vs.length)
  (h:P (.done (.ret .none)) {s with heap:=sortedHeap s.heap a vs (bT vs p)}) :
  wpAny (model prog w) A (Builtin.«list.sort» ⟨[.ref a],[]⟩) P E s:=by
 rw[list_sort_plain];have ha:a<s.heap.objs.size:=bI ho;refine aB (listItems_at ho rfl ?_);refine aB (rH ho rfl ?_ (by rw[dF,qx];lia) (n6 _));obtain⟨e1,tO⟩ : ∃e1,(s.heap.update a (Obj.mapSeq λ_=>#[])).get? a=some (seqObj "list" #[] e1):=⟨_,get?_update_seq ho (λ_=>#[])⟩;refine aB (seqEpoch_at tO rfl ?_);refine aB (wpAny_newTuple ?_ (by show vs.length<=_;rw[qx];lia));refine aB (wpAny_newList ?_ (n6 _));refine kW ?_;have keep:∀b o,b≠a->s.heap.get? b=some o->(((s.heap.update a (Obj.mapSeq λ_=>(#[]:Array Value))).push (seqObj "tuple" vs.toArray 0)).push (seqObj "list" #[] 0)).get? b=some o:=λb o nb e=>
  cP _ (cP _ ((qp _ _ _ _ nb).trans e))
 have Az:(((s.heap.update a (Obj.mapSeq λ_=>(#[]:Array Value))).push (seqObj "tuple" vs.toArray 0)).push (seqObj "list" #[] 0)).get? a=some (seqObj "list" #[] e1):=by
  rw[u_ _ _ _ (by rw[size_push',v9];exact dH (rE ha)),u_ _ _ _ (by rw[v9];exact dH ha)];exact tO
 show wpAny (model prog w) A _ P E {s with heap:=((s.heap.update a (Obj.mapSeq λ_=>#[])).push (seqObj "tuple" vs.toArray 0)).push (seqObj "list" #[] 0)};dsimp only;have fH:vs.toArray.size=vs.length:=by simp
 by_cases h2:vs.toArray.size<2
 ·rw[if_pos h2,if_pos h2];refine aB (aQ ?_);rw[StateT.run_pure];refine aB (aQ ?_);dsimp only;refine aB (seqEpoch_at Az rfl ?_);refine aB (rH Az rfl ?_ (n6 _) (by rw[Array.size_map];show (pairsOf vs).size<=_;rw[pairsOf_size,qx];lia));simp only[Cm,oR,lN];have e:((vs.toArray.zip vs.toArray).map (·.2))=bT vs p:=by
   unfold bT;rw[if_pos (by rw[fH] at h2;exact h2)];apply Array.toList_inj.mp;simp[List.map_snd_zip]
  refine aQ ?_;have h':=h;rw[<-e] at h';exact h'
 ·rw[if_neg h2,if_neg h2];have gW:2<=vs.length:=by lia
  refine aB (hk gW _ _ keep ?_);refine aB (dB (kat_run (κ:=κ) (ks:=vs) (vs:=vs) (G:=λp' s'=>p'=p/\s'={s with heap:=((s.heap.update a (Obj.mapSeq λ_=>#[])).push (seqObj "tuple" vs.toArray 0)).push (seqObj "list" #[] 0)})
   (Q:=λst' s'=>arrOf st'=p.map (kas_item (vs.toArray.zip vs.toArray))/\failedOf st'=none/\s'={s with heap:=((s.heap.update a (Obj.mapSeq λ_=>#[])).push (seqObj "tuple" vs.toArray 0)).push (seqObj "list" #[] 0)})
   rfl gW j4 (λp' st' s' a1 a2 a3 a4=>⟨by rw[a2,a4.1],a3,a4.2⟩) (Er (λi j b C hl hC=>cM gW _ i j b C keep hl hC) ⟨rfl,rfl⟩ (hr gW))) ?_ λ_ _ e=>e)
  rintro⟨⟨⟩,st'⟩ s' ⟨vq,hf,rfl⟩;dsimp only;have hout:=kat_snds (ks:=vs) (vs:=vs) rfl vq;have e:List.toArray (p.toList.map λi=>vs.getD i Value.none)=bT vs p:=by
   unfold bT;rw[if_neg (by lia)]
  rw[hout,e];have Jg:(bT vs p).size=vs.length:=by rw[<-e,dF,nW,kJ,yh gW]
  refine aB (seqEpoch_at Az rfl ?_);refine aB (rH Az rfl ?_ (n6 _) (by rw[Jg,qx];lia));rw[hf];simp only[Cm,oR,lN];exact aQ h
theorem Et(hl:s.heap.IsList l vs.toArray)(j4:vs.length<64)
  (hk:2<=vs.length->∀(s':Shared) (Q:SortKind->Shared->Prop) E,(∀b o,s.heap.get? b=some o->s'.heap.get? b=some o)->Q κ s'->wpAny (model prog w) A.in1.in1 (keyKind' vs.toArray) Q E s')
  (cM:2<=vs.length->∀(s':Shared) i j b C,(∀b o,s.heap.get? b=some o->s'.heap.get? b=some o)->lt i j=some b->C b s'->kas_ask prog w A.in1.in1 κ vs i j C s') (hr:2<=vs.length->aW lt (kas_sort vs.length)=some p) (yh:2<=vs.length->p.size=vs.length)
  (h:Q (.ref (s.heap.objs.size+1)) {s with heap:=sortedAll s.heap vs (bT vs p)}) :
  wpAny (model prog w) A (call (.builtin "sorted") [.ref l]) Q E s:=by
 refine Calls.call_function_entry kind_sorted plain_sorted entry_sorted (args_sorted1 _) ?_;unfold Builtin.«sorted»;refine aB (m:=checkCount "sorted" 1 1 _) (aQ ?_);refine aB (collect_list hl ?_ (by rw[qx];lia));refine aB (wpAny_newList ?_ (by rw[qx];lia));have fH:((s.heap.push (seqObj "list" #[] 0)).update s.heap.objs.size (Obj.mapSeq (·++vs.toArray))).objs.size=s.heap.objs.size+1:=by
  rw[v9,size_push']
 have rY:(((s.heap.push (seqObj "list" #[] 0)).update s.heap.objs.size (Obj.mapSeq (·++vs.toArray))).push (seqObj "list" vs.toArray 0)).get? (s.heap.objs.size+1)=some (seqObj "list" vs.toArray 0):=by
  rw[<-fH];exact h_ _ rfl
 have keep:∀b o,s.heap.get? b=some o->(((s.heap.push (seqObj "list" #[] 0)).update s.heap.objs.size (Obj.mapSeq (·++vs.toArray))).push (seqObj "list" vs.toArray 0)).get? b=some o:=λb o q=>by
  have cM:b<s.heap.objs.size:=bI q;rw[u_ _ _ _ (by rw[fH];exact dH (rE cM)),qp _ _ _ _ (dH cM),u_ _ _ _ (dH cM)];exact q
 show wpAny _ _ _ _ _ {s with heap:=((s.heap.push (seqObj "list" #[] 0)).update s.heap.objs.size (Obj.mapSeq (·++vs.toArray))).push (seqObj "list" vs.toArray 0)};rw[fH];have nn:∀b o,s.heap.get? b=some o->b≠s.heap.objs.size+1:=λb o e=>dH (rE (bI e));refine aB (kW (wpAny_call_entry slot_list_sort ⟨_,rY,rfl⟩ entry_list_sort (Rn (κ:=κ) (lt:=lt) (p:=p) rY j4 (λh2 s' Q' k q=>hk h2 s' Q' _ (λb o e=>k b o (nn b o e) (keep b o e)) q) (λh2 s' i j b C k e q=>cM h2 s' i j b C (λb o e=>k b o (nn b o e) (keep b o e)) e q) hr yh ⟨_,rfl,?_⟩) (args_list_sort _)));exact aQ ⟨_,rfl,h⟩
end
noncomputable def gM:List V->List V->Option Bool
 |[],ys=>some (decide (0<ys.length))
 |_::_,[]=>some false
 |.int x::xs,.int y::ys=>if x=y then gM xs ys else some (decide (x<y))
 |_::_,_::_=>none
theorem Ro{prog:Program}{w:World}{A:Around}{s:Shared}{fin:Bool}{C:Bool->Shared->Prop}{b:Bool}:∀{us ws:List V} {its jts:List Value} {i:Nat},Vals us its->Vals ws jts->gM us ws=some b->fin=decide (us.length<ws.length)->C b s->KatLex prog w A true fin C (its.zip jts) i s:=by
 intro us ws its jts i r1
 induction r1 generalizing ws jts i with
 |nil=>
  intro _ h hf hc;rw[List.zip_nil_left];unfold gM at h;cases h;rw[hf];exact kat_nil hc
 |@cons x u us its rx ri ih=>
  intro r2 h hf hc;cases r2 with
  |nil=>
   rw[List.zip_nil_right];unfold gM at h;cases h;rw[hf];exact kat_nil (by simpa using hc)
  |@cons y v ws jts ry rj=>
   rw[Cj];cases x with
   |int a=>
    cases y with
    |int c=>
     obtain⟨t,rfl⟩:=rx;obtain⟨t',rfl⟩:=ry;unfold gM at h;refine kat_cons (wpAny_eqBool_int ?_);by_cases e:a=c
     ·rw[if_pos e] at h;subst e;rw[vd];exact kat_yes (ih rj h (by rw[hf];simp) hc)
     ·rw[if_neg e] at h;cases h;rw[show (a==c)=false by simpa using e];refine kat_no ?_;by_cases hi:i=0
      ·subst hi;exact oneLt_int hc
      ·rw[show (true&&i==0)=false by simpa using hi];exact kat_one _ _ (wpAny_lt_int hc)
    |_=>cases h
   |_=>cases y<;>cases h
def m6(K:W.Frag)(H:Hp)(ys:List V)(lt:Nat->Nat->Option Bool):Prop:=
 ((∀v∈ys,∃i,v=V.int i)/\∀i j b,lt i j=some b->∃x y,ys[i]?=some (.int x)/\ys[j]?=some (.int y)/\b=decide (x<y)) \/
 ((∀v∈ys,∃a i r,v=.ref a/\fG K H a (.int i::r))/\∀i j b,lt i j=some b->∃a c us ws,ys[i]?=some (.ref a)/\ys[j]?=some (.ref c)/\fG K H a us/\fG K H c ws/\gM us ws=some b)
noncomputable def cG(ys:List V)(p:Array Nat):List V:=if ys.length<2 then ys else p.toList.map λi=>ys.getD i .non
theorem Jh(r:Vals ys its):∀l:List Nat,Vals (l.map λi=>ys.getD i .non) (l.map λi=>its.getD i Value.none)
 |[]=>.nil
 |i::l=>by
  refine .cons ?_ (Jh r l);cases e:ys[i]? with
  |some y=>
   obtain⟨u,e1,e2⟩:=r.get e;show RelV (ys.getD i .non) (its.getD i Value.none);rw[oN,oN,e,e1];exact e2
  |none=>
   have e1:its[i]?=none:=by rw[qm] at e ⊢;rw[<-r.length];exact e
   show RelV (ys.getD i .non) (its.getD i Value.none);rw[oN,oN,e,e1];rfl
theorem Ji{ys:List V}{its:List Value}(r:Vals ys its)(p:Array Nat):Vals (cG ys p) (bT its p).toList:=by
 unfold cG bT;rw[r.length];by_cases h:its.length<2
 ·rw[if_pos h,if_pos h];exact r
 ·rw[if_neg h,if_neg h];exact Jh r p.toList
theorem Rp{ys:List V}{its:List Value}(r:Vals ys its):∀u∈its,∃v∈ys,RelV v u:=by
 induction r with
 |nil=>intro u hu;cases hu
 |cons h t ih=>
  intro u hu;rcases jq.mp hu with rfl|hu
  ·exact⟨_,jx,h⟩
  ·obtain⟨v,a,b⟩:=ih u hu;exact⟨v,gP _ a,b⟩
section
variable {X:Cx}
theorem Jj{prog:Program}{w:World}{A:Around}{E:Value->Shared->Prop}{s:Shared}{its:List Value}{Q:SortKind->Shared->Prop}(h2:2<=its.length)(hi:∀u∈its,∃i t,u=Value.int i t)(q:Q oneType' s):wpAny (model prog w) A (keyKind' its.toArray) Q E s:=
 kas_kind (T:=.type "int") h2 (λv hv=>by obtain⟨i,t,rfl⟩:=hi v hv;exact .of_pure rfl) (by decide) (by decide) q
theorem Rq{K:W.Frag}{ak:List (Addr×Obj)}{s:Shared}{Z:St}{H:Hp}(I:Inv X ak Z H s){h':Heap}(k:∀b o,s.heap.get? b=some o->h'.get? b=some o):∀{ys:List V} {its:List Value},Vals ys its->(∀v∈ys,∃a i r,v=.ref a/\fG X.K H a (.int i::r))->∃fs:List Value,fs.length=its.length/\(∀f∈fs,∃i t,f=Value.int i t)/\KatTups h' its fs:=by
 intro ys its r0
 induction r0 with
 |nil=>exact λ_=>⟨[],rfl,(λf hf=>by cases hf),trivial⟩
 |@cons v u ys its r rs ih=>
  intro h;obtain⟨a,i,r',rfl,hq⟩:=h _ jx;obtain⟨fs,l,hf,kt⟩:=ih λv hv=>h v (gP _ hv);obtain⟨its',rv,⟨o,ho,hc,n,hd⟩,_⟩:=I.tuple hq;cases (show u=Value.ref a from r);cases rv with
  |cons ri rr=>
   obtain⟨t,rfl⟩:=ri;refine⟨Value.int i t::fs,by simp[l],λf Rr=>?_,KatTups.cons (k _ _ ho) hc hd (by simp) kt⟩;rcases jq.mp Rr with rfl|z
   ·exact⟨i,t,rfl⟩
   ·exact hf f z
theorem Rt{prog:Program}{w:World}{A:Around}{E:Value->Shared->Prop}{s:Shared}{its fs:List Value}{Q:SortKind->Shared->Prop}(h2:2<=its.length)(hl:fs.length=its.length)(hi:∀u∈fs,∃i t,u=Value.int i t)(kt:KatTups s.heap its fs)(q:Q (tuples' true) s):wpAny (model prog w) A (keyKind' its.toArray) Q E s:=
 kat_kind (T:=.type "int") kt (by lia) (λv hv=>by obtain⟨i,t,rfl⟩:=hi v hv;exact .of_pure rfl) (by decide) q
theorem vA{its:List Value}{i:Nat}{u:Value}(h:its[i]?=some u):its.getD i Value.none=u:=by rw[oN,h];rfl
theorem Ru:cj X (.builtin "sorted") (λxs H Q=>∃l ys lt p,xs=[.ref l]/\cH X.K H l ys/\ys.length<64/\(2<=ys.length->m6 X.K H ys lt/\aW lt (kas_sort ys.length)=some p/\p.size=ys.length)/\∀r,H r=none->Q (.ref r) (upd H r (.lst (cG ys p)))):=by
 intro ak s Z H xs us Q I r h;obtain⟨l,ys,lt,p,rfl,hq,j4,hs,q⟩:=h;obtain⟨u,rfl,rx⟩:=vals1 r;cases rx;obtain⟨its,rv,pl,hz⟩:=I.list hq;have hlen:=rv.length;have fin:EP X ak Z Q (.ref (s.heap.objs.size+1)) {s with heap:=sortedAll s.heap its (bT its p)}:=by
  obtain⟨e,he⟩:=sortedAll_at s.heap its (bT its p);have hn:H (s.heap.objs.size+1)=none:=I.hok.fresh (rK _);refine⟨.ref (s.heap.objs.size+1),_,I.laid (t':=s.toks) (λb u q=>sortedAll_old q) (rK _) (show bw X.prog X.w _ _ _ (.lst (cG ys p)) from ⟨?_,(bT its p).toList,e,Ji rv p,by rw[Ce];exact he⟩),rfl,q _ hn⟩;unfold cG;by_cases h2:ys.length<2
  ·rw[if_pos h2];exact hz
  ·rw[if_neg h2,nW,kJ,(hs (by lia)).2.2];exact hz
 by_cases h2:2<=ys.length
 ·obtain⟨hS,hr,hp⟩:=hs h2;rcases hS with ⟨hI,cM⟩|⟨hT,cM⟩
  ·refine Et (κ:=oneType') (lt:=lt) (p:=p) pl.isList (by lia) (λgW s' Q' E' k q'=>Jj gW (λu hu=>?_) q') (λ_ s' i j b C k e hC=>?_) (λ_=>by rw[<-hlen];exact hr) (λ_=>by lia) fin
   ·obtain⟨v,hv,rr⟩:=Rp rv u hu;obtain⟨i,rfl⟩:=hI v hv;obtain⟨t,rfl⟩:=rr;exact⟨i,t,rfl⟩
   ·obtain⟨x,y,e1,e2,rfl⟩:=cM i j b e;obtain⟨u1,f1,g1⟩:=rv.get e1;obtain⟨u2,f2,g2⟩:=rv.get e2;obtain⟨t1,rfl⟩:=g1;obtain⟨t2,rfl⟩:=g2;show wpAny _ _ (keyLt' oneType' (its.getD i Value.none) (its.getD j Value.none)) C _ s';rw[vA f1,vA f2];exact kat_lt_int hC
  ·refine Et (κ:=tuples' true) (lt:=lt) (p:=p) pl.isList (by lia) (λgW s' Q' E' k q'=>?_) (λ_ s' i j b C k e hC=>?_) (λ_=>by rw[<-hlen];exact hr) (λ_=>by lia) fin
   ·obtain⟨fs,l1,hf,kt⟩:=Rq (K:=X.K) I k rv hT;exact Rt gW l1 hf kt q'
   ·obtain⟨a,c,us,ws,e1,e2,q1,q2,e3⟩:=cM i j b e;obtain⟨u1,f1,g1⟩:=rv.get e1;obtain⟨u2,f2,g2⟩:=rv.get e2;cases (show u1=Value.ref a from g1);cases (show u2=Value.ref c from g2);obtain⟨i1,r1,⟨o1,tO,YT,n1,Rw⟩,_⟩:=I.tuple q1;obtain⟨i2,r2,⟨o2,jD,jr,n2,hd2⟩,_⟩:=I.tuple q2;show wpAny _ _ (keyLt' (tuples' true) (its.getD i Value.none) (its.getD j Value.none)) C _ s';rw[vA f1,vA f2];refine kat_lt (k _ _ tO) Rw (k _ _ jD) hd2 (Ro r1 r2 e3 ?_ hC);rw[r1.length,r2.length];simp
 ·exact Et (κ:=oneType') (lt:=lt) (p:=p) pl.isList (by lia) (λgW=>absurd gW (by lia)) (λgW=>absurd gW (by lia)) (λgW=>absurd gW (by lia)) (λgW=>absurd gW (by lia)) fin
end
end L2
namespace L2
open PySem PySem.Spec PyProof.Rows PySem.W PySem.Calls PySem.Builtin PySem.Builtin.ObjectAttr
section
variable {prog:Program}{w:World}{A:Around}{R:Result->Shared->Prop}{E:Value->Shared->Prop}{s:Shared}{K:W.Frag}{x C:Addr}{ox:Obj}{cd:ClassData}{name:Str}{v:Value}{mA:Str->Option Value}{ns:List Str}
end
end L2
namespace L2
open PySem PySem.Spec PyProof.Rows PySem.W PySem.Calls
section
variable {prog:Program}{w:World}{K:W.Frag}{C e:Addr}{cd:ClassData}{env:Env}{m:Str->Option Value}{A:Around}{E:Value->Shared->Prop}{sf:Str}
end
end L2
namespace PySem
open Sem (wp)
section
variable {prog:Program}{w:World}{A:Around}{E:Value->Shared->Prop}{h:Heap}{g:Array GenState}{d:Drawn}{t:Nat}{os:OsState}
variable {nm q:Str}{C N:Addr}{bs bm bmB:List Value}{Eu:Bool}{sn:List Str}{ao:List Value}{ab:Bool}{col:Option Bool}{dd:Option Addr}{k0 k1 k2 k3 k5:Option Value}{B Bn newId nid initId inN:String}{bmN:List Value}
end
section
variable {prog:Program}{w:World}{A:Around}{E:Value->Shared->Prop}{s:Shared}{env:Env}
variable {nm q:Str}{C N:Addr}{bs bm bmB:List Value}{Eu:Bool}{sn:List Str}{ao:List Value}{ab:Bool}{col:Option Bool}{dd:Option Addr}{k0 k1 k2 k3 k5:Option Value}{B Bn newId nid initId inN:String}{bmN:List Value}
end
end PySem
namespace L2
open PySem PySem.Spec PyProof.Rows PySem.W PySem.Calls
section
variable {X:Cx}{EX:XS}{C:Addr}{ar:Arguments}{bd:List Stmt}{sc:Scope}{fs:List Str}{t:TA}{x:Str}{p apos pos:Pos}{e:Expr}{es:List Expr}
end
section
variable {prog:Program}{w:World}{A:Around}{E:Value->Shared->Prop}{s:Shared}{K:Frag}{x C:Addr}{ox:Obj}{od:Option Obj}{name:Str}
end
structure XF(K:Frag)(C:Addr)(f:Str):Prop where
 ga:findIn K (.ref C) "__getattribute__"=some (some (.builtin "BaseException.__getattribute__"))
 gn:findIn K (.ref C) "__getattr__"=some none
 mb:mroIn K C (.type "BaseException")=some true
 no:findIn K (.ref C) f=some none
 hd:hasDictIn K C=true
section
variable {X:Cx}{e:Expr}{f:Str}{pos:Pos}{ta:TE}
end
end L2
namespace L2
open PySem PySem.Spec PyProof.Rows
section
variable {X:Cx}{ak:List (Addr×Obj)}{Z:St}{H:Hp}{s:Shared}{h':Heap}
end
section
variable {prog:Program}{w:World}{A:Around}{E:Value->Shared->Prop}{s:Shared}{it l:Addr}{i:Nat}{its:Array Value}
end
section
variable {prog:Program}{w:World}{A:Around}{E:Value->Shared->Prop}{s:Shared}{z TI TO i1 i2 l1 l2:Addr}{st1 st2:Nat->Heap->Prop}{xs ys:Array Value}{k:Nat}{a b:Value}
end
section
variable {prog:Program}{w:World}{A:Around}{E:Value->Shared->Prop}{s:Shared}
end
section
variable {prog:Program}{w:World}{A:Around}{E:Value->Shared->Prop}{s:Shared}
end
section
variable {X:Cx}{ak:List (Addr×Obj)}{Z:St}{H:Hp}{s:Shared}{kd:Bool}{l:Addr}{xs ys:List V}
end
section
variable {X:Cx}
end
section
variable {X:Cx}
end
end L2
set_option genSizeOf false
set_option genInjectivity false
namespace Mi
open PySem
inductive D where
 |non|bl (b:Bool)|int (i:Int)|str (s:Str)|tup (xs:List D)|fl (xs:List D)|fd (ks vs:List D)|exc (c:Nat) (fs:List D)|ob (c:Nat) (fs:List D)|any
inductive Xv where
 |d (x:D)|l (n:Nat)
inductive Kx where
 |non|int (i:Int)|row (is:List Int)
deriving DecidableEq
inductive SO where
 |lst (xs:List D)
 |dct (kvs:List (List Kx×D))
noncomputable abbrev S:=List SO
inductive Rs (α:Type) where
 |ok (a:α)|er (c:Nat) (fs:List D)
noncomputable abbrev M(α:Type):=S->Option (Rs α×S)
noncomputable def M.ret{α:Type}(a:α):M α:=λs=>some (.ok a,s)
noncomputable def M.bd{α β:Type}(m:M α)(k:α->M β):M β:=λs=>match m s with
 |some (.ok a,s')=>k a s'
 |some (.er c f,s')=>some (.er c f,s')
 |none=>none
noncomputable def M.qt{α:Type}(m:M α):M α:=λs=>match m s with
 |some (.ok a,s')=>some (.ok a,s')
 |_=>none
noncomputable def M.no{α:Type}:M α:=λ_=>none
noncomputable def M.opt{α:Type}:Option α->M α
 |some a=>M.ret a
 |none=>M.no
inductive Rz where
 |dat (d:D)|nw (xs:List D)
inductive Pr where
 |add|ao|mul|fdiv|mod|pow|neg
 |eq|ne|lt|le|gt|ge|inn|nin
 |Rx|Ry
 |len|abs|max2|min2|yj|yp|yq|Jk|pN|divmod|all|sum|list|tuple|sorted|j5|tQ|str1
 |ix|rev|Jl|yr|mult|qK
 |count|index|repr
inductive Kd where
 |int|bool|str|tuple|list|dict|cls (c:Nat)|lu
mutual
inductive E where
 |c (d:D)
 |v (i:Nat)
 |pr (fz:Bool) (p:Pr) (xs:Es)
 |yt (p q:Pr) (a b c:E)
 |RB (p q r:Pr) (a b c d:E)
 |and (a b:E)
 |or (a b:E)
 |not (a:E)
 |ite (c a b:E)
 |tup (xs:Es)
 |lst (fz:Bool) (xs:Es)
 |yu (k:Str) (i:Int)
 |call (f:Nat) (xs:Es)
 |j6 (a:E) (k:Kd)
 |sl (fz:Bool) (a:E) (lo hi:Eo)
 |meth (fz:Bool) (p:Pr) (k:Kd) (o:E) (xs:Es)
 |push (o a:E)
 |pop (o:E)
 |comp (fz:Bool) (elt:E) (tg:List Nat) (it:Wk) (fr:List Nat) (many:Nat) (cond:Eo)
 |jh (fz:Bool) (elt:E) (tg:List Nat) (it:Wk) (Jm:List Nat) (Jo:Wk) (fr:List Nat) (many:Nat) (cond:Eo)
 |fld (o:E) (cs:List Nat) (i:Nat)
 |of (o:E) (c i:Nat)
 |mk (c f:Nat) (xs:Es)
 |cm (c f:Nat) (o:E) (xs:Es)
 |Ew
 |RD (b:Bool) (k d:E)
 |Ey (d k:E)
 |RG (a:E)
 |j7 (fz:Bool) (a:E) (b:E)
 |RJ (a b:E)
 |ins (o i a:E)
 |no
inductive Wk where
 |seq (e:E)
 |rg (a b:E)
 |zip (a b:E)
 |enum (a:E)
 |RK (a:E)
inductive Es where
 |nil
 |cons (a:E) (r:Es)
inductive Eo where
 |no
 |yes (a:E)
end
noncomputable abbrev Ea(a:E):Es:=.cons a .nil
noncomputable abbrev Eb(a b:E):Es:=.cons a (.cons b .nil)
noncomputable abbrev Ec(a b c:E):Es:=.cons a (.cons b (.cons c .nil))
noncomputable abbrev Ei(a b:E):E:=.pr true .ix (.cons a (.cons b .nil))
noncomputable abbrev Ci(i:Int):E:=.c (.int i)
noncomputable def Es.len:Es->Nat
 |.nil=>0
 |.cons _ r=>r.len+1
inductive Tg where
 |nm (i:Nat)
 |tp (is:List Nat)
 |ao (o i:E)
mutual
inductive St where
 |pass
 |ex (e:E)
 |asg (t:Tg) (e:E)
 |par (i j:Nat) (a b:E)
 |aug (i:Nat) (e:E)
 |ret (e:E)
 |rise (c:Nat) (kp:Bool) (xs:Es)
 |iff (c:E) (t e:eG)
 |wh (c:E) (b:eG)
 |fr (t:Tg) (w:Wk) (b:eG)
 |Ez (b:eG) (d:Nat) (i:Nat) (h:eG)
 |dput (d k v:E)
 |no
inductive eG where
 |nil
 |cons (a:St) (r:eG)
end
noncomputable def ji(eq:D->D->Option Bool):List D->List D->Option Bool
 |[],[]=>some true
 |[],_::_=>some false
 |_::_,[]=>some false
 |x::xs,y::ys=>match eq x y,ji eq xs ys with
  |some a,some b=>some (a&&b)
  |_,_=>none
noncomputable def kq:D->Option Nat
 |.non=>some 0
 |.bl _=>some 1
 |.int _=>some 1
 |.str _=>some 2
 |.tup _=>some 3
 |.fl _=>some 4
 |_=>none
noncomputable def jH:Nat->D->D->Option Bool
 |n+1,.tup xs,.tup ys=>ji (jH n) xs ys
 |n+1,.fl xs,.fl ys=>ji (jH n) xs ys
 |_,.non,.non=>some true
 |_,.bl a,.bl b=>some (a==b)
 |_,.int a,.int b=>some (a==b)
 |_,.str a,.str b=>some (a==b)
 |_,.bl a,.int b=>some ((if a then 1 else 0)==b)
 |_,.int a,.bl b=>some (a==(if b then 1 else 0))
 |_,a,b=>match kq a,kq b with
  |some i,some j=>if i=j then none else some false
  |_,_=>none
noncomputable def cN:List D->Option (List Int)
 |[]=>some []
 |.int i::r=>(cN r).map (i::·)
 |_=>none
noncomputable def ltI:List Int->List Int->Bool
 |_,[]=>false
 |[],_::_=>true
 |x::xs,y::ys=>if x=y then ltI xs ys else decide (x<y)
noncomputable def fV:List D->Option (List Bool)
 |[]=>some []
 |.bl b::r=>(fV r).map (b::·)
 |_=>none
noncomputable def cut{α:Type}(xs:List α)(lo hi:Option Int):List α:=(xs.drop (HT.aR xs.length 0 lo)).take (HT.aR xs.length xs.length hi-HT.aR xs.length 0 lo)
noncomputable def jJ:D->Option (List D)
 |.tup xs=>some xs
 |.fl xs=>some xs
 |_=>none
noncomputable def cutD(x:D)(lo hi:Option Int):Option Rz:=match x with
 |.tup xs=>some (.dat (.tup (cut xs lo hi)))
 |.fl xs=>some (.nw (cut xs lo hi))
 |_=>none
noncomputable def memD(d:D):List D->Option Bool
 |[]=>some false
 |x::r=>match jH 50 x d,memD d r with
  |some a,some b=>some (a||b)
  |_,_=>none
noncomputable def tR:Kd->D->Bool
 |.list,.fl _=>true
 |.str,.str _=>true
 |.dict,.fd _ _=>true
 |_,_=>false
noncomputable def bQ(f:Int->Int->Option D):List D->Option Rz
 |[.int i,.int j]=>(f i j).map .dat
 |_=>none
noncomputable def qL(f:Int->D):List D->Option Rz
 |[.int i]=>some (.dat (f i))
 |_=>none
noncomputable def pO(f:List D->Option Rz):List D->Option Rz
 |[a]=>(jJ a).bind f
 |_=>none
noncomputable def tU:List D->Option Rz
 |[.int i,.int j]=>some (.dat (.int (i+j)))
 |[.tup xs,.tup ys]=>if xs.length+ys.length<=sizeLine then some (.dat (.tup (xs++ys))) else none
 |[.fl xs,.fl ys]=>if xs.length+ys.length<=sizeLine then some (.nw (xs++ys)) else none
 |[.str x,.str y]=>if x.length+y.length<=sizeLine then some (.dat (.str (x++y))) else none
 |_=>none
noncomputable def yw:List D->Option Rz
 |[.int i,.int j]=>some (.dat (.bl (decide (i<j))))
 |[.tup xs,.tup ys]=>match cN xs,cN ys with
  |some a,some b=>some (.dat (.bl (ltI a b)))
  |_,_=>none
 |_=>none
noncomputable def vB(f:Bool->Bool):List D->Option Rz
 |[a,b]=>(jH 50 a b).map λk=>.dat (.bl (f k))
 |_=>none
noncomputable def Jp(f:Bool->Bool):List D->Option Rz
 |[a,b]=>((jJ b).bind (memD a)).map λk=>.dat (.bl (f k))
 |_=>none
noncomputable def D.yx:D->Bool
 |.non=>true
 |_=>false
noncomputable def yC(f:Bool->Bool):List D->Option Rz
 |[a]=>some (.dat (.bl (f a.yx)))
 |_=>none
noncomputable def yD:List D->Option Rz
 |[.int i]=>some (.dat (.int i))
 |[.bl k]=>some (.dat (.int (if k then 1 else 0)))
 |_=>none
noncomputable def tV:List D->Option Rz
 |[.fl xs]=>(fV xs).map λbs=>.dat (.bl (bs.all id))
 |_=>none
noncomputable def iD:List D->Option (List Int)
 |[]=>some []
 |.int i::r=>(iD r).map (i::·)
 |_=>none
noncomputable def best(bt:Int->Int->Bool)(i:Int)(is:List Int):Int:=is.foldl (λm j=>if bt j m then j else m) i
noncomputable def yE(bt:Int->Int->Bool):Option (List Int)->Option Rz
 |some (i::is)=>some (.dat (.int (best bt i is)))
 |_=>none
noncomputable def qM(bt:Int->Int->Bool):List D->Option Rz
 |[a]=>(jJ a).bind λxs=>yE bt (iD xs)
 |_=>none
noncomputable def okR(i j:Int):Bool:=decide (-(2^62)<=i/\i<2^62/\-(2^62)<=j/\j<2^62/\(j-i).toNat<=65536)
noncomputable def EY(i:Int)(n:Nat):List D:=(List.range n).map λk=>.int (i+(k:Nat))
noncomputable def E_:List D->Option Rz
 |[.int j]=>if okR 0 j then some (.nw (EY 0 (j-0).toNat)) else none
 |[.int i,.int j]=>if okR i j then some (.nw (EY i (j-i).toNat)) else none
 |_=>none
noncomputable def Fb:List D->Option Rz
 |[.int j]=>if okR 0 j then some (.dat (.tup (EY 0 (j-0).toNat))) else none
 |_=>none
noncomputable def tW:List D->Option Rz
 |[a]=>(jJ a).map λxs=>.dat (.tup xs)
 |_=>none
noncomputable def Fd:List D->Option Rz
 |[a,.int i]=>((jJ a).bind λxs=>L2.mR xs i).map .dat
 |_=>none
noncomputable def lA:List D->List D->Option Bool
 |[],ys=>some (decide (0<ys.length))
 |_::_,[]=>some false
 |.int x::xs,.int y::ys=>if x=y then lA xs ys else some (decide (x<y))
 |_::_,_::_=>none
noncomputable def vC(xs:List D)(i j:Nat):Option Bool:=match xs[i]?,xs[j]? with
 |some (.int x),some (.int y)=>some (decide (x<y))
 |some (.tup us),some (.tup ws)=>lA us ws
 |_,_=>none
noncomputable def qN(b:List Int):List (List Int)->List Int
 |[]=>b
 |x::r=>qN (if ltI x b=true then x else b) r
noncomputable def qO:List D->Option (List (List Int))
 |[]=>some []
 |.tup xs::r=>match cN xs,qO r with
  |some a,some b=>some (a::b)
  |_,_=>none
 |_=>none
noncomputable def yF:List D->Option Rz
 |[.fl xs]=>match qO xs with
  |some (x::r)=>some (.dat (.tup ((qN x r).map .int)))
  |_=>none
 |_=>none
noncomputable def iG:D->Bool
 |.int _=>true
 |_=>false
noncomputable def fW:D->Bool
 |.tup (.int _::_)=>true
 |_=>false
noncomputable def fX(lt:Nat->Nat->Option Bool)(xs:List D):Option (List D):=if xs.length<2 then some xs else if xs.length<64 then (match L2.aW lt (PySem.W.kas_sort xs.length) with
  |some p=>if p.size=xs.length then some (p.toList.map λi=>xs.getD i .non) else none
  |none=>none) else none
noncomputable def Fe(xs:List D):Option (List D):=if xs.all iG||xs.all fW then fX (vC xs) xs else none
noncomputable def iH:List D->Option Rz
 |[.fl xs]=>(Fe xs).map .nw
 |_=>none
noncomputable def qP(ks:List Int)(i j:Nat):Option Bool:=match ks[i]?,ks[j]? with
 |some x,some y=>some (decide (x<y))
 |_,_=>none
noncomputable def Fg:List D->Option Rz
 |[.tup xs]=>some (.dat (.tup xs.reverse))
 |_=>none
noncomputable def tX:List D->Option Rz
 |[.fl xs,.bl b]=>(fV xs).map λbs=>.dat (.int (bs.count b))
 |_=>none
noncomputable def tY:List D->Option Rz
 |[.fl xs,.bl b]=>((fV xs).bind λbs=>bs.idxOf? b).map λ(i:Nat)=>.dat (.int i)
 |_=>none
noncomputable def Fi:List D->Option Rz
 |[.int i]=>if i.natAbs<2^62 then some (.dat (.str (Str.ofString (toString i)))) else none
 |_=>none
noncomputable def Fj(f:D->Option PyData):List D->Option (List PyData)
 |[]=>some []
 |x::r=>match f x,Fj f r with
  |some a,some b=>some (a::b)
  |_,_=>none
noncomputable def pd:Nat->D->Option PyData
 |n+1,.tup xs=>(Fj (pd n) xs).map .tuple
 |n+1,.fl xs=>(Fj (pd n) xs).map .list
 |_,.non=>some .none
 |_,.bl b=>some (.bool b)
 |_,.int i=>some (.int i)
 |_,.str x=>some (.str x)
 |_,_=>none
noncomputable def RL:D->Option PyData
 |.fd [.str k] [.int i]=>some (.dict [(.str k,.int i)])
 |x=>pd 40 x
noncomputable def RM(d:PyData):Option Rz:=if d.showable=true/\d.shown.length<=sizeLine then some (.dat (.str d.shown)) else none
noncomputable def yG:List D->Option Rz
 |[x]=>(RL x).bind RM
 |_=>none
noncomputable def qQ:List (Int×Int):=[(0,1),(0,2),(0,3),(0,4),(0,5),(0,6),(0,7),(1,2),(1,3),(1,4),(1,5),(1,6),(1,7),(2,3),(2,4),(2,5),(2,6),(2,7),(3,4),(3,5),(3,6),(3,7),(4,5),(4,6),(4,7),(5,6),(5,7),(6,7)]
noncomputable def ss(ts:List (Int×Int)):List (Int×Int):=qQ.filter λt=>ts.contains t
noncomputable def Fl:D->Option (Int×Int)
 |.tup [.int a,.int b]=>if 0<=a/\a<b/\b<8 then some (a,b) else none
 |_=>none
noncomputable def qR:List D->Option (List (Int×Int))
 |[]=>some []
 |x::r=>match Fl x,qR r with
  |some a,some b=>some (a::b)
  |_,_=>none
noncomputable def RN:List D->Option Rz
 |[.tup xs]=>(qR xs).map λts=>.nw ((ss ts).map λp=>.tup [.int p.1,.int p.2])
 |_=>none
noncomputable def yH(is:List Int):Bool:=decide (is.length<=1000)&&is.all λi=>decide (-1000000<=i/\i<=1000000)
noncomputable def Fp(is:List Int):Option Rz:=match yH is with
 |true=>some (.dat (.int is.sum))
 |false=>none
noncomputable def Fq:List D->Option Rz
 |[a]=>(jJ a).bind λxs=>(iD xs).bind Fp
 |_=>none
noncomputable def iI:List Int->List Int
 |[]=>[]
 |x::r=>if r.contains x then iI r else x::iI r
noncomputable def yI:List D->Option Rz
 |[.tup xs]=>(iD xs).map λis=>.dat (.int (iI is).length)
 |_=>none
noncomputable def rep{α:Type}(xs:List α)(n:Nat):List α:=(List.replicate n xs).flatten
noncomputable def yJ:List D->Option Rz
 |[.fl xs,.int n]=>if 0<=n/\n<=1000/\xs.length<=1000 then some (.nw (rep xs n.toNat)) else none
 |_=>none
noncomputable def tZ:List D->Option Rz
 |[.tup xs]=>if xs.all iG=true then (Fe xs).map .nw else none
 |_=>none
noncomputable def yK:List D->Option Rz
 |[.tup xs,.int n]=>if 1<=n/\n<=1000/\1<=xs.length/\xs.length<=1000 then some (.dat (.tup (rep xs n.toNat))) else none
 |_=>none
noncomputable def yL:D->Option Bool
 |.non=>some false
 |.bl b=>some b
 |.int i=>some (i != 0)
 |.tup xs=>some (!xs.isEmpty)
 |.fl xs=>some (!xs.isEmpty)
 |_=>none
noncomputable def prim:Pr->List D->Option Rz
 |.add=>tU
 |.ao=>bQ λi j=>some (.int (i-j))
 |.mul=>bQ λi j=>if (-(2^64)<i/\i<2^64)\/(-(2^64)<j/\j<2^64) then some (.int (i*j)) else none
 |.fdiv=>bQ λi j=>if 0<j/\j<1073741824 then some (.int (i/j)) else none
 |.mod=>bQ λi j=>if 0<j then some (.int (i%j)) else none
 |.pow=>bQ λi j=>if 0<=j/\j<=1000000/\i.natAbs<2^64 then some (.int (i^j.toNat)) else none
 |.neg=>qL λi=>.int (-i)
 |.eq=>vB id
 |.ne=>vB not
 |.lt=>yw
 |.le=>bQ λi j=>some (.bl (decide (i<=j)))
 |.gt=>bQ λi j=>some (.bl (decide (j<i)))
 |.ge=>bQ λi j=>some (.bl (decide (j<=i)))
 |.inn=>Jp id
 |.nin=>Jp not
 |.Rx=>yC id
 |.Ry=>yC not
 |.len=>pO λxs=>some (.dat (.int xs.length))
 |.abs=>qL λi=>.int (if i<0 then -i else i)
 |.max2=>bQ λi j=>some (.int (if j>i then j else i))
 |.min2=>bQ λi j=>some (.int (if j<i then j else i))
 |.pN=>yD
 |.divmod=>bQ λi j=>if 0<j/\j<1073741824 then some (.tup [.int (i/j),.int (i%j)]) else none
 |.all=>tV
 |.Jl=>E_
 |.yj=>qM λa b=>decide (a>b)
 |.yp=>qM λa b=>decide (a<b)
 |.yq=>yF
 |.Jk=>Fb
 |.list=>pO λxs=>some (.nw xs)
 |.tuple=>tW
 |.ix=>Fd
 |.rev=>Fg
 |.sorted=>iH
 |.j5=>RN
 |.yr=>yJ
 |.mult=>yK
 |.qK=>tZ
 |.sum=>Fq
 |.tQ=>yI
 |.count=>tX
 |.index=>tY
 |.repr=>yG
 |.str1=>Fi
noncomputable def gY(ao:Nat->Nat->Bool):D->Kd->Option Bool
 |.exc c _,.cls e=>some (ao c e)
 |.exc _ _,.lu=>some true
 |.exc _ _,_=>none
 |.ob _ _,_=>none
 |.any,_=>none
 |_,.cls _=>none
 |_,.lu=>none
 |.bl _,.bool=>some true
 |.bl _,.int=>some true
 |.bl _,_=>some false
 |.int _,.int=>some true
 |.int _,_=>some false
 |.non,_=>some false
 |.str _,.str=>some true
 |.str _,_=>some false
 |.tup _,.tuple=>some true
 |.tup _,_=>some false
 |.fl _,.list=>some true
 |.fl _,_=>some false
 |.fd _ _,.dict=>some true
 |.fd _ _,_=>some false
noncomputable def rd(x:Xv):M D:=λs=>match x with
 |.d v=>some (.ok v,s)
 |.l n=>match s[n]? with
  |some (.lst xs)=>some (.ok (.fl xs),s)
  |_=>none
noncomputable def eH:List Xv->M (List D)
 |[]=>M.ret []
 |x::r=>M.bd (rd x) λd=>M.bd (eH r) λds=>M.ret (d::ds)
noncomputable def dat(x:Xv):M D:=match x with
 |.d v=>M.ret v
 |.l _=>M.no
noncomputable def dj:List Xv->M (List D)
 |[]=>M.ret []
 |x::r=>M.bd (dat x) λd=>M.bd (dj r) λds=>M.ret (d::ds)
noncomputable def bool(x:Xv):M Bool:=match x with
 |.d (.bl b)=>M.ret b
 |_=>M.no
noncomputable def int(x:Xv):M Int:=match x with
 |.d (.int b)=>M.ret b
 |_=>M.no
noncomputable def newL(fz:Bool)(xs:List D):M Xv:=match fz with
 |true=>M.ret (.d (.fl xs))
 |false=>λs=>some (.ok (.l s.length),s++[.lst xs])
noncomputable def bM(fz:Bool)(o:Option Rz):M Xv:=match o with
 |some (.dat d)=>M.ret (.d d)
 |some (.nw xs)=>newL fz xs
 |none=>M.no
noncomputable def bK(x:Xv):M (Nat×List D):=λs=>match x with
 |.l n=>match s[n]? with
  |some (.lst xs)=>some (.ok (n,xs),s)
  |_=>none
 |_=>none
noncomputable def putL(n:Nat)(xs:List D):M Unit:=λs=>some (.ok (),s.set n (.lst xs))
noncomputable def Ft:D->Option Kx
 |.non=>some .non
 |.int i=>some (.int i)
 |.tup xs=>(cN xs).map .row
 |_=>none
noncomputable def Jq:List D->Option (List Kx)
 |[]=>some []
 |x::r=>match Ft x,Jq r with
  |some a,some b=>some (a::b)
  |_,_=>none
noncomputable def kOf:D->Option (List Kx)
 |.tup xs=>Jq xs
 |_=>none
noncomputable abbrev oF:=List (List Kx×D)
noncomputable def pP(k:List Kx):oF->Option D
 |[]=>none
 |p::r=>if p.1=k then some p.2 else pP k r
noncomputable def Fv(k:List Kx)(d:D)(r:oF):oF:=if (pP k r).isSome=true then r.map λp=>if p.1=k then (p.1,d) else p else r++[(k,d)]
noncomputable def m7(x:Xv):M (Nat×oF):=λs=>match x with
 |.l n=>match s[n]? with
  |some (.dct kvs)=>some (.ok (n,kvs),s)
  |_=>none
 |_=>none
noncomputable def putD(n:Nat)(kvs:oF):M Unit:=λs=>some (.ok (),s.set n (.dct kvs))
noncomputable def key(x:Xv):M (List Kx):=match x with
 |.d v=>M.opt (kOf v)
 |.l _=>M.no
noncomputable def enumFrom:Nat->List D->List D
 |_,[]=>[]
 |i,x::r=>.tup [.int i,x]::enumFrom (i+1) r
inductive Src where
 |fix (xs:List D)|live (n:Nat)|qT (n:Nat)
noncomputable def Src.at(c:Src)(i:Nat)(s:S):Option (Option D):=match c with
 |.fix xs=>some xs[i]?
 |.live n=>match s[n]? with
  |some (.lst xs)=>some xs[i]?
  |_=>none
 |.qT n=>match s[n]? with
  |some (.lst xs)=>some (xs[i]?.map λx=>.tup [.int i,x])
  |_=>none
noncomputable def m8(x:Xv):M (Src×Nat):=λs=>match x with
 |.d (.tup xs)=>some (.ok (.fix (enumFrom 0 xs),(enumFrom 0 xs).length),s)
 |.d (.fl xs)=>some (.ok (.fix (enumFrom 0 xs),(enumFrom 0 xs).length),s)
 |.l n=>match s[n]? with
  |some (.lst xs)=>some (.ok (.qT n,xs.length),s)
  |_=>none
 |_=>none
noncomputable def src(x:Xv):M (Src×Nat):=λs=>match x with
 |.d (.tup xs)=>some (.ok (.fix xs,xs.length),s)
 |.d (.fl xs)=>some (.ok (.fix xs,xs.length),s)
 |.l n=>match s[n]? with
  |some (.lst xs)=>some (.ok (.live n,xs.length),s)
  |_=>none
 |_=>none
noncomputable def lB(x:Xv):M (List D):=match x with
 |.d (.tup xs)=>M.ret xs
 |.d (.fl xs)=>M.ret xs
 |_=>M.no
noncomputable def gZ(a b:Int):List D:=(List.range (b-a).toNat).map λ(i:Nat)=>.int (a+i)
noncomputable def dw(a:Int):Bool:=decide (-(2^62)<a)&&decide (a<2^62)
noncomputable def walk(c:Src)(f:D->List D->M (List D)):Nat->Nat->List D->M (List D)
 |0,_,_=>M.no
 |k+1,i,acc=>λs=>match c.at i s with
  |none=>none
  |some none=>some (.ok acc,s)
  |some (some x)=>M.bd (f x acc) (λacc'=>walk c f k (i+1) acc') s
noncomputable def fZ(f:D->M Xv):List D->Option (List Int)
 |[]=>some []
 |x::r=>match f x [] with
  |some (.ok (.d (.int k)),[])=>(fZ f r).map (k::·)
  |_=>none
noncomputable abbrev Vs:=List (Option Xv)
noncomputable abbrev Fn:=Nat->List Xv->M Xv
noncomputable def locs:List Xv->List Nat
 |[]=>[]
 |.d _::r=>locs r
 |.l n::r=>n::locs r
noncomputable def cD:Nat->List Xv->List Xv
 |_,[]=>[]
 |k,.d v::r=>.d v::cD k r
 |k,.l _::r=>.l k::cD (k+1) r
noncomputable def fB(s:S):List Nat->Option S
 |[]=>some []
 |n::r=>match s[n]?,fB s r with
  |some o,some q=>some (o::q)
  |_,_=>none
noncomputable def bR(s:S):List Nat->S->S
 |n::r,o::q=>bR (s.set n o) r q
 |_,_=>s
noncomputable def bU(F:List Xv->M Xv)(xs:List Xv):M Xv:=λs=>
 if (locs xs).Nodup then match fB s (locs xs) with
  |none=>none
  |some s0=>match F (cD 0 xs) s0 with
   |none=>none
   |some (.er c fs,s1)=>some (.er c fs,bR s (locs xs) s1)
   |some (.ok (.d v),s1)=>some (.ok (.d v),bR s (locs xs) s1)
   |some (.ok (.l n),s1)=>match (locs xs)[n]? with
    |some m=>some (.ok (.l m),bR s (locs xs) s1)
    |none=>match s1[n]? with
     |some o=>some (.ok (.l s.length),bR s (locs xs) s1++[o])
     |none=>none
 else none
noncomputable def RP(F:List Xv->M Xv)(c:Nat)(vs:List Xv):M Xv:=λs=>
 if locs vs=[] then match F (.d .any::vs) [] with
  |some (.ok (.d (.tup ds)),_)=>some (.ok (.d (.ob c ds)),s)
  |_=>none
 else none
noncomputable def yM(c:Nat)(x:Xv):M (List D):=match x with
 |.d (.ob e fs)=>if e=c then M.ret fs else M.no
 |_=>M.no
noncomputable def cO{α:Type}:List Nat->List α->List (Option α)->Option (List (Option α))
 |[],[],J=>some J
 |i::is,d::ds,J=>cO is ds (J.set i (some d))
 |_,_,_=>none
noncomputable def f9:D->Option (List D)
 |.tup xs=>some xs
 |_=>none
noncomputable def dM(tg:List Nat)(x:D)(J:Vs):Option Vs:=match tg with
 |[i]=>some (J.set i (some (.d x)))
 |is=>(f9 x).bind λds=>cO is (ds.map .d) J
noncomputable def blk(many:Nat)(fr:List Nat)(J:Vs):Vs:=List.replicate many none++fr.map λj=>J[j]?.join
section
variable (ao:Nat->Nat->Bool)(aj:Bool)(F:Fn)
mutual
noncomputable def ev:E->Vs->M Xv
 |.c d,_=>M.ret (.d d)
 |.v i,J=>M.opt (J[i]?.join)
 |.pr fz p xs,J=>M.bd (evs xs J) λvs=>M.bd (eH vs) λds=>bM fz (prim p ds)
 |.yt p q a b c,J=>M.bd (ev a J) λx=>M.bd (ev b J) λy=>M.bd (eH [x,y]) λds=>M.bd (bM true (prim p ds)) λt=>M.bd (bool t) λk=>
   if k=true then M.bd (ev c J) λz=>M.bd (eH [y,z]) λds=>bM true (prim q ds) else M.ret (.d (.bl false))
 |.RB p q r a b c d,J=>M.bd (ev a J) λx=>M.bd (ev b J) λy=>M.bd (eH [x,y]) λds=>M.bd (bM true (prim p ds)) λt=>M.bd (bool t) λk=>
   if k=true then M.bd (ev c J) λz=>M.bd (eH [y,z]) λds=>M.bd (bM true (prim q ds)) λt=>M.bd (bool t) λk2=>
    if k2=true then M.bd (ev d J) λw=>M.bd (eH [z,w]) λds=>bM true (prim r ds) else M.ret (.d (.bl false))
   else M.ret (.d (.bl false))
 |.and a b,J=>M.bd (ev a J) λx=>M.bd (bool x) λk=>if k=true then ev b J else M.ret (.d (.bl false))
 |.or a b,J=>M.bd (ev a J) λx=>M.bd (bool x) λk=>if k=true then M.ret (.d (.bl true)) else ev b J
 |.not a,J=>M.bd (ev a J) λx=>M.bd (bool x) λk=>M.ret (.d (.bl (!k)))
 |.ite c a b,J=>M.bd (ev c J) λx=>M.bd (bool x) λk=>if k=true then ev a J else ev b J
 |.tup xs,J=>M.bd (evs xs J) λvs=>M.bd (dj vs) λds=>M.ret (.d (.tup ds))
 |.lst fz xs,J=>M.bd (evs xs J) λvs=>M.bd (dj vs) λds=>newL fz ds
 |.yu k i,_=>M.ret (.d (.fd [.str k] [.int i]))
 |.call f xs,J=>M.bd (evs xs J) λvs=>bU (F f) vs
 |.j6 a k,J=>M.bd (ev a J) λx=>M.bd (rd x) λd=>M.bd (M.opt (gY ao d k)) λb=>M.ret (.d (.bl b))
 |.sl fz a lo hi,J=>M.bd (ev a J) λx=>M.bd (pQ lo J) λl=>M.bd (pQ hi J) λh=>M.bd (rd x) λd=>bM fz (cutD d l h)
 |.meth fz p k o xs,J=>M.bd (ev o J) λx=>M.bd (rd x) λd=>if tR k d=true then M.bd (evs xs J) λys=>M.bd (eH (x::ys)) λds=>bM fz (prim p ds) else M.no
 |.push o a,J=>M.bd (ev o J) λx=>M.bd (bK x) λ_=>M.bd (ev a J) λy=>M.bd (dat y) λd=>M.bd (bK x) λnx=>if nx.2.length<sizeLine then M.bd (putL nx.1 (nx.2++[d])) λ_=>M.ret (.d .non) else M.no
 |.pop o,J=>M.bd (ev o J) λx=>M.bd (bK x) λnx=>match nx.2.getLast? with
   |some d=>M.bd (putL nx.1 nx.2.dropLast) λ_=>M.ret (.d d)
   |none=>M.no
 |.comp fz elt tg it fr many cond,J=>if aj=true then M.bd (gb it J) λcn=>
   M.bd (walk cn.1 (λd acc=>M.bd (M.opt (dM tg d (blk many fr J))) λJ'=>M.bd (M.qt (lC cond J')) λok=>
    if ok=true then M.bd (M.qt (ev elt J')) λy=>M.bd (dat y) λe=>if acc.length<sizeLine then M.ret (acc++[e]) else M.no else M.ret acc) (cn.2+1) 0 []) λxs=>newL fz xs
  else M.no
 |.jh fz elt tg it Jm Jo fr many cond,J=>if aj=true then M.bd (gb it J) λcn=>
   M.bd (walk cn.1 (λd acc=>M.bd (M.opt (dM tg d (blk many fr J))) λJ'=>M.bd (M.qt (gb Jo J')) λjK=>
    walk jK.1 (λd2 acc=>M.bd (M.opt (dM Jm d2 J')) λJr=>M.bd (M.qt (lC cond Jr)) λok=>
     if ok=true then M.bd (M.qt (ev elt Jr)) λy=>M.bd (dat y) λe=>if acc.length<sizeLine then M.ret (acc++[e]) else M.no else M.ret acc) (jK.2+1) 0 acc) (cn.2+1) 0 []) λxs=>newL fz xs
  else M.no
 |.fld o cs i,J=>M.bd (ev o J) λx=>match x with
   |.d (.exc c fs)=>if cs.contains c=true then M.opt (fs[i]?.map .d) else M.no
   |_=>M.no
 |.of o c i,J=>M.bd (ev o J) λx=>M.bd (yM c x) λfs=>M.opt (fs[i]?.map .d)
 |.mk c f xs,J=>M.bd (evs xs J) λvs=>RP (F f) c vs
 |.cm c f o xs,J=>M.bd (ev o J) λx=>M.bd (yM c x) λ_=>M.bd (evs xs J) λvs=>M.qt (bU (F f) (x::vs))
 |.Ew,_=>λs=>some (.ok (.l s.length),s++[.dct []])
 |.RD b k d,J=>M.bd (ev k J) λx=>M.bd (ev d J) λy=>M.bd (key x) λkx=>M.bd (m7 y) λnk=>M.ret (.d (.bl ((pP kx nk.2).isSome==b)))
 |.Ey d k,J=>M.bd (ev d J) λy=>M.bd (ev k J) λx=>M.bd (key x) λkx=>M.bd (m7 y) λnk=>M.opt ((pP kx nk.2).map .d)
 |.RG a,J=>M.bd (ev a J) λx=>M.bd (rd x) λd=>M.bd (M.opt (yL d)) λk=>M.ret (.d (.bl k))
 |.j7 fz a b,J=>if aj=true then M.bd (ev a J) λx=>match x with
   |.d (.fl xs)=>M.bd (M.opt (fZ (λd=>ev b [some (.d d)]) xs)) λks=>M.bd (M.opt (fX (qP ks) xs)) λys=>newL fz ys
   |_=>M.no else M.no
 |.RJ a b,J=>M.bd (ev a J) λx=>M.bd (rd x) λd=>M.bd (M.opt (yL d)) λk=>if k=true then M.ret x else ev b J
 |.ins o i a,J=>M.bd (ev o J) λx=>M.bd (bK x) λ_=>M.bd (ev i J) λz=>M.bd (int z) λj=>M.bd (ev a J) λy=>M.bd (dat y) λd=>M.bd (bK x) λnx=>if 0<=j/\j<=nx.2.length/\nx.2.length<sizeLine then M.bd (putL nx.1 (nx.2.take j.toNat++d::nx.2.drop j.toNat)) λ_=>M.ret (.d .non) else M.no
 |.no,_=>M.no
noncomputable def gb:Wk->Vs->M (Src×Nat)
 |.seq e,J=>M.bd (ev e J) src
 |.rg a b,J=>M.bd (ev a J) λx=>M.bd (ev b J) λy=>M.bd (int x) λi=>M.bd (int y) λj=>if dw i&&dw j then M.ret (.fix (gZ i j),(gZ i j).length) else M.no
 |.zip a b,J=>M.bd (ev a J) λx=>M.bd (ev b J) λy=>M.bd (lB x) λxs=>M.bd (lB y) λys=>M.ret (.fix (List.zipWith (λp q=>.tup [p,q]) xs ys),(List.zipWith (λ(p q:D)=>D.tup [p,q]) xs ys).length)
 |.enum a,J=>M.bd (ev a J) m8
 |.RK a,J=>M.bd (ev a J) λx=>M.bd (int x) λi=>if dw i then M.ret (.fix (gZ 0 i).reverse,(gZ 0 i).length) else M.no
noncomputable def pQ:Eo->Vs->M (Option Int)
 |.no,_=>M.ret none
 |.yes a,J=>M.bd (ev a J) λx=>M.bd (int x) λi=>M.ret (some i)
noncomputable def lC:Eo->Vs->M Bool
 |.no,_=>M.ret true
 |.yes a,J=>M.bd (ev a J) bool
noncomputable def evs:Es->Vs->M (List Xv)
 |.nil,_=>M.ret []
 |.cons a r,J=>M.bd (ev a J) λx=>M.bd (evs r J) λxs=>M.ret (x::xs)
end
end
inductive Out where
 |nx (J:Vs)|rt (x:Xv)|bk (J:Vs)|ct (J:Vs)|er (c:Nat) (fs:List D) (J:Vs)
noncomputable abbrev MS:=S->Option (Out×S)
noncomputable def ofM{α:Type}(m:M α)(J:Vs)(k:α->MS):MS:=λs=>match m s with
 |some (.ok a,s')=>k a s'
 |some (.er c fs,s')=>some (.er c fs J,s')
 |none=>none
noncomputable def bL(m:MS)(k:Vs->MS):MS:=λs=>match m s with
 |some (.nx J,s')=>k J s'
 |r=>r
section
variable (ao:Nat->Nat->Bool)
noncomputable def store(aj:Bool)(F:Fn)(t:Tg)(x:Xv)(J:Vs):MS:=match t with
 |.nm i=>λs=>some (.nx (J.set i (some x)),s)
 |.tp is=>if aj=true then ofM (M.bd (dat x) λd=>M.opt ((f9 d).bind λds=>cO is (ds.map .d) J)) J (λJ' s=>some (.nx J',s)) else λ_=>none
 |.ao o i=>ofM (M.bd (dat x) λd=>M.bd (ev ao aj F o J) λy=>M.bd (ev ao aj F i J) λz=>M.bd (int z) λj=>M.bd (bK y) λnx=>
   match L2.pG nx.2.length j with
   |some q=>putL nx.1 (nx.2.set q d)
   |none=>M.no) J (λ_ s=>some (.nx J,s))
noncomputable def gj(c:Vs->M Bool)(b:Vs->MS):Nat->Vs->MS
 |0,_=>λ_=>none
 |k+1,J=>ofM (c J) J λok=>if ok=true then λs=>match b J s with
   |some (.nx J',s')=>gj c b k J' s'
   |some (.ct J',s')=>gj c b k J' s'
   |some (.bk J',s')=>some (.nx J',s')
   |r=>r
  else λs=>some (.nx J,s)
noncomputable def cR(c:Src)(b:D->Vs->MS):Nat->Nat->Vs->MS
 |0,_,_=>λ_=>none
 |k+1,i,J=>λs=>match c.at i s with
  |none=>none
  |some none=>some (.nx J,s)
  |some (some d)=>match b d J s with
   |some (.nx J',s')=>cR c b k (i+1) J' s'
   |some (.ct J',s')=>cR c b k (i+1) J' s'
   |some (.bk J',s')=>some (.nx J',s')
   |r=>r
noncomputable def goes(i:Nat):Out->Out
 |.nx J=>.nx (J.set i none)
 |.bk J=>.bk (J.set i none)
 |.ct J=>.ct (J.set i none)
 |r=>r
noncomputable def qU:Nat:=1000000000000
mutual
noncomputable def ex(aj:Bool)(F:Bool->Fn):St->Vs->MS
 |.pass,J=>λs=>some (.nx J,s)
 |.ex e,J=>ofM (ev ao aj (F aj) e J) J λ_ s=>some (.nx J,s)
 |.asg t e,J=>ofM (ev ao aj (F aj) e J) J λx=>store ao aj (F aj) t x J
 |.par i j a b,J=>if aj=true then ofM (M.bd (ev ao aj (F aj) a J) λx=>M.bd (ev ao aj (F aj) b J) λy=>M.ret (x,y)) J λxy s=>some (.nx ((J.set i (some xy.1)).set j (some xy.2)),s) else λ_=>none
 |.aug i e,J=>ofM (M.bd (M.opt (J[i]?.join)) λx=>M.bd (ev ao aj (F aj) e J) λy=>M.bd (int x) λp=>M.bd (int y) λq=>M.ret (p+q)) J λr s=>some (.nx (J.set i (some (.d (.int r)))),s)
 |.ret e,J=>ofM (ev ao aj (F aj) e J) J λx s=>some (.rt x,s)
 |.rise c kp xs,J=>if aj=true then ofM (M.bd (evs ao aj (F aj) xs J) dj) J λds s=>some (.er c (if kp=true then ds else []) J,s) else λ_=>none
 |.iff c t e,J=>ofM (M.bd (ev ao aj (F aj) c J) bool) J λb=>if b=true then exs aj F t J else exs aj F e J
 |.wh c b,J=>gj (λJ=>M.bd (ev ao aj (F aj) c J) bool) (λJ=>exs aj F b J) qU J
 |.fr t w b,J=>if aj=true then ofM (gb ao aj (F aj) w J) J λcn=>cR cn.1 (λd J=>bL (store ao aj (F aj) t (.d d) J) λJ'=>exs aj F b J') (cn.2+1) 0 J else λ_=>none
 |.Ez b d i h,J=>if aj=true then λs=>match exs aj F b J s with
   |some (.er c fs J',s')=>if ao c d=true then (match exs false F h (J'.set i (some (.d (.exc c fs)))) s' with
    |some (r,s'')=>(match r with
     |.er _ _ _=>none
     |r=>some (goes i r,s''))
    |none=>none) else none
   |r=>r
  else λ_=>none
 |.dput d k v,J=>ofM (M.bd (ev ao aj (F aj) v J) λz=>M.bd (dat z) λw=>M.bd (ev ao aj (F aj) d J) λy=>M.bd (ev ao aj (F aj) k J) λx=>M.bd (key x) λkx=>M.bd (m7 y) λnk=>if nk.2.length<sizeLine then putD nk.1 (Fv kx w nk.2) else M.no) J (λ_ s=>some (.nx J,s))
 |.no,_=>λ_=>none
noncomputable def exs(aj:Bool)(F:Bool->Fn):eG->Vs->MS
 |.nil,J=>λs=>some (.nx J,s)
 |.cons a r,J=>bL (ex aj F a J) λJ'=>exs aj F r J'
end
structure Df where
 many:Nat
 eN:Nat
 body:eG
noncomputable def call(T:Nat->Option Df):Nat->Bool->Fn
 |0,_,_,_=>M.no
 |k+1,aj,f,xs=>match T f with
  |none=>M.no
  |some d=>if xs.length=d.eN then λs=>match exs ao aj (λc=>call T k c) d.body (xs.map some++List.replicate (d.many-d.eN) none) s with
    |some (.nx _,s')=>some (.ok (.d .non),s')
    |some (.rt v,s')=>some (.ok v,s')
    |some (.er c fs _,s')=>some (.er c fs,s')
    |_=>none
   else M.no
end
end Mi
namespace Mi
open PySem L2
structure Ph where
 z:Addr->Prop
 l:List Addr
structure Cl where
 a:Nat->Addr
 f:Nat->List Str
 b:Nat->Addr
 g:Nat->List Str
section
variable (K:W.Frag)(cA:Cl)
def KT(a:Addr)(vs:List V):Prop:=fG K (λ_=>none) a vs
def KL(a:Addr)(vs:List V):Prop:=cH K (λ_=>none) a vs
def TupAt(U:Ph)(H:Hp)(a:Addr)(vs:List V):Prop:=(Rd H a (.tup vs)/\¬U.z a)\/KT K a vs
def LstAt(U:Ph)(H:Hp)(a:Addr)(vs:List V):Prop:=(Rd H a (.lst vs)/\¬U.z a)\/KL K a vs
def ExcAt(U:Ph)(H:Hp)(a:Addr)(c:Nat)(vs:List V):Prop:=¬U.z a/\((cA.f c=[]/\vs=[]/\H a=some (pL a (cA.a c) none))\/∃dx,H a=some (pL a (cA.a c) (some dx))/\¬U.z dx/\H dx=some (.xd ((cA.f c).zip vs))/\(cA.f c).length=vs.length)
def jL(U:Ph)(H:Hp)(a:Addr)(c:Nat)(vs:List V):Prop:=¬U.z a/\∃dx,H a=some (.ins (cA.b c) dx ((cA.g c).zip vs))/\(cA.g c).length=vs.length
mutual
inductive Rep (U:Ph) (H:Hp):D->V->Prop where
 |non:Rep U H .non .non
 |bl (b:Bool):Rep U H (.bl b) (.bl b)
 |int (i:Int):Rep U H (.int i) (.int i)
 |str (x:Str):Rep U H (.str x) (.str x)
 |tup {a:Addr} {xs:List D} {vs:List V} (h:TupAt K U H a vs) (r:aq U H xs vs):Rep U H (.tup xs) (.ref a)
 |fl {a:Addr} {xs:List D} {vs:List V} (h:LstAt K U H a vs) (r:aq U H xs vs):Rep U H (.fl xs) (.ref a)
 |fd {a:Addr} {k:Str} {i:Int} (h:H a=some (.dK [(.inr k,.int i)])) (n:¬U.z a):Rep U H (.fd [.str k] [.int i]) (.ref a)
 |exc {a:Addr} {c:Nat} {xs:List D} {vs:List V} (h:ExcAt cA U H a c vs) (r:aq U H xs vs):Rep U H (.exc c xs) (.ref a)
 |ob {a:Addr} {c:Nat} {xs:List D} {vs:List V} (h:jL cA U H a c vs) (r:aq U H xs vs):Rep U H (.ob c xs) (.ref a)
 |any (a:Addr):Rep U H .any (.ref a)
inductive aq (U:Ph) (H:Hp):List D->List V->Prop where
 |nil:aq U H [] []
 |cons {d:D} {v:V} {ds:List D} {vs:List V} (h:Rep U H d v) (r:aq U H ds vs):aq U H (d::ds) (v::vs)
end
inductive aJ (U:Ph) (H:Hp):Xv->V->Prop where
 |d {x:D} {v:V} (h:Rep K cA U H x v):aJ U H (.d x) v
 |l {n:Nat} {a:Addr} (h:U.l[n]?=some a):aJ U H (.l n) (.ref a)
inductive aV (U:Ph) (H:Hp):List Xv->List V->Prop where
 |nil:aV U H [] []
 |cons {d:Xv} {v:V} {ds:List Xv} {vs:List V} (h:aJ K cA U H d v) (r:aV U H ds vs):aV U H (d::ds) (v::vs)
noncomputable def RQ:Kx->Int
 |.non=>reduceHash 0xFCA86420
 |.int i=>hashInt i
 |.row is=>reduceHash (Builtin.Tuple.tupleHashOf (is.map hashInt))
noncomputable def yN(k:List Kx):Int:=reduceHash (Builtin.Tuple.tupleHashOf (k.map RQ))
noncomputable def RT:Kx->D
 |.non=>.non
 |.int i=>.int i
 |.row is=>.tup (is.map .int)
noncomputable def Fw(k:List Kx):D:=.tup (k.map RT)
noncomputable abbrev lD:=List (List Kx×Addr×Value)
noncomputable def RV(a:Addr)(xs:lD):HO:=.ext λh=>(a==sysModules)=false/\xs.length<=sizeLine/\∃o es ep,h.get? a=some o/\o.ExactDict/\o.data=.dict es ep/\es.toList=xs.map (λx=>⟨yN x.1,.ref x.2.1,x.2.2⟩)/\(xs.map (·.1)).Nodup
inductive t_ (U:Ph) (H:Hp):oF->lD->Prop where
 |nil:t_ U H [] []
 |cons {k:List Kx} {d:D} {ka:Addr} {u:Value} {v:V} {r:oF} {xs:lD} (hk:Rep K cA U H (Fw k) (.ref ka)) (hu:RelV v u) (hv:Rep K cA U H d v) (q:t_ U H r xs):t_ U H ((k,d)::r) ((k,ka,u)::xs)
noncomputable def gH(U:Ph)(H:Hp)(a:Addr):SO->Prop
 |.lst xs=>∃vs,H a=some (.lst vs)/\aq K cA U H xs vs
 |.dct kvs=>∃xs,H a=some (RV a xs)/\t_ K cA U H kvs xs
structure au(U:Ph)(H:Hp)(s:S):Prop where
 len:U.l.length=s.length
 obj:∀(n:Nat) o a,s[n]?=some o->U.l[n]?=some a->gH K cA U H a o
 uniq:U.l.Nodup
 lz:∀a∈U.l,U.z a
 zt:∀a,U.z a->∃o,H a=some o
noncomputable def NT:HO->Prop
 |.gR _=>False
 |_=>True
structure Ext(U:Ph)(H:Hp)(U':Ph)(H':Hp):Prop where
 more:∃r,U'.l=U.l++r/\∀b∈r,H b=none
 lE:∀a,U.z a->U'.z a
 gO:∀a,U'.z a->U.z a\/H a=none
 frame:∀a o,H a=some o->NT o->a∉U.l->H' a=some o
 stay:∀a o,H a=some o->∃o',H' a=some o'
def aG(U:Ph)(H:Hp)(Z:L2.St)(J:Vs):Prop:=Z.length=J.length/\∀(i:Nat) (x:Xv),J[i]?=some (some x)->∃v,Z[i]?=some (some v)/\aJ K cA U H x v
end
section
variable {K:W.Frag}{cA:Cl}{U U' gq:Ph}{H H' jk:Hp}{s:S}{Z:L2.St}{J:Vs}
theorem Ext.refl:Ext U H U H:=⟨⟨[],by simp,by simp⟩,λ_ h=>h,λ_ h=>.inl h,λ_ _ h _ _=>h,λ_ o h=>⟨o,h⟩⟩
theorem Ext.g8(x:Ext U H U' H'){a:Addr}(h:H' a=none):H a=none:=by
 cases e:H a with
 |none=>rfl
 |some o=>obtain⟨o',q⟩:=x.stay a o e;rw[h] at q;cases q
theorem Ext.trans(x:Ext U H U' H')(y:Ext U' H' gq jk):Ext U H gq jk:=by
 obtain⟨r,e,hr⟩:=x.more;obtain⟨r',e',RW⟩:=y.more;refine⟨⟨r++r',by rw[e',e,List.append_assoc],λb hb=>?_⟩,λa h=>y.lE a (x.lE a h),λa h=>?_,λa o h t n=>y.frame a o (x.frame a o h t n) t ?_,λa o h=>?_⟩
 ·rcases jz.mp hb with z|z
  ·exact hr b z
  ·exact x.g8 (RW b z)
 ·rcases y.gO a h with z|z
  ·exact x.gO a z
  ·exact .inr (x.g8 z)
 ·rw[e];intro z;rcases jz.mp z with z|z
  ·exact n z
  ·rw[hr a z] at h;cases h
 ·obtain⟨o',q⟩:=x.stay a o h;exact y.stay a o' q
theorem Ext.get(x:Ext U H U' H'){n:Nat}{a:Addr}(h:U.l[n]?=some a):U'.l[n]?=some a:=by
 obtain⟨r,e,_⟩:=x.more;rw[e,jw (gD.mp h).1];exact h
theorem Ext.out(x:Ext U H U' H')(hz:∀a∈U.l,U.z a){a:Addr}{o:HO}(h:H a=some o)(n:¬U.z a)(t:NT o:=by exact trivial):H' a=some o/\¬U'.z a:=
 ⟨x.frame a o h t λz=>n (hz a z),λz=>by
  rcases x.gO a z with y|y
  ·exact n y
  ·rw[h] at y;cases y⟩
theorem TupAt.mono(x:Ext U H U' H')(hz:∀a∈U.l,U.z a){a:Addr}{vs:List V}(h:TupAt K U H a vs):TupAt K U' H' a vs:=by
 rcases h with ⟨h|⟨o,h⟩,n⟩|h
 ·obtain⟨p,q⟩:=x.out hz h n;exact .inl ⟨.inl p,q⟩
 ·obtain⟨p,q⟩:=x.out hz h n;exact .inl ⟨.inr ⟨o,p⟩,q⟩
 ·exact .inr h
theorem LstAt.mono(x:Ext U H U' H')(hz:∀a∈U.l,U.z a){a:Addr}{vs:List V}(h:LstAt K U H a vs):LstAt K U' H' a vs:=by
 rcases h with ⟨h|⟨o,h⟩,n⟩|h
 ·obtain⟨p,q⟩:=x.out hz h n;exact .inl ⟨.inl p,q⟩
 ·obtain⟨p,q⟩:=x.out hz h n;exact .inl ⟨.inr ⟨o,p⟩,q⟩
 ·exact .inr h
theorem ExcAt.mono(x:Ext U H U' H')(hz:∀a∈U.l,U.z a){a:Addr}{c:Nat}{vs:List V}(h:ExcAt cA U H a c vs):ExcAt cA U' H' a c vs:=by
 obtain⟨n,⟨e1,e2,h⟩|⟨dx,h,n2,h2,h3⟩⟩:=h
 ·obtain⟨p,q⟩:=x.out hz h n;exact⟨q,.inl ⟨e1,e2,p⟩⟩
 ·obtain⟨p,q⟩:=x.out hz h n;obtain⟨p2,q2⟩:=x.out hz h2 n2;exact⟨q,.inr ⟨dx,p,q2,p2,h3⟩⟩
theorem jL.mono(x:Ext U H U' H')(hz:∀a∈U.l,U.z a){a:Addr}{c:Nat}{vs:List V}(h:jL cA U H a c vs):jL cA U' H' a c vs:=by
 obtain⟨n,dx,h,h3⟩:=h;obtain⟨p,q⟩:=x.out hz h n;exact⟨q,dx,p,h3⟩
theorem Rep.mono(x:Ext U H U' H')(hz:∀a∈U.l,U.z a){d:D}{v:V}(h:Rep K cA U H d v):Rep K cA U' H' d v:=
 Rep.rec (motive_1:=λd v _=>Rep K cA U' H' d v) (motive_2:=λd v _=>aq K cA U' H' d v) .non .bl .int .str (λh _ i=>.tup (h.mono x hz) i) (λh _ i=>.fl (h.mono x hz) i) (λh n=>.fd (x.out hz h n).1 (x.out hz h n).2) (λh _ i=>.exc (h.mono x hz) i) (λh _ i=>.ob (h.mono x hz) i) .any .nil (λ_ _ i j=>.cons i j) h
theorem aq.mono(x:Ext U H U' H')(hz:∀a∈U.l,U.z a){d:List D}{v:List V}(h:aq K cA U H d v):aq K cA U' H' d v:=
 aq.rec (motive_1:=λd v _=>Rep K cA U' H' d v) (motive_2:=λd v _=>aq K cA U' H' d v) .non .bl .int .str (λh _ i=>.tup (h.mono x hz) i) (λh _ i=>.fl (h.mono x hz) i) (λh n=>.fd (x.out hz h n).1 (x.out hz h n).2) (λh _ i=>.exc (h.mono x hz) i) (λh _ i=>.ob (h.mono x hz) i) .any .nil (λ_ _ i j=>.cons i j) h
theorem aq.map(m:∀d v,Rep K cA U H d v->Rep K cA U' H' d v):∀{d:List D} {v:List V},aq K cA U H d v->aq K cA U' H' d v
 |_,_,.nil=>.nil
 |_,_,.cons h r=>.cons (m _ _ h) (aq.map m r)
theorem t_.map(m:∀d v,Rep K cA U H d v->Rep K cA U' H' d v){d:oF}{v:lD}(h:t_ K cA U H d v):t_ K cA U' H' d v:=by
 induction h with
 |nil=>exact .nil
 |cons a b c _ ih=>exact .cons (m _ _ a) b (m _ _ c) ih
theorem gH.map{a:Addr}{o:SO}(h:gH K cA U H a o)(e:∀u,NT u->H a=some u->H' a=some u)(m:∀d v,Rep K cA U H d v->Rep K cA U' H' d v):gH K cA U' H' a o:=by
 cases o with
 |lst xs=>obtain⟨vs,q,r⟩:=h;exact⟨vs,e _ trivial q,r.map m⟩
 |dct xs=>obtain⟨vs,q,r⟩:=h;exact⟨vs,e _ trivial q,r.map m⟩
theorem aJ.mono(x:Ext U H U' H')(hz:∀a∈U.l,U.z a){d:Xv}{v:V}(h:aJ K cA U H d v):aJ K cA U' H' d v:=by
 cases h with
 |d h=>exact .d (h.mono x hz)
 |l h=>exact .l (x.get h)
theorem aG.mono(x:Ext U H U' H')(hz:∀a∈U.l,U.z a)(h:aG K cA U H Z J):aG K cA U' H' Z J:=⟨h.1,λi d e=>let ⟨v,a,b⟩:=h.2 i d e;⟨v,a,b.mono x hz⟩⟩
theorem aq.len:∀{ds:List D} {vs:List V},aq K cA U H ds vs->ds.length=vs.length
 |_,_,.nil=>rfl
 |_,_,.cons _ r=>by rw[iU,iU,aq.len r]
theorem aV.len:∀{ds:List Xv} {vs:List V},aV K cA U H ds vs->ds.length=vs.length
 |_,_,.nil=>rfl
 |_,_,.cons _ r=>by rw[iU,iU,aV.len r]
theorem aq.get:∀{ds:List D} {vs:List V} {i:Nat} {d:D},aq K cA U H ds vs->ds[i]?=some d->∃v,vs[i]?=some v/\Rep K cA U H d v
 |_,_,_,_,.nil,e=>by simp at e
 |_,_,0,_,.cons h _,e=>by simp at e;subst e;exact⟨_,rfl,h⟩
 |_,_,i+1,d,.cons _ r,e=>by
  obtain⟨v,a,b⟩:=aq.get (i:=i) (d:=d) r (by simpa using e);exact⟨v,by simpa using a,b⟩
theorem aV.get:∀{ds:List Xv} {vs:List V} {i:Nat} {d:Xv},aV K cA U H ds vs->ds[i]?=some d->∃v,vs[i]?=some v/\aJ K cA U H d v
 |_,_,_,_,.nil,e=>by simp at e
 |_,_,0,_,.cons h _,e=>by simp at e;subst e;exact⟨_,rfl,h⟩
 |_,_,i+1,d,.cons _ r,e=>by
  obtain⟨v,a,b⟩:=aV.get (i:=i) (d:=d) r (by simpa using e);exact⟨v,by simpa using a,b⟩
theorem aq.none:∀{ds:List D} {vs:List V} {i:Nat},aq K cA U H ds vs->ds[i]?=none->vs[i]?=none:=λ{ds vs i} r e=>by
 have:=r.len;have h2:ds.length<=i:=qm.mp e;exact qm.mpr (by lia)
theorem aq.app:∀{ds es:List D} {vs us:List V},aq K cA U H ds vs->aq K cA U H es us->aq K cA U H (ds++es) (vs++us)
 |_,_,_,_,.nil,s=>s
 |_,_,_,_,.cons h r,s=>.cons h (aq.app r s)
theorem aq.take:∀{ds:List D} {vs:List V} (n:Nat),aq K cA U H ds vs->aq K cA U H (ds.take n) (vs.take n)
 |_,_,0,_=>by simp;exact .nil
 |_,_,n+1,.nil=>by simp;exact .nil
 |_,_,n+1,.cons h r=>by simp only[List.take_succ_cons];exact .cons h (aq.take n r)
theorem aq.drop:∀{ds:List D} {vs:List V} (n:Nat),aq K cA U H ds vs->aq K cA U H (ds.drop n) (vs.drop n)
 |_,_,0,r=>r
 |_,_,n+1,.nil=>by simp;exact .nil
 |_,_,n+1,.cons _ r=>by simp only[List.drop_succ_cons];exact aq.drop n r
theorem aq.set{d:D}{v:V}(h:Rep K cA U H d v):∀{ds:List D} {vs:List V} (i:Nat),aq K cA U H ds vs->aq K cA U H (ds.set i d) (vs.set i v)
 |_,_,_,.nil=>.nil
 |_,_,0,.cons _ r=>.cons h r
 |_,_,i+1,.cons q r=>.cons q (aq.set h i r)
theorem aq.cut{ds:List D}{vs:List V}{l h:Option Int}(r:aq K cA U H ds vs):aq K cA U H (Mi.cut ds l h) (iz vs l h):=by
 unfold Mi.cut iz;rw[<-r.len];exact(r.drop _).take _
def bB(H H':Hp):Prop:=∀a o,H a=some o->H' a=some o
theorem bB.refl:bB H H:=λ_ _ h=>h
theorem bB.new{p:Addr}{o:HO}(hp:H p=none):bB H (upd H p o):=λa u h=>by rw[bA (o8 h hp)];exact h
theorem bB.ext(g:bB H H'):Ext U H U H':=⟨⟨[],by simp,by simp⟩,λ_ h=>h,λ_ h=>.inl h,λa o h _ _=>g a o h,λa o h=>⟨o,g a o h⟩⟩
theorem gH.grow{a:Addr}{o:SO}(g:bB H H')(hz:∀a∈U.l,U.z a)(h:gH K cA U H a o):gH K cA U H' a o:=h.map (λu _=>g _ u) λ_ _ r=>r.mono g.ext hz
theorem au.grow(g:bB H H')(h:au K cA U H s):au K cA U H' s:=
 ⟨h.len,λn o a e1 e2=>(h.obj n o a e1 e2).grow g h.lz,h.uniq,h.lz,λa z=>let ⟨o,e⟩:=h.zt a z;⟨o,g _ _ e⟩⟩
theorem au.nz(h:au K cA U H s){p:Addr}(hp:H p=none):¬U.z p:=λz=>by obtain⟨o,e⟩:=h.zt p z;rw[hp] at e;cases e
noncomputable def Ph.add(U:Ph)(p:Addr):Ph:=⟨λa=>U.z a\/a=p,U.l++[p]⟩
theorem Ext.add{p:Addr}{o:HO}(hp:H p=none):Ext U H (U.add p) (upd H p o):=
 ⟨⟨[p],rfl,by simpa using hp⟩,λ_ h=>.inl h,λa h=>h.imp id λe=>by rw[e];exact hp,λa u h _ _=>bB.new hp a u h,λa u h=>⟨u,bB.new hp a u h⟩⟩
theorem au.Fx{p:Addr}{so:SO}{ho:HO}(h:au K cA U H s)(hp:H p=none)(hr:gH K cA (U.add p) (upd H p ho) p so):au K cA (U.add p) (upd H p ho) (s++[so]):=by
 have pn:p∉U.l:=λz=>h.nz hp (h.lz p z);refine⟨by show (U.l++[p]).length=_;rw[jy,jy,h.len];rfl,λn o a e1 e2=>?_,?_,λa ha=>?_,λa ha=>?_⟩
 ·have e2:(U.l++[p])[n]?=some a:=e2;by_cases hn:n<s.length
  ·rw[jw hn] at e1;rw[jw (by rw[h.len];exact hn)] at e2;exact(h.obj n o a e1 e2).map (λu _=>bB.new hp _ u) λ_ _ r=>r.mono (Ext.add hp) h.lz
  ·have hl:n=s.length:=by
    have z:=(gD.mp e1).1;rw[jy] at z;simp at z
    lia
   subst hl;rw[jO (cg _)] at e1;rw[jO (by rw[h.len];exact cg _)] at e2;simp at e1;simp[h.len] at e2;subst e1 e2;exact hr
 ·show (U.l++[p]).Nodup;rw[Cp];refine⟨h.uniq,by simp,λa ha b hb e=>?_⟩;simp at hb;subst hb e;exact pn ha
 ·have ha:a∈U.l++[p]:=ha;rcases jz.mp ha with z|z
  ·exact .inl (h.lz a z)
  ·simp at z;exact .inr z
 ·rcases ha with z|z
  ·obtain⟨o,e⟩:=h.zt a z;exact⟨o,bB.new hp _ _ e⟩
  ·subst z;exact⟨_,gU⟩
theorem au.add{p:Addr}{xs:List D}{vs:List V}(h:au K cA U H s)(hp:H p=none)(r:aq K cA U H xs vs):au K cA (U.add p) (upd H p (.lst vs)) (s++[.lst xs]):=h.Fx hp ⟨vs,gU,r.mono (Ext.add hp) h.lz⟩
theorem Ext.write{n:Nat}{p:Addr}{o:HO}(hp:U.l[n]?=some p)(hv:∃u,H p=some u):Ext U H U (upd H p o):=by
 have hm:p∈U.l:=iR hp;refine⟨⟨[],by simp,by simp⟩,λ_ h=>h,λ_ h=>.inl h,λa u h _ n=>by
  have ne:a≠p:=λe=>n (by rw[e];exact hm);rw[bA ne];exact h,λa u h=>?_⟩
 by_cases e:a=p
 ·subst e;exact⟨o,gU⟩
 ·exact⟨u,by rw[bA e];exact h⟩
theorem au.uc{n:Nat}{p:Addr}{so:SO}{ho:HO}(h:au K cA U H s)(hl:n<s.length)(hp:U.l[n]?=some p)(hr:gH K cA U (upd H p ho) p so):au K cA U (upd H p ho) (s.set n so):=by
 have hv:=h.zt p (h.lz p (iR hp));have x:Ext U H U (upd H p ho):=Ext.write hp hv;refine⟨by rw[nY];exact h.len,λm o a e1 e2=>?_,h.uniq,h.lz,λa ha=>?_⟩
 ·by_cases hm:n=m
  ·subst hm;rw[uZ hl] at e1;cases e1;rw[hp] at e2;cases e2;exact hr
  ·rw[lZ hm] at e1;have ne:a≠p:=λy=>by
    subst y;exact hm ((Cq (gD.mp hp).1 h.uniq).mp (hp.trans e2.symm))
   exact(h.obj m o a e1 e2).map (λ_ _ q=>by rw[bA ne];exact q) λ_ _ r=>r.mono x h.lz
 ·obtain⟨o,e⟩:=h.zt a ha;obtain⟨o',e'⟩:=x.stay a o e;exact⟨o',e'⟩
theorem au.write{n:Nat}{p:Addr}{xs ys:List D}{us:List V}(h:au K cA U H s)(hn:s[n]?=some (.lst xs))(hp:U.l[n]?=some p)(r:aq K cA U H ys us):au K cA U (upd H p (.lst us)) (s.set n (.lst ys)):=
 h.uc (gD.mp hn).1 hp ⟨us,gU,r.mono (Ext.write hp (h.zt p (h.lz p (iR hp)))) h.lz⟩
theorem aG.set{i:Nat}{d:Xv}{v:V}(hL:aG K cA U H Z J)(r:aJ K cA U H d v):aG K cA U H (Z.set i (some v)) (J.set i (some d)):=by
 refine⟨by rw[nY,nY];exact hL.1,λj e h=>?_⟩;by_cases pq:i=j
 ·subst pq;by_cases hl:i<J.length
  ·rw[uZ hl] at h;cases h;exact⟨v,by rw[uZ (by rw[hL.1];exact hl)],r⟩
  ·rw[List.getElem?_eq_none (by rw[nY];lia)] at h;cases h
 ·rw[lZ pq] at h;obtain⟨u,a,b⟩:=hL.2 j e h;exact⟨u,by rw[lZ pq];exact a,b⟩
theorem TupAt.iJ{a:Addr}{vs:List V}(h:TupAt K U H a vs):fG K H a vs:=by
 rcases h with ⟨h,_⟩|(h|h)
 ·exact .inl h
 ·rcases h with h|⟨o,h⟩<;>cases h
 ·exact .inr h
theorem LstAt.oG{a:Addr}{vs:List V}(h:LstAt K U H a vs):cH K H a vs:=by
 rcases h with ⟨h,_⟩|(h|h)
 ·exact .inl h
 ·rcases h with h|⟨o,h⟩<;>cases h
 ·exact .inr h
theorem TupAt.new{p:Addr}{vs:List V}(hz:¬U.z p):TupAt K U (upd H p (.tup vs)) p vs:=.inl ⟨.inl gU,hz⟩
theorem LstAt.new{p:Addr}{vs:List V}(hz:¬U.z p):LstAt K U (upd H p (.lst vs)) p vs:=.inl ⟨.inl gU,hz⟩
end
end Mi
namespace Mi
open PySem PySem.Spec PyProof.Rows L2
theorem un{α β γ:Type}{A B C:α->β->γ->Prop}{R:Prop}(h:∃a b c,A a b c/\B a b c/\C a b c)(f:∀a b c,A a b c->B a b c->C a b c->R):R:=by
 obtain⟨a,b,c,x,y,z⟩:=h;exact f a b c x y z
section
variable (K:W.Frag)(cA:Cl)
def Run{α:Type}(m:M α)(U:Ph)(H:Hp)(s:S)(P:α->S->Ph->Hp->Prop)(Ee:Nat->List D->S->Ph->Hp->Prop):Prop:=
 match m s with
 |some (.ok a,s')=>∀U' H',Ext U H U' H'->au K cA U' H' s'->P a s' U' H'
 |some (.er c f,s')=>∀U' H',Ext U H U' H'->au K cA U' H' s'->Ee c f s' U' H'
 |none=>False
def gw(U:Ph)(H:Hp)(c:Nat)(fs:List D)(dx:Option Addr):Prop:=
 (cA.f c=[]/\fs=[]/\dx=none)\/∃d vs,dx=some d/\¬U.z d/\H d=some (.xd ((cA.f c).zip vs))/\(cA.f c).length=vs.length/\aq K cA U H fs vs
noncomputable def eX(EX:XS)(Z:L2.St):Nat->List D->S->Ph->Hp->Prop:=λc fs _ U' H'=>∀dx,gw K cA U' H' c fs dx->EX Z (.ref (cA.a c)) dx H'
noncomputable def tE(EX:XS)(m:Vs->M Xv):TE:=λZ H Q=>∃U J s,aG K cA U H Z J/\au K cA U H s/\Run K cA (m J) U H s (λd _ U' H'=>∀v,aJ K cA U' H' d v->Q v H') (eX K cA EX Z)
noncomputable def Fy(EX:XS)(m:Vs->M (List Xv)):TA:=λZ H Q=>∃U J s,aG K cA U H Z J/\au K cA U H s/\Run K cA (m J) U H s (λd _ U' H'=>∀v,aV K cA U' H' d v->Q v H') (eX K cA EX Z)
noncomputable def m9(EX:XS)(m:Vs->M Bool):TT:=λZ H Q=>∃U J s,aG K cA U H Z J/\au K cA U H s/\Run K cA (m J) U H s (λd _ U' H'=>Q d H') (eX K cA EX Z)
def Rv(U:Ph)(H:Hp)(d:D)(v:V):Prop:=match d with
 |.fl xs=>∃a vs,v=.ref a/\cH K H a vs/\aq K cA U H xs vs
 |d=>Rep K cA U H d v
inductive pR (U:Ph) (H:Hp):List D->List V->Prop where
 |nil:pR U H [] []
 |cons {d:D} {v:V} {ds:List D} {vs:List V} (h:Rv K cA U H d v) (r:pR U H ds vs):pR U H (d::ds) (v::vs)
def aY(U:Ph)(H:Hp)(o:Option Rz)(Q:VK):Prop:=match o with
 |none=>False
 |some (.dat d)=>∀H' v,bB H H'->Rep K cA U H' d v->Q v H'
 |some (.nw xs)=>∀p vs,H p=none->aq K cA U H xs vs->Q (.ref p) (upd H p (.lst vs))
structure Zt(U:Ph)(H:Hp):Prop where
 lz:∀a∈U.l,U.z a
 zt:∀a,U.z a->∃o,H a=some o
def aZ(p:Pr)(r:List V->Hp->VK->Prop):Prop:=∀(U:Ph) (H:Hp) (ds:List D) (vs:List V) (Q:VK),Zt U H->pR K cA U H ds vs->aY K cA U H (prim p ds) Q->r vs H Q
end
section
variable {K:W.Frag}{cA:Cl}{U U':Ph}{H H':Hp}{s:S}{Z:L2.St}{J:Vs}{EX:XS}
theorem au.zs(h:au K cA U H s):Zt U H:=⟨h.lz,h.zt⟩
theorem Zt.nz(h:Zt U H)(hp:H p=none):¬U.z p:=λz=>by obtain⟨o,e⟩:=h.zt p z;rw[hp] at e;cases e
theorem Rep.rv{d:D}{v:V}(h:Rep K cA U H d v):Rv K cA U H d v:=by
 cases h with
 |fl h r=>exact⟨_,_,rfl,h.oG,r⟩
 |non=>exact .non
 |bl b=>exact .bl b
 |int b=>exact .int b
 |str b=>exact .str b
 |tup h r=>exact .tup h r
 |fd h n=>exact .fd h n
 |exc h r=>exact .exc h r
 |ob h r=>exact .ob h r
 |any v=>exact .any v
theorem Run.bd{α β:Type}{m:M α}{k:α->M β}{P:β->S->Ph->Hp->Prop}{Ee:Nat->List D->S->Ph->Hp->Prop}(h:Run K cA (M.bd m k) U H s P Ee):Run K cA m U H s (λa s1 U1 H1=>Ext U H U1 H1/\au K cA U1 H1 s1/\Run K cA (k a) U1 H1 s1 P Ee) Ee:=by
 unfold Run M.bd at *;cases e:m s with
 |none=>rw[e] at h;exact h
 |some r=>
  obtain⟨r,s1⟩:=r;rw[e] at h;cases r with
  |er c f=>exact h
  |ok a=>
   intro U1 H1 x1 r1;refine⟨x1,r1,?_⟩;dsimp only at h ⊢;cases e2:k a s1 with
   |none=>rw[e2] at h;exact h
   |some q=>
    obtain⟨q,s2⟩:=q;rw[e2] at h;cases q with
    |ok b=>exact λU2 H2 x2 r2=>h U2 H2 (x1.trans x2) r2
    |er c f=>exact λU2 H2 x2 r2=>h U2 H2 (x1.trans x2) r2
theorem Run.imp{α:Type}{m:M α}{P P':α->S->Ph->Hp->Prop}{Ee:Nat->List D->S->Ph->Hp->Prop}(h:Run K cA m U H s P Ee)(f:∀a s' U' H',P a s' U' H'->P' a s' U' H'):Run K cA m U H s P' Ee:=by
 unfold Run at *;split at h
 ·exact λU' H' x r=>f _ _ _ _ (h U' H' x r)
 ·exact h
 ·exact h
theorem Run.ext(x:Ext U H U' H')(h:Run K cA m U H s P Ee):Run K cA m U' H' s P Ee:=by
 unfold Run at *;split at h
 ·exact λU2 H2 y r=>h U2 H2 (x.trans y) r
 ·exact λU2 H2 y r=>h U2 H2 (x.trans y) r
 ·exact h.elim
theorem Run.bC{α:Type}{a:α}{P:α->S->Ph->Hp->Prop}{Ee:Nat->List D->S->Ph->Hp->Prop}(r:au K cA U H s)(h:Run K cA (M.ret a) U H s P Ee):P a s U H:=h U H Ext.refl r
theorem Run.opt{α:Type}{o:Option α}{P:α->S->Ph->Hp->Prop}{Ee:Nat->List D->S->Ph->Hp->Prop}(r:au K cA U H s)(h:Run K cA (M.opt o) U H s P Ee):∃a,o=some a/\P a s U H:=by
 cases o with
 |none=>exact h.elim
 |some a=>exact⟨a,rfl,h U H Ext.refl r⟩
theorem Run.lF(h:Run K cA (M.bd (M.opt o) k) U H s P Ee):∃a,o=some a/\Run K cA (k a) U H s P Ee:=by
 cases o with
 |none=>exact h.elim
 |some a=>exact⟨a,rfl,h⟩
theorem A_{β:Type}{x:Xv}{v:V}{k:Bool->M β}{P:β->S->Ph->Hp->Prop}{Ee:Nat->List D->S->Ph->Hp->Prop}(r:aJ K cA U H x v)(h:Run K cA (M.bd (bool x) k) U H s P Ee):∃b,x=.d (.bl b)/\v=.bl b/\Run K cA (k b) U H s P Ee:=by
 cases r with
 |l _=>exact h.elim
 |d r=>cases r with
  |bl b=>exact⟨b,rfl,rfl,h⟩
  |_=>exact h.elim
theorem yO(r:aJ K cA U H x v)(h:Run K cA (M.bd (int x) k) U H s P Ee):∃b,x=.d (.int b)/\v=.int b/\Run K cA (k b) U H s P Ee:=by
 cases r with
 |l _=>exact h.elim
 |d r=>cases r with
  |int b=>exact⟨b,rfl,rfl,h⟩
  |_=>exact h.elim
theorem Fz(r:aJ K cA U H x v)(h:Run K cA (M.bd (dat x) k) U H s P Ee):∃d,x=.d d/\Rep K cA U H d v/\Run K cA (k d) U H s P Ee:=by
 cases r with
 |l _=>exact h.elim
 |d r=>exact⟨_,rfl,r,h⟩
theorem Js:∀{xs:List Xv} {vs:List V} {k:List D->M β} {P:β->S->Ph->Hp->Prop} {Ee:Nat->List D->S->Ph->Hp->Prop},aV K cA U H xs vs->Run K cA (M.bd (dj xs) k) U H s P Ee->∃ds,xs=ds.map .d/\aq K cA U H ds vs/\Run K cA (k ds) U H s P Ee:=by
 intro xs
 induction xs with
 |nil=>intro vs k P Ee r h;cases r;exact⟨[],rfl,.nil,h⟩
 |cons x xs ih=>
  intro vs k P Ee r h;cases r with
  |cons a r=>
   cases a with
   |l _=>exact h.elim
   |@d y v a=>
    have h2:Run K cA (M.bd (dj xs) λds=>k (y::ds)) U H s P Ee:=by
     unfold Run M.bd dj dat at h;unfold Run M.bd;simp only[M.bd,M.ret] at h;cases e:dj xs s with
     |none=>simp only[e] at h
     |some q=>
      obtain⟨q,s1⟩:=q;simp only[e] at h;cases q with
      |ok ds=>exact h
      |er c f=>exact h
    obtain⟨ds,e,rs,h3⟩:=ih r h2;exact⟨y::ds,by rw[e];rfl,.cons a rs,h3⟩
theorem FJ(hS:au K cA U H s)(r:aJ K cA U H x v)(h:Run K cA (M.bd (rd x) k) U H s P Ee):∃d,Rv K cA U H d v/\Run K cA (k d) U H s P Ee:=by
 cases r with
 |d r=>exact⟨_,r.rv,h⟩
 |@l n a hl=>
  unfold Run M.bd rd at h;dsimp only at h;cases e:s[n]? with
  |none=>rw[e] at h;exact h.elim
  |some o=>
   rw[e] at h;cases o with
   |lst xs=>
    obtain⟨vs,q1,q2⟩:=hS.obj n _ _ e hl;exact⟨.fl xs,⟨a,vs,rfl,cH.of q1,q2⟩,h⟩
   |_=>exact h.elim
theorem fC{α β γ:Type}(m:M α)(f:α->M β)(g:β->M γ):M.bd (M.bd m f) g=M.bd m λx=>M.bd (f x) g:=by
 funext s
 unfold M.bd;cases m s with
 |none=>rfl
 |some r=>
  obtain⟨r,s1⟩:=r;cases r<;>rfl
theorem Ba{β:Type}:∀{xs:List Xv} {vs:List V} {k:List D->M β} {P:β->S->Ph->Hp->Prop} {Ee:Nat->List D->S->Ph->Hp->Prop},au K cA U H s->aV K cA U H xs vs->Run K cA (M.bd (eH xs) k) U H s P Ee->∃ds,pR K cA U H ds vs/\Run K cA (k ds) U H s P Ee:=by
 intro xs
 induction xs with
 |nil=>intro vs k P Ee hS r h;cases r;exact⟨[],.nil,h⟩
 |cons x xs ih=>
  intro vs k P Ee hS r h;cases r with
  |cons a r=>
   have h2:Run K cA (M.bd (rd x) λd=>M.bd (eH xs) λds=>k (d::ds)) U H s P Ee:=by
    have e:M.bd (eH (x::xs)) k=M.bd (rd x) λd=>M.bd (eH xs) λds=>k (d::ds):=by
     show M.bd (M.bd (rd x) λd=>M.bd (eH xs) λds=>M.ret (d::ds)) k=_;rw[fC]
     congr 1
     funext d
     rw[fC];rfl
    rw[e] at h;exact h
   obtain⟨d,rd,h3⟩:=FJ hS a h2;obtain⟨ds,rs,h4⟩:=ih hS r h3;exact⟨d::ds,.cons rd rs,h4⟩
theorem vD{fz:Bool}{o:Option Rz}{Q:VK}{Ee:Nat->List D->S->Ph->Hp->Prop}(hS:au K cA U H s)(h:Run K cA (bM fz o) U H s (λx _ U' H'=>∀v,aJ K cA U' H' x v->Q v H') Ee):aY K cA U H o Q:=by
 cases o with
 |none=>exact h.elim
 |some z=>
  cases z with
  |dat d=>exact λH' v g r=>h U H' g.ext (hS.grow g) v (.d r)
  |nw xs=>
   intro p vs hp r;cases fz with
   |true=>exact h U _ (bB.new hp).ext (hS.grow (bB.new hp)) _ (.d (.fl (LstAt.new (hS.nz hp)) (r.mono (bB.new hp).ext hS.lz)))
   |false=>exact h (U.add p) _ (Ext.add hp) (hS.add hp r) _ (.l (by show (U.l++[p])[s.length]?=_;rw[<-hS.len];simp))
theorem Jt{fz:Bool}{xs:List D}{Q:VK}{Ee:Nat->List D->S->Ph->Hp->Prop}(hS:au K cA U H s)(h:Run K cA (newL fz xs) U H s (λx _ U' H'=>∀v,aJ K cA U' H' x v->Q v H') Ee):∀p vs,H p=none->aq K cA U H xs vs->Q (.ref p) (upd H p (.lst vs)):=
 vD (o:=some (.nw xs)) hS h
theorem bD{β:Type}{ma:Vs->M Xv}{k:Xv->M β}{P:β->S->Ph->Hp->Prop}(hL:aG K cA U H Z J)(hS:au K cA U H s)(h:Run K cA (M.bd (ma J) k) U H s P (eX K cA EX Z)){Q:VK}
  (f:∀x H1 U1 d s1,Ext U H U1 H1->aG K cA U1 H1 Z J->au K cA U1 H1 s1->aJ K cA U1 H1 d x->Run K cA (k d) U1 H1 s1 P (eX K cA EX Z)->Q x H1):tE K cA EX ma Z H Q:=
 ⟨U,J,s,hL,hS,h.bd.imp λd s1 U1 H1 ⟨x1,r1,h1⟩ v rv=>f v H1 U1 d s1 x1 (hL.mono x1 hS.lz) r1 rv h1⟩
theorem pU{β:Type}{ma:Vs->M (List Xv)}{k:List Xv->M β}{P:β->S->Ph->Hp->Prop}(hL:aG K cA U H Z J)(hS:au K cA U H s)(h:Run K cA (M.bd (ma J) k) U H s P (eX K cA EX Z)){Q:List V->Hp->Prop}
  (f:∀x H1 U1 d s1,Ext U H U1 H1->aG K cA U1 H1 Z J->au K cA U1 H1 s1->aV K cA U1 H1 d x->Run K cA (k d) U1 H1 s1 P (eX K cA EX Z)->Q x H1):Fy K cA EX ma Z H Q:=
 ⟨U,J,s,hL,hS,h.bd.imp λd s1 U1 H1 ⟨x1,r1,h1⟩ v rv=>f v H1 U1 d s1 x1 (hL.mono x1 hS.lz) r1 rv h1⟩
theorem ud(hL:aG K cA U H Z J)(hS:au K cA U H s)(h:Run K cA (M.bd (ma J) k) U H s P (eX K cA EX Z))
  (f:∀b H1 U1 s1,Ext U H U1 H1->aG K cA U1 H1 Z J->au K cA U1 H1 s1->Run K cA (k b) U1 H1 s1 P (eX K cA EX Z)->Q b H1):m9 K cA EX ma Z H Q:=
 ⟨U,J,s,hL,hS,h.bd.imp λd s1 U1 H1 ⟨x1,r1,h1⟩=>f d H1 U1 s1 x1 (hL.mono x1 hS.lz) r1 h1⟩
end
section
variable (X:Cx)(cA:Cl)(ao:Nat->Nat->Bool)(aj:Bool)(F:Fn)(EX:XS)
def SE(e:Expr)(m:E):Prop:=PE X e (tE X.K cA EX (ev ao aj F m))
def SA(es:List Expr)(m:Es):Prop:=PA X es (Fy X.K cA EX (evs ao aj F m))
def ST(e:Expr)(m:E):Prop:=PT X e (m9 X.K cA EX (λJ=>M.bd (ev ao aj F m J) bool))
def SW(e:Expr)(m:E):Prop:=PW X e (m9 X.K cA EX (λJ=>M.bd (ev ao aj F m J) bool))
end
section
variable {X:Cx}{cA:Cl}{ao:Nat->Nat->Bool}{aj:Bool}{F:Fn}{EX:XS}{a b c d e:Expr}{A B C Dd E':E}{pos:Pos}{es:List Expr}{Xs:Es}{fz:Bool}{p:Pr}
theorem PE.weak{t t':TE}(h:PE X e t)(f:∀Z H Q,t' Z H Q->t Z H Q):PE X e t':=λak s Z H Q I q=>h ak s Z H Q I (f Z H Q q)
theorem PT.weak{t t':TT}(h:PT X e t)(f:∀Z H Q,t' Z H Q->t Z H Q):PT X e t':=λak s Z H Q I q=>h ak s Z H Q I (f Z H Q q)
theorem PW.weak{t t':TT}(h:PW X e t)(f:∀Z H Q,t' Z H Q->t Z H Q):PW X e t':=λwh ak s Z H Q I q=>h wh ak s Z H Q I (f Z H Q q)
theorem PA.weak{t t':TA}(h:PA X es t)(f:∀Z H Q,t' Z H Q->t Z H Q):PA X es t':=λp ak s Z H Q I q=>h p ak s Z H Q I (f Z H Q q)
theorem RX{i j p}:SE X cA ao aj F EX (.Constant (.int i) j p) (.c (.int i)):=PE.weak MF λZ H Q hh=>un hh λU J s hL hS h=>h.bC hS _ (.d (.int i))
theorem RZ{i j p}:SE X cA ao aj F EX (.Constant (.bool i) j p) (.c (.bl i)):=PE.weak MJ λZ H Q hh=>un hh λU J s hL hS h=>h.bC hS _ (.d (.bl i))
theorem R0{j p}:SE X cA ao aj F EX (.Constant .none j p) (.c .non):=PE.weak MK λZ H Q hh=>un hh λU J s hL hS h=>h.bC hS _ (.d .non)
theorem FN{α:Type}{o:Option (Option α)}{x:α}(h:o.join=some x):o=some (some x):=by
 cases o with
 |none=>cases h
 |some y=>cases y with
  |none=>cases h
  |some z=>cases h;rfl
theorem Ju(i:Nat){x:Str}(hN:X.N[i]?=some x:=by rfl)(hv:Cy X.env.scope x:=by first|exact Or.inl rfl|exact Or.inr (Or.inl rfl)|exact Or.inr (Or.inr rfl))(hd:(x==("__debug__" : Str))=false:=by decide)
  (gG:(x==("__classdict__" : Str))=false:=by decide):SE X cA ao aj F EX (.Name x pos) (.v i):=PE.weak (Mz hN hv hd gG) λZ H Q hh=>un hh λU J s hL hS h=>by
 obtain⟨dd,e1,q⟩:=Run.opt hS h;obtain⟨v,q1,q2⟩:=hL.2 i dd (FN e1);exact⟨v,q1,q v q2⟩
theorem R3{x:Str}{i:Int}{t:Tok}(hg:Gl X x)(hm:X.mg x=some (.int i t))(hd:(x==("__debug__" : Str))=false:=by decide):SE X cA ao aj F EX (.Name x pos) (.c (.int i)):=PE.weak (MN (v:=.int i) hg hm ⟨t,rfl⟩ hd) λZ H Q hh=>un hh λU J s hL hS h=>h.bC hS _ (.d (.int i))
theorem R4:SA X cA ao aj F EX [] .nil:=PA.weak sS λZ H Q hh=>un hh λU J s hL hS h=>h.bC hS _ .nil
theorem zev(ha:SE X cA ao aj F EX a A)(hr:SA X cA ao aj F EX es Xs)(hs:starEach (a::es) X.env=(false,eval a X.env)::starEach es X.env:=by rfl):SA X cA ao aj F EX (a::es) (.cons A Xs):=PA.weak (ou ha hr hs) λZ H Q hh=>un hh λU J s hL hS h=>by
 refine bD hL hS h λx H1 U1 d1 s1 x1 hL1 aD r1 h1=>pU hL1 aD h1 λys H2 U2 d2 s2 x2 hL2 aL r2 h2=>h2.bC aL _ (.cons (r1.mono x2 aD.lz) r2)
theorem FP{U U1 U2:Ph}{H1 H2:Hp}{s1 s2:S}{d1 d2:Xv}{x y:V}{Q:VK}{Ee:Nat->List D->S->Ph->Hp->Prop}(x2:Ext U1 H1 U2 H2)(aD:au X.K cA U1 H1 s1)(aL:au X.K cA U2 H2 s2)(r1:aJ X.K cA U1 H1 d1 x)(r2:aJ X.K cA U2 H2 d2 y)
  (h:Run X.K cA (M.bd (eH [d1,d2]) λds=>bM fz (prim p ds)) U2 H2 s2 (λx _ U' H'=>∀v,aJ X.K cA U' H' x v->Q v H') Ee) {r:List V->Hp->VK->Prop} (hp:aZ X.K cA p r):r [x,y] H2 Q:=by
 obtain⟨ds,rs,h2⟩:=Ba aL (.cons (r1.mono x2 aD.lz) (.cons r2 .nil)) h;exact hp U2 H2 ds _ Q aL.zs rs (vD aL h2)
noncomputable def r2(r:R2):List V->Hp->VK->Prop:=λvs H Q=>∃x y,vs=[x,y]/\r x y H Q
theorem Bb{r:R2}{x y:V}{H:Hp}{Q:VK}(h:r2 r [x,y] H Q):r x y H Q:=by
 obtain⟨_,_,e,q⟩:=h;cases e;exact q
theorem R5{op:Operator}{r:R2}(ho:c7 X (binaryOp op) r)(hp:aZ X.K cA p (r2 r))(ha:SE X cA ao aj F EX a A)(hb:SE X cA ao aj F EX b B):SE X cA ao aj F EX (.BinOp a op b pos) (.pr fz p (.cons A (.cons B .nil))):=PE.weak (Ob ho ha hb) λZ H Q hh=>un hh λU J s hL hS h=>by
 have h:Run X.K cA (M.bd (M.bd (ev ao aj F A J) λx=>M.bd (M.bd (ev ao aj F B J) λy=>M.bd (M.ret []) λz=>M.ret (y::z)) λys=>M.ret (x::ys)) λvs=>M.bd (eH vs) λds=>bM fz (prim p ds)) U H s _ _:=h;simp only[fC] at h;refine bD hL hS h λx H1 U1 d1 s1 x1 hL1 aD r1 h1=>bD hL1 aD h1 λy H2 U2 d2 s2 x2 hL2 aL r2' h2=>?_;exact Bb (FP (fz:=fz) (U:=U) x2 aD aL r1 r2' h2 hp)
theorem R6{op:CmpOp}{r:R2}(ho:c7 X (compareOp op) r)(hp:aZ X.K cA p (r2 r))(ha:SE X cA ao aj F EX a A)(hb:SE X cA ao aj F EX b B)(hm:behindInMarks op b=false):SE X cA ao aj F EX (.Compare a [op] [b] pos) (.pr true p (.cons A (.cons B .nil))):=PE.weak (Ol ho ha hb hm) λZ H Q hh=>un hh λU J s hL hS h=>by
 have h:Run X.K cA (M.bd (M.bd (ev ao aj F A J) λx=>M.bd (M.bd (ev ao aj F B J) λy=>M.bd (M.ret []) λz=>M.ret (y::z)) λys=>M.ret (x::ys)) λvs=>M.bd (eH vs) λds=>bM true (prim p ds)) U H s _ _:=h;simp only[fC] at h;refine bD hL hS h λx H1 U1 d1 s1 x1 hL1 aD r1 h1=>bD hL1 aD h1 λy H2 U2 d2 s2 x2 hL2 aL r2' h2=>?_;exact Bb (FP (fz:=true) (U:=U) x2 aD aL r1 r2' h2 hp)
theorem iT{A B:Prop}(h:A):if true=true then A else B:=by rw[if_pos rfl];exact h
theorem iF{A B:Prop}(h:B):if false=true then A else B:=by rw[if_neg zW];exact h
theorem R7{op:CmpOp}{r:R2}(ho:c7 X (compareOp op) r)(hp:aZ X.K cA p (r2 r))(ha:SE X cA ao aj F EX a A)(hb:SE X cA ao aj F EX b B)(hm:behindInMarks op b=false):ST X cA ao aj F EX (.Compare a [op] [b] pos) (.pr true p (.cons A (.cons B .nil))):=PT.weak (Om ho ha hb hm) λZ H Q hh=>un hh λU J s hL hS h=>by
 have h:Run X.K cA (M.bd (M.bd (M.bd (ev ao aj F A J) λx=>M.bd (M.bd (ev ao aj F B J) λy=>M.bd (M.ret []) λz=>M.ret (y::z)) λys=>M.ret (x::ys)) λvs=>M.bd (eH vs) λds=>bM true (prim p ds)) bool) U H s _ _:=h;simp only[fC] at h;refine bD hL hS h λx H1 U1 d1 s1 x1 hL1 aD r1 h1=>bD hL1 aD h1 λy H2 U2 d2 s2 x2 hL2 aL r2' h2=>?_;obtain⟨ds,rs,h3⟩:=Ba aL (.cons (r1.mono x2 aD.lz) (.cons r2' .nil)) h2;refine Bb (hp U2 H2 ds _ _ aL.zs rs (vD (Ee:=eX X.K cA EX Z) aL (h3.bd.imp λt s3 U3 H3 ⟨x3,fL,h4⟩ v rv=>?_)));cases rv with
 |l _=>exact h4.elim
 |d rv=>cases rv with
  |bl k=>exact⟨k,rfl,h4 U3 H3 Ext.refl fL⟩
  |_=>exact h4.elim
theorem R8(ha:SE X cA ao aj F EX a A):SE X cA ao aj F EX (.UnaryOp .Not a pos) (.not A):=PE.weak (Ng ha) λZ H Q hh=>un hh λU J s hL hS h=>by
 refine bD hL hS h λx H1 U1 d1 s1 x1 hL1 aD r1 h1=>?_;obtain⟨i,_,e,h3⟩:=A_ r1 h1;exact⟨i,e,h3.bC aD _ (.d (.bl _))⟩
theorem R9{op}(ha:SE X cA ao aj F EX a A):SE X cA ao aj F EX (.BoolOp op [a] pos) A:=M_ ha
theorem R_{rest:List Expr}(ha:SE X cA ao aj F EX a A)(hb:SE X cA ao aj F EX (.BoolOp .And (b::rest) pos) B):SE X cA ao aj F EX (.BoolOp .And (a::b::rest) pos) (.and A B):=PE.weak (Nb ha hb) λZ H Q hh=>un hh λU J s hL hS h=>by
 refine bD hL hS h λx H1 U1 d1 s1 x1 hL1 aD r1 h1=>?_;obtain⟨i,_,e,h3⟩:=A_ r1 h1;refine⟨i,e,?_⟩;cases i with
 |true=>exact iT ⟨U1,J,s1,hL1,aD,h3⟩
 |false=>exact iF (h3.bC aD _ (.d (.bl _)))
theorem Sd{rest:List Expr}(ha:SE X cA ao aj F EX a A)(hb:SE X cA ao aj F EX (.BoolOp .Or (b::rest) pos) B):SE X cA ao aj F EX (.BoolOp .Or (a::b::rest) pos) (.or A B):=PE.weak (Nf ha hb) λZ H Q hh=>un hh λU J s hL hS h=>by
 refine bD hL hS h λx H1 U1 d1 s1 x1 hL1 aD r1 h1=>?_;obtain⟨i,_,e,h3⟩:=A_ r1 h1;refine⟨i,e,?_⟩;cases i with
 |true=>exact iT (h3.bC aD _ (.d (.bl _)))
 |false=>exact iF ⟨U1,J,s1,hL1,aD,h3⟩
end
section
variable {X:Cx}{cA:Cl}{ao:Nat->Nat->Bool}{aj:Bool}{F:Fn}{EX:XS}{a b c d e o:Expr}{A B C Dd E' O:E}{pos pp p2 apos:Pos}{es:List Expr}{Xs:Es}{fz:Bool}{p:Pr}{x:Str}
theorem Sg(ha:SE X cA ao aj F EX a A)(he:∀whole,isTrue a X.env whole=(do let v <-whole;standAt a.pos;holding [v] (truthy v)):=by intro _;rfl):ST X cA ao aj F EX a A:=PT.weak (MP ha he) λZ H Q hh=>un hh λU J s hL hS h=>by
 refine bD hL hS h λx H1 U1 d1 s1 x1 hL1 aD r1 h1=>?_;have h1:Run X.K cA (M.bd (bool d1) M.ret) U1 H1 s1 (λd _ U' H'=>Q d H') (eX X.K cA EX Z):=by
  cases d1 with
  |l n=>exact h1
  |d v=>cases v<;>exact h1
 obtain⟨k,_,e,q⟩:=A_ r1 h1;exact⟨k,e,q.bC aD⟩
theorem Sh{m:M Xv}{g:Bool->Bool}:M.bd (M.bd m λx=>M.bd (bool x) λk=>M.ret (Xv.d (.bl (g k)))) bool=M.bd (M.bd m bool) λk=>M.ret (g k):=by
 rw[fC,fC]
 congr 1
 funext x
 rw[fC];rfl
theorem Sq(ha:ST X cA ao aj F EX a A):ST X cA ao aj F EX (.UnaryOp .Not a pos) (.not A):=PT.weak (M9 ha) λZ H Q hh=>un hh λU J s hL hS h=>by
 have h:Run X.K cA (M.bd (M.bd (ev ao aj F A J) λx=>M.bd (bool x) λk=>M.ret (Xv.d (.bl (!k)))) bool) U H s _ _:=h;rw[Sh (g:=λk=>!k)] at h;exact ud hL hS h λk H1 U1 s1 x1 hL1 aD h1=>h1.bC aD
theorem Ss(ha:ST X cA ao aj F EX a A):SW X cA ao aj F EX (.BoolOp .And [a] pos) A:=M5 ha
theorem Sv(ha:ST X cA ao aj F EX a A):SW X cA ao aj F EX (.BoolOp .Or [a] pos) A:=M6 ha
theorem Jv{m:M Xv}{k:Bool->M Xv}:M.bd (M.bd m λx=>M.bd (bool x) k) bool=M.bd (M.bd m bool) λb=>M.bd (k b) bool:=by
 rw[fC,fC]
 congr 1
 funext x
 rw[fC]
theorem Sw{rest:List Expr}(ha:ST X cA ao aj F EX a A)(hb:SW X cA ao aj F EX (.BoolOp .And (b::rest) pos) B):SW X cA ao aj F EX (.BoolOp .And (a::b::rest) pos) (.and A B):=PW.weak (M7 ha hb) λZ H Q hh=>un hh λU J s hL hS h=>by
 have h:Run X.K cA (M.bd (M.bd (ev ao aj F A J) λx=>M.bd (bool x) λk=>if k=true then ev ao aj F B J else M.ret (Xv.d (.bl false))) bool) U H s _ _:=h;rw[Jv] at h;refine ud hL hS h λk H1 U1 s1 x1 hL1 aD h3=>?_;cases k with
 |true=>exact iT ⟨U1,J,s1,hL1,aD,h3⟩
 |false=>exact iF (Run.bC aD (a:=false) h3)
theorem Sx{rest:List Expr}(ha:ST X cA ao aj F EX a A)(hb:SW X cA ao aj F EX (.BoolOp .Or (b::rest) pos) B):SW X cA ao aj F EX (.BoolOp .Or (a::b::rest) pos) (.or A B):=PW.weak (M8 ha hb) λZ H Q hh=>un hh λU J s hL hS h=>by
 have h:Run X.K cA (M.bd (M.bd (ev ao aj F A J) λx=>M.bd (bool x) λk=>if k=true then M.ret (Xv.d (.bl true)) else ev ao aj F B J) bool) U H s _ _:=h;rw[Jv] at h;refine ud hL hS h λk H1 U1 s1 x1 hL1 aD h3=>?_;cases k with
 |true=>exact iT (Run.bC aD (a:=true) h3)
 |false=>exact iF ⟨U1,J,s1,hL1,aD,h3⟩
theorem Sy(h:SW X cA ao aj F EX a A):ST X cA ao aj F EX a A:=Mx h
theorem Jw:∀(Xs:Es) (J:Vs) (s:S) (ds:List Xv) (s':S),evs ao aj F Xs J s=some (.ok ds,s')->ds.length=Es.len Xs
 |.nil,J,s,ds,s',h=>by cases h;rfl
 |.cons a r,J,s,ds,s',h=>by
  have h:M.bd (ev ao aj F a J) (λx=>M.bd (evs ao aj F r J) λxs=>M.ret (x::xs)) s=some (.ok ds,s'):=h;unfold M.bd at h;cases e1:ev ao aj F a J s with
  |none=>rw[e1] at h;cases h
  |some q=>
   obtain⟨q,s1⟩:=q;rw[e1] at h;cases q with
   |er c f=>cases h
   |ok d=>
    dsimp only at h;cases e2:evs ao aj F r J s1 with
    |none=>rw[e2] at h;cases h
    |some q=>
     obtain⟨q,s2⟩:=q;rw[e2] at h;cases q with
     |er c f=>cases h
     |ok ds'=>
      cases h;rw[iU,Jw r J s1 ds' _ e2];rfl
theorem yP{β:Type}{K:W.Frag}{U:Ph}{H:Hp}{s:S}{Z:L2.St}{J:Vs}{k:List Xv->M β}{P:β->S->Ph->Hp->Prop}(hL:aG K cA U H Z J)(hS:au K cA U H s)(h:Run K cA (M.bd (evs ao aj F Xs J) k) U H s P (eX K cA EX Z)){Q:List V->Hp->Prop}
  (f:∀x H1 U1 d s1,d.length=Es.len Xs->Ext U H U1 H1->aG K cA U1 H1 Z J->au K cA U1 H1 s1->aV K cA U1 H1 d x->Run K cA (k d) U1 H1 s1 P (eX K cA EX Z)->Q x H1):Fy K cA EX (evs ao aj F Xs) Z H Q:=by
 refine⟨U,J,s,hL,hS,?_⟩;have h2:=h.bd;unfold Run at h2 ⊢;cases e:evs ao aj F Xs J s with
 |none=>rw[e] at h2;exact h2
 |some r=>
  obtain⟨r,s1⟩:=r;rw[e] at h2;cases r with
  |er c f=>exact h2
  |ok ds=>
   intro U1 H1 x1 r1 v rv;obtain⟨_,_,h3⟩:=h2 U1 H1 x1 r1;exact f v H1 U1 ds s1 (Jw Xs J s ds s1 e) x1 (hL.mono x1 hS.lz) r1 rv h3
theorem SJ{k}(ha:SA X cA ao aj F EX es Xs)(hz:Es.len Xs<=sizeLine):SE X cA ao aj F EX (.Tuple es k pos) (.tup Xs):=PE.weak (Ow ha) λZ H Q hh=>un hh λU J s hL hS h=>by
 refine yP hL hS h λvs H1 U1 xs s1 hl x1 hL1 aD rv h1=>?_;obtain⟨ds,e,rs,h2⟩:=Js rv h1;refine⟨by rw[<-rv.len,hl];exact hz,λp hp=>?_⟩;exact h2 U1 (upd H1 p (.tup vs)) (bB.new hp).ext (aD.grow (bB.new hp)) _ (.d (.tup (TupAt.new (aD.nz hp)) (rs.mono (bB.new hp).ext aD.lz)))
theorem SM(ha:SA X cA ao aj F EX es Xs)(hz:Es.len Xs<=sizeLine):SE X cA ao aj F EX (.List es pos) (.lst fz Xs):=PE.weak (Ox ha) λZ H Q hh=>un hh λU J s hL hS h=>by
 refine yP hL hS h λvs H1 U1 xs s1 hl x1 hL1 aD rv h1=>?_;obtain⟨ds,e,rs,h2⟩:=Js rv h1;exact⟨by rw[<-rv.len,hl];exact hz,λp hp=>Jt aD h2 p vs hp rs⟩
theorem vG{id:String}{r:List V->Hp->VK->Prop}(hc:cj X (.builtin id) r)(hp:aZ X.K cA p r)
  (hg:Gl X x) (hm:X.mg x=none) (hv:bootBuiltins x=some (.builtin id)) (ha:SA X cA ao aj F EX (e::es) Xs) (hn:x≠"__name__":=by decide) (mQ:(x==("__debug__" : Str))=false:=by decide)
  (he:starEach (e::es) X.env=(false,eval e X.env)::starEach es X.env:=by rfl) (cL:(backTo pos (starEach es X.env)).any (·.1)=false:=by rfl):SE X cA ao aj F EX (.Call (.Name x pp) (e::es) [] pos) (.pr fz p Xs):=PE.weak (Ij hc hg hm hv ha hn mQ he cL) λZ H Q hh=>un hh λU J s hL hS h=>
 pU hL hS h λvs H1 U1 ds s1 x1 hL1 aD r1 h1=>by
  obtain⟨ds,rs,h3⟩:=Ba aD r1 h1;exact hp U1 H1 ds _ _ aD.zs rs (vD aD h3)
theorem SN{id:String}{r:List V->Hp->VK->Prop}(hc:cj X (.type id) r)(hp:aZ X.K cA p r)
  (hg:Gl X x) (hm:X.mg x=none) (hv:bootBuiltins x=some (.type id)) (ha:SA X cA ao aj F EX (e::es) Xs) (hn:x≠"__name__":=by decide) (mQ:(x==("__debug__" : Str))=false:=by decide)
  (he:starEach (e::es) X.env=(false,eval e X.env)::starEach es X.env:=by rfl) (cL:(backTo pos (starEach es X.env)).any (·.1)=false:=by rfl):SE X cA ao aj F EX (.Call (.Name x pp) (e::es) [] pos) (.pr fz p Xs):=PE.weak (Oz hc hg hm hv ha hn mQ he cL) λZ H Q hh=>un hh λU J s hL hS h=>
 pU hL hS h λvs H1 U1 ds s1 x1 hL1 aD r1 h1=>by
  obtain⟨ds,rs,h3⟩:=Ba aD r1 h1;exact hp U1 H1 ds _ _ aD.zs rs (vD aD h3)
theorem SQ(hp:aZ X.K cA p (r2 (Dv X.K)))(ha:SE X cA ao aj F EX a A)(hb:SE X cA ao aj F EX b B)(hs:jZ b:=by intro _ _;rfl):SE X cA ao aj F EX (.Subscript a b pos) (.pr true p (.cons A (.cons B .nil))):=PE.weak (Pu Py ha hb hs) λZ H Q hh=>un hh λU J s hL hS h=>by
 have h:Run X.K cA (M.bd (M.bd (ev ao aj F A J) λx=>M.bd (M.bd (ev ao aj F B J) λy=>M.bd (M.ret []) λz=>M.ret (y::z)) λys=>M.ret (x::ys)) λvs=>M.bd (eH vs) λds=>bM true (prim p ds)) U H s _ _:=h;simp only[fC] at h;refine bD hL hS h λx H1 U1 d1 s1 x1 hL1 aD r1 h1=>bD hL1 aD h1 λy H2 U2 d2 s2 x2 hL2 aL r2' h2=>?_;exact Bb (FP (fz:=true) (U:=U) x2 aD aL r1 r2' h2 hp)
end
mutual
inductive Is (h:Heap):D->Value->Prop where
 |non:Is h .non .none
 |bl (b:Bool):Is h (.bl b) (.bool b)
 |int (i:Int) (t:Tok):Is h (.int i) (.int i t)
 |str (x:Str) (t:Tok):Is h (.str x) (.str x t)
 |tup {a:Addr} {xs:List D} {its:List Value} (p:h.IsTuple a its.toArray) (r:jm h xs its):Is h (.tup xs) (.ref a)
 |fl {a:Addr} {xs:List D} {its:List Value} (p:h.IsList a its.toArray) (r:jm h xs its):Is h (.fl xs) (.ref a)
 |oth {d:D} {u:Value} (k:kq d=none):Is h d u
inductive jm (h:Heap):List D->List Value->Prop where
 |nil:jm h [] []
 |cons {d:D} {u:Value} {ds:List D} {us:List Value} (a:Is h d u) (r:jm h ds us):jm h (d::ds) (u::us)
end
section
variable {X:Cx}{cA:Cl}{ak:List (Addr×Obj)}{Z:L2.St}{H:Hp}{s:Shared}{U:Ph}{h:Heap}
theorem FQ(I:Inv X ak Z H s){ds:List D}{vs:List V}{us:List Value}(h:aq X.K cA U H ds vs)(r:Vals vs us):jm s.heap ds us:=
 aq.rec (motive_1:=λd v _=>∀{u:Value},RelV v u->Is s.heap d u) (motive_2:=λd v _=>∀{u:List Value},Vals v u->jm s.heap d u) (λr=>by cases r;exact .non) (λb _ r=>by cases r;exact .bl b) (λi _ r=>by obtain⟨t,rfl⟩:=r;exact .int i t) (λi _ r=>by obtain⟨t,rfl⟩:=r;exact .str i t)
 (λh _ ih _ r=>by
  cases r;obtain⟨its,rv,ht,_⟩:=I.tuple h.iJ;exact .tup ht (ih rv))
 (λh _ ih _ r=>by
  cases r;obtain⟨its,rv,ht,_⟩:=I.list h.oG;exact .fl ht.isList (ih rv))
 (λ_ _ _ _=>.oth rfl) (λ_ _ _ _ _=>.oth rfl) (λ_ _ _ _ _=>.oth rfl) (λ_ _ _=>.oth rfl)
 (λr=>by cases r;exact .nil)
 (λ_ _ i j _ r=>by
  cases r with
  |cons a b=>exact .cons (i a) (j b)) h r
theorem pW(I:Inv X ak Z H s){d:D}{v:V}{u:Value}(h:Rep X.K cA U H d v)(r:RelV v u):Is s.heap d u:=by
 cases h with
 |non=>cases r;exact .non
 |bl b=>cases r;exact .bl b
 |int i=>obtain⟨t,rfl⟩:=r;exact .int i t
 |str i=>obtain⟨t,rfl⟩:=r;exact .str i t
 |tup h q=>
  cases r;obtain⟨its,rv,ht,_⟩:=I.tuple h.iJ;exact .tup ht (FQ I q rv)
 |fl h q=>
  cases r;obtain⟨its,rv,ht,_⟩:=I.list h.oG;exact .fl ht.isList (FQ I q rv)
 |fd _ _=>exact .oth rfl
 |exc _ _=>exact .oth rfl
 |ob _ _=>exact .oth rfl
 |any _=>exact .oth rfl
theorem Bc(I:Inv X ak Z H s){d:D}{v:V}{u:Value}(q:Rv X.K cA U H d v)(r:RelV v u):Is s.heap d u:=by
 cases d with
 |fl xs=>
  obtain⟨a,vs,rfl,sq,rs⟩:=q;cases r;obtain⟨its,rv,ht,_⟩:=I.list sq;exact .fl ht.isList (FQ I rs rv)
 |non=>exact pW I q r
 |bl b=>exact pW I q r
 |int b=>exact pW I q r
 |str b=>exact pW I q r
 |tup b=>exact pW I q r
 |fd b c=>exact pW I q r
 |exc b c=>exact pW I q r
 |ob b c=>exact pW I q r
 |any=>exact pW I q r
theorem jm.len:∀{ds:List D} {us:List Value},jm h ds us->ds.length=us.length
 |_,_,.nil=>rfl
 |_,_,.cons _ r=>by rw[iU,iU,jm.len r]
theorem jm.get:∀{ds:List D} {us:List Value} {i:Nat} {d:D},jm h ds us->ds[i]?=some d->∃u,us[i]?=some u/\Is h d u
 |_,_,_,_,.nil,e=>by simp at e
 |_,_,0,_,.cons h _,e=>by simp at e;subst e;exact⟨_,rfl,h⟩
 |_,_,i+1,d,.cons _ r,e=>by
  obtain⟨v,a,b⟩:=jm.get (i:=i) (d:=d) r (by simpa using e);exact⟨v,by simpa using a,b⟩
theorem SX{a:Addr}{is js:Array Value}(p:h.IsTuple a is)(q:h.IsTuple a js):is=js:=by
 obtain⟨o,e,c,n,d⟩:=p;obtain⟨o',e',c',n',d'⟩:=q;rw[e] at e';cases e';rw[d] at d';cases d';rfl
theorem S5{a:Addr}{is js:Array Value}(p:h.IsList a is)(q:h.IsList a js):is=js:=by
 obtain⟨o,e,c,n,d⟩:=p;obtain⟨o',e',c',n',d'⟩:=q;rw[e] at e';cases e';rw[d] at d';cases d';rfl
theorem Bf{a:Addr}{is js:Array Value}(p:h.IsList a is)(q:h.IsTuple a js):False:=by
 obtain⟨o,e,c,n,d⟩:=p;obtain⟨o',e',c',n',d'⟩:=q;rw[e] at e';cases e';rw[c] at c';exact absurd c' (by simp)
theorem FT{eq:D->D->Option Bool}:∀{xs ys:List D} {b:Bool},ji eq xs ys=some b->∃e:Nat->Bool,(∀(j:Nat) x y,xs[j]?=some x->ys[j]?=some y->eq x y=some (e j))/\b=((List.range (min xs.length ys.length)).all e&&xs.length==ys.length)
 |[],[],b,h=>by cases h;exact⟨λ_=>true,λj x y q=>by simp at q,by simp⟩
 |[],y::ys,b,h=>by cases h;exact⟨λ_=>true,λj x y q=>by simp at q,by simp⟩
 |x::xs,[],b,h=>by cases h;exact⟨λ_=>true,λj x y q r=>by simp at r,by simp⟩
 |x::xs,y::ys,b,h=>by
  simp only[ji] at h;cases e1:eq x y with
  |none=>rw[e1] at h;cases h
  |some a=>
   cases e2:ji eq xs ys with
   |none=>rw[e1,e2] at h;cases h
   |some c=>
    rw[e1,e2] at h;cases h;obtain⟨e,h1,h2⟩:=FT e2;refine⟨λj=>match j with|0=>a|j+1=>e j,λj p q r1 r2=>?_,?_⟩
    ·cases j with
     |zero=>
      simp at r1 r2;subst r1 r2;exact e1
     |succ j=>exact h1 j p q (by simpa using r1) (by simpa using r2)
    ·rw[h2];simp only[iU,Nat.succ_min_succ,List.range_succ_eq_map,rJ,List.all_map,Function.comp_def];rw[Bool.and_assoc]
     congr 2
     simp
theorem yQ{n:Nat}{d e:D}(k:kq d=none):jH n d e=none:=by
 cases n<;>cases d<;>first|cases k;done|(cases e<;>rfl)
theorem dD{n:Nat}{d e:D}(k:kq e=none):jH n d e=none:=by
 cases n<;>cases e<;>first|cases k;done|(cases d<;>rfl)
theorem Jx:∀(n:Nat) {d1 d2:D} {u:Value} {b:Bool},Is h d1 u->Is h d2 u->jH n d1 d2=some b->b=true:=by
 intro n;have rows:∀(n:Nat),(∀{d1 d2:D} {u:Value} {b:Bool},Is h d1 u->Is h d2 u->jH n d1 d2=some b->b=true)->∀{xs ys:List D} {is js:List Value} {b:Bool},jm h xs is->jm h ys js->is.toArray=js.toArray->ji (jH n) xs ys=some b->b=true:=by
  intro n ih xs ys is js b q1 q2 e hd;have e:is=js:=by simpa using e
  subst e;obtain⟨e,a1,a2⟩:=FT (eq:=jH n) hd;rw[a2];have hl:_=_:=q1.len.trans q2.len.symm;rw[dU];refine⟨mj.mpr λj hj=>?_,by rw[hl];simp⟩;have hj:=List.mem_range.mp hj;obtain⟨x,hx⟩ : ∃x,_=some x:=⟨_,kI (eZ hj (Nat.min_le_left _ _))⟩;obtain⟨y,hy⟩ : ∃y,_=some y:=⟨_,kI (eZ hj (Nat.min_le_right _ _))⟩;obtain⟨v1,e1,p1⟩:=q1.get hx;obtain⟨v2,e2,p2⟩:=q2.get hy;rw[e1] at e2;cases e2;exact ih p1 p2 (a1 j x y hx hy)
 induction n with
 |zero=>
  intro d1 d2 u b r1 r2 hd;cases r1 with
  |oth k=>rw[yQ k] at hd;cases hd
  |non=>cases r2 with
   |oth k=>rw[dD k] at hd;cases hd
   |non=>cases hd;rfl
  |bl x=>cases r2 with
   |oth k=>rw[dD k] at hd;cases hd
   |bl y=>cases hd;simp
  |int x t=>cases r2 with
   |oth k=>rw[dD k] at hd;cases hd
   |int y=>cases hd;simp
  |str x t=>cases r2 with
   |oth k=>rw[dD k] at hd;cases hd
   |str y=>cases hd;simp
  |tup p q=>cases r2 with
   |oth k=>rw[dD k] at hd;cases hd
   |tup p2 q2=>cases hd
   |fl p2 q2=>exact(Bf p2 p).elim
  |fl p q=>cases r2 with
   |oth k=>rw[dD k] at hd;cases hd
   |fl p2 q2=>cases hd
   |tup p2 q2=>exact(Bf p p2).elim
 |succ n ih=>
  intro d1 d2 u b r1 r2 hd;cases r1 with
  |oth k=>rw[yQ k] at hd;cases hd
  |non=>cases r2 with
   |oth k=>rw[dD k] at hd;cases hd
   |non=>cases hd;rfl
  |bl x=>cases r2 with
   |oth k=>rw[dD k] at hd;cases hd
   |bl y=>cases hd;simp
  |int x t=>cases r2 with
   |oth k=>rw[dD k] at hd;cases hd
   |int y=>cases hd;simp
  |str x t=>cases r2 with
   |oth k=>rw[dD k] at hd;cases hd
   |str y=>cases hd;simp
  |tup p q=>cases r2 with
   |oth k=>rw[dD k] at hd;cases hd
   |tup p2 q2=>exact rows n ih q q2 (SX p p2) hd
   |fl p2 q2=>exact(Bf p2 p).elim
  |fl p q=>cases r2 with
   |oth k=>rw[dD k] at hd;cases hd
   |fl p2 q2=>exact rows n ih q q2 (S5 p p2) hd
   |tup p2 q2=>exact(Bf p p2).elim
theorem parts{n:Nat}{A:Around}{xs ys:List D}{is js:List Value}{b:Bool}(r1:jm s.heap xs is)(r2:jm s.heap ys js)(hd:ji (jH n) xs ys=some b)
  (ih:∀{d1 d2:D} {u1 u2:Value} {b:Bool},Is s.heap d1 u1->Is s.heap d2 u2->jH n d1 d2=some b->SeqAt.EqAt A s u1 u2 b) :
  ∃e:Nat->Bool,(∀j (h1:j<is.toArray.size) (h2:j<js.toArray.size),SeqAt.EqAt A s is.toArray[j] js.toArray[j] (e j))/\b=((List.range (min is.toArray.size js.toArray.size)).all e&&is.toArray.size==js.toArray.size):=by
 obtain⟨e,a1,a2⟩:=FT hd;have z1:=r1.len;have z2:=r2.len;refine⟨e,λj h1 h2=>?_,by simp only[dF,<-z1,<-z2];exact a2⟩;simp only[dF] at h1 h2;obtain⟨x,hx⟩ : ∃x,xs[j]?=some x:=⟨_,kI (by rw[z1];exact h1)⟩;obtain⟨y,hy⟩ : ∃y,ys[j]?=some y:=⟨_,kI (by rw[z2];exact h2)⟩;obtain⟨u,f1,g1⟩:=r1.get hx;obtain⟨u',f2,g2⟩:=r2.get hy;have k1:is.toArray[j]=u:=by
  have:=gD.mp f1;simpa using this.2
 have k2:js.toArray[j]=u':=by
  have:=gD.mp f2;simpa using this.2
 rw[k1,k2];exact ih g1 g2 (a1 j x y hx hy)
theorem Jy{A:Around}{l m:Addr}{is js:Array Value}{e:Nat->Bool}{b:Bool}(p1:s.heap.IsList l is)(p2:s.heap.IsList m js)(hu:A.units<cLine)(he:∀j (h1:j<is.size) (h2:j<js.size),SeqAt.EqAt A.in1 s is[j] js[j] (e j))(hb:b=((List.range (min is.size js.size)).all e&&is.size==js.size)):SeqAt.RcAt A s (.ref l) (.ref m) b:=by
 by_cases hz:is.size=js.size
 ·have:b=(List.range is.size).all e:=by rw[hb,hz];simp
  rw[this];exact SeqAt.RcAt.lists p1 p2 hz hu he
 ·have FW:(is.size != js.size)=true:=by simpa using hz
  have:b=false:=by rw[hb];simp[hz]
  rw[this];exact SeqAt.RcAt.lists_lengths p1 p2 FW hu
theorem S6{A:Around}{l m:Addr}{is js:Array Value}{e:Nat->Bool}{b:Bool}(p1:s.heap.IsList l is)(p2:s.heap.IsList m js)(hu:A.units<cLine)(he:∀j (h1:j<is.size) (h2:j<js.size),SeqAt.EqAt A.in1 s is[j] js[j] (e j))(hb:b=((List.range (min is.size js.size)).all e&&is.size==js.size)):SeqAt.RcNeAt A s (.ref l) (.ref m) (!b):=by
 by_cases hz:is.size=js.size
 ·have:b=(List.range is.size).all e:=by rw[hb,hz];simp
  rw[this];exact SeqAt.RcNeAt.lists p1 p2 hz hu he
 ·have FW:(is.size != js.size)=true:=by simpa using hz
  have:b=false:=by rw[hb];simp[hz]
  rw[this];exact SeqAt.RcNeAt.lists_lengths p1 p2 FW hu
open SeqAt in
theorem Jz:∀(n:Nat) {A:Around} {d1 d2:D} {u1 u2:Value} {b:Bool},A.units+n<cLine->Is s.heap d1 u1->Is s.heap d2 u2->jH n d1 d2=some b->SeqAt.EqAt A s u1 u2 b:=by
 intro n
 induction n with
 |zero=>
  intro A d1 d2 u1 u2 b hu r1 r2 hd;have hu:A.units<cLine:=by lia
  cases r1 with
  |oth k=>rw[yQ k] at hd;cases hd
  |non=>cases r2 with
   |oth k=>rw[dD k] at hd;cases hd
   |non=>cases hd;exact EqAt.same _
   |bl y=>cases hd;exact EqAt.none_bool _
   |int y t=>cases hd;exact EqAt.none_int _ _
   |str y t=>cases hd;exact EqAt.none_str _ _
   |tup p q=>cases hd;exact EqAt.none_tuple p hu
   |fl p q=>cases hd;exact EqAt.none_list p hu
  |bl x=>cases r2 with
   |oth k=>rw[dD k] at hd;cases hd
   |non=>cases hd;exact EqAt.bool_none _
   |bl y=>cases hd;exact EqAt.bool_bool _ _
   |int y t=>cases hd;exact EqAt.bool_int _ _ _
   |str y t=>cases hd;exact EqAt.bool_str _ _ _
   |tup p q=>cases hd;exact EqAt.bool_tuple _ p hu
   |fl p q=>cases hd;exact EqAt.bool_list _ p hu
  |int x t=>cases r2 with
   |oth k=>rw[dD k] at hd;cases hd
   |non=>cases hd;exact EqAt.int_none _ _
   |bl y=>cases hd;exact EqAt.int_bool _ _ _
   |int y t=>cases hd;exact EqAt.int_int _ _ _ _
   |str y t=>cases hd;exact EqAt.int_str _ _ _ _
   |tup p q=>cases hd;exact EqAt.int_tuple _ _ p hu
   |fl p q=>cases hd;exact EqAt.int_list _ _ p hu
  |str x t=>cases r2 with
   |oth k=>rw[dD k] at hd;cases hd
   |non=>cases hd;exact EqAt.str_none _ _
   |bl y=>cases hd;exact EqAt.str_bool _ _ _
   |int y t=>cases hd;exact EqAt.str_int _ _ _ _
   |str y t=>cases hd;exact EqAt.str_str _ _ _ _
   |tup p q=>cases hd;exact EqAt.str_tuple _ _ p hu
   |fl p q=>cases hd;exact EqAt.str_list _ _ p hu
  |tup p q=>cases r2 with
   |oth k=>rw[dD k] at hd;cases hd
   |non=>cases hd;exact EqAt.tuple_none p hu
   |bl y=>cases hd;exact EqAt.tuple_bool _ p hu
   |int y t=>cases hd;exact EqAt.tuple_int _ _ p hu
   |str y t=>cases hd;exact EqAt.tuple_str _ _ p hu
   |tup p2 q2=>cases hd
   |fl p2 q2=>cases hd;exact EqAt.tuple_list p p2 hu
  |fl p q=>cases r2 with
   |oth k=>rw[dD k] at hd;cases hd
   |non=>cases hd;exact EqAt.list_none p hu
   |bl y=>cases hd;exact EqAt.list_bool _ p hu
   |int y t=>cases hd;exact EqAt.list_int _ _ p hu
   |str y t=>cases hd;exact EqAt.list_str _ _ p hu
   |tup p2 q2=>cases hd;exact EqAt.list_tuple p p2 hu
   |fl p2 q2=>cases hd
 |succ n ih=>
  intro A d1 d2 u1 u2 b S7 r1 r2 hd;have hu:A.units<cLine:=by lia
  have cV:A.in1.units+n<cLine:=by show A.units+1+n<cLine;lia
  cases r1 with
  |oth k=>rw[yQ k] at hd;cases hd
  |non=>cases r2 with
   |oth k=>rw[dD k] at hd;cases hd
   |non=>cases hd;exact EqAt.same _
   |bl y=>cases hd;exact EqAt.none_bool _
   |int y t=>cases hd;exact EqAt.none_int _ _
   |str y t=>cases hd;exact EqAt.none_str _ _
   |tup p q=>cases hd;exact EqAt.none_tuple p hu
   |fl p q=>cases hd;exact EqAt.none_list p hu
  |bl x=>cases r2 with
   |oth k=>rw[dD k] at hd;cases hd
   |non=>cases hd;exact EqAt.bool_none _
   |bl y=>cases hd;exact EqAt.bool_bool _ _
   |int y t=>cases hd;exact EqAt.bool_int _ _ _
   |str y t=>cases hd;exact EqAt.bool_str _ _ _
   |tup p q=>cases hd;exact EqAt.bool_tuple _ p hu
   |fl p q=>cases hd;exact EqAt.bool_list _ p hu
  |int x t=>cases r2 with
   |oth k=>rw[dD k] at hd;cases hd
   |non=>cases hd;exact EqAt.int_none _ _
   |bl y=>cases hd;exact EqAt.int_bool _ _ _
   |int y t=>cases hd;exact EqAt.int_int _ _ _ _
   |str y t=>cases hd;exact EqAt.int_str _ _ _ _
   |tup p q=>cases hd;exact EqAt.int_tuple _ _ p hu
   |fl p q=>cases hd;exact EqAt.int_list _ _ p hu
  |str x t=>cases r2 with
   |oth k=>rw[dD k] at hd;cases hd
   |non=>cases hd;exact EqAt.str_none _ _
   |bl y=>cases hd;exact EqAt.str_bool _ _ _
   |int y t=>cases hd;exact EqAt.str_int _ _ _ _
   |str y t=>cases hd;exact EqAt.str_str _ _ _ _
   |tup p q=>cases hd;exact EqAt.str_tuple _ _ p hu
   |fl p q=>cases hd;exact EqAt.str_list _ _ p hu
  |@tup a1 xs is p q=>cases r2 with
   |oth k=>rw[dD k] at hd;cases hd
   |non=>cases hd;exact EqAt.tuple_none p hu
   |bl y=>cases hd;exact EqAt.tuple_bool _ p hu
   |int y t=>cases hd;exact EqAt.tuple_int _ _ p hu
   |str y t=>cases hd;exact EqAt.tuple_str _ _ p hu
   |@tup a2 ys js p2 q2=>
    by_cases ea:a1=a2
    ·subst ea;have:=Jx (n+1) (.tup p q) (.tup p2 q2) hd;subst this;exact EqAt.same _
    ·obtain⟨e,he,hb⟩:=parts (A:=A.in1) q q2 hd λa b c=>ih cV a b c;rw[hb];exact EqAt.of_refs ea (RcAt.tuples p p2 hu he)
   |fl p2 q2=>cases hd;exact EqAt.tuple_list p p2 hu
  |@fl a1 xs is p q=>cases r2 with
   |oth k=>rw[dD k] at hd;cases hd
   |non=>cases hd;exact EqAt.list_none p hu
   |bl y=>cases hd;exact EqAt.list_bool _ p hu
   |int y t=>cases hd;exact EqAt.list_int _ _ p hu
   |str y t=>cases hd;exact EqAt.list_str _ _ p hu
   |tup p2 q2=>cases hd;exact EqAt.list_tuple p p2 hu
   |@fl a2 ys js p2 q2=>
    by_cases ea:a1=a2
    ·subst ea;have:=Jx (n+1) (.fl p q) (.fl p2 q2) hd;subst this;exact EqAt.same _
    ·obtain⟨e,he,hb⟩:=parts (A:=A.in1) q q2 hd λa b c=>ih cV a b c;exact EqAt.of_refs ea (Jy p p2 hu he hb)
end
section
variable {X:Cx}{cA:Cl}{ak:List (Addr×Obj)}{Z:L2.St}{H:Hp}{s:Shared}{U:Ph}{h:Heap}
open SeqAt in
theorem JD(S7:A.units+(n+1)<cLine)(r1:Is s.heap d1 u1)(r2:Is s.heap d2 u2)(hd:jH (n+1) d1 d2=some b):RcAt A s u1 u2 b/\RcNeAt A s u1 u2 (!b):=by
 have hu:A.units<cLine:=by lia
 have cV:A.in1.units+n<cLine:=by show A.units+1+n<cLine;lia
 cases r1 with
 |oth k=>rw[yQ k] at hd;cases hd
 |non=>cases r2 with
  |oth k=>rw[dD k] at hd;cases hd
  |non=>cases hd;exact⟨RcAt.none_none,RcNeAt.none_none⟩
  |bl y=>cases hd;exact⟨RcAt.none_bool _,RcNeAt.none_bool _⟩
  |int y t=>cases hd;exact⟨RcAt.none_int _ _,RcNeAt.none_int _ _⟩
  |str y t=>cases hd;exact⟨RcAt.none_str _ _,RcNeAt.none_str _ _⟩
  |tup p q=>cases hd;exact⟨RcAt.none_tuple p hu,RcNeAt.none_tuple p hu⟩
  |fl p q=>cases hd;exact⟨RcAt.none_list p hu,RcNeAt.none_list p hu⟩
 |bl x=>cases r2 with
  |oth k=>rw[dD k] at hd;cases hd
  |non=>cases hd;exact⟨RcAt.bool_none _,RcNeAt.bool_none _⟩
  |bl y=>cases hd;exact⟨RcAt.bool_bool _ _,RcNeAt.bool_bool _ _⟩
  |int y t=>cases hd;exact⟨RcAt.bool_int _ _ _,RcNeAt.bool_int _ _ _⟩
  |str y t=>cases hd;exact⟨RcAt.bool_str _ _ _,RcNeAt.bool_str _ _ _⟩
  |tup p q=>cases hd;exact⟨RcAt.bool_tuple _ p hu,RcNeAt.bool_tuple _ p hu⟩
  |fl p q=>cases hd;exact⟨RcAt.bool_list _ p hu,RcNeAt.bool_list _ p hu⟩
 |int x t=>cases r2 with
  |oth k=>rw[dD k] at hd;cases hd
  |non=>cases hd;exact⟨RcAt.int_none _ _,RcNeAt.int_none _ _⟩
  |bl y=>cases hd;exact⟨RcAt.int_bool _ _ _,RcNeAt.int_bool _ _ _⟩
  |int y t=>cases hd;exact⟨RcAt.int_int _ _ _ _,RcNeAt.int_int _ _ _ _⟩
  |str y t=>cases hd;exact⟨RcAt.int_str _ _ _ _,RcNeAt.int_str _ _ _ _⟩
  |tup p q=>cases hd;exact⟨RcAt.int_tuple _ _ p hu,RcNeAt.int_tuple _ _ p hu⟩
  |fl p q=>cases hd;exact⟨RcAt.int_list _ _ p hu,RcNeAt.int_list _ _ p hu⟩
 |str x t=>cases r2 with
  |oth k=>rw[dD k] at hd;cases hd
  |non=>cases hd;exact⟨RcAt.str_none _ _,RcNeAt.str_none _ _⟩
  |bl y=>cases hd;exact⟨RcAt.str_bool _ _ _,RcNeAt.str_bool _ _ _⟩
  |int y t=>cases hd;exact⟨RcAt.str_int _ _ _ _,RcNeAt.str_int _ _ _ _⟩
  |str y t=>cases hd;exact⟨RcAt.str_str _ _ _ _,RcNeAt.str_str _ _ _ _⟩
  |tup p q=>cases hd;exact⟨RcAt.str_tuple _ _ p hu,RcNeAt.str_tuple _ _ p hu⟩
  |fl p q=>cases hd;exact⟨RcAt.str_list _ _ p hu,RcNeAt.str_list _ _ p hu⟩
 |@tup a1 xs is p q=>cases r2 with
  |oth k=>rw[dD k] at hd;cases hd
  |non=>cases hd;exact⟨RcAt.tuple_none p hu,RcNeAt.tuple_none p hu⟩
  |bl y=>cases hd;exact⟨RcAt.tuple_bool _ p hu,RcNeAt.tuple_bool _ p hu⟩
  |int y t=>cases hd;exact⟨RcAt.tuple_int _ _ p hu,RcNeAt.tuple_int _ _ p hu⟩
  |str y t=>cases hd;exact⟨RcAt.tuple_str _ _ p hu,RcNeAt.tuple_str _ _ p hu⟩
  |@tup a2 ys js p2 q2=>
   obtain⟨e,he,hb⟩:=parts (A:=A.in1) q q2 hd λa b c=>Jz n cV a b c;rw[hb];exact⟨RcAt.tuples p p2 hu he,RcNeAt.tuples p p2 hu he⟩
  |fl p2 q2=>cases hd;exact⟨RcAt.tuple_list p p2 hu,RcNeAt.tuple_list p p2 hu⟩
 |@fl a1 xs is p q=>cases r2 with
  |oth k=>rw[dD k] at hd;cases hd
  |non=>cases hd;exact⟨RcAt.list_none p hu,RcNeAt.list_none p hu⟩
  |bl y=>cases hd;exact⟨RcAt.list_bool _ p hu,RcNeAt.list_bool _ p hu⟩
  |int y t=>cases hd;exact⟨RcAt.list_int _ _ p hu,RcNeAt.list_int _ _ p hu⟩
  |str y t=>cases hd;exact⟨RcAt.list_str _ _ p hu,RcNeAt.list_str _ _ p hu⟩
  |tup p2 q2=>cases hd;exact⟨RcAt.list_tuple p p2 hu,RcNeAt.list_tuple p p2 hu⟩
  |@fl a2 ys js p2 q2=>
   obtain⟨e,he,hb⟩:=parts (A:=A.in1) q q2 hd λa b c=>Jz n cV a b c;exact⟨Jy p p2 hu he hb,S6 p p2 hu he hb⟩
noncomputable def pX(K:W.Frag)(cA:Cl)(f:Bool->Bool):R2:=λx y H Q=>∃U d1 d2 b,Rv K cA U H d1 x/\Rv K cA U H d2 y/\jH 50 d1 d2=some b/\Q (.bl (f b)) H
theorem S8(hu:X.A.units+60<cLine):c7 X (compareOp .Eq) (pX X.K cA id):=by
 intro ak s Z H x y v u Q I rx ry ⟨U,d1,d2,b,r1,r2,hd,q⟩;exact(JD (n:=49) (by lia) (Bc I r1 rx) (Bc I r2 ry) hd).1 X.prog X.w X.xe _ ⟨.bl b,H,I,rfl,q⟩
theorem S9(hu:X.A.units+60<cLine):c7 X (compareOp .NotEq) (pX X.K cA not):=by
 intro ak s Z H x y v u Q I rx ry ⟨U,d1,d2,b,r1,r2,hd,q⟩;exact(JD (n:=49) (by lia) (Bc I r1 rx) (Bc I r2 ry) hd).2 X.prog X.w X.xe _ ⟨.bl (!b),H,I,rfl,q⟩
end
end Mi
namespace HT
open PySem PyProof.Rows
section
variable {prog:Program}{w:World}{A:Around}{E:Value->Shared->Prop}{s:Shared}
theorem m_{t b:Addr}{vs ws:List Value}{Q:Value->Shared->Prop}(ht:IsTup s.heap t vs.toArray)(hb:IsTup s.heap b ws.toArray)(hv:vs=[])
  (h1:Q (.ref b) s):wpAny (model prog w) A (binaryOp .Add (.ref t) (.ref b)) Q E s:=by
 obtain⟨⟨cls,dd,data,sl⟩,ho,hc,n,hd⟩:=id ht;obtain⟨⟨cls2,dd2,data2,sl2⟩,jD,jr,n2,hd2⟩:=id hb;simp only at hc hd jr hd2;subst hc hd jr hd2;exact concat_meets ⟨_,ho,rfl⟩ ⟨_,jD,rfl⟩ noFill_tuple_add seq_tuple_add Ca B_ (BZ _ _)
   (tuple_addW0 t b vs.toArray ws.toArray n n2 dd dd2 sl sl2 (by simp[hv])) ⟨ho,jD,h1⟩
theorem cT{t sl:Addr}{items:Array Value}{vl vu:Value}{lo hi:Option Int}{Q:Value->Shared->Prop}(ht:IsTup s.heap t items)(hs:s.heap.IsSliceOf sl vl vu .none)(pl:IsPart vl lo)(pu:IsPart vu hi)
  (hw:aR items.size 0 lo=0/\aR items.size items.size hi=items.size) (h:Q (.ref t) s):wpAny (model prog w) A (getItem (.ref t) (.ref sl)) Q E s:=by
 obtain⟨os,sV,Av,xJ⟩:=id hs;have Ds:s.TypeIs (.ref sl) "slice":=⟨os,sV,Av⟩;unfold getItem
 try with_reducible refine kW ?_
 first|refine aB (aQ ?_)|skip
 refine aB (wpAny_sequenceKey ht.typeIs (by decide) ?_);refine aB (wpAny_callSpecial?_slot (name:=Str.ofString "__getitem__") ht.typeIs uX
  (wpAny_call_entry uX ht.typeIs entry_tuple_getitem ?_ (args_tuple_getitem _ _)))
 show wpAny _ _ (Builtin.Tuple.tupleItemsOf (.ref t) >>= _) _ _ s;refine aB (tupleItemsOf_ ht ?_);refine aB (wpAny_typeOf Ds ?_);rw[if_pos (by decide)];refine aB (Il hs pl pu ?_);have FZ:(((aR items.size 0 lo:Nat):Int)==0&&(1:Int)==1&&(aR items.size items.size hi-aR items.size 0 lo)==items.size)=true:=by
  rw[hw.1,hw.2];simp
 show wpAny _ _ (if (((aR items.size 0 lo:Nat):Int)==0&&(1:Int)==1&&(aR items.size items.size hi-aR items.size 0 lo)==items.size)=true then _ else _) _ _ s;rw[if_pos FZ];refine aB ?_;unfold Builtin.Tuple.tupleIsExact;refine aB (wpAny_typeOf ht.typeIs ?_);refine aQ ?_;rw[if_pos (by decide)];refine aB (wpAny_rule ?_);exact aQ ⟨_,rfl,aQ h⟩
end
end HT
namespace L2
open PySem PySem.Spec PyProof.Rows
section
variable {X:Cx}{e:Expr}{te:TE}{pos p2:Pos}
noncomputable def ni(K:W.Frag):R2:=λx y H Q=>∃a b xs ys,x=.ref a/\y=.ref b/\fG K H a xs/\fG K H b ys/\xs.length+ys.length<=sizeLine /\
 (xs=[]->Q (.ref b) H)/\(ys=[]->Q (.ref a) H)/\∀p,H p=none->Q (.ref p) (upd H p (.tup (xs++ys)))
theorem nj:c7 X (binaryOp .Add) (ni X.K):=by
 intro ak s Z H x y v u Q I rx ry h;obtain⟨a,b,xs,ys,rfl,rfl,ha,hb,hz,q0,q1,q2⟩:=h;cases rx;cases ry;obtain⟨its,r1,p1,_⟩:=I.tuple ha;obtain⟨its2,r2,p2,_⟩:=I.tuple hb;by_cases hx:xs=[]
 ·exact HT.m_ p1 p2 (r1.iB.mpr hx) ⟨.ref b,H,I,rfl,q0 hx⟩
 ·refine HT.pD p1 p2 (λz=>hx (r1.iB.mp z)) (λz=>⟨.ref a,H,I,rfl,q1 (r2.iB.mp z)⟩) (λz=>?_) (by rw[<-r1.length,<-r2.length];exact hz);refine⟨.ref s.heap.objs.size,_,I.laid (t':=s.toks) (o:=.tup (xs++ys)) (λb ob q=>cP _ q) (cg _) ?_,rfl,q2 _ (I.hok.fresh (cg _))⟩;exact⟨by rw[jy];exact hz,_,r1.append r2,IsTup.new _ _⟩
noncomputable def qW(K:W.Frag):V->Option Int->Option Int->Hp->VK->Prop:=λx lo hi H Q=>∃a xs,x=.ref a/\fG K H a xs /\
 ((HT.aR xs.length 0 lo=0/\HT.aR xs.length xs.length hi=xs.length)->Q (.ref a) H)/\∀p,H p=none->Q (.ref p) (upd H p (.tup (iz xs lo hi)))
theorem S_:pF X (qW X.K):=by
 intro ak s Z H x v vl vu lo hi sl Q I rx hs pl pu h;obtain⟨a,xs,rfl,hx,hw,q⟩:=h;by_cases hz:HT.aR xs.length 0 lo=0/\HT.aR xs.length xs.length hi=xs.length
 ·cases rx;obtain⟨its,r,ht,_⟩:=I.tuple hx;have hlen:its.toArray.size=xs.length:=by rw[dF];exact r.length.symm
  refine⟨"tuple",_,uX.lookup,ht.typeIs,?_⟩;exact HT.cT ht hs pl pu (by rw[hlen];exact hz) ⟨.ref a,H,I,rfl,hw hz⟩
 ·exact Pk ak s Z H (.ref a) v vl vu lo hi sl Q I rx hs pl pu ⟨a,xs,rfl,hx,hz,q⟩
end
section
variable {X:Cx}
noncomputable def qX(K:W.Frag):R2:=λx y H Q=>∃l b xs zs,x=.ref l/\y=.ref b/\cH K H l xs/\cH K H b zs/\xs.length+zs.length<=sizeLine/\∀p,H p=none->Q (.ref p) (upd H p (.lst (xs++zs)))
theorem pY:c7 X (binaryOp .Add) (qX X.K):=by
 intro ak s Z H x y v u Q I rx ry h;obtain⟨l,b,xs,zs,rfl,rfl,hH,hB,hz,q⟩:=h;cases rx;cases ry;obtain⟨its,r,pl,_⟩:=I.list hH;obtain⟨its2,r2,Tc,_⟩:=I.list hB;obtain⟨⟨cls,dd,data,sl⟩,ho,hc,n,hd⟩:=pl.isList;obtain⟨⟨cls2,dd2,data2,sl2⟩,jD,jr,n2,hd2⟩:=Tc.isList;simp only at hc hd jr hd2;subst hc hd jr hd2;refine concat_meets ⟨_,ho,rfl⟩ ⟨_,jD,rfl⟩ noFill_list_add seq_list_add PySem.F.slot_list_add PySem.F.entry_list_add (PySem.F.args_list_add_2 _ _) (list_addW l b its.toArray its2.toArray n n2 dd dd2 sl sl2 (by rw[dF,dF,<-r.length,<-r2.length];exact hz)) ⟨ho,jD,?_⟩;have ea:its.toArray++its2.toArray=(its++its2).toArray:=by simp
 rw[ea];exact⟨.ref _,_,I.Dy (t':=s.toks) (r.append r2) (by rw[jy];omega),rfl,q _ I.fresh⟩
noncomputable def j8(K:W.Frag):R2:=λx y H Q=>lq (λi j=>.int (i+j)) x y H Q\/qX K x y H Q\/ni K x y H Q\/∃i j,x=.str i/\y=.str j/\i.length+j.length<=sizeLine/\Q (.str (i++j)) H
theorem Td:c7 X (binaryOp .Add) (j8 X.K):=sO.or (pY.or (nj.or Oo))
end
end L2
namespace Mi
open PySem PySem.Spec PyProof.Rows L2
section
variable {K:W.Frag}{cA:Cl}{U:Ph}{H:Hp}{Q:VK}{p:Pr}
theorem aY.some'{o:Option Rz}(h:aY K cA U H o Q):∃z,o=some z:=by
 cases o with
 |none=>exact h.elim
 |some z=>exact⟨z,rfl⟩
theorem aY.of{o:Option Rz}{z:Rz}(h:aY K cA U H o Q)(e:o=some z):aY K cA U H (some z) Q:=e▸h
theorem aY.here{d:D}{v:V}(h:aY K cA U H (some (.dat d)) Q)(r:Rep K cA U H d v):Q v H:=h H v bB.refl r
theorem aY.tup{xs:List D}{vs:List V}{a:Addr}(h:aY K cA U H (some (.dat (.tup xs))) Q)(z:Zt U H)(r:aq K cA U H xs vs)(hp:H a=none):Q (.ref a) (upd H a (.tup vs)):=
 h _ _ (bB.new hp) (.tup (TupAt.new (z.nz hp)) (r.mono (bB.new hp).ext z.lz))
theorem pR.two{ds:List D}{vs:List V}{d d':D}(h:pR K cA U H [d,d'] vs):∃v v',vs=[v,v']/\Rv K cA U H d v/\Rv K cA U H d' v':=by
 cases h with
 |cons a r=>cases r with
  |cons b r=>cases r;exact⟨_,_,rfl,a,b⟩
theorem pR.one(h:pR K cA U H [d] vs):∃v,vs=[v]/\Rv K cA U H d v:=by
 cases h with
 |cons a r=>cases r;exact⟨_,rfl,a⟩
theorem Rv.int{i:Int}{v:V}(h:Rv K cA U H (.int i) v):v=.int i:=by cases (show Rep K cA U H (.int i) v from h);rfl
theorem Rv.bl{i:Bool}{v:V}(h:Rv K cA U H (.bl i) v):v=.bl i:=by cases (show Rep K cA U H (.bl i) v from h);rfl
theorem Rv.str{i:Str}{v:V}(h:Rv K cA U H (.str i) v):v=.str i:=by cases (show Rep K cA U H (.str i) v from h);rfl
theorem Rv.tup{xs:List D}{v:V}(h:Rv K cA U H (.tup xs) v):∃a vs,v=.ref a/\TupAt K U H a vs/\aq K cA U H xs vs:=by
 cases (show Rep K cA U H (.tup xs) v from h) with
 |tup a r=>exact⟨_,_,rfl,a,r⟩
theorem Rv.sq{d:D}{xs:List D}{v:V}(h:Rv K cA U H d v)(e:jJ d=some xs):∃a vs,v=.ref a/\(cH K H a vs\/fG K H a vs)/\aq K cA U H xs vs:=by
 cases d with
 |tup ys=>
  cases e;obtain⟨a,vs,e,t,r⟩:=Rv.tup h;exact⟨a,vs,e,.inr t.iJ,r⟩
 |fl ys=>
  cases e;obtain⟨a,vs,e,l,r⟩:=h;exact⟨a,vs,e,.inl l,r⟩
 |_=>cases e
theorem JF{f:Int->Int->Option D}{ds:List D}{z:Rz}(h:bQ f ds=some z):∃i j d,ds=[.int i,.int j]/\f i j=some d/\z=.dat d:=by
 cases ds with
 |nil=>cases h
 |cons a t=>
 cases a with
 |int i=>
  cases t with
  |nil=>cases h
  |cons b t=>
  cases b with
  |int j=>
   cases t with
   |cons _ _=>cases h
   |nil=>
    obtain⟨d,e1,e2⟩:=oO.mp h;exact⟨_,_,d,rfl,e1,e2.symm⟩
  |_=>cases h
 |_=>cases h
theorem yR{f:Int->Int->Option D}(hp:prim p=bQ f){C:Int->Int->Prop}{g:Int->Int->V}(hf:∀i j d,f i j=some d->C i j/\∀U H,Rep K cA U H d (g i j)):aZ K cA p (r2 (rI C g)):=by
 intro U H ds vs Q zt rs o;rw[hp] at o;obtain⟨z,e⟩:=o.some';obtain⟨i,j,d,rfl,e1,rfl⟩:=JF e;obtain⟨c,r⟩:=hf i j d e1;obtain⟨v,v',rfl,r1,r2⟩:=rs.two (ds:=[]);rw[r1.int,r2.int];exact⟨_,_,rfl,i,j,rfl,rfl,c,(o.of e).here (r U H)⟩
theorem yS{f:Int->Int->D}(hp:prim p=bQ λi j=>some (f i j)){g:Int->Int->V}(hf:∀i j U H,Rep K cA U H (f i j) (g i j)):aZ K cA p (r2 (lq g)):=by
 intro U H ds vs Q zt rs o;obtain⟨x,y,e,i,j,a,b,_,q⟩:=yR (K:=K) (cA:=cA) (C:=λ_ _=>True) hp (λi j d e=>⟨trivial,λU H=>by cases e;exact hf i j U H⟩) U H ds vs Q zt rs o;exact⟨x,y,e,i,j,a,b,q⟩
theorem yU{α:Type}{c:Prop}[Decidable c]{x y:α}(h:(if c then some x else none)=some y):c/\y=x:=by
 split at h
 ·rename_i z;cases h;exact⟨z,rfl⟩
 ·cases h
theorem Te:aZ K cA .ao (r2 (lq λi j=>.int (i-j))):=yS (f:=λi j=>.int (i-j)) rfl λi j _ _=>.int _
theorem Tf:aZ K cA .mul (r2 (rI pB λi j=>.int (i*j))):=yR rfl λi j d e=>by obtain⟨c,rfl⟩:=yU e;exact⟨c,λ_ _=>.int _⟩
theorem Ti:aZ K cA .fdiv (r2 (rI pA λi j=>.int (i/j))):=yR rfl λi j d e=>by obtain⟨c,rfl⟩:=yU e;exact⟨c,λ_ _=>.int _⟩
theorem Tj:aZ K cA .mod (r2 (rI (λ_ j=>0<j) λi j=>.int (i%j))):=yR rfl λi j d e=>by obtain⟨c,rfl⟩:=yU e;exact⟨c,λ_ _=>.int _⟩
theorem Tn:aZ K cA .pow (r2 (rI wY λi j=>.int (i^j.toNat))):=yR rfl λi j d e=>by obtain⟨c,rfl⟩:=yU e;exact⟨c,λ_ _=>.int _⟩
theorem Tq:aZ K cA .gt (r2 (lq λi j=>.bl (decide (j<i)))):=yS (f:=λi j=>.bl (decide (j<i))) rfl λi j _ _=>.bl _
theorem Tr:aZ K cA .ge (r2 (lq λi j=>.bl (decide (j<=i)))):=yS (f:=λi j=>.bl (decide (j<=i))) rfl λi j _ _=>.bl _
theorem Tt:aZ K cA .eq (r2 (pX K cA id)):=by
 intro U H ds vs Q zt rs o;obtain⟨z,e⟩:=o.some';have e:vB id ds=some z:=e;unfold vB at e;split at e
 ·obtain⟨b,e1,e2⟩:=oO.mp e;obtain⟨v,v',rfl,r1,r2⟩:=rs.two (ds:=[]);subst e2;exact⟨_,_,rfl,U,_,_,b,r1,r2,e1,(o.of e).here (.bl _)⟩
 ·cases e
theorem Tv:aZ K cA .ne (r2 (pX K cA not)):=by
 intro U H ds vs Q zt rs o;obtain⟨z,e⟩:=o.some';have e:vB not ds=some z:=e;unfold vB at e;split at e
 ·obtain⟨b,e1,e2⟩:=oO.mp e;obtain⟨v,v',rfl,r1,r2⟩:=rs.two (ds:=[]);subst e2;exact⟨_,_,rfl,U,_,_,b,r1,r2,e1,(o.of e).here (.bl _)⟩
 ·cases e
theorem Ga:∀{xs:List D} {ns:List Int} {vs:List V},cN xs=some ns->aq K cA U H xs vs->vs=ns.map V.int
 |[],ns,vs,h,r=>by cases h;cases r;rfl
 |d::xs,ns,vs,h,r=>by
  cases d with
  |int i=>
   simp only[cN,oO] at h;obtain⟨ns',h1,rfl⟩:=h;cases r with
   |cons a r=>cases a;rw[Ga h1 r];rfl
  |_=>simp[cN] at h
theorem JM:∀(a b:List Int),ltI a b=HT.lexLt a b
 |_,[]=>by cases ‹List Int›<;>rfl
 |[],_::_=>rfl
 |x::xs,y::ys=>by
  unfold ltI;rw[JM xs ys,HT.fU]
theorem Tw:aZ K cA .lt (r2 λx y H Q=>lq (λi j=>.bl (decide (i<j))) x y H Q\/xO K x y H Q):=by
 intro U H ds vs Q zt rs o;obtain⟨z,e⟩:=o.some';have e:yw ds=some z:=e;unfold yw at e;split at e
 ·cases e;obtain⟨v,v',rfl,r1,r2⟩:=rs.two (ds:=[]);exact⟨_,_,rfl,.inl ⟨_,_,r1.int,r2.int,aY.here (o.of rfl) (.bl _)⟩⟩
 ·split at e
  ·rename_i a b h1 h2;cases e;obtain⟨v,v',rfl,r1,r2⟩:=rs.two (ds:=[]);obtain⟨p,us,rfl,t1,q1⟩:=r1.tup;obtain⟨p',us',rfl,t2,q2⟩:=r2.tup;have o2:aY K cA U H (some (.dat (.bl (ltI a b)))) Q:=by
    have o3:aY K cA U H (yw [.tup _,.tup _]) Q:=o;unfold yw at o3;simp only[h1,h2] at o3;exact o3
   refine⟨_,_,rfl,.inr ⟨p,p',a,b,rfl,rfl,by rw[<-Ga h1 q1];exact t1.iJ,by rw[<-Ga h2 q2];exact t2.iJ,?_⟩⟩;rw[<-JM];exact o2.here (.bl _)
  ·cases e
 ·cases e
theorem Tz:aZ K cA .add (r2 (j8 K)):=by
 intro U H ds vs Q zt rs o;have o:aY K cA U H (tU ds) Q:=o;cases ds with
 |nil=>exact False.elim o
 |cons a t=>
 cases a with
 |int i=>
  cases t with
  |nil=>exact False.elim o
  |cons b t=>
  cases b with
  |int j=>
   cases t with
   |cons _ _=>exact False.elim o
   |nil=>
    obtain⟨v,v',rfl,r1,r2⟩:=rs.two (ds:=[]);exact⟨_,_,rfl,.inl ⟨_,_,r1.int,r2.int,aY.here o (.int _)⟩⟩
  |_=>exact False.elim o
 |tup xs=>
  cases t with
  |nil=>exact False.elim o
  |cons b t=>
  cases b with
  |tup ys=>
   cases t with
   |cons _ _=>exact False.elim o
   |nil=>
    obtain⟨v,v',rfl,r1,r2⟩:=rs.two (ds:=[]);obtain⟨p,us,rfl,t1,q1⟩:=r1.tup;obtain⟨p',us',rfl,t2,q2⟩:=r2.tup;have o:aY K cA U H (if xs.length+ys.length<=sizeLine then some (.dat (.tup (xs++ys))) else none) Q:=o;by_cases hz:xs.length+ys.length<=sizeLine
    ·rw[if_pos hz] at o;refine⟨_,_,rfl,.inr (.inr (.inl ⟨p,p',us,us',rfl,rfl,t1.iJ,t2.iJ,by rw[<-q1.len,<-q2.len];exact hz,λe=>?_,λe=>?_,λa ha=>o.tup zt (q1.app q2) ha⟩))⟩
     ·subst e;cases q1;exact o.here (.tup t2 q2)
     ·subst e;cases q2;rw[z_] at o;exact o.here (.tup t1 q1)
    ·rw[if_neg hz] at o;exact o.elim
  |_=>exact False.elim o
 |fl xs=>
  cases t with
  |nil=>exact False.elim o
  |cons b t=>
  cases b with
  |fl ys=>
   cases t with
   |cons _ _=>exact False.elim o
   |nil=>
    obtain⟨v,v',rfl,⟨p,us,rfl,t1,q1⟩,⟨p',us',rfl,t2,q2⟩⟩:=rs.two (ds:=[]);have o:aY K cA U H (if xs.length+ys.length<=sizeLine then some (.nw (xs++ys)) else none) Q:=o;by_cases hz:xs.length+ys.length<=sizeLine
    ·rw[if_pos hz] at o;exact⟨_,_,rfl,.inr (.inl ⟨p,p',us,us',rfl,rfl,t1,t2,by rw[<-q1.len,<-q2.len];exact hz,λa ha=>o a _ ha (q1.app q2)⟩)⟩
    ·rw[if_neg hz] at o;exact o.elim
  |_=>exact False.elim o
 |str x=>
  cases t with
  |nil=>exact False.elim o
  |cons b t=>
  cases b with
  |str y=>
   cases t with
   |cons _ _=>exact False.elim o
   |nil=>
    obtain⟨v,v',rfl,r1,r2⟩:=rs.two (ds:=[]);have o:aY K cA U H (if x.length+y.length<=sizeLine then some (.dat (.str (x++y))) else none) Q:=o;by_cases hz:x.length+y.length<=sizeLine
    ·rw[if_pos hz] at o;exact⟨_,_,rfl,.inr (.inr (.inr ⟨_,_,r1.str,r2.str,hz,o.here (.str _)⟩))⟩
    ·rw[if_neg hz] at o;exact o.elim
  |_=>exact False.elim o
 |_=>exact False.elim o
theorem TF:aZ K cA .len (λxs H Q=>∃p ys,xs=[.ref p]/\(cH K H p ys\/fG K H p ys)/\Q (.int ys.length) H):=by
 intro U H ds vs Q zt rs o;have o:aY K cA U H (pO (λxs=>some (.dat (.int xs.length))) ds) Q:=o;unfold pO at o;split at o
 ·obtain⟨v,rfl,r1⟩:=rs.one;obtain⟨z,e⟩:=o.some';obtain⟨xs,e1,e2⟩:=uY.mp e;obtain⟨a,us,rfl,sq,q⟩:=r1.sq e1;cases e2;refine⟨a,us,rfl,sq,?_⟩;rw[<-q.len];exact(o.of e).here (.int _)
 ·exact o.elim
theorem TJ:aZ K cA .pN (λxs H Q=>(∃i,xs=[.int i]/\Q (.int i) H)\/∃k,xs=[.bl k]/\Q (.int (if k then 1 else 0)) H):=by
 intro U H ds vs Q zt rs o;have o:aY K cA U H (yD ds) Q:=o;cases ds with
 |nil=>exact False.elim o
 |cons a t=>
 cases a with
 |int i=>
  cases t with
  |cons _ _=>exact False.elim o
  |nil=>
   obtain⟨v,rfl,r1⟩:=rs.one;rw[r1.int];exact .inl ⟨_,rfl,aY.here o (.int _)⟩
 |bl k=>
  cases t with
  |cons _ _=>exact False.elim o
  |nil=>
   obtain⟨v,rfl,r1⟩:=rs.one;rw[r1.bl];exact .inr ⟨_,rfl,aY.here o (.int _)⟩
 |_=>exact False.elim o
theorem TQ:aZ K cA .max2 (λxs H Q=>∃i j,xs=[.int i,.int j]/\Q (.int (if j>i then j else i)) H):=by
 intro U H ds vs Q zt rs o;obtain⟨x,y,e,i,j,rfl,rfl,q⟩:=yS (K:=K) (cA:=cA) (p:=.max2) (f:=λi j=>.int (if j>i then j else i)) rfl (λi j _ _=>.int _) U H ds vs Q zt rs o;exact⟨i,j,e,q⟩
theorem TV:aZ K cA .min2 (λxs H Q=>∃i j,xs=[.int i,.int j]/\Q (.int (if j<i then j else i)) H):=by
 intro U H ds vs Q zt rs o;obtain⟨x,y,e,i,j,rfl,rfl,q⟩:=yS (K:=K) (cA:=cA) (p:=.min2) (f:=λi j=>.int (if j<i then j else i)) rfl (λi j _ _=>.int _) U H ds vs Q zt rs o;exact⟨i,j,e,q⟩
theorem TX:aZ K cA .divmod (λxs H Q=>∃i j,xs=[.int i,.int j]/\pA i j/\∀p,H p=none->Q (.ref p) (upd H p (.tup [.int (i/j),.int (i%j)]))):=by
 intro U H ds vs Q zt rs o;have o:aY K cA U H (bQ (λi j=>if 0<j/\j<1073741824 then some (.tup [.int (i/j),.int (i%j)]) else none) ds) Q:=o;obtain⟨z,e⟩:=o.some';obtain⟨i,j,d,rfl,e1,rfl⟩:=JF e;obtain⟨c,rfl⟩:=yU e1;obtain⟨v,v',rfl,r1,r2⟩:=rs.two (ds:=[]);rw[r1.int,r2.int];exact⟨i,j,rfl,c,λp hp=>(o.of e).tup zt (.cons (.int _) (.cons (.int _) .nil)) hp⟩
theorem JV:∀{xs:List D} {bs:List Bool} {vs:List V},fV xs=some bs->aq K cA U H xs vs->vs=bs.map V.bl
 |[],bs,vs,h,r=>by cases h;cases r;rfl
 |d::xs,bs,vs,h,r=>by
  cases d with
  |bl b=>
   simp only[fV,oO] at h;obtain⟨bs',h1,rfl⟩:=h;cases r with
   |cons q r=>cases q;rw[JV h1 r];rfl
  |_=>simp[fV] at h
theorem TY:aZ K cA .ix (r2 (Dv K)):=by
 intro U H ds vs Q zt rs o;have o:aY K cA U H (Fd ds) Q:=o;unfold Fd at o;split at o
 ·rename_i d i _;obtain⟨v,v',rfl,r1,r2⟩:=rs.two (ds:=[]);obtain⟨z,e⟩:=o.some';obtain⟨y,e1,e2⟩:=oO.mp e;obtain⟨xs,e3,e4⟩:=uY.mp e1;obtain⟨a,us,rfl,sq,q⟩:=r1.sq e3;have key:∃w,L2.mR us i=some w/\Rep K cA U H y w:=by
   unfold L2.mR at *;rw[<-q.len];obtain⟨j,h1,h2⟩:=uY.mp e4;obtain⟨w,h3,h4⟩:=q.get h2;exact⟨w,by rw[h1];exact h3,h4⟩
  obtain⟨w,hw,lg⟩:=key;subst e2;have q':=(o.of e).here lg;rcases sq with sq|sq
  ·exact⟨_,_,rfl,.inl ⟨a,us,i,w,rfl,r2.int,sq,hw,q'⟩⟩
  ·exact⟨_,_,rfl,.inr (.inl ⟨a,us,i,w,rfl,r2.int,sq,hw,q'⟩)⟩
 ·exact o.elim
noncomputable def JZ(K:W.Frag):V->Option Int->Option Int->Hp->VK->Prop:=λx lo hi H Q=>xU K x lo hi H Q\/qW K x lo hi H Q
theorem T3:pF X (JZ X.K):=pJ.or S_
theorem T4{d:D}{lo hi:Option Int}{v:V}(zt:Zt U H)(r:Rv K cA U H d v)(o:aY K cA U H (cutD d lo hi) Q):JZ K v lo hi H Q:=by
 cases d with
 |tup xs=>
  obtain⟨a,us,rfl,t,q⟩:=r.tup;refine .inr ⟨a,us,rfl,t.iJ,λe=>?_,λp hp=>aY.tup o zt q.cut hp⟩;have hc:cut xs lo hi=xs:=by
   unfold cut;rw[q.len,e.1,e.2,List.drop_zero,Nat.sub_zero,<-q.len,List.take_length]
  have o:aY K cA U H (some (.dat (.tup (cut xs lo hi)))) Q:=o;rw[hc] at o;exact o.here (.tup t q)
 |fl xs=>
  obtain⟨a,us,rfl,t,q⟩:=r;exact .inl ⟨a,us,rfl,t,λp hp=>o p _ hp q.cut⟩
 |_=>exact o.elim
end
end Mi
namespace L2
open PySem PySem.Spec PyProof.Rows
section
variable {κ:Type}[DecidableEq κ]
end
section
variable {P:Program}{w:World}{H:Hp}{h:Heap}{a:Addr}
end
section
variable {X:Cx}{ak:List (Addr×Obj)}{Z:St}{H:Hp}{s:Shared}{a:Addr}{y v:V}{u r:Value}{o:Option V}{A:Around}{E:Value->Shared->Prop}
end
section
variable {X:Cx}{ak:List (Addr×Obj)}{Z:St}{H:Hp}{s:Shared}{a:Addr}{kvs:List (Key×V)}{k:Key}{u:Value}{A:Around}{E:Value->Shared->Prop}
end
section
variable {X:Cx}{o i e value:Expr}{pos pos' tpos:Pos}{td ty tv:TE}
end
section
variable {X:Cx}{pos:Pos}
end
section
variable {X:Cx}{ak:List (Addr×Obj)}{Z:St}{H:Hp}{s:Shared}{a:Addr}{y d:V}{u r:Value}{o:Option V}{A:Around}{E:Value->Shared->Prop}
end
section
variable {X:Cx}{o e f:Expr}{apos cpos:Pos}{td ty tx:TE}
end
section
variable {X:Cx}{ak:List (Addr×Obj)}{Z:St}{H:Hp}{s:Shared}{a:Addr}{kvs:List (Key×V)}{A:Around}{E:Value->Shared->Prop}
end
section
variable {X:Cx}{ak:List (Addr×Obj)}{Z:St}{H:Hp}{s:Shared}{a:Addr}{y:V}{u:Value}{A:Around}{E:Value->Shared->Prop}
end
end L2
namespace Mi
open PySem PySem.Spec PyProof.Rows L2
section
variable {X:Cx}{cA:Cl}{ao:Nat->Nat->Bool}{aj:Bool}{F:Fn}{EX:XS}{a b c d e o:Expr}{A B C Dd E' O:E}{pos pp p2 apos cpos:Pos}{es:List Expr}{Xs:Es}{fz:Bool}{p:Pr}{x:Str}{U:Ph}{H:Hp}{s:S}{lo hi:Option Expr}{Lo Hi:Eo}
def Bg(X:Cx)(cA:Cl)(ao:Nat->Nat->Bool)(aj:Bool)(F:Fn)(EX:XS)(oe:Option Expr)(m:Eo):Prop:=
 PO X oe (λZ H Q=>∃U J s,aG X.K cA U H Z J/\au X.K cA U H s/\Run X.K cA (pQ ao aj F m J) U H s (λi _ U' H'=>Q i H') (eX X.K cA EX Z))
theorem PO.weak{oe:Option Expr}{t t':TO}(h:PO X oe t)(f:∀Z H Q,t' Z H Q->t Z H Q):PO X oe t':=by
 intro ak s Z H Q I q;exact h ak s Z H Q I (f Z H Q q)
theorem T5(ha:SE X cA ao aj F EX a A):Bg X cA ao aj F EX (some a) (.yes A):=PO.weak (Pb ha) λZ H Q hh=>un hh λU J s hL hS h=>by
 refine bD hL hS h λx H1 U1 d1 s1 x1 hL1 aD r1 h1=>?_;obtain⟨i,_,e,h3⟩:=yO r1 h1;exact⟨i,e,h3.bC aD⟩
theorem yV{β:Type}{Z:L2.St}{J:Vs}{m:Eo}{k:Option Int->M β}{P:β->S->Ph->Hp->Prop}(hL:aG X.K cA U H Z J)(hS:au X.K cA U H s)(h:Run X.K cA (M.bd (pQ ao aj F m J) k) U H s P (eX X.K cA EX Z)){Q:Option Int->Hp->Prop}
  (f:∀i H1 U1 s1,Ext U H U1 H1->aG X.K cA U1 H1 Z J->au X.K cA U1 H1 s1->Run X.K cA (k i) U1 H1 s1 P (eX X.K cA EX Z)->Q i H1) :
  ∃U J s,aG X.K cA U H Z J/\au X.K cA U H s/\Run X.K cA (pQ ao aj F m J) U H s (λi _ U' H'=>Q i H') (eX X.K cA EX Z):=
 ⟨U,J,s,hL,hS,h.bd.imp λi s1 U1 H1 ⟨x1,r1,h1⟩=>f i H1 U1 s1 x1 (hL.mono x1 hS.lz) r1 h1⟩
theorem T6(ha:SE X cA ao aj F EX a A)(hl:Bg X cA ao aj F EX lo Lo)(hh:Bg X cA ao aj F EX hi Hi):SE X cA ao aj F EX (.Subscript a (.Slice lo hi none p2) pos) (.sl fz A Lo Hi):=PE.weak (Pj T3 ha hl hh) λZ H Q hh=>un hh λU J s hL hS h=>by
 refine bD hL hS h λx H1 U1 d1 s1 x1 hL1 aD r1 h1=>yV hL1 aD h1 λl H2 U2 s2 x2 hL2 aL h2=>yV hL2 aL h2 λu H3 U3 s3 x3 lG fL h3=>?_;obtain⟨dd,rv,h4⟩:=FJ fL ((r1.mono x2 aD.lz).mono x3 aL.lz) h3;exact T4 fL.zs rv (vD fL h4)
theorem J0:∀bs:List Bool,(List.range bs.length).all (λi=>(bs[i]?).getD false)=bs.all id
 |[]=>rfl
 |b::r=>by
  rw[iU,List.range_succ_eq_map,rJ,List.all_map,rJ];have:=J0 r;simp only[Function.comp_def,List.getElem?_cons_succ,List.getElem?_cons_zero,Option.getD_some,id];rw[this]
theorem T7(hc:X.aj=true):cj X (.builtin "all") (λxs H Q=>∃(p:Addr) (bs:List Bool),xs=[.ref p]/\cH X.K H p (bs.map V.bl)/\Q (.bl (bs.all id)) H):=by
 intro ak s Z H xs us Q I r ⟨p,bs,e,hp,q⟩;subst e;obtain⟨u,rfl,ru⟩:=Vals.one r;cases (show u=Value.ref p from ru);obtain⟨its,rv,pl,hz⟩:=I.list hp;have hl:s.heap.IsList p its.toArray:=pl.isList;have T8:p≠s.heap.objs.size:=by
  obtain⟨o,hg,_⟩:=hl;exact dH (bI hg)
 refine call_all_walk (wpAny_pyIter_list hl ?_);refine⟨_,_,_,_,_,_,λi=>(bs[i]?).getD false,rfl,Walks.list (A:=X.A.in1) (I.ok.hd hc) _ p T8 its.toArray,⟨⟨_,h_ _ rfl,rfl,rfl⟩,hl.push _⟩,?_,λh' tk hk=>?_⟩
 ·intro i v s' Q' E' hP hQ;have hi:its[i]?=some v:=by simpa using hP
  have hb:∃b,bs[i]?=some b:=by
   have cM:i<its.length:=(gD.mp hi).1;have z:=rv.length;rw[nW] at z;exact⟨_,kI (by lia)⟩
  obtain⟨b,hb⟩:=hb;obtain⟨u,e1,e2⟩:=rv.get (i:=i) (x:=V.bl b) (by rw[oU,hb];rfl);rw[hi] at e1;cases e1;cases (show v=Value.bool b from e2);have hQ:Q' ((bs[i]?).getD false) s':=hQ;rw[hb] at hQ;exact u9 hQ
 ·have ez:(List.range its.toArray.size).all (λi=>(bs[i]?).getD false)=bs.all id:=by
   have z:=rv.length;rw[nW] at z;rw[dF,<-z];exact J0 bs
  rw[ez];refine⟨.bl (bs.all id),H,I.kept (h':=h') (t':=tk) (old_kept hk),rfl,q⟩
theorem T9{K:W.Frag}:aZ K cA .all (λxs H Q=>∃(p:Addr) (bs:List Bool),xs=[.ref p]/\cH K H p (bs.map V.bl)/\Q (.bl (bs.all id)) H):=by
 intro U H ds vs Q zt rs o;have o:aY K cA U H (tV ds) Q:=o;unfold tV at o;split at o
 ·obtain⟨v,rfl,⟨ad,us,rfl,l,q⟩⟩:=rs.one;obtain⟨z,e⟩:=o.some';obtain⟨bs,e1,e2⟩:=oO.mp e;subst e2;exact⟨ad,bs,rfl,by rw[<-JV e1 q];exact l,(o.of e).here (.bl _)⟩
 ·exact o.elim
noncomputable def Bh:Kd->String->Bool
 |.int,"int"=>true
 |.int,"bool"=>true
 |.bool,"bool"=>true
 |.str,"str"=>true
 |.tuple,"tuple"=>true
 |.list,"list"=>true
 |.dict,"dict"=>true
 |_,_=>false
noncomputable def nq:Kd->Option Value
 |.int=>some (.type "int")
 |.bool=>some (.type "bool")
 |.str=>some (.type "str")
 |.tuple=>some (.type "tuple")
 |.list=>some (.type "list")
 |.dict=>some (.type "dict")
 |_=>none
theorem T_{K:W.Frag}{k:Kd}{cu:Value}(h:nq k=some cu){T:String}(hT:T∈["NoneType","bool","int","str","tuple","list","dict"]):PySem.W.kitOne K (.type T) cu=some (Bh k T):=by
 simp only[jq,List.mem_nil_iff,or_false] at hT;cases k<;>simp only[nq] at h<;>cases h<;>rcases hT with rfl|rfl|rfl|rfl|rfl|rfl|rfl<;>rfl
structure yW(K:W.Frag)(cA:Cl)(ao:Nat->Nat->Bool):Prop where
 xc:∀c,XC K (cA.a c)
 ao:∀c e,PySem.W.kitOne K (.ref (cA.a c)) (.ref (cA.a e))=some (ao c e)
 lu:∀c,PySem.W.kitOne K (.ref (cA.a c)) (.type "ValueError")=some true
noncomputable def vH(cA:Cl):Kd->V
 |.cls e=>.ref (cA.a e)
 |.lu=>.ty "ValueError"
 |.int=>.ty "int"
 |.bool=>.ty "bool"
 |.str=>.ty "str"
 |.tuple=>.ty "tuple"
 |.list=>.ty "list"
 |.dict=>.ty "dict"
theorem Ua(Cs:nq k=none->yW X.K cA ao) :
  cj X (.builtin "isinstance") (λxs H Q=>∃U d v bb,xs=[v,vH cA k]/\Rv X.K cA U H d v/\gY ao d k=some bb/\Q (.bl bb) H):=by
 intro ak sh Z H xs us Q I r ⟨U,d,v,bb,e,rd,hi,q⟩;subst e;obtain⟨u,w,rfl,ru,Gb⟩:=Vals.two r;have nu:∀tk,EP X ak Z Q (.bool bb) {sh with toks:=tk}:=λtk=>⟨.bl bb,H,I.tok tk,rfl,q⟩;have bt:∀{T:String} {Hh:Heap->Prop},PySem.W.KitX X.K u (.type T) Hh->Hh sh.heap->T∈["NoneType","bool","int","str","tuple","list","dict"]->u≠Value.builtin "__main__.__loader__#opaque"->(∃cu,nq k=some cu/\w=cu/\Bh k T=bb)->wpAny (model X.prog X.w) X.A (PySem.call (.builtin "isinstance") [u,w]) (EP X ak Z Q) X.xe sh:=λ{T Hh} Gd hh hT hx ⟨cu,h1,h2,h3⟩=>by
  subst h2 h3;exact PySem.W.kia_one Gd I.lQ hh (T_ h1 hT) hx nu
 have wv:∀cu,nq k=some cu->w=cu:=λcu h=>by
  cases k<;>simp only[nq] at h<;>cases h<;>exact Gb
 have fin:∀T,gY ao d k=(match nq k with|some _=>some (Bh k T)|none=>none)->∃cu,nq k=some cu/\w=cu/\Bh k T=bb:=λT h=>by
  rw[hi] at h;cases z:nq k with
  |none=>rw[z] at h;cases h
  |some cu=>rw[z] at h;cases h;exact⟨cu,rfl,wv cu z,rfl⟩
 cases d with
 |non=>
  cases (show Rep X.K cA U H .non v from rd);cases (show u=Value.none from ru);exact bt PySem.W.kitx_none trivial (by simp) (λz=>nomatch z) (fin "NoneType" (by cases k<;>rfl))
 |bl b=>
  cases rd.bl;cases (show u=Value.bool b from ru);exact bt PySem.W.kitx_bool trivial (by simp) (λz=>nomatch z) (fin "bool" (by cases k<;>rfl))
 |int i=>
  cases rd.int;obtain⟨t,z⟩:=(show ∃t,u=Value.int i t from ru);cases z;exact bt PySem.W.kitx_int trivial (by simp) (λz=>nomatch z) (fin "int" (by cases k<;>rfl))
 |str y=>
  cases rd.str;obtain⟨t,z⟩:=(show ∃t,u=Value.str y t from ru);cases z;exact bt PySem.W.kitx_str trivial (by simp) (λz=>nomatch z) (fin "str" (by cases k<;>rfl))
 |tup xs=>
  obtain⟨ad,vs,rfl,h1,h2⟩:=rd.tup;cases (show u=Value.ref ad from ru);obtain⟨its,_,ht,_⟩:=I.tuple h1.iJ;obtain⟨o,q1,q2,_⟩:=ht;exact bt PySem.W.kitx_tuple ⟨o,q1,q2⟩ (by simp) (λz=>nomatch z) (fin "tuple" (by cases k<;>rfl))
 |fl xs=>
  obtain⟨ad,vs,rfl,h1,h2⟩:=rd;cases (show u=Value.ref ad from ru);obtain⟨its,_,ht,_⟩:=I.list h1;obtain⟨o,q1,q2,_⟩:=ht.isList;exact bt PySem.W.kitx_list ⟨o,q1,q2⟩ (by simp) (λz=>nomatch z) (fin "list" (by cases k<;>rfl))
 |fd ks vs=>
  cases (show Rep X.K cA U H (.fd ks vs) v from rd) with
  |@fd ad kk ii q1 n=>
   cases (show u=Value.ref ad from ru);obtain⟨_,_,vs,_,o,es',ep,g1,g2,_⟩:=(show bw X.prog X.w H sh.heap ad (.dK [(.inr kk,.int ii)]) from I.hok ad _ q1);exact bt PySem.W.kitx_dict ⟨o,g1,g2.1⟩ (by simp) (λz=>nomatch z) (fin "dict" (by cases k<;>rfl))
 |ob c fs=>cases k<;>cases hi
 |any=>cases k<;>cases hi
 |exc c fs=>
  cases (show Rep X.K cA U H (.exc c fs) v from rd) with
  |@exc ad _ _ vs hx rs=>
   cases (show u=Value.ref ad from ru);have hI:∃ox od,PySem.W.InstAt sh.heap ad ox (cA.a c) od:=by
    obtain⟨_,⟨_,_,hx⟩|⟨dx,hx,_,hd,_⟩⟩:=hx
    ·obtain⟨⟨oe,vs,g1,g2,g3,g4⟩,_⟩:=(show bw X.prog X.w H sh.heap ad (pL ad (cA.a c) none) from I.hok ad _ hx);exact⟨oe,none,g1,g2,by unfold PySem.W.notCls;rw[g4],by rw[g3];trivial⟩
    ·obtain⟨⟨oe,vs,g1,g2,g3,g4⟩,_⟩:=(show bw X.prog X.w H sh.heap ad (pL ad (cA.a c) (some dx)) from I.hok ad _ hx);obtain⟨mA,⟨od,es,ep,e1,c1⟩,_⟩:=(show bw X.prog X.w H sh.heap dx (.xd _) from I.hok dx _ hd);exact⟨oe,some od,g1,g2,by unfold PySem.W.notCls;rw[g4],by rw[g3];exact e1⟩
   cases k with
   |cls e=>
    cases (show w=Value.ref (cA.a e) from Gb);have z:some (ao c e)=some bb:=hi;cases z;exact PySem.W.kia_one (IV ((Cs rfl).xc c)) I.lQ hI ((Cs rfl).ao c e) (λz=>nomatch z) nu
   |lu=>
    cases (show w=Value.type "ValueError" from Gb);have z:some true=some bb:=hi;cases z;exact PySem.W.kia_one (IV ((Cs rfl).xc c)) I.lQ hI ((Cs rfl).lu c) (λz=>nomatch z) nu
   |_=>cases hi
theorem Ub(Cs:nq k=none->yW X.K cA ao)(hg:Gl X "isinstance")(hm:X.mg "isinstance"=none)(ha:SE X cA ao aj F EX a A)(hk:PE X kx (tC (vH cA k)))(h1:starEach [a,kx] X.env=(false,eval a X.env)::starEach [kx] X.env:=by rfl)(h2:starEach [kx] X.env=(false,eval kx X.env)::starEach [] X.env:=by rfl)
  (cL:(backTo pos (starEach [kx] X.env)).any (·.1)=false:=by rfl):SE X cA ao aj F EX (.Call (.Name "isinstance" pp) [a,kx] [] pos) (.j6 A k):=PE.weak (Ij (Ua (cA:=cA) (k:=k) Cs) hg hm PyProof.Rows.boot_isinstance (ou ha (ou hk sS h2) h1) (by decide) (by decide) h1 cL) λZ H Q hh=>un hh λU J s hL hS h=>
 bD hL hS h λv H1 U1 d s1 x1 hL1 aD r1 h1=>by
  show ∃U d' v' bb,[v,vH cA k]=[v',vH cA k]/\_;obtain⟨dd,rv,h2⟩:=FJ aD r1 h1;obtain⟨bb,e,h3⟩:=Run.lF h2;exact⟨U1,dd,v,bb,rfl,rv,e,h3.bC aD _ (.d (.bl bb))⟩
end
section
variable {prog:Program}{w:World}{A:Around}{E:Value->Shared->Prop}{s:Shared}{h h':Heap}
end
section
variable {K:W.Frag}{cA:Cl}{U U':Ph}{H H':Hp}{s:S}
theorem TupAt.gJ(e:∀a,U'.z a->U.z a){a:Addr}{vs:List V}(h:TupAt K U H a vs):TupAt K U' H a vs:=h.imp (λ⟨p,n⟩=>⟨p,λz=>n (e a z)⟩) id
theorem LstAt.gJ(e:∀a,U'.z a->U.z a){a:Addr}{vs:List V}(h:LstAt K U H a vs):LstAt K U' H a vs:=h.imp (λ⟨p,n⟩=>⟨p,λz=>n (e a z)⟩) id
theorem ExcAt.gJ(e:∀a,U'.z a->U.z a){a:Addr}{c:Nat}{vs:List V}(h:ExcAt cA U H a c vs):ExcAt cA U' H a c vs:=
 ⟨λz=>h.1 (e a z),h.2.imp id λ⟨dx,p,n,q,l⟩=>⟨dx,p,λz=>n (e dx z),q,l⟩⟩
theorem jL.gJ(e:∀a,U'.z a->U.z a){a:Addr}{c:Nat}{vs:List V}(h:jL cA U H a c vs):jL cA U' H a c vs:=⟨λz=>h.1 (e a z),h.2⟩
theorem Rep.gJ(e:∀a,U'.z a->U.z a){d:D}{v:V}(h:Rep K cA U H d v):Rep K cA U' H d v:=
 Rep.rec (motive_1:=λd v _=>Rep K cA U' H d v) (motive_2:=λd v _=>aq K cA U' H d v) .non .bl .int .str (λh _ i=>.tup (h.gJ e) i) (λh _ i=>.fl (h.gJ e) i) (λh n=>.fd h (λz=>n (e _ z))) (λh _ i=>.exc (h.gJ e) i) (λh _ i=>.ob (h.gJ e) i) .any .nil (λ_ _ i j=>.cons i j) h
theorem aq.gJ(e:∀a,U'.z a->U.z a){d:List D}{v:List V}(h:aq K cA U H d v):aq K cA U' H d v:=
 aq.rec (motive_1:=λd v _=>Rep K cA U' H d v) (motive_2:=λd v _=>aq K cA U' H d v) .non .bl .int .str (λh _ i=>.tup (h.gJ e) i) (λh _ i=>.fl (h.gJ e) i) (λh n=>.fd h (λz=>n (e _ z))) (λh _ i=>.exc (h.gJ e) i) (λh _ i=>.ob (h.gJ e) i) .any .nil (λ_ _ i j=>.cons i j) h
theorem gH.gJ(e:∀a,U'.z a->U.z a){a:Addr}{o:SO}(h:gH K cA U H a o):gH K cA U' H a o:=h.map (λ_ _ q=>q) λ_ _ r=>r.gJ e
theorem Rep.zl{d:D}{v:V}(h:Rep K cA U H d v)(l:List Addr):Rep K cA ⟨U.z,l⟩ H d v:=Rep.gJ (U:=U) (U':=⟨U.z,l⟩) (λ_ z=>z) h
theorem aq.zl{d:List D}{v:List V}(h:aq K cA U H d v)(l:List Addr):aq K cA ⟨U.z,l⟩ H d v:=aq.gJ (U:=U) (U':=⟨U.z,l⟩) (λ_ z=>z) h
theorem gH.zl{a:Addr}{o:SO}(h:gH K cA U H a o)(l:List Addr):gH K cA ⟨U.z,l⟩ H a o:=gH.gJ (U:=U) (U':=⟨U.z,l⟩) (λ_ z=>z) h
noncomputable def adr(l:List Addr):List Nat->List Addr
 |[]=>[]
 |n::r=>match l[n]? with
  |some a=>a::adr l r
  |none=>adr l r
theorem vI{l:List Addr}:∀{ns:List Nat} {a:Addr},a∈adr l ns->∃n∈ns,l[n]?=some a
 |[],a,h=>by cases h
 |n::r,a,h=>by
  unfold adr at h;cases e:l[n]? with
  |none=>
   simp only[e] at h;obtain⟨m,h1,h2⟩:=vI h;exact⟨m,gP _ h1,h2⟩
  |some b=>
   simp only[e] at h;rcases jq.mp h with rfl|h
   ·exact⟨n,jx,e⟩
   ·obtain⟨m,h1,h2⟩:=vI h;exact⟨m,gP _ h1,h2⟩
theorem J1{s:S}:∀{ns:List Nat} {s0:S} {i n:Nat},fB s ns=some s0->ns[i]?=some n->s0[i]?=s[n]?/\∃o,s[n]?=some o
 |[],s0,i,n,h,e=>by simp at e
 |m::r,s0,i,n,h,e=>by
  unfold fB at h;cases e1:s[m]? with
  |none=>simp only[e1] at h;cases h
  |some o=>
   cases e2:fB s r with
   |none=>simp only[e1,e2] at h;cases h
   |some q=>
    simp only[e1,e2] at h;cases h;cases i with
    |zero=>simp at e;subst e;exact⟨by simp[e1],o,e1⟩
    |succ i=>simpa using J1 e2 (by simpa using e)
theorem J2{s:S}:∀{ns:List Nat} {s0:S},fB s ns=some s0->s0.length=ns.length
 |[],s0,h=>by cases h;rfl
 |m::r,s0,h=>by
  unfold fB at h;cases e1:s[m]? with
  |none=>simp only[e1] at h;cases h
  |some o=>
   cases e2:fB s r with
   |none=>simp only[e1,e2] at h;cases h
   |some q=>
    simp only[e1,e2] at h;cases h;rw[iU,iU,J2 e2]
theorem yX{l:List Addr}:∀{ns:List Nat} {i n:Nat},(∀n∈ns,∃a,l[n]?=some a)->ns[i]?=some n->(adr l ns)[i]?=l[n]?
 |[],i,n,_,e=>by simp at e
 |m::r,i,n,h,e=>by
  obtain⟨a,ha⟩:=h m jx;unfold adr;simp only[ha];cases i with
  |zero=>simp at e;subst e;simp[ha]
  |succ i=>simpa using yX (λn hn=>h n (gP _ hn)) (by simpa using e)
theorem yZ{l:List Addr}:∀{ns:List Nat},(∀n∈ns,∃a,l[n]?=some a)->(adr l ns).length=ns.length
 |[],_=>rfl
 |m::r,h=>by
  obtain⟨a,ha⟩:=h m jx;unfold adr;simp only[ha];rw[iU,iU,yZ (λn hn=>h n (gP _ hn))]
theorem J3{l:List Addr}(hl:l.Nodup):∀{ns:List Nat},ns.Nodup->(∀n∈ns,∃a,l[n]?=some a)->(adr l ns).Nodup
 |[],_,_=>wj
 |m::r,hn,h=>by
  obtain⟨a,ha⟩:=h m jx;unfold adr;simp only[ha];obtain⟨h1,h2⟩:=rG.mp hn;refine rG.mpr ⟨λz=>?_,J3 hl h2 (λn hn=>h n (gP _ hn))⟩;obtain⟨n,q1,q2⟩:=vI z;have:m=n:=(Cq (gD.mp ha).1 hl).mp (ha.trans q2.symm);exact h1 (this▸q1)
theorem vJ{s:S}:∀{ns:List Nat} {s1:S},(bR s ns s1).length=s.length
 |[],s1=>by cases s1<;>rfl
 |n::r,[]=>rfl
 |n::r,o::q=>by
  show (bR (s.set n o) r q).length=_;rw[vJ,nY]
theorem Ge{s:S}:∀{ns:List Nat} {s1:S} {m:Nat},m∉ns->(bR s ns s1)[m]?=s[m]?
 |[],s1,m,_=>by cases s1<;>rfl
 |n::r,[],m,_=>rfl
 |n::r,o::q,m,h=>by
  show (bR (s.set n o) r q)[m]?=_;rw[Ge (λz=>h (gP _ z)),lZ (λz=>h (by rw[z];exact jx))]
theorem J5{s:S}:∀{ns:List Nat} {s1:S} {i m:Nat} {o:SO},ns.Nodup->ns[i]?=some m->s1[i]?=some o->m<s.length->(bR s ns s1)[m]?=some o
 |[],s1,i,m,o,_,e,_,_=>by simp at e
 |n::r,[],i,m,o,_,_,e,_=>by simp at e
 |n::r,q::qs,i,m,o,hn,e1,e2,hm=>by
  show (bR (s.set n q) r qs)[m]?=_;obtain⟨h1,h2⟩:=rG.mp hn;cases i with
  |zero=>
   simp at e1 e2;subst e1 e2;rw[Ge h1,uZ hm]
  |succ i=>exact J5 h2 (by simpa using e1) (by simpa using e2) (by rw[nY];exact hm)
theorem Uc:∀{xs:List Xv} {vs:List V} (l0:List Addr) (z:Addr->Prop) (k:Nat),aV K cA U H xs vs->U.z=z->(∀i n,(locs xs)[i]?=some n->l0[k+i]?=U.l[n]?)->aV K cA ⟨z,l0⟩ H (cD k xs) vs
 :=by
 intro xs vs l0 z k r0
 induction r0 generalizing k with
 |nil=>exact λ_ _=>.nil
 |@cons x v xs vs a q ih=>
  intro ez h;cases a with
  |d a=>exact .cons (.d (a.gJ λb hb=>by rw[ez];exact hb)) (ih k ez h)
  |@l n a' a=>
   refine .cons (.l ?_) (ih (k+1) ez λi m e=>?_)
   ·have:=h 0 n rfl;rw[Nat.add_zero] at this;show l0[k]?=_;rw[this];exact a
   ·have:=h (i+1) m (by simpa [locs] using e);rw[<-this]
    congr 1
    lia
theorem Ud:∀{xs:List Xv} {vs:List V},aV K cA U H xs vs->∀n∈locs xs,∃a,U.l[n]?=some a
 :=by
 intro xs vs r0
 induction r0 with
 |nil=>exact λn h=>by cases h
 |cons a q ih=>
  intro n h;cases a with
  |d a=>exact ih n h
  |l a=>
   rcases jq.mp h with rfl|h
   ·exact⟨_,a⟩
   ·exact ih n h
theorem J6{xs:List Xv}{U1:Ph}{s0 s1:S}(hS:au K cA U H s)(hn:(locs xs).Nodup)(ht:∀n∈locs xs,∃a,U.l[n]?=some a)(x:Ext ⟨U.z,adr U.l (locs xs)⟩ H U1 H')(r1:au K cA U1 H' s1) :
  Ext U H ⟨U1.z,U.l⟩ H'/\au K cA ⟨U1.z,U.l⟩ H' (bR s (locs xs) s1):=by
 have ao:∀a∈adr U.l (locs xs),a∈U.l:=λa ha=>by obtain⟨n,_,q⟩:=vI ha;exact iR q
 obtain⟨r,er,hr⟩:=x.more;have er:U1.l=adr U.l (locs xs)++r:=er;refine⟨⟨⟨[],by simp,by simp⟩,λa h=>x.lE a h,λa h=>x.gO a h,λa o h t n=>x.frame a o h t λz=>n (ao a z),x.stay⟩,?_⟩;refine⟨by rw[vJ];exact hS.len,λn o a e1 e2=>?_,hS.uniq,λa ha=>x.lE a (hS.lz a ha),r1.zt⟩;have e2:U.l[n]?=some a:=e2;by_cases cV:n∈locs xs
 ·obtain⟨i,hi,ei⟩:=List.getElem_of_mem cV;have ei:(locs xs)[i]?=some n:=by rw[kI hi,ei]
  have ha:(adr U.l (locs xs))[i]?=some a:=by rw[yX ht ei];exact e2
  have J7:U1.l[i]?=some a:=by rw[er,jw (gD.mp ha).1];exact ha
  have cM:i<s1.length:=by rw[<-r1.len];exact(gD.mp J7).1
  have hb:=J5 (s:=s) (s1:=s1) hn ei (kI cM) (by rw[<-hS.len];exact(gD.mp e2).1);rw[hb] at e1;cases e1;exact gH.zl (r1.obj i _ a (kI cM) J7) _
 ·rw[Ge cV] at e1;have Gf:a∉adr U.l (locs xs):=λz=>by
   obtain⟨m,q1,q2⟩:=vI z;have:n=m:=(Cq (gD.mp e2).1 hS.uniq).mp (e2.trans q2.symm);exact cV (this▸q1)
  exact(hS.obj n o a e1 e2).map (λ_ t q=>x.frame a _ q t Gf) λ_ _ r=>Rep.zl ((Rep.zl r _).mono x λa ha=>hS.lz a (ao a ha)) _
theorem Ue{F:List Xv->M Xv}{xs:List Xv}{vs:List V}{Q:VK}{EE:Nat->List D->Ph->Hp->Prop}(hS:au K cA U H s)(r:aV K cA U H xs vs)
  (hE:∀c fs U1 U2 H',U1.z=U2.z->EE c fs U1 H'->EE c fs U2 H')
  (h:Run K cA (bU F xs) U H s (λx _ U' H'=>∀v,aJ K cA U' H' x v->Q v H') (λc fs _ U' H'=>EE c fs U' H')) :
  ∃U0 s0,aV K cA U0 H (cD 0 xs) vs/\au K cA U0 H s0/\Run K cA (F (cD 0 xs)) U0 H s0 (λx _ U' H'=>∀v,aJ K cA U' H' x v->Q v H') (λc fs _ U' H'=>EE c fs U' H'):=by
 unfold Run bU at h;by_cases hn:(locs xs).Nodup
 ·simp only[if_pos hn] at h;have ht:=Ud r;have ao:∀a∈adr U.l (locs xs),a∈U.l:=λa ha=>by obtain⟨n,_,q⟩:=vI ha;exact iR q
  cases e0:fB s (locs xs) with
  |none=>simp only[e0] at h
  |some s0=>
   simp only[e0] at h;refine⟨⟨U.z,adr U.l (locs xs)⟩,s0,Uc _ _ 0 r rfl (λi n e=>by rw[Nat.zero_add];exact yX ht e),?_,?_⟩
   ·refine⟨by rw[J2 e0];exact yZ ht,λi o a e1 e2=>?_,J3 hS.uniq hn ht,λa ha=>hS.lz a (ao a ha),hS.zt⟩;have e2:(adr U.l (locs xs))[i]?=some a:=e2;have hi:i<(locs xs).length:=by rw[<-yZ ht];exact(gD.mp e2).1
    have ei:(locs xs)[i]?=some ((locs xs)[i]):=kI hi;rw[yX ht ei] at e2;rw[(J1 e0 ei).1] at e1;exact gH.zl (hS.obj _ o a e1 e2) _
   ·unfold Run;cases e1:F (cD 0 xs) s0 with
    |none=>simp only[e1] at h
    |some q=>
     obtain⟨q,s1⟩:=q;simp only[e1] at h;cases q with
     |er c fs=>
      intro U1 H' x r1;obtain⟨x2,r2⟩:=J6 (s0:=s0) hS hn ht x r1;exact hE c fs ⟨U1.z,U.l⟩ U1 H' rfl (h ⟨U1.z,U.l⟩ H' x2 r2)
     |ok y=>
      intro U1 H' x r1 v rv;obtain⟨x2,r2⟩:=J6 (s0:=s0) hS hn ht x r1;cases y with
      |d w=>
       cases rv with
       |d rv=>exact h ⟨U1.z,U.l⟩ H' x2 r2 v (.d (Rep.zl rv _))
      |l n=>
       cases rv with
       |@l _ a hl=>
        obtain⟨rr,er,hr⟩:=x.more;have er:U1.l=adr U.l (locs xs)++rr:=er;cases em:(locs xs)[n]? with
        |some m=>
         simp only[em] at h;refine h _ H' x2 r2 _ (.l ?_);show U.l[m]?=some a;have ha:(adr U.l (locs xs))[n]?=U.l[m]?:=yX ht em;have cM:n<(adr U.l (locs xs)).length:=by rw[yZ ht];exact(gD.mp em).1
         rw[er,jw cM] at hl;rw[<-ha];exact hl
        |none=>
         simp only[em] at h;have qY:(adr U.l (locs xs)).length<=n:=by rw[yZ ht];exact qm.mp em
         have vq:a∈rr:=by
          rw[er,jO qY] at hl;exact iR hl
         have Gf:a∉U.l:=λz=>by
          obtain⟨o,eo⟩:=hS.zt a (hS.lz a z);rw[hr a vq] at eo;cases eo
         cases eo:s1[n]? with
         |none=>simp only[eo] at h
         |some o=>
          simp only[eo] at h;have ho:=r1.obj n o a eo hl;refine h ⟨U1.z,U.l++[a]⟩ H' ⟨⟨[a],rfl,by simpa using hr a vq⟩,x2.lE,x2.gO,x2.frame,x2.stay⟩ ?_ _ (.l (by show (U.l++[a])[s.length]?=_;rw[<-hS.len];simp));refine⟨by show (U.l++[a]).length=_;rw[jy,jy,vJ,hS.len];rfl,λm o' a' e1 e2=>?_,?_,λb hb=>?_,r1.zt⟩
          ·have e2:(U.l++[a])[m]?=some a':=e2;by_cases hm:m<s.length
           ·rw[jw (by rw[vJ];exact hm)] at e1;rw[jw (by rw[hS.len];exact hm)] at e2;exact gH.zl (r2.obj m o' a' e1 e2) _
           ·have vK:m=s.length:=by
             have z:=(gD.mp e2).1;rw[jy,hS.len] at z;simp at z
             lia
            subst vK;rw[jO (by rw[vJ];exact cg _)] at e1;rw[jO (by rw[hS.len];exact cg _)] at e2;simp[vJ] at e1;simp[hS.len] at e2;subst e1 e2;exact gH.zl ho _
          ·show (U.l++[a]).Nodup;rw[Cp];refine⟨hS.uniq,by simp,λb hb c hc e=>?_⟩;simp at hc;subst hc e;exact Gf hb
          ·have hb:b∈U.l++[a]:=hb;rcases jz.mp hb with z|z
           ·exact x2.lE b (hS.lz b z)
           ·simp at z;subst z;exact r1.lz _ (iR hl)
 ·simp only[if_neg hn] at h
end
section
variable {X:Cx}{cA:Cl}{ao:Nat->Nat->Bool}{aj:Bool}{F:Fn}{EX:XS}{a b c d e o:Expr}{A B C Dd E' O:E}{pos pp p2 apos cpos:Pos}{es:List Expr}{Xs:Es}{fz:Bool}{p:Pr}{x:Str}{U:Ph}{H:Hp}{s:S}
theorem Gg{K:W.Frag}{β:Type}{x:Xv}{v:V}{k:Nat×List D->M β}{P:β->S->Ph->Hp->Prop}{Ee:Nat->List D->S->Ph->Hp->Prop}(hS:au K cA U H s)(r:aJ K cA U H x v)(h:Run K cA (M.bd (bK x) k) U H s P Ee) :
  ∃n ad xs vs,x=.l n/\v=.ref ad/\s[n]?=some (.lst xs)/\U.l[n]?=some ad/\H ad=some (.lst vs)/\aq K cA U H xs vs/\Run K cA (k (n,xs)) U H s P Ee:=by
 cases r with
 |d _=>exact h.elim
 |@l n ad hl=>
  unfold Run M.bd bK at h;dsimp only at h;cases e:s[n]? with
  |none=>rw[e] at h;exact h.elim
  |some o=>
   rw[e] at h;cases o with
   |lst xs=>
    obtain⟨vs,q1,q2⟩:=hS.obj n _ _ e hl;exact⟨n,ad,xs,vs,rfl,rfl,e,hl,q1,q2,h⟩
   |_=>exact h.elim
theorem Ug(ho:SE X cA ao aj F EX o O)(ha:SE X cA ao aj F EX a A)
  (iZ:attributeBase o "append" X.env (eval o X.env)=eval o X.env:=by rfl)
  (sY:((backTo cpos (starEach [a] X.env)).all (λx=>!x.1)&&(backToKw cpos (keywordEach [] X.env)).all (λx=>x.1.isSome)
  &&decide ([a].length+([]:List Keyword).length+(if ([]:List Keyword).isEmpty then 0 else 1)<30))=true:=by rfl)
  (i_:(apos.endLine==cpos.line)=true:=by rfl) (hs:starEach [a] X.env=(false,eval a X.env)::starEach [] X.env:=by rfl) (jE:(backTo cpos (starEach [] X.env)).any (·.1)=false:=by rfl) :
  SE X cA ao aj F EX (.Call (.Attribute o "append" apos) [a] [] cpos) (.push O A):=PE.weak (P0 PySem.F.plainAttrs_list PySem.F.slot_list_append PySem.F.type_list_append DG ho (ou ha sS hs) iZ sY i_ hs jE) λZ H Q hh=>un hh λU J s hL hS h=>by
 refine bD hL hS h λx H1 U1 d1 s1 x1 hL1 aD r1 h1=>?_;obtain⟨n,ad,xs,vs,rfl,rfl,e1,f1,g1,q1,h2⟩:=Gg aD r1 h1;refine⟨.inl ⟨rfl,vs,cH.of g1⟩,bD hL1 aD h2 λy H2 U2 d2 s2 x2 hL2 aL r2 h3=>?_⟩;obtain⟨dd,_,rd,h4⟩:=Fz r2 h3;obtain⟨n',YW,ys,us,en,ea,e2,f2,g2,q2,h5⟩:=Gg aL (r1.mono x2 aD.lz) h4;cases en;cases ea;by_cases hz:ys.length<sizeLine
 ·have h5:Run X.K cA (M.bd (putL n (ys++[dd])) λ_=>M.ret (Xv.d .non)) U2 H2 s2 (λd _ U' H'=>∀v,aJ X.K cA U' H' d v->Q v H') (eX X.K cA EX Z):=by
   have h6:Run X.K cA (if ys.length<sizeLine then M.bd (putL n (ys++[dd])) λ_=>M.ret (Xv.d .non) else M.no) U2 H2 s2 (λd _ U' H'=>∀v,aJ X.K cA U' H' d v->Q v H') (eX X.K cA EX Z):=h5;rw[if_pos hz] at h6;exact h6
  refine⟨ad,us,y,rfl,rfl,g2,by rw[<-q2.len];exact hz,?_⟩;exact h5 U2 _ (Ext.write f2 ⟨_,g2⟩) (aL.write e2 f2 (q2.app (.cons rd .nil))) _ (.d .non)
 ·have h6:Run X.K cA (if ys.length<sizeLine then M.bd (putL n (ys++[dd])) λ_=>M.ret (Xv.d .non) else M.no) U2 H2 s2 (λd _ U' H'=>∀v,aJ X.K cA U' H' d v->Q v H') (eX X.K cA EX Z):=h5;rw[if_neg hz] at h6;exact h6.elim
noncomputable def lW(K:W.Frag)(cA:Cl)(m:List Xv->M Xv):Sp:=λvs H Q E=>∃U xs s,aV K cA U H xs vs/\au K cA U H s/\Run K cA (m xs) U H s (λd _ U' H'=>∀v,aJ K cA U' H' d v->Q v H') (λc fs _ U' H'=>∀dx,gw K cA U' H' c fs dx->E (.ref (cA.a c)) dx H')
theorem Uh{K:W.Frag}{U1 U2:Ph}{c:Nat}{fs:List D}{dx:Option Addr}(e:U1.z=U2.z)(h:gw K cA U2 H c fs dx):gw K cA U1 H c fs dx:=h.imp id λ⟨d,vs,a,b,c,l,r⟩=>⟨d,vs,a,by rw[e];exact b,c,l,r.gJ λ_ z=>by rw[<-e];exact z⟩
theorem Ui{cm:Bool}{k f:Nat}{fa:Addr}{fd:FuncData}{ps:List Str}(Fo:bY X.prog X.w X.K X.mg X.base (eF X.prog X.w) cm k fa fd ps (lW X.K cA (F f)))(jB:cm=true->X.aj=true)(hr:bJ k X.A)(hg:Gl X x)(hm:X.mg x=some (.ref fa))(hk:PySem.W.keepIn X.K (.ref fa)=true)(hb:Binds X.K fd ps [])(R:Raises X EX)
  (ha:SA X cA ao aj F EX (e::es) Xs) (mQ:(x==("__debug__" : Str))=false:=by decide) (he:starEach (e::es) X.env=(false,eval e X.env)::starEach es X.env:=by rfl) (cL:(backTo pos (starEach es X.env)).any (·.1)=false:=by rfl) :
  SE X cA ao aj F EX (.Call (.Name x pp) (e::es) [] pos) (.call f Xs):=PE.weak (Qx Fo jB hr hg hm hk hb R ha mQ he cL) λZ H Q hh=>un hh λU J s hL hS h=>
 pU hL hS h λvs H1 U1 ds s1 x1 hL1 aD r1 h1=>by
  obtain⟨U0,s0,a1,a2,a3⟩:=Ue (EE:=λc fs U' H'=>∀dx,gw X.K cA U' H' c fs dx->EX Z (.ref (cA.a c)) dx H') aD r1 (λc fs U1 U2 H' ez z dx q=>z dx (Uh ez q)) h1;exact⟨U0,_,s0,a1,a2,a3⟩
end
section
variable {K:W.Frag}{cA:Cl}{U U':Ph}{H H':Hp}{s:S}
def bN(U:Ph)(H H':Hp):Prop:=∀a o,H a=some o->¬U.z a->H' a=some o
mutual
theorem Rep.out(x:bN U H H'):∀{d:D} {v:V},Rep K cA U H d v->Rep K cA U H' d v
 |_,_,.non=>.non
 |_,_,.bl b=>.bl b
 |_,_,.int i=>.int i
 |_,_,.str z=>.str z
 |_,_,.tup h r=>.tup (h.imp (λ⟨p,n⟩=>⟨p.imp (λq=>x _ _ q n) λ⟨o,q⟩=>⟨o,x _ _ q n⟩,n⟩) id) (aq.out x r)
 |_,_,.fl h r=>.fl (h.imp (λ⟨p,n⟩=>⟨p.imp (λq=>x _ _ q n) λ⟨o,q⟩=>⟨o,x _ _ q n⟩,n⟩) id) (aq.out x r)
 |_,_,.fd h n=>.fd (x _ _ h n) n
 |_,_,.exc h r=>.exc ⟨h.1,h.2.imp (λ⟨a,b,q⟩=>⟨a,b,x _ _ q h.1⟩) λ⟨dx,p,n,q,l⟩=>⟨dx,x _ _ p h.1,n,x _ _ q n,l⟩⟩ (aq.out x r)
 |_,_,.any v=>.any v
 |_,_,.ob h r=>.ob ⟨h.1,let ⟨dx,p,l⟩:=h.2;⟨dx,x _ _ p h.1,l⟩⟩ (aq.out x r)
theorem aq.out(x:bN U H H'):∀{ds:List D} {vs:List V},aq K cA U H ds vs->aq K cA U H' ds vs
 |_,_,.nil=>.nil
 |_,_,.cons h r=>.cons (Rep.out x h) (aq.out x r)
end
theorem aJ.out(x:bN U H H'){d:Xv}{v:V}(h:aJ K cA U H d v):aJ K cA U H' d v:=by
 cases h with
 |d h=>exact .d (h.out x)
 |l h=>exact .l h
theorem aG.out(x:bN U H H')(h:aG K cA U H Z J):aG K cA U H' Z J:=⟨h.1,λi d e=>let ⟨v,a,b⟩:=h.2 i d e;⟨v,a,b.out x⟩⟩
theorem bN.refl:bN U H H:=λa o e _=>e
structure jM(K:W.Frag)(cA:Cl)(c:Src)(U:Ph)(H:Hp)(aK:L2.It):Prop where
 stop:∀U' H₁ H' s' i,Ext U H U' H₁->bN U' H₁ H'->au K cA U' H' s'->c.at i s'=some none->aK.stop i H'
 go:∀U' H₁ H' s' i x,Ext U H U' H₁->bN U' H₁ H'->au K cA U' H' s'->c.at i s'=some (some x)->aK.go i H'
 mL:∀U' H₁ H' s' i x v H2,Ext U H U' H₁->bN U' H₁ H'->au K cA U' H' s'->c.at i s'=some (some x)->aK.mL i H' v H2->bB H' H2/\Rep K cA U' H2 x v
theorem LstAt.later(hz:∀a∈U.l,U.z a)(h:LstAt K U H a vs)(x:Ext U H U' H₁)(o:bN U' H₁ H'):LstAt K U' H' a vs:=
 (h.mono x hz).imp (λ⟨p,n⟩=>⟨p.imp (λq=>o _ _ q n) λ⟨w,q⟩=>⟨w,o _ _ q n⟩,n⟩) id
theorem TupAt.later(hz:∀a∈U.l,U.z a)(h:TupAt K U H a vs)(x:Ext U H U' H₁)(o:bN U' H₁ H'):TupAt K U' H' a vs:=
 (h.mono x hz).imp (λ⟨p,n⟩=>⟨p.imp (λq=>o _ _ q n) λ⟨w,q⟩=>⟨w,o _ _ q n⟩,n⟩) id
theorem jM.list(hz:∀a∈U.l,U.z a)(h:LstAt K U H a vs)(r:aq K cA U H xs vs):jM K cA (.fix xs) U H (Al K a):=by
 refine⟨λU' H₁ H' s' i x o hS e=>⟨vs,(h.later hz x o).oG,?_⟩,λU' H₁ H' s' i d x o hS e=>?_,λU' H₁ H' s' i d v H2 x o hS e y=>?_⟩
 ·have e:xs[i]?=none:=dG e;exact qm.mp ((r.mono x hz).none e)
 ·have e:xs[i]?=some d:=dG e;obtain⟨v,q,_⟩:=r.get e;exact⟨vs,v,(h.later hz x o).oG,q⟩
 ·have e:xs[i]?=some d:=dG e;obtain⟨rfl,y⟩:=y;obtain⟨w,q,lg⟩:=((r.mono x hz).out o).get e;have:=y vs (h.later hz x o).oG;rw[q] at this;cases this;exact⟨bB.refl,lg⟩
theorem jM.tuple(hz:∀a∈U.l,U.z a)(h:TupAt K U H a vs)(r:aq K cA U H xs vs):jM K cA (.fix xs) U H (Dk K a):=by
 refine⟨λU' H₁ H' s' i x o hS e=>⟨vs,(h.later hz x o).iJ,?_⟩,λU' H₁ H' s' i d x o hS e=>?_,λU' H₁ H' s' i d v H2 x o hS e y=>?_⟩
 ·have e:xs[i]?=none:=dG e;exact qm.mp ((r.mono x hz).none e)
 ·have e:xs[i]?=some d:=dG e;obtain⟨v,q,_⟩:=r.get e;exact⟨vs,v,(h.later hz x o).iJ,q⟩
 ·have e:xs[i]?=some d:=dG e;obtain⟨rfl,y⟩:=y;obtain⟨w,q,lg⟩:=((r.mono x hz).out o).get e;have:=y vs (h.later hz x o).iJ;rw[q] at this;cases this;exact⟨bB.refl,lg⟩
theorem Gh(h:(Src.live n).at i s=some o):∃xs,s[n]?=some (.lst xs)/\xs[i]?=o:=by
 unfold Src.at at h;dsimp only at h;cases e:s[n]? with
 |none=>rw[e] at h;cases h
 |some ob=>
  rw[e] at h;cases ob with
  |lst xs=>exact⟨xs,rfl,dG h⟩
  |_=>cases h
theorem jM.live(h:U.l[n]?=some a):jM K cA (.live n) U H (Al K a):=by
 refine⟨λU' H₁ H' s' i x o hS e=>?_,λU' H₁ H' s' i d x o hS e=>?_,λU' H₁ H' s' i d v H2 x o hS e y=>?_⟩
 ·obtain⟨xs,e1,e2⟩:=Gh e;obtain⟨vs,q1,q2⟩:=hS.obj n _ a e1 (x.get h);exact⟨vs,cH.of q1,qm.mp (q2.none e2)⟩
 ·obtain⟨xs,e1,e2⟩:=Gh e;obtain⟨vs,q1,q2⟩:=hS.obj n _ a e1 (x.get h);obtain⟨v,q3,_⟩:=q2.get e2;exact⟨vs,v,cH.of q1,q3⟩
 ·obtain⟨xs,e1,e2⟩:=Gh e;obtain⟨vs,q1,q2⟩:=hS.obj n _ a e1 (x.get h);obtain⟨w,q3,lg⟩:=q2.get e2;obtain⟨rfl,y⟩:=y;have:=y vs (cH.of q1);rw[q3] at this;cases this;exact⟨bB.refl,lg⟩
theorem Gi:(gZ a b)[i]?=if i<(b-a).toNat then some (.int (a+i)) else none:=by
 unfold gZ;rw[oU,List.getElem?_range']
where
 List.getElem?_range' {n i:Nat}:Option.map (λ(i:Nat)=>D.int (a+i)) (List.range n)[i]?=if i<n then some (.int (a+i)) else none:=by
  by_cases h:i<n
  ·rw[if_pos h,List.getElem?_range h];rfl
  ·rw[if_neg h,List.getElem?_eq_none (by simp;lia)];rfl
theorem jM.range{a b:Int}:jM K cA (.fix (gZ a b)) U H (wU a (b-a).toNat):=by
 refine⟨λU' H₁ H' s' i x o hS e=>?_,λU' H₁ H' s' i d x o hS e=>?_,λU' H₁ H' s' i d v H2 x o hS e y=>?_⟩
 ·have e:(gZ a b)[i]?=none:=dG e;rw[Gi] at e;split at e
  ·cases e
  ·exact zZ (by assumption)
 ·have e:(gZ a b)[i]?=some d:=dG e;rw[Gi] at e;split at e
  ·assumption
  ·cases e
 ·have e:(gZ a b)[i]?=some d:=dG e;rw[Gi] at e;split at e
  ·cases e;obtain⟨rfl,rfl⟩:=y;exact⟨bB.refl,.int _⟩
  ·cases e
end
noncomputable def Gj(K:W.Frag)(te:TE):TI:=λZ H R=>te Z H λv H1=>∃a,v=.ref a/\(((∃xs,cH K H1 a xs)/\R (Al K a) H1)\/((∃xs,fG K H1 a xs)/\R (Dk K a) H1))
theorem Uj(he:PE X l te):PI X tg l (Gj X.K te):=by
 intro ak s Z H R I h;refine aN (he ak s Z H _ I h) λv s1 hx=>Hq hx λx H1 I1 r1 a e q=>?_;subst e;cases r1;rcases q with ⟨⟨xs,hq⟩,q⟩|⟨⟨xs,hq⟩,q⟩
 ·obtain⟨its,rv,p,hz⟩:=I1.list hq;refine wpAny_pyIter_list p.isList ?_;refine⟨s1.heap.objs.size,[s1.heap.objs.size],_,_,H1,rfl,I1.kept (t':=s1.toks) λb o e=>cP _ e,NK a _,⟨_,h_ _ rfl,rfl,rfl⟩,λb hb=>?_,q⟩;have e:b=s1.heap.objs.size:=by simpa using hb
  subst e;exact I1.sH (cg _) (I1.hok.fresh (cg _))
 ·obtain⟨its,rv,p,hz⟩:=I1.tuple hq;refine wpAny_pyIter_tuple (show s1.heap.IsTuple a its.toArray from p) ?_;refine⟨s1.heap.objs.size,[s1.heap.objs.size],_,_,H1,rfl,I1.kept (t':=s1.toks) λb o e=>cP _ e,NP a _,⟨_,h_ _ rfl,rfl,rfl⟩,λb hb=>?_,q⟩;have e:b=s1.heap.objs.size:=by simpa using hb
  subst e;exact I1.sH (cg _) (I1.hok.fresh (cg _))
section
variable {X:Cx}{cA:Cl}{ao:Nat->Nat->Bool}{aj:Bool}{F:Fn}{EX:XS}{a b tg:Expr}{A B:E}{pos pp:Pos}
noncomputable def tI(K:W.Frag)(cA:Cl)(EX:XS)(m:Vs->M (Src×Nat)):TI:=λZ H R=>∃U J s,aG K cA U H Z J/\au K cA U H s/\Run K cA (m J) U H s (λcn _ U1 H1=>∀aK,jM K cA cn.1 U1 H1 aK->R aK H1) (eX K cA EX Z)
def SI(X:Cx)(cA:Cl)(ao:Nat->Nat->Bool)(aj:Bool)(F:Fn)(EX:XS)(tg iter:Expr)(w:Wk):Prop:=PI X tg iter (tI X.K cA EX (gb ao aj F w))
theorem PI.weak{iter:Expr}{t t':TI}(h:PI X tg iter t)(f:∀Z H Q,t' Z H Q->t Z H Q):PI X tg iter t':=λak s Z H Q I q=>h ak s Z H Q I (f Z H Q q)
theorem Uk(ha:SE X cA ao aj F EX a A):SI X cA ao aj F EX tg a (.seq A):=PI.weak (Uj ha) λZ H R hh=>un hh λU J s hL hS h=>by
 refine bD hL hS h λv H1 U1 d s1 x1 hL1 aD r1 h1=>?_;cases r1 with
 |@l n ad hl=>
  unfold Run src at h1;dsimp only at h1;cases e:s1[n]? with
  |none=>rw[e] at h1;exact h1.elim
  |some o=>
   rw[e] at h1;cases o with
   |lst xs=>
    obtain⟨vs,q1,q2⟩:=aD.obj n _ _ e hl;exact⟨ad,rfl,.inl ⟨⟨vs,cH.of q1⟩,h1 U1 H1 Ext.refl aD _ (jM.live hl)⟩⟩
   |_=>exact h1.elim
 |d r1=>
  cases r1 with
  |tup q r=>exact⟨_,rfl,.inr ⟨⟨_,q.iJ⟩,h1 U1 H1 Ext.refl aD _ (jM.tuple aD.lz q r)⟩⟩
  |fl q r=>exact⟨_,rfl,.inl ⟨⟨_,q.oG⟩,h1 U1 H1 Ext.refl aD _ (jM.list aD.lz q r)⟩⟩
  |_=>exact h1.elim
theorem J8{i:Int}(h:dw i=true) : -(2^62)<=i/\i<2^62:=by
 unfold dw at h;rw[dU,v7,v7] at h;exact⟨by lia,h.2⟩
theorem J9{K:W.Frag}{U:Ph}{H:Hp}{s:S}{i j:Int}{P:Src×Nat->S->Ph->Hp->Prop}{Ee:Nat->List D->S->Ph->Hp->Prop}(hS:au K cA U H s)(h:Run K cA (if (dw i&&dw j)=true then M.ret (Src.fix (gZ i j),(gZ i j).length) else M.no) U H s P Ee):(-(2^62)<=i/\i<2^62/\-(2^62)<=j/\j<2^62)/\P (.fix (gZ i j),(gZ i j).length) s U H:=by
 by_cases hk:(dw i&&dw j)=true
 ·rw[if_pos hk] at h;rw[dU] at hk;obtain⟨a,b⟩:=J8 hk.1;obtain⟨c,d⟩:=J8 hk.2;exact⟨⟨a,b,c,d⟩,h.bC hS⟩
 ·rw[if_neg hk] at h;exact h.elim
theorem Ul(uf:Gl X "range")(hmg:X.mg "range"=none)(ha:SE X cA ao aj F EX a A)(hb:SE X cA ao aj F EX b B)(h1:starEach [a,b] X.env=(false,eval a X.env)::starEach [b] X.env)(h2:starEach [b] X.env=(false,eval b X.env)::starEach [] X.env) :
  SI X cA ao aj F EX tg (.Call (.Name "range" pp) [a,b] [] pos) (.rg A B):=PI.weak (N5 uf hmg (ou ha (ou hb sS h2) h1) (by rw[h1,h2];rfl) (by rw[h2];rfl)) λZ H R hh=>un hh λU J s hL hS h=>by
 refine bD hL hS h λx H1 U1 d1 s1 x1 hL1 aD r1 h1=>bD hL1 aD h1 λy H2 U2 d2 s2 x2 hL2 aL r2 h2=>?_;obtain⟨i,_,e1,h3⟩:=yO (r1.mono x2 aD.lz) h2;obtain⟨j,_,e2,h4⟩:=yO r2 h3;obtain⟨hz,q⟩:=J9 aL h4;subst e1 e2;exact⟨i,j,rfl,hz,q _ jM.range⟩
theorem Um(uf:Gl X "range")(hmg:X.mg "range"=none)(hb:SE X cA ao aj F EX b B)(h2:starEach [b] X.env=(false,eval b X.env)::starEach [] X.env) :
  SI X cA ao aj F EX tg (.Call (.Name "range" pp) [b] [] pos) (.rg (.c (.int 0)) B):=PI.weak (NZ uf hmg (ou hb sS h2) (by rw[h2];rfl)) λZ H R hh=>un hh λU J s hL hS h=>by
 have h:Run X.K cA (M.bd (ev ao aj F B J) λy=>M.bd (int (.d (.int 0))) λi=>M.bd (int y) λj=>if (dw i&&dw j)=true then M.ret (Src.fix (gZ i j),(gZ i j).length) else M.no) U H s _ _:=h;refine bD hL hS h λy H2 U2 d2 s2 x2 hL2 aL r2 h2=>?_;obtain⟨j,_,e2,h4⟩:=yO r2 (show Run X.K cA (M.bd (int d2) λj=>if (dw 0&&dw j)=true then M.ret (Src.fix (gZ 0 j),(gZ 0 j).length) else M.no) U2 H2 s2 _ _ from h2);obtain⟨hz,q⟩:=J9 aL h4;subst e2;refine⟨j,rfl,hz.2.2.1,hz.2.2.2,q _ ?_⟩;have:=jM.range (K:=X.K) (cA:=cA) (U:=U2) (H:=H2) (a:=0) (b:=j);rw[Int.sub_zero] at this;exact this
end
section
variable {K:W.Frag}{cA:Cl}{U U' U0:Ph}{H H' H0:Hp}{s:S}
theorem Run.bd0(x:Ext U0 H0 U H)(h:Run K cA (M.bd m k) U0 H0 s P Ee) :
  Run K cA m U H s (λa s1 U1 H1=>Ext U H U1 H1/\au K cA U1 H1 s1/\Run K cA (k a) U0 H0 s1 P Ee) Ee:=by
 unfold Run M.bd at *;cases e:m s with
 |none=>rw[e] at h;exact h
 |some r=>
  obtain⟨r,s1⟩:=r;rw[e] at h;cases r with
  |er c f=>exact λU1 H1 x1 r1=>h U1 H1 (x.trans x1) r1
  |ok a=>exact λU1 H1 x1 r1=>⟨x1,r1,h⟩
theorem za{α β:Type}{m:M α}{k:α->M β}{P:β->S->Ph->Hp->Prop}{Ee Ee':Nat->List D->S->Ph->Hp->Prop}(x:Ext U0 H0 U H)(h:Run K cA (M.bd (M.qt m) k) U0 H0 s P Ee) :
  Run K cA m U H s (λa s1 U1 H1=>Ext U H U1 H1/\au K cA U1 H1 s1/\Run K cA (k a) U0 H0 s1 P Ee) Ee':=by
 have h2:=h.bd0 x;unfold Run at h2 ⊢;unfold M.qt at h2;cases e:m s with
 |none=>rw[e] at h2;exact h2
 |some r=>
  obtain⟨r,s1⟩:=r;rw[e] at h2;cases r with
  |ok a=>exact h2
  |er c f=>exact h2.elim
theorem Gk{α β:Type}{m m':M α}{k:α->M β}{P:β->S->Ph->Hp->Prop}{Ee:Nat->List D->S->Ph->Hp->Prop}(e:m s=m' s)(h:Run K cA (M.bd m k) U H s P Ee):Run K cA (M.bd m' k) U H s P Ee:=by
 unfold Run M.bd at *;rw[<-e];exact h
end
section
variable {X:Cx}{cA:Cl}{ao:Nat->Nat->Bool}{aj:Bool}{F:Fn}{EX:XS}{elt iter tg:Expr}{A B:E}{pos p:Pos}{ifs:List Expr}{scope:Scope}{N:List Str}{cond:Eo}{fr aF:List Nat}{many:Nat}{fz:Bool}{w:Wk}
def zc(X:Cx)(cA:Cl)(ao:Nat->Nat->Bool)(aj:Bool)(F:Fn)(EX:XS)(ifs:List Expr)(m:Eo):Prop:=vp X ifs (m9 X.K cA EX (lC ao aj F m))
theorem Uo:zc X cA ao aj F EX [] .no:=λak s Z H Q I ⟨U,J,st,hL,hS,h⟩=>QX ak s Z H Q I (h.bC hS)
theorem Uq(h:ST X cA ao aj F EX c C):zc X cA ao aj F EX [c] (.yes C):=QZ h
structure dN(K:W.Frag)(cA:Cl)(g:TG)(aF:List Nat):Prop where
 run:∀(U:Ph) (H:Hp) (s:S) (Z:L2.St) (J J':Vs) (d:D) (v:V) (Q:L2.St->Hp->Prop),aG K cA U H Z J->au K cA U H s->Rep K cA U H d v->dM aF d J=some J'->
  (∀Z',aG K cA U H Z' J'->Z'.length=Z.length->(∀i,i∉aF->Z'[i]?=Z[i]?)->Q Z' H)->g v Z H Q
theorem Bj{K:W.Frag}(i:Nat):dN K cA (bW i) [i] where
 run:=λU H s Z J J' d v Q hL hS r e k=>by
  cases e;exact k _ (hL.set (.d r)) (nY ..) λj hj=>lZ (by simpa using λz=>hj (by simp[z]))
theorem J_{K:W.Frag}(i j:Nat):dN K cA (mJ K 2 (dI (bW i) (dI (bW j) mH))) [i,j] where
 run:=λU H s Z J J' d v Q hL hS r e k=>by
  have e:(f9 d).bind (λds=>cO [i,j] (ds.map Xv.d) J)=some J':=e;obtain⟨ds,e1,e2⟩:=uY.mp e;cases r with
  |@tup ad xs vs h1 h2=>
   have e1:xs=ds:=dG e1;subst e1;cases h2 with
   |nil=>cases e2
   |cons r1 t1=>
    cases t1 with
    |nil=>cases e2
    |cons r2 t2=>
     cases t2 with
     |nil=>
      have e2:=dG e2;subst e2;refine⟨ad,_,rfl,h1.iJ,rfl,_,_,rfl,_,_,rfl,rfl,k _ ((hL.set (.d r1)).set (.d r2)) (by rw[nY,nY]) λm hm=>?_⟩;rw[lZ (λz=>hm (by simp[z])),lZ (λz=>hm (by simp[z]))]
     |cons r3 t3=>cases e2
  |_=>cases e1
noncomputable def aO(many:Nat)(fr:List Nat)(Z:L2.St):L2.St:=List.replicate many none++fr.map λj=>(Z[j]?).join
theorem Ka{U:Ph}{H:Hp}{Z:L2.St}{J:Vs}(hL:aG X.K cA U H Z J){Z':L2.St}(hl:Z'.length=many+fr.length)(hf:∀(i:Nat) j v,fr[i]?=some j->Z[j]?=some (some v)->Z'[many+i]?=some (some v)):aG X.K cA U H Z' (blk many fr J):=by
 refine⟨by unfold blk;simp[hl],λi d e=>?_⟩;unfold blk at e;by_cases hi:i<many
 ·rw[jw (by simpa using hi),vX,if_pos hi] at e;cases e
 ·rw[jO (by simpa using zZ hi),vY,oU] at e;cases z:fr[i-many]? with
  |none=>rw[z] at e;cases e
  |some j=>
   rw[z] at e;have e3:J[j]?.join=some d:=by simpa using e
   obtain⟨v,q1,q2⟩:=hL.2 j d (FN e3);refine⟨v,?_,q2⟩;have:=hf (i-many) j v z q1;rw[show many+(i-many)=i by omega] at this;exact this
structure eU(U:Ph)(H:Hp)(Dd:Addr)(o:HO):Prop where
 at_:H Dd=some o
 nl:Dd∉U.l
 z:U.z Dd
 t:NT o:=by exact trivial
abbrev Keep(U:Ph)(H:Hp)(Dd:Addr)(vs:List V):Prop:=eU U H Dd (.lst vs)
theorem eU.mono{U U':Ph}{H H':Hp}{Dd:Addr}{o:HO}(x:Ext U H U' H')(k:eU U H Dd o):eU U' H' Dd o:=by
 refine⟨x.frame _ _ k.at_ k.t k.nl,λz=>?_,x.lE _ k.z,k.t⟩;obtain⟨r,er,hr⟩:=x.more;rw[er] at z;rcases jz.mp z with z|z
 ·exact k.nl z
 ·have:=hr _ z;rw[k.at_] at this;cases this
theorem eU.ext{U:Ph}{H:Hp}{Dd:Addr}{o u:HO}(k:eU U H Dd o)(tu:NT u:=by exact trivial):(∀a o,H a=some o->¬U.z a->(upd H Dd u) a=some o)/\eU U (upd H Dd u) Dd u:=
 ⟨λa o e n=>by rw[bA (λz=>n (by rw[z];exact k.z))];exact e,gU,k.nl,k.z,tu⟩
end
section
variable {K:W.Frag}{cA:Cl}{U U':Ph}{H H':Hp}
theorem au.keep{s:S}{Dd:Addr}{o u:HO}(h:au K cA U H s)(k:eU U H Dd o)(tu:NT u:=by exact trivial):au K cA U (upd H Dd u) s:=by
 have x:bN U H (upd H Dd u):=(k.ext tu).1;refine⟨h.len,λn o a e1 e2=>?_,h.uniq,h.lz,λa z=>?_⟩
 ·have na:a≠Dd:=λy=>k.nl (by rw[<-y];exact iR e2);exact(h.obj n o a e1 e2).map (λ_ _ q=>by rw[bA na];exact q) λ_ _ r=>r.out x
 ·by_cases e:a=Dd
  ·subst e;exact⟨_,gU⟩
  ·obtain⟨o,q⟩:=h.zt a z;exact⟨o,by rw[bA e];exact q⟩
theorem Ext.keep{U1:Ph}{H1:Hp}{Dd:Addr}{vs:List V}{u:HO}(x:Ext U1 H1 U H)(hD:H1 Dd=none):Ext U1 H1 U (upd H Dd u):=by
 refine⟨x.more,x.lE,x.gO,λa o h t n=>?_,λa o h=>?_⟩
 ·rw[bA (λz=>by rw[z,hD] at h;cases h)];exact x.frame a o h t n
 ·rw[bA (λz=>by rw[z,hD] at h;cases h)];exact x.stay a o h
theorem Kc{U1:Ph}{H1:Hp}{s':S}{fz:Bool}{acc:List D}{vs:List V}{Dd:Addr}{Q:VK}{Ee:Nat->List D->S->Ph->Hp->Prop}(h:Run K cA (newL fz acc) U1 H1 s' (λd _ U' H'=>∀v,aJ K cA U' H' d v->Q v H') Ee)
  (x2:Ext U1 H1 U' H') (hD:H1 Dd=none) (nz:¬U1.z Dd) (aL:au K cA U' H' s') (k:Keep U' H' Dd vs) (jt:aq K cA U' H' acc vs):Q (.ref Dd) H':=by
 cases fz with
 |true=>
  have zq:∀a,(λa=>U'.z a/\a≠Dd) a->U'.z a:=λa z=>z.1;refine h ⟨λa=>U'.z a/\a≠Dd,U'.l⟩ H' ⟨x2.more,λa z=>⟨x2.lE a z,λe=>nz (by rw[<-e];exact z)⟩,λa z=>x2.gO a z.1,x2.frame,x2.stay⟩ ?_ _ (.d (.fl (.inl ⟨.inl k.at_,λz=>z.2 rfl⟩) (aq.gJ (U:=U') zq jt)));refine⟨aL.len,λn o a e1 e2=>gH.gJ (U:=U') zq (aL.obj n o a e1 e2),aL.uniq,λa ha=>⟨aL.lz a ha,λe=>k.nl (by rw[<-e];exact ha)⟩,λa z=>aL.zt a z.1⟩
 |false=>
  obtain⟨r,er,hr⟩:=x2.more;refine h ⟨U'.z,U'.l++[Dd]⟩ H' ⟨⟨r++[Dd],by show U'.l++[Dd]=_;rw[er,List.append_assoc],λb hb=>?_⟩,x2.lE,x2.gO,x2.frame,x2.stay⟩ ?_ _ (.l (by show (U'.l++[Dd])[s'.length]?=_;rw[<-aL.len];simp))
  ·rcases jz.mp hb with z|z
   ·exact hr b z
   ·simp at z;subst z;exact hD
  ·refine⟨by show (U'.l++[Dd]).length=_;rw[jy,jy,aL.len];rfl,λm o' a' e1 e2=>?_,?_,λb hb=>?_,aL.zt⟩
   ·have e2:(U'.l++[Dd])[m]?=some a':=e2;by_cases hm:m<s'.length
    ·rw[jw hm] at e1;rw[jw (by rw[aL.len];exact hm)] at e2;exact gH.zl (aL.obj m o' a' e1 e2) _
    ·have vK:m=s'.length:=by
      have z:=(gD.mp e2).1;rw[jy,aL.len] at z;simp at z;omega
     subst vK;rw[jO (cg _)] at e1;rw[jO (by rw[aL.len];exact cg _)] at e2;simp at e1;simp[aL.len] at e2;subst e1 e2;exact⟨vs,k.at_,aq.zl jt _⟩
   ·show (U'.l++[Dd]).Nodup;rw[Cp];refine⟨aL.uniq,by simp,λb hb c hc e=>?_⟩;simp at hc;subst hc e;exact k.nl hb
   ·have hb:b∈U'.l++[Dd]:=hb;rcases jz.mp hb with z|z
    ·exact aL.lz b z
    ·simp at z;subst z;exact k.z
noncomputable def Ph.mark(U:Ph)(p:Addr):Ph:=⟨λa=>U.z a\/a=p,U.l⟩
theorem Ke{s:S}{p:Addr}(hS:au K cA U H s)(hp:H p=none):Ext U H (U.mark p) (upd H p (.lst []))/\au K cA (U.mark p) (upd H p (.lst [])) s/\Keep (U.mark p) (upd H p (.lst [])) p []:=by
 have g:=bB.new (o:=.lst []) hp;have nz:=hS.nz hp;refine⟨⟨⟨[],by simp[Ph.mark],by simp⟩,λa z=>.inl z,λa z=>z.imp id λe=>by rw[e];exact hp,λa o h _ _=>g a o h,λa o h=>⟨o,g a o h⟩⟩,⟨hS.len,λn o a e1 e2=>?_,hS.uniq,λa ha=>.inl (hS.lz a ha),λa z=>?_⟩,gU,λz=>nz (hS.lz p z),.inr rfl,trivial⟩
 ·have x:Ext U H (U.mark p) (upd H p (.lst [])):=⟨⟨[],by simp[Ph.mark],by simp⟩,λa z=>.inl z,λa z=>z.imp id λe=>by rw[e];exact hp,λa o h _ _=>g a o h,λa o h=>⟨o,g a o h⟩⟩;exact(hS.obj n o a e1 e2).map (λu _=>g _ u) λ_ _ r=>r.mono x hS.lz
 ·rcases z with z|z
  ·obtain⟨o,e⟩:=hS.zt a z;exact⟨o,g _ _ e⟩
  ·subst z;exact⟨_,gU⟩
end
section
variable {X:Cx}{cA:Cl}{ao:Nat->Nat->Bool}{aj:Bool}{F:Fn}{EX:XS}{elt iter tg:Expr}{A B:E}{pos p:Pos}{ifs:List Expr}{scope:Scope}{N:List Str}{cond:Eo}{fr aF:List Nat}{many:Nat}{fz:Bool}{w:Wk}
noncomputable abbrev aP(ao:Nat->Nat->Bool)(aj:Bool)(F:Fn)(B:E)(cond:Eo)(aF:List Nat)(Jb:Vs):D->List D->M (List D):=λd acc=>M.bd (M.opt (dM aF d Jb)) λJ'=>M.bd (M.qt (lC ao aj F cond J')) λok=>
    if ok=true then M.bd (M.qt (ev ao aj F B J')) λy=>M.bd (dat y) λe=>if acc.length<sizeLine then M.ret (acc++[e]) else M.no else M.ret acc
theorem vL{H:Hp}{a:Addr}{o:HO}(h:H a=some o):upd H a o=H:=funext λb=>by
 by_cases z:b=a
 ·subst z;rw[gU,h]
 ·rw[bA z]
theorem Ur{K:W.Frag}{g:TG}{U1 U':Ph}{H1 H2:Hp}{s':S}{Z':L2.St}{Jb:Vs}{Dd:Addr}{acc:List D}{vs:List V}{xi:D}{v:V}{β:Type}{kk:List D->M β}{P:β->S->Ph->Hp->Prop}{Ee:Nat->List D->S->Ph->Hp->Prop}(hT:dN K cA g aF)(cV:∀i∈aF,i<many)
  (hD:H1 Dd=none) (x2:Ext U1 H1 U' H2) (hL2:aG K cA U' H2 Z' Jb) (aL:au K cA U' H2 s') (kp:Keep U' H2 Dd vs) (jt:aq K cA U' H2 acc vs) (rx:Rep K cA U' H2 xi v)
  (h:Run K cA (M.bd (aP ao aj F B cond aF Jb xi acc) kk) U1 H1 s' P Ee) {Nn:L2.St->Hp->Prop}
  (hN:∀Z3 H3 U3 s3 iK pZ,Z3.length=Z'.length->(∀i,many<=i->Z3[i]?=Z'[i]?)->Ext U1 H1 U3 H3->Ext U' H2 U3 (upd H3 Dd (.lst vs))->au K cA U3 H3 s3->Keep U3 H3 Dd pZ->aq K cA U3 H3 iK pZ->Run K cA (kk iK) U1 H1 s3 P Ee->Nn Z3 H3) :
  g v Z' H2 λZ3 H3=>m9 K cA (λ_ _ _ _=>False) (lC ao aj F cond) Z3 H3 λok H4=>
   if ok=true then tE K cA (λ_ _ _ _=>False) (ev ao aj F B) Z3 H4 λy H5=>∃ys,H5 Dd=some (.lst ys)/\ys.length<sizeLine/\Nn Z3 (upd H5 Dd (.lst (ys++[y]))) else Nn Z3 H4:=by
 unfold aP at h;rw[fC] at h;obtain⟨J',e1,h1⟩:=Run.lF h;refine hT.run U' H2 s' Z' Jb J' xi v _ hL2 aL rx e1 λZ3 lG ug vM=>?_;rw[fC] at h1;have kf:∀i,many<=i->Z3[i]?=Z'[i]?:=λi hi=>vM i λz=>absurd (cV i z) (vg.mpr hi);refine⟨U',J',s',lG,aL,(za x2 h1).imp λok s4 U4 H4 ⟨x4,lX,h6⟩=>?_⟩;cases ok with
 |false=>
  refine iF (hN Z3 H4 U4 s4 acc vs ug kf (x2.trans x4) (by rw[vL (kp.mono x4).at_];exact x4) lX (kp.mono x4) (jt.mono x4 aL.lz) ?_);rw[if_neg (by decide)] at h6;exact h6
 |true=>
  rw[if_pos rfl,fC] at h6;refine iT ⟨U4,J',s4,lG.mono x4 aL.lz,lX,(za (x2.trans x4) h6).imp λy s5 U5 H5 ⟨x5,zf,h7⟩ u ru=>?_⟩;rw[fC] at h7;have k5:=(kp.mono x4).mono x5;have r5:=(jt.mono x4 aL.lz).mono x5 lX.lz;have Gm:=(x2.trans x4).trans x5;obtain⟨dd,ey,rd,h8⟩ : ∃d,y=.d d/\Rep K cA U5 H5 d u/\Run K cA (M.bd (if acc.length<sizeLine then M.ret (acc++[d]) else M.no) kk) U1 H1 s5 P Ee:=by
   cases ru with
   |l _=>exact h7.elim
   |d r=>exact⟨_,rfl,r,h7⟩
  by_cases hz:acc.length<sizeLine
  ·rw[if_pos hz] at h8;refine⟨vs,k5.at_,by rw[<-r5.len];exact hz,?_⟩;have ox:bN U5 H5 (upd H5 Dd (.lst (vs++[u]))):=k5.ext.1;exact hN Z3 _ U5 s5 (acc++[dd]) (vs++[u]) ug kf (Ext.keep (vs:=vs) Gm hD) (by rw[Hr,vL k5.at_];exact x4.trans x5) (zf.keep k5) k5.ext.2 ((r5.app (.cons rd .nil)).out ox) h8
  ·rw[if_neg hz] at h8;exact h8.elim
theorem Us{g:TG}{iter':Expr}(hT:dN X.K cA g aF)(cV:∀i∈aF,i<many){Z:L2.St}{H:Hp}{Q:VK}(hh:tE X.K cA EX (ev ao aj F (.comp fz B aF w fr many cond)) Z H Q) :
  qI (tI X.K cA EX (gb ao aj F w)) (aO many fr) g (m9 X.K cA (λ_ _ _ _=>False) (lC ao aj F cond)) (tE X.K cA (λ_ _ _ _=>False) (ev ao aj F B)) Z H Q:=un hh λU J s hL hS h=>by
 by_cases b_:aj=true
 ·have h:Run X.K cA (if aj=true then M.bd (gb ao aj F w J) λcn=>M.bd (walk cn.1 (aP ao aj F B cond aF (blk many fr J)) (cn.2+1) 0 []) λxs=>newL fz xs else M.no) U H s (λd _ U' H'=>∀v,aJ X.K cA U' H' d v->Q v H') (eX X.K cA EX Z):=h;rw[if_pos b_] at h;refine⟨U,J,s,hL,hS,h.bd.imp λcn s1 U1 H1 ⟨x1,aD,h1⟩ aK hJ=>?_⟩;have hL1:=hL.mono x1 hS.lz;obtain⟨c,n⟩:=cn;dsimp only at h1 hJ;intro Dd hD;obtain⟨x0,Gn,k0⟩:=Ke aD hD;have uh:∀{Z':L2.St},(Z'.length=many+fr.length/\∀i,many<=i->Z'[i]?=(aO many fr Z)[i]?)->∀{U' H'},Ext U1 H1 U' H'->aG X.K cA U' H' Z' (blk many fr J):=λ{Z'} hZ {U' H'} x=>Ka (hL1.mono x aD.lz) hZ.1 λi j v e1 e2=>by
   rw[hZ.2 _ (by omega)];unfold aO;rw[jO (by simp),vY,oU,show many+i-many=i by omega,e1];simp[e2]
  refine⟨λi m Z' H'=>m=n+1-i/\(Z'.length=many+fr.length/\∀i,many<=i->Z'[i]?=(aO many fr Z)[i]?)/\∃U' s' acc vs,Ext U1 H1 U' H'/\au X.K cA U' H' s'/\Keep U' H' Dd vs/\aq X.K cA U' H' acc vs /\
   Run X.K cA (M.bd (walk c (aP ao aj F B cond aF (blk many fr J)) (n+1-i) i acc) λxs=>newL fz xs) U1 H1 s' (λd _ U' H'=>∀v,aJ X.K cA U' H' d v->Q v H') (eX X.K cA EX Z),⟨n+1,rfl,⟨by simp[aO],λi _=>rfl⟩,U1.mark Dd,s1,[],[],x0,Gn,k0,.nil,h1⟩,?_⟩
  rintro i m Z' H' ⟨rfl,hZ,U',s',acc,vs,x2,aL,kp,jt,h3⟩;have hL2:=uh hZ x2;cases ek:n+1-i with
  |zero=>rw[ek] at h3;exact h3.elim
  |succ k=>
   rw[ek] at h3;cases ei:c.at i s' with
   |none=>
    exfalso
    unfold Run M.bd walk at h3;simp only[ei] at h3
   |some oi=>
    cases oi with
    |none=>
     refine .inl ⟨hJ.stop U' H' H' s' i x2 bN.refl aL ei,?_⟩;have h4:Run X.K cA (newL fz acc) U1 H1 s' (λd _ U' H'=>∀v,aJ X.K cA U' H' d v->Q v H') (eX X.K cA EX Z):=by
      unfold Run M.bd walk at h3;simp only[ei] at h3;exact h3
     exact Kc h4 x2 hD (aD.nz hD) aL kp jt
    |some xi=>
     refine .inr ⟨hJ.go U' H' H' s' i xi x2 bN.refl aL ei,λZ2 H2=>(Z2.length=many+fr.length/\∀i,many<=i->Z2[i]?=(aO many fr Z)[i]?)/\∃U' s' acc vs,Ext U1 H1 U' H2/\au X.K cA U' H2 s'/\Keep U' H2 Dd vs/\aq X.K cA U' H2 acc vs /\
      Run X.K cA (M.bd (walk c (aP ao aj F B cond aF (blk many fr J)) k (i+1) acc) λxs=>newL fz xs) U1 H1 s' (λd _ U' H'=>∀v,aJ X.K cA U' H' d v->Q v H') (eX X.K cA EX Z),λZ2 H2 hn=>⟨k,by omega,by omega,hn.1,?_⟩,λv H2 hy=>?_⟩
     ·have:n+1-(i+1)=k:=by omega
      rw[this];exact hn.2
     ·obtain⟨gr,rx⟩:=hJ.mL U' H' H' s' i xi v H2 x2 bN.refl aL ei hy;have h4:Run X.K cA (M.bd (aP ao aj F B cond aF (blk many fr J) xi acc) λacc'=>M.bd (walk c (aP ao aj F B cond aF (blk many fr J)) k (i+1) acc') λxs=>newL fz xs) U1 H1 s' (λd _ U' H'=>∀v,aJ X.K cA U' H' d v->Q v H') (eX X.K cA EX Z):=by
       have h5:=Gk (m':=M.bd (aP ao aj F B cond aF (blk many fr J) xi acc) λacc'=>walk c (aP ao aj F B cond aF (blk many fr J)) k (i+1) acc') (by rw[walk];simp only[ei]) h3;rw[fC] at h5;exact h5
      exact Ur hT cV hD (x2.trans gr.ext) (hL2.mono gr.ext aL.lz) (aL.grow gr) (kp.mono gr.ext) (jt.mono gr.ext aL.lz) rx h4 λZ3 H3 U3 s3 iK pZ l3 f3 x3 _ fL k3 r3 h6=>⟨⟨l3.trans hZ.1,λi hi=>(f3 i hi).trans (hZ.2 i hi)⟩,U3,s3,iK,pZ,x3,fL,k3,r3,h6⟩
 ·have h:Run X.K cA (if aj=true then M.bd (gb ao aj F w J) λcn=>M.bd (walk cn.1 (aP ao aj F B cond aF (blk many fr J)) (cn.2+1) 0 []) λxs=>newL fz xs else M.no) U H s (λd _ U' H'=>∀v,aJ X.K cA U' H' d v->Q v H') (eX X.K cA EX Z):=h;rw[if_neg b_] at h;exact h.elim
theorem Kf{XN:List Str}(lV:∀(i:Nat) (y:Str) (j:Nat),N[many+i]?=some y->fr[i]?=some j->scope.names.lookup y=some .free/\XN[j]?=some y)(Z:L2.St)(i:Nat)(x:Str)(v:V)(e1:N[i]?=some x)(e2:(aO many fr Z)[i]?=some (some v)):scope.names.lookup x=some .free/\∃j:Nat,XN[j]?=some x/\Z[j]?=some (some v):=by
 unfold aO at e2;by_cases hi:i<many
 ·rw[jw (by simpa using hi),vX,if_pos hi] at e2;cases e2
 ·rw[jO (by simpa using zZ hi),vY,oU] at e2;cases z:fr[i-many]? with
  |none=>rw[z] at e2;cases e2
  |some j=>
   rw[z] at e2;have e3:(Z[j]?).join=some v:=by simpa using e2
   obtain⟨a1,a2⟩:=lV (i-many) x j (by rw[show many+(i-many)=i by omega];exact e1) z;exact⟨a1,j,a2,FN e3⟩
theorem Ut{g:TG}(hc:X.aj=true)(B':cC X.env.scope scope)(hi:SI X cA ao aj F EX tg iter w)(hN:N.length=many+fr.length)
  (lV:∀(i:Nat) (y:Str) (j:Nat),N[many+i]?=some y->fr[i]?=some j->scope.names.lookup y=some .free/\X.N[j]?=some y)
  (hg:∀cl C s3 H3 fp ak,PG (X.blk scope cl N C s3 H3 fp ak) tg g) (hT:dN X.K cA g aF) (cV:∀i∈aF,i<many)
  (ht:∀cl C s3 H3 fp ak,zc (X.blk scope cl N C s3 H3 fp ak) cA ao aj F (λ_ _ _ _=>False) ifs cond) (he:∀cl C s3 H3 fp ak,SE (X.blk scope cl N C s3 H3 fp ak) cA ao aj F (λ_ _ _ _=>False) elt B)
  (hs:∀x,foldedSetIterable iter X.env x=pure x:=by intro _;rfl):SE X cA ao aj F EX (.ListComp elt [⟨tg,iter,ifs,0⟩] scope pos) (.comp fz B aF w fr many cond):=
 PE.weak (Q6 hc B' hi (⟨hg,ht,he⟩ : Parts X elt tg ifs scope N g (m9 X.K cA (λ_ _ _ _=>False) (lC ao aj F cond)) (tE X.K cA (λ_ _ _ _=>False) (ev ao aj F B))) (ZY:=aO many fr) (λZ=>by simp[aO,hN]) (λZ i x v e1 e2=>Kf lV Z i x v e1 e2) hs) λZ H Q hh=>Us (iter':=iter) hT cV hh
end
section
variable (K:W.Frag)(cA:Cl)
def aH(m:MS)(U:Ph)(H:Hp)(s:S)(D:Ends)(EX:XS):Prop:=match m s with
 |some (.nx J,s')=>∀U' H' Z',Ext U H U' H'->au K cA U' H' s'->aG K cA U' H' Z' J->D.nx Z' H'
 |some (.bk J,s')=>∀U' H' Z',Ext U H U' H'->au K cA U' H' s'->aG K cA U' H' Z' J->D.bk Z' H'
 |some (.ct J,s')=>∀U' H' Z',Ext U H U' H'->au K cA U' H' s'->aG K cA U' H' Z' J->D.ct Z' H'
 |some (.rt d,s')=>∀U' H' v,Ext U H U' H'->au K cA U' H' s'->aJ K cA U' H' d v->D.rt v H'
 |some (.er c fs J,s')=>∀U' H' Z',Ext U H U' H'->au K cA U' H' s'->aG K cA U' H' Z' J->∀dx,gw K cA U' H' c fs dx->EX Z' (.ref (cA.a c)) dx H'
 |none=>False
noncomputable def tS(EX:XS)(m:Vs->MS):TS:=λD Z H=>∃U J s,aG K cA U H Z J/\au K cA U H s/\aH K cA (m J) U H s D EX
end
section
variable {K:W.Frag}{cA:Cl}{U U':Ph}{H H':Hp}{s:S}{Z:L2.St}{J:Vs}{EX:XS}{D:Ends}
theorem aH.ext{m:MS}(x:Ext U H U' H')(h:aH K cA m U H s D EX):aH K cA m U' H' s D EX:=by
 unfold aH at *;split at h<;>first
  |exact λU2 H2 a y r l=>h U2 H2 a (x.trans y) r l
  |exact h.elim
theorem aH.ofM{α:Type}{m:M α}{k:α->MS}(hL:aG K cA U H Z J)(hz:∀a∈U.l,U.z a)(h:aH K cA (ofM m J k) U H s D EX):Run K cA m U H s (λa s1 U1 H1=>Ext U H U1 H1/\au K cA U1 H1 s1/\aH K cA (k a) U1 H1 s1 D EX) (eX K cA EX Z):=by
 unfold aH Mi.ofM at h;unfold Run;cases e:m s with
 |none=>rw[e] at h;exact h
 |some r=>
  obtain⟨r,s1⟩:=r;rw[e] at h;cases r with
  |er c fs=>exact λU1 H1 x r=>h U1 H1 Z x r (hL.mono x hz)
  |ok a=>
   intro U1 H1 x r;refine⟨x,r,?_⟩;have h2:aH K cA (k a) U H s1 D EX:=h;exact h2.ext x
theorem aH.then_(h:aH K cA (bL m k) U H s D EX):aH K cA m U H s {D with nx:=λZ' H'=>∃U' J' s',aG K cA U' H' Z' J'/\au K cA U' H' s'/\aH K cA (k J') U' H' s' D EX} EX:=by
 unfold aH bL at h;unfold aH;cases e:m s with
 |none=>rw[e] at h;exact h
 |some r=>
  obtain⟨r,s1⟩:=r;rw[e] at h;cases r with
  |nx J=>
   intro U1 H1 Z1 x r l;have h2:aH K cA (k J) U H s1 D EX:=h;exact⟨U1,J,s1,l,r,h2.ext x⟩
  |bk J=>exact h
  |ct J=>exact h
  |rt d=>exact h
  |er c fs J=>exact h
end
section
variable (X:Cx)(cA:Cl)(ao:Nat->Nat->Bool)(aj:Bool)(F:Bool->Fn)(EX:XS)
def SS(st:Stmt)(m:St):Prop:=PS X st (tS X.K cA EX (ex ao aj F m))
def oH(st:List Stmt)(m:eG):Prop:=jX X st (tS X.K cA EX (exs ao aj F m))
end
section
variable {X:Cx}{cA:Cl}{ao:Nat->Nat->Bool}{aj:Bool}{F:Bool->Fn}{EX:XS}{a b c d e:Expr}{A B C:E}{pos p p2:Pos}{st:Stmt}{sts body orelse:List Stmt}{m:St}{ms mb me mh:eG}{es:List Expr}{Xs:Es}{x y n:Str}{i j:Nat}
theorem PS.weak{t t':TS}(h:PS X st t)(f:∀D Z H,t' D Z H->t D Z H):PS X st t':=λak s Z H D I q=>h ak s Z H D I (f D Z H q)
theorem jX.weak{t t':TS}(h:jX X sts t)(f:∀D Z H,t' D Z H->t D Z H):jX X sts t':=λak s Z H D I q=>h ak s Z H D I (f D Z H q)
theorem Uu:oH X cA ao aj F EX [] .nil:=jX.weak Nh λD Z H hh=>un hh λU J s hL hS h=>h U H Z Ext.refl hS hL
theorem Uv(h1:SS X cA ao aj F EX st m)(h2:oH X cA ao aj F EX sts ms):oH X cA ao aj F EX (st::sts) (.cons m ms):=jX.weak (Ni h1 h2) λD Z H hh=>un hh λU J s hL hS h=>by
 have h:aH X.K cA (bL (ex ao aj F m J) λJ'=>exs ao aj F ms J') U H s D EX:=h;exact⟨U,J,s,hL,hS,h.then_⟩
theorem Uw(ha:SE X cA ao aj (F aj) EX a A)(hs:swapsWith a none pos.line X.env=pure false:=by rfl):SS X cA ao aj F EX (.Expr a pos) (.ex A):=PS.weak (Nj ha hs) λD Z H hh=>un hh λU J s hL hS h=>
 ⟨U,J,s,hL,hS,(aH.ofM hL hS.lz h).imp λd s1 U1 H1 ⟨x1,aD,h1⟩ v rv=>h1 U1 H1 Z Ext.refl aD (hL.mono x1 hS.lz)⟩
theorem Ux(ha:SE X cA ao aj (F aj) EX a A):SS X cA ao aj F EX (.Return (some a) pos) (.ret A):=PS.weak (Nk ha) λD Z H hh=>un hh λU J s hL hS h=>
 ⟨U,J,s,hL,hS,(aH.ofM hL hS.lz h).imp λd s1 U1 H1 ⟨x1,aD,h1⟩ v rv=>h1 U1 H1 v Ext.refl aD rv⟩
theorem Uy(hN:X.N.Nodup)(hi:X.N[i]?=some x)(hx:Loc X.env.scope x)(ha:SE X cA ao aj (F aj) EX a A)(hs:swapsWith a (some (.Name x p)) pos.line X.env=pure false:=by rfl)(hf:X.fn x=true\/X.env.scope.names.lookup x=some .local:=by first|exact .inl rfl|exact .inr rfl) :
  SS X cA ao aj F EX (.Assign [.Name x p] a pos) (.asg (.nm i) A):=PS.weak (Nu hN hi hx ha hs hf) λD Z H hh=>un hh λU J s hL hS h=>
 ⟨U,J,s,hL,hS,(aH.ofM hL hS.lz h).imp λd s1 U1 H1 ⟨x1,aD,h1⟩ v rv=>h1 U1 H1 _ Ext.refl aD ((hL.mono x1 hS.lz).set rv)⟩
theorem Kg{k}(hc:X.aj=true)(hN:X.N.Nodup)(hi:X.N[i]?=some x)(hj:X.N[j]?=some y)(hx:Loc X.env.scope x)(hy:Loc X.env.scope y)(zj:X.fn x=true\/X.env.scope.names.lookup x=some .local)(zm:X.fn y=true\/X.env.scope.names.lookup y=some .local) :
  PG X (.Tuple [.Name x px,.Name y py] k pos) (mJ X.K 2 (dI (bW i) (dI (bW j) mH))):=Nq hc (HD (Ak hN hi hx zj) (HD (Ak hN hj hy zm) Np))
theorem Uz{K:W.Frag}{U:Ph}{H:Hp}{s:S}{J:Vs}{Z:L2.St}{D:Ends}{d:Xv}{v:V}(b_:aj=true)(hL:aG K cA U H Z J)(hS:au K cA U H s)(rv:aJ K cA U H d v)(h:aH K cA (store ao aj (F aj) (.tp [i,j]) d J) U H s D EX):mJ K 2 (dI (bW i) (dI (bW j) mH)) v Z H D.nx:=by
 have h:aH K cA (if aj=true then ofM (M.bd (dat d) λd=>M.opt ((f9 d).bind λds=>cO [i,j] (ds.map Xv.d) J)) J (λJ' s=>some (Out.nx J',s)) else λ_=>none) U H s D EX:=h;rw[if_pos b_] at h;obtain⟨dd,e0,rd,h1⟩:=Fz rv (aH.ofM hL hS.lz h);obtain⟨J',e,_,aD,h2⟩:=Run.opt hS h1;refine(J_ i j).run U H s Z J J' dd v _ hL hS rd e λZ' UG _ _=>h2 U H Z' Ext.refl hS UG
theorem UJ{k}(hc:X.aj=true)(b_:aj=true)(hN:X.N.Nodup)(hi:X.N[i]?=some x)(hj:X.N[j]?=some y)(hx:Loc X.env.scope x)(hy:Loc X.env.scope y)(zj:X.fn x=true\/X.env.scope.names.lookup x=some .local)(zm:X.fn y=true\/X.env.scope.names.lookup y=some .local)(ha:SE X cA ao aj (F aj) EX a A)
  (hs:swapsWithSole [.Tuple [.Name x px,.Name y py] k pt] a pos.line X.env=pure false:=by rfl) (hw:swappedStores [.Tuple [.Name x px,.Name y py] k pt] a X.env=pure none:=by rfl)
  (h1:(assignEach [.Tuple [.Name x px,.Name y py] k pt] X.env).map (·.2)=[assign (.Tuple [.Name x px,.Name y py] k pt) X.env]:=by rfl) :
  SS X cA ao aj F EX (.Assign [.Tuple [.Name x px,.Name y py] k pt] a pos) (.asg (.tp [i,j]) A):=PS.weak (HF ha (Kg hc hN hi hj hx hy zj zm) hs hw h1) λD Z H hh=>un hh λU J s hL hS h=>
 ⟨U,J,s,hL,hS,(aH.ofM hL hS.lz h).imp λd s1 U1 H1 ⟨x1,aD,h1⟩ v rv=>Uz b_ (hL.mono x1 hS.lz) aD rv h1⟩
theorem UL(hO:SE X cA ao aj (F aj) EX oo O)(hI:SE X cA ao aj (F aj) EX ii I')(ha:SE X cA ao aj (F aj) EX a A)
  (Gp:∀v,assign (.Subscript oo ii p) X.env v=(do
   let ov <-holding [v] (eval oo X.env)
   let iv <-holding [v,ov] (eval ii X.env)
   standAt p
   holding [v,ov,iv] (setItem ov iv v)
   release [v,ov,iv] []):=by intro _;rfl) (hs:swapsWithSole [.Subscript oo ii p] a pos.line X.env=pure false:=by rfl) (hw:swappedStores [.Subscript oo ii p] a X.env=pure none:=by rfl)
  (h1:(assignEach [.Subscript oo ii p] X.env).map (·.2)=[assign (.Subscript oo ii p) X.env]:=by rfl) :
  SS X cA ao aj F EX (.Assign [.Subscript oo ii p] a pos) (.asg (.ao O I') A):=PS.weak (HF ha (Nt hO hI PB Gp) hs hw h1) λD Z H hh=>un hh λU J s hL hS h=>by
 refine⟨U,J,s,hL,hS,(aH.ofM hL hS.lz h).imp λd s1 U1 H1 ⟨x1,aD,h1⟩ v rv=>?_⟩;obtain⟨dd,e0,rd,h2⟩:=Fz rv (aH.ofM (hL.mono x1 hS.lz) aD.lz h1);refine bD (hL.mono x1 hS.lz) aD h2 λxo H2 U2 d2 s2 x2 hL2 aL r2 h3=>bD hL2 aL h3 λyi H3 U3 d3 s3 x3 lG fL r3 h4=>?_;obtain⟨k,_,ek,h5⟩:=yO r3 h4;obtain⟨n,ad,xs,vs,_,ea,e1,f1,g1,q1,h6⟩:=Gg fL (r2.mono x3 aL.lz) h5;subst ek ea;cases ej:L2.pG xs.length k with
 |none=>simp only[ej] at h6;exact h6.elim
 |some jj=>
  simp only[ej] at h6;refine⟨ad,vs,k,jj,rfl,rfl,g1,by rw[<-q1.len];exact ej,?_⟩;have UW:=(rd.mono x2 aD.lz).mono x3 aL.lz;have lX:=fL.write e1 f1 (q1.set UW jj);have x4:Ext U3 H3 U3 (upd H3 ad (.lst (vs.set jj v))):=Ext.write f1 ⟨_,g1⟩;obtain⟨_,_,h8⟩:=h6 U3 _ x4 lX;exact h8 U3 _ Z Ext.refl lX (lG.mono x4 fL.lz)
theorem U6{kt k2 mK}(hc:X.aj=true)(b_:aj=true)(hN:X.N.Nodup)(hi:X.N[i]?=some x)(hj:X.N[j]?=some y)(pq:i≠j)(hx:X.env.scope.names.lookup x=some .local)(hy:X.env.scope.names.lookup y=some .local)
  (ha:SE X cA ao aj (F aj) EX a A) (hb:SE X cA ao aj (F aj) EX b B) (h1:starEach [a,b] X.env=(false,eval a X.env)::starEach [b] X.env) (h2:starEach [b] X.env=(false,eval b X.env)::starEach [] X.env)
  (hw:swappedStores [.Tuple [.Name x px,.Name y py] kt pt] (.Tuple [a,b] k2 mK) X.env=pure (some [x,y]))
  (hs:swapsWithSole [.Tuple [.Name x px,.Name y py] kt pt] (.Tuple [a,b] k2 mK) pos.line X.env=pure false:=by rfl) :
  SS X cA ao aj F EX (.Assign [.Tuple [.Name x px,.Name y py] kt pt] (.Tuple [a,b] k2 mK) pos) (.par i j A B):=PS.weak (Nv hc hN hi hj pq hx hy (ou ha (ou hb sS h2) h1) hw hs) λD Z H hh=>un hh λU J s hL hS h=>by
 have h:aH X.K cA (if aj=true then ofM (M.bd (ev ao aj (F aj) A J) λx=>M.bd (ev ao aj (F aj) B J) λy=>M.ret (x,y)) J (λxy s=>some (.nx ((J.set i (some xy.1)).set j (some xy.2)),s)) else λ_=>none) U H s D EX:=h;rw[if_pos b_] at h;refine bD hL hS (aH.ofM hL hS.lz h) λx H1 U1 d1 s1 x1 hL1 aD r1 h1=>bD hL1 aD h1 λy H2 U2 d2 s2 x2 hL2 aL r2 h2=>?_;obtain⟨_,_,h3⟩:=h2.bC aL;exact⟨x,y,rfl,h3 U2 H2 _ Ext.refl aL ((hL2.set (r1.mono x2 aD.lz)).set r2)⟩
theorem U7(hc:ST X cA ao aj (F aj) EX c C)(ht:oH X cA ao aj F EX body mb)(he:oH X cA ao aj F EX orelse me):SS X cA ao aj F EX (.If c body orelse pos) (.iff C mb me):=PS.weak (Nm hc ht he) λD Z H hh=>un hh λU J s hL hS h=>by
 refine⟨U,J,s,hL,hS,(aH.ofM hL hS.lz h).imp λk s1 U1 H1 ⟨x1,aD,h1⟩=>?_⟩;cases k with
 |true=>exact iT ⟨U1,J,s1,hL.mono x1 hS.lz,aD,h1⟩
 |false=>exact iF ⟨U1,J,s1,hL.mono x1 hS.lz,aD,h1⟩
noncomputable def jo(m:MS)(kN:Vs->MS):MS:=λs=>match m s with
 |some (.nx J',s')=>kN J' s'
 |some (.ct J',s')=>kN J' s'
 |some (.bk J',s')=>some (.nx J',s')
 |r=>r
theorem Kh{K:W.Frag}{U:Ph}{H:Hp}{s:S}{D:Ends}{m:MS}{kN:Vs->MS}{N:L2.St->Hp->Prop}(hN:∀U' J' s' Z' H',Ext U H U' H'->aG K cA U' H' Z' J'->au K cA U' H' s'->aH K cA (kN J') U' H' s' D EX->N Z' H')(h:aH K cA (jo m kN) U H s D EX) :
  aH K cA m U H s {D with nx:=N,ct:=N,bk:=D.nx} EX:=by
 unfold aH jo at h;unfold aH;cases e:m s with
 |none=>rw[e] at h;exact h
 |some r=>
  obtain⟨r,s1⟩:=r;rw[e] at h;cases r with
  |nx J'=>
   intro U1 H1 Z1 x r l;have h2:aH K cA (kN J') U H s1 D EX:=h;exact hN U1 J' s1 Z1 H1 x l r (h2.ext x)
  |ct J'=>
   intro U1 H1 Z1 x r l;have h2:aH K cA (kN J') U H s1 D EX:=h;exact hN U1 J' s1 Z1 H1 x l r (h2.ext x)
  |bk J'=>exact h
  |rt d=>exact h
  |er c fs J'=>exact h
theorem U8(hp:PassesOwn (model X.prog X.w) X.A X.env X.xe)(hc:ST X cA ao aj (F aj) EX c C)(hb:oH X cA ao aj F EX body mb):SS X cA ao aj F EX (.While c body [] pos) (.wh C mb):=PS.weak (Nz hp hc hb) λD Z H hh=>un hh λU J s hL hS h=>by
 refine⟨λm Z H=>∃U J s,aG X.K cA U H Z J/\au X.K cA U H s/\aH X.K cA (gj (λJ=>M.bd (ev ao aj (F aj) C J) bool) (λJ=>exs ao aj F mb J) m J) U H s D EX,⟨qU,U,J,s,hL,hS,h⟩,?_⟩;rintro m Z H ⟨U,J,s,hL,hS,h⟩;cases m with
 |zero=>exact h.elim
 |succ m=>
  refine⟨U,J,s,hL,hS,(aH.ofM (k:=λok=>if ok=true then jo (exs ao aj F mb J) (gj (λJ=>M.bd (ev ao aj (F aj) C J) bool) (λJ=>exs ao aj F mb J) m) else λs=>some (.nx J,s)) hL hS.lz h).imp λk s1 U1 H1 ⟨x1,aD,h1⟩=>?_⟩;cases k with
  |true=>
   rw[if_pos rfl] at h1 ⊢;refine⟨_,λZ' H' z=>⟨m,Nat.lt_succ_self m,z⟩,U1,J,s1,hL.mono x1 hS.lz,aD,Kh (λU' J' s' Z' H' _ l r q=>?_) h1⟩;exact⟨U',J',s',l,r,q⟩
  |false=>
   rw[if_neg zW] at h1 ⊢;exact h1 U1 H1 Z Ext.refl aD (hL.mono x1 hS.lz)
def SG(X:Cx)(cA:Cl)(ao:Nat->Nat->Bool)(aj:Bool)(F:Bool->Fn)(EX:XS)(tg:Expr)(t:Tg):Prop:=∃g:TG,PG X tg g/\∀(U:Ph) (H:Hp) (s:S) (Z:L2.St) (J:Vs) (d:Xv) (v:V) (D:Ends),aG X.K cA U H Z J->au X.K cA U H s->aJ X.K cA U H d v->
 aH X.K cA (store ao aj (F aj) t d J) U H s D EX->g v Z H D.nx
theorem U9(hN:X.N.Nodup)(hi:X.N[i]?=some x)(hx:Loc X.env.scope x)(hf:X.fn x=true\/X.env.scope.names.lookup x=some .local:=by first|exact .inl rfl|exact .inr rfl):SG X cA ao aj F EX (.Name x pos) (.nm i):=
 ⟨_,Ak hN hi hx hf,λU H s Z J d v D hL hS r h=>h U H _ Ext.refl hS (hL.set r)⟩
theorem U_(hp:PassesOwn (model X.prog X.w) X.A X.env X.xe)(hc:X.aj=true)(b_:aj=true)(ha:SI X cA ao aj (F aj) EX tg a w)(hg:SG X cA ao aj F EX tg t)(hb:oH X cA ao aj F EX body mb)
  (hs:∀x,foldedSetIterable a X.env x=pure x:=by intro _;rfl):SS X cA ao aj F EX (.For tg a body [] pos) (.fr t w mb):=by
 obtain⟨g,hG,hg⟩:=hg;refine PS.weak (N_ hp hc ha hG hb hs) λD Z H hh=>un hh λU J s hL hS h=>?_;have h:aH X.K cA (if aj=true then ofM (gb ao aj (F aj) w J) J λcn=>cR cn.1 (λd J=>bL (store ao aj (F aj) t (.d d) J) λJ'=>exs ao aj F mb J') (cn.2+1) 0 J else λ_=>none) U H s D EX:=h;rw[if_pos b_] at h;refine⟨U,J,s,hL,hS,(aH.ofM hL hS.lz h).imp λcn s1 U1 H1 ⟨x1,aD,h1⟩ aK hJ=>?_⟩;have hL1:=hL.mono x1 hS.lz;obtain⟨c,n⟩:=cn;dsimp only at h1 hJ;refine⟨λi m Z' H'=>∃U' J' s',Ext U1 H1 U' H'/\aG X.K cA U' H' Z' J'/\au X.K cA U' H' s'/\aH X.K cA (cR c (λd J=>bL (store ao aj (F aj) t (.d d) J) λJ'=>exs ao aj F mb J') m i J') U' H' s' D EX,⟨n+1,U1,J,s1,Ext.refl,hL1,aD,h1⟩,?_⟩;rintro i m Z' H' ⟨U',J',s',x2,hL2,aL,h4⟩;cases m with
 |zero=>exact h4.elim
 |succ m=>
  cases ei:c.at i s' with
  |none=>
   exfalso
   unfold aH cR at h4;simp only[ei] at h4
  |some oi=>
   cases oi with
   |none=>
    refine .inl ⟨hJ.stop U' H' H' s' i x2 bN.refl aL ei,?_⟩;unfold aH cR at h4;simp only[ei] at h4;exact h4 U' H' Z' Ext.refl aL hL2
   |some xi=>
    refine .inr ⟨hJ.go U' H' H' s' i xi x2 bN.refl aL ei,_,λZ3 H3 z=>⟨m,Nat.lt_succ_self m,z⟩,λv H3 hy=>?_⟩;obtain⟨gr,rx⟩:=hJ.mL U' H' H' s' i xi v H3 x2 bN.refl aL ei hy;have h5:aH X.K cA (jo (bL (store ao aj (F aj) t (.d xi) J') λJ'=>exs ao aj F mb J') (cR c (λd J=>bL (store ao aj (F aj) t (.d d) J) λJ'=>exs ao aj F mb J') m (i+1))) U' H' s' D EX:=by
     unfold aH at h4 ⊢;have e:cR c (λd J=>bL (store ao aj (F aj) t (.d d) J) λJ'=>exs ao aj F mb J') (m+1) i J' s'=jo (bL (store ao aj (F aj) t (.d xi) J') λJ'=>exs ao aj F mb J') (cR c (λd J=>bL (store ao aj (F aj) t (.d d) J) λJ'=>exs ao aj F mb J') m (i+1)) s':=by
      rw[cR];simp only[ei];rfl
     rw[e] at h4;exact h4
    exact hg U' H3 s' Z' J' (.d xi) v _ (hL2.mono gr.ext aL.lz) (aL.grow gr) (.d rx) (aH.then_ (Kh (λU4 J4 s4 Z4 H4 x4 l4 r4 q4=>⟨U4,J4,s4,(x2.trans gr.ext).trans x4,l4,r4,q4⟩) (h5.ext gr.ext)))
end
end Mi
namespace L2
open PySem PySem.Spec PyProof.Rows
structure qZ(K:W.Frag)(x qual:Str)(st:Stmt)(f:Addr)(fd:FuncData):Prop where
 ex:∃(oc:Value) (od:Option Addr) (kV doc pm:Value) (an:Option Addr) (cdv ct:Value) (osl:Array (Option Value)),
  fd=PySem.W.fnOf x qual (bf st) (aM st) (aA st) .none kV doc pm an cdv ct/\K.lookup f=some ⟨oc,od,.func fd,osl⟩/\PySem.W.codeIn K cdv qual=true
 kp:PySem.W.keepIn K (.ref f)=true
section
variable {P:Program}{w:World}{K:W.Frag}{mg:Str->Option Value}{base:Heap}
end
end L2
namespace Mi
open PySem PySem.Spec PyProof.Rows L2
section
variable {P:Program}{w:World}{K:W.Frag}{mg:Str->Option Value}{base:Heap}{cA:Cl}{ao:Nat->Nat->Bool}{T:Nat->Option Df}
theorem Kl{U:Ph}{H:Hp}{N:List Str}{ds:List Xv}{vs:List V}{m p:Nat}(r:aV K cA U H ds vs)(hp:p=ds.length)(hm:m=N.length):aG K cA U H (L2.start N vs) (ds.map some++List.replicate (m-p) none):=by
 subst hp hm;unfold L2.start;have hl:=r.len;refine⟨by simp[hl],λi d e=>?_⟩;by_cases hi:i<ds.length
 ·rw[jw (by simpa using hi),oU] at e;cases z:ds[i]? with
  |none=>rw[z] at e;cases e
  |some x=>
   rw[z] at e;cases e;obtain⟨v,a,b⟩:=r.get z;exact⟨v,by rw[jw (by simp;lia),oU,a];rfl,b⟩
 ·rw[jO (by simpa using hi),vX] at e;split at e<;>cases e
theorem Bk{U:Ph}{H:Hp}{s:S}{ds:List Xv}{k n:Nat}{cm:Bool}{df:Df}{Q:VK}{E:XK}(hT:T n=some df)
  (h:Run K cA (call ao T (k+1) cm n ds) U H s (λd _ U' H'=>∀v,aJ K cA U' H' d v->Q v H') (λc fs _ U' H'=>∀dx,gw K cA U' H' c fs dx->E (.ref (cA.a c)) dx H')) :
  ds.length=df.eN/\aH K cA (exs ao cm (λc=>call ao T k c) df.body (ds.map some++List.replicate (df.many-df.eN) none)) U H s {nx:=λ_ H'=>Q .non H',rt:=Q} (λ_ C dx H'=>E C dx H'):=by
 unfold call at h;simp only[hT] at h;by_cases hl:ds.length=df.eN
 ·refine⟨hl,?_⟩;rw[if_pos hl] at h;unfold Run at h;unfold aH;cases e:exs ao cm (λc=>call ao T k c) df.body (ds.map some++List.replicate (df.many-df.eN) none) s with
  |none=>simp only[e] at h
  |some r=>
   obtain⟨r,s1⟩:=r;simp only[e] at h;cases r with
   |nx J=>exact λU' H' Z' x r l=>h U' H' x r _ (.d .non)
   |rt d=>exact λU' H' v x r rv=>h U' H' x r v rv
   |er c fs J=>exact λU' H' Z' x r l=>h U' H' x r
   |bk J=>exact h.elim
   |ct J=>exact h.elim
 ·rw[if_neg hl] at h;exact h.elim
theorem oJ:bY P w K mg base (eF P w) cm 0 f fd ps (lW K cA (call ao T 0 cm n)):=
 ⟨λvs H Q E ⟨_,_,_,_,_,h⟩=>h.elim,λA outer s H args us vs Q E _ _ _ _ _ ⟨_,_,_,_,_,h⟩=>h.elim⟩
theorem Va{x qual:Str}{st:Stmt}{f:Addr}{fd:FuncData}{N ps:List Str}{k n:Nat}{cm:Bool}{df:Df}(F:qZ K x qual st f fd)(S:bG N ps (aA st))(hT:T n=some df)(hp:df.eN=ps.length)(hm:df.many=N.length)
  (hb:∀(cdv:Value) (A:Around) (outer:List Env) (s:Shared) (H:Hp) (E:XK),bJ (k+1) A->
   oH (bZ (eF P w) P w K mg base N qual (aA st) f cdv A outer s H E cm) cA ao cm (λc=>call ao T k c) (λ_ C dx H'=>E C dx H') (aM st) df.body) :
  bY P w K mg base (eF P w) cm (k+1) f fd ps (lW K cA (call ao T (k+1) cm n)):=by
 obtain⟨oc,od,kV,doc,pm,an,cdv,ct,osl,rfl,lk,gG⟩:=F.ex;refine Ih lk gG S (λvs H Q E ⟨U,ds,s,r,hS,h⟩=>?_) λA outer s H vs Q E hr ⟨U,ds,st',r,hS,h⟩=>?_
 ·rw[<-r.len,(Bk hT h).1,hp]
 ·obtain⟨hl,h2⟩:=Bk hT h;exact⟨_,hb cdv A outer s H E hr,U,_,st',Kl r hl.symm hm,hS,h2⟩
theorem Vb{x qual:Str}{st:Stmt}{f:Addr}{fd:FuncData}{N ps:List Str}{k n:Nat}{cm:Bool}{df:Df}(F:qZ K x qual st f fd)(S:bG N ps (aA st))(hT:T n=some df)(hp:df.eN=ps.length)(hm:df.many=N.length)
  (hb:∀(cdv:Value) (A:Around) (outer:List Env) (s:Shared) (H:Hp) (E:XK),bJ k (A.deeper (envOfC qual (aA st) s.heap.objs.size f cdv))->
   oH (bZ (eF P w) P w K mg base N qual (aA st) f cdv A outer s H E cm) cA ao cm (λc=>call ao T k c) (λ_ C dx H'=>E C dx H') (aM st) df.body) :
  bY P w K mg base (eF P w) cm (k+1) f fd ps (lW K cA (call ao T (k+1) cm n)):=Va F S hT hp hm λcdv A outer s H E hr=>hb cdv A outer s H E (hr.deeper _)
end
theorem Vc{K:W.Frag}{cA:Cl}{m:List Xv->M Xv}{H:Hp}{a:Addr}{ns:List Int}(hq:cH K H a (ns.map V.int))(hm:∃s',m [.d (.fl (ns.map D.int))] []=some (.ok (.d (.bl true)),s')) :
  lW K cA m [.ref a] H (λv _=>v=.bl true) λ_ _ _=>False:=by
 have rs:∀(l:List Int) U,aq K cA U H (l.map D.int) (l.map V.int):=λl U=>by
  induction l with
  |nil=>exact .nil
  |cons i l ih=>exact .cons (.int i) ih
 have hl:LstAt K ⟨λ_=>False,[]⟩ H a (ns.map V.int):=by
  rcases hq with h|h
  ·exact .inl ⟨h,λz=>z⟩
  ·exact .inr (.inr h)
 refine⟨⟨λ_=>False,[]⟩,[.d (.fl (ns.map D.int))],[],.cons (.d (.fl hl (rs ns _))) .nil,⟨rfl,(λn o b e1 e2=>by simp at e1),wj,(λb hb=>by cases hb),(λb z=>False.elim z)⟩,?_⟩;obtain⟨s',e⟩:=hm;unfold Run;rw[e];intro U' H' _ _ v rv;cases rv with
 |d rv=>cases rv;rfl
theorem Vd:Raises X (λ_ _ _ _=>False):=λ_ _ _ _ _ _ _ _ _ _ _ _ _ z=>z.elim
theorem uo(r:bJ k A):A.units+60<cLine:=by have:=r.un;lia
noncomputable def aC:Expr->Bool
 |.Starred _ _=>false
 |_=>true
theorem bx(h:aC e=true):starEach (e::es) env=(false,eval e env)::starEach es env:=by
 cases e<;>first|rfl|cases h
theorem bH:∀{es:List Expr} {env:Env} {pos:Pos},es.all aC=true->(backTo pos (starEach es env)).any (·.1)=false
 |[],_,_,_=>rfl
 |e::es,env,pos,h=>by
  rw[rJ,dU] at h;rw[bx h.1];show (false||(backTo pos (starEach es env)).any (·.1))=false;rw[bH h.2];rfl
theorem j9:∀{es:List Expr} {env:Env} {pos:Pos},es.all aC=true->(backTo pos (starEach es env)).all (λx=>!x.1)=true
 |[],_,_,_=>rfl
 |e::es,env,pos,h=>by
  rw[rJ,dU] at h;rw[bx h.1];show (true&&(backTo pos (starEach es env)).all (λx=>!x.1))=true;rw[j9 h.2];rfl
theorem p7(h1:aC e=true)(h2:es.all aC=true)(h3:decide (es.length<28)=true):((backTo pos (starEach (e::es) env)).all (λx=>!x.1)&&(backToKw pos (keywordEach [] env)).all (λx=>x.1.isSome)&&decide ((e::es).length+([]:List Keyword).length+(if ([]:List Keyword).isEmpty then 0 else 1)<30))=true:=by
 rw[j9 (es:=e::es) (by rw[rJ,h1,h2];rfl)];have:=qw h3;have z:(e::es).length+([]:List Keyword).length+(if ([]:List Keyword).isEmpty then 0 else 1)<30:=by
  show es.length+1+0+0<30
  lia
 rw[decide_eq_true z];rfl
noncomputable def p8(sc scope:Scope):Bool:=(match scope.kind with|.function=>true|_=>false)&&scope.names.all λy=>match y.2 with
 |.cell=>(match scope.names.lookup y.1 with|some .cell=>true|_=>false)
 |.free=>(match sc.names.lookup y.1 with|some .cell=>true|some .free=>true|_=>false)
 |.local=>(match scope.names.lookup y.1 with|some .local=>true|_=>false)
 |_=>true
theorem cC.of(h:p8 sc scope=true):cC sc scope:=by
 unfold p8 at h;rw[dU,mj] at h;obtain⟨h1,h2⟩:=h;refine⟨?_,λy hy z=>?_,λy hy z=>?_,λy hy z=>?_⟩
 ·split at h1
  ·assumption
  ·cases h1
 ·have:=h2 y hy;rw[z] at this;dsimp only at this;split at this
  ·assumption
  ·cases this
 ·have:=h2 y hy;rw[z] at this;dsimp only at this;split at this
  ·exact .inl (by assumption)
  ·exact .inr (by assumption)
  ·cases this
 ·have:=h2 y hy;rw[z] at this;dsimp only at this;split at this
  ·assumption
  ·cases this
noncomputable def frB(scope:Scope)(XN:List Str):List Str->List Nat->Bool
 |y::N,j::fr=>(match scope.names.lookup y with|some .free=>true|_=>false)&&decide (XN[j]?=some y)&&frB scope XN N fr
 |[],[]=>true
 |_,_=>false
theorem Km:∀{N:List Str} {fr:List Nat},frB scope XN N fr=true->N.length=fr.length/\∀(i:Nat) (y:Str) (j:Nat),N[i]?=some y->fr[i]?=some j->scope.names.lookup y=some .free/\XN[j]?=some y
 |[],[],_=>⟨rfl,λi y j h=>by simp at h⟩
 |[],_::_,h=>by cases h
 |_::_,[],h=>by cases h
 |y::N,j::fr,h=>by
  unfold frB at h;rw[dU,dU,v7] at h;obtain⟨⟨h1,h2⟩,h3⟩:=h;obtain⟨l,q⟩:=Km h3;refine⟨by simp[l],λi z m e1 e2=>?_⟩;cases i with
  |zero=>
   simp at e1 e2;subst e1 e2;refine⟨?_,h2⟩;split at h1
   ·assumption
   ·cases h1
  |succ i=>exact q i z m (by simpa using e1) (by simpa using e2)
noncomputable def okN(x:Str):Bool:=!(x==("__debug__" : Str)) && !(x==("__classdict__" : Str)) && !decide (x="__name__")
theorem q_(h:okN x=true):(x==("__debug__" : Str))=false/\(x==("__classdict__" : Str))=false/\x≠"__name__":=by
 unfold okN at h;simp only[dU,Bool.not_eq_true',decide_eq_false_iff_not] at h;exact⟨h.1.1,h.1.2,h.2⟩
theorem Gq{env:Env}{k:NameKind}(hk:k≠.free):∀{names:List (Str×NameKind)} {x:Str},names.lookup x=some k->
  (names.map λ(n,k)=>if (k==NameKind.free&&env.scope.kind==.function&&env.kindOf n==some .cell) then (n,NameKind.cell) else (n,k)).lookup x=some k
 |[],x,h=>by simp at h
 |(n,q)::r,x,h=>by
  rw[kO] at h;rw[wk,kO];have hd:∀c:Bool,(if c=true then (n,NameKind.cell) else (n,q)).1=n:=λc=>by cases c<;>rfl
  rw[hd];by_cases z:x=n
  ·subst z;simp only[vd] at h ⊢;cases h
   split
   ·rename_i y;simp only[dU,rM] at y;exact absurd y.1.1 hk
   ·rfl
  ·have z':(x==n)=false:=by simpa using z
   simp only[z'] at h ⊢;exact Gq hk h
noncomputable def nA(K:W.Frag):Sp:=λvs H Q _=>∃(a:Addr) (ns:List Int),vs=[.ref a]/\cH K H a (ns.map V.int)/\ns.length<=63/\True/\∀H',Q (.bl true) H'
theorem Ve{K:W.Frag}{cA:Cl}{m:List Xv->M Xv}(hm:∀ns:List Int,ns.length<=63->∃s',m [.d (.fl (ns.map D.int))] []=some (.ok (.d (.bl true)),s'))(vs:List V)(H:Hp)(Q:VK)(E:XK)(h:nA K vs H Q E):lW K cA m vs H Q E:=by
 obtain⟨a,ns,rfl,hq,hl,hO,k⟩:=h;obtain⟨U,ds,s,r1,r2,h⟩:=Vc (cA:=cA) (m:=m) hq (hm ns hl);refine⟨U,ds,s,r1,r2,?_⟩;unfold Run at h ⊢;split at h
 ·intro U' H' x r v rv;rw[h U' H' x r v rv];exact k H'
 ·exact λU' H' x r dx q=>(h U' H' x r dx q).elim
 ·exact h
theorem uq{K:W.Frag}{fd:FuncData}{p:Str}(h:∀a,bindArgs fd ⟨[a],[]⟩=pure [(p,a)]):Binds K fd [p] []:=.all λus hl=>by
 cases us with
 |nil=>cases hl
 |cons a r=>cases r with
  |nil=>exact h a
  |cons b r=>cases hl
theorem ur{K:W.Frag}{fd:FuncData}{p q:Str}(h:∀a b,bindArgs fd ⟨[a,b],[]⟩=pure [(p,a),(q,b)]):Binds K fd [p,q] []:=.all λus hl=>by
 cases us with
 |nil=>cases hl
 |cons a r=>cases r with
  |nil=>cases hl
  |cons b r=>cases r with
   |nil=>exact h a b
   |cons c r=>cases hl
theorem Vf:bootBuiltins "int"=some (.type "int"):=by decide +kernel
theorem Vg:bootBuiltins "bool"=some (.type "bool"):=by decide +kernel
theorem Vh:bootBuiltins "tuple"=some (.type "tuple"):=by decide +kernel
theorem Vi:bootBuiltins "list"=some (.type "list"):=by decide +kernel
structure JE(X:Cx)(cA:Cl)(ao:Nat->Nat->Bool)(aj:Bool)(F:Fn)(EX:XS)(e:Expr)(m:E):Prop where
 o:SE X cA ao aj F EX e m
structure JA(X:Cx)(cA:Cl)(ao:Nat->Nat->Bool)(aj:Bool)(F:Fn)(EX:XS)(e:List Expr)(m:Es):Prop where
 o:SA X cA ao aj F EX e m
structure JT(X:Cx)(cA:Cl)(ao:Nat->Nat->Bool)(aj:Bool)(F:Fn)(EX:XS)(e:Expr)(m:E):Prop where
 o:ST X cA ao aj F EX e m
structure JW(X:Cx)(cA:Cl)(ao:Nat->Nat->Bool)(aj:Bool)(F:Fn)(EX:XS)(e:Expr)(m:E):Prop where
 o:SW X cA ao aj F EX e m
structure JC(X:Cx)(cA:Cl)(ao:Nat->Nat->Bool)(aj:Bool)(F:Fn)(EX:XS)(e:List Expr)(m:Eo):Prop where
 o:zc X cA ao aj F EX e m
structure JO(X:Cx)(cA:Cl)(ao:Nat->Nat->Bool)(aj:Bool)(F:Fn)(EX:XS)(e:Option Expr)(m:Eo):Prop where
 o:Bg X cA ao aj F EX e m
structure JI(X:Cx)(cA:Cl)(ao:Nat->Nat->Bool)(aj:Bool)(F:Fn)(EX:XS)(tg e:Expr)(m:Wk):Prop where
 o:SI X cA ao aj F EX tg e m
structure JG(X:Cx)(cA:Cl)(ao:Nat->Nat->Bool)(aj:Bool)(F:Bool->Fn)(EX:XS)(e:Expr)(m:Tg):Prop where
 o:SG X cA ao aj F EX e m
structure JS(X:Cx)(cA:Cl)(ao:Nat->Nat->Bool)(aj:Bool)(F:Bool->Fn)(EX:XS)(e:Stmt)(m:St):Prop where
 o:SS X cA ao aj F EX e m
structure JB(X:Cx)(cA:Cl)(ao:Nat->Nat->Bool)(aj:Bool)(F:Bool->Fn)(EX:XS)(e:List Stmt)(m:eG):Prop where
 o:oH X cA ao aj F EX e m
structure JK(X:Cx)(x:Str)(k:NameKind):Prop where
 o:X.env.scope.names.lookup x=some k
structure JP(X:Cx)(cA:Cl)(op:CmpOp)(p:Pr):Prop where
 o:∃r,c7 X (compareOp op) r/\aZ X.K cA p (r2 r)
structure JQ(X:Cx)(cA:Cl)(op:Operator)(p:Pr):Prop where
 o:∃r,c7 X (binaryOp op) r/\aZ X.K cA p (r2 r)
structure JN(X:Cx)(cA:Cl)(kx:Expr)(k:Kd):Prop where
 o:PE X kx (tC (vH cA k))
structure JR(X:Cx)(EX:XS):Prop where
 o:Raises X EX
structure JH(X:Cx):Prop where
 o:PassesOwn (model X.prog X.w) X.A X.env X.xe
structure JY(X:Cx)(tg:Expr)(g:TG):Prop where
 o:PG X tg g
noncomputable def lH:NameKind->Bool
 |.local=>true
 |.cell=>true
 |_=>false
noncomputable def uw:NameKind->Bool
 |.local=>true
 |.cell=>true
 |.free=>true
 |_=>false
section
variable {X:Cx}{cA:Cl}{ao:Nat->Nat->Bool}{aj:Bool}{F:Fn}{EX:XS}{a b c d e:Expr}{A B C Dd E':E}{pos p p2 apos:Pos}{es:List Expr}{Xs:Es}{x y:Str}{k k':NameKind}{q q1 q2 q3:Pr}{fz:Bool}
theorem Ko(h:scope.names.lookup x=some k)(hk:(match k with|.free=>false|_=>true)=true):JK (X.blk scope cl N Cc s3 H3 fp ak) x k:=
 ⟨Gq (by intro z;subst z;cases hk) h⟩
theorem Kp(i:Nat)(hN:X.N[i]?=some x)(h:JK X x k)(hv:uw k=true)(hd:okN x=true):JE X cA ao aj F EX (.Name x pos) (.v i):=
 ⟨Ju i hN (by cases k<;>first|exact .inl h.o|exact .inr (.inl h.o)|exact .inr (.inr h.o)|cases hv) (q_ hd).1 (q_ hd).2.1⟩
theorem Vj(i:Nat)(hN:N[i]?=some x)(h:scope.names.lookup x=some .free)(hd:okN x=true):JE (X.blk scope cl N Cc s3 H3 fp ak) cA ao aj F EX (.Name x pos) (.v i):=
 ⟨Ju i hN (.inr (DX h)) (q_ hd).1 (q_ hd).2.1⟩
theorem bF{i j p}:JE X cA ao aj F EX (.Constant (.int i) j p) (.c (.int i)):=⟨RX⟩
theorem vN{i j p}:JE X cA ao aj F EX (.Constant (.bool i) j p) (.c (.bl i)):=⟨RZ⟩
theorem Vk{j p}:JE X cA ao aj F EX (.Constant .none j p) (.c .non):=⟨R0⟩
theorem Kq(h:∃t,X.mg x=some (.int i t))(hg:JK X x .globalImplicit)(hd:okN x=true):JE X cA ao aj F EX (.Name x pos) (.c (.int i)):=by
 obtain⟨t,h⟩:=h;exact⟨R3 hg.o h (q_ hd).1⟩
theorem qb:JQ X cA .Add .add:=⟨_,Td,Tz⟩
theorem Vl:JQ X cA .Sub .ao:=⟨_,Oc,Te⟩
theorem ux:JQ X cA .Mult .mul:=⟨_,Od,Tf⟩
theorem vO:JQ X cA .FloorDiv .fdiv:=⟨_,Oe,Ti⟩
theorem rm:JQ X cA .Mod .mod:=⟨_,Og,Tj⟩
theorem Vm:JQ X cA .Pow .pow:=⟨_,Oh,Tn⟩
theorem cW(h:JQ X cA op q)(ha:JE X cA ao aj F EX a A)(hb:JE X cA ao aj F EX b B):JE X cA ao aj F EX (.BinOp a op b pos) (.pr fz q (.cons A (.cons B .nil))):=by
 obtain⟨r,h1,h2⟩:=h.o;exact⟨R5 h1 h2 ha.o hb.o⟩
theorem Vn(ha:JE X cA ao aj F EX a A):JE X cA ao aj F EX (.UnaryOp .Not a pos) (.not A):=⟨R8 ha.o⟩
theorem Bl{op}(ha:JE X cA ao aj F EX a A):JE X cA ao aj F EX (.BoolOp op [a] pos) A:=⟨R9 ha.o⟩
theorem Bm{rest:List Expr}(ha:JE X cA ao aj F EX a A)(hb:JE X cA ao aj F EX (.BoolOp .And (b::rest) pos) B):JE X cA ao aj F EX (.BoolOp .And (a::b::rest) pos) (.and A B):=⟨R_ ha.o hb.o⟩
theorem Vo{rest:List Expr}(ha:JE X cA ao aj F EX a A)(hb:JE X cA ao aj F EX (.BoolOp .Or (b::rest) pos) B):JE X cA ao aj F EX (.BoolOp .Or (a::b::rest) pos) (.or A B):=⟨Sd ha.o hb.o⟩
theorem vP{k:Nat}(hr:bJ k X.A):JP X cA .Eq .eq:=⟨_,S8 (uo hr),Tt⟩
theorem Vp{k:Nat}(hr:bJ k X.A):JP X cA .NotEq .ne:=⟨_,S9 (uo hr),Tv⟩
theorem Vq{k:Nat}(hr:bJ k X.A):JP X cA .Lt .lt:=⟨_,wZ.or (Pn (by have:=uo hr;lia)),Tw⟩
theorem Vr:JP X cA .Gt .gt:=⟨_,Oi,Tq⟩
theorem Kr:JP X cA .GtE .ge:=⟨_,Oj,Tr⟩
noncomputable def nF:Expr->Bool
 |.Set _ _ _=>false
 |_=>true
theorem zp(h:nF b=true):behindInMarks op b=false:=by cases b<;>first|rfl|cases h
theorem Bo(ho:JP X cA op q)(ha:JE X cA ao aj F EX a A)(hb:JE X cA ao aj F EX b B)(h1:nF b=true:=by rfl):JE X cA ao aj F EX (.Compare a [op] [b] pos) (.pr true q (.cons A (.cons B .nil))):=by
 obtain⟨r,h2,h3⟩:=ho.o;exact⟨R6 h2 h3 ha.o hb.o (zp h1)⟩
theorem uy(ho:JP X cA op q)(ha:JE X cA ao aj F EX a A)(hb:JE X cA ao aj F EX b B)(h1:nF b=true:=by rfl):JT X cA ao aj F EX (.Compare a [op] [b] pos) (.pr true q (.cons A (.cons B .nil))):=by
 obtain⟨r,h2,h3⟩:=ho.o;exact⟨R7 h2 h3 ha.o hb.o (zp h1)⟩
noncomputable def zu:Expr->Bool
 |.Call _ _ _ _=>true
 |.Name _ _=>true
 |.Subscript _ _ _=>true
 |.Attribute _ _ _=>true
 |_=>false
theorem uz(ha:JE X cA ao aj F EX a A)(he:zu a=true:=by rfl):JT X cA ao aj F EX a A:=⟨Sg ha.o (by cases a<;>first|(intro _;rfl)|cases he)⟩
theorem vQ(ha:JT X cA ao aj F EX a A):JT X cA ao aj F EX (.UnaryOp .Not a pos) (.not A):=⟨Sq ha.o⟩
theorem Vt(ha:JT X cA ao aj F EX a A):JW X cA ao aj F EX (.BoolOp .And [a] pos) A:=⟨Ss ha.o⟩
theorem Ks(ha:JT X cA ao aj F EX a A):JW X cA ao aj F EX (.BoolOp .Or [a] pos) A:=⟨Sv ha.o⟩
theorem Vu{rest:List Expr}(ha:JT X cA ao aj F EX a A)(hb:JW X cA ao aj F EX (.BoolOp .And (b::rest) pos) B):JW X cA ao aj F EX (.BoolOp .And (a::b::rest) pos) (.and A B):=⟨Sw ha.o hb.o⟩
theorem Gs{rest:List Expr}(ha:JT X cA ao aj F EX a A)(hb:JW X cA ao aj F EX (.BoolOp .Or (b::rest) pos) B):JW X cA ao aj F EX (.BoolOp .Or (a::b::rest) pos) (.or A B):=⟨Sx ha.o hb.o⟩
theorem Gu(h:JW X cA ao aj F EX a A):JT X cA ao aj F EX a A:=⟨Sy h.o⟩
theorem cX:JA X cA ao aj F EX [] .nil:=⟨R4⟩
theorem bO(ha:JE X cA ao aj F EX a A)(hr:JA X cA ao aj F EX es Xs)(hs:aC a=true:=by rfl):JA X cA ao aj F EX (a::es) (.cons A Xs):=⟨zev ha.o hr.o (bx hs)⟩
theorem rz{k}(ha:JA X cA ao aj F EX es Xs)(hz:decide (Es.len Xs<=sizeLine)=true:=by rfl):JE X cA ao aj F EX (.Tuple es k pos) (.tup Xs):=⟨SJ ha.o (qw hz)⟩
theorem Bp(ha:JA X cA ao aj F EX es Xs)(hz:decide (Es.len Xs<=sizeLine)=true:=by rfl):JE X cA ao aj F EX (.List es pos) (.lst fz Xs):=⟨SM ha.o (qw hz)⟩
noncomputable def nG:Expr->Bool
 |.Constant _ _ _=>true
 |.Name _ _=>true
 |.Call _ _ _ _=>true
 |.BinOp _ _ _ _=>true
 |.UnaryOp _ _ _=>true
 |.Subscript _ _ _=>true
 |.IfExp _ _ _ _=>true
 |.Attribute _ _ _=>true
 |.Compare _ _ _ _=>true
 |.BoolOp _ _ _=>true
 |_=>false
theorem qd(ha:JE X cA ao aj F EX a A)(hb:JE X cA ao aj F EX b B)(hs:nG b=true:=by rfl):JE X cA ao aj F EX (.Subscript a b pos) (.pr true .ix (.cons A (.cons B .nil))):=⟨SQ TY ha.o hb.o (by cases b<;>first|(intro _ _;rfl)|cases hs)⟩
theorem Ku(ha:JE X cA ao aj F EX a A):JO X cA ao aj F EX (some a) (.yes A):=⟨T5 ha.o⟩
theorem Vv{lo hi:Option Expr}{Lo Hi:Eo}(ha:JE X cA ao aj F EX a A)(hl:JO X cA ao aj F EX lo Lo)(hh:JO X cA ao aj F EX hi Hi):JE X cA ao aj F EX (.Subscript a (.Slice lo hi none p2) pos) (.sl fz A Lo Hi):=⟨T6 ha.o hl.o hh.o⟩
theorem Vw(f:Nat){cm:Bool}{k:Nat}{fa:Addr}{fd:FuncData}{ps:List Str}(Fo:bY X.prog X.w X.K X.mg X.base (eF X.prog X.w) cm k fa fd ps (lW X.K cA (F f)))(jB:cm=true->X.aj=true)(hr:bJ k X.A)(hm:X.mg x=some (.ref fa))(hk:PySem.W.keepIn X.K (.ref fa)=true)(hb:Binds X.K fd ps [])(R:JR X EX)(hg:JK X x .globalImplicit)
  (ha:JA X cA ao aj F EX (e::es) Xs) (hd:okN x=true) (he:aC e=true:=by rfl) (cL:es.all aC=true:=by rfl) :
  JE X cA ao aj F EX (.Call (.Name x p) (e::es) [] pos) (.call f Xs):=⟨Ui Fo jB hr hg.o hm hk hb R.o ha.o (q_ hd).1 (bx he) (bH cL)⟩
theorem Bq(hv:vH cA kd=.ty T)(hm:X.mg x=none)(hb:bootBuiltins x=some (.type T))(hg:JK X x .globalImplicit)(hd:okN x=true):JN X cA (.Name x pos) kd:=⟨λak s Z H Q I h=>by
 rw[hv] at h;exact vm I hg.o hm hb ⟨.ty T,H,I,rfl,h⟩ (q_ hd).2.2 (q_ hd).1⟩
theorem Br(h0:(nq kd).isSome=true)(hm:X.mg "isinstance"=none)(hg:JK X "isinstance" .globalImplicit)(ha:JE X cA ao aj F EX a A)(hk:JN X cA kx kd)(h1:aC a=true:=by rfl)(h2:aC kx=true:=by rfl):JE X cA ao aj F EX (.Call (.Name "isinstance" p) [a,kx] [] pos) (.j6 A kd):=
 ⟨Ub (λz=>by rw[z] at h0;cases h0) hg.o hm ha.o hk.o (bx h1) (bx h2) (bH (by rw[rJ,h2];rfl))⟩
theorem Vx(hm:X.mg "len"=none)(hg:JK X "len" .globalImplicit)(ha:JA X cA ao aj F EX (e::es) Xs)(he:aC e=true:=by rfl)(cL:es.all aC=true:=by rfl):JE X cA ao aj F EX (.Call (.Name "len" p) (e::es) [] pos) (.pr fz .len Xs):=⟨vG PL TF hg.o hm PySem.boot_len ha.o (by decide) (by decide) (bx he) (bH cL)⟩
theorem Vy(hc:X.aj=true)(hm:X.mg "max"=none)(hg:JK X "max" .globalImplicit)(ha:JA X cA ao aj F EX (e::es) Xs)(he:aC e=true:=by rfl)(cL:es.all aC=true:=by rfl):JE X cA ao aj F EX (.Call (.Name "max" p) (e::es) [] pos) (.pr fz .max2 Xs):=⟨vG (Oq hc) TQ hg.o hm PyProof.Rows.boot_max ha.o (by decide) (by decide) (bx he) (bH cL)⟩
theorem Vz(hc:X.aj=true)(hm:X.mg "min"=none)(hg:JK X "min" .globalImplicit)(ha:JA X cA ao aj F EX (e::es) Xs)(he:aC e=true:=by rfl)(cL:es.all aC=true:=by rfl):JE X cA ao aj F EX (.Call (.Name "min" p) (e::es) [] pos) (.pr fz .min2 Xs):=⟨vG (Ot hc) TV hg.o hm PyProof.Rows.boot_min ha.o (by decide) (by decide) (bx he) (bH cL)⟩
theorem VB(hm:X.mg "int"=none)(hg:JK X "int" .globalImplicit)(ha:JA X cA ao aj F EX (e::es) Xs)(he:aC e=true:=by rfl)(cL:es.all aC=true:=by rfl):JE X cA ao aj F EX (.Call (.Name "int" p) (e::es) [] pos) (.pr fz .pN Xs):=⟨SN Ou TJ hg.o hm PyProof.Rows.boot_int ha.o (by decide) (by decide) (bx he) (bH cL)⟩
theorem VD(hm:X.mg "divmod"=none)(hg:JK X "divmod" .globalImplicit)(ha:JA X cA ao aj F EX (e::es) Xs)(he:aC e=true:=by rfl)(cL:es.all aC=true:=by rfl):JE X cA ao aj F EX (.Call (.Name "divmod" p) (e::es) [] pos) (.pr fz .divmod Xs):=⟨vG Ov TX hg.o hm PyProof.Rows.boot_divmod ha.o (by decide) (by decide) (bx he) (bH cL)⟩
theorem VF(hc:X.aj=true)(hm:X.mg "all"=none)(hg:JK X "all" .globalImplicit)(ha:JA X cA ao aj F EX (e::es) Xs)(he:aC e=true:=by rfl)(cL:es.all aC=true:=by rfl):JE X cA ao aj F EX (.Call (.Name "all" p) (e::es) [] pos) (.pr fz .all Xs):=⟨vG (T7 hc) T9 hg.o hm PyProof.Rows.boot_all ha.o (by decide) (by decide) (bx he) (bH cL)⟩
theorem Kv(ho:JE X cA ao aj F EX a A)(hb:JE X cA ao aj F EX b B)(iZ:attributeBase a "append" X.env (eval a X.env)=eval a X.env:=by rfl)(i_:(apos.endLine==pos.line)=true:=by rfl)(hs:aC b=true:=by rfl) :
  JE X cA ao aj F EX (.Call (.Attribute a "append" apos) [b] [] pos) (.push A B):=⟨Ug ho.o hb.o iZ (p7 hs rfl rfl) i_ (bx hs) rfl⟩
theorem Kw:JC X cA ao aj F EX [] .no:=⟨Uo⟩
theorem Ky(h:JT X cA ao aj F EX c C):JC X cA ao aj F EX [c] (.yes C):=⟨Uq h.o⟩
theorem Bs(ha:JE X cA ao aj F EX a A):JI X cA ao aj F EX tg a (.seq A):=⟨Uk ha.o⟩
theorem Bt(hmg:X.mg "range"=none)(uf:JK X "range" .globalImplicit)(ha:JE X cA ao aj F EX a A)(hb:JE X cA ao aj F EX b B)(h1:aC a=true:=by rfl)(h2:aC b=true:=by rfl):JI X cA ao aj F EX tg (.Call (.Name "range" p) [a,b] [] pos) (.rg A B):=⟨Ul uf.o hmg ha.o hb.o (bx h1) (bx h2)⟩
theorem VG(hmg:X.mg "range"=none)(uf:JK X "range" .globalImplicit)(hb:JE X cA ao aj F EX b B)(h2:aC b=true:=by rfl):JI X cA ao aj F EX tg (.Call (.Name "range" p) [b] [] pos) (.rg (.c (.int 0)) B):=⟨Um uf.o hmg hb.o (bx h2)⟩
noncomputable def zx(scope:Scope)(x:Str):Bool:=match scope.names.lookup x with
 |some .local=>true
 |some .cell=>true
 |_=>false
theorem vR(h:zx scope x=true):Loc (X.blk scope cl N Cc s3 H3 fp ak).env.scope x/\((X.blk scope cl N Cc s3 H3 fp ak).fn x=true\/(X.blk scope cl N Cc s3 H3 fp ak).env.scope.names.lookup x=some .local):=by
 unfold zx at h;split at h
 ·rename_i z;exact⟨.inl (lookup_relabel_local z),.inr (lookup_relabel_local z)⟩
 ·rename_i z;exact⟨.inr (Gq (by intro y;cases y) z),.inl (by show (scope.names.lookup x==some NameKind.cell)=true;rw[z];rfl)⟩
 ·cases h
theorem Bu(i:Nat)(Gv:N.Nodup)(hi:N[i]?=some x)(hl:zx scope x=true):JY (X.blk scope cl N Cc s3 H3 fp ak) (.Name x tp) (bW i):=
 ⟨Ak Gv hi (vR hl).1 (vR hl).2⟩
theorem VH(i j:Nat)(hc:X.aj=true)(Gv:N.Nodup)(hi:N[i]?=some x)(hj:N[j]?=some y)(hl:zx scope x=true)(vK:zx scope y=true):JY (X.blk scope cl N Cc s3 H3 fp ak) (.Tuple [.Name x px,.Name y py] kt tp) (mJ X.K 2 (dI (bW i) (dI (bW j) mH))):=
 ⟨Kg (X:=X.blk scope cl N Cc s3 H3 fp ak) hc Gv hi hj (vR hl).1 (vR vK).1 (vR hl).2 (vR vK).2⟩
theorem Bv{scope:Scope}{XN:List Str}{M0 N:List Str}{fr:List Nat}(h:frB scope XN N fr=true):(M0++N).length=M0.length+fr.length/\∀(i:Nat) (y:Str) (j:Nat),(M0++N)[M0.length+i]?=some y->fr[i]?=some j->scope.names.lookup y=some .free/\XN[j]?=some y:=by
 obtain⟨l,q⟩:=Km h;refine⟨by rw[jy,l],λi y j e1 e2=>q i y j ?_ e2⟩;rw[jO (by lia)] at e1;rw[show M0.length+i-M0.length=i by lia] at e1;exact e1
theorem Gw{elt iter tg:Expr}{ifs:List Expr}{scope:Scope}{cond:Eo}{aF:List Nat}{g:TG}{w:Wk}(sc:Scope)(XN M0 N:List Str)(fr:List Nat)(hc:X.aj=true)(Gx:X.env.scope=sc)(uD:X.N=XN)(hB:p8 sc scope=true)(hf:frB scope XN N fr=true)(hT:dN X.K cA g aF)(cV:aF.all (λi=>decide (i<M0.length))=true)
  (hi:JI X cA ao aj F EX tg iter w) (hg:∀cl C s3 H3 fp ak,JY (X.blk scope cl (M0++N) C s3 H3 fp ak) tg g)
  (ht:∀cl C s3 H3 fp ak,JC (X.blk scope cl (M0++N) C s3 H3 fp ak) cA ao aj F (λ_ _ _ _=>False) ifs cond) (he:∀cl C s3 H3 fp ak,JE (X.blk scope cl (M0++N) C s3 H3 fp ak) cA ao aj F (λ_ _ _ _=>False) elt B)
  (hs:∀x,foldedSetIterable iter X.env x=pure x:=by intro _;rfl):JE X cA ao aj F EX (.ListComp elt [⟨tg,iter,ifs,0⟩] scope pos) (.comp fz B aF w fr M0.length cond):=
 ⟨Ut hc (cC.of (Gx▸hB)) hi.o (Bv (uD▸hf)).1 (Bv (uD▸hf)).2 (λa b c d e f=>(hg a b c d e f).o) hT (λi hi=>qw (mj.mp cV i hi)) (λa b c d e f=>(ht a b c d e f).o) (λa b c d e f=>(he a b c d e f).o) hs⟩
theorem Gy:JR X (λ_ _ _ _=>False):=⟨Vd⟩
theorem oM{P:Program}{w:World}{K:W.Frag}{mg:Str->Option Value}{base:Heap}{N:List Str}{qual:Str}{scope:Scope}{f:Addr}{cd:Value}{A:Around}{outer:List Env}{s:Shared}{H:Hp}{E:XK}{cm:Bool} :
  JR (bZ (eF P w) P w K mg base N qual scope f cd A outer s H E cm) (λ_ C dx H'=>E C dx H'):=⟨Qu⟩
theorem zy{CX:lU}{P:Program}{w:World}{K:W.Frag}{mg:Str->Option Value}{base:Heap}{N:List Str}{qual:Str}{scope:Scope}{f:Addr}{cd:Value}{A:Around}{outer:List Env}{s:Shared}{H:Hp}{E:XK}{cm:Bool} :
  JH (bZ CX P w K mg base N qual scope f cd A outer s H E cm):=⟨PassesOwn.leaving⟩
end
section
variable {X:Cx}{cA:Cl}{ao:Nat->Nat->Bool}{aj:Bool}{F:Bool->Fn}{EX:XS}{a b c d e:Expr}{A B C:E}{pos p p2:Pos}{st:Stmt}{sts body orelse:List Stmt}{m:St}{ms mb me mh:eG}{es:List Expr}{Xs:Es}{x y n:Str}{k k':NameKind}
theorem zA(h:JK X x k)(hv:lH k=true):Loc X.env.scope x:=by cases k<;>first|exact .inl h.o|exact .inr h.o|cases hv
theorem zB(h:JK X x k)(hv:X.fn x=true\/k=.local):X.fn x=true\/X.env.scope.names.lookup x=some .local:=by
 rcases hv with hv|hv
 ·exact .inl hv
 ·subst hv;exact .inr h.o
theorem dO:JB X cA ao aj F EX [] .nil:=⟨Uu⟩
theorem bV(h1:JS X cA ao aj F EX st m)(h2:JB X cA ao aj F EX sts ms):JB X cA ao aj F EX (st::sts) (.cons m ms):=⟨Uv h1.o h2.o⟩
theorem Kz(ha:JE X cA ao aj (F aj) EX a A)(hs:swapsWith a none pos.line X.env=pure false:=by rfl):JS X cA ao aj F EX (.Expr a pos) (.ex A):=⟨Uw ha.o hs⟩
theorem ju(ha:JE X cA ao aj (F aj) EX a A):JS X cA ao aj F EX (.Return (some a) pos) (.ret A):=⟨Ux ha.o⟩
theorem uE(i:Nat)(hN:X.N.Nodup)(hi:X.N[i]?=some x)(hx:JK X x k)(hl:lH k=true)(ha:JE X cA ao aj (F aj) EX a A)(hs:swapsWith a (some (.Name x p)) pos.line X.env=pure false:=by rfl)(hf:X.fn x=true\/k=.local:=by first|exact .inl rfl|exact .inr rfl):JS X cA ao aj F EX (.Assign [.Name x p] a pos) (.asg (.nm i) A):=
 ⟨Uy hN hi (zA hx hl) ha.o hs (zB hx hf)⟩
theorem VJ(i j:Nat){k0}(hc:X.aj=true)(b_:aj=true)(hN:X.N.Nodup)(hi:X.N[i]?=some x)(hj:X.N[j]?=some y)(hx:JK X x k)(hy:JK X y k')(VL:lH k=true)(VN:lH k'=true)(ha:JE X cA ao aj (F aj) EX a A)
  (zj:X.fn x=true\/k=.local:=by first|exact .inl rfl|exact .inr rfl) (zm:X.fn y=true\/k'=.local:=by first|exact .inl rfl|exact .inr rfl)
  (hs:swapsWithSole [.Tuple [.Name x px,.Name y py] k0 pt] a pos.line X.env=pure false:=by rfl) (hw:swappedStores [.Tuple [.Name x px,.Name y py] k0 pt] a X.env=pure none:=by rfl) (h1:(assignEach [.Tuple [.Name x px,.Name y py] k0 pt] X.env).map (·.2)=[assign (.Tuple [.Name x px,.Name y py] k0 pt) X.env]:=by rfl) :
  JS X cA ao aj F EX (.Assign [.Tuple [.Name x px,.Name y py] k0 pt] a pos) (.asg (.tp [i,j]) A):=⟨UJ hc b_ hN hi hj (zA hx VL) (zA hy VN) (zB hx zj) (zB hy zm) ha.o hs hw h1⟩
theorem KC(hO:JE X cA ao aj (F aj) EX oo O)(hI:JE X cA ao aj (F aj) EX ii I')(ha:JE X cA ao aj (F aj) EX a A)
  (Gp:∀v,assign (.Subscript oo ii p) X.env v=(do
   let obj <-holding [v] (eval oo X.env)
   let at_ <-holding [v,obj] (eval ii X.env)
   standAt p
   holding [v,obj,at_] (setItem obj at_ v)
   release [v,obj,at_] []):=by intro _;rfl) (hs:swapsWithSole [.Subscript oo ii p] a pos.line X.env=pure false:=by rfl) (hw:swappedStores [.Subscript oo ii p] a X.env=pure none:=by rfl)
  (h1:(assignEach [.Subscript oo ii p] X.env).map (·.2)=[assign (.Subscript oo ii p) X.env]:=by rfl):JS X cA ao aj F EX (.Assign [.Subscript oo ii p] a pos) (.asg (.ao O I') A):=⟨UL hO.o hI.o ha.o Gp hs hw h1⟩
theorem KD(i j:Nat){kt k2 mK}(hc:X.aj=true)(b_:aj=true)(hN:X.N.Nodup)(hi:X.N[i]?=some x)(hj:X.N[j]?=some y)(pq:i≠j)(hx:JK X x .local)(hy:JK X y .local)
  (ha:JE X cA ao aj (F aj) EX a A) (hb:JE X cA ao aj (F aj) EX b B) (hw:swappedStores [.Tuple [.Name x px,.Name y py] kt pt] (.Tuple [a,b] k2 mK) X.env=pure (some [x,y])) (h1:aC a=true:=by rfl) (h2:aC b=true:=by rfl)
  (hs:swapsWithSole [.Tuple [.Name x px,.Name y py] kt pt] (.Tuple [a,b] k2 mK) pos.line X.env=pure false:=by rfl):JS X cA ao aj F EX (.Assign [.Tuple [.Name x px,.Name y py] kt pt] (.Tuple [a,b] k2 mK) pos) (.par i j A B):=
 ⟨U6 hc b_ hN hi hj pq hx.o hy.o ha.o hb.o (bx h1) (bx h2) hw hs⟩
theorem uF(hc:JT X cA ao aj (F aj) EX c C)(ht:JB X cA ao aj F EX body mb)(he:JB X cA ao aj F EX orelse me):JS X cA ao aj F EX (.If c body orelse pos) (.iff C mb me):=⟨U7 hc.o ht.o he.o⟩
theorem VP(hp:JH X)(hc:JT X cA ao aj (F aj) EX c C)(hb:JB X cA ao aj F EX body mb):JS X cA ao aj F EX (.While c body [] pos) (.wh C mb):=⟨U8 hp.o hc.o hb.o⟩
theorem Bw(i:Nat)(hN:X.N.Nodup)(hi:X.N[i]?=some x)(hx:JK X x k)(hl:lH k=true)(hf:X.fn x=true\/k=.local:=by first|exact .inl rfl|exact .inr rfl):JG X cA ao aj F EX (.Name x pos) (.nm i):=⟨U9 hN hi (zA hx hl) (zB hx hf)⟩
theorem BJ(hp:JH X)(hc:X.aj=true)(b_:aj=true)(ha:JI X cA ao aj (F aj) EX tg a w)(hg:JG X cA ao aj F EX tg t)(hb:JB X cA ao aj F EX body mb)(hs:∀x,foldedSetIterable a X.env x=pure x:=by intro _;rfl):JS X cA ao aj F EX (.For tg a body [] pos) (.fr t w mb):=
 ⟨U_ hp.o hc b_ ha.o hg.o hb.o hs⟩
end
theorem VR{P:Program}{w:World}{K:W.Frag}{mg:Str->Option Value}{base:Heap}{cA:Cl}{ao:Nat->Nat->Bool}{T:Nat->Option Df}{x qual:Str}{st:Stmt}{f:Addr}{fd:FuncData}{N ps:List Str}{k n:Nat}{cm:Bool}{df:Df}(F:qZ K x qual st f fd)(S:bG N ps (aA st))(hT:T n=some df)(hp:df.eN=ps.length)(hm:df.many=N.length)
  (hb:∀(cdv:Value) (A:Around) (outer:List Env) (s:Shared) (H:Hp) (E:XK),bJ k (A.deeper (envOfC qual (aA st) s.heap.objs.size f cdv))->
   JB (bZ (eF P w) P w K mg base N qual (aA st) f cdv A outer s H E cm) cA ao cm (λc=>call ao T k c) (λ_ C dx H'=>E C dx H') (aM st) df.body) :
  bY P w K mg base (eF P w) cm (k+1) f fd ps (lW K cA (call ao T (k+1) cm n)):=Vb F S hT hp hm λcdv A outer s H E hr=>(hb cdv A outer s H E hr).o
section
variable {K:W.Frag}{cA:Cl}{U:Ph}{H:Hp}{kvs:oF}{xs:lD}{k:List Kx}
end
section
variable {X:Cx}{cA:Cl}{ak:List (Addr×Obj)}{Z:L2.St}{H:Hp}{s:Shared}{U:Ph}{a:Addr}{kvs:oF}{xs:lD}{k:List Kx}{y v:V}{u:Value}{A:Around}{E:Value->Shared->Prop}
variable {o i value:Expr}{pos pos':Pos}{td ty tv:TE}
end
section
variable {X:Cx}{cA:Cl}{ao:Nat->Nat->Bool}{aj:Bool}{F:Fn}{EX:XS}{a b:Expr}{A B:E}{pos p:Pos}{K:W.Frag}{U:Ph}{H:Hp}{s:S}
end
section
variable {X:Cx}{cA:Cl}{ao:Nat->Nat->Bool}{aj:Bool}{F:Bool->Fn}{EX:XS}{a oo ii:Expr}{A O I':E}{pos p:Pos}
end
end Mi
namespace Mi
open PySem PySem.Spec PyProof.Rows L2 PySem.W
theorem V0{fd:FuncData}{x:Str}{st:Stmt}(h:lO fd=n8 x st):fd=fnOf x x (bf st) (aM st) (aA st) .none fd.kwdefaults fd.doc fd.pyModule fd.annotations fd.code fd.closureTuple:=by
 cases fd;unfold lO n8 at h;cases h;rfl
noncomputable def cU(K:Frag)(x:Str):Addr:=match oX K x with
 |some p=>p.1
 |none=>0
noncomputable def fdOf(K:Frag)(x:Str)(st:Stmt):FuncData:=match oX K x with
 |some p=>p.2
 |none=>n8 x st
structure FnAt(K:Frag)(x:Str)(st:Stmt):Prop where
 ns:nsIn K mainGlobals x=some (some (.ref (cU K x)))
 fn:qZ K x x st (cU K x) (fdOf K x st)
theorem V1{K:Frag}{x:Str}{st:Stmt}(h:(oX K x).map (λp=>lO p.2)=some (n8 x st)):FnAt K x st:=by
 cases e:oX K x with
 |none=>rw[e] at h;cases h
 |some p=>
  rw[e] at h;have hp:lO p.2=n8 x st:=dG h;have h1:cU K x=p.1:=by unfold cU;rw[e]
  have h2:fdOf K x st=p.2:=by unfold fdOf;rw[e]
  unfold oX at e;split at e
  ·rename_i f hf;split at e
   ·rename_i oc od fd sl hl;split at e
    ·rename_i hc;cases e;rw[dU] at hc;refine⟨by rw[h1];exact hf,?_⟩;rw[h1,h2];exact⟨⟨oc,od,_,_,_,_,_,_,sl,V0 hp,hl,hc.1⟩,hc.2⟩
    ·cases e
   ·cases e
  ·cases e
theorem FnAt.m{K:Frag}{x:Str}{st:Stmt}(F:FnAt K x st){h:Heap}{mg:Str->Option Value}(X:K.In h)(G:h.Ns mainGlobals mg):mg x=some (.ref (cU K x)):=mg_of X G F.ns
theorem KH{K:Frag}{x:Str}{i:Int}(h:iu K (x,i)=true){hp:Heap}{mg:Str->Option Value}(X:K.In hp)(G:hp.Ns mainGlobals mg):∃t,mg x=some (.int i t):=by
 unfold iu at h;split at h
 ·rename_i j t e;rw[v7] at h;subst h;exact⟨t,mg_of X G e⟩
 ·cases h
theorem lY{K:Frag}{x:Str}(h:jQ K x=true){hp:Heap}{mg:Str->Option Value}(X:K.In hp)(G:hp.Ns mainGlobals mg):mg x=none:=by
 refine mg_none_of X G ?_;unfold jQ at h;split at h
 ·rename_i e;exact e
 ·cases h
structure rA(l:Lk)(K:Frag):Prop where
 cl:∀x∈l.wD,wB K x=true
 cs:l.wD.isEmpty=true\/qy K (l.L K)=true
 ra:∀k∈l.Hj,wC K (dW (l.L K) k)=true
 ca:∀k∈l.Hl,subB K (l.L K) k=true
 it:∀p∈l.rN,iu K p=true
 no:∀x∈l.Hg,jQ K x=true
theorem V2{l:Lk}{K:Frag}(h:l.good K=true):rA l K:=by
 unfold Lk.good at h;simp only[dU,Bool.or_eq_true,mj] at h;obtain⟨⟨⟨⟨⟨h1,h2⟩,h3⟩,h4⟩,h5⟩,h6⟩:=h;exact⟨h1,h2,h3,h4,h5,h6⟩
theorem qe{K:Frag}{x:Str}{st:Stmt}{f:Addr}{fd:FuncData}{p:Str}(F:qZ K x x st f fd)(h:∀(kV doc pm:Value) (an:Option Addr) (cdv ct a:Value),bindArgs (fnOf x x (bf st) (aM st) (aA st) .none kV doc pm an cdv ct) ⟨[a],[]⟩=pure [(p,a)]):Binds K fd [p] []:=by
 obtain⟨oc,od,kV,doc,pm,an,cdv,ct,osl,rfl,lk,gG⟩:=F.ex;exact uq (h kV doc pm an cdv ct)
theorem qg{K:Frag}{x:Str}{st:Stmt}{f:Addr}{fd:FuncData}{p q:Str}(F:qZ K x x st f fd)(h:∀(kV doc pm:Value) (an:Option Addr) (cdv ct a b:Value),bindArgs (fnOf x x (bf st) (aM st) (aA st) .none kV doc pm an cdv ct) ⟨[a,b],[]⟩=pure [(p,a),(q,b)]):Binds K fd [p,q] []:=by
 obtain⟨oc,od,kV,doc,pm,an,cdv,ct,osl,rfl,lk,gG⟩:=F.ex;exact ur (h kV doc pm an cdv ct)
theorem uG{K:Frag}{x:Str}{st:Stmt}{f:Addr}{fd:FuncData}{p:Str}(F:qZ K x x st f fd)(h:∀(kV doc pm:Value) (an:Option Addr) (cdv ct a:Value),bindArgs (fnOf x x (bf st) (aM st) (aA st) .none kV doc pm an cdv ct) ⟨[a],[]⟩=pure [(p,a)]):∀(s:Shared) (u:Value),BindsTo s fd ⟨[u],[]⟩ [(p,u)]:=by
 obtain⟨oc,od,kV,doc,pm,an,cdv,ct,osl,rfl,lk,gG⟩:=F.ex;exact λs u=>.of_eq (h kV doc pm an cdv ct u)
end Mi
namespace Mi
open PySem PySem.Spec PyProof.Rows L2
theorem KJ:∀{is:List Nat} {ds:List α} {J J':List (Option α)},cO is ds J=some J'->∀j,j∉is->J'[j]?=J[j]?
 |[],[],J,J',e,j,_=>by cases e;rfl
 |[],_::_,J,J',e,j,_=>by cases e
 |_::_,[],J,J',e,j,_=>by cases e
 |i::is,d::ds,J,J',e,j,h=>by
  have h1:=KJ (is:=is) (ds:=ds) e j (λz=>h (gP _ z));rw[h1,lZ (λz=>h (by rw[z];exact jx))]
theorem V3{tg:List Nat}{x:D}{J J':Vs}(e:dM tg x J=some J')(j:Nat)(h:j∉tg):J'[j]?=J[j]?:=by
 unfold dM at e;split at e
 ·cases e;rw[lZ (λz=>h (by simp[z]))]
 ·cases ht:f9 x with
  |none=>rw[ht] at e;cases e
  |some ds=>rw[ht] at e;exact KJ e j h
theorem V4{many:Nat}{fr:List Nat}{J:Vs}{i:Nat}(h:i<many):(blk many fr J)[i]?=some none:=by
 unfold blk;rw[jw (by simpa using h),vX,if_pos h]
section
variable {K:W.Frag}{cA:Cl}{U U' gq:Ph}{H H' jk:Hp}{s:S}
theorem KN{Dd:Addr}{us vs:List V}(x:Ext U H U' (upd H' Dd (.lst us)))(k:Keep U H Dd us):Ext U (upd H Dd (.lst vs)) U' (upd H' Dd (.lst vs)):=by
 obtain⟨r,er,hr⟩:=x.more;have nD:∀b,H b=none->b≠Dd:=λb e z=>by rw[z,k.at_] at e;cases e
 refine⟨⟨r,er,λb hb=>by rw[bA (nD b (hr b hb))];exact hr b hb⟩,x.lE,λa z=>?_,λa o e t n=>?_,λa o e=>?_⟩
 ·rcases x.gO a z with z|z
  ·exact .inl z
  ·exact .inr (by rw[bA (nD a z)];exact z)
 ·by_cases z:a=Dd
  ·subst z;rw[gU] at e ⊢;exact e
  ·rw[bA z] at e ⊢;have:=x.frame a o e t n;rw[bA z] at this;exact this
 ·by_cases z:a=Dd
  ·subst z;exact⟨_,gU⟩
  ·rw[bA z] at e ⊢;have:=x.stay a o e;rw[bA z] at this;exact this
theorem aG.slots{Z Z':L2.St}{J:Vs}{is:List Nat}(h:aG K cA U H Z J)(hl:Z'.length=Z.length)(he:∀j,j∉is->Z'[j]?=Z[j]?)(hn:∀i∈is,∀x,J[i]?≠some (some x)):aG K cA U H Z' J:=by
 refine⟨hl.trans h.1,λi x e=>?_⟩;obtain⟨v,a,b⟩:=h.2 i x e;exact⟨v,by rw[he i λz=>hn i z x e];exact a,b⟩
end
section
variable {X:Cx}{cA:Cl}{ao:Nat->Nat->Bool}{aj:Bool}{F:Fn}{EX:XS}{elt iter tg iter₂ tg₂:Expr}{A B:E}{pos p:Pos}{ifs:List Expr}{scope:Scope}{N:List Str}{cond:Eo}{fr aF aF₂:List Nat}{many:Nat}{fz:Bool}{w w₂:Wk}
theorem V5{K:W.Frag}{g:TG}{U1 U':Ph}{H1 H':Hp}{s':S}{Z3:L2.St}{J':Vs}{Dd:Addr}{acc:List D}{vs:List V}{β:Type}{kk:List D->M β}{P:β->S->Ph->Hp->Prop}{Ee:Nat->List D->S->Ph->Hp->Prop}{c:Src}{n:Nat}{aK:It}
  (hT:dN K cA g aF) (cV:∀i∈aF,i<many) (xK:∀i∈aF,∀x,J'[i]?≠some (some x)) (hD:H1 Dd=none) (x2:Ext U1 H1 U' H') (hL:aG K cA U' H' Z3 J') (aL:au K cA U' H' s') (kp:Keep U' H' Dd vs) (jt:aq K cA U' H' acc vs) (hJ:jM K cA c U' H' aK)
  (h:Run K cA (M.bd (walk c (aP ao aj F B cond aF J') (n+1) 0 acc) kk) U1 H1 s' P Ee) {Nn:L2.St->Hp->Prop}
  (hN:∀Z4 H4 U4 s4 zE KQ,Z4.length=Z3.length->(∀i,i∉aF->Z4[i]?=Z3[i]?)->Ext U1 H1 U4 H4->Ext U' H' U4 (upd H4 Dd (.lst vs))->au K cA U4 H4 s4->Keep U4 H4 Dd KQ->aq K cA U4 H4 zE KQ->Run K cA (kk zE) U1 H1 s4 P Ee->Nn Z4 H4) :
  En g (m9 K cA (λ_ _ _ _=>False) (lC ao aj F cond)) (tE K cA (λ_ _ _ _=>False) (ev ao aj F B)) Dd aK Z3 H' Nn:=by
 refine⟨λi m zF jk=>m=n+1-i/\(zF.length=Z3.length/\∀j,j∉aF->zF[j]?=Z3[j]?)/\∃gq s'' cY vs'',Ext U1 H1 gq jk/\Ext U' H' gq (upd jk Dd (.lst vs))/\au K cA gq jk s''/\Keep gq jk Dd vs''/\aq K cA gq jk cY vs'' /\
  Run K cA (M.bd (walk c (aP ao aj F B cond aF J') (n+1-i) i cY) kk) U1 H1 s'' P Ee,⟨n+1,rfl,⟨rfl,λ_ _=>rfl⟩,U',s',acc,vs,x2,by rw[vL kp.at_];exact Ext.refl,aL,kp,jt,h⟩,?_⟩
 rintro i m zF jk ⟨rfl,hZ,gq,s'',cY,vs'',x3,xb,fL,k3,r3,h3⟩;have ox:bN gq (upd jk Dd (.lst vs)) jk:=λa o e nz=>by
  rw[bA (λz=>nz (by rw[z];exact k3.z))] at e;exact e
 have lG:aG K cA gq jk zF J':=((hL.mono xb aL.lz).out ox).slots hZ.1 hZ.2 xK;cases ek:n+1-i with
 |zero=>rw[ek] at h3;exact h3.elim
 |succ k=>
  rw[ek] at h3;cases ei:c.at i s'' with
  |none=>
   exfalso
   unfold Run M.bd walk at h3;simp only[ei] at h3
  |some oi=>
   cases oi with
   |none=>
    refine .inl ⟨hJ.stop gq _ jk s'' i xb ox fL ei,?_⟩;have h4:Run K cA (kk cY) U1 H1 s'' P Ee:=by
     unfold Run M.bd walk at h3;simp only[ei] at h3;exact h3
    exact hN zF jk gq s'' cY vs'' hZ.1 hZ.2 x3 xb fL k3 r3 h4
   |some xi=>
    refine .inr ⟨hJ.go gq _ jk s'' i xi xb ox fL ei,λZ2 H2=>(Z2.length=Z3.length/\∀j,j∉aF->Z2[j]?=Z3[j]?)/\∃gq s'' cY vs'',Ext U1 H1 gq H2/\Ext U' H' gq (upd H2 Dd (.lst vs))/\au K cA gq H2 s''/\Keep gq H2 Dd vs''/\aq K cA gq H2 cY vs'' /\
     Run K cA (M.bd (walk c (aP ao aj F B cond aF J') k (i+1) cY) kk) U1 H1 s'' P Ee,λZ2 H2 hn=>⟨k,by omega,by omega,hn.1,?_⟩,λv H2 hy=>?_⟩
    ·have:n+1-(i+1)=k:=by omega
     rw[this];exact hn.2
    ·obtain⟨gr,rx⟩:=hJ.mL gq _ jk s'' i xi v H2 xb ox fL ei hy;have h4:Run K cA (M.bd (aP ao aj F B cond aF J' xi cY) λacc'=>M.bd (walk c (aP ao aj F B cond aF J') k (i+1) acc') kk) U1 H1 s'' P Ee:=by
      have h5:=Gk (m':=M.bd (aP ao aj F B cond aF J' xi cY) λacc'=>walk c (aP ao aj F B cond aF J') k (i+1) acc') (by rw[walk];simp only[ei]) h3;rw[fC] at h5;exact h5
     have kg:=k3.mono gr.ext;have xg:Ext U' H' gq (upd H2 Dd (.lst vs)):=xb.trans (KN (us:=vs'') (vs:=vs) (by rw[vL kg.at_];exact gr.ext) k3);refine lJ hT (x3.trans gr.ext) hD (lG.mono gr.ext fL.lz) (fL.grow gr) kg (r3.mono gr.ext fL.lz) rx h4 λYX H3 U3 s3 iK pZ l3 f3 x3' xe Gz V6 r3' h6=>⟨⟨l3.trans hZ.1,λj hj=>(f3 j hj).trans (hZ.2 j hj)⟩,U3,s3,iK,pZ,x3',xg.trans (KN (us:=vs'') (vs:=vs) xe kg),Gz,V6,r3',h6⟩
where
 lJ {K:W.Frag} {g:TG} {U1 U':Ph} {H1 H2:Hp} {s':S} {Z':L2.St} {Jb:Vs} {Dd:Addr} {acc:List D} {vs:List V} {xi:D} {v:V} {β:Type} {kk:List D->M β} {P:β->S->Ph->Hp->Prop} {Ee:Nat->List D->S->Ph->Hp->Prop} (hT:dN K cA g aF)
  (x2:Ext U1 H1 U' H2) (hD:H1 Dd=none) (hL2:aG K cA U' H2 Z' Jb) (aL:au K cA U' H2 s') (kp:Keep U' H2 Dd vs) (jt:aq K cA U' H2 acc vs) (rx:Rep K cA U' H2 xi v)
  (h:Run K cA (M.bd (aP ao aj F B cond aF Jb xi acc) kk) U1 H1 s' P Ee) {Nn:L2.St->Hp->Prop}
  (hN:∀Z3 H3 U3 s3 iK pZ,Z3.length=Z'.length->(∀i,i∉aF->Z3[i]?=Z'[i]?)->Ext U1 H1 U3 H3->Ext U' H2 U3 (upd H3 Dd (.lst vs))->au K cA U3 H3 s3->Keep U3 H3 Dd pZ->aq K cA U3 H3 iK pZ->Run K cA (kk iK) U1 H1 s3 P Ee->Nn Z3 H3) :
  g v Z' H2 λZ3 H3=>m9 K cA (λ_ _ _ _=>False) (lC ao aj F cond) Z3 H3 λok H4=>
   if ok=true then tE K cA (λ_ _ _ _=>False) (ev ao aj F B) Z3 H4 λy H5=>∃ys,H5 Dd=some (.lst ys)/\ys.length<sizeLine/\Nn Z3 (upd H5 Dd (.lst (ys++[y]))) else Nn Z3 H4:=by
  unfold aP at h;rw[fC] at h;obtain⟨J',e1,h1⟩:=Run.lF h;refine hT.run U' H2 s' Z' Jb J' xi v _ hL2 aL rx e1 λZ3 lG ug vM=>?_;rw[fC] at h1;refine⟨U',J',s',lG,aL,(za x2 h1).imp λok s4 U4 H4 ⟨x4,lX,h6⟩=>?_⟩;cases ok with
  |false=>
   refine iF (hN Z3 H4 U4 s4 acc vs ug vM (x2.trans x4) (by rw[vL (kp.mono x4).at_];exact x4) lX (kp.mono x4) (jt.mono x4 aL.lz) ?_);rw[if_neg (by decide)] at h6;exact h6
  |true=>
   rw[if_pos rfl,fC] at h6;refine iT ⟨U4,J',s4,lG.mono x4 aL.lz,lX,(za (x2.trans x4) h6).imp λy s5 U5 H5 ⟨x5,zf,h7⟩ u ru=>?_⟩;rw[fC] at h7;have k5:=(kp.mono x4).mono x5;have r5:=(jt.mono x4 aL.lz).mono x5 lX.lz;have Gm:=(x2.trans x4).trans x5;obtain⟨dd,ey,rd,h8⟩ : ∃d,y=.d d/\Rep K cA U5 H5 d u/\Run K cA (M.bd (if acc.length<sizeLine then M.ret (acc++[d]) else M.no) kk) U1 H1 s5 P Ee:=by
    cases ru with
    |l _=>exact h7.elim
    |d r=>exact⟨_,rfl,r,h7⟩
   by_cases hz:acc.length<sizeLine
   ·rw[if_pos hz] at h8;refine⟨vs,k5.at_,by rw[<-r5.len];exact hz,?_⟩;have ox:bN U5 H5 (upd H5 Dd (.lst (vs++[u]))):=k5.ext.1;exact hN Z3 _ U5 s5 (acc++[dd]) (vs++[u]) ug vM (Ext.keep (vs:=vs) Gm hD) (by rw[Hr,vL k5.at_];exact x4.trans x5) (zf.keep k5) k5.ext.2 ((r5.app (.cons rd .nil)).out ox) h8
   ·rw[if_neg hz] at h8;exact h8.elim
noncomputable abbrev cZ(ao:Nat->Nat->Bool)(aj:Bool)(F:Fn)(B:E)(cond:Eo)(aF aF₂:List Nat)(w₂:Wk)(Jb:Vs):D->List D->M (List D):=λd acc=>M.bd (M.opt (dM aF d Jb)) λJ'=>M.bd (M.qt (gb ao aj F w₂ J')) λjK=>
    walk jK.1 (aP ao aj F B cond aF₂ J') (jK.2+1) 0 acc
theorem V7{g₁ g:TG}(hT:dN X.K cA g₁ aF)(cV:∀i∈aF,i<many)(hT₂:dN X.K cA g aF₂)(cV₂:∀i∈aF₂,i<many)(uH:∀i∈aF₂,i∉aF){Z:L2.St}{H:Hp}{Q:VK}(hh:tE X.K cA EX (ev ao aj F (.jh fz B aF w aF₂ w₂ fr many cond)) Z H Q) :
  m5 (tI X.K cA EX (gb ao aj F w)) (aO many fr) g₁ (tI X.K cA (λ_ _ _ _=>False) (gb ao aj F w₂)) g (m9 X.K cA (λ_ _ _ _=>False) (lC ao aj F cond)) (tE X.K cA (λ_ _ _ _=>False) (ev ao aj F B)) Z H Q:=un hh λU J s hL hS h=>by
 by_cases b_:aj=true
 ·have h:Run X.K cA (if aj=true then M.bd (gb ao aj F w J) λcn=>M.bd (walk cn.1 (cZ ao aj F B cond aF aF₂ w₂ (blk many fr J)) (cn.2+1) 0 []) λxs=>newL fz xs else M.no) U H s (λd _ U' H'=>∀v,aJ X.K cA U' H' d v->Q v H') (eX X.K cA EX Z):=h;rw[if_pos b_] at h;refine⟨U,J,s,hL,hS,h.bd.imp λcn s1 U1 H1 ⟨x1,aD,h1⟩ aK hJ=>?_⟩;have hL1:=hL.mono x1 hS.lz;obtain⟨c,n⟩:=cn;dsimp only at h1 hJ;intro Dd hD;obtain⟨x0,Gn,k0⟩:=Ke aD hD;have uh:∀{Z':L2.St},(Z'.length=many+fr.length/\∀i,many<=i->Z'[i]?=(aO many fr Z)[i]?)->∀{U' H'},Ext U1 H1 U' H'->aG X.K cA U' H' Z' (blk many fr J):=λ{Z'} hZ {U' H'} x=>Ka (hL1.mono x aD.lz) hZ.1 λi j v e1 e2=>by
   rw[hZ.2 _ (by omega)];unfold aO;rw[jO (by simp),vY,oU,show many+i-many=i by omega,e1];simp[e2]
  refine⟨λi m Z' H'=>m=n+1-i/\(Z'.length=many+fr.length/\∀i,many<=i->Z'[i]?=(aO many fr Z)[i]?)/\∃U' s' acc vs,Ext U1 H1 U' H'/\au X.K cA U' H' s'/\Keep U' H' Dd vs/\aq X.K cA U' H' acc vs /\
   Run X.K cA (M.bd (walk c (cZ ao aj F B cond aF aF₂ w₂ (blk many fr J)) (n+1-i) i acc) λxs=>newL fz xs) U1 H1 s' (λd _ U' H'=>∀v,aJ X.K cA U' H' d v->Q v H') (eX X.K cA EX Z),⟨n+1,rfl,⟨by simp[aO],λi _=>rfl⟩,U1.mark Dd,s1,[],[],x0,Gn,k0,.nil,h1⟩,?_⟩
  rintro i m Z' H' ⟨rfl,hZ,U',s',acc,vs,x2,aL,kp,jt,h3⟩;have hL2:=uh hZ x2;cases ek:n+1-i with
  |zero=>rw[ek] at h3;exact h3.elim
  |succ k=>
   rw[ek] at h3;cases ei:c.at i s' with
   |none=>
    exfalso
    unfold Run M.bd walk at h3;simp only[ei] at h3
   |some oi=>
    cases oi with
    |none=>
     refine .inl ⟨hJ.stop U' H' H' s' i x2 bN.refl aL ei,?_⟩;have h4:Run X.K cA (newL fz acc) U1 H1 s' (λd _ U' H'=>∀v,aJ X.K cA U' H' d v->Q v H') (eX X.K cA EX Z):=by
      unfold Run M.bd walk at h3;simp only[ei] at h3;exact h3
     exact Kc h4 x2 hD (aD.nz hD) aL kp jt
    |some xi=>
     refine .inr ⟨hJ.go U' H' H' s' i xi x2 bN.refl aL ei,λZ2 H2=>(Z2.length=many+fr.length/\∀i,many<=i->Z2[i]?=(aO many fr Z)[i]?)/\∃U' s' acc vs,Ext U1 H1 U' H2/\au X.K cA U' H2 s'/\Keep U' H2 Dd vs/\aq X.K cA U' H2 acc vs /\
      Run X.K cA (M.bd (walk c (cZ ao aj F B cond aF aF₂ w₂ (blk many fr J)) k (i+1) acc) λxs=>newL fz xs) U1 H1 s' (λd _ U' H'=>∀v,aJ X.K cA U' H' d v->Q v H') (eX X.K cA EX Z),λZ2 H2 hn=>⟨k,by omega,by omega,hn.1,?_⟩,λv H2 hy=>?_⟩
     ·have:n+1-(i+1)=k:=by omega
      rw[this];exact hn.2
     ·obtain⟨gr,rx⟩:=hJ.mL U' H' H' s' i xi v H2 x2 bN.refl aL ei hy;have h4:Run X.K cA (M.bd (M.opt (dM aF xi (blk many fr J))) λJ'=>M.bd (M.qt (gb ao aj F w₂ J')) λjK=>M.bd (walk jK.1 (aP ao aj F B cond aF₂ J') (jK.2+1) 0 acc) λacc'=>M.bd (walk c (cZ ao aj F B cond aF aF₂ w₂ (blk many fr J)) k (i+1) acc') λxs=>newL fz xs) U1 H1 s' (λd _ U' H'=>∀v,aJ X.K cA U' H' d v->Q v H') (eX X.K cA EX Z):=by
       have h5:=Gk (m':=M.bd (cZ ao aj F B cond aF aF₂ w₂ (blk many fr J) xi acc) λacc'=>walk c (cZ ao aj F B cond aF aF₂ w₂ (blk many fr J)) k (i+1) acc') (by rw[walk];simp only[ei]) h3;rw[fC] at h5;unfold cZ at h5;rw[fC] at h5;have e:(λJ'=>M.bd (M.bd (M.qt (gb ao aj F w₂ J')) λjK=>walk jK.1 (aP ao aj F B cond aF₂ J') (jK.2+1) 0 acc) λacc'=>M.bd (walk c (cZ ao aj F B cond aF aF₂ w₂ (blk many fr J)) k (i+1) acc') λxs=>newL fz xs)=λJ'=>M.bd (M.qt (gb ao aj F w₂ J')) λjK=>M.bd (walk jK.1 (aP ao aj F B cond aF₂ J') (jK.2+1) 0 acc) λacc'=>M.bd (walk c (cZ ao aj F B cond aF aF₂ w₂ (blk many fr J)) k (i+1) acc') λxs=>newL fz xs:=funext λJ'=>fC _ _ _;rw[<-e];exact h5
      obtain⟨J',e1,h6⟩:=Run.lF h4;have fL:=aL.grow gr;refine hT.run U' H2 s' Z' _ J' xi v _ (hL2.mono gr.ext aL.lz) fL rx e1 λZ3 lG ug vM=>?_;have kg:=kp.mono gr.ext;have rg:=jt.mono gr.ext aL.lz;have xg:=x2.trans gr.ext;refine⟨U',J',s',lG,fL,(za xg h6).imp λjK s4 U4 H4 ⟨x4,lX,h7⟩ aK₂ hJ₂=>?_⟩;refine V5 (many:=many) hT₂ cV₂ (λi hi x z=>?_) hD (xg.trans x4) (lG.mono x4 fL.lz) lX (kg.mono x4) (rg.mono x4 fL.lz) hJ₂ h7 λZ4 H5 U5 s5 GC V8 l5 f5 x5 _ zf k5 r5 h8=>⟨⟨l5.trans (ug.trans hZ.1),λi hi=>?_⟩,U5,s5,GC,V8,x5,zf,k5,r5,h8⟩
      ·rw[V3 e1 i (uH i hi),V4 (cV₂ i hi)] at z;cases z
      ·rw[f5 i λz=>absurd (cV₂ i z) (vg.mpr hi),vM i λz=>absurd (cV i z) (vg.mpr hi)];exact hZ.2 i hi
 ·have h:Run X.K cA (if aj=true then M.bd (gb ao aj F w J) λcn=>M.bd (walk cn.1 (cZ ao aj F B cond aF aF₂ w₂ (blk many fr J)) (cn.2+1) 0 []) λxs=>newL fz xs else M.no) U H s (λd _ U' H'=>∀v,aJ X.K cA U' H' d v->Q v H') (eX X.K cA EX Z):=h;rw[if_neg b_] at h;exact h.elim
end
section
variable {X:Cx}{cA:Cl}{ao:Nat->Nat->Bool}{aj:Bool}{F:Bool->Fn}{EX:XS}{elt iter tg iter₂ tg₂:Expr}{A B:E}{pos p:Pos}{ifs:List Expr}{scope:Scope}{N:List Str}{cond:Eo}{fr aF aF₂:List Nat}{many:Nat}{fz:Bool}{w w₂:Wk}{i:Nat}{y:Str}
theorem V9(hc:X.aj=true)(uD:X.N.Nodup)(tM:X.N[i]?=some y)(hx:Loc X.env.scope y)(hf:X.fn y=true\/X.env.scope.names.lookup y=some .local)(B':cC X.env.scope scope)(hi:SI X cA ao aj (F aj) EX tg iter w)(hN:N.length=many+fr.length)
  (lV:∀(i:Nat) (y:Str) (j:Nat),N[many+i]?=some y->fr[i]?=some j->scope.names.lookup y=some .free/\X.N[j]?=some y)
  (hg₁:∀cl C s3 H3 fp ak,PG (X.blk scope cl N C s3 H3 fp ak) tg g₁) (hT:dN X.K cA g₁ aF) (cV:∀i∈aF,i<many) (hi₂:∀cl C s3 H3 fp ak,SI (X.blk scope cl N C s3 H3 fp ak) cA ao aj (F aj) (λ_ _ _ _=>False) tg₂ iter₂ w₂)
  (hg:∀cl C s3 H3 fp ak,PG (X.blk scope cl N C s3 H3 fp ak) tg₂ g) (hT₂:dN X.K cA g aF₂) (cV₂:∀i∈aF₂,i<many) (uH:∀i∈aF₂,i∉aF)
  (ht:∀cl C s3 H3 fp ak,zc (X.blk scope cl N C s3 H3 fp ak) cA ao aj (F aj) (λ_ _ _ _=>False) ifs cond) (he:∀cl C s3 H3 fp ak,SE (X.blk scope cl N C s3 H3 fp ak) cA ao aj (F aj) (λ_ _ _ _=>False) elt B)
  (yg:swapsWith (.ListComp elt [⟨tg,iter,[],0⟩,⟨tg₂,iter₂,ifs,0⟩] scope pos) (some (.Name y py)) spos.line X.env=pure true)
  (hs₂:∀env x,foldedSetIterable iter₂ env x=pure x) (hs:∀x,foldedSetIterable iter X.env x=pure x:=by intro _;rfl) :
  SS X cA ao aj F EX (.Assign [.Name y py] (.ListComp elt [⟨tg,iter,[],0⟩,⟨tg₂,iter₂,ifs,0⟩] scope pos) spos) (.asg (.nm i) (.jh fz B aF w aF₂ w₂ fr many cond)):=
 PS.weak (Rj hc uD tM hx hf B' hi (⟨hg₁,hi₂,hg,ht,he⟩ : jG X elt tg tg₂ iter₂ ifs scope N g₁ (tI X.K cA (λ_ _ _ _=>False) (gb ao aj (F aj) w₂)) g (m9 X.K cA (λ_ _ _ _=>False) (lC ao aj (F aj) cond)) (tE X.K cA (λ_ _ _ _=>False) (ev ao aj (F aj) B))) hs₂ (ZY:=aO many fr) (λZ=>by simp[aO,hN]) (λZ i x v e1 e2=>Kf lV Z i x v e1 e2) yg hs) λD Z H hh=>un hh λU J s hL hS h=>
  V7 hT cV hT₂ cV₂ uH ⟨U,J,s,hL,hS,(aH.ofM hL hS.lz h).imp λd s1 U1 H1 ⟨x1,aD,h1⟩ v rv=>h1 U1 H1 _ Ext.refl aD ((hL.mono x1 hS.lz).set rv)⟩
noncomputable def uI(aF aF₂:List Nat)(m:Nat):Bool:=aF.all (λi=>decide (i<m))&&aF₂.all (λi=>decide (i<m) && !aF.contains i)
theorem GD(h:uI aF aF₂ m=true):(∀i∈aF,i<m)/\(∀i∈aF₂,i<m)/\∀i∈aF₂,i∉aF:=by
 unfold uI at h;simp only[dU,mj,v7,Bool.not_eq_true'] at h;exact⟨h.1,λi hi=>(h.2 i hi).1,λi hi z=>by have:=(h.2 i hi).2;rw[List.contains_iff_mem.mpr z] at this;cases this⟩
noncomputable def nH:Expr->Bool
 |.Call _ _ _ _=>true
 |.Name _ _=>true
 |.BinOp _ _ _ _=>true
 |.Subscript _ _ _=>true
 |.Attribute _ _ _=>true
 |_=>false
theorem V_(h:nH e=true):∀env x,foldedSetIterable e env x=pure x:=by cases e<;>first|(intro _ _;rfl)|cases h
theorem Wa(i:Nat)(sc:Scope)(XN M0 N:List Str)(fr:List Nat)(hN:X.N.Nodup)(tM:X.N[i]?=some y)(hx:JK X y k)(hl:lH k=true)(hc:X.aj=true)(Gx:X.env.scope=sc)(uD:X.N=XN)(hB:p8 sc scope=true)(hf:frB scope XN N fr=true)(hT:dN X.K cA g₁ aF)(hT₂:dN X.K cA g aF₂)(cV:uI aF aF₂ M0.length=true)
  (hi:JI X cA ao aj (F aj) EX tg iter w) (hg₁:∀cl C s3 H3 fp ak,JY (X.blk scope cl (M0++N) C s3 H3 fp ak) tg g₁) (hi₂:∀cl C s3 H3 fp ak,JI (X.blk scope cl (M0++N) C s3 H3 fp ak) cA ao aj (F aj) (λ_ _ _ _=>False) tg₂ iter₂ w₂) (hg:∀cl C s3 H3 fp ak,JY (X.blk scope cl (M0++N) C s3 H3 fp ak) tg₂ g)
  (ht:∀cl C s3 H3 fp ak,JC (X.blk scope cl (M0++N) C s3 H3 fp ak) cA ao aj (F aj) (λ_ _ _ _=>False) ifs cond) (he:∀cl C s3 H3 fp ak,JE (X.blk scope cl (M0++N) C s3 H3 fp ak) cA ao aj (F aj) (λ_ _ _ _=>False) elt B)
  (GF:nH iter₂=true:=by rfl) (yg:swapsWith (.ListComp elt [⟨tg,iter,[],0⟩,⟨tg₂,iter₂,ifs,0⟩] scope pos) (some (.Name y py)) spos.line X.env=pure true:=by rfl) (Wb:X.fn y=true\/k=.local:=by first|exact .inl rfl|exact .inr rfl) (hs:∀x,foldedSetIterable iter X.env x=pure x:=by intro _;rfl) :
  JS X cA ao aj F EX (.Assign [.Name y py] (.ListComp elt [⟨tg,iter,[],0⟩,⟨tg₂,iter₂,ifs,0⟩] scope pos) spos) (.asg (.nm i) (.jh fz B aF w aF₂ w₂ fr M0.length cond)):=
 ⟨V9 hc hN tM (zA hx hl) (zB hx Wb) (cC.of (Gx▸hB)) hi.o (Bv (uD▸hf)).1 (Bv (uD▸hf)).2 (λa b c d e f=>(hg₁ a b c d e f).o) hT (GD cV).1 (λa b c d e f=>(hi₂ a b c d e f).o) (λa b c d e f=>(hg a b c d e f).o) hT₂ (GD cV).2.1 (GD cV).2.2 (λa b c d e f=>(ht a b c d e f).o) (λa b c d e f=>(he a b c d e f).o) yg (V_ GF) hs⟩
end
section
variable {X:Cx}{cA:Cl}{ao:Nat->Nat->Bool}{aj:Bool}{F:Fn}{EX:XS}{elt iter tg iter₂ tg₂:Expr}{A B:E}{pos p:Pos}{ifs:List Expr}{scope:Scope}{N:List Str}{cond:Eo}{fr aF aF₂:List Nat}{many:Nat}{fz:Bool}{w w₂:Wk}{i:Nat}{y:Str}
end
section
variable {K:W.Frag}{cA:Cl}{U:Ph}{H:Hp}
theorem aq.uJ(r:aq K cA U H xs ys):∀l:List Nat,aq K cA U H (l.map λi=>xs.getD i .non) (l.map λi=>ys.getD i .non)
 |[]=>.nil
 |i::l=>by
  refine .cons ?_ (aq.uJ r l);show Rep K cA U H (xs.getD i .non) (ys.getD i .non);cases e:xs[i]? with
  |some x=>
   obtain⟨u,e1,e2⟩:=r.get e;rw[oN,oN,e,e1];exact e2
  |none=>
   have e1:ys[i]?=Option.none:=r.none e;rw[oN,oN,e,e1];exact .non
theorem aq.mem(r:aq K cA U H xs ys):∀v∈ys,∃d∈xs,Rep K cA U H d v:=by
 intro v hv;obtain⟨i,hi,e⟩:=List.getElem_of_mem hv;have e':ys[i]?=some v:=by rw[kI hi,e]
 cases ex:xs[i]? with
 |none=>rw[r.none ex] at e';cases e'
 |some d=>
  obtain⟨u,e1,e2⟩:=r.get ex;rw[e1] at e';cases e';exact⟨d,iR ex,e2⟩
theorem KR:∀{us ws:List D} {xs ys:List V},aq K cA U H us xs->aq K cA U H ws ys->∀{b:Bool},lA us ws=some b->gM xs ys=some b
 |[],ws,_,ys,r1,r2,b,h=>by
  cases r1;unfold lA at h;unfold gM;rw[<-r2.len];exact h
 |_::_,[],_,_,r1,r2,b,h=>by
  cases r2;cases r1;unfold lA at h;unfold gM;exact h
 |x::us,y::ws,_,_,r1,r2,b,h=>by
  cases r1 with
  |cons a1 b1=>
   cases r2 with
   |cons a2 b2=>
    unfold lA at h;split at h
    ·rename_i z;cases z
    ·rename_i z;cases z
    ·rename_i p ps q qs e1 e2;cases e1;cases e2;cases a1;cases a2;unfold gM;by_cases e:p=q
     ·rw[if_pos e] at h ⊢;exact KR b1 b2 h
     ·rw[if_neg e] at h ⊢;exact h
    ·cases h
theorem Wc(r:aq K cA U H xs ys)(h:(xs.all iG||xs.all fW)=true):m6 K H ys (vC xs):=by
 rw[Bool.or_eq_true] at h;rcases h with h|h
 ·left
  rw[mj] at h;refine⟨λv hv=>?_,λi j b e=>?_⟩
  ·obtain⟨d,hd,q⟩:=r.mem v hv;have:=h d hd;cases q<;>first|exact⟨_,rfl⟩|cases this
  ·unfold vC at e;cases e1:xs[i]? with
   |none=>rw[e1] at e;cases e
   |some d1=>
    cases e2:xs[j]? with
    |none=>rw[e1,e2] at e;cases d1<;>cases e
    |some d2=>
     have h1:=h d1 (iR e1);have h2:=h d2 (iR e2);rw[e1,e2] at e;obtain⟨v1,a1,b1⟩:=r.get e1;obtain⟨v2,a2,b2⟩:=r.get e2;cases d1<;>first|cases h1|skip
     cases d2<;>first|cases h2|skip
     cases b1;cases b2;cases e;exact⟨_,_,a1,a2,rfl⟩
 ·right
  rw[mj] at h;refine⟨λv hv=>?_,λi j b e=>?_⟩
  ·obtain⟨d,hd,q⟩:=r.mem v hv;have:=h d hd;unfold fW at this;split at this
   ·cases q with
    |tup t r'=>
     cases r' with
     |cons a1 b1=>
      cases a1;exact⟨_,_,_,rfl,t.iJ⟩
   ·cases this
  ·unfold vC at e;cases e1:xs[i]? with
   |none=>rw[e1] at e;cases e
   |some d1=>
    cases e2:xs[j]? with
    |none=>rw[e1,e2] at e;cases d1<;>cases e
    |some d2=>
     have h1:=h d1 (iR e1);have h2:=h d2 (iR e2);rw[e1,e2] at e;obtain⟨v1,a1,b1⟩:=r.get e1;obtain⟨v2,a2,b2⟩:=r.get e2;unfold fW at h1 h2;split at h1
     ·split at h2
      ·cases b1 with
       |tup t1 r1=>
        cases b2 with
        |tup t2 r2=>exact⟨_,_,_,_,a1,a2,t1.iJ,t2.iJ,KR r1 r2 e⟩
      ·cases h2
     ·cases h1
theorem Wd:aZ K cA .sorted (λxs H Q=>∃l ys lt p,xs=[.ref l]/\cH K H l ys/\ys.length<64/\(2<=ys.length->m6 K H ys lt/\aW lt (PySem.W.kas_sort ys.length)=some p/\p.size=ys.length)/\∀r,H r=none->Q (.ref r) (upd H r (.lst (cG ys p)))):=by
 intro U H ds vs Q zt rs o;have o:aY K cA U H (iH ds) Q:=o;unfold iH at o;split at o
 ·rename_i xs _;obtain⟨v,rfl,r1⟩:=rs.one;obtain⟨z,e⟩:=o.some';obtain⟨zs,e1,e2⟩:=oO.mp e;subst e2;obtain⟨a,us,rfl,sq,q⟩ : ∃a us,v=.ref a/\cH K H a us/\aq K cA U H xs us:=r1;have hl:=q.len;unfold Fe at e1;by_cases hk:(xs.all iG||xs.all fW)=true
  ·rw[if_pos hk] at e1;unfold fX at e1;by_cases h2:xs.length<2
   ·rw[if_pos h2] at e1;cases e1;refine⟨a,us,λ_ _=>none,#[],rfl,sq,by lia,λz=>absurd z (by lia),λr hr=>?_⟩;have:cG us #[]=us:=by unfold cG;rw[if_pos (by lia)]
    rw[this];exact(o.of e) r us hr q
   ·rw[if_neg h2] at e1;by_cases j4:xs.length<64
    ·rw[if_pos j4] at e1;cases ek:aW (vC xs) (PySem.W.kas_sort xs.length) with
     |none=>rw[ek] at e1;cases e1
     |some p=>
      rw[ek] at e1;dsimp only at e1;by_cases hp:p.size=xs.length
      ·rw[if_pos hp] at e1;cases e1;refine⟨a,us,vC xs,p,rfl,sq,by lia,λ_=>⟨Wc q hk,by rw[<-hl];exact ek,by lia⟩,λr hr=>?_⟩;have:cG us p=p.toList.map λi=>us.getD i .non:=by unfold cG;rw[if_neg (by lia)]
       rw[this];exact(o.of e) r _ hr (q.uJ p.toList)
      ·rw[if_neg hp] at e1;cases e1
    ·rw[if_neg j4] at e1;cases e1
  ·rw[if_neg hk] at e1;cases e1
 ·exact o.elim
end
section
variable {X:Cx}{cA:Cl}{ao:Nat->Nat->Bool}{aj:Bool}{F:Fn}{EX:XS}{e:Expr}{pos p:Pos}{es:List Expr}{Xs:Es}{fz:Bool}
theorem KY:bootBuiltins "sorted"=some (.builtin "sorted"):=by decide +kernel
theorem Wf(hm:X.mg "sorted"=none)(hg:JK X "sorted" .globalImplicit)(ha:JA X cA ao aj F EX (e::es) Xs)(he:aC e=true:=by rfl)(cL:es.all aC=true:=by rfl):JE X cA ao aj F EX (.Call (.Name "sorted" p) (e::es) [] pos) (.pr fz .sorted Xs):=⟨vG Ru Wd hg.o hm KY ha.o (by decide) (by decide) (bx he) (bH cL)⟩
end
section
variable {K:W.Frag}{cA:Cl}{U:Ph}{H:Hp}
end
section
variable {X:Cx}{cA:Cl}{ao:Nat->Nat->Bool}{aj:Bool}{F:Fn}{EX:XS}{a b:Expr}{A B:E}{pos pp tpos:Pos}{elts:List Expr}{kk:Nat}
end
section
variable {X:Cx}{cA:Cl}{ao:Nat->Nat->Bool}{aj:Bool}{F:Bool->Fn}{EX:XS}{e:Expr}{es:List Expr}{Xs:Es}{pos p:Pos}{x:Str}
end
section
variable {X:Cx}{cA:Cl}{ao:Nat->Nat->Bool}{aj:Bool}{F:Fn}{EX:XS}{a b:Expr}{A B:E}{pos p tpos:Pos}{elts:List Expr}{kk:Nat}
end
end Mi
namespace Mi
open PySem PySem.Spec PyProof.Rows L2 PySem.W
theorem Wg{fd:FuncData}{q:Str}{st:Stmt}(h:lO fd=rO q st):fd=fnOf "__init__" q (bf st) (aM st) (aA st) .none fd.kwdefaults fd.doc fd.pyModule fd.annotations fd.code fd.closureTuple:=by
 cases fd;unfold lO rO at h;cases h;rfl
structure zG(K:Frag)(C:Addr)(q:Str)(st:Stmt):Prop where
 ex:∃(fI:Addr) (od:Option Addr) (kV doc pm:Value) (an:Option Addr) (cdv ct:Value) (osl:Array (Option Value)) (cd:ClassData),
  K.lookup fI=some ⟨.type "function",od,.func (fnOf "__init__" q (bf st) (aM st) (aA st) .none kV doc pm an cdv ct),osl⟩/\codeIn K cdv q=true/\mz K C fI=true/\clsIn K C=some cd/\mq cd.mro=true/\cd.hasDict=true
theorem Wh{K:Frag}{C:Addr}{q:Str}{st:Stmt}(h:(wF K C).map lO=some (rO q st)):zG K C q st:=by
 cases e:wF K C with
 |none=>rw[e] at h;cases h
 |some fd=>
  rw[e] at h;have hp:lO fd=rO q st:=dG h;unfold wF at e;split at e
  ·rename_i cd gG;split at e
   ·rename_i f hf;split at e
    ·rename_i od fd' sl hl;split at e
     ·rename_i hc;cases e;simp only[dU] at hc;obtain⟨⟨⟨c1,c2⟩,c3⟩,c4⟩:=hc;have eq:=Wg hp;have qn:fd.qualname=q:=by rw[eq]
      refine⟨⟨f,od,fd.kwdefaults,fd.doc,fd.pyModule,fd.annotations,fd.code,fd.closureTuple,sl,cd,?_,by rw[<-qn];exact c1,c2,gG,c3,c4⟩⟩;rw[<-eq];exact hl
     ·cases e
    ·cases e
   ·cases e
  ·cases e
theorem Wi{K:Frag}{C:Addr}{f:Str}(h:Ab K C f=true):XF K C f:=by
 unfold Ab at h;simp only[dU,rM] at h;obtain⟨⟨⟨⟨h1,h2⟩,h3⟩,h4⟩,h5⟩:=h;exact⟨h1,h2,h3,h4,h5⟩
structure g_(fs:List (Str×Stmt))(ms:List oY)(xs:List (Nat×Str))(l:Lk)(K:Frag):Prop where
 fn:∀p∈fs,FnAt K p.1 p.2
 gd:rA l K
 mi:∀m∈ms,zG K (dW (l.L K) m.c) m.q m.st
 se:∀m∈ms,setB K (dW (l.L K) m.c) m.fs=true
 xf:∀x∈xs,XF K (dW (l.L K) x.1) x.2
theorem GJ{a:Nat}{o:Obj}:∀{l:List Obj} {i:Nat},((a:Addr),o)∈wG i l->i<=a/\l[a-i]?=some o/\o.isFreed=false
 |[],i,h=>by cases h
 |p::r,i,h=>by
  unfold wG at h;split at h
  ·obtain⟨h1,h2,h3⟩:=GJ h;refine⟨by lia,?_,h3⟩;rw[show a-i=(a-(i+1))+1 by lia];exact h2
  ·rename_i hf;rcases jq.mp h with e|h
   ·cases e;exact⟨cg _,by simp,(Bool.or_eq_false_iff.mp hf).1⟩
   ·obtain⟨h1,h2,h3⟩:=GJ h;refine⟨by lia,?_,h3⟩;rw[show a-i=(a-(i+1))+1 by lia];exact h2
theorem GK:∀{K:Frag},K.lookup a=some o->(a,o)∈K
 |[],h=>by cases h
 |(b,p)::r,h=>by
  rw[kO] at h;by_cases e:a=b
  ·subst e;simp only[vd] at h;cases h;exact jx
  ·rw[show (a==b)=false by simpa using e] at h;exact gP _ (GK h)
theorem Wj:(aX h).In h:=λa o e=>by
 have hm:=GK e;unfold aX at hm;rcases jz.mp hm with z|z
 ·unfold jR at z;split at z
  ·rename_i p hp;rcases jq.mp z with e|z
   ·cases e;exact hp
   ·cases z
  ·cases z
 ·obtain⟨_,h2,h3⟩:=GJ (List.mem_reverse.mp z);rw[Heap.get?_some_iff];refine⟨?_,h3⟩;have:h.objs.toList[a]?=some o:=by simpa using h2
  simpa using this
end Mi
namespace Mi
open PySem PySem.Spec PyProof.Rows L2
section
variable {K:W.Frag}{cA:Cl}{U:Ph}{H:Hp}
end
section
variable {X:Cx}{cA:Cl}{ao:Nat->Nat->Bool}{aj:Bool}{F:Fn}{EX:XS}{a b:Expr}{A B:E}{pos pp tpos:Pos}{elts:List Expr}{kk:Nat}
end
section
variable {K:W.Frag}{cA:Cl}{U:Ph}{H:Hp}
end
section
variable {X:Cx}
end
section
variable {X:Cx}{cA:Cl}{ao:Nat->Nat->Bool}{aj:Bool}{F:Fn}{EX:XS}{e:Expr}{pos p:Pos}{es:List Expr}{Xs:Es}{fz:Bool}
end
section
variable {X:Cx}
end
section
variable {K:W.Frag}{cA:Cl}{U:Ph}{H:Hp}
end
section
variable {X:Cx}{cA:Cl}{ao:Nat->Nat->Bool}{aj:Bool}{F:Fn}{EX:XS}{e:Expr}{pos pos' p p':Pos}{es:List Expr}{Xs:Es}{fz:Bool}
end
end Mi
namespace Mi
open PySem PySem.Spec PyProof.Rows L2 PySem.W
structure D3(K:Frag)(mg:Str->Option Value)(x:Str)(st:Stmt)(ps:List Str):Prop where
 f:qZ K x x st (cU K x) (fdOf K x st)
 m:mg x=some (.ref (cU K x))
 b:Binds K (fdOf K x st) ps []
theorem dk{p:Prop}(h:p:=by decide +kernel):p:=h
section
variable {fs:List (Str×Stmt)}{ms:List oY}{xs:List (Nat×Str)}{lk:Lk}{K:Frag}{h:Heap}{mg:Str->Option Value}{x:Str}{st:Stmt}
theorem vU(S:g_ fs ms xs lk K)(X:K.In h)(G:h.Ns mainGlobals mg)(j:Nat)(hj:fs[j]?=some (x,st):=by rfl)(hb:∀(kV doc pm:Value) (an:Option Addr) (cdv ct a:Value),bindArgs (fnOf x x (bf st) (aM st) (aA st) .none kV doc pm an cdv ct) ⟨[a],[]⟩=pure [(p,a)]:=by intros;rfl):D3 K mg x st [p]:=have F:=S.fn (x,st) (iR hj);⟨F.fn,F.m X G,qe F.fn hb⟩
theorem BK(S:g_ fs ms xs lk K)(X:K.In h)(G:h.Ns mainGlobals mg)(j:Nat)(hj:fs[j]?=some (x,st):=by rfl)(hb:∀(kV doc pm:Value) (an:Option Addr) (cdv ct a b:Value),bindArgs (fnOf x x (bf st) (aM st) (aA st) .none kV doc pm an cdv ct) ⟨[a,b],[]⟩=pure [(p,a),(q,b)]:=by intros;rfl):D3 K mg x st [p,q]:=have F:=S.fn (x,st) (iR hj);⟨F.fn,F.m X G,qg F.fn hb⟩
theorem mG{α:Type}{l:List α}{a:α}(j:Nat)(h:l[j]?=some a:=by rfl):a∈l:=iR h
end
end Mi
namespace Mi
open PySem PySem.Spec PyProof.Rows L2
section
variable {X:Cx}{cA:Cl}
end
section
variable {X:Cx}{cA:Cl}{ao:Nat->Nat->Bool}{aj:Bool}{F:Fn}{EX:XS}{e:Expr}{pos p:Pos}{es:List Expr}{Xs:Es}{fz:Bool}
end
end Mi
namespace Mi
open PySem
def W{α:Type}(m:M α)(s:S)(P:α->S->Prop):Prop:=∃a s',m s=some (.ok a,s')/\P a s'
def WS(m:MS)(s:S)(Q:Out->S->Prop):Prop:=∃o s',m s=some (o,s')/\Q o s'
section
variable {α β:Type}{m:M α}{k:α->M β}{s:S}{P:α->S->Prop}{R:β->S->Prop}
theorem W.bd(h:W m s λa s'=>W (k a) s' R):W (M.bd m k) s R:=by
 obtain⟨a,s',e,b,s2,e2,r⟩:=h;exact⟨b,s2,by unfold M.bd;rw[e];exact e2,r⟩
theorem W.ret{a:α}(h:P a s):W (M.ret a) s P:=⟨a,s,rfl,h⟩
theorem W.opt(e:o=some a)(h:P a s):W (M.opt o) s P:=by subst e;exact⟨a,s,rfl,h⟩
theorem W.imp{P':α->S->Prop}(h:W m s P)(f:∀a s',P a s'->P' a s'):W m s P':=let ⟨a,s',e,p⟩:=h;⟨a,s',e,f a s' p⟩
theorem W.eq(e:m s=some (.ok a,s'))(p:P a s'):W m s P:=⟨a,s',e,p⟩
theorem Wm{d:D}{P:D->S->Prop}(h:P d s):W (rd (.d d)) s P:=⟨d,s,rfl,h⟩
theorem KZ{n:Nat}{xs:List D}{P:D->S->Prop}(e:s[n]?=some (.lst xs))(h:P (.fl xs) s):W (rd (.l n)) s P:=⟨.fl xs,s,by unfold rd;simp only[e],h⟩
theorem Wn{P:List D->S->Prop}(h:P [] s):W (eH []) s P:=⟨[],s,rfl,h⟩
theorem Wo{x:Xv}{r:List Xv}{P:List D->S->Prop}(h:W (rd x) s λd s1=>W (eH r) s1 λds s2=>P (d::ds) s2):W (eH (x::r)) s P:=W.bd (h.imp λd s1 h1=>W.bd (h1.imp λds s2 h2=>W.ret h2))
theorem Wq{P:List D->S->Prop}(h:P [] s):W (dj []) s P:=⟨[],s,rfl,h⟩
theorem Wr{d:D}{r:List Xv}{P:List D->S->Prop}(h:W (dj r) s λds s2=>P (d::ds) s2):W (dj (.d d::r)) s P:=W.bd (W.ret (W.bd (h.imp λds s2 h2=>W.ret h2)))
theorem W.dat{x:D}{P:D->S->Prop}(h:P x s):W (dat (.d x)) s P:=⟨x,s,rfl,h⟩
theorem W.bool{b:Bool}{P:Bool->S->Prop}(h:P b s):W (bool (.d (.bl b))) s P:=⟨b,s,rfl,h⟩
theorem W.int{b:Int}{P:Int->S->Prop}(h:P b s):W (int (.d (.int b))) s P:=⟨b,s,rfl,h⟩
theorem K1{fz:Bool}{o:Option Rz}{d:D}{P:Xv->S->Prop}(e:o=some (.dat d))(h:P (.d d) s):W (bM fz o) s P:=by subst e;exact⟨_,s,rfl,h⟩
theorem K3{o:Option Rz}{xs:List D}{P:Xv->S->Prop}(e:o=some (.nw xs))(h:P (.d (.fl xs)) s):W (bM true o) s P:=by subst e;exact⟨_,s,rfl,h⟩
theorem Ws{xs:List D}{P:Xv->S->Prop}(h:P (.d (.fl xs)) s):W (newL true xs) s P:=⟨_,s,rfl,h⟩
theorem Wt{xs:List D}{P:Xv->S->Prop}(h:P (.l s.length) (s++[.lst xs])):W (newL false xs) s P:=⟨_,_,rfl,h⟩
theorem K4{F:List Xv->M Xv}{xs:List Xv}{P:Xv->S->Prop}(hl:locs xs=[])(h:W (F (cD 0 xs)) [] λv _=>∃d,v=.d d/\P (.d d) s):W (bU F xs) s P:=by
 obtain⟨v,s1,e,d,rfl,p⟩:=h;refine⟨.d d,s,?_,p⟩;unfold bU;rw[hl,if_pos wj];simp only[fB,e,bR]
theorem Wu{F:List Xv->M Xv}{xs:List Xv}{P:Xv->S->Prop}(hl:locs xs=[])(h:W (F (cD 0 xs)) [] λv s1=>∃n o,v=.l n/\s1[n]?=some o/\P (.l s.length) (s++[o])):W (bU F xs) s P:=by
 obtain⟨v,s1,e,n,o,rfl,eo,p⟩:=h;refine⟨.l s.length,s++[o],?_,p⟩;unfold bU;rw[hl,if_pos wj];simp only[fB,e,bR,List.getElem?_nil,eo]
theorem Wv{F:List Xv->M Xv}{xs:List Xv}{n:Nat}{o:SO}{P:Xv->S->Prop}(hl:locs xs=[n])(ho:s[n]?=some o)(h:W (F (cD 0 xs)) [o] λv s1=>∃d o',v=.d d/\s1=[o']/\P (.d d) (s.set n o')):W (bU F xs) s P:=by
 obtain⟨v,s1,e,d,o',rfl,rfl,p⟩:=h;refine⟨.d d,s.set n o',?_,p⟩;unfold bU;rw[hl,if_pos (by simp)];simp only[fB,ho,e,bR]
end
section
variable {s:S}{Q:Out->S->Prop}
theorem WS.ofM(h:W m s λa s'=>WS (k a) s' Q):WS (Mi.ofM m J k) s Q:=by
 obtain⟨a,s',e,o,s2,e2,q⟩:=h;exact⟨o,s2,by unfold Mi.ofM;rw[e];exact e2,q⟩
theorem WS.nx(h:Q (.nx J) s):WS (λs=>some (.nx J,s)) s Q:=⟨_,s,rfl,h⟩
theorem WS.rt(h:Q (.rt x) s):WS (λs=>some (.rt x,s)) s Q:=⟨_,s,rfl,h⟩
end
theorem W.call(hT:T f=some d)(hl:xs.length=d.eN)
  (h:WS (exs ao aj (λc=>Mi.call ao T k c) d.body (xs.map some++List.replicate (d.many-d.eN) none)) s λo s'=>match o with|.nx _=>P (.d .non) s'|.rt v=>P v s'|_=>False):W (Mi.call ao T (k+1) aj f xs) s P:=by
 obtain⟨o,s',e,q⟩:=h;unfold Mi.call;simp only[hT,if_pos hl];unfold W;simp only[e];cases o with
 |nx J=>exact⟨_,_,rfl,q⟩
 |rt v=>exact⟨_,_,rfl,q⟩
 |bk J=>exact q.elim
 |ct J=>exact q.elim
 |er c fs J=>exact q.elim
theorem Ww(I:Nat->Vs->S->Prop)(h0:I 0 J s)(hb:∀i x J s,c[i]?=some x->I i J s->WS (b x J) s λo s'=>∃J',o=.nx J'/\I (i+1) J' s')
  (he:∀J s,I c.length J s->Q (.nx J) s):WS (cR (.fix c) b (c.length+1) 0 J) s Q:=by
 have key:∀n i J s,i+n=c.length->I i J s->WS (cR (.fix c) b (n+1) i J) s Q:=by
  intro n
  induction n with
  |zero=>
   intro i J s hi hI;have e:c[i]?=none:=by rw[qm];lia
   have:i=c.length:=by lia
   subst this;refine⟨_,s,?_,he J s hI⟩;unfold cR;simp only[Src.at,e]
  |succ n ih=>
   intro i J s hi hI;have cM:i<c.length:=by lia
   have e:c[i]?=some c[i]:=kI cM;obtain⟨o,s',eb,J',rfl,Wx⟩:=hb i c[i] J s e hI;obtain⟨o2,s2,e2,q⟩:=ih (i+1) J' s' (by lia) Wx;refine⟨o2,s2,?_,q⟩;unfold cR;simp only[Src.at,e,eb];exact e2
 exact key c.length 0 J s (by lia) h0
theorem Wy{i j:Int}(h:(-(2^64)<i/\i<2^64)\/(-(2^64)<j/\j<2^64)):prim .mul [.int i,.int j]=some (.dat (.int (i*j))):=by
 show Option.map _ (if _ then _ else _)=_;rw[if_pos h];rfl
theorem Wz{i j:Int}(h:0<j):prim .mod [.int i,.int j]=some (.dat (.int (i%j))):=by
 show Option.map _ (if _ then _ else _)=_;rw[if_pos h];rfl
theorem WD{i j:Int}(h:0<j/\j<1073741824):prim .fdiv [.int i,.int j]=some (.dat (.int (i/j))):=by
 show Option.map _ (if _ then _ else _)=_;rw[if_pos h];rfl
theorem WK{i j:Int}(h:0<j/\j<1073741824):prim .divmod [.int i,.int j]=some (.dat (.tup [.int (i/j),.int (i%j)])):=by
 show Option.map _ (if _ then _ else _)=_;rw[if_pos h];rfl
theorem WL{i j:Int}(h:0<=j/\j<=1000000/\i.natAbs<2^64):prim .pow [.int i,.int j]=some (.dat (.int (i^j.toNat))):=by
 show Option.map _ (if _ then _ else _)=_;rw[if_pos h];rfl
theorem WM{xs:List D}{i:Nat}{x:D}(h:xs[i]?=some x):prim .ix [.fl xs,.int i]=some (.dat x):=by
 show Option.map Rz.dat (L2.mR xs i)=_;have:L2.mR xs (i:Int)=some x:=by
  unfold L2.mR L2.pG;have hl:i<xs.length:=(gD.mp h).1;simp[hl];exact(gD.mp h).2
 rw[this];rfl
theorem WQ(h:xs.length+ys.length<=sizeLine):prim .add [.fl xs,.fl ys]=some (.nw (xs++ys)):=by
 show (if _ then _ else _)=_;rw[if_pos h]
theorem WS.ite[Decidable c](h1:c->WS m1 s P)(h2:¬c->WS m2 s P):WS (if c then m1 else m2) s P:=by
 by_cases h:c
 ·rw[if_pos h];exact h1 h
 ·rw[if_neg h];exact h2 h
theorem GP{n:Nat}{xs:List D}{s:S}{P:Unit->S->Prop}(h:P () (s.set n (.lst xs))):W (putL n xs) s P:=⟨_,_,rfl,h⟩
theorem W.bK{n:Nat}{xs:List D}{s:S}{P:Nat×List D->S->Prop}(e:s[n]?=some (.lst xs))(h:P (n,xs) s):W (bK (.l n)) s P:=⟨_,s,by unfold Mi.bK;simp only[e],h⟩
theorem WR{xs:List D}{s:S}{P:Src×Nat->S->Prop}(h:P (.fix xs,xs.length) s):W (src (.d (.tup xs))) s P:=⟨_,s,rfl,h⟩
theorem WT{xs:List D}{s:S}{P:Src×Nat->S->Prop}(h:P (.fix xs,xs.length) s):W (src (.d (.fl xs))) s P:=⟨_,s,rfl,h⟩
theorem WS.nil{ao:Nat->Nat->Bool}{aj:Bool}{F:Bool->Fn}{J:Vs}{s:S}{Q:Out->S->Prop}(h:Q (.nx J) s):WS (exs ao aj F .nil J) s Q:=⟨_,s,rfl,h⟩
theorem WS.cons{ao:Nat->Nat->Bool}{aj:Bool}{F:Bool->Fn}{a:St}{r:eG}{J:Vs}{s:S}{Q:Out->S->Prop}(h:WS (ex ao aj F a J) s λo s'=>match o with|.nx J'=>WS (exs ao aj F r J') s' Q|.rt x=>Q (.rt x) s'|_=>False):WS (exs ao aj F (.cons a r) J) s Q:=by
 obtain⟨o,s',e,q⟩:=h;unfold WS exs Mi.bL;rw[e];cases o with
 |nx J'=>exact q
 |rt x=>exact⟨_,_,rfl,q⟩
 |bk _=>exact q.elim
 |ct _=>exact q.elim
 |er _ _ _=>exact q.elim
def uK{α:Type}(o:Option α)(P:α->Prop):Prop:=∃a,o=some a/\P a
theorem uK.mk{α:Type}{o:Option α}{P:α->Prop}{a:α}(e:o=some a)(h:P a):uK o P:=⟨a,e,h⟩
section
variable {ao:Nat->Nat->Bool}{aj:Bool}{F:Fn}{J:Vs}{s:S}{P:Xv->S->Prop}
theorem W.eC{d:D}(h:P (.d d) s):W (ev ao aj F (.c d) J) s P:=W.ret h
theorem W.eV{i:Nat}{x:Xv}(e:J[i]?.join=some x)(h:P x s):W (ev ao aj F (.v i) J) s P:=W.opt e h
theorem K5{fz:Bool}{p:Pr}{xs:Es}(h:W (evs ao aj F xs J) s λvs s1=>W (eH vs) s1 λds s2=>W (bM fz (prim p ds)) s2 P):W (ev ao aj F (.pr fz p xs) J) s P:=W.bd (h.imp λ_ _ h=>W.bd h)
theorem WW{a b:E}(h:W (ev ao aj F a J) s λx s1=>W (Mi.bool x) s1 λk s2=>W (if k=true then ev ao aj F b J else M.ret (.d (.bl false))) s2 P):W (ev ao aj F (.and a b) J) s P:=W.bd (h.imp λ_ _ h=>W.bd h)
theorem WX{a b:E}(h:W (ev ao aj F a J) s λx s1=>W (Mi.bool x) s1 λk s2=>W (if k=true then M.ret (.d (.bl true)) else ev ao aj F b J) s2 P):W (ev ao aj F (.or a b) J) s P:=W.bd (h.imp λ_ _ h=>W.bd h)
theorem WY{a:E}(h:W (ev ao aj F a J) s λx s1=>W (Mi.bool x) s1 λk s2=>P (.d (.bl (!k))) s2):W (ev ao aj F (.not a) J) s P:=W.bd (h.imp λ_ _ h=>W.bd (h.imp λ_ _ h=>W.ret h))
theorem W0{xs:Es}(h:W (evs ao aj F xs J) s λvs s1=>W (dj vs) s1 λds s2=>P (.d (.tup ds)) s2):W (ev ao aj F (.tup xs) J) s P:=W.bd (h.imp λ_ _ h=>W.bd (h.imp λ_ _ h=>W.ret h))
theorem W2{fz:Bool}{xs:Es}(h:W (evs ao aj F xs J) s λvs s1=>W (dj vs) s1 λds s2=>W (newL fz ds) s2 P):W (ev ao aj F (.lst fz xs) J) s P:=W.bd (h.imp λ_ _ h=>W.bd h)
theorem W3{k:Str}{i:Int}(h:P (.d (.fd [.str k] [.int i])) s):W (ev ao aj F (.yu k i) J) s P:=W.ret h
theorem K6{f:Nat}{xs:Es}(h:W (evs ao aj F xs J) s λvs s1=>W (bU (F f) vs) s1 P):W (ev ao aj F (.call f xs) J) s P:=W.bd h
theorem W4{fz:Bool}{a:E}{lo hi:Eo}(h:W (ev ao aj F a J) s λx s1=>W (pQ ao aj F lo J) s1 λl s2=>W (pQ ao aj F hi J) s2 λu s3=>W (rd x) s3 λd s4=>W (bM fz (cutD d l u)) s4 P):W (ev ao aj F (.sl fz a lo hi) J) s P:=W.bd (h.imp λ_ _ h=>W.bd (h.imp λ_ _ h=>W.bd (h.imp λ_ _ h=>W.bd h)))
theorem W5{P:Option Int->S->Prop}(h:P none s):W (pQ ao aj F .no J) s P:=W.ret h
theorem W6{a:E}{P:Option Int->S->Prop}(h:W (ev ao aj F a J) s λx s1=>W (Mi.int x) s1 λi s2=>P (some i) s2):W (pQ ao aj F (.yes a) J) s P:=W.bd (h.imp λ_ _ h=>W.bd (h.imp λ_ _ h=>W.ret h))
theorem W7{P:List Xv->S->Prop}(h:P [] s):W (evs ao aj F .nil J) s P:=W.ret h
theorem W8{a:E}{r:Es}{P:List Xv->S->Prop}(h:W (ev ao aj F a J) s λx s1=>W (evs ao aj F r J) s1 λxs s2=>P (x::xs) s2):W (evs ao aj F (.cons a r) J) s P:=W.bd (h.imp λ_ _ h=>W.bd (h.imp λ_ _ h=>W.ret h))
theorem W9{a:E}{P:Src×Nat->S->Prop}(h:W (ev ao aj F a J) s λx s1=>W (src x) s1 P):W (gb ao aj F (.seq a) J) s P:=W.bd h
end
section
variable {ao:Nat->Nat->Bool}{aj:Bool}{F:Bool->Fn}{J:Vs}{s:S}{Q:Out->S->Prop}
theorem WS.GQ{b:Bool}{m1 m2:MS}(e:b=true)(h:WS m1 s Q):WS (if b=true then m1 else m2) s Q:=by rw[if_pos e];exact h
theorem WS.GR{b:Bool}{m1 m2:MS}(e:b=false)(h:WS m2 s Q):WS (if b=true then m1 else m2) s Q:=by rw[if_neg (by rw[e];decide)];exact h
theorem WS.rB{m1 m2:MS}(h:WS m1 s Q):WS (if true=true then m1 else m2) s Q:=by rw[if_pos rfl];exact h
theorem WS.GX{m1 m2:MS}(h:WS m2 s Q):WS (if false=true then m1 else m2) s Q:=by rw[if_neg (by decide)];exact h
theorem W_{e:E}(h:W (ev ao aj (F aj) e J) s λ_ s1=>Q (.nx J) s1):WS (ex ao aj F (.ex e) J) s Q:=WS.ofM (h.imp λ_ _ h=>WS.nx h)
theorem K7{i:Nat}{e:E}(h:W (ev ao aj (F aj) e J) s λx s1=>Q (.nx (J.set i (some x))) s1):WS (ex ao aj F (.asg (.nm i) e) J) s Q:=WS.ofM (h.imp λ_ _ h=>WS.nx h)
theorem Xa{is:List Nat}{e:E}(h:W (ev ao true (F true) e J) s λx s1=>W (dat x) s1 λd s2=>uK ((f9 d).bind λds=>cO is (ds.map .d) J) λJ'=>Q (.nx J') s2):WS (ex ao true F (.asg (.tp is) e) J) s Q:=by
 refine WS.ofM (h.imp λx s1 h=>?_);exact WS.rB (m2:=λ_=>none) (WS.ofM (W.bd (h.imp λd s2 ⟨J',e,q⟩=>W.opt e (WS.nx q))))
theorem Xb{o i e:E}(h:W (ev ao aj (F aj) e J) s λx s1=>W (dat x) s1 λd s2=>W (ev ao aj (F aj) o J) s2 λy s3=>W (ev ao aj (F aj) i J) s3 λz s4=>W (Mi.int z) s4 λj s5=>W (bK y) s5 λnx s6=>uK (L2.pG nx.2.length j) λq=>Q (.nx J) (s6.set nx.1 (.lst (nx.2.set q d)))):WS (ex ao aj F (.asg (.ao o i) e) J) s Q:=by
 refine WS.ofM (h.imp λx s1 h=>WS.ofM (W.bd (h.imp λd s2 h=>W.bd (h.imp λy s3 h=>W.bd (h.imp λz s4 h=>W.bd (h.imp λj s5 h=>W.bd (h.imp λnx s6 h=>?_)))))));obtain⟨q,e,h⟩:=h;simp only[e];exact GP (WS.nx h)
theorem Xc{i j:Nat}{a b:E}(h:W (ev ao true (F true) a J) s λx s1=>W (ev ao true (F true) b J) s1 λy s2=>Q (.nx ((J.set i (some x)).set j (some y))) s2):WS (ex ao true F (.par i j a b) J) s Q:=by
 exact WS.rB (m2:=λ_=>none) (WS.ofM (W.bd (h.imp λx s1 h=>W.bd (h.imp λy s2 h=>W.ret (WS.nx h)))))
theorem K8{e:E}(h:W (ev ao aj (F aj) e J) s λx s1=>Q (.rt x) s1):WS (ex ao aj F (.ret e) J) s Q:=WS.ofM (h.imp λ_ _ h=>WS.rt h)
theorem K9{c:E}{t e:eG}(h:W (ev ao aj (F aj) c J) s λx s1=>W (Mi.bool x) s1 λb s2=>WS (if b=true then exs ao aj F t J else exs ao aj F e J) s2 Q):WS (ex ao aj F (.iff c t e) J) s Q:=WS.ofM (W.bd h)
theorem Xd{t:Tg}{w:Wk}{b:eG}(h:W (gb ao true (F true) w J) s λcn s1=>WS (cR cn.1 (λd J=>Mi.bL (store ao true (F true) t (.d d) J) λJ'=>exs ao true F b J') (cn.2+1) 0 J) s1 Q):WS (ex ao true F (.fr t w b) J) s Q:=by
 exact WS.rB (m2:=λ_=>none) (WS.ofM h)
end
theorem W.GQ{α:Type}{b:Bool}{m1 m2:M α}{s:S}{P:α->S->Prop}(e:b=true)(h:W m1 s P):W (if b=true then m1 else m2) s P:=by rw[if_pos e];exact h
theorem W.GR{α:Type}{b:Bool}{m1 m2:M α}{s:S}{P:α->S->Prop}(e:b=false)(h:W m2 s P):W (if b=true then m1 else m2) s P:=by rw[if_neg (by rw[e];decide)];exact h
theorem W.rB{α:Type}{m1 m2:M α}{s:S}{P:α->S->Prop}(h:W m1 s P):W (if true=true then m1 else m2) s P:=by rw[if_pos rfl];exact h
theorem W.GX{α:Type}{m1 m2:M α}{s:S}{P:α->S->Prop}(h:W m2 s P):W (if false=true then m1 else m2) s P:=by rw[if_neg (by decide)];exact h
structure Bx(R:Prop):Prop where
 o:R
end Mi
namespace Mi
open PySem PySem.W PyProof.Rows L2
section
variable {α β:Type}{lt:Nat->Nat->Option Bool}{n:Nat}
def Xe(n:Nat)(lt:Nat->Nat->Option Bool):Prop:=∀i j,i<n->j<n->∃b,lt i j=some b
variable (ht:Xe n lt)(hn:0<n)
include ht hn
end
section
variable {lt:Nat->Nat->Option Bool}{n:Nat}
end
end Mi
namespace Mi
open PySem
section
variable {ao:Nat->Nat->Bool}{F:Fn}{J:Vs}{s:S}{P:Xv->S->Prop}
end
section
variable {ao:Nat->Nat->Bool}{aj:Bool}{F:Fn}{J:Vs}{s:S}{P:Xv->S->Prop}
theorem Xf(h:W (ev ao aj F a J) s λx s1=>W (rd x) s1 λd s2=>∃b,gY ao d k=some b/\P (.d (.bl b)) s2):W (ev ao aj F (.j6 a k) J) s P:=
 W.bd (h.imp λ_ _ h=>W.bd (h.imp λ_ _ ⟨_,e,h⟩=>W.bd (W.opt e (W.ret h))))
theorem Xg(h:W (ev ao aj F a J) s λx s1=>W (ev ao aj F b J) s1 λy s2=>W (eH [x,y]) s2 λds s3=>W (bM true (prim p ds)) s3 λt s4=>W (Mi.bool t) s4 λk s5=>
  W (if k=true then M.bd (ev ao aj F c J) λz=>M.bd (eH [y,z]) λds=>bM true (prim q ds) else M.ret (.d (.bl false))) s5 P):W (ev ao aj F (.yt p q a b c) J) s P:=
 W.bd (h.imp λ_ _ h=>W.bd (h.imp λ_ _ h=>W.bd (h.imp λ_ _ h=>W.bd (h.imp λ_ _ h=>W.bd h))))
end
noncomputable def zH(fz:Bool):Option Rz->Option Xv
 |some (.dat d)=>some (.d d)
 |some (.nw ys)=>match fz with
  |true=>some (.d (.fl ys))
  |false=>none
 |none=>none
noncomputable def addQ:D->D->Option Rz
 |.int i,.int j=>some (.dat (.int (i+j)))
 |_,_=>none
noncomputable def rC:List D->Option Rz
 |a::r=>match r with
  |b::r=>match r with
   |[]=>addQ a b
   |_::_=>none
  |[]=>none
 |[]=>none
noncomputable def quick:Pr->Bool
 |.yq=>false|.Jk=>false|.mul=>false|.fdiv=>false|.mod=>false|.pow=>false|.divmod=>false|.sorted=>false|.j5=>false|.yr=>false|.mult=>false|.qK=>false|.repr=>false|.str1=>false|.Jl=>false|.yj=>false|.yp=>false
 |_=>true
noncomputable def j_(p:Pr)(ds:List D):Option Rz:=match p with
 |.add=>rC ds
 |p=>match quick p with
  |true=>prim p ds
  |false=>none
theorem zJ{ds:List D}{r:Rz}(h:rC ds=some r):tU ds=some r:=by
 cases ds with
 |nil=>cases h
 |cons a t=>cases t with
  |nil=>cases h
  |cons b t=>cases t with
   |cons _ _=>cases h
   |nil=>cases a with
    |int i=>cases b with
     |int j=>exact h
     |_=>cases h
    |_=>cases h
theorem uL{p:Pr}{ds:List D}{r:Rz}(h:j_ p ds=some r):prim p ds=some r:=by
 cases p with
 |add=>exact zJ h
 |_=>first|exact h|cases h
noncomputable def GZ(fz:Bool)(ds:List D):Option Xv:=match fz with
 |true=>some (.d (.fl ds))
 |false=>none
noncomputable def zK:Xv->Option D
 |.d x=>some x
 |.l _=>none
noncomputable def Xh(c:Nat):Xv->Option (List D)
 |.d (.ob e fs)=>if e=c then some fs else none
 |_=>none
noncomputable def notP:Xv->Option Xv
 |.d (.bl b)=>some (.d (.bl (!b)))
 |_=>none
noncomputable def G3(r:Option Xv):Xv->Option Xv
 |.d (.bl true)=>r
 |.d (.bl false)=>some (.d (.bl false))
 |_=>none
noncomputable def Xi(r:Option Xv):Xv->Option Xv
 |.d (.bl true)=>some (.d (.bl true))
 |.d (.bl false)=>r
 |_=>none
section
variable (ao:Nat->Nat->Bool)
mutual
noncomputable def dz:E->Vs->Option Xv
 |.c d,_=>some (.d d)
 |.v i,J=>J[i]?.join
 |.pr fz p xs,J=>(jN xs J).bind λds=>zH fz (j_ p ds)
 |.tup xs,J=>(jN xs J).bind λds=>some (.d (.tup ds))
 |.lst fz xs,J=>(jN xs J).bind λds=>GZ fz ds
 |.not a,J=>(dz a J).bind notP
 |.and a b,J=>(dz a J).bind (G3 (dz b J))
 |.or a b,J=>(dz a J).bind (Xi (dz b J))
 |.j6 a k,J=>(dz a J).bind λx=>(zK x).bind λd=>(gY ao d k).bind λb=>some (.d (.bl b))
 |.of o c i,J=>(dz o J).bind λx=>(Xh c x).bind λfs=>fs[i]?.map .d
 |_,_=>none
noncomputable def jN:Es->Vs->Option (List D)
 |.nil,_=>some []
 |.cons a r,J=>(dz a J).bind λx=>(zK x).bind λd=>(jN r J).bind λds=>some (d::ds)
end
noncomputable def kh:Es->Vs->Option (List Xv)
 |.nil,_=>some []
 |.cons a r,J=>(dz ao a J).bind λx=>(kh r J).bind λxs=>some (x::xs)
end
theorem iM{α β:Type}{o:Option α}{f:α->Option β}{b:β}(h:o.bind f=some b):∃a,o=some a/\f a=some b:=uY.mp h
theorem eY{α β:Type}{m:M α}{k:α->M β}{s s':S}{a:α}(e:m s=some (.ok a,s')):M.bd m k s=k a s':=by
 show (match m s with|some (.ok a,s')=>k a s'|some (.er c f,s')=>some (.er c f,s')|none=>none)=_;rw[e]
theorem uM(s:S):∀ds:List D,eH (ds.map .d) s=some (.ok ds,s)
 |[]=>rfl
 |d::r=>(eY (s':=s) (a:=d) rfl).trans ((eY (uM s r)).trans rfl)
theorem nJ(s:S):∀ds:List D,dj (ds.map .d) s=some (.ok ds,s)
 |[]=>rfl
 |d::r=>(eY (s':=s) (a:=d) rfl).trans ((eY (nJ s r)).trans rfl)
theorem G4{fz:Bool}{p:Pr}{ds:List D}{x:Xv}{s:S}(h:zH fz (j_ p ds)=some x):bM fz (prim p ds) s=some (.ok x,s):=by
 cases o:j_ p ds with
 |none=>rw[o] at h;cases h
 |some r=>
  rw[o] at h;rw[uL o];cases r with
  |dat d=>cases h;rfl
  |nw ys=>cases fz with
   |true=>cases h;rfl
   |false=>cases h
section
variable {ao:Nat->Nat->Bool}{aj:Bool}{F:Fn}{J:Vs}{s:S}
theorem nM(e:E):∀x:Xv,dz ao e J=some x->ev ao aj F e J s=some (.ok x,s):=by
 refine E.rec (motive_1:=λe=>∀x:Xv,dz ao e J=some x->ev ao aj F e J s=some (.ok x,s)) (motive_2:=λ_=>True) (motive_3:=λxs=>∀ds:List D,jN ao xs J=some ds->evs ao aj F xs J s=some (.ok (ds.map .d),s)) (motive_4:=λ_=>True)
  ?c ?v ?pr (λ_ _ _ _ _ _ _ _ _ h=>nomatch h) (λ_ _ _ _ _ _ _ _ _ _ _ _ h=>nomatch h) ?and ?or ?not (λ_ _ _ _ _ _ _ h=>nomatch h) ?tup ?lst (λ_ _ _ h=>nomatch h) (λ_ _ _ _ h=>nomatch h) ?j6 (λ_ _ _ _ _ _ _ _ h=>nomatch h) (λ_ _ _ _ _ _ _ _ h=>nomatch h) (λ_ _ _ _ _ h=>nomatch h) (λ_ _ _ h=>nomatch h)
  (λ_ _ _ _ _ _ _ _ _ _ _ h=>nomatch h) (λ_ _ _ _ _ _ _ _ _ _ _ _ _ _ h=>nomatch h) (λ_ _ _ _ _ h=>nomatch h) ?of (λ_ _ _ _ _ h=>nomatch h) (λ_ _ _ _ _ _ _ h=>nomatch h) (λ_ h=>nomatch h) (λ_ _ _ _ _ _ h=>nomatch h) (λ_ _ _ _ _ h=>nomatch h) (λ_ _ _ h=>nomatch h) (λ_ _ _ _ _ _ h=>nomatch h) (λ_ _ _ _ _ h=>nomatch h) (λ_ _ _ _ _ _ _ h=>nomatch h) (λ_ h=>nomatch h)
  (λ_ _=>trivial) (λ_ _ _ _=>trivial) (λ_ _ _ _=>trivial) (λ_ _=>trivial) (λ_ _=>trivial) ?nil ?cons trivial (λ_ _=>trivial) e
 case c=>intro d x h;cases h;rfl
 case v=>intro i x h;exact(show M.opt (J[i]?.join) s=_ from by rw[show J[i]?.join=some x from h];rfl)
 case pr=>
  intro fz p xs ih x h;obtain⟨ds,e1,e2⟩:=iM h;exact(eY (ih _ e1)).trans ((eY (uM s ds)).trans (G4 e2))
 case tup=>
  intro xs ih x h;obtain⟨ds,e1,e2⟩:=iM h;cases e2;exact(eY (ih _ e1)).trans ((eY (nJ s ds)).trans rfl)
 case lst=>
  intro fz xs ih x h;obtain⟨ds,e1,e2⟩:=iM h;cases fz with
  |false=>cases e2
  |true=>cases e2;exact(eY (ih _ e1)).trans ((eY (nJ s ds)).trans rfl)
 case not=>
  intro a ih x h;obtain⟨y,e1,e2⟩:=iM h;cases y with
  |l n=>cases e2
  |d y=>cases y with
   |bl b=>cases e2;exact(eY (ih _ e1)).trans rfl
   |_=>cases e2
 case and=>
  intro a b ih ih2 x h;obtain⟨y,e1,e2⟩:=iM h;cases y with
  |l n=>cases e2
  |d y=>cases y with
   |bl b=>cases b with
    |true=>exact(eY (ih _ e1)).trans (ih2 _ e2)
    |false=>cases e2;exact(eY (ih _ e1)).trans rfl
   |_=>cases e2
 case or=>
  intro a b ih ih2 x h;obtain⟨y,e1,e2⟩:=iM h;cases y with
  |l n=>cases e2
  |d y=>cases y with
   |bl b=>cases b with
    |true=>cases e2;exact(eY (ih _ e1)).trans rfl
    |false=>exact(eY (ih _ e1)).trans (ih2 _ e2)
   |_=>cases e2
 case j6=>
  intro a k ih x h;obtain⟨y,e1,e2⟩:=iM h;cases y with
  |l n=>cases e2
  |d y=>
   obtain⟨d,e3,e4⟩:=iM e2;cases e3;obtain⟨b,e5,e6⟩:=iM e4;cases e6;refine(eY (ih _ e1)).trans ((eY (s':=s) (a:=y) rfl).trans ((eY (s':=s) (a:=b) ?_).trans rfl));rw[e5];rfl
 case of=>
  intro o c i ih x h;obtain⟨y,e1,e2⟩:=iM h;obtain⟨fs,e3,e4⟩:=iM e2;refine(eY (ih _ e1)).trans ((eY (s':=s) (a:=fs) ?_).trans ?_)
  ·cases y with
   |l n=>cases e3
   |d y=>cases y with
    |ob e gs=>
     have e3:(if e=c then some gs else none)=some fs:=e3;show (if e=c then M.ret gs else M.no) s=_;split at e3
     ·rename_i h;cases e3;rw[if_pos h];rfl
     ·cases e3
    |_=>cases e3
  ·show M.opt (fs[i]?.map Xv.d) s=_;rw[e4];rfl
 case nil=>intro ds h;cases h;rfl
 case cons=>
  intro a r ih ih2 ds h;obtain⟨y,e1,e2⟩:=iM h;cases y with
  |l n=>cases e2
  |d y=>
   obtain⟨d,e3,e4⟩:=iM e2;cases e3;obtain⟨rs,e5,e6⟩:=iM e4;cases e6;exact(eY (ih _ e1)).trans ((eY (ih2 _ e5)).trans rfl)
theorem nO:∀(xs:Es) (ds:List D),jN ao xs J=some ds->evs ao aj F xs J s=some (.ok (ds.map .d),s)
 |.nil,ds,h=>by cases h;rfl
 |.cons a r,ds,h=>by
  obtain⟨y,e1,e2⟩:=iM h;cases y with
  |l n=>cases e2
  |d y=>
   obtain⟨d,e3,e4⟩:=iM e2;cases e3;obtain⟨rs,e5,e6⟩:=iM e4;cases e6;exact(eY (nM a _ e1)).trans ((eY (nO r _ e5)).trans rfl)
theorem iQ:∀(xs:Es) {vs:List Xv},kh ao xs J=some vs->evs ao aj F xs J s=some (.ok vs,s)
 |.nil,vs,h=>by cases h;rfl
 |.cons a r,vs,h=>by
  obtain⟨y,e1,e2⟩:=iM h;obtain⟨ys,e3,e4⟩:=iM e2;cases e4;exact(eY (nM a _ e1)).trans ((eY (iQ r e3)).trans rfl)
variable {P:Xv->S->Prop}
theorem W.pv{e:E}{x:Xv}(h:dz ao e J=some x)(k:P x s):W (ev ao aj F e J) s P:=W.eq (nM e _ h) k
theorem Xj{f:Nat}{xs:Es}{vs:List Xv}(h:kh ao xs J=some vs)(k:W (bU (F f) vs) s P):W (ev ao aj F (.call f xs) J) s P:=K6 (W.eq (iQ xs h) k)
theorem Xk{fz:Bool}{p:Pr}{xs:Es}{ds:List D}(h:jN ao xs J=some ds)(k:W (bM fz (prim p ds)) s P):W (ev ao aj F (.pr fz p xs) J) s P:=K5 (W.eq (nO xs _ h) (W.eq (uM s ds) k))
theorem Xl{xs:Es}{vs:List Xv}{P:List Xv->S->Prop}(h:kh ao xs J=some vs)(k:P vs s):W (evs ao aj F xs J) s P:=W.eq (iQ xs h) k
end
section
variable {ao:Nat->Nat->Bool}{aj:Bool}{F:Bool->Fn}{J:Vs}{s:S}{Q:Out->S->Prop}{e:E}{r:eG}
theorem Xm{i:Nat}{x:Xv}(h:dz ao e J=some x)(k:WS (exs ao aj F r (J.set i (some x))) s Q):WS (exs ao aj F (.cons (.asg (.nm i) e) r) J) s Q:=WS.cons (K7 (W.pv h k))
theorem Xn{x:Xv}(h:dz ao e J=some x)(k:Q (.rt x) s):WS (exs ao aj F (.cons (.ret e) r) J) s Q:=WS.cons (K8 (W.pv h k))
theorem Xo{b:Bool}{t u:eG}(h:dz ao e J=some (.d (.bl b)))(k:WS (if b=true then exs ao aj F t J else exs ao aj F u J) s λo s'=>match o with|.nx J'=>WS (exs ao aj F r J') s' Q|.rt x=>Q (.rt x) s'|_=>False):WS (exs ao aj F (.cons (.iff e t u) r) J) s Q:=WS.cons (K9 (W.pv h (W.bool k)))
end
section
variable {α β:Type}{m:M α}{k:α->M β}{s:S}{c:Nat}{fs:List D}
end
section
variable {ao:Nat->Nat->Bool}{aj:Bool}{F:Bool->Fn}{J:Vs}{s:S}{Q:Out->S->Prop}{c:Nat}{fs:List D}
theorem Xp{c:Nat}{kp:Bool}{xs:Es}(h:W (evs ao true (F true) xs J) s λvs s1=>W (dj vs) s1 λds s2=>Q (.er c (if kp=true then ds else []) J) s2):WS (ex ao true F (.rise c kp xs) J) s Q:=by
 refine WS.rB (m2:=λ_=>none) (WS.ofM (W.bd (h.imp λvs s1 h=>h.imp λds s2 h=>?_)));exact⟨_,s2,rfl,h⟩
theorem Xq{m:MS}{k:Vs->MS}(h:WS m s λo s'=>match o with|.nx J'=>WS (k J') s' Q|.rt x=>Q (.rt x) s'|_=>False):WS (Mi.bL m k) s Q:=by
 obtain⟨o,s',e,q⟩:=h;unfold WS Mi.bL;rw[e];cases o with
 |nx J'=>exact q
 |rt x=>exact⟨_,_,rfl,q⟩
 |bk _=>exact q.elim
 |ct _=>exact q.elim
 |er _ _ _=>exact q.elim
theorem Xr{F:Fn}{i:Nat}{x:Xv}(h:Q (.nx (J.set i (some x))) s):WS (store ao aj F (.nm i) x J) s Q:=⟨_,s,rfl,h⟩
theorem Xu{F:Fn}{is:List Nat}{d:D}(h:uK ((f9 d).bind λds=>cO is (ds.map .d) J) λJ'=>Q (.nx J') s):WS (store ao true F (.tp is) (.d d) J) s Q:=by
 obtain⟨J',e,q⟩:=h;exact WS.rB (m2:=λ_=>none) (WS.ofM (W.bd (W.dat (W.opt e (WS.nx q)))))
end
section
variable {ao:Nat->Nat->Bool}{aj:Bool}{F:Fn}{J:Vs}{s:S}{P:Xv->S->Prop}
theorem W.j6{a:E}{k:Kd}(h:W (ev ao aj F a J) s λx s1=>W (rd x) s1 λd s2=>uK (gY ao d k) λb=>P (.d (.bl b)) s2):W (ev ao aj F (.j6 a k) J) s P:=Xf h
theorem W.yt{p q:Pr}{a b c:E}(h:W (ev ao aj F a J) s λx s1=>W (ev ao aj F b J) s1 λy s2=>W (eH [x,y]) s2 λds s3=>W (bM true (prim p ds)) s3 λt s4=>W (Mi.bool t) s4 λk s5=>
  W (if k=true then M.bd (ev ao aj F c J) λz=>M.bd (eH [y,z]) λds=>bM true (prim q ds) else M.ret (.d (.bl false))) s5 P):W (ev ao aj F (.yt p q a b c) J) s P:=Xg h
theorem Xw{c a b:E}(h:W (ev ao aj F c J) s λx s1=>W (Mi.bool x) s1 λk s2=>W (if k=true then ev ao aj F a J else ev ao aj F b J) s2 P):W (ev ao aj F (.ite c a b) J) s P:=W.bd (h.imp λ_ _ h=>W.bd h)
theorem Xx{a:E}{P:Src×Nat->S->Prop}(h:W (ev ao aj F a J) s λx s1=>W (m8 x) s1 P):W (gb ao aj F (.enum a) J) s P:=W.bd h
theorem Xy{xs:List D}{P:Src×Nat->S->Prop}(h:P (.fix (enumFrom 0 xs),(enumFrom 0 xs).length) s):W (m8 (.d (.fl xs))) s P:=⟨_,s,rfl,h⟩
theorem Xz{a b:E}{P:Src×Nat->S->Prop}(h:W (ev ao aj F a J) s λx s1=>W (ev ao aj F b J) s1 λy s2=>W (Mi.int x) s2 λi s3=>W (Mi.int y) s3 λj s4=>(dw i&&dw j)=true/\P (.fix (gZ i j),(gZ i j).length) s4):W (gb ao aj F (.rg a b) J) s P:=by
 refine W.bd (h.imp λx s1 h=>W.bd (h.imp λy s2 h=>W.bd (h.imp λi s3 h=>W.bd (h.imp λj s4 h=>?_))));rw[if_pos h.1];exact W.ret h.2
theorem XD{a b:E}{P:Src×Nat->S->Prop}(h:W (ev ao aj F a J) s λx s1=>W (ev ao aj F b J) s1 λy s2=>W (lB x) s2 λxs s3=>W (lB y) s3 λys s4=>P (.fix (List.zipWith (λp q=>.tup [p,q]) xs ys),(List.zipWith (λ(p q:D)=>D.tup [p,q]) xs ys).length) s4):W (gb ao aj F (.zip a b) J) s P:=
 W.bd (h.imp λx s1 h=>W.bd (h.imp λy s2 h=>W.bd (h.imp λxs s3 h=>W.bd (h.imp λys s4 h=>W.ret h))))
theorem W.iJ{xs:List D}{P:List D->S->Prop}(h:P xs s):W (lB (.d (.tup xs))) s P:=W.ret h
theorem W.oG{xs:List D}{P:List D->S->Prop}(h:P xs s):W (lB (.d (.fl xs))) s P:=W.ret h
theorem XH{P:Bool->S->Prop}(h:P true s):W (lC ao aj F .no J) s P:=W.ret h
theorem XJ{a:E}{P:Bool->S->Prop}(h:W (ev ao aj F a J) s λx s1=>W (Mi.bool x) s1 P):W (lC ao aj F (.yes a) J) s P:=W.bd h
theorem W.push{o a:E}(h:W (ev ao aj F o J) s λx s1=>W (Mi.bK x) s1 λ_ s2=>W (ev ao aj F a J) s2 λy s3=>W (Mi.dat y) s3 λd s4=>W (Mi.bK x) s4 λnx s5=>nx.2.length<sizeLine/\P (.d .non) (s5.set nx.1 (.lst (nx.2++[d])))):W (ev ao aj F (.push o a) J) s P:=by
 refine W.bd (h.imp λx s1 h=>W.bd (h.imp λ_ s2 h=>W.bd (h.imp λy s3 h=>W.bd (h.imp λd s4 h=>W.bd (h.imp λnx s5 h=>?_)))));rw[if_pos h.1];exact W.bd (GP (W.ret h.2))
end
theorem K_{s:S}{o:SO}:(s++[o])[s.length]?=some o:=by simp
theorem Y{P R:Prop}(k:R)(h:Bx R->P:=by
 intro k
 repeat (first|with_reducible first
   |refine Xm (by with_unfolding_all rfl) ?_|refine Xn (by with_unfolding_all rfl) ?_|refine Xo (by with_unfolding_all rfl) ?_|refine W.pv (by with_unfolding_all rfl) ?_|refine Xk (by with_unfolding_all rfl) ?_|refine Xj (by with_unfolding_all rfl) ?_|refine Xl (by with_unfolding_all rfl) ?_
   |refine WS.cons ?_|refine WS.nil ?_|refine Xq ?_|refine Xr ?_|refine Xu ?_|refine K7 ?_|refine K8 ?_|refine K9 ?_|refine Xa ?_|refine Xb ?_|refine Xc ?_|refine W_ ?_|refine Xd ?_|refine Xp ?_|refine WS.rB ?_|refine WS.GX ?_|refine WS.GQ (by with_unfolding_all rfl) ?_|refine WS.GR (by with_unfolding_all rfl) ?_|refine uK.mk (by with_unfolding_all rfl) ?_
   |refine W8 ?_|refine W7 ?_|refine W.eC ?_|refine W.eV (by with_unfolding_all rfl) ?_|refine K5 ?_|refine K6 ?_|refine W0 ?_|refine W2 ?_|refine WY ?_|refine WW ?_|refine WX ?_|refine Xw ?_|refine W.j6 ?_|refine W.yt ?_|refine W.push ?_|refine W4 ?_|refine W3 ?_|refine W5 ?_|refine W6 ?_|refine W9 ?_|refine Xz ?_|refine XD ?_|refine Xx ?_|refine XH ?_|refine XJ ?_|refine W.rB ?_|refine W.GX ?_|refine W.GQ (by with_unfolding_all rfl) ?_|refine W.GR (by with_unfolding_all rfl) ?_
   |refine Wo ?_|refine Wn ?_|refine Wm ?_|refine KZ (by with_unfolding_all rfl) ?_|refine KZ K_ ?_|refine Wr ?_|refine Wq ?_|refine W.dat ?_|refine W.bool ?_|refine W.int ?_|refine W.bK (by with_unfolding_all rfl) ?_|refine W.bK K_ ?_|refine GP ?_|refine WR ?_|refine Xy ?_|refine W.iJ ?_|refine W.oG ?_|refine WT ?_|refine Ws ?_|refine Wt ?_
   |refine K1 (by first|(with_unfolding_all rfl)|exact Wy (by first|(left;constructor<;>lia)|(right;constructor<;>lia))|exact Wz (by lia)|exact WD (by lia)|exact WK (by lia)|exact WL (by decide)) ?_|refine K3 (by with_unfolding_all rfl) ?_
   |refine W.ret ?_|refine W.bd ?_
   | (dsimp only))
 all_goals exact k.o):P:=h ⟨k⟩
theorem XM(hl:locs xs=[s.length])(h:W (F (cD 0 xs)) [o] λv s1=>∃d o',v=.d d/\s1=[o']/\P (.d d) (s++[o'])):W (bU F xs) (s++[o]) P:=by
 refine Wv (n:=s.length) (o:=o) hl (by simp) (h.imp λv s1=>?_);rintro⟨d,o',rfl,rfl,hp⟩;exact⟨d,o',rfl,rfl,by rw[show (s++[o]).set s.length o'=s++[o'] by simp];exact hp⟩
theorem XQ{ns:List Int}{lo hi:Option Int}{x:D}(h:x∈cut (ns.map D.int) lo hi):∃n,x=.int n:=by
 have:=List.mem_of_mem_drop (List.mem_of_mem_take h);obtain⟨n,_,rfl⟩:=List.mem_map.mp this;exact⟨n,rfl⟩
theorem XR{ns:List Int}{lo hi:Option Int}:(cut (ns.map D.int) lo hi).length<=ns.length:=by
 unfold cut;rw[v8,List.length_drop,nW]
 lia
section
variable {ao:Nat->Nat->Bool}{F:Fn}{J:Vs}{s:S}{P:Xv->S->Prop}
end
section
variable {ao:Nat->Nat->Bool}{aj:Bool}{F:Bool->Fn}{J:Vs}{s:S}{Q:Out->S->Prop}
end
section
variable {ao:Nat->Nat->Bool}{aj:Bool}{F:Fn}{J:Vs}{s:S}{P:Xv->S->Prop}
end
section
variable {n k d:Int}{ps:List (Int×Int)}{ls:List Int}
end
section
variable {ao:Nat->Nat->Bool}{F:Fn}{J:Vs}{s:S}{P:Xv->S->Prop}
end
section
variable {n m:Int}{ps:List (Int×Int)}
end
end Mi
namespace Mi
open PySem PySem.W PyProof.Rows L2
structure Ord(n:Nat)(lt:Nat->Nat->Option Bool)(le:Nat->Nat->Prop):Prop where
 ans:∀i j,i<n->j<n->(lt i j=some true/\le i j)\/(lt i j=some false/\le j i)
 tr:∀i j k,i<n->j<n->k<n->le i j->le j k->le i k
section
variable {lt:Nat->Nat->Option Bool}{le:Nat->Nat->Prop}{n:Nat}
variable (o:Ord n lt le)(hn:0<n)
include o hn
end
end Mi
namespace Ts
open PySem PySem.SetTable
end Ts
namespace Ts
open Mi PySem PySem.SetTable
end Ts
namespace Ts
open PySem PySem.SetTable
section
variable {prog:Program}{w:World}{A:Around}{E:Value->Shared->Prop}{s:Shared}{S:Addr}{items:List Value}{ts:List (Int×Int)}{L:Ent}{led:Bool}
end
end Ts
namespace Ts
open Mi (qQ)
open PySem PySem.SetTable
section
variable {prog:Program}{w:World}{A:Around}{E:Value->Shared->Prop}{s:Shared}{S:Addr}{items:List Value}{ts:List (Int×Int)}{L:Ent}{led:Bool}
end
end Ts
namespace Ts
open PySem PySem.SetTable
section
variable {prog:Program}{w:World}{A:Around}{R:Result->Shared->Prop}{I:Addr}{fp wr:List Addr}{G:Array GenState->Array GenState->Prop}{n:Nat}{P:Nat->Value->Prop}{St:Nat->Shared->Prop}{S:Addr}{items:List Value}{ts:List (Int×Int)}{led:Bool}
end
section
variable {prog:Program}{w:World}{A:Around}{E:Value->Shared->Prop}{s:Shared}
end
section
variable {prog:Program}{w:World}{A:Around}{E:Value->Shared->Prop}{s:Shared}{S:Addr}{items:List Value}{ts:List (Int×Int)}{L:Ent}
end
end Ts
namespace Ts
open PySem PySem.SetTable PySem.Spec PyProof.Rows PySem.W L2
section
variable {prog:Program}{w:World}{A:Around}{E:Value->Shared->Prop}{s:Shared}{S:Addr}{items:List Value}{ts:List (Int×Int)}{L:Ent}
end
end Ts
namespace Mi
open PySem PySem.Spec PyProof.Rows L2 PySem.W Ts
section
variable {prog:Program}{w:World}{A:Around}{E:Value->Shared->Prop}{s:Shared}{S:Addr}{items:List Value}{ts:List (Int×Int)}{L:Ent}
end
section
variable {X:Cx}
end
section
variable {K:W.Frag}{cA:Cl}{U:Ph}{H:Hp}
end
section
variable {X:Cx}{cA:Cl}{ao:Nat->Nat->Bool}{aj:Bool}{F:Fn}{EX:XS}{e:Expr}{pos pos' p p':Pos}{Xs:Es}{fz:Bool}
end
end Mi
namespace Mi
open PySem PySem.Spec PyProof.Rows L2 PySem.W
section
variable {X:Cx}{a b:Expr}{rest:List Expr}{pos:Pos}{ta tb:TE}
end
section
variable {K:W.Frag}{cA:Cl}{U:Ph}{H:Hp}
end
section
variable {X:Cx}{cA:Cl}{ao:Nat->Nat->Bool}{aj:Bool}{F:Fn}{EX:XS}{a b:Expr}{A B:E}{pos p:Pos}{x:Str}{e:Expr}{es:List Expr}{Xs:Es}
noncomputable def qj(sc:Scope)(x:Str):Bool:=match sc.names.lookup x with
 |some k=>uw k
 |none=>false
noncomputable def BL(sc:Scope)(x:Str):Bool:=match sc.names.lookup x with
 |some .globalImplicit=>true
 |_=>false
theorem La{sc:Scope}{x:Str}(h:qj sc x=true):∃k,sc.names.lookup x=some k/\uw k=true:=by
 unfold qj at h;split at h
 ·rename_i k e;exact⟨k,e,h⟩
 ·cases h
theorem Lb{sc:Scope}{x:Str}(h:BL sc x=true):sc.names.lookup x=some .globalImplicit:=by
 unfold BL at h;split at h
 ·assumption
 ·cases h
theorem gk(h:BL X.env.scope x=true:=by kernel_rfl):JK X x .globalImplicit:=⟨Lb h⟩
theorem jl(h:(match X.env.scope.names.lookup x with|some .local=>true|_=>false)=true:=by kernel_rfl):JK X x .local:=by
 split at h
 ·exact⟨by assumption⟩
 ·cases h
theorem jc(h:(match X.env.scope.names.lookup x with|some .cell=>true|_=>false)=true:=by kernel_rfl):JK X x .cell:=by
 split at h
 ·exact⟨by assumption⟩
 ·cases h
theorem vV{scope:Scope}{cl:List (Str×Addr)}{N:List Str}{Cc:Addr}{s3:Shared}{H3:Hp}{fp:List Addr}{ak:List (Addr×Obj)}(h:BL scope x=true:=by kernel_rfl):JK (X.blk scope cl N Cc s3 H3 fp ak) x .globalImplicit:=Ko (Lb h) rfl
theorem gv(i:Nat)(h:(decide (X.N[i]?=some x)&&qj X.env.scope x&&okN x)=true:=by kernel_rfl):JE X cA ao aj F EX (.Name x pos) (.v i):=by
 rw[dU,dU] at h;obtain⟨k,e,hv⟩:=La h.1.2;exact Kp i (qw h.1.1) ⟨e⟩ hv h.2
theorem kj(i:Nat){scope:Scope}{cl:List (Str×Addr)}{N:List Str}{Cc:Addr}{s3:Shared}{H3:Hp}{fp:List Addr}{ak:List (Addr×Obj)}(h:(decide (N[i]?=some x)&&qj scope x&&okN x)=true:=by kernel_rfl):JE (X.blk scope cl N Cc s3 H3 fp ak) cA ao aj F EX (.Name x pos) (.v i):=by
 rw[dU,dU] at h;obtain⟨k,e,hv⟩:=La h.1.2;by_cases hk:k=.free
 ·subst hk;exact Vj i (qw h.1.1) e h.2
 ·exact Kp i (qw h.1.1) (Ko e (by cases k<;>first|rfl|exact absurd rfl hk)) hv h.2
theorem gc{f k:Nat}{cm:Bool}{st:Stmt}{ps:List Str}(Fo:bY X.prog X.w X.K X.mg X.base (eF X.prog X.w) cm k (cU X.K x) (fdOf X.K x st) ps (lW X.K cA (F f)))(D:D3 X.K X.mg x st ps)(hr:bJ k X.A)(R:JR X EX)(g:JK X x .globalImplicit)(ha:JA X cA ao aj F EX (e::es) Xs)(h:okN x=true:=by kernel_rfl)
  (jB:cm=true->X.aj=true:=by first|exact λ_=>rfl|exact λz=>nomatch z) (he:aC e=true:=by rfl) (cL:es.all aC=true:=by rfl):JE X cA ao aj F EX (.Call (.Name x p) (e::es) [] pos) (.call f Xs):=
 Vw f Fo jB hr D.m D.f.kp D.b R g ha h he cL
theorem nd(h:decide X.N.Nodup=true:=by kernel_rfl):X.N.Nodup:=qw h
end
theorem fJ{P:Program}{w:World}{K:W.Frag}{mg:Str->Option Value}{base:Heap}{cA:Cl}{ao:Nat->Nat->Bool}{T:Nat->Option Df}{x:Str}{st:Stmt}{ps:List Str}{k n:Nat}{cm:Bool}{df:Df}(D:D3 K mg x st ps)(N:List Str)(hT:T n=some df)
  (hb:∀(cdv:Value) (A:Around) (outer:List Env) (s:Shared) (H:Hp) (E:XK),bJ k (A.deeper (envOfC x (aA st) s.heap.objs.size (cU K x) cdv))->
   JB (bZ (eF P w) P w K mg base N x (aA st) (cU K x) cdv A outer s H E cm) cA ao cm (λc=>call ao T k c) (λ_ C dx H'=>E C dx H') (aM st) df.body) (S:bG N ps (aA st):=by exact⟨rfl,rfl,rfl,dk,rfl,dk,dk⟩) (hp:df.eN=ps.length:=by rfl) (hm:df.many=N.length:=by rfl) :
  bY P w K mg base (eF P w) cm (k+1) (cU K x) (fdOf K x st) ps (lW K cA (call ao T (k+1) cm n)):=VR D.f S hT hp hm hb
end Mi
namespace L2
open PySem PySem.Spec PySem.Calls PyProof.Rows PySem.W
theorem cF.tri{H:Hp}{l:List Value}(x:cF H l):TriplesOk l:=by
 induction x with
 |nil=>trivial
 |cons l m c r _ _ ih=>exact ih
theorem cF.found{H:Hp}{pos:Pos}{cv:Value}{l:List Value}(x:cF H l)(h:codeAmong pos l=some cv):∃c,cv=.ref c/\GoodC H c:=by
 induction x with
 |nil=>cases h
 |cons a b c r g _ ih=>
  unfold rawInt codeAmong at h;split at h
  ·cases h;exact⟨c,rfl,g⟩
  ·exact ih h
structure nQ(H H':Hp):Prop where
 kp:∀b o,H b=some o->(∀ps,o≠.gR ps)->H' b=some o
 st:∀b o,H b=some o->∃o',H' b=some o'
theorem nQ.refl{H:Hp}:nQ H H:=⟨λ_ _ e _=>e,λ_ o e=>⟨o,e⟩⟩
def zL(K:Frag)(mg:Str->Option Value):Prop:=∃bm ob,mg "__builtins__"=some (.ref bm)/\bm≠builtinsNs/\bm≠mainGlobals/\K.lookup bm=some ob/\ob.cls=.type "module"/\ob.dict=some builtinsNs/\ob.data=.plain
noncomputable abbrev lamO(params:Arguments)(body:Expr)(scope:Scope)(pm:Value)(c':Addr)(ctv:Value):Obj:=kla_obj "<lambda>" dY params body scope [] pm c' ctv
section
variable {X:Cx}{ak:List (Addr×Obj)}{Z:St}{H:Hp}{s:Shared}{c P:Addr}{params:Arguments}{body:Expr}{scope:Scope}{pos:Pos}{E:Value->Shared->Prop}{Q:Value->Shared->Prop}
theorem Inv.uN{H1:Hp}{s1:Shared}{fa:Addr}{o:Obj}(I:Inv X ak Z H1 s1)(h1:s1.heap.get? fa=some o)(h2:H1 fa=none)(h3:fa≠X.env.locals)(h4:fa∉X.fs)(h5:∀v,o.data≠.cell v):Inv X (ak++[(fa,o)]) Z H1 s1:=
 I.fD λp hp=>by
  rcases jz.mp hp with hp|hp
  ·exact I.pin p (gF _ hp)
  ·rw[Ck.mp hp];exact⟨h1,h2,h3,h4,h5⟩
theorem X3(I:Inv X ak Z H s)(on:jV=true)(gG:X.env.code=.ref c)(hC:codeHdIn X.K c P=true)(hl:fM X.K c P=true)(G5:zL X.K X.mg)(oE:closureFor scope X.env=pure [])(hq:X.env.qual++"<lambda>"=dY)(nR:defaultsOf params X.env=([],[]))
  (k:∀fa c' ctv pm H1 s1,Inv X (ak++[(fa,lamO params body scope pm c' ctv)]) Z H1 s1->GoodC H1 c'->nQ H H1->Q (.ref fa) s1) :
  wpAny (model X.prog X.w) X.A (eval (.Lambda params body scope pos) X.env) Q E s:=by
 obtain⟨ps,hP,hT⟩:=I.rU on c P hl;have oP:s.heap.get? P=some (tabObj ps):=I.hok P _ hP;obtain⟨bm,ob,b1,b2,b3,b4,b5,b6,b7⟩:=G5;have kb:s.heap.get? bm=some ob:=I.lQ bm ob b4;have nb:H bm=none:=(I.bs bm ob (I.mod.rN bm ob b4)).2;have hg:=I.mod.glob.keeps I.bk;have ng:H mainGlobals=none:=by
  obtain⟨o,_,_,e,_⟩:=I.mod.glob;exact(I.bs _ _ e).2
 have X4:mainGlobals≠P:=λz=>by rw[z,hP] at ng;cases ng
 have hB:s.heap.BuiltinsAt X.mg P:=⟨bm,ob,b1,b2,b3,(λz=>by rw[z,hP] at nb;cases nb),kb,b5,b6,b7⟩;refine kla_eval nR ?_;rw[hq];cases hf:codeAmong pos ps.toList with
 |some cv=>
  obtain⟨c',rfl,gc⟩:=hT.found hf;refine kla_makeFunctionHit (mg:=X.mg) oE I.ok.glob hg gG (codeHd_of_K I.lQ hC) oP hT.tri hf hB λctv h' tk hk fH=>?_;have kp:∀b u,s.heap.get? b=some u->(h'.push (lamO params body scope ((X.mg "__name__").getD .none) c' ctv)).get? b=some u:=λb u e=>cP _ (hk b u e);have I1:=I.kept (t':=tk) kp;refine k _ c' ctv _ H _ (I1.uN (h_ _ rfl) (I.hok.fresh fH) (oW (eZ I.lt fH)) (I.o_ fH) λv z=>by cases z) gc nQ.refl
 |none=>
  refine kla_makeFunction (mg:=X.mg) oE I.ok.glob hg gG (codeHd_of_K I.lQ hC) oP hT.tri hf X4 hB λc' ctv h' tk hx qY cM uO Ld=>?_;obtain⟨c2,oc,vs,t,e2,wL,hd,hv⟩:=uO;cases e2;have nc:H c'=none:=I.hok.fresh qY;have X5:c'≠P:=λz=>by rw[z,hP] at nc;cases nc
  have kp:∀b u,b≠P->s.heap.get? b=some u->(h'.push (lamO params body scope ((X.mg "__name__").getD .none) c' ctv)).get? b=some u:=λb u nb e=>cP _ (hx b u nb e);have nP:∀b,H b=none->b≠P:=λb e z=>by rw[z,hP] at e;cases e
  have old:∀b u,s.heap.get? b=some u->b≠c':=λb u e=>dH (eZ (bI e) qY);have Le:upd (upd H P (.gR (ps++#[rawInt pos.line,rawInt pos.col,.ref c']))) c' (.iY oc (.own 0)) P=some (.gR (ps++#[rawInt pos.line,rawInt pos.col,.ref c'])):=by rw[bA X5.symm,gU]
  have ot:∀b u,H b=some u->(∀ps,u≠.gR ps)->upd (upd H P (.gR (ps++#[rawInt pos.line,rawInt pos.col,.ref c']))) c' (.iY oc (.own 0)) b=some u:=λb u e nt=>by
   rw[bA (o8 e nc),bA λz=>by rw[z,hP] at e;cases e;exact nt _ rfl];exact e
  have gc:GoodC (upd (upd H P (.gR (ps++#[rawInt pos.line,rawInt pos.col,.ref c']))) c' (.iY oc (.own 0))) c':=⟨oc,_,vs,t,gU,hd,hv⟩;have I1:Inv X ak Z (upd (upd H P (.gR (ps++#[rawInt pos.line,rawInt pos.col,.ref c']))) c' (.iY oc (.own 0))) {s with heap:=h'.push (lamO params body scope ((X.mg "__name__").getD .none) c' ctv),toks:=tk}:=by
   refine I.step (g':=s.gens) (d':=s.drawn) (ch:=[]) (λ_ z=>nomatch z) (λb o _ _ _ e n=>kp b o (nP b n) e) (λb o _ _ _ e n=>⟨o.slots,kp b o (nP b n) e⟩) (λb o _ e n=>by rw[bA (old b o e),bA (nP b n)];exact n) (λb o _ e=>?_) (λb xs e=>ot b _ e λ_ z=>by cases z) (λb o u e=>ot b _ e λ_ z=>by cases z) (λb qs e=>?_) (λm hm=>?_) (λb u e=>?_) I.bare
   ·by_cases z:b=P
    ·exact⟨_,by rw[z];exact cP _ Ld⟩
    ·exact⟨o,kp b o z e⟩
   ·by_cases z:b=P
    ·subst z;rw[hP] at e;cases e;exact⟨_,Le,cF.cons _ _ c' _ gc .nil⟩
    ·exact⟨#[],by rw[bA (o8 e nc),bA z,e];simp,.nil⟩
   ·obtain⟨o,es,ep,ho,r⟩:=hm;exact⟨o,es,ep,kp _ o (nP _ I.free) ho,r⟩
   ·by_cases z:b=c'
    ·subst z;rw[gU] at e;cases e;exact⟨cP _ wL,⟨oc,cP _ wL⟩⟩
    ·rw[bA z] at e;by_cases y:b=P
     ·subst y;rw[gU] at e;cases e;show (h'.push _).get? b=some _;exact cP _ Ld
     ·rw[bA y] at e;refine(I.hok b u e).stay (λa v ha q=>kp a v ?_ q) (λa q=>ot a _ q λ_ z=>by cases z) λa xs q=>ot a _ q λ_ z=>by cases z
      rcases ha with rfl|ha
      ·exact y
      ·intro z;rw[z,hP] at ha;cases ha
  refine k _ c' ctv _ _ _ (I1.uN (h_ _ rfl) ?_ (oW (eZ I.lt (lK (zY qY cM)))) (I.o_ (lK (zY qY cM))) λv z=>by cases z) gc ⟨ot,λb o e=>?_⟩
  ·rw[bA (oW cM),bA (oW (eZ (bI oP) (lK (zY qY cM))))];exact I.hok.fresh (lK (zY qY cM))
  ·by_cases z:b=P
   ·rw[z];exact⟨_,Le⟩
   ·exact⟨o,by rw[bA (o8 e nc),bA z];exact e⟩
end
section
variable {X:Cx}{ak:List (Addr×Obj)}{Z:St}{H:Hp}{s:Shared}{CX:lU}{cm:Bool}{k:Nat}{fa c':Addr}{params:Arguments}{body:Expr}{scope:Scope}{pm ctv:Value}{N:List Str}{x:Str}{u:Value}{v:V}{t:TE}{Q:VK}
theorem X6(I:Inv X ak Z H s)(X7:s.heap.get? fa=some (lamO params body scope pm c' ctv))(gc:GoodC H c')(S:bG N [x] scope)(jB:cm=true->X.A.handled=none)(hr:X.A.depth<recursionLimit)(gA:∀u,bindArgs (kla_fn "<lambda>" dY params body scope [] pm (.ref c') ctv) ⟨[u],[]⟩=pure [(x,u)])(rv:RelV v u)
  (hb:PE (bZ CX X.prog X.w X.K X.mg X.base N dY scope fa (.ref c') X.A X.stack s H (λ_ _ _=>False) cm) body t) (hq:t (start N [v]) H Q) (xK:∀e s',CX X.stack H s (λ_ _ _=>False) e s'->X.xe e s') :
  wpAny (model X.prog X.w) X.A (call (.ref fa) [u]) (EP X ak Z Q) X.xe s:=by
 have e0:=I.env0;have lim:s.heap.NoLimit:=I.nolimit;obtain⟨oc,w,vs,tq,g1,g2,g3⟩:=gc;have uO:s.heap.CodeRec (.ref c') dY:=⟨c',oc,vs,tq,rfl,(I.hok c' _ g1).1,g2,g3⟩;have mO:∀y∈[(x,u)],scope.names.lookup y.1=some .local\/(scope.names.lookup y.1=some .cell/\((cellsFrom (s.heap.objs.size+1) scope.names []).lookup y.1).isSome=true):=λy hy=>by
  rw[Ck.mp hy];rcases S.par x (by simp) with q|q
  ·exact .inl q
  ·exact .inr ⟨q,zT _ _ _ (.inl q)⟩
 refine wpAny_call (wu (R:=CR CX X.stack X.prog X.w H s Q λ_ _ _=>False) (kla_callFunE hr X7 rfl S.co S.gen rfl uO ?_) λr s' hq=>?_)
 ·rw[gA];refine aQ ?_;refine wpAny_newFunctionEnv_cells S.kind mO λenv he s1 y=>?_;subst he;refine⟨lim.keeps y.toInCall.keep,kla_codeExpr ?_⟩;have I1:Inv (bZ CX X.prog X.w X.K X.mg X.base N dY scope fa (.ref c') X.A X.stack s H (λ_ _ _=>False) cm) [] (start N [v]) H s1:=Ie S jB e0 rfl (.cons rv .nil) y;refine dB (hb [] s1 (start N [v]) H _ I1 hq) (λu' s' hs=>?_) λe s' hs=>hs;obtain⟨v',H',aK,rv',q⟩:=hs;exact⟨v',H',aK.os,aK.bare,aK.base,aK.hok,rv',q⟩
 ·cases r with
  |error e=>exact xK e s' hq
  |ok fl=>
   cases fl with
   |ret u=>exact I.after hq
   |next=>exact False.elim hq
   |brk=>exact False.elim hq
   |cont=>exact False.elim hq
end
section
variable {X:Cx}{ak:List (Addr×Obj)}{Z:St}{H:Hp}{s:Shared}{E:Value->Shared->Prop}{fa D:Addr}{fo:Obj}{ys:List V}{its:List Value}{kz:List Int}{lt:Nat->Nat->Option Bool}{p:Array Nat}
theorem Inv.apart{a:Addr}(I:Inv X ak Z H s)(h:s.heap.objs.size<=a):a≠X.env.locals/\a∉X.fs/\(a∈X.ex\/X.s₀.heap.objs.size<=a)/\(∀x c,X.env.cells.lookup x=some c->c≠a)/\∀p∈X.pn++ak,p.1≠a:=
 ⟨oW (eZ I.lt h),I.o_ h,.inr (kY I.sz h),λx c e=>by
  obtain⟨v,o,ho,_⟩:=I.cell x c e;exact dH (eZ (bI ho) h),λp hp=>dH (eZ (bI (I.pin p hp).1) h)⟩
structure Own(X:Cx)(ak:List (Addr×Obj))(a:Addr):Prop where
 hL:a≠X.env.locals
 hf:a∉X.fs
 h1:a∈X.ex\/X.s₀.heap.objs.size<=a
 h2:∀x c,X.env.cells.lookup x=some c->c≠a
 h3:∀p∈X.pn++ak,p.1≠a
theorem Inv.own{a:Addr}(I:Inv X ak Z H s)(h:s.heap.objs.size<=a):Own X ak a:=let ⟨a1,a2,a3,a4,a5⟩:=I.apart h;⟨a1,a2,a3,a4,a5⟩
theorem Own.set{a:Addr}{h':Heap}{t':Nat}(o:Own X ak a)(hn:H a=none)(I:Inv X ak Z H s)(k:∀b o,b≠a->s.heap.get? b=some o->h'.get? b=some o):Inv X ak Z H {s with heap:=h',toks:=t'}:=I.turned k hn o.hL o.h1 o.h2 o.h3
theorem Own.pin{a:Addr}{u:Obj}(o:Own X ak a)(hn:H a=none)(I:Inv X ak Z H s)(h:s.heap.get? a=some u)(d:∀v,u.data≠.cell v):Inv X (ak++[(a,u)]) Z H s:=I.uN h hn o.hL o.hf d
noncomputable abbrev Cx.uP(X:Cx):Cx:=X.seen X.A.in1.in1 X.aj X.pn λ_ _=>False
theorem Inv.uP(I:Inv X ak Z H s):Inv X.uP ak Z H s:=I.seen rfl (λz=>I.ok.hd z) λ_ z=>z
theorem Inv.G6(I:Inv X.uP ak Z H s)(aK:X.aj=true->X.A.handled=none):Inv X ak Z H s:=I.tG rfl aK λ_ z=>z
def zM(X:Cx)(Z:St)(G:Hp->Prop)(fa:Addr)(fo:Obj)(ys:List V)(kz:List Int):Prop:=
 ∀(i:Nat) (v:V) (k:Int),ys[i]?=some v->kz[i]?=some k->∀(H:Hp) (ps:List (Addr×Obj)) (s':Shared) (u:Value),G H->Inv X.uP ps Z H s'->(fa,fo)∈ps->RelV v u->
  wpAny (model X.prog X.w) X.A.in1.in1 (call (.ref fa) [u]) (EP X.uP ps Z λv' H'=>v'=.int k/\G H') (λ_ _=>False) s'
theorem Lf{kS:Addr}{keys:Array Value}{e e1:Nat}{st:SortSt}{A:Around}{P:PySem.Fin->Shared->Prop}{out:Array Value}(oD:Own X ak D)(oK:Own X (ak++[(D,seqObj "list" #[] e1)]) kS)
  (I:Inv X (ak++[(D,seqObj "list" #[] e1)]++[(kS,seqObj "list" keys e)]) Z H s) (hz:keys.size<=100) (ho:out.size<=100) (hs:(arrOf st).map (·.2)=out) (hf:failedOf st=none)
  (h:∀s' c,Inv X ak Z H s'->H D=none->s'.heap.get? D=some (seqObj "list" out c)->P (.done (.ret .none)) s') :
  wpAny (model X.prog X.w) A (ksk_tail D false e1 (.ref kS) st) P E s:=by
 have hl:(100:Nat)<=sizeLine:=by decide
 obtain⟨nk,G7,_⟩:=I.pin (kS,seqObj "list" keys e) (by simp);obtain⟨nd,zN,_⟩:=I.pin (D,seqObj "list" #[] e1) (by simp);have X8:D≠kS:=oK.h3 (D,seqObj "list" #[] e1) (by simp);have I1:Inv X (ak++[(D,seqObj "list" #[] e1)]) Z H {s with heap:=s.heap.update kS (Obj.mapSeq λ_=>(#[]:Array Value))}:=oK.set (t':=s.toks) G7 I.aU λb o nb q=>(qp _ _ _ _ nb).trans q;have G8:(s.heap.update kS (Obj.mapSeq λ_=>(#[]:Array Value))).get? D=some (seqObj "list" #[] e1):=(qp _ _ _ _ X8).trans nd;obtain⟨c2,jr⟩ : ∃c2,((s.heap.update kS (Obj.mapSeq λ_=>(#[]:Array Value))).update D (Obj.mapSeq λ_=>out)).get? D=some (seqObj "list" out c2):=⟨_,get?_update_seq G8 λ_=>out⟩;unfold ksk_tail
 try dsimp only
 refine aB (rH nk rfl ?_ (by lia) (n6 _));refine aB (wpAny_letGo ?_);refine aB (seqEpoch_at G8 rfl ?_);rw[hs];refine aB (rH G8 rfl ?_ (n6 _) (by simp only[oR,lN];lia));rw[hf];simp only[Cm,oR,lN];refine aQ (h _ c2 ?_ zN jr);exact Own.set (s:={s with heap:=s.heap.update kS (Obj.mapSeq λ_=>(#[]:Array Value))}) (h':=(s.heap.update kS (Obj.mapSeq λ_=>(#[]:Array Value))).update D (Obj.mapSeq λ_=>out)) (t':=s.toks) oD zN I1.aU λb o nb q=>(qp _ _ _ _ nb).trans q
theorem X_{kS:Addr}{keys:Array Value}{e e1:Nat}{A:Around}{P:PySem.Fin->Shared->Prop}(oD:Own X ak D)(oK:Own X (ak++[(D,seqObj "list" #[] e1)]) kS)
  (I:Inv X (ak++[(D,seqObj "list" #[] e1)]++[(kS,seqObj "list" keys e)]) Z H s) (hk:IntsAre keys.toList kz) (hlen:kz.length=its.length) (j4:its.length<64)
  (cM:∀i j b,lt i j=some b->∃x y,kz[i]?=some x/\kz[j]?=some y/\b=decide (x<y)) (hr:2<=its.length->aW lt (kas_sort its.length)=some p/\p.size=its.length)
  (h:∀s' c,Inv X ak Z H s'->H D=none->s'.heap.get? D=some (seqObj "list" (bT its p) c)->P (.done (.ret .none)) s') :
  wpAny (model X.prog X.w) A (ksk_end D false its.toArray e1 (.ref kS) keys) P E s:=by
 have hkl:=hk.length;rw[kJ] at hkl;have fH:its.toArray.size=its.length:=by simp
 unfold ksk_end
 try dsimp only
 simp only[oR,lN];by_cases h2:its.toArray.size<2
 ·rw[if_pos h2,if_pos h2];refine aB (aQ ?_);rw[StateT.run_pure];refine aB (aQ ?_)
  try dsimp only
  refine Lf (out:=bT its p) oD oK I (by lia) ?_ ?_ rfl h
  ·unfold bT;rw[if_pos (by lia)];simp;lia
  ·unfold bT;rw[if_pos (by lia)];apply Array.toList_inj.mp;show ((keys.zip its.toArray).map (·.2)).toList=_;rw[Array.toList_map,ksk_zip];have:keys.toList.length=keys.size:=kJ;exact List.map_snd_zip (by lia)
 ·rw[if_neg h2,if_neg h2];have gW:2<=its.length:=by lia
  obtain⟨hr,yh⟩:=hr gW;have ek:keys=keys.toList.toArray:=by rw[Ce]
  rw[ek];refine aB (Jj (by rw[kJ];lia) (λu hu=>?_) ?_)
  ·obtain⟨n,t,e⟩:=hk.all u hu;exact⟨n,t,e⟩
  refine aB (dB (kat_run (κ:=oneType') (ks:=keys.toList) (vs:=its) (G:=λp' s'=>p'=p/\s'=s)
   (Q:=λst' s'=>arrOf st'=p.map (kas_item (keys.toList.toArray.zip its.toArray))/\failedOf st'=none/\s'=s)
   (by rw[kJ];lia) gW j4 (λp' st' s' a1 a2 a3 a4=>⟨by rw[a2,a4.1],a3,a4.2⟩) (Er (λi j b C hl hC=>?_) ⟨rfl,rfl⟩ hr)) ?_ λ_ _ e=>e)
  ·obtain⟨x,y,e1,e2,rfl⟩:=cM i j b hl;obtain⟨t1,f1⟩:=hk.get i x e1;obtain⟨t2,f2⟩:=hk.get j y e2;show wpAny _ _ (keyLt' oneType' (keys.toList.getD i Value.none) (keys.toList.getD j Value.none)) C _ s;rw[vA f1,vA f2];exact kat_lt_int hC
  ·rintro⟨⟨⟩,st'⟩ s' ⟨vq,hf,rfl⟩
   try dsimp only
   have hout:=kat_snds (ks:=keys.toList) (vs:=its) (by rw[kJ];lia) vq;have e:List.toArray (p.toList.map λi=>its.getD i Value.none)=bT its p:=by
    unfold bT;rw[if_neg (by lia)]
   rw[e] at hout;have Jg:(bT its p).size=its.length:=by rw[<-e,dF,nW,kJ,yh]
   exact Lf (out:=bT its p) oD oK I (by lia) (by lia) hout hf h
theorem Yb{G:Hp->Prop}{n:Nat}{P:PySem.Fin->Shared->Prop}(I:Inv X ak Z H s)(g:G H)(oD:Own X ak D)(zN:H D=none)(ho:s.heap.get? D=some (seqObj "list" its.toArray n))(uQ:(fa,fo)∈ak)(rv:Vals ys its)(hlen:kz.length=ys.length)(j4:ys.length<64)(K:zM X Z G fa fo ys kz)
  (cM:∀i j b,lt i j=some b->∃x y,kz[i]?=some x/\kz[j]?=some y/\b=decide (x<y)) (hr:2<=ys.length->aW lt (kas_sort ys.length)=some p/\p.size=ys.length)
  (h:∀H' s' c,G H'->Inv X ak Z H' s'->H' D=none->s'.heap.get? D=some (seqObj "list" (bT its p) c)->P (.done (.ret .none)) s') :
  wpAny (model X.prog X.w) X.A.in1.in1 (ksk_tree D (.ref fa) false) P E s:=by
 have hl:(100:Nat)<=sizeLine:=by decide
 have hil:=rv.length;have hD:D<s.heap.objs.size:=bI ho;obtain⟨e1,tO⟩ : ∃e1,(s.heap.update D (Obj.mapSeq λ_=>(#[]:Array Value))).get? D=some (seqObj "list" #[] e1):=⟨_,get?_update_seq ho λ_=>#[]⟩;have Lg:((s.heap.update D (Obj.mapSeq λ_=>(#[]:Array Value))).push (seqObj "tuple" its.toArray 0)).objs.size=s.heap.objs.size+1:=by rw[size_push',v9]
 have vW:Own X ak (s.heap.objs.size+1):=I.own (rK _);have G7:H (s.heap.objs.size+1)=none:=I.hok.fresh (rK _);have oK:Own X (ak++[(D,seqObj "list" #[] e1)]) (s.heap.objs.size+1):=⟨vW.hL,vW.hf,vW.h1,vW.h2,λq hq=>by
  rcases jz.mp hq with hq|hq
  ·exact vW.h3 q (vZ _ hq)
  ·rcases jz.mp hq with hq|hq
   ·exact vW.h3 q (gF _ hq)
   ·rw[Ck.mp hq];exact dH (rE hD)⟩
 have kp:∀b o,b≠D->s.heap.get? b=some o->(((s.heap.update D (Obj.mapSeq λ_=>(#[]:Array Value))).push (seqObj "tuple" its.toArray 0)).push (seqObj "list" #[] 0)).get? b=some o:=λb o nb q=>
  cP _ (cP _ ((qp _ _ _ _ nb).trans q))
 unfold ksk_tree;refine aB (listItems_at ho rfl ?_);refine aB (rH ho rfl ?_ (by rw[dF];lia) (n6 _));refine aB (seqEpoch_at tO rfl ?_);refine aB (wpAny_newTuple ?_ (by show its.length<=_;lia));refine aB (wpAny_newList ?_ (n6 _));refine kW ?_;rw[Lg];have I3:Inv X (ak++[(D,seqObj "list" #[] e1)]++[(s.heap.objs.size+1,seqObj "list" #[] 0)]) Z H {s with heap:=((s.heap.update D (Obj.mapSeq λ_=>(#[]:Array Value))).push (seqObj "tuple" its.toArray 0)).push (seqObj "list" #[] 0)}:=by
  have aK:=oD.set (t':=s.toks) zN I kp;have G9:=oD.pin zN aK (cP _ (cP _ tO)) λv z=>by cases z
  exact oK.pin G7 G9 (by rw[<-Lg];exact h_ _ rfl) λv z=>by cases z
 show wpAny (model X.prog X.w) X.A.in1.in1 (ksk_rest D (.ref fa) false its.toArray e1 (.ref (s.heap.objs.size+1))) P E _;unfold ksk_rest;refine aB (wpAny_rule ?_)
 first
  |rw[List.forIn_toArray]
  |(rw[<-Array.forIn_toList];simp only[List.toList_toArray])
 refine aB (ksk_fold (λi s'=>∃(H':Hp) (kA:Array Value) (e:Nat),G H'/\Inv X (ak++[(D,seqObj "list" #[] e1)]++[(s.heap.objs.size+1,seqObj "list" kA e)]) Z H' s'/\IntsAre kA.toList (kz.take i)) its 0 _
  ⟨H,#[],0,g,I3,by simpa using IntsAre.nil⟩ ?step ?done)
 case step=>
  rintro j x s' hx ⟨H1,kA,e,g1,I',hk⟩;simp only[Nat.zero_add] at hk ⊢;have hj:j<its.length:=(gD.mp hx).1;obtain⟨k,Lh⟩ : ∃k,kz[j]?=some k:=⟨_,kI (by lia)⟩;obtain⟨v,hv⟩ : ∃v,ys[j]?=some v:=⟨_,kI (by lia)⟩;obtain⟨u,hu,Yc⟩:=rv.get hv;rw[hx] at hu;cases hu;have hz:kA.size<=64:=by
   have h1:=hk.length;rw[kJ,v8] at h1
   lia
  refine aB (wpAny_attempt (dB (K j v k hv Lh H1 _ s' x g1 I'.uP (by simp[uQ]) Yc) (λw s2 he=>?_) λ_ _ hF=>hF.elim));obtain⟨v',H2,aK,rv',rfl,g2⟩:=he;obtain⟨t2,rfl⟩:=rv';have aK:=aK.G6 I'.ok.hd
  try dsimp only
  obtain⟨nk,zO,_⟩:=aK.pin (s.heap.objs.size+1,seqObj "list" kA e) (by simp);obtain⟨c2,jr⟩ : ∃c2,(s2.heap.update (s.heap.objs.size+1) (Obj.mapSeq (·.push (.int k t2)))).get? (s.heap.objs.size+1)=some (seqObj "list" (kA.push (.int k t2)) c2):=⟨_,get?_update_seq nk (·.push (.int k t2))⟩;have ek:kz.take (j+1)=kz.take j++[k]:=by rw[List.take_add_one,Lh];simp
  have ea:(kA.push (Value.int k t2)).toList=kA.toList++[Value.int k t2]:=by simp
  refine aB (rH nk rfl ?_ (by lia) (kY (Nat.le_of_eq (Array.size_push ..)) (by lia)));refine aQ ⟨rfl,H2,kA.push (.int k t2),c2,g2,?_,by rw[ea,ek];exact ksk_snoc hk⟩;exact oK.pin zO (oK.set (t':=s2.toks) zO aK.aU λb o nb q=>(qp _ _ _ _ nb).trans q) jr λv z=>by cases z
 case done=>
  rintro s' ⟨H1,kA,e,g1,I',hk⟩;have Yd:IntsAre kA.toList kz:=by
   have e3:kz.take (0+its.length)=kz:=List.take_of_length_le (by lia);rw[e3] at hk;exact hk
  have nk:=(I'.pin (s.heap.objs.size+1,seqObj "list" kA e) (by simp)).1
  try dsimp only
  refine aB (listItems_at nk rfl ?_);exact X_ oD oK I' Yd (by lia) (by lia) cM (by rw[<-hil];exact hr) λs' c=>h H1 s' c g1
theorem Ye{G:Hp->Prop}{l:Addr}{Q:VK}(I:Inv X (ak++[(fa,fo)]) Z H s)(g:G H)(hq:cH X.K H l ys)(hlen:kz.length=ys.length)(j4:ys.length<64)(K:zM X Z G fa fo ys kz)
  (cM:∀i j b,lt i j=some b->∃x y,kz[i]?=some x/\kz[j]?=some y/\b=decide (x<y)) (hr:2<=ys.length->aW lt (kas_sort ys.length)=some p/\p.size=ys.length)
  (q:∀H' r,G H'->H' r=none->Q (.ref r) (upd H' r (.lst (cG ys p)))) :
  wpAny (model X.prog X.w) X.A (call (.builtin "sorted") [.ref l] [(Str.ofString "key",.ref fa)]) (EP X ak Z Q) E s:=by
 have hl:(100:Nat)<=sizeLine:=by decide
 obtain⟨its,rv,pl,hz⟩:=I.list hq;have hil:=rv.length;refine call_function_entry_kw kind_sorted plain_sorted entry_sorted (ksk_s1 _ _) ?_;unfold Builtin.«sorted»;refine aB (m:=checkCount "sorted" 1 1 _) (aQ ?_);refine aB (collect_list pl.isList ?_ (by lia));refine aB (wpAny_newList ?_ (by show its.length<=_;lia));have fH:((s.heap.push (seqObj "list" #[] 0)).update s.heap.objs.size (Obj.mapSeq (·++its.toArray))).objs.size=s.heap.objs.size+1:=by
  rw[v9,size_push']
 have rY:(((s.heap.push (seqObj "list" #[] 0)).update s.heap.objs.size (Obj.mapSeq (·++its.toArray))).push (seqObj "list" its.toArray 0)).get? (s.heap.objs.size+1)=some (seqObj "list" its.toArray 0):=by
  rw[<-fH];exact h_ _ rfl
 have keep:∀b o,s.heap.get? b=some o->(((s.heap.push (seqObj "list" #[] 0)).update s.heap.objs.size (Obj.mapSeq (·++its.toArray))).push (seqObj "list" its.toArray 0)).get? b=some o:=λb o q=>by
  have cM:b<s.heap.objs.size:=bI q;rw[u_ _ _ _ (by rw[fH];exact dH (rE cM)),qp _ _ _ _ (dH cM),u_ _ _ _ (dH cM)];exact q
 show wpAny _ _ _ _ _ {s with heap:=((s.heap.push (seqObj "list" #[] 0)).update s.heap.objs.size (Obj.mapSeq (·++its.toArray))).push (seqObj "list" its.toArray 0)};rw[fH];have oD:Own X (ak++[(fa,fo)]) (s.heap.objs.size+1):=I.own (rK _);have I1:=I.kept (t':=s.toks) keep;refine aB (kW (wpAny_call_entry_kw slot_list_sort ⟨_,rY,rfl⟩ entry_list_sort ?body (ksk_l1 _ _)));show wpAny (model X.prog X.w) X.A.in1.in1 (Builtin.«list.sort» ⟨[.ref (s.heap.objs.size+1)],[(Str.ofString "key",.ref fa)]⟩) _ _ _;rw[ksk_t1];refine Yb (n:=0) I1 g oD (I.hok.fresh (rK _)) rY (by simp) rv hlen j4 K cM hr λH' s' c g' aK Ag hc=>⟨_,rfl,?_⟩;refine aQ ⟨_,rfl,.ref (s.heap.objs.size+1),upd H' (s.heap.objs.size+1) (.lst (cG ys p)),?_,rfl,q H' _ g' Ag⟩;have hn:X.s₀.heap.get? (s.heap.objs.size+1)=none:=zV (kY I.sz (rK _));refine aK.aU.track hn Ag (λp hp=>oD.h3 p (by
  rcases jz.mp hp with z|z
  ·exact vZ _ z
  ·exact gF _ (vZ _ z))) oD.hL oD.h2 ⟨?_,(bT its p).toList,c,Ji rv p,by rw[Ce];exact hc⟩
 unfold cG;by_cases h2:ys.length<2
 ·rw[if_pos h2];exact hz
 ·rw[if_neg h2,nW,kJ,(hr (by lia)).2];exact hz
end
end L2
namespace Mi
open PySem PySem.Spec PyProof.Rows L2 PySem.W
section
variable {K:Frag}{cA:Cl}{U U1:Ph}{H H':Hp}{s:S}
theorem zP(hS:au K cA U H s)(x:Ext ⟨U.z,[]⟩ H U1 H')(r1:au K cA U1 H' []):Ext U H ⟨U1.z,U.l⟩ H'/\au K cA ⟨U1.z,U.l⟩ H' s:=by
 refine⟨⟨⟨[],by simp,by simp⟩,λa h=>x.lE a h,λa h=>x.gO a h,λa o h t n=>x.frame a o h t (by simp),x.stay⟩,?_⟩;exact⟨hS.len,λn o a e1 e2=>(hS.obj n o a e1 e2).map (λ_ t q=>x.frame a _ q t (by simp)) λ_ _ r=>Rep.zl ((Rep.zl r []).mono x λa ha=>by simp at ha) _,hS.uniq,λa ha=>x.lE a (hS.lz a ha),r1.zt⟩
theorem Yg(t:nQ H H'):Ext ⟨U.z,[]⟩ H ⟨U.z,[]⟩ H':=
 ⟨⟨[],by simp,by simp⟩,λ_ h=>h,λ_ h=>.inl h,λa o h nt _=>t.kp a o h λps e=>by rw[e] at nt;exact nt,t.st⟩
theorem zQ(z:∀a,U.z a->∃o,H a=some o):au K cA ⟨U.z,[]⟩ H []:=⟨rfl,λn o a e=>by simp at e,wj,λa h=>by simp at h,z⟩
theorem Li{f:D->M Xv}:∀{xs:List D} {ks:List Int},fZ f xs=some ks->ks.length=xs.length/\∀(i:Nat) d k,xs[i]?=some d->ks[i]?=some k->f d []=some (.ok (.d (.int k)),[])
 |[],ks,h=>by
  cases h;exact⟨rfl,λi d k e=>by simp at e⟩
 |x::r,ks,h=>by
  unfold fZ at h;split at h
  ·rename_i k e;obtain⟨ks',e1,rfl⟩:=oO.mp h;obtain⟨l,q⟩:=Li e1;refine⟨by simp[l],λi d k' ed ek=>?_⟩;cases i with
   |zero=>simp at ed ek;subst ed ek;exact e
   |succ i=>exact q i d k' (by simpa using ed) (by simpa using ek)
  ·cases h
end
section
variable {X:Cx}{cA:Cl}{ao:Nat->Nat->Bool}{aj:Bool}{F:Fn}{EX:XS}{a:Expr}{A B:E}{fz:Bool}{k:Nat}{c P:Addr}{params:Arguments}{body:Expr}{scope:Scope}{x:Str}{p pos ql kpos:Pos}
theorem Yh(on:jV=true)(hc:X.aj=true)(gG:X.env.code=.ref c)(hC:codeHdIn X.K c P=true)(hl:fM X.K c P=true)(G5:zL X.K X.mg)(oE:closureFor scope X.env=pure [])(hq:X.env.qual++"<lambda>"=dY)(nR:defaultsOf params X.env=([],[]))
  (Sc:bG [x] [x] scope) (hr:bJ k X.A) (gA:∀pm c' ctv u,bindArgs (kla_fn "<lambda>" dY params body scope [] pm (.ref c') ctv) ⟨[u],[]⟩=pure [(x,u)])
  (hm:X.mg "sorted"=none) (hg:Gl X "sorted") (ha:SE X cA ao aj F EX a A)
  (hb:∀fa c' s' H',SE (bZ (eF X.prog X.w) X.prog X.w X.K X.mg X.base [x] dY scope fa (.ref c') X.A.in1.in1 X.stack s' H' (λ_ _ _=>False) true) cA ao aj F (λ_ _ _ _=>False) body B)
  (he:starEach [a] X.env=(false,eval a X.env)::starEach [] X.env:=by rfl) :
  SE X cA ao aj F EX (.Call (.Name "sorted" p) [a] [⟨some "key",.Lambda params body scope ql,kpos⟩] pos) (.j7 fz A B):=by
 intro ak s Z H Q I hh;obtain⟨U,J,st,hL,hS,h⟩:=hh;cases aj with
 |false=>exact h.elim
 |true=>
 have h:Run X.K cA (M.bd (ev ao true F A J) λx=>match x with
   |.d (.fl xs)=>M.bd (M.opt (fZ (λd=>ev ao true F B [some (.d d)]) xs)) λks=>M.bd (M.opt (fX (qP ks) xs)) λys=>newL fz ys
   |_=>M.no) U H st _ _:=h
 refine zX (vm I hg hm KY ?_ (by decide) (by decide));refine callWith_kw (e:=a) (rest:=[]) ?_ (by rw[he];rfl) (by rw[he];rfl);have Yi:PA X [a] (qH (tE X.K cA EX (ev ao true F A)) xq):=ou ha sS he;refine aN (Yi pos ak s Z H (λvs H1=>∃v U1 d st1,vs=[v]/\aG X.K cA U1 H1 Z J/\au X.K cA U1 H1 st1/\aJ X.K cA U1 H1 d v/\Run X.K cA ((λx:Xv=>match x with
   |.d (.fl xs)=>M.bd (M.opt (fZ (λd=>ev ao true F B [some (.d d)]) xs)) λks=>M.bd (M.opt (fX (qP ks) xs)) λys=>newL fz ys
   |_=>M.no) d) U1 H1 st1 (λd _ U' H'=>∀v,aJ X.K cA U' H' d v->Q v H') (eX X.K cA EX Z)) I ?_) λus s1 hx=>?_
 ·exact bD hL hS h λv H1 U1 d st1 x1 hL1 aD r1 h2=>⟨v,U1,d,st1,rfl,hL1,aD,r1,h2⟩
 obtain⟨YZ,H1,I1,rvs,v,U1,d,st1,rfl,hL1,aD,r1,h2⟩:=hx;obtain⟨u,rfl,ru⟩:=vals1 rvs;have key:∃xs,d=.d (.fl xs):=by
  cases d with
  |l n=>exact h2.elim
  |d d=>cases d<;>first|exact⟨_,rfl⟩|exact h2.elim
 obtain⟨xs,rfl⟩:=key;have h2:Run X.K cA (M.bd (M.opt (fZ (λd=>ev ao true F B [some (.d d)]) xs)) λks=>M.bd (M.opt (fX (qP ks) xs)) λys=>newL fz ys) U1 H1 st1 (λd _ U' H'=>∀v,aJ X.K cA U' H' d v->Q v H') (eX X.K cA EX Z):=h2;obtain⟨ks,ek,h3⟩:=h2.lF;obtain⟨zs,ez,h4⟩:=h3.lF;obtain⟨kl,kf⟩:=Li ek;cases r1 with
 |d r1=>
 cases r1 with
 |@fl _ l vs Yj rs=>
 cases ru;have hlen:=rs.len;obtain⟨pp,GF,j4,hz⟩ : ∃pp:Array Nat,(2<=vs.length->aW (qP ks) (kas_sort vs.length)=some pp/\pp.size=vs.length)/\vs.length<64/\∀{U':Ph} {H':Hp},aq X.K cA U' H' xs vs->aq X.K cA U' H' zs (cG vs pp):=by
  unfold fX at ez;by_cases c2:xs.length<2
  ·rw[if_pos c2] at ez;cases ez;refine⟨#[],λz=>absurd z (by lia),by lia,λr=>?_⟩;have:cG vs #[]=vs:=by unfold cG;rw[if_pos (by lia)]
   rw[this];exact r
  ·rw[if_neg c2] at ez;by_cases c3:xs.length<64
   ·rw[if_pos c3] at ez;cases e:aW (qP ks) (PySem.W.kas_sort xs.length) with
    |none=>rw[e] at ez;cases ez
    |some q=>
     rw[e] at ez;dsimp only at ez;by_cases hq:q.size=xs.length
     ·rw[if_pos hq] at ez;cases ez;refine⟨q,λ_=>⟨by rw[<-hlen];exact e,by lia⟩,by lia,λr=>?_⟩;have:cG vs q=q.toList.map λi=>vs.getD i .non:=by unfold cG;rw[if_neg (by lia)]
      rw[this];exact r.uJ q.toList
     ·rw[if_neg hq] at ez;cases ez
   ·rw[if_neg c3] at ez;cases ez
 show wpAny _ _ (evalAll [do let v <-eval (.Lambda params body scope ql) X.env;standAt pos;pure v]) _ _ s1;refine wpAny_evalAll_cons (aB (X3 I1 on gG hC hl G5 oE hq nR λfa c' ctv pm H2 s2 I2 gc tx=>aB (nZ (aQ (wpAny_evalAll_nil ?_)))));have x2:Ext ⟨U1.z,[]⟩ H1 ⟨U1.z,[]⟩ H2:=Yg tx;have r2:au X.K cA ⟨U1.z,[]⟩ H2 []:=zQ λa z=>by obtain⟨o,e⟩:=aD.zt a z;exact tx.st a o e
 refine Ye (G:=λH3=>∃U3,Ext ⟨U1.z,[]⟩ H2 U3 H3/\au X.K cA U3 H3 []) (fo:=lamO params body scope pm c' ctv) (ys:=vs) (kz:=ks) (lt:=qP ks) (p:=pp) I2 ⟨_,Ext.refl,r2⟩ (LstAt.oG (LstAt.mono (U:=⟨U1.z,[]⟩) x2 (λa ha=>by simp at ha) Yj)) (by lia) j4 (λi v k' hv hk H3 ps s' u g3 aK uQ rv=>?_) (λi j b e=>?_) GF λH' r g3 hn=>?_
 ·obtain⟨U3,x3,r3⟩:=g3;obtain⟨d,ed⟩ : ∃d,xs[i]?=some d:=by
   cases e:xs[i]? with
   |none=>rw[rs.none e] at hv;cases hv
   |some d=>exact⟨d,rfl⟩
  obtain⟨v2,ev2,rd⟩:=rs.get ed;rw[hv] at ev2;cases ev2;have ef:=kf i d k' ed hk;have Yk:Rep X.K cA U3 H3 d v:=((Rep.zl rd []).mono x2 λa ha=>by simp at ha).mono x3 λa ha=>by simp at ha
  obtain⟨oc,w,ws,tq,g1,g2,g4⟩:=gc;have Yl:GoodC H3 c':=⟨oc,w,ws,tq,x3.frame c' _ g1 trivial (by simp),g2,g4⟩;refine X6 (X:=X.uP) (CX:=eF X.prog X.w) (cm:=true) aK (aK.pin _ (gF _ uQ)).1 Yl Sc (λ_=>aK.ok.hd hc) hr.depth (gA pm c' ctv) rv (hb fa c' s' H3) ?_ (λe s' z=>by obtain⟨_,_,_,_,_,_,_,_,_,_,z⟩:=z;exact z);refine⟨U3,[some (.d d)],[],⟨rfl,λj y e=>?_⟩,r3,?_⟩
  ·cases j with
   |zero=>simp at e;subst e;exact⟨v,rfl,.d Yk⟩
   |succ j=>simp at e
  ·unfold Run;rw[ef];intro U' H' x' r' v' rv';cases rv' with
   |d rv'=>
    cases rv';exact⟨rfl,U',x3.trans x',r'⟩
 ·unfold qP at e;cases e1:ks[i]? with
  |none=>rw[e1] at e;cases e
  |some a=>
   cases e2:ks[j]? with
   |none=>rw[e1,e2] at e;cases e
   |some b'=>
    rw[e1,e2] at e;cases e;exact⟨a,b',rfl,rfl,rfl⟩
 ·obtain⟨U3,x3,r3⟩:=g3;obtain⟨xe,re⟩:=zP aD (x2.trans x3) r3;have Ym:aq X.K cA ⟨U3.z,U1.l⟩ H' xs vs:=rs.mono xe aD.lz;exact Jt re (h4.ext xe) r _ hn (hz Ym)
end
structure JL(X:Cx):Prop where
 ex:∃c P,X.env.code=.ref c/\codeHdIn X.K c P=true/\fM X.K c P=true/\zL X.K X.mg
structure uR(K:Frag)(mg:Str->Option Value)(fd:FuncData):Prop where
 ex:∃c P,fd.code=.ref c/\codeHdIn K c P=true/\fM K c P=true/\zL K mg
section
variable {X:Cx}{cA:Cl}{ao:Nat->Nat->Bool}{aj:Bool}{F:Fn}{EX:XS}{a:Expr}{A B:E}{fz:Bool}{k:Nat}{params:Arguments}{body:Expr}{scope:Scope}{p pos ql kpos:Pos}
theorem Yn(x:Str)(L:JL X)(hr:bJ k X.A)(hc:X.aj=true)(hm:X.mg "sorted"=none)(hg:JK X "sorted" .globalImplicit)(ha:JE X cA ao aj F EX a A)
  (hb:∀fa c' s' H',JE (bZ (eF X.prog X.w) X.prog X.w X.K X.mg X.base [x] dY scope fa (.ref c') X.A.in1.in1 X.stack s' H' (λ_ _ _=>False) true) cA ao aj F (λ_ _ _ _=>False) body B)
  (oE:closureFor scope X.env=pure []:=by rfl) (hq:X.env.qual++"<lambda>"=dY:=by kernel_rfl) (nR:defaultsOf params X.env=([],[]):=by rfl)
  (gA:∀pm c' ctv u,bindArgs (kla_fn "<lambda>" dY params body scope [] pm (.ref c') ctv) ⟨[u],[]⟩=pure [(x,u)]:=by intros;rfl)
  (Sc:bG [x] [x] scope:=by exact⟨rfl,rfl,rfl,dk,rfl,dk,dk⟩) (he:starEach [a] X.env=(false,eval a X.env)::starEach [] X.env:=by rfl) (on:jV=true:=by rfl) :
  JE X cA ao aj F EX (.Call (.Name "sorted" p) [a] [⟨some "key",.Lambda params body scope ql,kpos⟩] pos) (.j7 fz A B):=by
 obtain⟨c,P,l1,l2,l3,l4⟩:=L.ex;exact⟨Yh on hc l1 l2 l3 l4 oE hq nR Sc hr gA hm hg.o ha.o (λfa c' s' H'=>(hb fa c' s' H').o) he⟩
end
theorem Yo{P:Program}{w:World}{K:Frag}{mg:Str->Option Value}{base:Heap}{cA:Cl}{ao:Nat->Nat->Bool}{T:Nat->Option Df}{x:Str}{st:Stmt}{ps:List Str}{k n:Nat}{cm:Bool}{df:Df}(D:D3 K mg x st ps)(LK:uR K mg (fdOf K x st))(N:List Str)(hT:T n=some df)
  (hb:∀(cdv:Value) (A:Around) (outer:List Env) (s:Shared) (H:Hp) (E:XK),bJ k (A.deeper (envOfC x (aA st) s.heap.objs.size (cU K x) cdv))->JL (bZ (eF P w) P w K mg base N x (aA st) (cU K x) cdv A outer s H E cm)->
   JB (bZ (eF P w) P w K mg base N x (aA st) (cU K x) cdv A outer s H E cm) cA ao cm (λc=>call ao T k c) (λ_ C dx H'=>E C dx H') (aM st) df.body) (S:bG N ps (aA st):=by exact⟨rfl,rfl,rfl,dk,rfl,dk,dk⟩) (hp:df.eN=ps.length:=by rfl) (hm:df.many=N.length:=by rfl) :
  bY P w K mg base (eF P w) cm (k+1) (cU K x) (fdOf K x st) ps (lW K cA (call ao T (k+1) cm n)):=by
 obtain⟨c,P',l1,l2,l3,l4⟩:=LK.ex;obtain⟨oc,od,kV,doc,pm,an,cdv,ct,osl,e,lk,gG⟩:=D.f.ex;rw[e] at lk l1 ⊢;have l1:cdv=.ref c:=l1;refine Ih lk gG S (λvs H Q E ⟨U,ds,s,r,hS,h⟩=>?_) λA outer s H vs Q E hr ⟨U,ds,st',r,hS,h⟩=>?_
 ·rw[<-r.len,(Bk hT h).1,hp]
 ·obtain⟨hl,h2⟩:=Bk hT h;exact⟨_,(hb cdv A outer s H E (hr.deeper _) ⟨c,P',l1,l2,l3,l4⟩).o,U,_,st',Kl r hl.symm hm,hS,h2⟩
structure gB(K:Frag)(h:Heap):Prop where
 ex:∃(q:Addr×FuncData) (c P:Addr),oX K "plain_rings"=some q/\q.2.code=.ref c/\codeHdIn K c P=true/\fM K c P=true/\K.lookup P=none/\h.get? P=some (tabObj #[])/\(∀c' P',fM K c' P'=true->P'=P)/\bmB K=true
theorem Yp{K:Frag}{c P:Addr}(h:fM K c P=true):∃o,K.lookup c=some o/\gQ o=some (.ref P):=by
 unfold fM at h;split at h
 ·rename_i o e;refine⟨o,e,?_⟩;split at h
  ·rename_i vs ed;rw[dU] at h;obtain⟨h1,h2⟩:=h;split at h1
   ·rename_i q t e1;split at h2
    ·rename_i p Ep;unfold gQ;rw[ed];dsimp only;rw[e1];dsimp only;rw[h1];dsimp only;rw[Ep,rM.mp h2]
    ·cases h2
   ·cases h1
  ·cases h
 ·cases h
theorem Yq{K:Frag}{c P:Addr}{o:Obj}(e:K.lookup c=some o)(h:gQ o=some (.ref P)):fM K c P=true:=by
 unfold gQ at h;split at h
 ·rename_i vs ed;split at h
  ·rename_i q t e1;split at h
   ·rename_i eq;unfold fM;rw[e];dsimp only;rw[ed];dsimp only;rw[e1,h];dsimp only;rw[eq];simp
   ·cases h
  ·cases h
 ·cases h
theorem Yr{o:Obj}(h:jT o=true):o=tabObj #[]:=by
 unfold jT at h;split at h
 ·rename_i vs sl;rw[dU] at h;rw[Array.isEmpty_iff.mp h.1,Array.isEmpty_iff.mp h.2]
 ·cases h
theorem Ys{K:Frag}{h:Heap}(e:rP K h=true):gB K h:=by
 unfold rP at e;split at e
 ·rename_i q hq;split at e
  ·rename_i c hc;split at e
   ·rename_i P hP;simp only[dU,mj] at e;obtain⟨⟨⟨⟨e1,e2⟩,e3⟩,e4⟩,e5⟩:=e;obtain⟨o,ho,hi⟩:=uY.mp hP;refine⟨q,c,P,hq,hc,e1,Yq ho hi,by simpa using e2,?_,λc' P' hl=>?_,e4⟩
    ·unfold wH at e3;split at e3
     ·rename_i o' mD;rw[mD,Yr e3]
     ·cases e3
    ·obtain⟨o',mD,tM⟩:=Yp hl;have:=e5 (c',o') (GK mD);dsimp only at this;rw[tM] at this;exact rM.mp this
   ·cases e
  ·cases e
 ·cases e
theorem gB.keeps{K:Frag}{h h':Heap}(L:gB K h)(k:∀b o,h.get? b=some o->h'.get? b=some o):gB K h':=by
 obtain⟨q,c,P,a1,a2,a3,a4,a5,a6,a7⟩:=L.ex;exact⟨q,c,P,a1,a2,a3,a4,a5,k _ _ a6,a7⟩
theorem Yt{K:Frag}{h:Heap}{mg:Str->Option Value}(e:bmB K=true)(X:K.In h)(G:h.Ns mainGlobals mg):zL K mg:=by
 unfold bmB at e;split at e
 ·rename_i bm hb;split at e
  ·rename_i d sl hl;simp only[dU,rM,bne_iff_ne] at e;obtain⟨⟨e1,e2⟩,e3⟩:=e;exact⟨bm,_,mg_of X G hb,e2,e3,hl,rfl,by rw[e1],rfl⟩
  ·cases e
 ·cases e
theorem gB.lk{K:Frag}{h:Heap}{mg:Str->Option Value}(L:gB K h)(X:K.In h)(G:h.Ns mainGlobals mg)(st:Stmt):uR K mg (fdOf K "plain_rings" st):=by
 obtain⟨q,c,P,a1,a2,a3,a4,a5,a6,a7,a8⟩:=L.ex;refine⟨c,P,?_,a3,a4,Yt a8 X G⟩;unfold fdOf;rw[a1];exact a2
theorem Yu{P:Program}{w:World}{K:Frag}{mg mb:Str->Option Value}{CX:lU}{k:Nat}{fa a:Addr}{fd:FuncData}{x:Str}{sp:Sp}{s₁:Shared}{vs:List Value}{ns:List Int}
  (KX:K.In s₁.heap) (Lj:s₁.heap.Ns mainGlobals mg) (hb:s₁.heap.Ns builtinsNs mb) (Yv:∀x:Str,x≠"__name__"->mb x=bootBuiltins x) (G_:s₁.heap.NoLimit) (hg:s₁.gens=#[])
  (ha:s₁.heap.get? a=some {cls:=.type "list",data:=.seq vs.toArray}) (hi:IntsAre vs ns) (hl:ns.length<=sizeLine) (hr:bJ k callerA)
  (F:∀base:Heap,K.In base->base.Ns mainGlobals mg->bY P w K mg base CX true k fa fd [x] sp) (gA:∀(s:Shared) (u:Value),BindsTo s fd ⟨[u],[]⟩ [(x,u)])
  (Aq:∀H:Hp,cH K H a (ns.map V.int)->sp [.ref a] H (λv _=>v=.bl true) λ_ _ _=>False)
  (Yw:∀H e s',CX [] H s₁ (λ_ _ _=>False) e s'->False) (LH:gB K s₁.heap) :
  codeAny (model P w) callerA (.call (.ref fa) ⟨[.ref a],[]⟩) (λr s'=>r=.ok (.ret (.bool true))/\OldK s₁.heap s'.heap/\s'.os=s₁.os/\AllBare s'.gens) s₁:=by
 have rv:=Iv hi;have lenV:=hi.length;obtain⟨q,c,T,a1,a2,a3,a4,a5,a6,a7,a8⟩:=LH.ex;have Ln:T≠a:=λz=>by rw[z,ha] at a6;cases a6
 have core:∀H:Hp,H T=some (.gR #[])->cH K H a (ns.map V.int)->dX P w H s₁.heap->(∀b,H b≠none->b=T\/(b=a/\∃o xs,H b=some (.iY o (.lst xs))))->(H a≠none->K.lookup a=none)->
   codeAny (model P w) callerA (.call (.ref fa) ⟨[.ref a],[]⟩) (λr s'=>r=.ok (.ret (.bool true))/\OldK s₁.heap s'.heap/\s'.os=s₁.os/\AllBare s'.gens) s₁:=by
  intro H hT hS hok hA hK;have kE:∀{b:Addr} {o:Obj},s₁.heap.get? b=some o->H b=none->(iw s₁.heap H).get? b=some o:=λe n=>Mu e n;have xr:∀{b:Addr} {o:Obj} {es:Array DictEntry} {ep:Nat},s₁.heap.get? b=some o->o.data=.dict es ep->H b=none:=λ{b o es ep} e d=>by
   cases qq:H b with
   |none=>rfl
   |some u=>
    rcases hA b (by rw[qq];simp) with z|⟨z,_⟩
    ·subst z;rw[a6] at e;cases e;have d':Data.fields #[]=Data.dict es ep:=d;cases d'
    ·subst z;rw[ha] at e;cases e;have d':Data.seq vs.toArray _=Data.dict es ep:=d;cases d'
  have BP:∀{b:Addr} {m:Str->Option Value},s₁.heap.Ns b m->(iw s₁.heap H).Ns b m:=λ{b m} ⟨o,es,ep,e,d,r⟩=>⟨o,es,ep,kE e (xr e d),d,r⟩;have Lp:K.In (iw s₁.heap H):=λb o e=>kE (KX b o e) (by
   cases qq:H b with
   |none=>rfl
   |some u=>
    rcases hA b (by rw[qq];simp) with z|⟨z,_⟩
    ·subst z;rw[a5] at e;cases e
    ·subst z;rw[hK (by rw[qq];simp)] at e;cases e)
  have hM:Mod K mg (iw s₁.heap H):=⟨Lp,BP Lj,⟨mb,BP hb,Yv⟩,let ⟨mc,h1,h2⟩:=G_;⟨mc,BP h1,h2⟩⟩;have e0:pC P w K mg (iw s₁.heap H) callerA [] s₁ H:=⟨rfl,hM,λb o e=>Mv e,Nat.le_of_eq (Mt _ _),trivial,⟨λb hb=>absurd (show b∈([]:List Addr) from hb) (by simp),λ_ c' P' hc=>⟨#[],by rw[a7 c' P' hc];exact hT,.nil⟩⟩,hok,.of_eq hg⟩;refine wu ((F _ Lp (BP Lj)).run callerA [] s₁ H ⟨[.ref a],[]⟩ [.ref a] [.ref a] _ _ (λ_=>rfl) hr e0 (gA s₁ (.ref a)) (.cons rfl .nil) (Aq H hS)) λr s' h=>?_;cases r with
  |error e=>exact(Yw H e s' h).elim
  |ok fl=>
   cases fl with
   |next=>exact False.elim h
   |brk=>exact False.elim h
   |cont=>exact False.elim h
   |ret u=>
    obtain⟨v,H',os,bare,un,zR,r',q'⟩:=h;have q':v=.bl true:=q';subst q';obtain rfl:u=Value.bool true:=r';obtain⟨more,Yx,_⟩:=un.fu T #[] hT;have oT:s'.heap.get? T=some (tabObj (#[]++more)):=zR T _ Yx;have ht₀:s₁.heap.TableAt c T #[]:=(codeHd_of_K KX a3).tab a6;have kept:∀b o,b≠T->s₁.heap.get? b=some o->s'.heap.get? b=some o:=λb o nb e=>by
     cases qq:H b with
     |none=>exact un.keep b o e qq (by intro z;exact absurd (show b∈([]:List Addr) from z) (by simp)) (by simp)
     |some u=>
      rcases hA b (by rw[qq];simp) with z|⟨_,ob,xs,z⟩
      ·exact absurd z nb
      ·have z2:=un.dZ b ob _ z;obtain⟨e1,_⟩:=hok b _ z;obtain⟨e2,_⟩:=zR b _ z2;rw[e] at e1;cases e1;exact e2
    refine⟨rfl,⟨λb o e=>?_,λb o e=>?_⟩,os,bare⟩
    ·by_cases z:b=T
     ·subst z;rw[a6] at e;cases e;exact .inr (.inl ⟨ht₀.isCodeTable,rfl,#[],more,rfl,oT⟩)
     ·exact .inl (kept b o z e)
    ·by_cases z:b=T
     ·exact⟨_,by rw[z];exact oT⟩
     ·exact⟨o,kept b o z e⟩
 have rD:∀H,bw P w H s₁.heap T (.gR #[]):=λH=>a6;cases hk:K.lookup a with
 |some o=>
  have e:=KX a o hk;rw[ha] at e;cases e;refine core (λb=>if b=T then some (.gR #[]) else none) (if_pos rfl) (.inr ⟨_,vs.toArray,_,hk,rfl,rfl,rfl,by rw[dF,lenV];exact hl,by simpa using rv⟩) (λb u z=>?_) (λb z=>?_) λz=>absurd (if_neg (Ne.symm Ln)) z
  ·by_cases hb:b=T
   ·subst hb;have z':=(if_pos rfl).symm.trans z;cases z';exact rD _
   ·have z':=(if_neg hb).symm.trans z;cases z'
  ·by_cases hb:b=T
   ·exact .inl hb
   ·exact absurd (if_neg hb) z
 |none=>
  refine core (λb=>if b=T then some (.gR #[]) else if b=a then some (.iY {cls:=.type "list",data:=.seq vs.toArray} (.lst (ns.map V.int))) else none) (if_pos rfl) (.inl (.inr ⟨{cls:=.type "list",data:=.seq vs.toArray},by show (if a=T then _ else _)=_;rw[if_neg (Ne.symm Ln),if_pos rfl]⟩)) (λb u z=>?_) (λb z=>?_) λ_=>hk
  ·by_cases hb:b=T
   ·subst hb;have z':=(if_pos rfl).symm.trans z;cases z';exact rD _
   ·have z':=(if_neg hb).symm.trans z;by_cases uU:b=a
    ·have z'':=(if_pos uU).symm.trans z';cases z'';subst uU;exact⟨ha,by rw[nW];exact hl,vs,_,rv,ha⟩
    ·have z'':=(if_neg uU).symm.trans z';cases z''
  ·by_cases hb:b=T
   ·exact .inl hb
   ·by_cases uU:b=a
    ·exact .inr ⟨uU,_,_,(if_neg hb).trans (if_pos uU)⟩
    ·exact absurd ((if_neg hb).trans (if_neg uU)) z
noncomputable def eO(fs:List (Str×Stmt))(ms:List oY)(xs:List (Nat×Str))(l:Lk):Hook where
 α:=(List (Option FuncData)×List (Option FuncData)×Bool)×Bool
 obs:=λs=>(iV fs ms xs l s,iW s)
 val:=λw=>(jA fs ms w,true)
 says:=λ_ h=>∃K:Frag,K.In h/\g_ fs ms xs l K/\gB K h
 of:=λw s e0=>by
  have e:iV fs ms xs l s=jA fs ms w:=lM Prod.fst e0;have el:iW s=true:=lM Prod.snd e0;have e3:(_&&_&&_)=true:=lM (λx=>x.2.2) e;rw[dU,dU,mj,mj] at e3;refine⟨aX s.heap,Wj,⟨λp hp=>?_,V2 e3.1.1,λm hm=>?_,e3.1.2,λx hx=>Wi (e3.2 x hx)⟩,Ys el⟩
  ·have e1:=lM Prod.fst e;exact V1 (List.map_inj_left.mp e1 p hp)
  ·have e1:=lM (λx=>x.2.1) e;exact Wh (List.map_inj_left.mp e1 m hm)
 keeps:=λw h h' ⟨K,X,Y,Gd⟩ k=>⟨K,X.keeps k,Y,Gd.keeps k⟩
theorem uV{l:OpenLaw}{k:Nat}{q:Program}{loose:List Str}{XP:(Str->Option Value)->Heap->Prop}{fs:List (Str×Stmt)}{ms:List oY}{xs:List (Nat×Str)}{lk:Lk}{d:DefRec}{x:Str}(hn:l.most=some 63)(DP:d.params.defaults=[])(hr:bJ k callerA)
  (F:∀(w:World) (K:Frag) (mg:Str->Option Value) (fa:Addr) (h:Heap),g_ fs ms xs lk K->gB K h->K.In h->h.Ns mainGlobals mg->mg d.name=some (.ref fa)->
   ∃fd:FuncData,(∀(s:Shared) (u:Value),BindsTo s fd ⟨[u],[]⟩ [(x,u)])/\∀base:Heap,K.In base->base.Ns mainGlobals mg->bY l.prog w K mg base (eF l.prog w) true k fa fd [x] (nA K)) :
  WalkO q loose XP (eO fs ms xs lk).says l.row.toRowW d [] (λf vs=>PySem.call f vs):=by
 refine Iu.jd hn DP λw s₀ s₁ mg mb fa o pm cd doc a vs ns G Y ho hd gG hmg sZ hints hlen hg=>?_;obtain⟨K,KX,SY,LH⟩:=Y;obtain⟨fd,hb,hF⟩:=F w K mg fa _ SY LH KX G.T.g hmg;exact Yu KX G.T.g G.T.b G.T.builtins G.T.nolimit hg sZ hints (kY hlen (by decide)) hr hF hb (λH hS=>⟨a,ns,rfl,hS,hlen,trivial,λ_=>rfl⟩) (λH e s' h=>by
  obtain⟨_,_,_,_,_,_,_,_,_,_,z⟩:=h;exact z) LH
end Mi
namespace Mi
open PySem PySem.Spec PyProof.Rows L2
section
variable {K:W.Frag}{cA:Cl}{U:Ph}{H:Hp}{s:S}
end
section
variable {X:Cx}{cA:Cl}{ao:Nat->Nat->Bool}{aj:Bool}{F:Fn}{EX:XS}{a e:Expr}{es:List Expr}{A:E}{Xs:Es}{pos apos p:Pos}{x:Str}
end
section
variable {K:W.Frag}{cA:Cl}{U:Ph}{H:Hp}{s:S}
end
section
variable {X:Cx}{cA:Cl}{ao:Nat->Nat->Bool}{aj:Bool}{F:Fn}{EX:XS}{e:Expr}{es:List Expr}{Xs:Es}{pos p:Pos}{x:Str}
end
section
variable {X:Cx}{cA:Cl}{ao:Nat->Nat->Bool}{aj:Bool}{F:Fn}{EX:XS}{c:Nat}{a:Expr}{A:E}{is:Es}{ns:List Str}{body:List Stmt}{f:Str}{pos p p2:Pos}
end
section
variable {prog:Program}{w:World}{A:Around}{E:Value->Shared->Prop}{s:Shared}
end
section
variable {X:Cx}
end
section
variable {K:W.Frag}{cA:Cl}{U:Ph}{H:Hp}
end
section
variable {X:Cx}{cA:Cl}{ao:Nat->Nat->Bool}{aj:Bool}{F:Fn}{EX:XS}{a e:Expr}{A:E}{pos pos' p p':Pos}{Xs:Es}{fz:Bool}
end
section
variable {prog:Program}{w:World}{A:Around}{R:Result->Shared->Prop}{I S l:Addr}{items:Array Value}{rows:List (List Int)}
end
section
variable {X:Cx}{cA:Cl}{ao:Nat->Nat->Bool}{aj:Bool}{F:Fn}{EX:XS}{e:Expr}{pos p:Pos}{es:List Expr}{Xs:Es}{fz:Bool}
end
end Mi
namespace Mi
open PySem PySem.Spec PyProof.Rows L2 PySem.W
section
variable {X:Cx}
end
section
variable {K:W.Frag}{cA:Cl}{U:Ph}{H:Hp}
end
end Mi
namespace PySem
open Builtin
end PySem
namespace Mi
open PySem PySem.Spec PyProof.Rows L2 PySem.W
section
variable {K:W.Frag}{cA:Cl}{U:Ph}{H:Hp}
end
section
variable {X:Cx}
end
section
variable {K:W.Frag}{cA:Cl}{U:Ph}{H:Hp}{Q:VK}
end
section
variable {X:Cx}{cA:Cl}{ao:Nat->Nat->Bool}{aj:Bool}{F:Fn}{EX:XS}{e:Expr}{pos p:Pos}{es:List Expr}{Xs:Es}{fz:Bool}
end
section
variable {X:Cx}
end
section
variable {X:Cx}{cA:Cl}{ao:Nat->Nat->Bool}{aj:Bool}{F:Fn}{EX:XS}{o i a:Expr}{O aK A:E}{apos cpos:Pos}
end
section
variable {K:Frag}{b:Bd}
end
section
variable {P:Program}{w:World}{K:Frag}{mg:Str->Option Value}{base:Heap}{cA:Cl}{ao:Nat->Nat->Bool}{T:Nat->Option Df}{x m q:Str}{st:Stmt}{ps:List Str}{k n:Nat}{cm:Bool}{df:Df}{C fa:Addr}{fd:FuncData}
end
end Mi
namespace Mi
open PySem
end Mi
namespace Mi
open PySem Ts
end Mi
namespace Mi
open PySem
end Mi
namespace Mi
open PySem PySem.W L2
end Mi
namespace Mi
open PySem
section
variable {s:S}{o o' L L':SO}
end
section
variable {n k x y:Int}{r:List Int}
end
section
variable {n m:Int}{ps qs:List (Int×Int)}{x:D}{hs:List Int}
end
section
variable {ao:Nat->Nat->Bool}{F:Fn}{J:Vs}{s:S}{P:Xv->S->Prop}
end
section
variable {n k:Nat}{es:Nat->List Int}{A:Int->Int->Bool}{F:Fr}{p:Nat}{x:Int}{g:Nat->Int}
end
section
variable {ao:Nat->Nat->Bool}{aj:Bool}{F:Fn}{J:Vs}{s:S}{P:Xv->S->Prop}
end
section
variable {n k d:Int}{ps:List (Int×Int)}{ls:List Int}
end
section
variable {n m:Int}{ps:List (Int×Int)}{r h:List Int}{x y:Int}
end
section
variable {n k d m:Int}{ps:List (Int×Int)}{hs:List Int}
end
section
variable {n k d q:Int}{ps qs:List (Int×Int)}{hs:List Int}
end
section
variable {n k d:Int}{ps:List (Int×Int)}{ks:List (Option Int)}{r:List Int}{x y:Int}
end
section
variable {n k d:Int}{ps:List (Int×Int)}
end
section
variable {ao:Nat->Nat->Bool}{F:Fn}{J:Vs}{s:S}{P:Xv->S->Prop}
end
section
variable {n k d:Int}{ps:List (Int×Int)}
end
section
variable {n k m:Int}{ps qs:List (Int×Int)}{A:Int->Int->Bool}
end
section
variable {n k d:Int}{ps:List (Int×Int)}
end
section
variable {α β:Type}
end
section
variable {n k d:Int}{ps:List (Int×Int)}
end
section
variable {n1 n2 n k d:Int}{ps1 ps2 qs:List (Int×Int)}
end
end Mi
namespace cI
open PySem Mi
noncomputable def b0:eG:=(.cons (.par 2 3 (.v 0) (.v 1)) (.cons (.wh (.pr true .gt (Eb (.v 3) (Ci 0))) (.cons (.par 2 3 (.v 3) (.pr true .mod (Eb (.v 2) (.v 3)))) .nil)) (.cons (.ret (.tup (Eb (.pr true .fdiv (Eb (.v 0) (.v 2))) (.pr true .fdiv (Eb (.v 1) (.v 2)))))) .nil)))
noncomputable def b1:eG:=(.cons (.asg (.nm 1) (.pr true .min2 (Eb (.v 0) (Ci 24)))) (.cons (.asg (.nm 2) (.jh true (.tup (Eb (.v 0) (.v 1))) [0] (.rg (Ci 1) (.pr true .add (Eb (.v 1) (Ci 1)))) [1] (.rg (Ci 1) (.pr true .add (Eb (.v 0) (Ci 1)))) [] 2 (.yes (.call 2 (Eb (.v 0) (.v 1)))))) (.cons (.ret (.j7 false (.v 2) (.pr true .fdiv (Eb (.pr true .mul (Eb (Ei (.v 0) (Ci 0)) (Ci 27720))) (Ei (.v 0) (Ci 1)))))) .nil)))
noncomputable def b2:eG:=(.cons (.ret (.and (.pr true .eq (Eb (.call 0 (Eb (.v 0) (.v 1))) (.tup (Eb (.v 0) (.v 1))))) (.or (.pr true .eq (Eb (.v 0) (Ci 1))) (.pr true .ge (Eb (.v 0) (.pr true .mul (Eb (Ci 2) (.v 1)))))))) .nil)
noncomputable def b3:eG:=(.cons (.iff (.pr true .lt (Eb (.v 1) (.pr true .len (Ea (.v 0))))) (.cons (.ret (Ei (.v 0) (.v 1))) .nil) .nil) (.cons (.ret (Ci 0)) .nil))
noncomputable def b4:eG:=(.cons (.asg (.nm 1) (.pr true .max2 (Eb (.v 0) (.pr true .ao (Eb (Ci 0) (.v 0)))))) (.cons (.ret (.lst false (Eb (.v 1) (.pr true .pN (Ea (.pr true .ge (Eb (.v 1) (.pr true .pow (Eb (Ci 10) (Ci 18)))))))))) .nil))
noncomputable def b5:eG:=(.cons (.iff (.pr true .eq (Eb (Ei (.v 0) (Ci 1)) (Ci 1))) (.cons (.asg (.tp [2,3]) (.pr true .divmod (Eb (Ei (.v 0) (Ci 0)) (.v 1)))) (.cons (.asg (.ao (.v 0) (Ci 0)) (.v 2)) (.cons (.ret (.v 3)) .nil))) .nil) (.cons (.asg (.nm 4) (.pr true .mod (Eb (.pr true .mul (Eb (.pr true .add (Eb (.pr true .mod (Eb (Ei (.v 0) (Ci 0)) (Ci 2147483647))) (Ci 40503))) (Ci 69621))) (Ci 2147483629)))) (.cons (.asg (.nm 4) (.pr true .mod (Eb (.pr true .add (Eb (.pr true .mul (Eb (.v 4) (.v 4))) (Ci 7817))) (Ci 2147483587)))) (.cons (.asg (.ao (.v 0) (Ci 0)) (.pr true .mod (Eb (.pr true .add (Eb (.pr true .mul (Eb (.v 4) (Ci 48271))) (Ci 11))) (Ci 2147483629)))) (.cons (.ret (.pr true .mod (Eb (.pr true .fdiv (Eb (Ei (.v 0) (Ci 0)) (Ci 32))) (.v 1)))) .nil)))))
noncomputable def b6:eG:=(.cons (.ret (.and (.j6 (.v 0) .int) (.not (.j6 (.v 0) .bool)))) .nil)
noncomputable def b7:eG:=(.cons (.asg (.nm 1) (.lst false (Ea (.tup (Eb (Ci 60) (.tup (Eb (Ci 1) (Ci 1)))))))) (.cons (.fr (.nm 2) (.rg (Ci 1) (.pr true .add (Eb (.pr true .fdiv (Eb (.v 0) (Ci 2))) (Ci 1)))) (.cons (.fr (.nm 3) (.rg (.pr true .mul (Eb (Ci 2) (.v 2))) (.pr true .add (Eb (.v 0) (Ci 1)))) (.cons (.iff (.pr true .eq (Eb (.comp true (.v 0) [0] (.seq (.tup (Ec (Ci 2) (Ci 3) (Ci 5)))) [3,2] 1 (.yes (.and (.pr true .eq (Eb (.pr true .mod (Eb (.v 1) (.v 0))) (Ci 0))) (.pr true .eq (Eb (.pr true .mod (Eb (.v 2) (.v 0))) (Ci 0)))))) (.lst true .nil))) (.cons (.ex (.push (.v 1) (.tup (Eb (.pr true .fdiv (Eb (.pr true .mul (Eb (Ci 60) (.v 3))) (.v 2))) (.tup (Eb (.v 3) (.v 2))))))) .nil) .nil) .nil)) .nil)) (.cons (.ret (.comp true (.v 1) [0,1] (.seq (.pr true .sorted (Ea (.v 1)))) [] 2 .no)) .nil)))
noncomputable def b8:eG:=(.cons (.asg (.nm 1) (.call 7 (Ea (.v 0)))) (.cons (.fr (.nm 2) (.rg (Ci 0) (Ci 2)) (.cons (.asg (.nm 3) (.call 1 (Ea (.v 0)))) (.cons (.iff (.or (.not (.j6 (.v 3) .list)) (.pr true .ne (Eb (.v 3) (.v 1)))) (.cons (.ret (.c (.bl false))) .nil) .nil) (.cons (.iff (.not (.pr true .all (Ea (.comp true (.and (.j6 (.v 0) .tuple) (.and (.call 6 (Ea (Ei (.v 0) (Ci 0)))) (.call 6 (Ea (Ei (.v 0) (Ci 1)))))) [0] (.seq (.v 3)) [] 1 .no)))) (.cons (.ret (.c (.bl false))) .nil) .nil) (.cons (.ex (.push (.v 3) (.c .non))) .nil))))) (.cons (.ret (.c (.bl true))) .nil)))
noncomputable def b9:eG:=(.cons (.iff (.or (.not (.call 8 (Ea (Ci 1)))) (.or (.not (.call 8 (Ea (Ci 2)))) (.not (.call 8 (Ea (Ci 5)))))) (.cons (.ret (.c (.bl false))) .nil) .nil) (.cons (.fr (.nm 1) (.seq (.pr true .add (Eb (.lst true (Ea (.call 3 (Eb (.v 0) (Ci 0))))) (.sl true (.v 0) (.yes (Ci 1)) (.yes (Ci 5)))))) (.cons (.iff (.not (.call 8 (Ea (.pr true .add (Eb (Ci 1) (.call 5 (Eb (.call 4 (Ea (.v 1))) (Ci 12)))))))) (.cons (.ret (.c (.bl false))) .nil) .nil) .nil)) (.cons (.ret (.c (.bl true))) .nil)))
noncomputable def T(n:Nat):Option Df:=([⟨4,2,b0⟩,⟨3,1,b1⟩,⟨2,2,b2⟩,⟨2,2,b3⟩,⟨2,1,b4⟩,⟨5,2,b5⟩,⟨1,1,b6⟩,⟨4,1,b7⟩,⟨4,1,b8⟩,⟨2,1,b9⟩]:List Df)[n]?
theorem Yy:T 0=some ⟨4,2,b0⟩:=rfl
theorem T_1:T 1=some ⟨3,1,b1⟩:=rfl
theorem Yz:T 2=some ⟨2,2,b2⟩:=rfl
theorem Lq:T 3=some ⟨2,2,b3⟩:=rfl
theorem Lr:T 4=some ⟨2,1,b4⟩:=rfl
theorem Ls:T 5=some ⟨5,2,b5⟩:=rfl
theorem YB:T 6=some ⟨1,1,b6⟩:=rfl
theorem YC:T 7=some ⟨4,1,b7⟩:=rfl
theorem YD:T 8=some ⟨4,1,b8⟩:=rfl
theorem Lw:T 9=some ⟨2,1,b9⟩:=rfl
noncomputable def ao:Nat->Nat->Bool:=λc e=>(let n:=λc=>if c<0 then c else 0;n e==0||n c==n e)
end cI
namespace cI
open PySem PySem.Spec PyProof.Rows L2 Mi
abbrev LK(i:Nat)(x:Str)(k:NameKind):Prop:=(aA (top i)).names.lookup x=some k
noncomputable abbrev gI:NameKind:=.globalImplicit
abbrev N1:List Str:=["most","limit","rings"]
abbrev N7:List Str:=["_law_most","_law_found","_law_d","_law_k"]
abbrev N8:List Str:=["_law_most","_law_due","_law_turn","_law_found"]
noncomputable def cl(K:W.Frag):Cl:=⟨dW (lk.L K),λ_=>[],λ_=>0,λ_=>[]⟩
structure Top(K:W.Frag)(mg:Str->Option Value):Prop where
 d0:D3 K mg "lowest_terms" (top 2) ["top","bottom"]
 d1:D3 K mg "plain_rings" (top 5) ["most"]
 d2:D3 K mg "is_plain" (top 6) ["k","d"]
 d3:D3 K mg "_law_cell" (top 8) ["_law_script","_law_k"]
 d4:D3 K mg "_law_pen" (top 9) ["_law_cell_here"]
 d5:D3 K mg "_law_draw" (top 10) ["_law_pen_here","_law_many"]
 d6:D3 K mg "_law_whole" (top 11) ["_law_thing"]
 d7:D3 K mg "_law_plain" (top 12) ["_law_most"]
 d8:D3 K mg "_law_right" (top 13) ["_law_most"]
 d9:D3 K mg "law" (top 14) ["_law_script"]
 dR:∃t,mg "MOST_SPOTS"=some (.int 24 t)
 gC:∃t,mg "SO_OFTEN"=some (.int 27720 t)
 Lx:mg "all"=none
 z8:mg "bool"=none
 z6:mg "divmod"=none
 z4:mg "int"=none
 z7:mg "isinstance"=none
 z3:mg "len"=none
 Ly:mg "list"=none
 z5:mg "max"=none
 z2:mg "min"=none
 z1:mg "range"=none
 z0:mg "sorted"=none
 z9:mg "tuple"=none
 lam:uR K mg (fdOf K "plain_rings" (top 5))
theorem YF{K:W.Frag}{h:Heap}{mg:Str->Option Value}(S:g_ fs ms xs lk K)(LH:gB K h)(X:K.In h)(G:h.Ns mainGlobals mg):Top K mg where
 d0:=BK S X G 0
 d1:=vU S X G 1
 d2:=BK S X G 2
 d3:=BK S X G 3
 d4:=vU S X G 4
 d5:=BK S X G 5
 d6:=vU S X G 6
 d7:=vU S X G 7
 d8:=vU S X G 8
 d9:=vU S X G 9
 dR:=KH (S.gd.it ("MOST_SPOTS",24) (mG 0)) X G
 gC:=KH (S.gd.it ("SO_OFTEN",27720) (mG 1)) X G
 Lx:=lY (S.gd.no "all" (mG 0)) X G
 z8:=lY (S.gd.no "bool" (mG 1)) X G
 z6:=lY (S.gd.no "divmod" (mG 2)) X G
 z4:=lY (S.gd.no "int" (mG 3)) X G
 z7:=lY (S.gd.no "isinstance" (mG 4)) X G
 z3:=lY (S.gd.no "len" (mG 5)) X G
 Ly:=lY (S.gd.no "list" (mG 6)) X G
 z5:=lY (S.gd.no "max" (mG 7)) X G
 z2:=lY (S.gd.no "min" (mG 8)) X G
 z1:=lY (S.gd.no "range" (mG 9)) X G
 z0:=lY (S.gd.no "sorted" (mG 10)) X G
 z9:=lY (S.gd.no "tuple" (mG 11)) X G
 lam:=LH.lk X G (top 5)
abbrev FO(P:Program)(w:World)(K:W.Frag)(mg:Str->Option Value)(base:Heap)(k:Nat)(c:Bool)(x:Str)(i:Nat)(ps:List Str)(n:Nat):Prop:=bY P w K mg base (eF P w) c k (cU K x) (fdOf K x (top i)) ps (lW K (cl K) (call ao T k c n))
structure Fs(P:Program)(w:World)(K:W.Frag)(mg:Str->Option Value)(base:Heap)(k:Nat):Prop where
 t0:FO P w K mg base k true "lowest_terms" 2 ["top","bottom"] 0
 t1:FO P w K mg base k true "plain_rings" 5 ["most"] 1
 t2:FO P w K mg base k true "is_plain" 6 ["k","d"] 2
 t3:FO P w K mg base k true "_law_cell" 8 ["_law_script","_law_k"] 3
 t4:FO P w K mg base k true "_law_pen" 9 ["_law_cell_here"] 4
 t5:FO P w K mg base k true "_law_draw" 10 ["_law_pen_here","_law_many"] 5
 t6:FO P w K mg base k true "_law_whole" 11 ["_law_thing"] 6
 t7:FO P w K mg base k true "_law_plain" 12 ["_law_most"] 7
 t8:FO P w K mg base k true "_law_right" 13 ["_law_most"] 8
 t9:FO P w K mg base k true "law" 14 ["_law_script"] 9
section
variable {P:Program}{w:World}{K:W.Frag}{mg:Str->Option Value}{base:Heap}{k:Nat}
theorem YG(Tp:Top K mg)(Fk:Fs P w K mg base k):Fs P w K mg base (k+1) where
 t0:=fJ Tp.d0 ["top","bottom","common","rest"] Yy λ_ _ _ _ _ _ hr=>(bV (KD 2 3 rfl rfl nd rfl rfl (by decide) jl jl (gv 0) (gv 1) rfl)
 (bV (VP zy (uy Vr (gv 3) bF) (bV (KD 2 3 rfl rfl nd rfl rfl (by decide) jl jl (gv 3) (cW rm (gv 2) (gv 3)) rfl)
 dO))
 (bV (ju (rz (bO (cW vO (gv 0) (gv 2)) (bO (cW vO (gv 1) (gv 2)) cX))))
 dO)))
 t1:=Yo Tp.d1 Tp.lam N1 T_1 λ_ _ _ _ _ _ hr hL=>(bV (uE 1 nd rfl jl rfl (Vz rfl Tp.z2 gk (bO (gv 0) (bO (Kq Tp.dR gk dk) cX))))
 (bV (Wa 2 (aA (top 5)) N1 ["k","d"] [] [] nd rfl jl rfl rfl rfl rfl (by decide +kernel) (by decide +kernel) (Bj 0) (Bj 1) (by decide +kernel) (Bt Tp.z1 gk bF (cW qb (gv 1) bF)) (λ_ _ _ _ _ _=>(Bu 0 (by decide +kernel) rfl (by decide +kernel))) (λ_ _ _ _ _ _=>(Bt Tp.z1 vV bF (cW qb (kj 0) bF))) (λ_ _ _ _ _ _=>(Bu 1 (by decide +kernel) rfl (by decide +kernel))) (λ_ _ _ _ _ _=>(Ky (uz (gc Fk.t2 Tp.d2 hr Gy vV (bO (kj 0) (bO (kj 1) cX)))))) (λ_ _ _ _ _ _=>(rz (bO (kj 0) (bO (kj 1) cX)))))
 (bV (ju (Yn "ring" hL hr rfl Tp.z0 gk (gv 2) (λ_ _ _ _=>(cW vO (cW ux (qd (gv 0) bF) (Kq Tp.gC gk dk)) (qd (gv 0) bF)))))
 dO)))
 t2:=fJ Tp.d2 ["k","d"] Yz λ_ _ _ _ _ _ hr=>(bV (ju (Bm (Bo (vP hr) (gc Fk.t0 Tp.d0 hr oM gk (bO (gv 0) (bO (gv 1) cX))) (rz (bO (gv 0) (bO (gv 1) cX)))) (Bl (Vo (Bo (vP hr) (gv 0) bF) (Bl (Bo Kr (gv 0) (cW ux bF (gv 1))))))))
 dO)
 t3:=fJ Tp.d3 ["_law_script","_law_k"] Lq λ_ _ _ _ _ _ hr=>(bV (uF (uy (Vq hr) (gv 1) (Vx Tp.z3 gk (bO (gv 0) cX))) (bV (ju (qd (gv 0) (gv 1)))
 dO) dO)
 (bV (ju bF)
 dO))
 t4:=fJ Tp.d4 ["_law_cell_here","_law_left"] Lr λ_ _ _ _ _ _ hr=>(bV (uE 1 nd rfl jl rfl (Vy rfl Tp.z5 gk (bO (gv 0) (bO (cW Vl bF (gv 0)) cX))))
 (bV (ju (Bp (bO (gv 1) (bO (VB Tp.z4 gk (bO (Bo Kr (gv 1) (cW Vm bF bF)) cX)) cX))))
 dO))
 t5:=fJ Tp.d5 ["_law_pen_here","_law_many","_law_left","_law_found","_law_stir"] Ls λ_ _ _ _ _ _ hr=>(bV (uF (uy (vP hr) (qd (gv 0) bF) bF) (bV (VJ 2 3 rfl rfl nd rfl rfl jl jl rfl rfl (VD Tp.z6 gk (bO (qd (gv 0) bF) (bO (gv 1) cX))))
 (bV (KC (gv 0) bF (gv 2))
 (bV (ju (gv 3))
 dO))) dO)
 (bV (uE 4 nd rfl jl rfl (cW rm (cW ux (cW qb (cW rm (qd (gv 0) bF) bF) bF) bF) bF))
 (bV (uE 4 nd rfl jl rfl (cW rm (cW qb (cW ux (gv 4) (gv 4)) bF) bF))
 (bV (KC (gv 0) bF (cW rm (cW qb (cW ux (gv 4) bF) bF) bF))
 (bV (ju (cW rm (cW vO (qd (gv 0) bF) bF) (gv 1)))
 dO)))))
 t6:=fJ Tp.d6 ["_law_thing"] YB λ_ _ _ _ _ _ hr=>(bV (ju (Bm (Br rfl Tp.z7 gk (gv 0) (Bq rfl Tp.z4 Vf gk dk)) (Bl (Vn (Br rfl Tp.z7 gk (gv 0) (Bq rfl Tp.z8 Vg gk dk))))))
 dO)
 t7:=fJ Tp.d7 N7 YC λ_ _ _ _ _ _ hr=>(bV (uE 1 nd rfl jl rfl (Bp (bO (rz (bO bF (bO (rz (bO bF (bO bF cX))) cX))) cX)))
 (bV (BJ zy rfl rfl (Bt Tp.z1 gk bF (cW qb (cW vO (gv 0) bF) bF)) (Bw 2 nd rfl jc rfl) (bV (BJ zy rfl rfl (Bt Tp.z1 gk (cW ux bF (gv 2)) (cW qb (gv 0) bF)) (Bw 3 nd rfl jc rfl) (bV (uF (uy (vP hr) (Gw (aA (top 12)) N7 ["_law_part"] ["_law_k","_law_d"] [3,2] rfl rfl rfl (by decide +kernel) (by decide +kernel) (Bj 0) (by decide +kernel) (Bs (rz (bO bF (bO bF (bO bF cX))))) (λ_ _ _ _ _ _=>(Bu 0 (by decide +kernel) rfl (by decide +kernel))) (λ_ _ _ _ _ _=>(Ky (Gu (Vu (uy (vP hr) (cW rm (kj 1) (kj 0)) bF) (Vt (uy (vP hr) (cW rm (kj 2) (kj 0)) bF)))))) (λ_ _ _ _ _ _=>(kj 0))) (Bp cX)) (bV (Kz (Kv (gv 1) (rz (bO (cW vO (cW ux bF (gv 3)) (gv 2)) (bO (rz (bO (gv 3) (bO (gv 2) cX))) cX)))))
 dO) dO)
 dO))
 dO))
 (bV (ju (Gw (aA (top 12)) N7 ["_law_length","_law_ring"] [] [] rfl rfl rfl (by decide +kernel) (by decide +kernel) (J_ 0 1) (by decide +kernel) (Bs (Wf Tp.z0 gk (bO (gv 1) cX))) (λ_ _ _ _ _ _=>(VH 0 1 rfl (by decide +kernel) rfl rfl (by decide +kernel) (by decide +kernel))) (λ_ _ _ _ _ _=>Kw) (λ_ _ _ _ _ _=>(kj 1))))
 dO)))
 t8:=fJ Tp.d8 N8 YD λ_ _ _ _ _ _ hr=>(bV (uE 1 nd rfl jl rfl (gc Fk.t7 Tp.d7 hr oM gk (bO (gv 0) cX)))
 (bV (BJ zy rfl rfl (VG Tp.z1 gk bF) (Bw 2 nd rfl jl rfl) (bV (uE 3 nd rfl jl rfl (gc Fk.t1 Tp.d1 hr oM gk (bO (gv 0) cX)))
 (bV (uF (Gu (Gs (vQ (uz (Br rfl Tp.z7 gk (gv 3) (Bq rfl Tp.Ly Vi gk dk)))) (Ks (uy (Vp hr) (gv 3) (gv 1))))) (bV (ju vN)
 dO) dO)
 (bV (uF (vQ (uz (VF rfl Tp.Lx gk (bO (Gw (aA (top 13)) N8 ["_law_ring"] [] [] rfl rfl rfl (by decide +kernel) (by decide +kernel) (Bj 0) (by decide +kernel) (Bs (gv 3)) (λ_ _ _ _ _ _=>(Bu 0 (by decide +kernel) rfl (by decide +kernel))) (λ_ _ _ _ _ _=>Kw) (λ_ _ _ _ _ _=>(Bm (Br rfl Tp.z7 vV (kj 0) (Bq rfl Tp.z9 Vh vV dk)) (Bm (gc Fk.t6 Tp.d6 hr Gy vV (bO (qd (kj 0) bF) cX)) (Bl (gc Fk.t6 Tp.d6 hr Gy vV (bO (qd (kj 0) bF) cX))))))) cX)))) (bV (ju vN)
 dO) dO)
 (bV (Kz (Kv (gv 3) Vk))
 dO)))))
 (bV (ju vN)
 dO)))
 t9:=fJ Tp.d9 ["_law_script","_law_cell_here"] Lw λ_ _ _ _ _ _ hr=>(bV (uF (Gu (Gs (vQ (uz (gc Fk.t8 Tp.d8 hr oM gk (bO bF cX)))) (Gs (vQ (uz (gc Fk.t8 Tp.d8 hr oM gk (bO bF cX)))) (Ks (vQ (uz (gc Fk.t8 Tp.d8 hr oM gk (bO bF cX)))))))) (bV (ju vN)
 dO) dO)
 (bV (BJ zy rfl rfl (Bs (cW qb (Bp (bO (gc Fk.t3 Tp.d3 hr oM gk (bO (gv 0) (bO bF cX))) cX)) (Vv (gv 0) (Ku bF) (Ku bF)))) (Bw 1 nd rfl jl rfl) (bV (uF (vQ (uz (gc Fk.t8 Tp.d8 hr oM gk (bO (cW qb bF (gc Fk.t5 Tp.d5 hr oM gk (bO (gc Fk.t4 Tp.d4 hr oM gk (bO (gv 1) cX)) (bO bF cX)))) cX)))) (bV (ju vN)
 dO) dO)
 dO))
 (bV (ju vN)
 dO)))
theorem Lz(Tp:Top K mg):∀k,Fs P w K mg base k
 |0=>⟨oJ,oJ,oJ,oJ,oJ,oJ,oJ,oJ,oJ,oJ⟩
 |k+1=>YG Tp (Lz Tp k)
end
theorem all_mk{l:PySem.W.OpenLaw}{w:World}{K:W.Frag}{h:Heap}{mg:Str->Option Value}{fa:Addr}(hm:∀ns:List Int,ns.length<=63->∃s',call ao T 60 true 9 [.d (.fl (ns.map D.int))] []=some (.ok (.d (.bl true)),s'))
  (S:g_ fs ms xs lk K) (LH:gB K h) (X:K.In h) (G:h.Ns mainGlobals mg) (uQ:mg "law"=some (.ref fa)) :
  ∃fd:FuncData,(∀(s:Shared) (u:Value),BindsTo s fd ⟨[u],[]⟩ [("_law_script",u)])/\∀base:Heap,K.In base->base.Ns mainGlobals mg->bY l.prog w K mg base (eF l.prog w) true 60 fa fd ["_law_script"] (nA K):=by
 have Tp:Top K mg:=YF S LH X G;have e:=uQ.symm.trans Tp.d9.m;cases e;exact⟨_,uG Tp.d9.f (λ_ _ _ _ _ _ _=>rfl),λbase _ _=>(Lz Tp 60).t9.imp (Ve hm)⟩
end cI
namespace cI
open PySem Mi
def Hf(o:SO):Prop:=∃a b:Int,o=.lst [.int a,.int b]/\0<=a/\(b=0\/b=1)
theorem YH{k:Nat}{o:SO}{m:Int}(ho:Hf o)(hm:0<m)(Y0:m<1073741824):W (call ao T (k+1) true 5 [.l 0,.d (.int m)]) [o] λv s=>∃d o',v=.d d/\s=[o']/\(∃r:Int,d=.int r/\0<=r/\r<m)/\Hf o':=by
 obtain⟨a,b,rfl,ha,hb⟩:=ho;refine W.call Ls rfl ?_;unfold b5;rcases hb with rfl|rfl
 ·refine Y ?_;exact⟨_,_,rfl,rfl,⟨_,rfl,Int.emod_nonneg _ (by lia),Int.emod_lt_of_pos _ hm⟩,⟨_,_,rfl,Int.emod_nonneg _ (by decide),.inl rfl⟩⟩
 ·refine Y ?_;exact⟨_,_,rfl,rfl,⟨_,rfl,Int.emod_nonneg _ (by lia),Int.emod_lt_of_pos _ hm⟩,⟨_,_,rfl,Int.ediv_nonneg ha (by lia),.inr rfl⟩⟩
theorem YJ{k:Nat}{n:Int}:W (call ao T (k+1) true 4 [.d (.int n)]) [] λv s=>∃i o,v=.l i/\s[i]?=some o/\Hf o:=by
 refine W.call Lr rfl ?_;unfold b4;refine Y ?_;refine⟨0,_,rfl,rfl,⟨_,_,rfl,?_,?_⟩⟩
 ·split<;>lia
 ·have:∀c:Bool,(if c=true then (1:Int) else 0)=0\/(if c=true then (1:Int) else 0)=1:=by intro c;cases c<;>simp
  exact this _
theorem YK{k:Nat}{ns:List Int}:W (call ao T (k+1) true 3 [.d (.fl (ns.map D.int)),.d (.int 0)]) [] λv _=>∃n,v=.d (.int n):=by
 refine W.call Lq rfl ?_;unfold b3;cases ns with
 |nil=>
  refine Y ?_;exact⟨_,rfl⟩
 |cons n r=>
  refine Y ?_;refine WS.ite (λ_=>?_) (λ_=>?_)
  ·refine Y ?_;refine K1 (WM (i:=0) (x:=.int n) rfl) ?_;refine Y ?_;exact⟨_,rfl⟩
  ·refine Y ?_;exact⟨_,rfl⟩
theorem c0{F:List Xv->M Xv}{xs:List Xv}{s:S}{e:D}{P:Xv->S->Prop}(h:W (F (cD 0 xs)) [] λv _=>v=.d e)(k:P (.d e) s)(hl:locs xs=[]:=by rfl):W (bU F xs) s P:=K4 hl (h.imp λ_ _ q=>⟨e,q,k⟩)
noncomputable def LC(m:Int):Bool:=match call ao T 59 true 8 [.d (.int m)] [] with
 |some (.ok (.d (.bl true)),_)=>true
 |_=>false
theorem YL:(([1,2,3,4,5,6,7,8,9,10,11,12]:List Int).all LC)=true:=by
 kernel_rfl
theorem BR{m:Int}(h:m∈([1,2,3,4,5,6,7,8,9,10,11,12]:List Int)):W (call ao T 59 true 8 [.d (.int m)]) [] λv s=>v=.d (.bl true):=by
 have:=mj.mp YL m h;unfold LC at this;split at this
 ·rename_i s' e;exact⟨_,_,e,rfl⟩
 ·cases this
theorem nU(ns:List Int)(hn:ns.length<=63):∃s',call ao T 60 true 9 [.d (.fl (ns.map D.int))] []=some (.ok (.d (.bl true)),s'):=by
 suffices h:W (call ao T 60 true 9 [.d (.fl (ns.map D.int))]) [] λv _=>v=.d (.bl true) by
  obtain⟨v,s',e,rfl⟩:=h;exact⟨s',e⟩
 have hs:(1000:Nat)<=sizeLine:=by decide
 refine W.call (k:=59) Lw rfl ?_;unfold b9;refine Y ?_;refine c0 (BR (m:=1) (by decide)) ?_;refine Y ?_;refine c0 (BR (m:=2) (by decide)) ?_;refine Y ?_;refine c0 (BR (m:=5) (by decide)) ?_;refine Y ?_;refine K4 rfl ((YK (k:=58)).imp λv _=>?_);rintro⟨n0,rfl⟩;refine⟨_,rfl,?_⟩;refine Y ?_;refine K3 (WQ ?_) ?_
 ·have:=XR (ns:=ns) (lo:=some 1) (hi:=some 5);show 1+_<=_
  lia
 refine Y ?_;refine Ww (λ_ J s=>∃(a:Option Xv),J=[some (.d (.fl (ns.map D.int))),a]) ⟨_,rfl⟩ (λi x J s hx uW=>?_) (λJ s uW=>?_)
 ·obtain⟨m,rfl⟩ : ∃m,x=.int m:=by
   rcases jz.mp (iR hx) with z|z
   ·rcases jq.mp z with rfl|z
    ·exact⟨_,rfl⟩
    ·cases z
   ·exact XQ z
  obtain⟨a,rfl⟩:=uW;refine Y ?_;refine Wu rfl ((YJ (k:=58)).imp λv s1=>?_);rintro⟨j,o,rfl,hj,hp⟩;refine⟨j,o,rfl,hj,?_⟩;refine Y ?_;refine XM rfl ((YH (k:=58) hp (m:=12) (by lia) (by lia)).imp λv s1=>?_);rintro⟨_,o1,rfl,rfl,⟨r,rfl,Y4,Y5⟩,hp⟩;refine⟨_,_,rfl,rfl,?_⟩;refine Y ?_;refine c0 (BR (m:=1+r) (by simp;lia)) ?_;refine Y ?_;exact⟨_,rfl,_,rfl⟩
 ·obtain⟨a,rfl⟩:=uW;exact Y trivial
end cI
open PySem PySem.W PyProof.Rows
set_option maxRecDepth 100000 in
set_option maxHeartbeats 0 in
theorem PySem.Challenge.cw_ringhues_k16_plain_rings_holds : PySem.Challenge.rw_ringhues_k16_plain_rings.Holds := by
 refine PySem.W.holds_law cI.ws λsaid=>?_;refine holds_open (q:=cI.qv) (loose:=cI.loose) (Xt:=λs=>xlAt cI.qv [] s&&recOk [] s) (XP:=XL cI.qv []) (Yf:=(Mi.eO cI.fs cI.ms cI.xs cI.lk).obs) (Ya:=(Mi.eO cI.fs cI.ms cI.xs cI.lk).val) (YP:=(Mi.eO cI.fs cI.ms cI.xs cI.lk).says) (N:=20000) cI.left (Mi.eO cI.fs cI.ms cI.xs cI.lk).of (Mi.eO cI.fs cI.ms cI.xs cI.lk).keeps (λs e=>xl_of s (Bool.and_eq_true_iff.mp e).1) XL.keeps (by rfl) (by rfl) (by rfl) (λs e=>recFacts_of (Bool.and_eq_true_iff.mp e).2) (by rfl) (by first|assumption|decide +kernel) (by decide +kernel) ⟨rfl,rfl,rfl,rfl,rfl,by decide +kernel⟩ ?hw ?hc
 case hw=>w_witness2
 case hc=>exact Mi.uV (l:=PySem.Challenge.rw_ringhues_k16_plain_rings) (x:="_law_script") (k:=60) rfl rfl ⟨by decide,by decide,rfl⟩ (λw K mg fa h S LH X G uQ=>cI.all_mk cI.nU S LH X G uQ)
