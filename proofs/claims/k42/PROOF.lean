import PyProof.Rows.All
import Wide.All
import OpenK.AllK
import Wide.FinOn
import Lean
import PyProof.EqAt
import PyProof.EqKinds
import PyProof.TupleCall
import KE.KSortTup
import OpenK.KMake
import PyProof.ExcClass3
import PyProof.InstStoreFacts
import PyProof.ExcInit
import PyProof.EnumMake
import PyProof.EnumFor
import PyProof.WalksEnum
import PySem.Challenge.RW_ringhues_k42_plain_hues_by_anybody
import PyProof.ZipIter
import PyProof.TupleIter
import PyProof.NeKinds
import PyProof.ListRange
import OpenK.KWalk
set_option Elab.async false
set_option linter.all false
set_option maxRecDepth 100000
set_option maxHeartbeats 400000
namespace L2
open PySem PySem.Spec PyProof.Rows PySem.W
noncomputable def subIn (K:PySem.W.Frag) (C D:Addr):Bool:=PySem.W.ktsIn K C "BaseException" && PySem.W.ktsIn K D "BaseException" && match K.lookup C with
 | some ⟨_,_,.cls cd,_⟩=>cd.mro.contains (.ref D)
 | _=>false
noncomputable def vErr:List Value:=[.type "ValueError",.type "Exception",.type "BaseException",.type "object"]
noncomputable def passM:List Value->Bool
 | .ref _::r=>passM r
 | l=>l == vErr
noncomputable def excInI (K:Frag) (C fI:Addr):Bool:=match K.lookup C with
 | some ⟨.type "type",_,.cls cd,sl⟩=>(match cd.mro,sl.toList with
  | .ref C'::bm,[_,_,_,_,some (.builtin n),_]=>C' == C && n == "ValueError.__new__" && !cd.hasDel && tailIn K vErr bm && nsOkIn K cd.ns && nsIn K cd.ns "__init__" == some (some (.ref fI))
  | _,_=>false)
 | _=>false
noncomputable def defArgs (s:Stmt):Arguments:=match s with
 | .FunctionDef _ a _ _ _ _ _ _ _ _=>a
 | _=>{ posonlyargs:=[],args:=[],vararg:=none,kwonlyargs:=[],kw_defaults:=[],kwarg:=none,defaults:=[] }
noncomputable def defBody (s:Stmt):List Stmt:=match s with
 | .FunctionDef _ _ b _ _ _ _ _ _ _=>b
 | _=>[]
noncomputable def defScope (s:Stmt):Scope:=match s with
 | .FunctionDef _ _ _ _ _ _ sc _ _ _=>sc
 | _=>{ kind:=.function,names:=[],isGenerator:=false,isCoroutine:=false }
end L2
namespace Mi
open PySem PySem.Spec PyProof.Rows L2 PySem.W
noncomputable def nmN (n c:Nat):Nat:=if c < n then c else 0
noncomputable def subN (n c e:Nat):Bool:=nmN n e == 0 || nmN n c == nmN n e
noncomputable def cAof (L:List Addr) (c:Nat):Addr:=L.getD (nmN L.length c) 0
noncomputable def xcB (K:PySem.W.Frag) (C:Addr):Bool:=
 PySem.W.findIn K (.ref C) "__getattribute__" == some (some (.builtin "BaseException.__getattribute__")) && PySem.W.findIn K (.ref C) "__getattr__" == some none && PySem.W.findIn K (.ref C) "__class__" == some (some (.builtin "object.__class__")) &&
 PySem.W.mroIn K C (.type "BaseException") == some true && PySem.W.mroIn K C (.type "object") == some true && (PySem.W.clsIn K C).isSome &&
 PySem.W.specialIn K (.builtin "object.__class__") "__get__" == some (some (.builtin "getset_descriptor.__get__")) && PySem.W.takesIn K (.builtin "object.__class__") == some true
noncomputable def clssB (K:PySem.W.Frag) (L:List Addr):Bool:=(List.range L.length).all fun c=>xcB K (L.getD c 0) && PySem.W.kitOne K (.ref (L.getD c 0)) (.type "ValueError") == some true &&
 (List.range L.length).all fun e=>PySem.W.kitOne K (.ref (L.getD c 0)) (.ref (L.getD e 0)) == some (subN L.length c e)
noncomputable def subB (K:PySem.W.Frag) (L:List Addr) (d:Nat):Bool:=(List.range L.length).all fun c=>!(subN L.length c d) || L2.subIn K (L.getD c 0) (cAof L d)
noncomputable def ers (fd:FuncData):FuncData:={ fd with kwdefaults:=.none,doc:=.none,pyModule:=.none,annotations:=none,code:=.none,closureTuple:=.none }
noncomputable def fnE (x:Str) (st:Stmt):FuncData:=fnOf x x (defArgs st) (defBody st) (defScope st) .none .none .none .none none .none .none
noncomputable def fAt (K:Frag) (x:Str):Option (Addr × FuncData):=match nsIn K mainGlobals x with
 | some (some (.ref f))=>(match K.lookup f with
  | some ⟨_,_,.func fd,_⟩=>(match codeIn K fd.code x && keepIn K (.ref f) with
   | true=>some (f,fd)
   | false=>none)
  | _=>none)
 | _=>none
noncomputable def clAt (K:Frag) (x:Str):Addr:=match nsIn K mainGlobals x with
 | some (some (.ref C))=>C
 | _=>0
noncomputable def isCl (K:Frag) (x:Str):Bool:=match nsIn K mainGlobals x with
 | some (some (.ref _))=>true
 | _=>false
noncomputable def isIntG (K:Frag) (p:Str × Int):Bool:=match nsIn K mainGlobals p.1 with
 | some (some (.int i _))=>decide (i = p.2)
 | _=>false
noncomputable def isNoG (K:Frag) (x:Str):Bool:=match nsIn K mainGlobals x with
 | some none=>true
 | _=>false
noncomputable def excB (K:Frag) (C:Addr):Bool:=excIn K C [.type "ValueError",.type "Exception",.type "BaseException",.type "object"] "ValueError.__new__"
structure Lk where
 kcl:List Str
 kin:List (Str × Int)
 kno:List Str
 kra:List Nat
 kca:List Nat
noncomputable def Lk.L (l:Lk) (K:Frag):List Addr:=l.kcl.map (clAt K)
noncomputable def Lk.good (l:Lk) (K:Frag):Bool:=
 l.kcl.all (isCl K) && (l.kcl.isEmpty || clssB K (l.L K)) && l.kra.all (fun k=>excB K (cAof (l.L K) k)) && l.kca.all (fun k=>subB K (l.L K) k) && l.kin.all (isIntG K) && l.kno.all (isNoG K)
noncomputable def fragL (h:Heap):List Addr->Frag
 | []=>[]
 | a::r=>match h.get? a with
  | some o=>(a,o)::fragL h r
  | none=>fragL h r
noncomputable def clsBody (s:Stmt):List Stmt:=match s with
 | .ClassDef _ _ _ b _ _ _ _ _ _ _=>b
 | _=>[]
noncomputable def fnI (q:Str) (st:Stmt):FuncData:=fnOf "__init__" q (defArgs st) (defBody st) (defScope st) .none .none .none .none none .none .none
noncomputable def mAt (K:Frag) (C:Addr):Option FuncData:=match clsIn K C with
 | some cd=>(match nsIn K cd.ns "__init__" with
  | some (some (.ref f))=>(match K.lookup f with
   | some ⟨.type "function",_,.func fd,_⟩=>(match codeIn K fd.code fd.qualname && excInI K C f && passM cd.mro && cd.hasDict with
    | true=>some fd
    | false=>none)
   | _=>none)
  | _=>none)
 | none=>none
noncomputable def setB (K:Frag) (C:Addr) (fs:List Str):Bool:=findIn K (.ref C) "__setattr__" == some (some (.builtin "object.__setattr__")) && fs.all (fun f=>findIn K (.ref C) f == some none)
noncomputable def xfB (K:Frag) (C:Addr) (f:Str):Bool:=findIn K (.ref C) "__getattribute__" == some (some (.builtin "BaseException.__getattribute__")) && findIn K (.ref C) "__getattr__" == some none && mroIn K C (.type "BaseException") == some true && findIn K (.ref C) f == some none && hasDictIn K C
structure Ini where
 c:Nat
 q:Str
 st:Stmt
 fs:List Str
noncomputable def goA:Nat->List Obj->Frag
 | _,[]=>[]
 | i,o::r=>match o.isFreed with
  | true=>goA (i + 1) r
  | false=>(i,o)::goA (i + 1) r
noncomputable def fragA (h:Heap):Frag:=fragL h [mainGlobals] ++ (goA 0 h.objs.toList).reverse
noncomputable def obsI (fs:List (Str × Stmt)) (ms:List Ini) (xs:List (Nat × Str)) (l:Lk) (s:Shared):List (Option FuncData) × List (Option FuncData) × Bool:=
 (fs.map (fun p=>(fAt (fragA s.heap) p.1).map (fun q=>ers q.2)),ms.map (fun m=>(mAt (fragA s.heap) (cAof (l.L (fragA s.heap)) m.c)).map ers),
  l.good (fragA s.heap) && ms.all (fun m=>setB (fragA s.heap) (cAof (l.L (fragA s.heap)) m.c) m.fs) && xs.all (fun x=>xfB (fragA s.heap) (cAof (l.L (fragA s.heap)) x.1) x.2))
noncomputable def valI (fs:List (Str × Stmt)) (ms:List Ini) (w:World):List (Option FuncData) × List (Option FuncData) × Bool:=(fs.map (fun p=>some (fnE p.1 p.2)),ms.map (fun m=>some (fnI m.q m.st)),true)
noncomputable def obF (fs:List (Str × Stmt)) (s:Shared):List (Option FuncData):=fs.map (fun p=>(fAt (fragA s.heap) p.1).map (fun q=>ers q.2))
noncomputable def obM (ms:List Ini) (xs:List (Nat × Str)) (l:Lk) (s:Shared):List (Option FuncData) × Bool:=(ms.map (fun m=>(mAt (fragA s.heap) (cAof (l.L (fragA s.heap)) m.c)).map ers),
  l.good (fragA s.heap) && ms.all (fun m=>setB (fragA s.heap) (cAof (l.L (fragA s.heap)) m.c) m.fs) && xs.all (fun x=>xfB (fragA s.heap) (cAof (l.L (fragA s.heap)) x.1) x.2))
theorem zfO {p q:Program} {loose:List Str} {Xt:Shared->Bool} {N:Nat} {fs1 fs2:List (Str × Stmt)} {ms:List Ini} {xs:List (Nat × Str)} {l:Lk}
  (a:∀ w,(openEnds treeTable p w N).map (fun s=>openSeen q loose (importedModules p.main.body) Xt true s) = some (openGood q loose))
  (b1:∀ w,(openEnds treeTable p w N).map (obF fs1) = some (fs1.map fun p=>some (fnE p.1 p.2)))
  (b2:∀ w,(openEnds treeTable p w N).map (obF fs2) = some (fs2.map fun p=>some (fnE p.1 p.2)))
  (c:∀ w,(openEnds treeTable p w N).map (obM ms xs l) = some (ms.map (fun m=>some (fnI m.q m.st)),true)):LeftO p q loose Xt (obsI (fs1 ++ fs2) ms xs l) (valI (fs1 ++ fs2) ms) N:=by
 intro w
 have a:=a w
 have b1:=b1 w
 have b2:=b2 w
 have c:=c w
 cases e:openEnds treeTable p w N with
 | none=>rw [e] at a; cases a
 | some s=>
  rw [e] at a b1 b2 c
  have a:openSeen q loose (importedModules p.main.body) Xt true s = openGood q loose:=Option.some.inj a
  have b1:=Option.some.inj b1
  have b2:=Option.some.inj b2
  have c:=Option.some.inj c
  have c1:=congrArg Prod.fst c
  have c2:=congrArg Prod.snd c
  show some (_,obsI (fs1 ++ fs2) ms xs l s) = _
  rw [a]
  have:obsI (fs1 ++ fs2) ms xs l s = valI (fs1 ++ fs2) ms w:=by
   unfold obsI valI
   rw [List.map_append,List.map_append]
   have b1:List.map _ fs1 = List.map _ fs1:=b1
   have b2:List.map _ fs2 = List.map _ fs2:=b2
   rw [b1,b2]
   exact Prod.ext rfl (Prod.ext c1 c2)
  rw [this]
end Mi
set_option Elab.async false
set_option linter.all false
set_option maxRecDepth 100000
set_option maxHeartbeats 0
namespace G42
open PySem PySem.Spec PyProof.Rows PySem.W L2 Mi
noncomputable def top (i:Nat):Stmt:=PySem.Challenge.pw_ringhues_k42_plain_hues_by_anybody.main.body.getD i (.Pass ⟨0,0,0,0⟩)
noncomputable def fs1:List (Str × Stmt):=(("is_whole" : Str),top 4)::(("is_within" : Str),top 5)::(("is_row" : Str),top 6)::(("is_web" : Str),top 9)::(("is_many" : Str),top 10)::(("is_place" : Str),top 11)::(("is_tie" : Str),top 12)::(("check_web" : Str),top 13)::(("plain_hold" : Str),top 15)::(("_law_cell" : Str),top 17)::(("_law_pen" : Str),top 18)::[]
noncomputable def fs2:List (Str × Stmt):=(("_law_draw" : Str),top 19)::(("_law_whole" : Str),top 20)::(("_law_odd" : Str),top 21)::(("_law_size" : Str),top 22)::(("_law_web" : Str),top 23)::(("_law_plain" : Str),top 24)::(("_law_plain_first" : Str),top 25)::(("_law_some_plain" : Str),top 26)::(("_law_bent_row" : Str),top 27)::(("_law_right" : Str),top 28)::(("law" : Str),top 29)::[]
noncomputable abbrev fs:List (Str × Stmt):=fs1 ++ fs2
noncomputable def lk:Lk:=⟨["HueError","NoWeb"],[("MOST_PLACES",8)],["all","bool","divmod","int","isinstance","len","list","max","min","range","repr","tuple","zip"],[],[]⟩
noncomputable def ini1:Stmt:=(clsBody (top 2)).getD 0 (.Pass ⟨0,0,0,0⟩)
noncomputable def ms:List Ini:=[⟨1,"NoWeb.__init__",ini1,["at"]⟩]
noncomputable def xs:List (Nat × Str):=[]
noncomputable abbrev pv:Program:=PySem.Challenge.pw_ringhues_k42_plain_hues_by_anybody
noncomputable def qv:Program:={ pv with main:={ pv.main with body:=[pv.main.body.getD 29 (.Pass ⟨0,0,0,0⟩)] } }
noncomputable def loose:List Str:=(["HueError","NoWeb","is_whole","is_within","is_row","MOST_PLACES","is_web","is_many","is_place","is_tie","check_web","plain_hold","_law_cell","_law_pen","_law_draw","_law_whole","_law_odd","_law_size","_law_web","_law_plain","_law_plain_first","_law_some_plain","_law_bent_row","_law_right"]:List String).map Str.ofString
theorem zlb (w:World):(openEnds treeTable pv w 20000).map (fun s=>openSeen qv loose (importedModules pv.main.body) (fun s=>xlAt qv [] s && recOk [] s) true s) = some (openGood qv loose):=by
 kernel_rfl
theorem zlq (w:World):(openEnds treeTable pv w 20000).map (obF fs1) = some (fs1.map fun p=>some (fnE p.1 p.2)):=by
 kernel_rfl
theorem zlA (w:World):(openEnds treeTable pv w 20000).map (obF fs2) = some (fs2.map fun p=>some (fnE p.1 p.2)):=by
 kernel_rfl
theorem zkP (w:World):(openEnds treeTable pv w 20000).map (obM ms xs lk) = some (ms.map (fun m=>some (fnI m.q m.st)),true):=by
 kernel_rfl
theorem left:LeftO pv qv loose (fun s=>xlAt qv [] s && recOk [] s) (obsI fs ms xs lk) (valI fs ms) 20000:=zfO zlb zlq zlA zkP
end G42
set_option Elab.async false
set_option linter.all false
set_option maxRecDepth 100000
namespace L2
open PySem PySem.Spec PyProof.Rows
noncomputable abbrev Key:=Sum Int Str
noncomputable def keyIs:Key->Value->Bool
 | .inl k,v=>Value.isInt k v
 | .inr x,v=>Value.isStrOf x v
noncomputable def keyH (w:World):Key->Int
 | .inl k=>hashInt k
 | .inr x=>hashStr w x
theorem zav:∀ {k:Key} {v:Value},keyIs k v = true->(∃ i t,k = Sum.inl i/\v = Value.int i t)\/(∃ x t,k = Sum.inr x/\v = Value.str x t)
 | .inl i,v,h=>by
  obtain ⟨t,e⟩:=Value.isInt_shape (k:=i) (v:=v) h
  exact .inl ⟨i,t,rfl,e⟩
 | .inr x,v,h=>by
  obtain ⟨t,e⟩:=Value.isStrOf_shape (x:=x) (v:=v) h
  exact .inr ⟨x,t,rfl,e⟩
theorem zhv (i:Int) (t:Tok):keyIs (.inl i) (.int i t) = true:=by simp [keyIs,Value.isInt]
theorem zho (x:Str) (t:Tok):keyIs (.inr x) (.str x t) = true:=by simp [keyIs,Value.isStrOf]
theorem zkL (a b:Int):decide ((Sum.inl a:Key) = Sum.inl b) = (a == b):=by
 by_cases e:a = b
 ·subst e; simp
 ·have h:¬ (Sum.inl a:Key) = Sum.inl b:=fun q=>e (Sum.inl.inj q)
  rw [decide_eq_false h]
  exact (beq_eq_false_iff_ne.mpr e).symm
theorem zkK (a b:Str):decide ((Sum.inr a:Key) = Sum.inr b) = decide (a = b):=by
 by_cases e:a = b
 ·subst e; simp
 ·have h:¬ (Sum.inr a:Key) = Sum.inr b:=fun q=>e (Sum.inr.inj q)
  rw [decide_eq_false h,decide_eq_false e]
theorem zkQ (a:Int) (b:Str):decide ((Sum.inl a:Key) = Sum.inr b) = false:=decide_eq_false (fun q=>nomatch q)
theorem zlr (a:Str) (b:Int):decide ((Sum.inr a:Key) = Sum.inl b) = false:=decide_eq_false (fun q=>nomatch q)
noncomputable def mixKind (prog:Program) (w:World):PySem.KeyKind prog w Key where
 is:=keyIs
 hash:=keyH w
 inj:=fun v a b ha hb=>by
  rcases zav ha with ⟨i,t,rfl,rfl⟩ | ⟨x,t,rfl,rfl⟩
  ·rcases zav hb with ⟨j,u,rfl,e⟩ | ⟨y,u,rfl,e⟩
   ·injection e with e1 _; rw [e1]
   ·exact nomatch e
  ·rcases zav hb with ⟨j,u,rfl,e⟩ | ⟨y,u,rfl,e⟩
   ·exact nomatch e
   ·injection e with e1 _; rw [e1]
 byValue:=fun k v h=>by
  rcases zav h with ⟨i,t,rfl,rfl⟩ | ⟨x,t,rfl,rfl⟩ <;> rfl
 pyHash:=fun hv h=>by
  rcases zav hv with ⟨i,t,rfl,rfl⟩ | ⟨x,t,rfl,rfl⟩
  ·exact wpAny_pyHash_int h
  ·exact wpAny_pyHash_str h
 eqBool:=fun hu hv h=>by
  rcases zav hu with ⟨i,t,rfl,rfl⟩ | ⟨x,t,rfl,rfl⟩
  ·rcases zav hv with ⟨j,u,rfl,rfl⟩ | ⟨y,u,rfl,rfl⟩
   ·rw [zkL] at h; exact wpAny_eqBool_int h
   ·rw [zkQ] at h; exact SeqAt.EqAt.int_str i t y u _ _ _ _ h
  ·rcases zav hv with ⟨j,u,rfl,rfl⟩ | ⟨y,u,rfl,rfl⟩
   ·rw [zlr] at h; exact SeqAt.EqAt.str_int x t j u _ _ _ _ h
   ·rw [zkK] at h; exact wpAny_eqBool_str h
 «strs»:=fun k x t v h=>by
  rcases zav h with ⟨i,u,rfl,e⟩ | ⟨y,u,rfl,e⟩
  ·exact nomatch e
  ·injection e with e1 _
   subst e1
   cases v <;> rfl
theorem ze6 (prog:Program) (w:World) (i:Int) (t:Tok):(mixKind prog w).is (.inl i) (.int i t) = true:=zhv i t
theorem zeY (prog:Program) (w:World) (x:Str) (t:Tok):(mixKind prog w).is (.inr x) (.str x t) = true:=zho x t
end L2
namespace L2
open PySem PySem.Spec PyProof.Rows
inductive V where
 | non | bl (b:Bool) | int (i:Int) | str (x:Str) | byt (b:Array UInt8) | flt (b:UInt64) | ref (a:Addr) | ty (n:String)
 deriving DecidableEq
noncomputable def RelV:V->Value->Prop
 | .non,u=>u = Value.none
 | .bl b,u=>u = Value.bool b
 | .int i,u=>∃ t,u = Value.int i t
 | .str x,u=>∃ t,u = Value.str x t
 | .byt b,u=>∃ t,u = Value.bytes b t
 | .flt b,u=>∃ t,u = Value.float b t
 | .ref a,u=>u = Value.ref a
 | .ty n,u=>u = Value.type n
noncomputable abbrev Vals:List V->List Value->Prop:=Paired RelV
theorem Vals.length {xs:List V} {us:List Value} (r:Vals xs us):xs.length = us.length:=Paired.length r
theorem Vals.get:∀ {xs:List V} {us:List Value} {i:Nat} {x:V},Vals xs us->xs[i]? = some x->∃ u,us[i]? = some u/\RelV x u
 | _,_,_,_,.nil,e=>by simp at e
 | _,_,0,_,.cons r _,e=>by simp at e; subst e; exact ⟨_,rfl,r⟩
 | _,_,i + 1,x,.cons _ t,e=>by
  obtain ⟨u,h1,h2⟩:=Vals.get (i:=i) (x:=x) t (by simpa using e)
  exact ⟨u,by simpa using h1,h2⟩
theorem Vals.set {x:V} {u:Value} (r:RelV x u):∀ {xs:List V} {us:List Value} (i:Nat),Vals xs us->Vals (xs.set i x) (us.set i u)
 | _,_,_,.nil=>.nil
 | _,_,0,.cons _ t=>.cons r t
 | _,_,i + 1,.cons q t=>.cons q (Vals.set r i t)
theorem Vals.append:∀ {xs ys:List V} {us ws:List Value},Vals xs us->Vals ys ws->Vals (xs ++ ys) (us ++ ws)
 | _,_,_,_,.nil,s=>s
 | _,_,_,_,.cons r t,s=>.cons r (Vals.append t s)
theorem Vals.take:∀ {xs:List V} {us:List Value} (n:Nat),Vals xs us->Vals (xs.take n) (us.take n)
 | _,_,0,_=>.nil
 | _,_,_ + 1,.nil=>.nil
 | _,_,n + 1,.cons r t=>.cons r (Vals.take n t)
theorem Vals.drop:∀ {xs:List V} {us:List Value} (n:Nat),Vals xs us->Vals (xs.drop n) (us.drop n)
 | _,_,0,r=>r
 | _,_,_ + 1,.nil=>.nil
 | _,_,n + 1,.cons _ t=>Vals.drop n t
noncomputable def RelO:Option V->Option Value->Prop
 | some v,some u=>RelV v u
 | none,none=>True
 | _,_=>False
noncomputable def KV {κ:Type}:List (κ × V)->List (κ × Value)->Prop:=Paired fun (p:κ × V) (q:κ × Value)=>p.1 = q.1/\RelV p.2 q.2
noncomputable def kV:Key->V
 | .inl i=>.int i
 | .inr x=>.str x
inductive HO where
 | lst (xs:List V)
 | tup (xs:List V)
 | dK (kvs:List (Key × V)) | dT (kvs:List (List Key × V))
 | set (S:Int->Bool) (n:Nat)
 | ins (C dx:Addr) (fs:List (Str × V))
 | own (x:Addr)
 | xd (fs:List (Str × V))
 | met (f x:Addr)
 | rng (lo hi:Int)
 | frz (o:Obj) (u:HO)
 | tbl (ps:Array Value)
 | ext (φ:Heap->Prop)
noncomputable abbrev Hp:=Addr->Option HO
noncomputable def upd (H:Hp) (a:Addr) (o:HO):Hp:=fun b=>if b = a then some o else H b
theorem zas {H:Hp} {a:Addr} {o:HO}:upd H a o a = some o:=by unfold upd; rw [if_pos rfl]
theorem zap {H:Hp} {a b:Addr} {o:HO} (h:b ≠ a):upd H a o b = H b:=by unfold upd; rw [if_neg h]
theorem zhh {H:Hp} {a:Addr} {o u:HO}:upd (upd H a o) a u = upd H a u:=by
 funext b; unfold upd; split <;> rfl
theorem zaS {H:Hp} {a b:Addr} {o:HO} (h:H a = some o) (h':H b = none):a ≠ b:=by
 intro e; subst e; rw [h] at h'; cases h'
section
variable (P:Program) (w:World)
noncomputable def ObjOk (H:Hp) (h:Heap) (a:Addr):HO->Prop
 | .lst xs=>xs.length<=sizeLine/\∃ (its:List Value) (n:Nat),Vals xs its/\h.get? a = some { cls:=.type "list",data:=.seq its.toArray n }
 | .tup xs=>xs.length<=sizeLine/\∃ its:List Value,Vals xs its/\IsTup h a its.toArray
 | .dK kvs=>kvs.length<=sizeLine/\(a == sysModules) = false/\∃ vs,KV kvs vs/\h.DictOf (mixKind P w) a vs
 | .dT kvs=>kvs.length<=sizeLine/\(a == sysModules) = false/\∃ xs:List (List Key × Addr × Value),
   Paired (fun (p:List Key × V) (q:List Key × Addr × Value)=>p.1 = q.1/\H q.2.1 = some (.tup (p.1.map kV))/\RelV p.2 q.2.2) kvs xs /\
   ∃ o es ep,h.get? a = some o/\o.ExactDict/\o.data = .dict es ep/\es.toList = xs.map (entryOfKey (tupleKind (mixKind P w)))/\(xs.map (·.1)).Nodup
 | .set S n=>h.SetOf (intKind P w) a S n
 | .ins C dx fs=>H dx = some (.own a)/\fs.length<=1000/\dx ≠ a/\h.get? a = some (PySem.W.instObj C dx) /\
   ∃ mA,h.Ns1 dx mA/\(∀ f,RelO (fs.lookup f) (mA f))/\PySem.Within mA (fs.map (·.1))
 | .own _=>∃ o,h.get? a = some o
 | .xd fs=>∃ mA,h.Ns1 a mA/\∀ f,RelO (fs.lookup f) (mA f)
 | .rng lo hi=>∃ t u v,h.get? a = some { cls:=.type "range",data:=.fields #[.int lo t,.int hi u,.int 1 v] }
 | .frz o u=>h.get? a = some o/\ObjOk H h a u
 | .tbl ps=>h.get? a = some { cls:=.none,data:=.fields ps }
 | .met f x=>h.get? a = some (PySem.W.methodObj (.ref f) (.ref x))
 | .ext φ=>φ h/\(∃ o,h.get? a = some o)/\∀ h1 h2:Heap,φ h1->(∀ o,h1.get? a = some o->h2.get? a = some o)->φ h2
noncomputable def HOk (H:Hp) (h:Heap):Prop:=∀ a o,H a = some o->ObjOk P w H h a o
end
section
variable {P:Program} {w:World} {H H':Hp} {h h':Heap} {a:Addr} {o:HO}
theorem ObjOk.lt (x:ObjOk P w H h a o):a < h.objs.size:=by
 cases o with
 | lst xs=>obtain ⟨_,_,_,_,e⟩:=x; exact Heap.lt_size e
 | tup xs=>obtain ⟨_,_,_,p⟩:=x; exact p.lt
 | dK kvs=>obtain ⟨_,_,_,_,o,_,_,e,_⟩:=x; exact Heap.lt_size e
 | dT kvs=>obtain ⟨_,_,_,_,o,_,_,e,_⟩:=x; exact Heap.lt_size e
 | set S n=>obtain ⟨o,_,_,_,e,_⟩:=x; exact Heap.lt_size e
 | ins C dx fs=>obtain ⟨_,_,_,e,_⟩:=x; exact Heap.lt_size e
 | own y=>obtain ⟨_,e⟩:=x; exact Heap.lt_size e
 | xd fs=>obtain ⟨_,⟨_,_,_,e,_⟩,_⟩:=x; exact Heap.lt_size e
 | rng lo hi=>obtain ⟨_,_,_,e⟩:=x; exact Heap.lt_size e
 | frz ob u=>obtain ⟨e,_⟩:=x; exact Heap.lt_size e
 | tbl ps=>exact Heap.lt_size (show h.get? a = some _ from x)
 | met f y=>exact Heap.lt_size (show h.get? a = some _ from x)
 | ext φ=>obtain ⟨_,⟨_,e⟩,_⟩:=x; exact Heap.lt_size e
theorem Paired.mapP {α β:Type} {F G:α->β->Prop}:∀ {l₁:List α} {l₂:List β},Paired F l₁ l₂->(∀ a b,F a b->G a b)->Paired G l₁ l₂
 | _,_,.nil,_=>.nil
 | _,_,.cons r t,f=>.cons (f _ _ r) (Paired.mapP t f)
theorem ObjOk.stay (x:ObjOk P w H h a o) (k:∀ b u,(b = a\/H b = some (.own a))->h.get? b = some u->h'.get? b = some u)
  (ho:∀ b,H b = some (.own a)->H' b = some (.own a)) (ht:∀ b xs,H b = some (.tup xs)->H' b = some (.tup xs)):ObjOk P w H' h' a o:=by
 induction o with
 | lst xs=>obtain ⟨z,its,n,r,e⟩:=x; exact ⟨z,its,n,r,k _ _ (.inl rfl) e⟩
 | tup xs=>obtain ⟨z,its,r,ob,e,c⟩:=x; exact ⟨z,its,r,ob,k _ _ (.inl rfl) e,c⟩
 | dK kvs=>obtain ⟨z,y,vs,r,ob,es,ep,e,c⟩:=x; exact ⟨z,y,vs,r,ob,es,ep,k _ _ (.inl rfl) e,c⟩
 | dT kvs=>
  obtain ⟨z,y,xs,r,ob,es,ep,e,c⟩:=x
  exact ⟨z,y,xs,Paired.mapP r fun p q z=>⟨z.1,ht _ _ z.2.1,z.2.2⟩,ob,es,ep,k _ _ (.inl rfl) e,c⟩
 | set S n=>obtain ⟨ob,es,ep,t,e,c⟩:=x; exact ⟨ob,es,ep,t,k _ _ (.inl rfl) e,c⟩
 | ins C dx fs=>
  obtain ⟨d,z,ne,e,mA,⟨od,es,ep,e2,c⟩,r⟩:=x
  exact ⟨ho _ d,z,ne,k _ _ (.inl rfl) e,mA,⟨od,es,ep,k _ _ (.inr d) e2,c⟩,r⟩
 | own y=>obtain ⟨ob,e⟩:=x; exact ⟨ob,k _ _ (.inl rfl) e⟩
 | xd fs=>obtain ⟨mA,⟨od,es,ep,e,c⟩,r⟩:=x; exact ⟨mA,⟨od,es,ep,k _ _ (.inl rfl) e,c⟩,r⟩
 | rng lo hi=>obtain ⟨t,u,v,e⟩:=x; exact ⟨t,u,v,k _ _ (.inl rfl) e⟩
 | frz ob u ih=>obtain ⟨e,q⟩:=x; exact ⟨k _ _ (.inl rfl) e,ih q⟩
 | tbl ps=>
  have e:h.get? a = some { cls:=.none,data:=.fields ps }:=x
  show h'.get? a = some { cls:=.none,data:=.fields ps }
  exact k a _ (.inl rfl) e
 | met f y=>
  have e:h.get? a = some (PySem.W.methodObj (.ref f) (.ref y)):=x
  show h'.get? a = some (PySem.W.methodObj (.ref f) (.ref y))
  exact k a _ (.inl rfl) e
 | ext φ=>obtain ⟨p,⟨o,e⟩,st⟩:=x; exact ⟨st _ _ p fun o q=>k _ _ (.inl rfl) q,⟨o,k _ _ (.inl rfl) e⟩,st⟩
theorem HOk.lt (x:HOk P w H h) (e:H a = some o):a < h.objs.size:=(x a o e).lt
theorem HOk.fresh (x:HOk P w H h) (e:h.objs.size<=a):H a = none:=by
 cases q:H a with
 | none=>rfl
 | some u=>exact absurd (Nat.lt_of_lt_of_le (x.lt q) e) (Nat.lt_irrefl _)
theorem HOk.kept (x:HOk P w H h) (k:∀ b u,h.get? b = some u->h'.get? b = some u):HOk P w H h':=fun a o e=>
 (x a o e).stay (fun b u _ q=>k b u q) (fun _ q=>q) fun _ _ q=>q
theorem HOk.laid (x:HOk P w H h) (k:∀ b u,h.get? b = some u->h'.get? b = some u) (hp:h.objs.size<=a) (new:ObjOk P w (upd H a o) h' a o):HOk P w (upd H a o) h':=fun b u e=>by
 have hn:=x.fresh hp
 by_cases hb:b = a
 ·subst hb; rw [zas] at e; cases e; exact new
 ·rw [zap hb] at e
  exact (x b u e).stay (fun c v _ q=>k c v q) (fun c q=>by rw [zap (zaS q hn)]; exact q) fun c xs q=>by rw [zap (zaS q hn)]; exact q
end
noncomputable def Rd (H:Hp) (a:Addr) (u:HO):Prop:=H a = some u\/∃ o,H a = some (.frz o u)
theorem Rd.ok {P:Program} {w:World} {H:Hp} {h:Heap} {a:Addr} {u:HO} (r:Rd H a u) (x:HOk P w H h):ObjOk P w H h a u:=by
 rcases r with r | ⟨o,r⟩
 ·exact x a u r
 ·obtain ⟨_,q⟩:=x a _ r
  exact q
noncomputable def Mut:Option HO->Prop
 | some (.lst _)=>True
 | some (.dK _)=>True
 | some (.dT _)=>True
 | some (.set _ _)=>True
 | some (.ins _ _ _)=>True
 | some (.ext _)=>True
 | _=>False
section
variable {P:Program} {w:World} {H:Hp} {h h':Heap} {x e:Addr} {o':HO}
theorem HOk.write (ok:HOk P w H h) (mu:Mut (H x)) (he:e = x\/H e = some (.own x)) (k:∀ b u,b ≠ e->h.get? b = some u->h'.get? b = some u) (heo:∃ u,h'.get? e = some u)
  (new:ObjOk P w (upd H x o') h' x o'):HOk P w (upd H x o') h':=fun b u q=>by
 have nown:∀ c y,H c = some (.own y)->c ≠ x:=fun c y r z=>by subst z; rw [r] at mu; exact mu
 have ntup:∀ c xs,H c = some (.tup xs)->c ≠ x:=fun c xs r z=>by subst z; rw [r] at mu; exact mu
 by_cases hb:b = x
 ·subst hb; rw [zas] at q; cases q; exact new
 ·rw [zap hb] at q
  by_cases hbe:b = e
  ·have q':H b = some (.own x):=by
    rcases he with z | z
    ·exact absurd (hbe.trans z) hb
    ·rw [hbe]; exact z
   rw [q] at q'; cases q'
   obtain ⟨v,hv⟩:=heo
   exact ⟨v,by rw [hbe]; exact hv⟩
  ·refine (ok b u q).stay (fun c v hc r=>k c v ?_ r) (fun c r=>by rw [zap (nown c b r)]; exact r) fun c xs r=>by rw [zap (ntup c xs r)]; exact r
   rcases hc with rfl | hc
   ·exact hbe
   ·rintro rfl
    rcases he with z | z
    ·exact nown c b hc z
    ·rw [hc] at z; cases z; exact hb rfl
end
structure Un (fs ex:List Addr) (H H':Hp) (h h':Heap):Prop where
 keep:∀ b o,h.get? b = some o->H b = none->b ∉ fs->b ∉ ex->h'.get? b = some o
 slot:∀ b o,h.get? b = some o->H b = none->b ∈ fs->b ∉ ex->∃ sl,h'.get? b = some { o with slots:=sl }
 free:∀ b o,h.get? b = some o->H b = none->b ∉ ex->H' b = none
 there:∀ b o,h.get? b = some o->b ∉ ex->∃ o',h'.get? b = some o'
 tups:∀ b xs,H b = some (.tup xs)->H' b = some (.tup xs)
 frzs:∀ b o u,H b = some (.frz o u)->H' b = some (.frz o u)
 tbls:∀ b ps,H b = some (.tbl ps)->∃ more,H' b = some (.tbl (ps ++ more))
section
variable {fs fs' ex ex':List Addr} {H H1 H2:Hp} {h h1 h2 h':Heap} {a x e:Addr} {o:HO}
theorem Un.any (u:Un fs ex H H1 h h1) {b:Addr} {ob:Obj} (q:h.get? b = some ob) (n:H b = none) (hx:b ∉ ex):∃ sl,h1.get? b = some { ob with slots:=sl }:=by
 by_cases hb:b ∈ fs
 ·exact u.slot b ob q n hb hx
 ·exact ⟨ob.slots,u.keep b ob q n hb hx⟩
theorem Un.kept (k:∀ b u,h.get? b = some u->h'.get? b = some u):Un fs ex H H h h':=
 ⟨fun b ob q _ _ _=>k b ob q,fun b ob q _ _ _=>⟨ob.slots,k b ob q⟩,fun _ _ _ n _=>n,fun b ob q _=>⟨ob,k b ob q⟩,fun _ _ q=>q,fun _ _ _ q=>q,fun _ ps q=>⟨#[],by rw [q]; simp⟩⟩
theorem Un.refl:Un fs ex H H h h:=Un.kept fun _ _ q=>q
theorem Un.laid (k:∀ b u,h.get? b = some u->h'.get? b = some u) (hp:h.objs.size<=a) (hn:H a = none):Un fs ex H (upd H a o) h h' where
 keep:=fun b u q _ _ _=>k b u q
 slot:=fun b u q _ _ _=>⟨u.slots,k b u q⟩
 free:=fun b u q n _=>by rw [zap (Nat.ne_of_lt (Nat.lt_of_lt_of_le (Heap.lt_size q) hp))]; exact n
 there:=fun b u q _=>⟨u,k b u q⟩
 tups:=fun b xs q=>by rw [zap (zaS q hn)]; exact q
 frzs:=fun b u xs q=>by rw [zap (zaS q hn)]; exact q
 tbls:=fun b ps q=>⟨#[],by rw [zap (zaS q hn),q]; simp⟩
theorem Un.write (mu:Mut (H x)) (he:e = x\/H e = some (.own x)) (k:∀ b u,b ≠ e->h.get? b = some u->h'.get? b = some u) (heo:∃ u,h'.get? e = some u):Un fs ex H (upd H x o) h h':=by
 have hx:∀ b,H b = none->b ≠ x:=fun b n z=>by subst z; rw [n] at mu; exact mu
 have hb:∀ b,H b = none->b ≠ e:=fun b n z=>by
  subst z
  rcases he with r | r
  ·exact hx b n r
  ·rw [n] at r; cases r
 have hm:∀ b u,H b = some u->¬ Mut (some u)->b ≠ x:=fun b u q nm z=>by subst z; rw [q] at mu; exact nm mu
 refine ⟨fun b u q n _ _=>k b u (hb b n) q,fun b u q n _ _=>⟨u.slots,k b u (hb b n) q⟩,fun b u q n _=>by rw [zap (hx b n)]; exact n,fun b u q _=>?_,
  fun b xs q=>by rw [zap (hm b _ q fun z=>z)]; exact q,fun b u xs q=>by rw [zap (hm b _ q fun z=>z)]; exact q,fun b ps q=>⟨#[],by rw [zap (hm b _ q fun z=>z),q]; simp⟩⟩
 by_cases hbe:b = e
 ·subst hbe; exact heo
 ·exact ⟨u,k b u hbe q⟩
end
noncomputable def trk (h:Heap) (H:Hp):List Addr:=(List.range h.objs.size).filter fun a=>(H a).isSome
noncomputable def hidT (h:Heap) (H:Hp):Heap:=PySem.W.hideAll h (trk h H)
theorem zgA (h:Heap) (H:Hp):(hidT h H).objs.size = h.objs.size:=PySem.W.hideAll_size _ _
theorem zhS {h:Heap} {H:Hp} {b:Addr} {o:Obj} (e:h.get? b = some o) (n:H b = none):(hidT h H).get? b = some o:=
 PySem.W.hideAll_get _ e fun hm=>by
  have q:(H b).isSome = true:=(List.mem_filter.mp hm).2
  rw [n] at q; simp at q
theorem zjq {h:Heap} {H:Hp} {b:Addr} {o:Obj} (e:(hidT h H).get? b = some o):h.get? b = some o/\H b = none:=by
 have e':h.get? b = some o:=PySem.W.of_hideAll (trk h H) e
 refine ⟨e',?_⟩
 cases q:H b with
 | none=>rfl
 | some x=>
  have hm:b ∈ trk h H:=List.mem_filter.mpr ⟨List.mem_range.mpr (Heap.lt_size e'),by simp [q]⟩
  have z:(hidT h H).get? b = none:=PySem.W.hideAll_none (trk h H) hm
  rw [z] at e; cases e
end L2
namespace L2
open PySem PySem.Spec PyProof.Rows
structure Mod (K:PySem.W.Frag) (mg:Str->Option Value) (base:Heap):Prop where
 kin:K.In base
 glob:base.Ns mainGlobals mg
 blt:∃ mb,base.Ns builtinsNs mb/\∀ x:Str,x ≠ "__name__"->mb x = bootBuiltins x
 nolimit:base.NoLimit
structure Cx where
 prog:Program
 w:World
 K:PySem.W.Frag
 mg:Str->Option Value
 base:Heap
 A:Around
 N:List Str
 s₀:Shared
 H₀:Hp
 env:Env
 outer:List Env
 stack:List Env
 ex:List Addr
 fn:Str->Bool
 calm:Bool
 pn:List (Addr × Obj)
 xe:Value->Shared->Prop
noncomputable def frs (l:List Env):List Addr:=l.filterMap (·.frame)
noncomputable abbrev Cx.fs (X:Cx):List Addr:=frs X.outer
noncomputable def Vis (sc:Scope) (x:Str):Prop:=sc.names.lookup x = some .local\/sc.names.lookup x = some .cell\/sc.names.lookup x = some .free
noncomputable def Loc (sc:Scope) (x:Str):Prop:=sc.names.lookup x = some .local\/sc.names.lookup x = some .cell
noncomputable def Look (env:Env) (h:Heap) (m:Str->Option Value) (x:Str) (u:Value):Prop:=
 (env.kindOf x = some .local/\m x = some u)\/((env.kindOf x = some .cell\/env.kindOf x = some .free)/\∃ c,env.cells.lookup x = some c/\h.IsCell c (some u))
structure Cx.Ok (X:Cx):Prop where
 mod:Mod X.K X.mg X.base
 kind:X.env.scope.kind = .function
 glob:X.env.globals = mainGlobals
 blt:X.env.builtins = builtinsNs
 above:X.s₀.heap.objs.size<=X.env.locals
 inj:∀ x y c,X.env.cells.lookup x = some c->X.env.cells.lookup y = some c->x = y
 has:∀ x,(X.env.kindOf x = some .cell\/X.env.kindOf x = some .free)->∃ c,X.env.cells.lookup x = some c
 cab:∀ x c,X.fn x = true->X.env.cells.lookup x = some c->X.s₀.heap.objs.size<=c
 hd:X.calm = true->X.A.handled = none
 frames:X.A.frames = some X.stack
 stk:X.stack = X.outer\/(X.stack = X.env::X.outer/\X.env.frame = some X.env.locals)
 exf:∀ b ∈ X.ex,b ≠ X.env.locals/\∀ x c,X.env.cells.lookup x = some c->c ≠ b
 bs:∀ b o,X.base.get? b = some o->X.s₀.heap.get? b = some o/\X.H₀ b = none
 bsz:X.base.objs.size<=X.s₀.heap.objs.size
 noex:∀ b o,X.base.get? b = some o->b ∉ X.ex
 exfs:∀ b ∈ X.ex,b ∉ X.fs
 funs:X.s₀.heap.FunFrames X.base X.outer
 frf:∀ b ∈ X.fs,X.H₀ b = none
structure Inv (X:Cx) (pins:List (Addr × Obj)) (σ:List (Option V)) (H:Hp) (s:Shared):Prop where
 ok:X.Ok
 os:s.os = X.s₀.os
 bare:AllBare s.gens
 base:Un X.fs X.ex X.H₀ H X.s₀.heap s.heap
 loc:∃ m,s.heap.Ns X.env.locals m/\∀ (i:Nat) (x:Str) (v:V),X.N[i]? = some x->σ[i]? = some (some v)->Vis X.env.scope x->∃ u,RelV v u/\Look X.env s.heap m x u
 cell:∀ x c,X.env.cells.lookup x = some c->∃ v,s.heap.IsCell c v
 free:H X.env.locals = none
 freeC:∀ x c,X.env.cells.lookup x = some c->H c = none
 pin:∀ p ∈ X.pn ++ pins,s.heap.get? p.1 = some p.2/\H p.1 = none/\p.1 ≠ X.env.locals/\p.1 ∉ X.fs/\∀ v,p.2.data ≠ .cell v
 hok:HOk X.prog X.w H s.heap
 len:σ.length = X.N.length
section
variable {X:Cx} {pins:List (Addr × Obj)} {σ:List (Option V)} {H H':Hp} {s:Shared} {h':Heap}
theorem Cx.Ok.nofr (ok:X.Ok) {b:Addr} {o:Obj} (e:X.base.get? b = some o):b ∉ X.fs:=fun hb=>by
 have:=(ok.funs.mem hb).1
 rw [e] at this; cases this
theorem Inv.bs (I:Inv X pins σ H s):∀ b o,X.base.get? b = some o->s.heap.get? b = some o/\H b = none:=fun b o e=>
 ⟨I.base.keep b o (I.ok.bs b o e).1 (I.ok.bs b o e).2 (I.ok.nofr e) (I.ok.noex b o e),I.base.free b o (I.ok.bs b o e).1 (I.ok.bs b o e).2 (I.ok.noex b o e)⟩
theorem Inv.bk (I:Inv X pins σ H s):∀ b o,X.base.get? b = some o->s.heap.get? b = some o:=fun b o e=>(I.bs b o e).1
theorem Inv.mod (I:Inv X pins σ H s):Mod X.K X.mg X.base:=I.ok.mod
theorem Inv.kIn (I:Inv X pins σ H s):X.K.In s.heap:=I.ok.mod.kin.keeps I.bk
theorem Inv.nolimit (I:Inv X pins σ H s):s.heap.NoLimit:=I.ok.mod.nolimit.keeps I.bk
theorem Inv.lt (I:Inv X pins σ H s):X.env.locals < s.heap.objs.size:=let ⟨_,hn,_⟩:=I.loc; hn.lt
theorem Inv.sz (I:Inv X pins σ H s):X.s₀.heap.objs.size<=s.heap.objs.size:=Nat.le_trans I.ok.above (Nat.le_of_lt I.lt)
theorem Inv.nofs (I:Inv X pins σ H s) {a:Addr} (h:s.heap.objs.size<=a):a ∉ X.fs:=fun hb=>by
 obtain ⟨_,o,ho,_⟩:=I.ok.funs.mem hb
 exact absurd (Nat.lt_of_lt_of_le (Heap.lt_size ho) (Nat.le_trans I.sz h)) (Nat.lt_irrefl _)
theorem Inv.cne (I:Inv X pins σ H s):∀ x c,X.env.cells.lookup x = some c->c ≠ X.env.locals:=fun x c e z=>by
 obtain ⟨v,o,ho,hd⟩:=I.cell x c e
 obtain ⟨m,⟨o',es,ep,ho',hd',_⟩,_⟩:=I.loc
 rw [z,ho'] at ho; cases ho; rw [hd'] at hd; cases hd
theorem Inv.funs (I:Inv X pins σ H s):s.heap.FunFrames X.base X.outer:=by
 have all:∀ (l:List Env),(∀ b ∈ frs l,b ∈ X.fs)->X.s₀.heap.FunFrames X.base l->s.heap.FunFrames X.base l:=by
  intro l
  induction l with
  | nil=>intro _ _; trivial
  | cons env r ih=>
   intro hs hl
   obtain ⟨hk,⟨L,o,hf,hn,ho,hd⟩,hr⟩:=hl
   have hL:L ∈ X.fs:=hs L (by unfold frs; rw [List.filterMap_cons,hf]; exact List.mem_cons_self)
   obtain ⟨sl,e⟩:=I.base.slot L o ho (I.ok.frf L hL) hL fun z=>I.ok.exfs L z hL
   exact ⟨hk,⟨L,_,hf,hn,e,hd⟩,ih (fun b hb=>hs b (by unfold frs; rw [List.filterMap_cons,hf]; exact List.mem_cons_of_mem _ hb)) hr⟩
 exact all X.outer (fun _ hb=>hb) I.ok.funs
theorem Inv.stack (I:Inv X pins σ H s):s.heap.FunFrames X.base X.stack:=by
 rcases I.ok.stk with e | ⟨e,hf⟩
 ·rw [e]; exact I.funs
 ·rw [e]
  obtain ⟨m,hn,_⟩:=I.loc
  refine .cons (by rw [I.ok.kind]; decide) hf hn ?_ I.funs
  exact Heap.get?_none_of_le (Nat.le_trans I.ok.bsz I.ok.above)
theorem Inv.stkSub (I:Inv X pins σ H s):∀ b ∈ frs X.stack,b ∈ X.env.locals::X.fs:=fun b hb=>by
 rcases I.ok.stk with e | ⟨e,hf⟩
 ·rw [e] at hb; exact List.mem_cons_of_mem _ hb
 ·rw [e] at hb
  unfold frs at hb
  rw [List.filterMap_cons,hf] at hb
  exact hb
theorem Inv.stkFree (I:Inv X pins σ H s):∀ b ∈ frs X.stack,H b = none:=fun b hb=>by
 rcases List.mem_cons.mp (I.stkSub b hb) with e | hb
 ·rw [e]; exact I.free
 ·obtain ⟨_,o,ho,_⟩:=I.ok.funs.mem hb
  exact I.base.free b o ho (I.ok.frf b hb) fun z=>I.ok.exfs b z hb
theorem Inv.step {g':Array GenState} {t':Nat} {d':Drawn} {ch:List Addr} (I:Inv X pins σ H s)
  (hch:∀ b ∈ ch,(b ∈ X.ex\/X.s₀.heap.get? b = none)/\b ≠ X.env.locals/\(∀ x c,X.env.cells.lookup x = some c->c ≠ b)/\∀ p ∈ X.pn ++ pins,p.1 ≠ b)
  (keep:∀ b o,b ≠ X.env.locals->b ∉ X.fs->b ∉ ch->s.heap.get? b = some o->H b = none->h'.get? b = some o)
  (slot:∀ b o,b ≠ X.env.locals->b ∈ X.fs->b ∉ ch->s.heap.get? b = some o->H b = none->∃ sl,h'.get? b = some { o with slots:=sl }) (free:∀ b o,b ∉ ch->s.heap.get? b = some o->H b = none->H' b = none)
  (there:∀ b o,b ∉ ch->s.heap.get? b = some o->∃ o',h'.get? b = some o')
  (tups:∀ b xs,H b = some (.tup xs)->H' b = some (.tup xs)) (frzs:∀ b o u,H b = some (.frz o u)->H' b = some (.frz o u)) (tbls:∀ b ps,H b = some (.tbl ps)->∃ more,H' b = some (.tbl (ps ++ more)))
  (ns:∀ m,s.heap.Ns X.env.locals m->h'.Ns X.env.locals m) (hok:HOk X.prog X.w H' h') (hg:AllBare g') :
  Inv X pins σ H' { s with heap:=h',gens:=g',drawn:=d',toks:=t' }:=by
 have neL:∀ b o,X.s₀.heap.get? b = some o->b ≠ X.env.locals:=fun b o e=>Nat.ne_of_lt (Nat.lt_of_lt_of_le (Heap.lt_size e) I.ok.above)
 have neC:∀ b o,X.s₀.heap.get? b = some o->b ∉ X.ex->b ∉ ch:=fun b o e hx hb=>by
  rcases (hch b hb).1 with z | z
  ·exact hx z
  ·rw [e] at z; cases z
 have cellK:∀ x c,X.env.cells.lookup x = some c->∀ v,s.heap.IsCell c v->h'.IsCell c v:=fun x c e v ⟨o,ho,hd⟩=>by
  have nch:c ∉ ch:=fun z=>(hch c z).2.2.1 x c e rfl
  by_cases hc:c ∈ X.fs
  ·obtain ⟨sl,q⟩:=slot c o (I.cne x c e) hc nch ho (I.freeC x c e)
   exact ⟨_,q,hd⟩
  ·exact ⟨o,keep c o (I.cne x c e) hc nch ho (I.freeC x c e),hd⟩
 refine ⟨I.ok,I.os,hg,⟨fun b o e n hb hx=>?_,fun b o e n hb hx=>?_,fun b o e n hx=>?_,fun b o e hx=>?_,fun b xs e=>tups b xs (I.base.tups b xs e),fun b o xs e=>frzs b o xs (I.base.frzs b o xs e),fun b ps e=>?_⟩,?_,fun x c e=>?_,?_,fun x c e=>?_,fun p hp=>?_,hok,I.len⟩
 ·exact keep b o (neL b o e) hb (neC b o e hx) (I.base.keep b o e n hb hx) (I.base.free b o e n hx)
 ·obtain ⟨sl,e1⟩:=I.base.slot b o e n hb hx
  obtain ⟨sl',e2⟩:=slot b _ (neL b o e) hb (neC b o e hx) e1 (I.base.free b o e n hx)
  exact ⟨sl',e2⟩
 ·obtain ⟨o',e1⟩:=I.base.there b o e hx
  exact free b o' (neC b o e hx) e1 (I.base.free b o e n hx)
 ·obtain ⟨o',e1⟩:=I.base.there b o e hx
  exact there b o' (neC b o e hx) e1
 ·obtain ⟨m1,e1⟩:=I.base.tbls b ps e
  obtain ⟨m2,e2⟩:=tbls b _ e1
  exact ⟨m1 ++ m2,by rw [e2,Array.append_assoc]⟩
 ·obtain ⟨m,hn,hl⟩:=I.loc
  refine ⟨m,ns m hn,fun i x v e1 e2 e3=>?_⟩
  obtain ⟨u,r,l⟩:=hl i x v e1 e2 e3
  refine ⟨u,r,?_⟩
  rcases l with l | ⟨k,c,e,z⟩
  ·exact .inl l
  ·exact .inr ⟨k,c,e,cellK x c e _ z⟩
 ·obtain ⟨v,z⟩:=I.cell x c e
  exact ⟨v,cellK x c e v z⟩
 ·obtain ⟨m,⟨o,_,_,ho,_⟩,_⟩:=I.loc
  exact free _ o (fun z=>(hch _ z).2.1 rfl) ho I.free
 ·obtain ⟨v,o,ho,hd⟩:=I.cell x c e
  exact free c o (fun z=>(hch c z).2.2.1 x c e rfl) ho (I.freeC x c e)
 ·obtain ⟨e,n,ne,nf,d⟩:=I.pin p hp
  have nch:p.1 ∉ ch:=fun z=>(hch p.1 z).2.2.2 p hp rfl
  exact ⟨keep p.1 p.2 ne nf nch e n,free p.1 p.2 nch e n,ne,nf,d⟩
theorem Inv.un {t':Nat} (I:Inv X pins σ H s) (u:Un X.fs [] H H' s.heap h') (hok:HOk X.prog X.w H' h'):Inv X pins σ H' { s with heap:=h',toks:=t' }:=by
 obtain ⟨m,⟨o,es,ep,ho,r⟩,_⟩:=id I.loc
 obtain ⟨sl,hL⟩:=u.any ho I.free (by simp)
 exact I.step (g':=s.gens) (d':=s.drawn) (ch:=[]) (fun _ z=>nomatch z) (fun b o _ hb _ e n=>u.keep b o e n hb (by simp)) (fun b o _ hb _ e n=>u.slot b o e n hb (by simp)) (fun b o _ e n=>u.free b o e n (by simp)) (fun b o _ e=>u.there b o e (by simp)) u.tups u.frzs u.tbls (fun m' hm=>by
  obtain ⟨o',es',ep',ho',r'⟩:=hm
  rw [ho] at ho'; cases ho'
  exact ⟨_,es',ep',hL,r'⟩) hok I.bare
theorem Inv.call {g':Array GenState} {t':Nat} {d':Drawn} {ch:List Addr} (I:Inv X pins σ H s) (u:Un (frs X.stack) ch H H' s.heap h') (hok:HOk X.prog X.w H' h') (hg:AllBare g')
  (hch:∀ b ∈ ch,(b ∈ X.ex\/X.s₀.heap.get? b = none)/\b ≠ X.env.locals/\(∀ x c,X.env.cells.lookup x = some c->c ≠ b)/\∀ p ∈ X.pn ++ pins,p.1 ≠ b) :
  Inv X pins σ H' { s with heap:=h',gens:=g',drawn:=d',toks:=t' }:=by
 obtain ⟨m,⟨o,es,ep,ho,r⟩,_⟩:=id I.loc
 obtain ⟨sl,hL⟩:=u.any ho I.free fun z=>(hch _ z).2.1 rfl
 exact I.step (ch:=ch) hch (fun b o hL hb hc e n=>u.keep b o e n (fun z=>(List.mem_cons.mp (I.stkSub b z)).elim hL hb) hc) (fun b o _ _ hc e n=>u.any e n hc) (fun b o hc e n=>u.free b o e n hc) (fun b o hc e=>u.there b o e hc) u.tups u.frzs u.tbls (fun m' hm=>by
  obtain ⟨o',es',ep',ho',r'⟩:=hm
  rw [ho] at ho'; cases ho'
  exact ⟨_,es',ep',hL,r'⟩) hok hg
theorem Inv.turned {t':Nat} {it:Addr} (I:Inv X pins σ H s) (k:∀ b o,b ≠ it->s.heap.get? b = some o->h'.get? b = some o) (hn:H it = none) (hL:it ≠ X.env.locals)
  (h1:it ∈ X.ex\/X.s₀.heap.objs.size<=it) (h2:∀ x c,X.env.cells.lookup x = some c->c ≠ it) (h3:∀ p ∈ X.pn ++ pins,p.1 ≠ it):Inv X pins σ H { s with heap:=h',toks:=t' }:=by
 have nit:∀ b u,H b = some u->b ≠ it:=fun b u e z=>by rw [z,hn] at e; cases e
 refine I.step (g':=s.gens) (d':=s.drawn) (ch:=[it]) (fun b hb=>?_) (fun b o _ _ hc e _=>k b o (fun z=>hc (by simp [z])) e) (fun b o _ _ hc e _=>⟨o.slots,k b o (fun z=>hc (by simp [z])) e⟩) (fun _ _ _ _ n=>n)
  (fun b o hc e=>⟨o,k b o (fun z=>hc (by simp [z])) e⟩) (fun _ _ e=>e) (fun _ _ _ e=>e) (fun b ps e=>⟨#[],by rw [e]; simp⟩) (fun m hm=>?_) (fun b u e=>?_) I.bare
 ·have e:b = it:=by simpa using hb
  subst e
  exact ⟨h1.imp id fun z=>Heap.get?_none_of_le z,hL,h2,h3⟩
 ·obtain ⟨o,es,ep,ho,r⟩:=hm
  exact ⟨o,es,ep,k _ o (Ne.symm hL) ho,r⟩
 ·refine (I.hok b u e).stay (fun c v hc q=>k c v ?_ q) (fun _ q=>q) fun _ _ q=>q
  rcases hc with z | z
  ·rw [z]; exact nit b u e
  ·exact nit c _ z
theorem Inv.tok (I:Inv X pins σ H s) (t:Nat):Inv X pins σ H { s with toks:=t }:=I.un (h':=s.heap) (t':=t) Un.refl I.hok
theorem Inv.kept {t':Nat} (I:Inv X pins σ H s) (k:∀ b u,s.heap.get? b = some u->h'.get? b = some u):Inv X pins σ H { s with heap:=h',toks:=t' }:=I.un (Un.kept k) (I.hok.kept k)
theorem Inv.laid {a:Addr} {o:HO} {t':Nat} (I:Inv X pins σ H s) (k:∀ b u,s.heap.get? b = some u->h'.get? b = some u) (hp:s.heap.objs.size<=a) (new:ObjOk X.prog X.w (upd H a o) h' a o) :
  Inv X pins σ (upd H a o) { s with heap:=h',toks:=t' }:=I.un (Un.laid k hp (I.hok.fresh hp)) (I.hok.laid k hp new)
theorem Inv.write {x e:Addr} {o:HO} {t':Nat} (I:Inv X pins σ H s) (mu:Mut (H x)) (he:e = x\/H e = some (.own x)) (k:∀ b u,b ≠ e->s.heap.get? b = some u->h'.get? b = some u) (heo:∃ u,h'.get? e = some u)
  (new:ObjOk X.prog X.w (upd H x o) h' x o):Inv X pins σ (upd H x o) { s with heap:=h',toks:=t' }:=I.un (Un.write mu he k heo) (I.hok.write mu he k heo new)
theorem Inv.pins_of {pins':List (Addr × Obj)} (I:Inv X pins σ H s) (h:∀ p ∈ pins',s.heap.get? p.1 = some p.2/\H p.1 = none/\p.1 ≠ X.env.locals/\p.1 ∉ X.fs/\∀ v,p.2.data ≠ .cell v):Inv X pins' σ H s:=
 ⟨I.ok,I.os,I.bare,I.base,I.loc,I.cell,I.free,I.freeC,fun p hp=>(List.mem_append.mp hp).elim (fun z=>I.pin p (List.mem_append_left _ z)) (h p),I.hok,I.len⟩
theorem zfz {N:List Str} (hN:N.Nodup) {i j:Nat} {x:Str} (a:N[i]? = some x) (b:N[j]? = some x):i = j:=by
 obtain ⟨h1,e1⟩:=List.getElem?_eq_some_iff.mp a
 obtain ⟨h2,e2⟩:=List.getElem?_eq_some_iff.mp b
 exact (List.getElem_inj hN).mp (e1.trans e2.symm)
theorem zec {M:Model} {A:Around} {E:Value->Shared->Prop} {i:Nat} {x:Str} {v:V} {u:Value} {Q:Unit->Shared->Prop} (I:Inv X pins σ H s) (hN:X.N.Nodup) (hi:X.N[i]? = some x) (hx:Loc X.env.scope x) (r:RelV v u)
  (h:∀ s',Inv X pins (σ.set i (some v)) H s'->(∃ a,Heap.SameBut a s.heap s'.heap/\(a = X.env.locals\/X.env.cells.lookup x = some a))->Q () s') (hf:X.fn x = true\/X.env.scope.names.lookup x = some .local:=by first | exact .inl rfl | exact .inr rfl | assumption):wpAny M A (storeName X.env x u) Q E s:=by
 obtain ⟨m,hn,hl⟩:=id I.loc
 have hcls:(X.env.scope.kind == .class || (X.env.scope.kind == .module && X.env.locals != X.env.globals)) = false:=by rw [I.ok.kind]; rfl
 have hiσ:i < σ.length:=by rw [I.len]; exact (List.getElem?_eq_some_iff.mp hi).1
 have cne:=I.cne
 have tracked:∀ {a:Addr} {h':Heap},(∃ o,s.heap.get? a = some o/\H a = none)->Heap.SameBut a s.heap h'->HOk X.prog X.w H h':=fun {a h'} ha hs b ob e=>by
  obtain ⟨_,_,hfree⟩:=ha
  refine (I.hok b ob e).stay (fun c w' hc q=>(hs.2 c ?_).trans q) (fun _ q=>q) fun _ _ q=>q
  rintro rfl
  rcases hc with rfl | hc
  ·rw [hfree] at e; cases e
  ·rw [hfree] at hc; cases hc
 rcases hx with hk | hk
 ·refine wpAny_storeName_local hk hn (fun h' hn' hs=>?_) hcls
  obtain ⟨oL,_,_,hoL,_⟩:=id hn
  refine h _ ⟨I.ok,I.os,I.bare,⟨fun b o e n hb hx=>?_,fun b o e n hb hx=>?_,I.base.free,fun b o e hx=>?_,I.base.tups,I.base.frzs,I.base.tbls⟩,⟨_,hn',fun j y v' e1 e2 e3=>?_⟩,fun y c e=>?_,I.free,I.freeC,fun p hp=>?_,tracked ⟨oL,hoL,I.free⟩ hs,by simpa using I.len⟩ ⟨_,hs,.inl rfl⟩
  ·exact (hs.2 b (Nat.ne_of_lt (Nat.lt_of_lt_of_le (Heap.lt_size e) I.ok.above))).trans (I.base.keep b o e n hb hx)
  ·obtain ⟨sl,e1⟩:=I.base.slot b o e n hb hx
   exact ⟨sl,(hs.2 b (Nat.ne_of_lt (Nat.lt_of_lt_of_le (Heap.lt_size e) I.ok.above))).trans e1⟩
  ·obtain ⟨o',e1⟩:=I.base.there b o e hx
   exact ⟨o',(hs.2 b (Nat.ne_of_lt (Nat.lt_of_lt_of_le (Heap.lt_size e) I.ok.above))).trans e1⟩
  ·by_cases hj:j = i
   ·subst hj
    rw [hi] at e1; cases e1
    rw [List.getElem?_set_self hiσ] at e2
    cases e2
    exact ⟨u,r,.inl ⟨hk,by simp⟩⟩
   ·rw [List.getElem?_set_ne (Ne.symm hj)] at e2
    obtain ⟨u',r',q⟩:=hl j y v' e1 e2 e3
    refine ⟨u',r',?_⟩
    rcases q with ⟨k,e⟩ | ⟨k,c,e,z⟩
    ·refine .inl ⟨k,?_⟩
     have:y ≠ x:=fun e=>hj (zfz hN e1 (e ▸ hi))
     simp [this,e]
    ·exact .inr ⟨k,c,e,z.sameBut hs (cne y c e)⟩
  ·obtain ⟨w',z⟩:=I.cell y c e
   exact ⟨w',z.sameBut hs (cne y c e)⟩
  ·obtain ⟨e,n,ne,nf,d⟩:=I.pin p hp
   exact ⟨(hs.2 p.1 ne).trans e,n,ne,nf,d⟩
 ·have hfn:X.fn x = true:=by
   rcases hf with z | z
   ·exact z
   ·rw [z] at hk; cases hk
  obtain ⟨c,hc⟩:=I.ok.has x (.inl hk)
  obtain ⟨w',z⟩:=I.cell x c hc
  refine wpAny_storeName_cell I.ok.kind hk hc z (fun h' hc' hs=>?_)
  obtain ⟨oc,hoc,hocd⟩:=id z
  refine h { s with heap:=h' } ⟨I.ok,I.os,I.bare,⟨fun b o e n hb hx=>?_,fun b o e n hb hx=>?_,I.base.free,fun b o e hx=>?_,I.base.tups,I.base.frzs,I.base.tbls⟩,⟨m,hn.sameBut hs (Ne.symm (cne x c hc)),fun j y v' e1 e2 e3=>?_⟩,fun y c' e=>?_,I.free,I.freeC,fun p hp=>?_,tracked ⟨oc,hoc,I.freeC x c hc⟩ hs,by simpa using I.len⟩ ⟨c,hs,.inr hc⟩
  ·exact (hs.2 b (Nat.ne_of_lt (Nat.lt_of_lt_of_le (Heap.lt_size e) (I.ok.cab x c hfn hc)))).trans (I.base.keep b o e n hb hx)
  ·obtain ⟨sl,e1⟩:=I.base.slot b o e n hb hx
   exact ⟨sl,(hs.2 b (Nat.ne_of_lt (Nat.lt_of_lt_of_le (Heap.lt_size e) (I.ok.cab x c hfn hc)))).trans e1⟩
  ·obtain ⟨o',e1⟩:=I.base.there b o e hx
   exact ⟨o',(hs.2 b (Nat.ne_of_lt (Nat.lt_of_lt_of_le (Heap.lt_size e) (I.ok.cab x c hfn hc)))).trans e1⟩
  ·by_cases hj:j = i
   ·subst hj
    rw [hi] at e1; cases e1
    rw [List.getElem?_set_self hiσ] at e2
    cases e2
    exact ⟨u,r,.inr ⟨.inl hk,c,hc,hc'⟩⟩
   ·rw [List.getElem?_set_ne (Ne.symm hj)] at e2
    obtain ⟨u',r',q⟩:=hl j y v' e1 e2 e3
    refine ⟨u',r',?_⟩
    rcases q with q | ⟨k,c',e,z'⟩
    ·exact .inl q
    ·refine .inr ⟨k,c',e,z'.sameBut hs ?_⟩
     rintro rfl
     exact hj (zfz hN e1 (I.ok.inj _ _ _ e hc ▸ hi))
  ·by_cases hcc:c' = c
   ·subst hcc; exact ⟨_,hc'⟩
   ·obtain ⟨w2,z2⟩:=I.cell y c' e
    exact ⟨w2,z2.sameBut hs hcc⟩
  ·obtain ⟨e,n,ne,nf,d⟩:=I.pin p hp
   refine ⟨(hs.2 p.1 ?_).trans e,n,ne,nf,d⟩
   intro q
   rw [q,hoc] at e
   have q':oc = p.2:=Option.some.inj e
   exact d w' (by rw [<- q']; exact hocd)
theorem zfk {M:Model} {A:Around} {E:Value->Shared->Prop} {i:Nat} {x:Str} {v:V} {u:Value} {Q:Unit->Shared->Prop} (I:Inv X pins σ H s) (hN:X.N.Nodup) (hi:X.N[i]? = some x) (hx:Loc X.env.scope x) (r:RelV v u)
  (h:∀ s',Inv X pins (σ.set i (some v)) H s'->Q () s') (hf:X.fn x = true\/X.env.scope.names.lookup x = some .local:=by first | exact .inl rfl | exact .inr rfl | assumption):wpAny M A (storeName X.env x u) Q E s:=
 zec I hN hi hx r (fun s' I' _=>h s' I') hf
theorem Inv.call' {s':Shared} {ch:List Addr} (I:Inv X pins σ H s) (ho:s'.os = s.os) (u:Un (frs X.stack) ch H H' s.heap s'.heap) (hok:HOk X.prog X.w H' s'.heap) (hg:AllBare s'.gens)
  (hch:∀ b ∈ ch,(b ∈ X.ex\/X.s₀.heap.get? b = none)/\b ≠ X.env.locals/\(∀ x c,X.env.cells.lookup x = some c->c ≠ b)/\∀ p ∈ X.pn ++ pins,p.1 ≠ b):Inv X pins σ H' s':=by
 obtain ⟨h',g',d',t',o'⟩:=s'
 have e:o' = s.os:=ho
 subst e
 exact I.call (g':=g') (t':=t') (d':=d') u hok hg hch
end
noncomputable abbrev XK:=Value->Option Addr->Hp->Prop
noncomputable abbrev St:=List (Option V)
noncomputable abbrev VK:=V->Hp->Prop
noncomputable abbrev TE:=St->Hp->VK->Prop
noncomputable abbrev TT:=St->Hp->(Bool->Hp->Prop)->Prop
noncomputable abbrev TA:=St->Hp->(List V->Hp->Prop)->Prop
structure Ends where
 nx:St->Hp->Prop
 rt:VK
 bk:St->Hp->Prop:=fun _ _=>False
 ct:St->Hp->Prop:=fun _ _=>False
noncomputable abbrev TS:=Ends->St->Hp->Prop
noncomputable def EP (X:Cx) (pins:List (Addr × Obj)) (σ:St) (Q:VK) (u:Value) (s':Shared):Prop:=∃ v H',Inv X pins σ H' s'/\RelV v u/\Q v H'
noncomputable def TP (X:Cx) (pins:List (Addr × Obj)) (σ:St) (Q:Bool->Hp->Prop) (b:Bool) (s':Shared):Prop:=∃ H',Inv X pins σ H' s'/\Q b H'
noncomputable def AP (X:Cx) (pins:List (Addr × Obj)) (σ:St) (Q:List V->Hp->Prop) (us:List Value) (s':Shared):Prop:=∃ vs H',Inv X pins σ H' s'/\Vals vs us/\Q vs H'
noncomputable def SP (X:Cx) (pins:List (Addr × Obj)) (D:Ends) (f:Flow) (s':Shared):Prop:=
 match f with
 | .next=>∃ σ' H',Inv X pins σ' H' s'/\D.nx σ' H'
 | .brk=>∃ σ' H',Inv X pins σ' H' s'/\D.bk σ' H'
 | .cont=>∃ σ' H',Inv X pins σ' H' s'/\D.ct σ' H'
 | .ret u=>∃ v σ' H',Inv X pins σ' H' s'/\RelV v u/\D.rt v H'
noncomputable def PE (X:Cx) (e:Expr) (t:TE):Prop:=
 ∀ (pins:List (Addr × Obj)) (s:Shared) (σ:St) (H:Hp) (Q:VK),Inv X pins σ H s->t σ H Q->wpAny (model X.prog X.w) X.A (eval e X.env) (EP X pins σ Q) X.xe s
noncomputable def PT (X:Cx) (e:Expr) (t:TT):Prop:=
 ∀ (pins:List (Addr × Obj)) (s:Shared) (σ:St) (H:Hp) (Q:Bool->Hp->Prop),Inv X pins σ H s->t σ H Q->wpAny (model X.prog X.w) X.A (isTrue e X.env (eval e X.env)) (TP X pins σ Q) X.xe s
noncomputable def PW (X:Cx) (e:Expr) (t:TT):Prop:=
 ∀ (whole:Sem Value) (pins:List (Addr × Obj)) (s:Shared) (σ:St) (H:Hp) (Q:Bool->Hp->Prop),Inv X pins σ H s->t σ H Q->wpAny (model X.prog X.w) X.A (isTrue e X.env whole) (TP X pins σ Q) X.xe s
theorem PW.pt {X:Cx} {e:Expr} {t:TT} (h:PW X e t):PT X e t:=h _
noncomputable def PA (X:Cx) (es:List Expr) (t:TA):Prop:=
 ∀ (pos:Pos) (pins:List (Addr × Obj)) (s:Shared) (σ:St) (H:Hp) (Q:List V->Hp->Prop),Inv X pins σ H s->t σ H Q->wpAny (model X.prog X.w) X.A (spliced (backTo pos (starEach es X.env))) (AP X pins σ Q) X.xe s
noncomputable def PS (X:Cx) (st:Stmt) (t:TS):Prop:=
 ∀ (pins:List (Addr × Obj)) (s:Shared) (σ:St) (H:Hp) (D:Ends),Inv X pins σ H s->t D σ H->wpAny (model X.prog X.w) X.A (exec st X.env) (SP X pins D) X.xe s
noncomputable def PSs (X:Cx) (st:List Stmt) (t:TS):Prop:=
 ∀ (pins:List (Addr × Obj)) (s:Shared) (σ:St) (H:Hp) (D:Ends),Inv X pins σ H s->t D σ H->wpAny (model X.prog X.w) X.A (execs st X.env) (SP X pins D) X.xe s
theorem thn {α:Type} {t:Sem α} {Q Q':α->Shared->Prop} {M:Model} {A:Around} {E:Value->Shared->Prop} {s:Shared} (h:wpAny M A t Q E s) (hQ:∀ a s,Q a s->Q' a s):wpAny M A t Q' E s:=wpAny_mono h hQ fun _ _ x=>x
end L2
namespace L2
open PySem PySem.Spec PyProof.Rows
section
variable {X:Cx}
noncomputable def tVar (i:Nat):TE:=fun σ H Q=>∃ v,σ[i]? = some (some v)/\Q v H
noncomputable def tC (v:V):TE:=fun _ H Q=>Q v H
theorem zlh {i:Nat} {x:Str} {pos:Pos} (hN:X.N[i]? = some x) (hv:Vis X.env.scope x) (hd:(x == ("__debug__" : Str)) = false:=by decide) (hcd:(x == ("__classdict__" : Str)) = false:=by decide):PE X (.Name x pos) (tVar i):=by
 intro pins s σ H Q I h
 obtain ⟨v,e,h⟩:=h
 obtain ⟨m,hn,hl⟩:=I.loc
 obtain ⟨u,r,l⟩:=hl i x v hN e hv
 have fin:EP X pins σ Q u s:=⟨v,H,I,r,h⟩
 rcases l with ⟨hk,hm⟩ | ⟨hk,c,hc,hcell⟩
 ·exact wpAny_Name (wpAny_loadName_local I.ok.kind hk hn hm fin) hd
 ·rcases hk with hk | hk
  ·exact wpAny_Name (wpAny_loadName_cell I.ok.kind hk hc hcell fin) hd
  ·exact wpAny_Name (wpAny_loadName_free I.ok.kind hk hc hcell fin hcd) hd
theorem ziX {i j pos}:PE X (.Constant (.int i) j pos) (tC (.int i)):=fun _ _ _ H _ I h=>wpAny_Constant_int ⟨.int i,H,I.tok _,⟨_,rfl⟩,h⟩
theorem zmP {b j pos}:PE X (.Constant (.bool b) j pos) (tC (.bl b)):=fun _ _ _ H _ I h=>Constant_bool ⟨.bl b,H,I,rfl,h⟩
theorem zkH {j pos}:PE X (.Constant .none j pos) (tC .non):=fun _ _ _ H _ I h=>Constant_none ⟨.non,H,I,rfl,h⟩
theorem zi0 {x j pos}:PE X (.Constant (.str x) j pos) (tC (.str x)):=fun _ _ _ H _ I h=>Calls.Constant_str ⟨.str x,H,I.tok _,⟨_,rfl⟩,h⟩
noncomputable def Gl (X:Cx) (x:Str):Prop:=X.env.kindOf x = some .globalImplicit
theorem zeW {E:Value->Shared->Prop} {pins:List (Addr × Obj)} {s:Shared} {σ:St} {H:Hp} {x:Str} {u:Value} {pos:Pos} {Q:Value->Shared->Prop} (I:Inv X pins σ H s) (hg:Gl X x) (hm:X.mg x = some u) (h:Q u s)
  (hd:(x == ("__debug__" : Str)) = false:=by decide):wpAny (model X.prog X.w) X.A (eval (.Name x pos) X.env) Q E s:=
 Calls.Name_function_global I.ok.kind hg (Calls.loadGlobal_global (by rw [I.ok.glob]; exact I.mod.glob.keeps I.bk) hm h) hd
theorem zdf {E:Value->Shared->Prop} {pins:List (Addr × Obj)} {s:Shared} {σ:St} {H:Hp} {x:Str} {u:Value} {pos:Pos} {Q:Value->Shared->Prop} (I:Inv X pins σ H s) (hg:Gl X x) (hm:X.mg x = none) (hv:bootBuiltins x = some u) (h:Q u s)
  (hn:x ≠ "__name__":=by decide) (hd:(x == ("__debug__" : Str)) = false:=by decide):wpAny (model X.prog X.w) X.A (eval (.Name x pos) X.env) Q E s:=by
 obtain ⟨mb,h1,h2⟩:=I.mod.blt
 exact Calls.Name_function_global I.ok.kind hg (Calls.loadGlobal_builtin (by rw [I.ok.glob]; exact I.mod.glob.keeps I.bk) hm (by rw [I.ok.blt]; exact h1.keeps I.bk) ((h2 x hn).trans hv) h) hd
theorem zj0 {x:Str} {v:V} {u:Value} {pos:Pos} (hg:Gl X x) (hm:X.mg x = some u) (r:RelV v u) (hd:(x == ("__debug__" : Str)) = false:=by decide):PE X (.Name x pos) (tC v):=
 fun _ _ _ H _ I h=>zeW I hg hm ⟨v,H,I,r,h⟩ hd
variable {a b:Expr} {ta tb:TE} {pos:Pos}
noncomputable def tB (t:TE):TT:=fun σ H Q=>t σ H fun x H1=>∃ c,x = .bl c/\Q c H1
theorem zlu {e:Expr} {t:TE} (h:PE X e t) (he:∀ whole,isTrue e X.env whole = (do let v <- whole; standAt e.pos; holding [v] (truthy v)):=by intro _; rfl):PT X e (tB t):=by
 intro pins s σ H Q I hw
 refine isTrue_plain (thn (h pins s σ H _ I hw) fun v s1 ⟨x,H1,I1,r1,q1⟩=>?_) (he _)
 obtain ⟨d,rfl,q⟩:=q1
 cases r1
 exact wpAny_truthy_bool ⟨H1,I1,q⟩
variable {tA tB':TT} {rest:List Expr}
noncomputable def tAnd (t u:TT):TT:=fun σ H Q=>t σ H fun c H1=>if c = true then u σ H1 Q else Q false H1
noncomputable def tOr (t u:TT):TT:=fun σ H Q=>t σ H fun c H1=>if c = true then Q true H1 else u σ H1 Q
noncomputable def tNot (t:TT):TT:=fun σ H Q=>t σ H fun c H1=>Q (!c) H1
theorem zj7 (ha:PT X a tA):PW X (.BoolOp .And [a] pos) tA:=by
 intro wh pins s σ H Q I h
 refine isTrue_and (thn (ha pins s σ H Q I h) fun c s1 e=>?_)
 cases c with
 | true=>exact isTrue_and_nil e
 | false=>exact e
theorem zld (ha:PT X a tA):PW X (.BoolOp .Or [a] pos) tA:=by
 intro wh pins s σ H Q I h
 refine isTrue_or (thn (ha pins s σ H Q I h) fun c s1 e=>?_)
 cases c with
 | false=>exact isTrue_or_nil e
 | true=>exact e
theorem zme (ha:PT X a tA) (hb:PW X (.BoolOp .And (b::rest) pos) tB'):PW X (.BoolOp .And (a::b::rest) pos) (tAnd tA tB'):=by
 intro wh pins s σ H Q I h
 refine isTrue_and (thn (ha pins s σ H _ I h) fun c s1 ⟨H1,I1,q1⟩=>?_)
 cases c with
 | true=>exact hb wh pins s1 σ H1 Q I1 q1
 | false=>exact ⟨H1,I1,q1⟩
theorem zmu (ha:PT X a tA) (hb:PW X (.BoolOp .Or (b::rest) pos) tB'):PW X (.BoolOp .Or (a::b::rest) pos) (tOr tA tB'):=by
 intro wh pins s σ H Q I h
 refine isTrue_or (thn (ha pins s σ H _ I h) fun c s1 ⟨H1,I1,q1⟩=>?_)
 cases c with
 | true=>exact ⟨H1,I1,q1⟩
 | false=>exact hb wh pins s1 σ H1 Q I1 q1
theorem zkW (ha:PT X a tA):PT X (.UnaryOp .Not a pos) (tNot tA):=by
 intro pins s σ H Q I h
 exact isTrue_not (ha pins s σ H (fun c H1=>Q (!c) H1) I h)
noncomputable def tAndV (ta tb:TE):TE:=fun σ H Q=>ta σ H fun x H1=>∃ c,x = .bl c/\if c = true then tb σ H1 Q else Q (.bl false) H1
noncomputable def tNotV (ta:TE):TE:=fun σ H Q=>ta σ H fun x H1=>∃ c,x = .bl c/\Q (.bl (!c)) H1
theorem zkT {op} {t:TE} (h:PE X a t):PE X (.BoolOp op [a] pos) t:=fun pins s σ H Q I hw=>BoolOp_one (h pins s σ H Q I hw)
theorem zkE (ha:PE X a ta) (hb:PE X (.BoolOp .And (b::rest) pos) tb):PE X (.BoolOp .And (a::b::rest) pos) (tAndV ta tb):=by
 intro pins s σ H Q I h
 refine BoolOp_and (thn (ha pins s σ H _ I h) fun v s1 ⟨x,H1,I1,r1,q1⟩=>?_)
 obtain ⟨c,rfl,q1⟩:=q1
 cases r1
 refine wpAny_truthy_bool ?_
 cases c with
 | true=>exact hb pins s1 σ H1 Q I1 q1
 | false=>exact ⟨.bl false,H1,I1,rfl,q1⟩
theorem zlz (ha:PE X a ta):PE X (.UnaryOp .Not a pos) (tNotV ta):=by
 intro pins s σ H Q I h
 refine UnaryOp_ (thn (ha pins s σ H _ I h) fun v s1 ⟨x,H1,I1,r1,q1⟩=>?_)
 obtain ⟨c,rfl,q1⟩:=q1
 cases r1
 exact not_of (wpAny_truthy_bool ⟨.bl (!c),H1,I1,rfl,q1⟩)
end
end L2
namespace L2
open PySem PySem.Spec PyProof.Rows
noncomputable def SqL (K:PySem.W.Frag) (H:Hp) (a:Addr) (xs:List V):Prop:=
 Rd H a (.lst xs) \/
  ∃ (o:Obj) (its:Array Value) (n:Nat),K.lookup a = some o/\o.cls = .type "list"/\o.dict = none/\o.data = .seq its n/\its.size<=sizeLine/\Vals xs its.toList
noncomputable def SqT (K:PySem.W.Frag) (H:Hp) (a:Addr) (xs:List V):Prop:=
 Rd H a (.tup xs) \/
  ∃ (o:Obj) (its:Array Value) (n:Nat),K.lookup a = some o/\o.cls = .type "tuple"/\o.data = .seq its n/\its.size<=sizeLine/\Vals xs its.toList
noncomputable def absV:Value->Option V
 | .none=>some .non
 | .bool b=>some (.bl b)
 | .int i _=>some (.int i)
 | .str x _=>some (.str x)
 | .bytes b _=>some (.byt b)
 | .float b _=>some (.flt b)
 | .ref a=>some (.ref a)
 | .type n=>some (.ty n)
 | _=>none
theorem RelV.abs {x:V} {u:Value} (r:RelV x u):absV u = some x:=by
 cases x with
 | non=>cases r; rfl
 | bl _=>cases r; rfl
 | int _=>obtain ⟨t,rfl⟩:=r; rfl
 | str _=>obtain ⟨t,rfl⟩:=r; rfl
 | byt _=>obtain ⟨t,rfl⟩:=r; rfl
 | flt _=>obtain ⟨t,rfl⟩:=r; rfl
 | ref _=>cases r; rfl
 | ty _=>cases r; rfl
theorem RelV.inj {x y:V} {u:Value} (r:RelV x u) (q:RelV y u):x = y:=Option.some.inj (r.abs.symm.trans q.abs)
theorem Vals.inj:∀ {xs ys:List V} {us:List Value},Vals xs us->Vals ys us->xs = ys
 | _,_,_,.nil,.nil=>rfl
 | _,_,_,.cons r t,.cons r' t'=>by rw [r.inj r',Vals.inj t t']
section
variable {X:Cx} {pins:List (Addr × Obj)} {σ:St} {H:Hp} {s:Shared} {a:Addr} {xs ys:List V}
theorem SqL.of {K:PySem.W.Frag} (h:H a = some (.lst xs)):SqL K H a xs:=.inl (.inl h)
theorem Inv.list (I:Inv X pins σ H s) (h:SqL X.K H a xs):∃ its:List Value,Vals xs its/\PlainL s.heap a its.toArray/\xs.length<=sizeLine:=by
 rcases h with h | ⟨o,its,n,hk,hc,hd,hs,hz,r⟩
 ·obtain ⟨z,its,n,r,e⟩:=h.ok I.hok
  exact ⟨its,r,⟨_,n,e,rfl,rfl,rfl⟩,z⟩
 ·refine ⟨its.toList,r,⟨o,n,I.kIn a o hk,hc,hd,by simpa using hs⟩,?_⟩
  have e:=r.length
  simp only [Array.length_toList] at e
  omega
theorem Inv.tuple (I:Inv X pins σ H s) (h:SqT X.K H a xs):∃ its:List Value,Vals xs its/\IsTup s.heap a its.toArray/\xs.length<=sizeLine:=by
 rcases h with h | ⟨o,its,n,hk,hc,hs,hz,r⟩
 ·obtain ⟨z,its,r,p⟩:=h.ok I.hok
  exact ⟨its,r,p,z⟩
 ·refine ⟨its.toList,r,⟨o,I.kIn a o hk,hc,n,by simpa using hs⟩,?_⟩
  have e:=r.length
  simp only [Array.length_toList] at e
  omega
theorem Inv.list_inj (I:Inv X pins σ H s) (h:SqL X.K H a xs) (h':SqL X.K H a ys):xs = ys:=by
 obtain ⟨its,r,⟨o,n,e,_,_,d⟩,_⟩:=I.list h
 obtain ⟨its',r',⟨o',n',e',_,_,d'⟩,_⟩:=I.list h'
 rw [e] at e'; cases e'
 rw [d] at d'
 injection d' with d1 _
 have:its = its':=by simpa using congrArg Array.toList d1
 subst this
 exact r.inj r'
theorem Inv.tuple_inj (I:Inv X pins σ H s) (h:SqT X.K H a xs) (h':SqT X.K H a ys):xs = ys:=by
 obtain ⟨its,r,⟨o,e,_,n,d⟩,_⟩:=I.tuple h
 obtain ⟨its',r',⟨o',e',_,n',d'⟩,_⟩:=I.tuple h'
 rw [e] at e'; cases e'
 rw [d] at d'
 injection d' with d1 _
 have:its = its':=by simpa using congrArg Array.toList d1
 subst this
 exact r.inj r'
end
section
variable {X:Cx} {pins:List (Addr × Obj)} {σ:St} {H:Hp} {s:Shared} {E:Value->Shared->Prop}
end
section
variable {X:Cx} {st:Stmt} {rest:List Stmt} {t u:TS} {e:Expr} {te:TE} {pos:Pos}
noncomputable def tNext:TS:=fun D σ H=>D.nx σ H
noncomputable def tSeq (t u:TS):TS:=fun D σ H=>t { D with nx:=u D } σ H
theorem zjj:PSs X [] tNext:=fun _ _ σ H _ I h=>wpAny_execs_nil ⟨σ,H,I,h⟩
theorem zim (h1:PS X st t) (h2:PSs X rest u):PSs X (st::rest) (tSeq t u):=by
 intro pins s σ H D I h
 refine wpAny_execs_cons (thn (h1 pins s σ H { D with nx:=u D } I h) fun f s1 q=>?_)
 cases f with
 | next=>
  obtain ⟨σ',H',I',q⟩:=q
  exact h2 pins s1 σ' H' D I' q
 | ret v=>exact q
 | brk=>exact q
 | cont=>exact q
theorem Inv.quiet {pins:List (Addr × Obj)} {σ:St} {H:Hp} {s:Shared} (I:Inv X pins σ H s):interactive X.env = false:=by simp [interactive,I.ok.kind]
noncomputable def tDrop (te:TE):TS:=fun D σ H=>te σ H fun _ H1=>D.nx σ H1
theorem zkl (he:PE X e te) (hs:swapsWith e none pos.line X.env = pure false:=by rfl):PS X (.Expr e pos) (tDrop te):=by
 intro pins s σ H D I h
 exact wpAny_Expr_any (thn (he pins s σ H _ I h) fun v s1 ⟨x,H1,I1,r1,q1⟩=>⟨σ,H1,I1,q1⟩) I.quiet hs
noncomputable def tRet (te:TE):TS:=fun D σ H=>te σ H D.rt
theorem zlC (he:PE X e te):PS X (.Return (some e) pos) (tRet te):=by
 intro pins s σ H D I h
 exact wpAny_Return_some (thn (he pins s σ H _ I h) fun v s1 ⟨x,H1,I1,r1,q1⟩=>⟨x,σ,H1,I1,r1,q1⟩)
noncomputable def tIfS (c:TT) (t u:TS):TS:=fun D σ H=>c σ H fun b H1=>if b = true then t D σ H1 else u D σ H1
theorem znc {c:Expr} {a b:List Stmt} {tc:TT} (hc:PT X c tc) (ha:PSs X a t) (hb:PSs X b u):PS X (.If c a b pos) (tIfS tc t u):=by
 intro pins s σ H D I h
 refine wpAny_If (thn (hc pins s σ H _ I h) fun d s1 ⟨H1,I1,q1⟩=>?_)
 cases d with
 | true=>exact ha pins s1 σ H1 D I1 q1
 | false=>exact hb pins s1 σ H1 D I1 q1
end
noncomputable abbrev TG:=V->St->Hp->(St->Hp->Prop)->Prop
noncomputable abbrev TGs:=List V->St->Hp->(St->Hp->Prop)->Prop
noncomputable def PG (X:Cx) (target:Expr) (t:TG):Prop:=
 ∀ (pins:List (Addr × Obj)) (s:Shared) (σ:St) (H:Hp) (v:V) (u:Value) (Q:St->Hp->Prop),Inv X pins σ H s->RelV v u->t v σ H Q->
  wpAny (model X.prog X.w) X.A (assign target X.env u) (fun _ s'=>∃ σ' H',Inv X pins σ' H' s'/\Q σ' H') X.xe s
noncomputable def PGs (X:Cx) (ts:List Expr) (t:TGs):Prop:=
 ∀ (pins:List (Addr × Obj)) (s:Shared) (σ:St) (H:Hp) (vs:List V) (us:List Value) (Q:St->Hp->Prop),Inv X pins σ H s->Vals vs us->t vs σ H Q->
  wpAny (model X.prog X.w) X.A (assignInOrder ((assignEach ts X.env).map (·.2)) us) (fun _ s'=>∃ σ' H',Inv X pins σ' H' s'/\Q σ' H') X.xe s
noncomputable abbrev TSet:=V->V->V->Hp->(Hp->Prop)->Prop
noncomputable def PSet (X:Cx) (t:TSet):Prop:=
 ∀ (pins:List (Addr × Obj)) (s:Shared) (σ:St) (H:Hp) (o i v:V) (ov iv u:Value) (Q:Hp->Prop),Inv X pins σ H s->RelV o ov->RelV i iv->RelV v u->t o i v H Q->
  wpAny (model X.prog X.w) X.A (setItem ov iv u) (fun _ s'=>∃ H',Inv X pins σ H' s'/\Q H') X.xe s
section
variable {X:Cx} {pos:Pos}
noncomputable def gName (i:Nat):TG:=fun v σ H Q=>Q (σ.set i (some v)) H
theorem zdM {i:Nat} {x:Str} (hN:X.N.Nodup) (hi:X.N[i]? = some x) (hx:Loc X.env.scope x) (hf:X.fn x = true\/X.env.scope.names.lookup x = some .local:=by first | exact .inl rfl | exact .inr rfl | assumption):PG X (.Name x pos) (gName i):=by
 intro pins s σ H v u Q I r h
 exact wpAny_assign_Name (zfk I hN hi hx r (fun s' I'=>⟨_,H,I',h⟩) hf)
noncomputable def gNil:TGs:=fun vs σ H Q=>vs = []/\Q σ H
noncomputable def gCons (t:TG) (u:TGs):TGs:=fun vs σ H Q=>∃ v r,vs = v::r/\t v σ H fun σ' H'=>u r σ' H' Q
theorem zjI:PGs X [] gNil:=by
 intro pins s σ H vs us Q I r h
 obtain ⟨e,h⟩:=h
 subst e
 cases r
 exact assignInOrder_nil ⟨σ,H,I,h⟩
theorem zfF {e:Expr} {es:List Expr} {t:TG} {u:TGs} (h1:PG X e t) (h2:PGs X es u)
  (hs:(assignEach (e::es) X.env).map (·.2) = assign e X.env::(assignEach es X.env).map (·.2):=by rfl):PGs X (e::es) (gCons t u):=by
 intro pins s σ H vs us Q I r h
 obtain ⟨v,vr,e1,h⟩:=h
 subst e1
 cases r with
 | cons r rr=>
  rw [hs]
  refine assignInOrder_cons (thn (h1 pins s σ H _ _ _ I r h) fun _ s1 ⟨σ1,H1,I1,q1⟩=>?_)
  exact h2 pins s1 σ1 H1 _ _ Q I1 rr q1
noncomputable def gTup (K:PySem.W.Frag) (n:Nat) (t:TGs):TG:=fun v σ H Q=>∃ a xs,v = .ref a/\SqT K H a xs/\xs.length = n/\t xs σ H Q
theorem zkv {es:List Expr} {k:Nat} {t:TGs} {n:Nat} (hc:X.calm = true) (h:PGs X es t)
  (hn:(assignEach es X.env).length = n:=by rfl) (hst:(assignEach es X.env).findIdx? (·.1) = none:=by rfl):PG X (.Tuple es k pos) (gTup X.K n t):=by
 intro pins s σ H v u Q I r hw
 obtain ⟨a,xs,e1,hq,hl,hw⟩:=hw
 subst e1
 cases r
 obtain ⟨its,rv,ht,hz⟩:=I.tuple hq
 refine assign_Tuple_tuple (I.ok.hd hc) ht (by simp [hn,<- hl,rv.length]) hst fun h' hx=>?_
 have I1:Inv X pins σ H { s with heap:=h' }:=I.kept (t':=s.toks) fun b o e=>hx b o (Nat.ne_of_lt (Heap.lt_size e)) e
 exact h pins _ σ H xs _ Q I1 (by simpa using rv) hw
noncomputable def gSub (to ti:TE) (t:TSet):TG:=fun v σ H Q=>to σ H fun o H1=>ti σ H1 fun i H2=>t o i v H2 fun H3=>Q σ H3
theorem zlE {o i:Expr} {to ti:TE} {t:TSet} (ho:PE X o to) (hi:PE X i ti) (hs:PSet X t)
  (ha:∀ v,assign (.Subscript o i pos) X.env v = (do
   let ov <- holding [v] (eval o X.env)
   let iv <- holding [v,ov] (eval i X.env)
   standAt pos
   holding [v,ov,iv] (setItem ov iv v)
   release [v,ov,iv] []):=by intro _; rfl):PG X (.Subscript o i pos) (gSub to ti t):=by
 intro pins s σ H v u Q I r h
 rw [ha]
 refine wpAny_bind (wpAny_holding (thn (ho pins s σ H _ I h) fun ov s1 ⟨x,H1,I1,r1,q1⟩=>?_))
 refine wpAny_bind (wpAny_holding (thn (hi pins s1 σ H1 _ I1 q1) fun iv s2 ⟨y,H2,I2,r2,q2⟩=>?_))
 refine wpAny_bind (wpAny_standAt (wpAny_bind (wpAny_holding (thn (hs pins s2 σ H2 x y v ov iv u _ I2 r1 r2 r q2) fun _ s3 ⟨H3,I3,q3⟩=>?_))))
 exact wpAny_release ⟨σ,H3,I3,q3⟩
noncomputable def tAsg (te:TE) (g:TG):TS:=fun D σ H=>te σ H fun x H1=>g x σ H1 D.nx
theorem ziJ {tg e:Expr} {te:TE} {g:TG} (he:PE X e te) (hg:PG X tg g) (hs:swapsWithSole [tg] e pos.line X.env = pure false:=by rfl) (hw:swappedStores [tg] e X.env = pure none:=by rfl)
  (h1:(assignEach [tg] X.env).map (·.2) = [assign tg X.env]:=by rfl):PS X (.Assign [tg] e pos) (tAsg te g):=by
 intro pins s σ H D I h
 refine wpAny_Assign_stores (thn (he pins s σ H _ I h) fun v s1 ⟨x,H1,I1,r1,q1⟩=>?_) hs hw
 rw [h1]
 exact thn (hg pins s1 σ H1 x v _ I1 r1 q1) fun _ s2 q=>q
theorem zlp {i:Nat} {x:Str} {e:Expr} {te:TE} {pos':Pos} (hN:X.N.Nodup) (hi:X.N[i]? = some x) (hx:Loc X.env.scope x) (he:PE X e te) (hs:swapsWith e (some (.Name x pos')) pos.line X.env = pure false:=by rfl) (hf:X.fn x = true\/X.env.scope.names.lookup x = some .local:=by first | exact .inl rfl | exact .inr rfl | assumption) :
  PS X (.Assign [.Name x pos'] e pos) (tAsg te (gName i)):=by
 intro pins s σ H D I h
 refine wpAny_Assign_Name (thn (he pins s σ H _ I h) fun v s1 ⟨y,H1,I1,r1,q1⟩=>?_) hs
 exact zfk I1 hN hi hx r1 (fun s2 I2=>⟨_,H1,I2,q1⟩) hf
end
section
variable {X:Cx} {pos:Pos}
noncomputable def tWhile (c:TT) (tb:TS):TS:=fun D σ H=>∃ W:Nat->St->Hp->Prop,(∃ m,W m σ H)/\∀ m σ H,W m σ H->
 c σ H fun b H1=>if b = true then ∃ N:St->Hp->Prop,(∀ σ' H',N σ' H'->∃ m',m' < m/\W m' σ' H')/\tb { D with nx:=N,ct:=N,bk:=D.nx } σ H1 else D.nx σ H1
theorem zh7 {c:Expr} {body:List Stmt} {tc:TT} {tb:TS} (hp:PassesOwn (model X.prog X.w) X.A X.env X.xe) (hc:PT X c tc) (hb:PSs X body tb):PS X (.While c body [] pos) (tWhile tc tb):=by
 intro pins s σ H D I h
 obtain ⟨W,⟨m0,w0⟩,turn⟩:=h
 refine wpAny_While (codeAny_whileLoop (fun n s'=>∃ σ' H',Inv X pins σ' H' s'/\W n σ' H') ?_ m0 ⟨σ,H,I,w0⟩)
 rintro n s1 ⟨σ1,H1,I1,w1⟩
 refine wpAny_passesOwn hp (thn (hc pins s1 σ1 H1 _ I1 (turn n σ1 H1 w1)) fun b s2 ⟨H2,I2,q2⟩=>?_)
 cases b with
 | true=>
  obtain ⟨N,hN,q2⟩:=q2
  rw [if_pos rfl]
  refine wpAny_passesOwn hp (thn (hb pins s2 σ1 H2 _ I2 q2) fun f s3 q3=>?_)
  cases f with
  | next=>
   obtain ⟨σ3,H3,I3,n3⟩:=q3
   obtain ⟨m',hm,w3⟩:=hN σ3 H3 n3
   exact ⟨m',hm,σ3,H3,I3,w3⟩
  | cont=>
   obtain ⟨σ3,H3,I3,n3⟩:=q3
   obtain ⟨m',hm,w3⟩:=hN σ3 H3 n3
   exact ⟨m',hm,σ3,H3,I3,w3⟩
  | brk=>exact q3
  | ret v=>exact q3
 | false=>
  rw [if_neg Bool.false_ne_true]
  exact wpAny_execs_nil ⟨σ1,H2,I2,q2⟩
end
structure It where
 go:Nat->Hp->Prop
 yld:Nat->Hp->V->Hp->Prop
 stop:Nat->Hp->Prop
noncomputable def FpOk (X:Cx) (pins:List (Addr × Obj)) (H:Hp) (b:Addr):Prop:=
 H b = none/\b ≠ X.env.locals/\b ∉ X.fs/\(b ∈ X.ex\/X.s₀.heap.objs.size<=b)/\(∀ x c,X.env.cells.lookup x = some c->c ≠ b)/\∀ p ∈ X.pn ++ pins,p.1 ≠ b
theorem Inv.fpOk {X:Cx} {pins:List (Addr × Obj)} {σ:St} {H H':Hp} {s:Shared} {b:Addr} (I:Inv X pins σ H s) (hb:s.heap.objs.size<=b) (hn:H' b = none):FpOk X pins H' b:=by
 refine ⟨hn,Nat.ne_of_gt (Nat.lt_of_lt_of_le I.lt hb),I.nofs hb,.inr (Nat.le_trans I.sz hb),fun x c e z=>?_,fun p hp z=>?_⟩
 ·obtain ⟨v,q⟩:=I.cell x c e
  exact absurd (Nat.lt_of_lt_of_le q.lt (by rw [z]; exact hb)) (Nat.lt_irrefl _)
 ·exact absurd (Nat.lt_of_lt_of_le (Heap.lt_size (I.pin p hp).1) (by rw [z]; exact hb)) (Nat.lt_irrefl _)
structure Turn (P:Program) (w:World) (K:PySem.W.Frag) (tg:Expr) (J:It) (fp:List Addr) (it:Addr) (tn:Nat->Heap->Prop):Prop where
 mem:it ∈ fp
 obj:∀ i h,tn i h->∀ b ∈ fp,∃ o,h.get? b = some o/\∀ v,o.data ≠ .cell v
 keep:∀ i h h',tn i h->(∀ b ∈ fp,∀ o,h.get? b = some o->h'.get? b = some o)->tn i h'
 item:∀ (X:Cx),X.prog = P->X.w = w->X.K = K->X.calm = true->∀ (i:Nat) (pins:List (Addr × Obj)) (s:Shared) (σ:St) (H:Hp) (E:Value->Shared->Prop),Inv X pins σ H s->(∀ b ∈ fp,FpOk X pins H b)->tn i s.heap->J.go i H->
  wpAny (model P w) X.A (pyNext (.ref it)) (fun r s1=>∃ u,r = some u /\
   wpAny (model P w) X.A (letOwnedTupleGo tg (.ref it) u) (fun _ s2=>∃ x H',Inv X pins σ H' s2/\RelV x u/\J.yld i H x H'/\tn (i + 1) s2.heap/\∀ b ∈ fp,H' b = none) E s1) E s
 done:∀ (X:Cx),X.prog = P->X.w = w->X.K = K->X.calm = true->∀ (i:Nat) (pins:List (Addr × Obj)) (s:Shared) (σ:St) (H:Hp) (E:Value->Shared->Prop),Inv X pins σ H s->(∀ b ∈ fp,FpOk X pins H b)->tn i s.heap->J.stop i H->
  wpAny (model P w) X.A (pyNext (.ref it)) (fun r s1=>r = none/\Inv X pins σ H s1) E s
 self:∀ (A:Around) (i:Nat) (s:Shared) (Q:Value->Shared->Prop) (E:Value->Shared->Prop),tn i s.heap->Q (.ref it) s->wpAny (model P w) A (pyIter (.ref it)) Q E s
noncomputable abbrev TI:=St->Hp->(It->Hp->Prop)->Prop
noncomputable def PIE (X:Cx) (pins:List (Addr × Obj)) (σ:St) (tg:Expr) (R:It->Hp->Prop) (itv:Value) (s2:Shared):Prop:=
 ∃ (it:Addr) (fp:List Addr) (tn:Nat->Heap->Prop) (J:It) (H':Hp),itv = .ref it/\Inv X pins σ H' s2/\Turn X.prog X.w X.K tg J fp it tn/\tn 0 s2.heap/\(∀ b ∈ fp,FpOk X pins H' b)/\R J H'
noncomputable def PI (X:Cx) (tg iter:Expr) (wi:TI):Prop:=
 ∀ (pins:List (Addr × Obj)) (s:Shared) (σ:St) (H:Hp) (R:It->Hp->Prop),Inv X pins σ H s->wi σ H R->
  wpAny (model X.prog X.w) X.A (eval iter X.env) (fun v s1=>wpAny (model X.prog X.w) X.A (pyIter v) (PIE X pins σ tg R) X.xe s1) X.xe s
theorem zkc {M:Model} {A:Around} {E:Value->Shared->Prop} {s:Shared} {tg:Expr} {it:Addr} {u:Value} {o:Obj} {n:String} {vs:Array Value} {Q:Unit->Shared->Prop} (ho:s.heap.get? it = some o) (hc:o.cls = .type n) (hd:o.data = .fields vs)
  (hn:["enumerate","zip","dict_itemiterator","dict_reverseitemiterator","odict_iterator","itertools.zip_longest","itertools.pairwise"].contains n = false) (hQ:Q () s):wpAny M A (letOwnedTupleGo tg (.ref it) u) Q E s:=by
 unfold letOwnedTupleGo
 cases tg <;> first
  | exact wpAny_pure hQ
  | (cases u <;> first
    | exact wpAny_pure hQ
    | (refine wpAny_bind (wpAny_load ho ?_)
       rw [hc,hd]
       show wpAny M A (if (["enumerate","zip","dict_itemiterator","dict_reverseitemiterator","odict_iterator","itertools.zip_longest","itertools.pairwise"].contains n && vs[0]? == some (rawInt _)) = true then _ else _) Q E s
       rw [if_neg (by intro h; rw [hn,Bool.false_and] at h; cases h)]
       exact wpAny_pure hQ))
noncomputable def Itl (K:PySem.W.Frag) (a:Addr):It:=
 ⟨fun i H=>∃ xs x,SqL K H a xs/\xs[i]? = some x,fun i H x H'=>H' = H/\∀ xs,SqL K H a xs->xs[i]? = some x,fun i H=>∃ xs,SqL K H a xs/\xs.length<=i⟩
noncomputable def Itt (K:PySem.W.Frag) (a:Addr):It:=
 ⟨fun i H=>∃ xs x,SqT K H a xs/\xs[i]? = some x,fun i H x H'=>H' = H/\∀ xs,SqT K H a xs->xs[i]? = some x,fun i H=>∃ xs,SqT K H a xs/\xs.length<=i⟩
noncomputable def Itr (lo:Int) (n:Nat):It:=⟨fun i _=>i < n,fun i H x H'=>H' = H/\x = .int (lo + i),fun i _=>n<=i⟩
theorem zgC {P:Program} {w:World} {K:PySem.W.Frag} {tg:Expr} (a it:Addr):Turn P w K tg (Itl K a) [it] it (fun i h=>h.IsListIter it a i) where
 mem:=by simp
 obj:=fun i h st b hb=>by
  have e:b = it:=by simpa using hb
  subst e
  obtain ⟨o,e,c,d⟩:=st
  exact ⟨o,e,fun v z=>by rw [d] at z; cases z⟩
 keep:=fun i h h' st k=>st.at fun o e=>k it (by simp) o e
 item:=by
  intro X hP hw hK hc i pins s σ H E I hf st hg
  subst hP hw hK
  obtain ⟨xs,x,hq,hx⟩:=hg
  obtain ⟨its,rv,p,hz⟩:=I.list hq
  obtain ⟨u,hu,ru⟩:=rv.get hx
  obtain ⟨f0,f1,f2,f3,f4,f5⟩:=hf it (by simp)
  refine wpAny_pyNext_list_item st p.isList (x:=u) (by simpa using hu) fun h' st' sb=>?_
  have I1:Inv X pins σ H { s with heap:=h' }:=I.turned (t':=s.toks) (fun b o hb e=>(sb.2 b hb).trans e) f0 f1 f3 f4 f5
  obtain ⟨o,e,c,d⟩:=id st'
  exact ⟨u,rfl,zkc (s:={ s with heap:=h' }) e c d (by decide) ⟨x,H,I1,ru,⟨rfl,fun ys hy=>by rw [I.list_inj hy hq]; exact hx⟩,st',fun b hb=>(hf b hb).1⟩⟩
 done:=by
  intro X hP hw hK hc i pins s σ H E I hf st hg
  subst hP hw hK
  obtain ⟨xs,hq,hx⟩:=hg
  obtain ⟨its,rv,p,hz⟩:=I.list hq
  obtain ⟨f0,f1,f2,f3,f4,f5⟩:=hf it (by simp)
  have hl:=rv.length
  exact wpAny_pyNext_list_end (I.ok.hd hc) st p.isList (by simp; omega) fun h' eb=>⟨rfl,I.turned (t':=s.toks) (fun b o hb e=>eb b o hb e) f0 f1 f3 f4 f5⟩
 self:=fun _ _ _ _ _ st h=>wpAny_pyIter_listiter st h
theorem zfZ {P:Program} {w:World} {K:PySem.W.Frag} {tg:Expr} (a it:Addr):Turn P w K tg (Itt K a) [it] it (fun i h=>h.IsTupleIter it a i) where
 mem:=by simp
 obj:=fun i h st b hb=>by
  have e:b = it:=by simpa using hb
  subst e
  obtain ⟨o,e,c,d⟩:=st
  exact ⟨o,e,fun v z=>by rw [d] at z; cases z⟩
 keep:=fun i h h' st k=>st.at fun o e=>k it (by simp) o e
 item:=by
  intro X hP hw hK hc i pins s σ H E I hf st hg
  subst hP hw hK
  obtain ⟨xs,x,hq,hx⟩:=hg
  obtain ⟨its,rv,p,hz⟩:=I.tuple hq
  obtain ⟨u,hu,ru⟩:=rv.get hx
  obtain ⟨f0,f1,f2,f3,f4,f5⟩:=hf it (by simp)
  refine wpAny_pyNext_tuple_item st (show s.heap.IsTuple a its.toArray from p) (x:=u) (by simpa using hu) fun h' st' sb=>?_
  have I1:Inv X pins σ H { s with heap:=h' }:=I.turned (t':=s.toks) (fun b o hb e=>(sb.2 b hb).trans e) f0 f1 f3 f4 f5
  obtain ⟨o,e,c,d⟩:=id st'
  exact ⟨u,rfl,zkc (s:={ s with heap:=h' }) e c d (by decide) ⟨x,H,I1,ru,⟨rfl,fun ys hy=>by rw [I.tuple_inj hy hq]; exact hx⟩,st',fun b hb=>(hf b hb).1⟩⟩
 done:=by
  intro X hP hw hK hc i pins s σ H E I hf st hg
  subst hP hw hK
  obtain ⟨xs,hq,hx⟩:=hg
  obtain ⟨its,rv,p,hz⟩:=I.tuple hq
  obtain ⟨f0,f1,f2,f3,f4,f5⟩:=hf it (by simp)
  have hl:=rv.length
  exact wpAny_pyNext_tuple_end (I.ok.hd hc) st (show s.heap.IsTuple a its.toArray from p) (by simp; omega) fun h' eb=>⟨rfl,I.turned (t':=s.toks) (fun b o hb e=>eb b o hb e) f0 f1 f3 f4 f5⟩
 self:=fun _ _ _ _ _ st h=>wpAny_pyIter_tupleiter st h
theorem zf5 {P:Program} {w:World} {K:PySem.W.Frag} {tg:Expr} (it:Addr) (lo:Int) (n:Nat):Turn P w K tg (Itr lo n) [it] it (fun i h=>IsRangeIter h it (lo + (i:Nat) * 1) ((n:Int) - (i:Nat)) 1) where
 mem:=by simp
 obj:=fun i h st b hb=>by
  have e:b = it:=by simpa using hb
  subst e
  exact ⟨_,st,fun v z=>by
   have z':Data.fields _ = Data.cell v:=z
   cases z'⟩
 keep:=fun i h h' st k=>k it (by simp) _ st
 item:=by
  intro X hP hw hK hc i pins s σ H E I hf st hg
  subst hP hw hK
  obtain ⟨f0,f1,f2,f3,f4,f5⟩:=hf it (by simp)
  have W:=Walks.range (prog:=X.prog) (w:=X.w) (I.ok.hd hc) it lo 1 n
  refine W.item i s _ _ hg st fun v h' tk hv st' kk=>?_
  obtain ⟨t,rfl⟩:=hv
  have I1:Inv X pins σ H { s with heap:=h',toks:=tk }:=I.turned (fun b o hb e=>kk b o (by simpa using hb) e) f0 f1 f3 f4 f5
  refine ⟨_,rfl,zkc (s:={ s with heap:=h',toks:=tk }) (n:="range_iterator") st' rfl rfl (by decide) ⟨.int (lo + i),H,I1,⟨t,?_⟩,⟨rfl,rfl⟩,st',fun b hb=>(hf b hb).1⟩⟩
  rw [Int.mul_one]
 done:=by
  intro X hP hw hK hc i pins s σ H E I hf st hg
  subst hP hw hK
  obtain ⟨f0,f1,f2,f3,f4,f5⟩:=hf it (by simp)
  exact wpAny_pyNext_range_end (I.ok.hd hc) st (by have:n<=i:=hg; omega) fun h' eb=>⟨rfl,I.turned (t':=s.toks) (fun b o hb e=>eb b o hb e) f0 f1 f3 f4 f5⟩
 self:=fun _ _ _ _ _ st h=>wpAny_pyIter_rangeiter st h
end L2
namespace L2
open PySem PySem.Spec PyProof.Rows
section
variable {X:Cx} {tg:Expr}
theorem zfd {pins:List (Addr × Obj)} {σ:St} {H:Hp} {s:Shared} {R:It->Hp->Prop} {E:Value->Shared->Prop} {lo hi:Int} {t u v:Tok} {tk:Nat} (I:Inv X pins σ H s) (h1 : -(2 ^ 62)<=lo) (h2:lo < 2 ^ 62) (h3 : -(2 ^ 62)<=hi) (h4:hi < 2 ^ 62)
  (q:R (Itr lo (hi - lo).toNat) H):wpAny (model X.prog X.w) X.A (pyIter (.ref s.heap.objs.size)) (PIE X pins σ tg R) E { s with heap:=s.heap.push { cls:=.type "range",data:=.fields #[.int lo t,.int hi u,.int 1 v] },toks:=tk }:=by
 refine wpAny_pyIter_range (IsRange.new ..) (small_one h1 h2 h3 h4) ?_
 have I1:Inv X pins σ H { s with heap:=s.heap.push { cls:=.type "range",data:=.fields #[.int lo t,.int hi u,.int 1 v] },toks:=tk }:=I.kept fun b o e=>Heap.get?_push_of_some _ e
 refine ⟨(s.heap.push { cls:=.type "range",data:=.fields #[.int lo t,.int hi u,.int 1 v] }).objs.size,[(s.heap.push { cls:=.type "range",data:=.fields #[.int lo t,.int hi u,.int 1 v] }).objs.size],_,_,H,rfl,
  I1.kept (t':=tk) fun b o e=>Heap.get?_push_of_some _ e,zf5 _ lo (hi - lo).toNat,?_,fun b hb=>?_,q⟩
 ·have e1:lo + ((0:Nat):Int) * 1 = lo:=by simp
  have e2:(((hi - lo).toNat:Nat):Int) - ((0:Nat):Int) = Builtin.Range.rangeSize lo hi 1:=by rw [rangeSize_one]; split <;> omega
  show IsRangeIter _ _ (lo + ((0:Nat):Int) * 1) ((((hi - lo).toNat:Nat):Int) - ((0:Nat):Int)) 1
  rw [e1,e2]
  exact Heap.get?_push_size _ rfl
 ·have e:b = (s.heap.push { cls:=.type "range",data:=.fields #[.int lo t,.int hi u,.int 1 v] }).objs.size:=by simpa using hb
  subst e
  exact I1.fpOk (Nat.le_refl _) (I1.hok.fresh (Nat.le_refl _))
noncomputable def iRng1 (ta:TA):TI:=fun σ H R=>ta σ H fun vs H1=>∃ j:Int,vs = [.int j]/\-(2 ^ 62)<=j/\j < 2 ^ 62/\R (Itr 0 j.toNat) H1
noncomputable def iRng2 (ta:TA):TI:=fun σ H R=>ta σ H fun vs H1=>∃ i j:Int,vs = [.int i,.int j]/\(-(2 ^ 62)<=i/\i < 2 ^ 62/\-(2 ^ 62)<=j/\j < 2 ^ 62)/\R (Itr i (j - i).toNat) H1
theorem zhj {a:Expr} {ta:TA} {p pos:Pos} (hg:Gl X "range") (hm:X.mg "range" = none) (ha:PA X [a] ta) (hs:starEach [a] X.env = [(false,eval a X.env)]:=by rfl):PI X tg (.Call (.Name "range" p) [a] [] pos) (iRng1 ta):=by
 intro pins s σ H R I h
 refine Call_ (zdf I hg hm boot_range (PyProof.Rows.callWith_type1 (thn (ha pos pins s σ H _ I h) fun us s1 ⟨vs,H1,I1,r1,q1⟩=>?_) hs rfl))
 obtain ⟨j,e,q1,q2,q⟩:=q1
 subst e
 cases r1 with
 | cons r rr=>
  cases rr
  obtain ⟨t,rfl⟩:=r
  exact call_range_1 (zfd I1 (by omega) (by omega) q1 q2 (by simpa using q))
theorem zgu {a b:Expr} {ta:TA} {p pos:Pos} (hg:Gl X "range") (hm:X.mg "range" = none) (ha:PA X [a,b] ta) (hs:starEach [a,b] X.env = [(false,eval a X.env),(false,eval b X.env)]:=by rfl) (hs2:starEach [b] X.env = [(false,eval b X.env)]:=by rfl) :
  PI X tg (.Call (.Name "range" p) [a,b] [] pos) (iRng2 ta):=by
 intro pins s σ H R I h
 refine Call_ (zdf I hg hm boot_range (PyProof.Rows.callWith_type1 (thn (ha pos pins s σ H _ I h) fun us s1 ⟨vs,H1,I1,r1,q1⟩=>?_) (by rw [hs,hs2]) (by rw [hs2]; rfl)))
 obtain ⟨i,j,e,⟨q1,q2,q3,q4⟩,q⟩:=q1
 subst e
 cases r1 with
 | cons r rr=>
  cases rr with
  | cons r' rr=>
   cases rr
   obtain ⟨t,rfl⟩:=r
   obtain ⟨t',rfl⟩:=r'
   exact call_range_2 (zfd I1 q1 q2 q3 q4 q)
noncomputable def tFor (wi:TI) (g:TG) (tb:TS):TS:=fun D σ H=>wi σ H fun J H1=>∃ W:Nat->Nat->St->Hp->Prop,(∃ m,W 0 m σ H1)/\∀ i m σ H,W i m σ H->
 (J.stop i H/\D.nx σ H)\/(J.go i H/\∃ N:St->Hp->Prop,(∀ σ' H',N σ' H'->∃ m',m' < m/\W (i + 1) m' σ' H')/\∀ x H',J.yld i H x H'->g x σ H' fun σ2 H2=>tb { D with nx:=N,ct:=N,bk:=D.nx } σ2 H2)
noncomputable def pinsAt (fp:List Addr) (h:Heap):List (Addr × Obj):=fp.filterMap fun b=>(h.get? b).map fun o=>(b,o)
theorem zbu {fp:List Addr} {h:Heap} {b:Addr} {o:Obj} (hb:b ∈ fp) (e:h.get? b = some o):(b,o) ∈ pinsAt fp h:=List.mem_filterMap.mpr ⟨b,hb,by rw [e]; rfl⟩
theorem zgi {fp:List Addr} {h:Heap} {p:Addr × Obj} (hp:p ∈ pinsAt fp h):p.1 ∈ fp/\h.get? p.1 = some p.2:=by
 obtain ⟨b,hb,e⟩:=List.mem_filterMap.mp hp
 cases q:h.get? b with
 | none=>rw [q] at e; cases e
 | some o=>
  rw [q] at e
  have e':(b,o) = p:=Option.some.inj e
  subst e'
  exact ⟨hb,q⟩
theorem Inv.pinned {pins:List (Addr × Obj)} {σ:St} {H:Hp} {s:Shared} {fp:List Addr} (I:Inv X pins σ H s) (hf:∀ b ∈ fp,FpOk X pins H b) (ho:∀ b ∈ fp,∃ o,s.heap.get? b = some o/\∀ v,o.data ≠ .cell v):Inv X (pins ++ pinsAt fp s.heap) σ H s:=
 I.pins_of fun p hp=>(List.mem_append.mp hp).elim (fun z=>I.pin p (List.mem_append_right _ z)) fun z=>by
  obtain ⟨hb,e⟩:=zgi z
  obtain ⟨f0,f1,f2,_⟩:=hf p.1 hb
  obtain ⟨o,e',d⟩:=ho p.1 hb
  rw [e] at e'; cases e'
  exact ⟨e,f0,f1,f2,d⟩
theorem Inv.unpinned {pins pl:List (Addr × Obj)} {σ:St} {H:Hp} {s:Shared} (I:Inv X (pins ++ pl) σ H s):Inv X pins σ H s:=I.pins_of fun p hp=>I.pin p (List.mem_append_right _ (List.mem_append_left _ hp))
theorem zkx {iter:Expr} {body:List Stmt} {wi:TI} {g:TG} {tb:TS} {pos:Pos} (hp:PassesOwn (model X.prog X.w) X.A X.env X.xe) (hc:X.calm = true) (hi:PI X tg iter wi) (hg:PG X tg g) (hb:PSs X body tb)
  (hs:∀ x,foldedSetIterable iter X.env x = pure x:=by intro _; rfl):PS X (.For tg iter body [] pos) (tFor wi g tb):=by
 intro pins s σ H D I h
 refine wpAny_For (thn (hi pins s σ H _ I h) fun v s1 h1=>thn h1 fun itv s2 h2=>?_) hs
 obtain ⟨it,fp,tn,J,H2,e,I2,T,st2,f2,W,⟨m0,w0⟩,turn⟩:=h2
 subst e
 have stat:∀ {H':Hp},(∀ b ∈ fp,H' b = none)->∀ b ∈ fp,FpOk X pins H' b:=fun hn b hb=>⟨hn b hb,(f2 b hb).2⟩
 refine codeAny_forLoop_any (fun n s'=>∃ i σ' H',Inv X pins σ' H' s'/\tn i s'.heap/\(∀ b ∈ fp,H' b = none)/\W i n σ' H') ?_ m0 ⟨0,σ,H2,I2,st2,fun b hb=>(f2 b hb).1,w0⟩
 rintro n s3 ⟨i,σ3,H3,I3,st3,fr3,w3⟩
 rcases turn i n σ3 H3 w3 with ⟨stop,qn⟩ | ⟨go,N,hN,step⟩
 ·refine wpAny_passesOwn hp (thn (T.done X rfl rfl rfl hc i pins s3 σ3 H3 X.xe I3 (stat fr3) st3 stop) fun r s4 ⟨hr,I4⟩=>?_)
  subst hr
  exact wpAny_execs_nil ⟨σ3,H3,I4,qn⟩
 ·refine wpAny_passesOwn hp (thn (T.item X rfl rfl rfl hc i pins s3 σ3 H3 X.xe I3 (stat fr3) st3 go) fun r s4 ⟨u,hr,h4⟩=>?_)
  subst hr
  refine wpAny_passesOwn hp (thn h4 fun _ s5 ⟨x,H5,I5,r5,y5,st5,fr5⟩=>?_)
  have I5':=I5.pinned (stat fr5) (T.obj _ _ st5)
  refine wpAny_passesOwn hp (thn (hg _ s5 σ3 H5 x u _ I5' r5 (step x H5 y5)) fun _ s6 ⟨σ6,H6,I6,q6⟩=>?_)
  refine wpAny_passesOwn hp (thn (hb _ s6 σ6 H6 _ I6 q6) fun f s7 q7=>?_)
  have again:∀ {σ7:St} {H7:Hp},Inv X (pins ++ pinsAt fp s5.heap) σ7 H7 s7->N σ7 H7->∃ m,m < n/\∃ i σ' H',Inv X pins σ' H' s7/\tn i s7.heap/\(∀ b ∈ fp,H' b = none)/\W i m σ' H':=fun {σ7 H7} I7 n7=>by
   obtain ⟨m',hm,w7⟩:=hN σ7 H7 n7
   refine ⟨m',hm,i + 1,σ7,H7,I7.unpinned,T.keep _ _ _ st5 fun b hb o e=>(I7.pin (b,o) (List.mem_append_right _ (List.mem_append_right _ (zbu hb e)))).1,fun b hb=>?_,w7⟩
   obtain ⟨o,e,d⟩:=T.obj _ _ st5 b hb
   exact (I7.pin (b,o) (List.mem_append_right _ (List.mem_append_right _ (zbu hb e)))).2.1
  cases f with
  | next=>obtain ⟨σ7,H7,I7,n7⟩:=q7; exact again I7 n7
  | cont=>obtain ⟨σ7,H7,I7,n7⟩:=q7; exact again I7 n7
  | brk=>obtain ⟨σ7,H7,I7,q7⟩:=q7; exact ⟨σ7,H7,I7.unpinned,q7⟩
  | ret v=>obtain ⟨x7,σ7,H7,I7,r7,q7⟩:=q7; exact ⟨x7,σ7,H7,I7.unpinned,r7,q7⟩
end
end L2
namespace L2
open PySem PySem.Spec PyProof.Rows
noncomputable abbrev R2:=V->V->Hp->VK->Prop
noncomputable def OpR (X:Cx) (f:Value->Value->Sem Value) (r:R2):Prop:=
 ∀ (pins:List (Addr × Obj)) (s:Shared) (σ:St) (H:Hp) (x y:V) (v u:Value) (Q:VK),Inv X pins σ H s->RelV x v->RelV y u->r x y H Q->
  wpAny (model X.prog X.w) X.A (f v u) (EP X pins σ Q) X.xe s
noncomputable def UnR (X:Cx) (f:Value->Sem Value) (r:V->Hp->VK->Prop):Prop:=
 ∀ (pins:List (Addr × Obj)) (s:Shared) (σ:St) (H:Hp) (x:V) (v:Value) (Q:VK),Inv X pins σ H s->RelV x v->r x H Q->
  wpAny (model X.prog X.w) X.A (f v) (EP X pins σ Q) X.xe s
noncomputable def CallR (X:Cx) (f:Value) (r:List V->Hp->VK->Prop):Prop:=
 ∀ (pins:List (Addr × Obj)) (s:Shared) (σ:St) (H:Hp) (xs:List V) (us:List Value) (Q:VK),Inv X pins σ H s->Vals xs us->r xs H Q->
  wpAny (model X.prog X.w) X.A (call f us) (EP X pins σ Q) X.xe s
noncomputable def tOp (r:R2) (ta tb:TE):TE:=fun σ H Q=>ta σ H fun x H1=>tb σ H1 fun y H2=>r x y H2 Q
noncomputable def tUn (r:V->Hp->VK->Prop) (ta:TE):TE:=fun σ H Q=>ta σ H fun x H1=>r x H1 Q
noncomputable def rI (C:Int->Int->Prop) (g:Int->Int->V):R2:=fun x y H Q=>∃ i j,x = .int i/\y = .int j/\C i j/\Q (g i j) H
noncomputable def rI0 (g:Int->Int->V):R2:=fun x y H Q=>∃ i j,x = .int i/\y = .int j/\Q (g i j) H
noncomputable def rU (g:Int->V):V->Hp->VK->Prop:=fun x H Q=>∃ i,x = .int i/\Q (g i) H
section
variable {X:Cx} {a b c:Expr} {ta tb tc:TE} {pos:Pos}
theorem binT (ha:PE X a ta) (hb:PE X b tb) {pins:List (Addr × Obj)} {s:Shared} {σ:St} {H:Hp} {R:V->V->Hp->Prop} (I:Inv X pins σ H s)
  (h:ta σ H fun x H1=>tb σ H1 fun y H2=>R x y H2) {Q:Value->Shared->Prop} {f:Value->Value->Sem Value}
  (hf:∀ v u s2 x y H2,Inv X pins σ H2 s2->RelV x v->RelV y u->R x y H2->wpAny (model X.prog X.w) X.A (f v u) Q X.xe s2) :
  wpAny (model X.prog X.w) X.A (eval a X.env) (fun v s₁=>wpAny (model X.prog X.w) X.A (eval b X.env) (fun u s₂=>wpAny (model X.prog X.w) X.A (f v u) Q X.xe s₂) X.xe s₁) X.xe s:=by
 refine thn (ha pins s σ H _ I h) fun v s1 ⟨x,H1,I1,r1,q1⟩=>?_
 refine thn (hb pins s1 σ H1 _ I1 q1) fun u s2 ⟨y,H2,I2,r2,q2⟩=>?_
 exact hf v u s2 x y H2 I2 r1 r2 q2
theorem zmq {op:Operator} {r:R2} (ho:OpR X (binaryOp op) r) (ha:PE X a ta) (hb:PE X b tb):PE X (.BinOp a op b pos) (tOp r ta tb):=by
 intro pins s σ H Q I h
 exact wpAny_BinOp (binT ha hb I h fun v u s2 x y H2 I2 rx ry q=>ho pins s2 σ H2 x y v u Q I2 rx ry q)
theorem zmI {op:UnaryOp} {r:V->Hp->VK->Prop} (ho:UnR X (unaryOp op) r) (ha:PE X a ta):PE X (.UnaryOp op a pos) (tUn r ta):=by
 intro pins s σ H Q I h
 exact UnaryOp_ (thn (ha pins s σ H _ I h) fun v s1 ⟨x,H1,I1,r1,q1⟩=>ho pins s1 σ H1 x v Q I1 r1 q1)
theorem opI {f:Value->Value->Sem Value} {C:Int->Int->Prop} {g:Int->Int->Int}
  (rule:∀ (i j:Int) (t u:Tok) (s:Shared) (Q:Value->Shared->Prop) (E:Value->Shared->Prop),C i j->Q (.int (g i j) s.toks) { s with toks:=s.toks + 1 }->wpAny (model X.prog X.w) X.A (f (.int i t) (.int j u)) Q E s) :
  OpR X f (rI C fun i j=>.int (g i j)):=by
 intro pins s σ H x y v u Q I rx ry h
 obtain ⟨i,j,rfl,rfl,hc,q⟩:=h
 obtain ⟨t,rfl⟩:=rx
 obtain ⟨t',rfl⟩:=ry
 exact rule i j t t' s _ _ hc ⟨.int (g i j),H,I.tok _,⟨_,rfl⟩,q⟩
theorem opI0 {f:Value->Value->Sem Value} {g:Int->Int->Int}
  (rule:∀ (i j:Int) (t u:Tok) (s:Shared) (Q:Value->Shared->Prop) (E:Value->Shared->Prop),Q (.int (g i j) s.toks) { s with toks:=s.toks + 1 }->wpAny (model X.prog X.w) X.A (f (.int i t) (.int j u)) Q E s) :
  OpR X f (rI0 fun i j=>.int (g i j)):=by
 intro pins s σ H x y v u Q I rx ry h
 obtain ⟨i,j,rfl,rfl,q⟩:=h
 obtain ⟨t,rfl⟩:=rx
 obtain ⟨t',rfl⟩:=ry
 exact rule i j t t' s _ _ ⟨.int (g i j),H,I.tok _,⟨_,rfl⟩,q⟩
theorem opB0 {f:Value->Value->Sem Value} {g:Int->Int->Bool}
  (rule:∀ (i j:Int) (t u:Tok) (s:Shared) (Q:Value->Shared->Prop) (E:Value->Shared->Prop),Q (.bool (g i j)) s->wpAny (model X.prog X.w) X.A (f (.int i t) (.int j u)) Q E s) :
  OpR X f (rI0 fun i j=>.bl (g i j)):=by
 intro pins s σ H x y v u Q I rx ry h
 obtain ⟨i,j,rfl,rfl,q⟩:=h
 obtain ⟨t,rfl⟩:=rx
 obtain ⟨t',rfl⟩:=ry
 exact rule i j t t' s _ _ ⟨.bl (g i j),H,I,rfl,q⟩
noncomputable def CDiv (i j:Int):Prop:=0 < j/\j < 1073741824
noncomputable def CPow (i j:Int):Prop:=0<=j/\j<=1000000/\i.natAbs < 2 ^ 64
noncomputable def CMul (i j:Int):Prop:=(-(2 ^ 64) < i/\i < 2 ^ 64)\/(-(2 ^ 64) < j/\j < 2 ^ 64)
theorem CMul.ok {i j:Int} (h:CMul i j):IntMulOk i j:=by
 rcases h with ⟨h1,h2⟩ | ⟨h1,h2⟩
 ·exact .of_left (intBits_le_64 h1 h2)
 ·exact .of_right (intBits_le_64 h1 h2)
theorem op_add:OpR X (binaryOp .Add) (rI0 fun i j=>.int (i + j)):=opI0 fun _ _ _ _ _ _ _ q=>add_int q
theorem zk7:OpR X (binaryOp .Sub) (rI0 fun i j=>.int (i - j)):=opI0 fun _ _ _ _ _ _ _ q=>sub_int q
theorem zlU:OpR X (binaryOp .Mult) (rI CMul fun i j=>.int (i * j)):=opI fun _ _ _ _ _ _ _ hc q=>mul_int q hc.ok
theorem zjH:OpR X (binaryOp .FloorDiv) (rI CDiv fun i j=>.int (i / j)):=opI fun i j _ _ _ _ _ hc q=>by
 have h1:(0:Int) < j:=hc.1
 have h2:j < 1073741824:=hc.2
 exact floordiv_int (by omega) (by rw [Int.fdiv_eq_ediv_of_nonneg i (by omega)]; exact q) (.inl (PyProof.noPylong_small (by omega)))
theorem zmm:OpR X (binaryOp .Mod) (rI (fun _ j=>0 < j) fun i j=>.int (i % j)):=opI fun i j _ _ _ _ _ hc q=>by
 have h1:(0:Int) < j:=hc
 exact mod_int' (by omega) (by rw [Int.fmod_eq_emod_of_nonneg i (by omega)]; exact q)
theorem zks:OpR X (binaryOp .Pow) (rI CPow fun i j=>.int (i ^ j.toNat)):=opI fun _ _ _ _ _ _ _ hc q=>pow_int_small hc.1 hc.2.1 hc.2.2 q
theorem unI {f:Value->Sem Value} {g:Int->Int}
  (rule:∀ (i:Int) (t:Tok) (s:Shared) (Q:Value->Shared->Prop) (E:Value->Shared->Prop),Q (.int (g i) s.toks) { s with toks:=s.toks + 1 }->wpAny (model X.prog X.w) X.A (f (.int i t)) Q E s) :
  UnR X f (rU fun i=>.int (g i)):=by
 intro pins s σ H x v Q I rx h
 obtain ⟨i,rfl,q⟩:=h
 obtain ⟨t,rfl⟩:=rx
 exact rule i t s _ _ ⟨.int (g i),H,I.tok _,⟨_,rfl⟩,q⟩
theorem zmc:UnR X (unaryOp .USub) (rU fun i=>.int (-i)):=unI fun _ _ _ _ _ q=>neg_int q
end
section
variable {X:Cx} {a b c:Expr} {ta tb tc:TE} {pos:Pos}
theorem op_lt:OpR X (compareOp .Lt) (rI0 fun i j=>.bl (decide (i < j))):=opB0 fun _ _ _ _ _ _ _ q=>lt_int q
theorem zmL:OpR X (compareOp .LtE) (rI0 fun i j=>.bl (decide (i<=j))):=opB0 fun _ _ _ _ _ _ _ q=>le_int q
theorem zmx:OpR X (compareOp .GtE) (rI0 fun i j=>.bl (decide (j<=i))):=opB0 fun _ _ _ _ _ _ _ q=>ge_int q
theorem OpR.or {f:Value->Value->Sem Value} {r r':R2} (h:OpR X f r) (h':OpR X f r'):OpR X f (fun x y H Q=>r x y H Q\/r' x y H Q):=by
 intro pins s σ H x y v u Q I rx ry q
 rcases q with q | q
 ·exact h pins s σ H x y v u Q I rx ry q
 ·exact h' pins s σ H x y v u Q I rx ry q
theorem zkf {op:CmpOp} {r:R2} (ho:OpR X (compareOp op) r) (ha:PE X a ta) (hb:PE X b tb) (hm:behindInMarks op b = false):PE X (.Compare a [op] [b] pos) (tOp r ta tb):=by
 intro pins s σ H Q I h
 exact wpAny_Compare1 (binT ha hb I h fun v u s2 x y H2 I2 rx ry q=>ho pins s2 σ H2 x y v u Q I2 rx ry q) hm
noncomputable def tTest (t:TE):TT:=fun σ H Q=>t σ H fun x H'=>∃ k,x = .bl k/\Q k H'
theorem zke {op:CmpOp} {r:R2} (ho:OpR X (compareOp op) r) (ha:PE X a ta) (hb:PE X b tb) (hm:behindInMarks op b = false):PT X (.Compare a [op] [b] pos) (tTest (tOp r ta tb)):=by
 intro pins s σ H Q I h
 refine wpAny_isTrue_Compare1 (thn (ha pins s σ H _ I h) fun v s1 ⟨x,H1,I1,r1,q1⟩=>thn (hb pins s1 σ H1 _ I1 q1) fun u s2 ⟨y,H2,I2,r2,q2⟩=>
  thn (ho pins s2 σ H2 x y v u _ I2 r1 r2 q2) fun c s3 ⟨z,H3,I3,r3,k,e,q3⟩=>?_) hm
 subst e
 cases r3
 exact wpAny_truthy_bool ⟨H3,I3,q3⟩
noncomputable def tChain (r r':R2) (ta tb tc:TE):TE:=fun σ H Q=>ta σ H fun x H1=>tb σ H1 fun y H2=>r x y H2 fun z H3=>∃ k,z = .bl k /\
 (if k = true then tc σ H3 fun w' H4=>r' y w' H4 Q else Q (.bl false) H3)
theorem zh5 {op op':CmpOp} {r r':R2} (ho:OpR X (compareOp op) r) (ho':OpR X (compareOp op') r') (ha:PE X a ta) (hb:PE X b tb) (hc:PE X c tc)
  (hm:lastMarks [op,op'] [b,c] = false:=by with_unfolding_all rfl):PE X (.Compare a [op,op'] [b,c] pos) (tChain r r' ta tb tc):=by
 intro pins s σ H Q I h
 refine Compare_chain (thn (ha pins s σ H _ I h) fun v s1 ⟨x,H1,I1,r1,q1⟩=>chain_link (thn (hb pins s1 σ H1 _ I1 q1) fun u s2 ⟨y,H2,I2,r2,q2⟩=>
  thn (ho pins s2 σ H2 x y v u _ I2 r1 r2 q2) fun d s3 ⟨z,H3,I3,r3,k,e,q3⟩=>?_)) hm
 subst e
 cases r3
 refine wpAny_truthy_bool ?_
 cases k with
 | false=>exact ite_ff ⟨.bl false,H3,I3,rfl,q3⟩
 | true=>exact ite_tt (chain_last (thn (hc pins s3 σ H3 _ I3 q3) fun w' s4 ⟨z',H4,I4,r4,q4⟩=>ho' pins s4 σ H4 y z' u w' Q I4 r2 r4 q4))
theorem line63:(sizeLine:Nat) < 2 ^ 63:=by rw [sizeLine_eq]; decide
theorem zf0:OpR X (binaryOp .Add) (fun x y H Q=>∃ i j,x = .str i/\y = .str j/\i.length + j.length<=sizeLine/\Q (.str (i ++ j)) H):=by
 intro pins s σ H x y v u Q I rx ry h
 obtain ⟨i,j,rfl,rfl,hz,q⟩:=h
 obtain ⟨t,rfl⟩:=rx
 obtain ⟨t',rfl⟩:=ry
 exact add_str (fun t' tk=>⟨.str (i ++ j),H,I.tok _,⟨_,rfl⟩,q⟩) hz
theorem vals1 {x:V} {us:List Value} (r:Vals [x] us):∃ u,us = [u]/\RelV x u:=by
 cases r with
 | cons r1 r2=>cases r2; exact ⟨_,rfl,r1⟩
theorem vals2 {x y:V} {us:List Value} (r:Vals [x,y] us):∃ u w',us = [u,w']/\RelV x u/\RelV y w':=by
 cases r with
 | cons r1 r2=>
  cases r2 with
  | cons r3 r4=>cases r4; exact ⟨_,_,rfl,r1,r3⟩
theorem zhs (hc:X.calm = true):CallR X (.builtin "max") (fun xs H Q=>∃ i j,xs = [.int i,.int j]/\Q (.int (if j > i then j else i)) H):=by
 intro pins s σ H xs us Q I r h
 obtain ⟨i,j,rfl,q⟩:=h
 obtain ⟨u,w',rfl,⟨t,rfl⟩,⟨t',rfl⟩⟩:=vals2 r
 refine max_two_ints (I.ok.hd hc) fun h' tk k=>⟨_,H,I.kept k,?_,q⟩
 by_cases hj:j > i
 ·rw [if_pos hj,if_pos hj]; exact ⟨_,rfl⟩
 ·rw [if_neg hj,if_neg hj]; exact ⟨_,rfl⟩
theorem zhg:CallR X (.type "int") (fun xs H Q=>(∃ i,xs = [.int i]/\Q (.int i) H)\/∃ k,xs = [.bl k]/\Q (.int (if k then 1 else 0)) H):=by
 intro pins s σ H xs us Q I r h
 rcases h with ⟨i,rfl,q⟩ | ⟨k,rfl,q⟩
 ·obtain ⟨u,rfl,t,rfl⟩:=vals1 r
  exact call_int_int ⟨.int i,H,I,⟨_,rfl⟩,q⟩
 ·obtain ⟨u,rfl,r1⟩:=vals1 r
  cases r1
  exact call_int_bool ⟨.int (if k then 1 else 0),H,I.tok _,⟨_,rfl⟩,q⟩
theorem zeN:CallR X (.builtin "divmod") (fun xs H Q=>∃ i j,xs = [.int i,.int j]/\CDiv i j/\∀ p,H p = none->Q (.ref p) (upd H p (.tup [.int (i / j),.int (i % j)]))):=by
 intro pins s σ H xs us Q I r h
 obtain ⟨i,j,rfl,⟨h1,h2⟩,q⟩:=h
 obtain ⟨u,w',rfl,⟨t,rfl⟩,⟨t',rfl⟩⟩:=vals2 r
 refine divmod_int (by omega) ?_ (.inl (PyProof.noPylong_small (by omega)))
 rw [Int.fdiv_eq_ediv_of_nonneg i (by omega),Int.fmod_eq_emod_of_nonneg i (by omega)]
 have hn:H s.heap.objs.size = none:=I.hok.fresh (Nat.le_refl _)
 refine ⟨.ref s.heap.objs.size,_,?_,rfl,q _ hn⟩
 refine I.laid (fun b o e=>Heap.get?_push_of_some _ e) (Nat.le_refl _) ⟨by simp only [List.length_cons,List.length_nil]; rw [sizeLine_eq]; decide,[.int (i / j) s.toks,.int (i % j) (s.toks + 1)],.cons ⟨_,rfl⟩ (.cons ⟨_,rfl⟩ .nil),?_⟩
 exact ⟨_,Heap.get?_push_size s.heap rfl,rfl,0,rfl⟩
end
end L2
namespace L2
open PySem PySem.Spec PyProof.Rows
section
variable {prog:Program} {w:World} {A:Around} {E:Value->Shared->Prop} {s:Shared} {K:PySem.W.Frag} {x dx C f:Addr} {mA:Str->Option Value} {name:Str} {v:Value}
end
section
variable {P:Program} {w:World} {H H':Hp} {h h':Heap} {a C dx:Addr} {fs fs':List (Str × V)}
end
section
variable {X:Cx} {pins:List (Addr × Obj)} {σ:St} {H:Hp} {s:Shared} {a C dx:Addr} {fs:List (Str × V)} {f:Str} {v:V} {A:Around} {E:Value->Shared->Prop}
end
section
variable {X:Cx} {o e value:Expr} {f:Str} {pos pos' tpos:Pos} {ta tv:TE}
end
section
variable {X:Cx} {pins:List (Addr × Obj)} {σ:St} {H:Hp} {s:Shared} {A:Around} {E:Value->Shared->Prop} {Q:Value->Shared->Prop} {c:Value} {b:Bool}
end
end L2
namespace L2
open PySem PySem.Spec PyProof.Rows
structure Room (k:Nat) (A:Around):Prop where
 dp:A.depth + 3 * k + 5 < recursionLimit
 un:A.units + 16 * k + 200 < cLine
 gd:A.guards = some []
theorem Room.deeper {k:Nat} {A:Around} (r:Room (k + 1) A) (env:Env):Room k (A.deeper env):=
 ⟨by have:=r.dp; show A.depth + 1 + 3 * k + 5 < _; omega,by have:=r.un; show A.units + 3 + 16 * k + 200 < _; omega,r.gd⟩
theorem Room.depth {k:Nat} {A:Around} (r:Room k A):A.depth < recursionLimit:=by have:=r.dp; omega
noncomputable def tNil:TA:=fun _ H Q=>Q [] H
noncomputable def tCons (ta:TE) (tr:TA):TA:=fun σ H Q=>ta σ H fun x H1=>tr σ H1 fun xs H2=>Q (x::xs) H2
section
variable {X:Cx} {e:Expr} {es:List Expr} {te:TE} {t:TA} {pos:Pos}
theorem zdc:PA X [] tNil:=fun _ _ _ _ H Q I h=>Calls.spliced_nil ⟨[],H,I,.nil,h⟩
theorem zbk (ha:PE X e te) (hr:PA X es t) (hs:starEach (e::es) X.env = (false,eval e X.env)::starEach es X.env:=by rfl):PA X (e::es) (tCons te t):=by
 intro pos pins s σ H Q I h
 rw [hs]
 show wpAny _ _ (spliced ((false,eval e X.env)::backTo pos (starEach es X.env))) _ _ s
 refine Calls.spliced_cons (thn (ha pins s σ H _ I h) fun u s1 ⟨x,H1,I1,r1,q1⟩=>?_)
 exact thn (hr pos pins s1 σ H1 _ I1 q1) fun us s2 ⟨xs,H2,I2,r2,q2⟩=>⟨x::xs,H2,I2,.cons r1 r2,q2⟩
noncomputable def tTup (t:TA):TE:=fun σ H Q=>t σ H fun xs H1=>xs.length<=sizeLine/\∀ p,H1 p = none->Q (.ref p) (upd H1 p (.tup xs))
noncomputable def tLst (t:TA):TE:=fun σ H Q=>t σ H fun xs H1=>xs.length<=sizeLine/\∀ p,H1 p = none->Q (.ref p) (upd H1 p (.lst xs))
theorem zkN {x1} (h:PA X es t):PE X (.Tuple es x1 pos) (tTup t):=by
 intro pins s σ H Q I hq
 refine wpAny_Tuple_spliced (thn (h pos pins s σ H _ I hq) fun us s1 ⟨xs,H1,I1,r,z,q⟩=>⟨by rw [<- r.length]; exact z,?_⟩)
 have hf:H1 s1.heap.objs.size = none:=I1.hok.fresh (Nat.le_refl _)
 refine ⟨.ref s1.heap.objs.size,upd H1 s1.heap.objs.size (.tup xs),I1.laid (t':=s1.toks) (fun b u e=>Heap.get?_push_of_some _ e) (Nat.le_refl _) ?_,rfl,q _ hf⟩
 exact ⟨z,us,r,⟨_,Heap.get?_push_size _ rfl,rfl,_,rfl⟩⟩
theorem zlx (h:PA X es t):PE X (.List es pos) (tLst t):=by
 intro pins s σ H Q I hq
 refine wpAny_List_spliced (thn (h pos pins s σ H _ I hq) fun us s1 ⟨xs,H1,I1,r,z,q⟩=>⟨by rw [<- r.length]; exact z,?_⟩)
 have hf:H1 s1.heap.objs.size = none:=I1.hok.fresh (Nat.le_refl _)
 refine ⟨.ref s1.heap.objs.size,upd H1 s1.heap.objs.size (.lst xs),I1.laid (t':=s1.toks) (fun b u e=>Heap.get?_push_of_some _ e) (Nat.le_refl _) ?_,rfl,q _ hf⟩
 exact ⟨z,us,0,r,Heap.get?_push_size _ rfl⟩
end
noncomputable abbrev Sp:=List V->Hp->VK->XK->Prop
noncomputable abbrev CXT:=List Env->Hp->Shared->XK->Value->Shared->Prop
structure Env0 (P:Program) (w:World) (K:PySem.W.Frag) (mg:Str->Option Value) (base:Heap) (A:Around) (outer:List Env) (s:Shared) (H:Hp):Prop where
 frames:A.frames = some outer
 mod:Mod K mg base
 bs:∀ b o,base.get? b = some o->s.heap.get? b = some o/\H b = none
 bsz:base.objs.size<=s.heap.objs.size
 funs:s.heap.FunFrames base outer
 frf:∀ b ∈ frs outer,H b = none
 hok:HOk P w H s.heap
 bare:AllBare s.gens
noncomputable def CE (outer:List Env) (P:Program) (w:World) (H:Hp) (s:Shared) (Q:VK) (u:Value) (s':Shared):Prop:=
 ∃ v H',s'.os = s.os/\AllBare s'.gens/\Un (frs outer) [] H H' s.heap s'.heap/\HOk P w H' s'.heap/\RelV v u/\Q v H'
noncomputable def CR (CX:CXT) (outer:List Env) (P:Program) (w:World) (H:Hp) (s:Shared) (Q:VK) (E:XK) (r:Result) (s':Shared):Prop:=
 match r with
 | .ok (.ret u)=>CE outer P w H s Q u s'
 | .ok _=>False
 | .error e=>CX outer H s E e s'
structure FnOk (P:Program) (w:World) (K:PySem.W.Frag) (mg:Str->Option Value) (base:Heap) (CX:CXT) (cm:Bool) (k:Nat) (f:Addr) (fd:FuncData) (ps:List Str) (sp:Sp):Prop where
 len:∀ vs H Q E,sp vs H Q E->vs.length = ps.length
 run:∀ (A:Around) (outer:List Env) (s:Shared) (H:Hp) (args:Args) (us:List Value) (vs:List V) (Q:VK) (E:XK),(cm = true->A.handled = none)->Room k A->Env0 P w K mg base A outer s H->BindsTo s fd args (ps.zip us)->Vals vs us->sp vs H Q E->
  codeAny (model P w) A (.call (.ref f) args) (CR CX outer P w H s Q E) s
theorem FnOk.imp {P:Program} {w:World} {K:PySem.W.Frag} {mg:Str->Option Value} {base:Heap} {CX:CXT} {cm:Bool} {k:Nat} {f:Addr} {fd:FuncData} {ps:List Str} {sp sp':Sp} (F:FnOk P w K mg base CX cm k f fd ps sp)
  (h:∀ vs H Q E,sp' vs H Q E->sp vs H Q E):FnOk P w K mg base CX cm k f fd ps sp':=
 ⟨fun vs H Q E q=>F.len vs H Q E (h _ _ _ _ q),fun A outer s H args us vs Q E hcm hr he hb hv hs=>F.run A outer s H args us vs Q E hcm hr he hb hv (h _ _ _ _ hs)⟩
section
variable {X:Cx} {pins:List (Addr × Obj)} {σ:St} {H:Hp} {s s':Shared}
theorem Inv.env0 (I:Inv X pins σ H s):Env0 X.prog X.w X.K X.mg X.base X.A X.stack s H:=
 ⟨I.ok.frames,I.ok.mod,I.bs,Nat.le_trans I.ok.bsz I.sz,I.stack,I.stkFree,I.hok,I.bare⟩
theorem Inv.after {Q:VK} {u:Value} (I:Inv X pins σ H s) (h:CE X.stack X.prog X.w H s Q u s'):EP X pins σ Q u s':=by
 obtain ⟨v,H',os,bare,un,hok,r,q⟩:=h
 obtain ⟨hh,g,d,t,os'⟩:=s'
 obtain rfl:os' = s.os:=os
 exact ⟨v,H',I.call (h':=hh) (g':=g) (d':=d) (t':=t) (ch:=[]) un hok bare (fun b z=>absurd z (by simp)),r,q⟩
end
noncomputable def Binds (K:PySem.W.Frag) (fd:FuncData) (ps:List Str) (ds:List Value):Prop:=
 ∀ (s:Shared) (us:List Value),K.In s.heap->(us ++ ds).length = ps.length->BindsTo s fd ⟨us,[]⟩ (ps.zip (us ++ ds))
theorem Binds.all {K:PySem.W.Frag} {fd:FuncData} {ps:List Str} (h:∀ us:List Value,us.length = ps.length->bindArgs fd ⟨us,[]⟩ = pure (ps.zip us)):Binds K fd ps []:=fun s us _ hl=>by
 rw [List.append_nil] at hl ⊢
 exact .of_eq (h us hl)
section
variable {X:Cx} {CX:CXT} {cm:Bool} {k:Nat} {f C:Addr} {fd:FuncData} {ps:List Str} {sp:Sp} {dvs:List V} {ds:List Value} {E:XK} {x m:Str} {p pos apos:Pos} {e o:Expr} {es:List Expr} {ta:TE} {t:TA}
end
section
variable {X:Cx} {CX:CXT} {cm:Bool} {k:Nat} {f C:Addr} {fd:FuncData} {ps ks:List Str} {sp:Sp} {E:XK} {x m:Str} {p pos apos kpos:Pos} {e o:Expr} {es:List Expr} {kws:List Keyword} {te ta:TE} {t tk:TA} {nm:Option Str}
variable {g:List Value->List Value->List Value} {gV:List V->List V->List V}
end
structure FnScope (N P:List Str) (sc:Scope):Prop where
 kind:sc.kind = .function
 co:sc.isCoroutine = false
 gen:sc.isGenerator = false
 nd:N.Nodup
 pre:N.take P.length = P
 par:∀ x ∈ P,sc.names.lookup x = some .local\/sc.names.lookup x = some .cell
 nofree:∀ y ∈ sc.names,y.2 ≠ .free
theorem zeh {kindOf:Str->Option NameKind} {x:Str}:∀ {binds:List (Str × Value)} {m:Str->Option Value},(∀ v,(x,v) ∉ binds)->bindL kindOf binds m x = m x
 | [],_,_=>rfl
 | (n,v)::r,m,h=>by
  unfold bindL
  rw [zeh fun w hw=>h w (List.mem_cons_of_mem _ hw)]
  split
  ·have:x ≠ n:=by rintro rfl; exact h v List.mem_cons_self
   simp [this]
  ·rfl
theorem zea {kindOf:Str->Option NameKind} {x:Str}:∀ {binds:List (Str × Value)} {m:Str->Option Value},(∀ v,(x,v) ∉ binds)->bindC kindOf binds m x = m x
 | [],_,_=>rfl
 | (n,v)::r,m,h=>by
  unfold bindC
  rw [zea fun w hw=>h w (List.mem_cons_of_mem _ hw)]
  split
  ·rfl
  ·have:x ≠ n:=by rintro rfl; exact h v List.mem_cons_self
   simp [this]
theorem zew {kindOf:Str->Option NameKind} {x:Str} {v:Value}:∀ {P:List Str} {vs:List Value} {i:Nat} {m:Str->Option Value},P.Nodup->P[i]? = some x->vs[i]? = some v->kindOf x = some .local->
  bindL kindOf (P.zip vs) m x = some v
 | [],_,_,_,_,h,_,_=>by simp at h
 | _::_,[],_,_,_,_,h,_=>by simp at h
 | p::P,w::vs,0,m,nd,h1,h2,hk=>by
  simp at h1 h2; subst h1; subst h2
  show bindL kindOf ((p,w)::P.zip vs) m p = _
  unfold bindL
  rw [zeh fun v hv=>(List.nodup_cons.mp nd).1 (List.of_mem_zip hv).1,if_pos hk]
  simp
 | p::P,w::vs,i + 1,m,nd,h1,h2,hk=>by
  show bindL kindOf ((p,w)::P.zip vs) m x = _
  unfold bindL
  exact zew (i:=i) (List.nodup_cons.mp nd).2 (by simpa using h1) (by simpa using h2) hk
theorem zd9 {kindOf:Str->Option NameKind} {x:Str} {v:Value}:∀ {P:List Str} {vs:List Value} {i:Nat} {m:Str->Option Value},P.Nodup->P[i]? = some x->vs[i]? = some v->kindOf x ≠ some .local->
  bindC kindOf (P.zip vs) m x = some v
 | [],_,_,_,_,h,_,_=>by simp at h
 | _::_,[],_,_,_,_,h,_=>by simp at h
 | p::P,w::vs,0,m,nd,h1,h2,hk=>by
  simp at h1 h2; subst h1; subst h2
  show bindC kindOf ((p,w)::P.zip vs) m p = _
  unfold bindC
  rw [zea fun v hv=>(List.nodup_cons.mp nd).1 (List.of_mem_zip hv).1,if_neg hk]
  simp
 | p::P,w::vs,i + 1,m,nd,h1,h2,hk=>by
  show bindC kindOf ((p,w)::P.zip vs) m x = _
  unfold bindC
  exact zd9 (i:=i) (List.nodup_cons.mp nd).2 (by simpa using h1) (by simpa using h2) hk
noncomputable def start (N:List Str) (vs:List V):St:=vs.map some ++ List.replicate (N.length - vs.length) none
noncomputable def cxOf (CX:CXT) (P:Program) (w:World) (K:PySem.W.Frag) (mg:Str->Option Value) (base:Heap) (N:List Str) (qual:Str) (scope:Scope) (f:Addr) (cd:Value) (A:Around) (outer:List Env) (s:Shared) (H:Hp) (E:XK) (cm:Bool):Cx where
 prog:=P
 w:=w
 K:=K
 mg:=mg
 base:=base
 A:=A.deeper (envOfC qual scope s.heap.objs.size f cd)
 N:=N
 s₀:=s
 H₀:=H
 env:=envOfC qual scope s.heap.objs.size f cd
 outer:=outer
 stack:=envOfC qual scope s.heap.objs.size f cd::outer
 ex:=[]
 calm:=cm
 fn:=fun _=>true
 pn:=[]
 xe:=fun e s'=>wpAny (model P w) (A.deeper (envOfC qual scope s.heap.objs.size f cd)) (leaving (envOfC qual scope s.heap.objs.size f cd) e) (fun _ s''=>CX outer H s E e s'') (fun e' s''=>CX outer H s E e' s'') s'
theorem zfh {sc:Scope} {n:Nat} {x:Str} (h:sc.names.lookup x = some .cell):∃ c,(cellsFrom n sc.names []).lookup x = some c:=by
 have q:=PySem.W.cellsFrom_some sc.names n [] (.inl h)
 exact Option.isSome_iff_exists.mp q
theorem zgR {CX:CXT} {P:Program} {w:World} {K:PySem.W.Frag} {mg:Str->Option Value} {base:Heap} {N ps:List Str} {qual:Str} {scope:Scope} {f:Addr} {cd:Value} {A:Around} {outer:List Env} {s s1:Shared} {H:Hp} {E:XK} {us:List Value} {vs:List V}
  {cm:Bool} (S:FnScope N ps scope) (hd:cm = true->A.handled = none) (e0:Env0 P w K mg base A outer s H) (hl:vs.length = ps.length) (r:Vals vs us)
  (x:InCallC s s.heap.objs.size (bindL (envOfC qual scope s.heap.objs.size f cd).kindOf (ps.zip us) fun _=>none) (cellsFrom (s.heap.objs.size + 1) scope.names []) (bindC (envOfC qual scope s.heap.objs.size f cd).kindOf (ps.zip us) fun _=>none) s1) :
  Inv (cxOf CX P w K mg base N qual scope f cd A outer s H E cm) [] (start N vs) H s1:=by
 have hpl:ps.length<=N.length:=by have:=congrArg List.length S.pre; rw [List.length_take] at this; omega
 obtain ⟨h1,tk,rfl,hk⟩:=x.done
 have noA:∀ b:Addr,b ∉ (cxOf CX P w K mg base N qual scope f cd A outer s H E cm).ex:=fun b z=>absurd (show b ∈ ([]:List Addr) from z) (by simp)
 refine ⟨⟨e0.mod,S.kind,rfl,rfl,Nat.le_refl _,fun y z c h1 h2=>?_,fun y hy=>?_,fun y c _ h=>?_,hd,Around.frames_deeper e0.frames,.inr ⟨rfl,rfl⟩,fun b z=>absurd z (noA b),e0.bs,e0.bsz,fun b _ _=>noA b,fun b z=>absurd z (noA b),e0.funs,e0.frf⟩,
  rfl,e0.bare,Un.kept hk,⟨_,x.toInCall.ns,fun i y v h1 h2 h3=>?_⟩,fun y c h=>⟨_,x.cell y c h⟩,e0.hok.fresh (Nat.le_refl _),fun y c h=>?_,fun p hp=>absurd (show p ∈ ([]:List (Addr × Obj)) from hp) (by simp),e0.hok.kept hk,?_⟩
 ·exact name_of_addr x.apart (PySem.mem_of_lookup h1) (PySem.mem_of_lookup h2)
 ·have hy:scope.names.lookup y = some .cell\/scope.names.lookup y = some .free:=hy
  rcases hy with hy | hy
  ·exact zfh hy
  ·exact absurd rfl (S.nofree _ (PySem.mem_of_lookup hy))
 ·exact Nat.le_of_lt (x.above y c (PySem.mem_of_lookup h))
 ·have hi:i < vs.length:=by
   unfold start at h2
   by_cases hi:i < vs.length
   ·exact hi
   ·rw [List.getElem?_append_right (by simpa using hi)] at h2
    rw [List.getElem?_replicate] at h2
    split at h2 <;> cases h2
  have ha:vs[i]? = some v:=by
   unfold start at h2
   rw [List.getElem?_append_left (by simpa using hi),List.getElem?_map] at h2
   cases e:vs[i]? with
   | none=>rw [e] at h2; cases h2
   | some a=>rw [e] at h2; cases h2; rfl
  obtain ⟨u,hu,rv⟩:=r.get ha
  have hp:ps[i]? = some y:=by
   rw [<- S.pre,List.getElem?_take_of_lt (by omega)]; exact h1
  have ndP:ps.Nodup:=by rw [<- S.pre]; exact S.nd.sublist (List.take_sublist _ _)
  refine ⟨u,rv,?_⟩
  rcases S.par y (List.mem_of_getElem? hp) with k | k
  ·exact .inl ⟨k,zew ndP hp hu k⟩
  ·obtain ⟨c,e⟩:=zfh (n:=s.heap.objs.size + 1) k
   refine .inr ⟨.inl k,c,e,?_⟩
   have q:=x.cell y c e
   rw [zd9 ndP hp hu (by show scope.names.lookup y ≠ _; rw [k]; decide)] at q
   exact q
 ·exact e0.hok.fresh (Nat.le_of_lt (x.above y c (PySem.mem_of_lookup h)))
 ·unfold start
  show _ = N.length
  rw [List.length_append,List.length_map,List.length_replicate]
  omega
theorem zmD {CX:CXT} {cm:Bool} {P:Program} {w:World} {K:PySem.W.Frag} {mg:Str->Option Value} {base:Heap} {k:Nat} {f:Addr} {name qual:Str} {params:Arguments} {body:List Stmt} {scope:Scope} {dV kV doc pm cdv ct oc:Value} {an od:Option Addr}
  {osl:Array (Option Value)} {N ps:List Str} {sp:Sp} (lk:K.lookup f = some ⟨oc,od,.func (PySem.W.fnOf name qual params body scope dV kV doc pm an cdv ct),osl⟩) (hcd:PySem.W.codeIn K cdv qual = true) (S:FnScope N ps scope)
  (len:∀ vs H Q E,sp vs H Q E->vs.length = ps.length)
  (hbody:∀ (A:Around) (outer:List Env) (s:Shared) (H:Hp) (vs:List V) (Q:VK) (E:XK),Room k (A.deeper (envOfC qual scope s.heap.objs.size f cdv))->sp vs H Q E->
   ∃ t,PSs (cxOf CX P w K mg base N qual scope f cdv A outer s H E cm) body t/\t { nx:=fun _ H'=>Q .non H',rt:=Q } (start N vs) H) :
  FnOk P w K mg base CX cm (k + 1) f (PySem.W.fnOf name qual params body scope dV kV doc pm an cdv ct) ps sp:=by
 refine ⟨len,fun A outer s H args us vs Q E hcm hr e0 hb r hsp=>?_⟩
 have hl:=len _ _ _ _ hsp
 have KX:K.In s.heap:=e0.mod.kin.keeps fun b o e=>(e0.bs b o e).1
 have lim:s.heap.NoLimit:=e0.mod.nolimit.keeps fun b o e=>(e0.bs b o e).1
 have hkind:∀ y ∈ ps.zip us,scope.names.lookup y.1 = some .local\/(scope.names.lookup y.1 = some .cell/\((cellsFrom (s.heap.objs.size + 1) scope.names []).lookup y.1).isSome = true):=fun ⟨n,v⟩ hy=>by
  rcases S.par n (List.of_mem_zip hy).1 with q | q
  ·exact .inl q
  ·exact .inr ⟨q,PySem.W.cellsFrom_some _ _ _ (.inl q)⟩
 refine codeAny_call_function hr.depth (KX _ _ lk) rfl S.co S.gen rfl (PySem.W.codeRec_of KX hcd) (hb _ _ _ _ ?_)
 refine wpAny_newFunctionEnv_cells S.kind hkind fun env he s1 x=>?_
 subst he
 refine ⟨lim.keeps x.toInCall.keep,codeAny_func ?_⟩
 obtain ⟨t,ht,hq⟩:=hbody A outer s H vs Q E (hr.deeper _) hsp
 have I:Inv (cxOf CX P w K mg base N qual scope f cdv A outer s H E cm) [] (start N vs) H s1:=zgR S hcm e0 hl r x
 refine wpAny_mono (ht [] s1 (start N vs) H _ I hq) (fun fl s' hs=>?_) fun e s' hs=>hs
 have fin:∀ {σ':St} {H':Hp} {v:V} {u:Value},Inv (cxOf CX P w K mg base N qual scope f cdv A outer s H E cm) [] σ' H' s'->RelV v u->Q v H'->CE outer P w H s Q u s':=
  fun {σ' H' v u} J rv q=>⟨v,H',J.os,J.bare,J.base,J.hok,rv,q⟩
 cases fl with
 | ret u=>
  obtain ⟨v,σ',H',J,rv,q⟩:=hs
  exact fin J rv q
 | next=>
  obtain ⟨σ',H',J,q⟩:=hs
  exact fin (v:=V.non) (u:=Value.none) J rfl q
 | brk=>
  obtain ⟨_,_,_,q⟩:=hs
  exact False.elim q
 | cont=>
  obtain ⟨_,_,_,q⟩:=hs
  exact False.elim q
end L2
namespace L2
open PySem PySem.Spec PyProof.Rows
section
variable {X:Cx} {x:Str} {p pos:Pos} {e:Expr} {es:List Expr} {t:TA} {id T:String} {r:List V->Hp->VK->Prop}
noncomputable def tCB (r:List V->Hp->VK->Prop) (t:TA):TE:=fun σ H Q=>t σ H fun vs H1=>r vs H1 Q
theorem zfo (hc:CallR X (.builtin id) r) (hg:Gl X x) (hm:X.mg x = none) (hv:bootBuiltins x = some (.builtin id)) (ha:PA X (e::es) t) (hn:x ≠ "__name__":=by decide) (hdb:(x == ("__debug__" : Str)) = false:=by decide)
  (he:starEach (e::es) X.env = (false,eval e X.env)::starEach es X.env:=by rfl) (hpl:(backTo pos (starEach es X.env)).any (·.1) = false:=by rfl):PE X (.Call (.Name x p) (e::es) [] pos) (tCB r t):=by
 intro pins s σ H Q I h
 refine wpAny_Call_Name_kw (zdf I hg hm hv ?_ hn hdb)
 exact PyProof.Rows.callWith_builtin1 (thn (ha pos pins s σ H _ I h) fun us s1 ⟨vs,H1,I1,r1,q1⟩=>hc pins s1 σ H1 vs us Q I1 r1 q1) he hpl
theorem zht (hc:CallR X (.type T) r) (hg:Gl X x) (hm:X.mg x = none) (hv:bootBuiltins x = some (.type T)) (ha:PA X (e::es) t) (hn:x ≠ "__name__":=by decide) (hdb:(x == ("__debug__" : Str)) = false:=by decide)
  (he:starEach (e::es) X.env = (false,eval e X.env)::starEach es X.env:=by rfl) (hpl:(backTo pos (starEach es X.env)).any (·.1) = false:=by rfl):PE X (.Call (.Name x p) (e::es) [] pos) (tCB r t):=by
 intro pins s σ H Q I h
 refine wpAny_Call_Name_kw (zdf I hg hm hv ?_ hn hdb)
 exact PyProof.Rows.callWith_type1 (thn (ha pos pins s σ H _ I h) fun us s1 ⟨vs,H1,I1,r1,q1⟩=>hc pins s1 σ H1 vs us Q I1 r1 q1) he hpl
end
end L2
namespace HT
open PySem PyProof.Rows
noncomputable def lexLt:List Int->List Int->Bool
 | [],[]=>false
 | [],_::_=>true
 | _::_,[]=>false
 | x::xs,y::ys=>if x = y then lexLt xs ys else decide (x < y)
theorem lexLt_cons (x y:Int) (xs ys:List Int):lexLt (x::xs) (y::ys) = if x = y then lexLt xs ys else decide (x < y):=rfl
theorem zdx:lexLt [] [] = false:=rfl
theorem zc3 (y:Int) (ys:List Int):lexLt [] (y::ys) = true:=rfl
theorem zc4 (x:Int) (xs:List Int):lexLt (x::xs) [] = false:=rfl
theorem zh9 (A:Around) (s:Shared) (a:Int) (t:Tok) (c:Int) (u:Tok):∃ e,SeqAt.EqAt A s (.int a t) (.int c u) e/\(e = true ↔ a = c):=
 ⟨(a == c),SeqAt.EqAt.int_int a t c u,by simp⟩
theorem zio (A:Around) (s:Shared) (a:Int) (t:Tok) (c:Int) (u:Tok) (prog:Program) (w:World) (E:Value->Shared->Prop) (Q:Value->Shared->Prop) (h:Q (.bool (decide (a < c))) s) :
  wpAny (model prog w) A (richCompare .Lt (.int a t) (.int c u)) Q E s:=
 (PyProof.Rows.lt_int h:wpAny (model prog w) A (compareOp .Lt (.int a t) (.int c u)) Q E s)
section
open PySem.SeqAt
open PySem.AutoSeq1 (wpAny_loadPart')
open PySem.MeetsSeq PySem.MeetsSeq2 PySem.MeetsSeq3
theorem zdN (l b:Addr) (items items2:Array Value) (n n2:Nat) (dd dd2:Option Addr) (sl sl2:Array (Option Value)) (ns ms:List Int) (hi:IntsAre items.toList ns) (hj:IntsAre items2.toList ms) :
  Meets (Builtin.«tuple.__lt__» ⟨[.ref l,.ref b],[]⟩)
   (fun _ R s=>s.heap.get? l = some { cls:=.type "tuple",dict:=dd,data:=.seq items n,slots:=sl }/\s.heap.get? b = some { cls:=.type "tuple",dict:=dd2,data:=.seq items2 n2,slots:=sl2 } /\
    R (.ok (.ret (.bool (lexLt ns ms)))) s):=
 .of_wp fun prog w A R s h=>by
  obtain ⟨hp,g,d,tk,os⟩:=s; obtain ⟨hl,hb,h⟩:=h
  have f2:=AutoSeq1.sub_tuple_tuple
  have z1:items.size = ns.length:=by rw [<- hi.length]; simp
  have z2:items2.size = ms.length:=by rw [<- hj.length]; simp
  wp_walk using wpAny_loadPart' hl,wpAny_loadPart' hb,wpAny_forIn_list _ (fun rest b s'=>b.1 = none/\s' = ⟨hp,g,d,tk,os⟩/\∃ (vs ws:List Value) (ns' ms':List Int),rest = vs.zip ws /\
   IntsAre vs ns'/\IntsAre ws ms'/\ns'.length + items2.size = ms'.length + items.size/\R (.ok (.ret (.bool (lexLt ns' ms')))) ⟨hp,g,d,tk,os⟩) _
  case turn=>
   rintro ⟨y,x⟩ rest b s' ⟨hb',rfl,vs,ws,ns',ms',hz,hvi,hwi,hlen,hR⟩
   cases hvi with
   | nil=>rw [List.zip_nil_left] at hz; cases hz
   | cons a t hvi'=>
    cases hwi with
    | nil=>rw [List.zip_nil_right] at hz; cases hz
    | cons c u hwi'=>
     rw [List.zip_cons_cons] at hz
     injection hz with hyx hrest
     injection hyx with hy hx
     subst hy hx
     rw [lexLt_cons] at hR
     simp only [List.length_cons] at hlen
     obtain ⟨e,he,hiff⟩:=zh9 A.in1 ⟨hp,g,d,tk,os⟩ a t c u
     refine wpAny_bind (he prog w _ _ ?_)
     cases e with
     | true=>
      rw [if_pos (hiff.mp rfl)] at hR
      wp_walk
      exact ⟨rfl,rfl,_,_,_,_,hrest,hvi',hwi',by omega,hR⟩
     | false=>
      rw [if_neg (fun q=>absurd (hiff.mpr q) Bool.false_ne_true)] at hR
      have hri:=zio A.in1 ⟨hp,g,d,tk,os⟩ a t c u prog w
      wp_walk using hri
      exact ⟨_,rfl,by simpa using hR⟩
  case fin=>
   rintro ⟨b1,b2⟩ s' ⟨hb',rfl,vs,ws,ns',ms',hz,hvi,hwi,hlen,hR⟩
   simp only at hb'
   subst hb'
   have hv:lexLt ns' ms' = decide (items.size < items2.size):=by
    cases hvi with
    | nil=>
     cases hwi with
     | nil=>
      simp only [List.length_nil] at hlen
      rw [zdx]
      exact (decide_eq_false (by omega)).symm
     | cons c u hw=>
      simp only [List.length_nil,List.length_cons] at hlen
      rw [zc3]
      exact (decide_eq_true (by omega)).symm
    | cons a t hv=>
     cases hwi with
     | nil=>
      simp only [List.length_nil,List.length_cons] at hlen
      rw [zc4]
      exact (decide_eq_false (by omega)).symm
     | cons c u hw=>
      rw [List.zip_cons_cons] at hz
      cases hz
   rw [hv] at hR
   wp_walk
   exact ⟨_,rfl,by simpa [Builtin.Tuple.tupleCompareSizes] using hR⟩
  case h=>
   exact ⟨rfl,rfl,items.toList,items2.toList,ns,ms,rfl,hi,hj,by omega,h⟩
end
section
variable {prog:Program} {w:World} {A:Around} {E:Value->Shared->Prop} {s:Shared}
theorem lt_tupInts {l b:Addr} {items items2:Array Value} {ns ms:List Int} {Q:Value->Shared->Prop} (hl:IsTup s.heap l items) (hb:IsTup s.heap b items2) (hi:IntsAre items.toList ns) (hj:IntsAre items2.toList ms)
  (hu:A.units < cLine) (h:Q (.bool (lexLt ns ms)) s):wpAny (model prog w) A (compareOp .Lt (.ref l) (.ref b)) Q E s:=by
 obtain ⟨⟨cls,dd,data,sl⟩,ho,hc,n,hd⟩:=id hl
 obtain ⟨⟨cls2,dd2,data2,sl2⟩,ho2,hc2,n2,hd2⟩:=id hb
 simp only at hc hd hc2 hd2
 subst hc hd hc2 hd2
 exact richCompare_meets_room (op:=.Lt) ⟨_,ho,rfl⟩ ⟨_,ho2,rfl⟩ PySem.F.slot_tuple_lt PySem.F.entry_tuple_lt (PySem.F.args_tuple_lt_2 _ _) (zdN l b items items2 n n2 dd dd2 sl sl2 ns ms hi hj)
  ⟨ho,ho2,show Value.bool (lexLt ns ms) ≠ Value.notImplemented/\Q (.bool (lexLt ns ms)) s from ⟨(fun x=>nomatch x),h⟩⟩ hu
theorem cat_tup {t b:Addr} {vs ws:List Value} {Q:Value->Shared->Prop} (ht:IsTup s.heap t vs.toArray) (hb:IsTup s.heap b ws.toArray) (hv:vs ≠ [])
  (h1:ws = []->Q (.ref t) s) (h2:ws ≠ []->Q (.ref s.heap.objs.size) { s with heap:=s.heap.push { cls:=.type "tuple",data:=.seq (vs ++ ws).toArray } })
  (hsz:vs.length + ws.length<=sizeLine):wpAny (model prog w) A (binaryOp .Add (.ref t) (.ref b)) Q E s:=by
 obtain ⟨⟨cls,dd,data,sl⟩,ho,hc,n,hd⟩:=id ht
 obtain ⟨⟨cls2,dd2,data2,sl2⟩,ho2,hc2,n2,hd2⟩:=id hb
 simp only at hc hd hc2 hd2
 subst hc hd hc2 hd2
 have e:vs.toArray ++ ws.toArray = (vs ++ ws).toArray:=by simp
 by_cases hw:ws = []
 ·exact concat_meets ⟨_,ho,rfl⟩ ⟨_,ho2,rfl⟩ noFill_tuple_add seq_tuple_add PySem.F.slot_tuple_add PySem.F.entry_tuple_add (PySem.F.args_tuple_add_2 _ _)
   (tuple_addW1 t b vs.toArray ws.toArray n n2 dd dd2 sl sl2 (by simpa using hv) (by simp [hw])) ⟨ho,ho2,h1 hw⟩
 ·refine concat_meets ⟨_,ho,rfl⟩ ⟨_,ho2,rfl⟩ noFill_tuple_add seq_tuple_add PySem.F.slot_tuple_add PySem.F.entry_tuple_add (PySem.F.args_tuple_add_2 _ _)
   (tuple_addW2 t b vs.toArray ws.toArray n n2 dd dd2 sl sl2 (by simpa using hv) (by simpa using hw) (by rw [List.size_toArray,List.size_toArray]; exact hsz)) ⟨ho,ho2,?_⟩
  rw [e]
  exact h2 hw
noncomputable def sIx (n d:Nat):Option Int->Nat
 | none=>d
 | some v=>if v < 0 then (v + (n:Int)).toNat else min v.toNat n
theorem sIx_none (n d:Nat):sIx n d none = d:=rfl
theorem sIx_nat (n d k:Nat):sIx n d (some (k:Int)) = min k n:=by
 show (if (k:Int) < 0 then ((k:Int) + (n:Int)).toNat else min (k:Int).toNat n) = min k n
 rw [if_neg (by omega),Int.toNat_natCast]
theorem zky (n d:Nat) (hd:d<=n) (o:Option Int):sIx n d o<=n:=by
 cases o with
 | none=>exact hd
 | some v=>
  show (if v < 0 then (v + (n:Int)).toNat else min v.toNat n)<=n
  by_cases hv:v < 0
  ·rw [if_pos hv]; omega
  ·rw [if_neg hv]; exact Nat.min_le_right _ _
theorem clip_eq (v:Int) (n d:Nat):(if v < 0 then max (v + (n:Int)) 0 else min v (n:Int)) = ((sIx n d (some v):Nat):Int):=by
 show (if v < 0 then max (v + (n:Int)) 0 else min v (n:Int)) = (((if v < 0 then (v + (n:Int)).toNat else min v.toNat n):Nat):Int)
 by_cases hv:v < 0
 ·simp only [if_pos hv]; omega
 ·simp only [if_neg hv]; omega
theorem zfY (lo hi:Option Int) (n:Nat):Builtin.Slice.sliceAdjust lo hi 1 (n:Int) = (((sIx n 0 lo:Nat):Int),((sIx n n hi:Nat):Int)):=by
 have h1:¬ ((1:Int) < 0):=by omega
 unfold Builtin.Slice.sliceAdjust
 simp only [h1,if_false]
 refine Prod.ext ?_ ?_
 ·cases lo with
  | none=>rfl
  | some v=>exact clip_eq v n 0
 ·cases hi with
  | none=>rfl
  | some v=>exact clip_eq v n n
theorem zfJ (i j:Nat):Builtin.Slice.slicePlaces (i:Int) (j:Int) 1 = j - i:=by
 unfold Builtin.Slice.slicePlaces
 have h1:(1:Int) > 0:=by omega
 simp only [h1,if_true,Int.ediv_one]
 split <;> omega
theorem zdh {v:Value} {o:Option Int} {Q:Option Int->Shared->Prop} (p:IsPart v o) (h:Q o s):wpAny (model prog w) A (Builtin.Slice.slicePartIndex v) Q E s:=by
 cases p with
 | none=>exact slicePart_none h
 | int i t=>exact slicePart_int h
theorem zbl {sl:Addr} {vl vu:Value} {lo hi:Option Int} {n:Nat} {Q:Int × Int × Nat->Shared->Prop} (hs:s.heap.IsSliceOf sl vl vu .none) (pl:IsPart vl lo) (pu:IsPart vu hi)
  (h:Q (((sIx n 0 lo:Nat):Int),1,sIx n n hi - sIx n 0 lo) s):wpAny (model prog w) A (Builtin.Slice.sliceApplied (.ref sl) (pure (n:Int))) Q E s:=by
 obtain ⟨os,hos,hcs,hds⟩:=id hs
 unfold Builtin.Slice.sliceApplied Builtin.Slice.sliceFields
 refine wpAny_bind (wpAny_bind (wpAny_field hos hds (x:=vl) rfl (wpAny_bind (wpAny_field hos hds (x:=vu) rfl (wpAny_bind (wpAny_field hos hds (x:=.none) rfl (wpAny_pure ?_)))))))
 refine wpAny_bind (slicePart_none ?_)
 show wpAny _ _ (if ((1:Int) == 0) = true then _ else _) _ _ s
 rw [if_neg (by decide)]
 refine wpAny_bind (zdh pl (wpAny_bind (zdh pu (wpAny_bind (wpAny_pure ?_)))))
 show wpAny _ _ (match Builtin.Slice.sliceAdjust lo hi 1 (n:Int) with | (lo,hi)=>pure (lo,(1:Int),Builtin.Slice.slicePlaces lo hi 1)) _ _ s
 rw [zfY lo hi n]
 show wpAny _ _ (pure (((sIx n 0 lo:Nat):Int),(1:Int),Builtin.Slice.slicePlaces ((sIx n 0 lo:Nat):Int) ((sIx n n hi:Nat):Int) 1)) _ _ s
 rw [zfJ]
 exact wpAny_pure h
theorem zh3 (xs:Array Value) (i k:Nat):((List.range k).filterMap fun (m:Nat)=>xs[((i:Int) + (m:Int) * 1).toNat]?).toArray = ((xs.toList.drop i).take k).toArray:=by
 have e:(fun (m:Nat)=>xs[((i:Int) + (m:Int) * 1).toNat]?) = fun m=>xs[i + m]?:=by
  funext m
  have:((i:Int) + (m:Int) * 1).toNat = i + m:=by omega
  rw [this]
 rw [e]
 have:=pick_run xs i k
 rw [List.filterMap_map] at this
 have e2:((fun x=>xs[x]?) ∘ fun x=>i + x) = fun m=>xs[i + m]?:=rfl
 rw [e2] at this
 rw [this]
theorem getItem_tuple_cut {t sl:Addr} {items:Array Value} {vl vu:Value} {lo hi:Option Int} {Q:Value->Shared->Prop} (ht:IsTup s.heap t items) (hs:s.heap.IsSliceOf sl vl vu .none) (pl:IsPart vl lo) (pu:IsPart vu hi)
  (hw:¬ (sIx items.size 0 lo = 0/\sIx items.size items.size hi = items.size))
  (h:Q (.ref s.heap.objs.size) { s with heap:=s.heap.push { cls:=.type "tuple",data:=.seq ((items.toList.drop (sIx items.size 0 lo)).take (sIx items.size items.size hi - sIx items.size 0 lo)).toArray } })
  (hsz:items.size<=sizeLine):wpAny (model prog w) A (getItem (.ref t) (.ref sl)) Q E s:=by
 have htake:sizeOk (.seq ((items.toList.drop (sIx items.size 0 lo)).take (sIx items.size items.size hi - sIx items.size 0 lo)).toArray):=by
  show ((items.toList.drop (sIx items.size 0 lo)).take (sIx items.size items.size hi - sIx items.size 0 lo)).toArray.size<=sizeLine
  rw [List.size_toArray,List.length_take,List.length_drop,Array.length_toList]
  omega
 have hj:sIx items.size items.size hi<=items.size:=zky _ _ (Nat.le_refl _) hi
 obtain ⟨os,hos,hcs,hds⟩:=id hs
 have hTs:s.TypeIs (.ref sl) "slice":=⟨os,hos,hcs⟩
 unfold getItem
 try with_reducible refine wpAny_holding ?_
 first | refine wpAny_bind (wpAny_pure ?_) | skip
 refine wpAny_bind (wpAny_sequenceKey ht.typeIs (by decide) ?_)
 refine wpAny_bind (wpAny_callSpecial?_slot (name:=Str.ofString "__getitem__") ht.typeIs PyProof.Rows.slot_tuple_getitem
  (wpAny_call_entry PyProof.Rows.slot_tuple_getitem ht.typeIs entry_tuple_getitem ?_ (args_tuple_getitem _ _)))
 show wpAny _ _ (Builtin.Tuple.tupleItemsOf (.ref t) >>= _) _ _ s
 refine wpAny_bind (tupleItemsOf_ ht ?_)
 refine wpAny_bind (wpAny_typeOf hTs ?_)
 rw [if_pos (by decide)]
 refine wpAny_bind (zbl hs pl pu ?_)
 have hno:¬ ((((sIx items.size 0 lo:Nat):Int) == 0 && (1:Int) == 1 && (sIx items.size items.size hi - sIx items.size 0 lo) == items.size) = true):=by
  intro q
  rw [Bool.and_eq_true,Bool.and_eq_true] at q
  have q1:((sIx items.size 0 lo:Nat):Int) = 0:=eq_of_beq q.1.1
  have q2:sIx items.size items.size hi - sIx items.size 0 lo = items.size:=eq_of_beq q.2
  exact hw ⟨by omega,by omega⟩
 show wpAny _ _ (if (((sIx items.size 0 lo:Nat):Int) == 0 && (1:Int) == 1 && (sIx items.size items.size hi - sIx items.size 0 lo) == items.size) = true then _ else _) _ _ s
 rw [if_neg hno,zh3]
 first
  | exact wpAny_bind (m:=Builtin.Tuple.tupleExact _) (wpAny_newObj_type (wpAny_pure ⟨_,rfl,wpAny_pure h⟩) htake)
  | exact wpAny_bind (m:=Builtin.Tuple.tupleExact _) (wpAny_newObj_type (wpAny_bind (wpAny_pure (wpAny_pure ⟨_,rfl,wpAny_pure h⟩))) htake)
  | exact wpAny_bind (wpAny_bind (m:=Builtin.Tuple.tupleExact _) (wpAny_newObj_type (wpAny_pure (wpAny_pure ⟨_,rfl,wpAny_pure h⟩)) htake))
  | exact wpAny_bind (wpAny_bind (m:=Builtin.Tuple.tupleExact _) (wpAny_newObj_type (wpAny_pure ⟨_,rfl,wpAny_pure h⟩) htake))
end
end HT
namespace L2
open PySem PySem.Spec PyProof.Rows
noncomputable abbrev TO:=St->Hp->(Option Int->Hp->Prop)->Prop
noncomputable def PO (X:Cx) (e:Option Expr) (t:TO):Prop:=
 ∀ (pins:List (Addr × Obj)) (s:Shared) (σ:St) (H:Hp) (Q:Option Int->Hp->Prop),Inv X pins σ H s->t σ H Q->
  wpAny (model X.prog X.w) X.A (evalPart e X.env) (fun u s'=>∃ o H',Inv X pins σ H' s'/\IsPart u o/\Q o H') X.xe s
noncomputable def tNoPart:TO:=fun _ H Q=>Q none H
noncomputable def tPart (t:TE):TO:=fun σ H Q=>t σ H fun x H1=>∃ i,x = .int i/\Q (some i) H1
theorem zdg {ns:List Int}:∀ {us:List Value},Vals (ns.map V.int) us->IntsAre us ns:=by
 induction ns with
 | nil=>intro us r; rw [List.map_nil] at r; cases r; exact .nil
 | cons n ns ih=>
  intro us r
  rw [List.map_cons] at r
  cases r with
  | cons r1 r2=>
   obtain ⟨t,e⟩:=r1
   subst e
   exact .cons n t (ih r2)
section
variable {X:Cx} {e:Expr} {te:TE} {lo hi:Option Expr} {tl th:TO} {pos p2:Pos}
theorem zj2:PO X none tNoPart:=by
 intro pins s σ H Q I h
 rw [evalPart_none]
 exact wpAny_pure ⟨none,H,I,.none,h⟩
theorem zjF (h:PE X e te):PO X (some e) (tPart te):=by
 intro pins s σ H Q I hw
 rw [evalPart_some]
 refine thn (h pins s σ H _ I hw) fun u s1 ⟨x,H1,I1,r1,q1⟩=>?_
 obtain ⟨i,rfl,q⟩:=q1
 obtain ⟨t,rfl⟩:=r1
 exact ⟨some i,H1,I1,.int i t,q⟩
noncomputable def SlR (X:Cx) (r:V->Option Int->Option Int->Hp->VK->Prop):Prop:=
 ∀ (pins:List (Addr × Obj)) (s:Shared) (σ:St) (H:Hp) (x:V) (v vl vu:Value) (lo hi:Option Int) (sl:Addr) (Q:VK),Inv X pins σ H s->RelV x v->s.heap.IsSliceOf sl vl vu .none->IsPart vl lo->IsPart vu hi->r x lo hi H Q->
  ∃ T id,typeLookup (.type T) "__getitem__" = pure (some (.builtin id))/\s.TypeIs v T/\wpAny (model X.prog X.w) X.A (getItem v (.ref sl)) (EP X pins σ Q) X.xe s
theorem SlR.or {r r':V->Option Int->Option Int->Hp->VK->Prop} (h:SlR X r) (h':SlR X r'):SlR X (fun x lo hi H Q=>r x lo hi H Q\/r' x lo hi H Q):=by
 intro pins s σ H x v vl vu lo hi sl Q I rx hs pl pu q
 rcases q with q | q
 ·exact h pins s σ H x v vl vu lo hi sl Q I rx hs pl pu q
 ·exact h' pins s σ H x v vl vu lo hi sl Q I rx hs pl pu q
noncomputable def tSl (r:V->Option Int->Option Int->Hp->VK->Prop) (te:TE) (tl th:TO):TE:=fun σ H Q=>te σ H fun x H1=>tl σ H1 fun l H2=>th σ H2 fun u H3=>r x l u H3 Q
theorem ziv {r:V->Option Int->Option Int->Hp->VK->Prop} (hr:SlR X r) (he:PE X e te) (hl:PO X lo tl) (hu:PO X hi th):PE X (.Subscript e (.Slice lo hi none p2) pos) (tSl r te tl th):=by
 intro pins s σ H Q I h
 refine Subscript_ (thn (he pins s σ H _ I h) fun v s1 ⟨x,H1,I1,r1,q1⟩=>?_)
 refine wpAny_Slice (thn (hl pins s1 σ H1 _ I1 q1) fun vl s2 ⟨l,H2,I2,pl,q2⟩=>thn (hu pins s2 σ H2 _ I2 q2) fun vu s3 ⟨u,H3,I3,pu,q3⟩=>?_)
 rw [evalPart_none]
 refine wpAny_pure ?_
 have I4:Inv X pins σ H3 { s3 with heap:=s3.heap.push { cls:=.type "slice",data:=.fields #[vl,vu,.none] } }:=I3.kept (t':=s3.toks) fun b ob q=>Heap.get?_push_of_some _ q
 obtain ⟨T,id,hT,ht,hg⟩:=hr pins { s3 with heap:=s3.heap.push { cls:=.type "slice",data:=.fields #[vl,vu,.none] } } σ H3 x v vl vu l u s3.heap.objs.size Q I4 r1 (Heap.IsSliceOf.new ..) pl pu q3
 show wpAny (model X.prog X.w) X.A (subscriptTail e (.Slice lo hi none p2) v (.ref s3.heap.objs.size)) (EP X pins σ Q) X.xe { s3 with heap:=s3.heap.push { cls:=.type "slice",data:=.fields #[vl,vu,.none] } }
 exact tail_any (ops:=[.ref s3.heap.objs.size,v]) ht hT hg (by with_unfolding_all rfl)
noncomputable def cutV (xs:List V) (lo hi:Option Int):List V:=(xs.drop (HT.sIx xs.length 0 lo)).take (HT.sIx xs.length xs.length hi - HT.sIx xs.length 0 lo)
theorem zcE (xs:List V) (lo hi:Option Int):(cutV xs lo hi).length<=xs.length:=by
 unfold cutV
 rw [List.length_take,List.length_drop]
 omega
noncomputable def rSlT (K:PySem.W.Frag):V->Option Int->Option Int->Hp->VK->Prop:=fun x lo hi H Q=>∃ a xs,x = .ref a/\SqT K H a xs /\
 ¬ (HT.sIx xs.length 0 lo = 0/\HT.sIx xs.length xs.length hi = xs.length)/\∀ p,H p = none->Q (.ref p) (upd H p (.tup (cutV xs lo hi)))
theorem zlM:SlR X (rSlT X.K):=by
 intro pins s σ H x v vl vu lo hi sl Q I rx hs pl pu h
 obtain ⟨a,xs,rfl,hx,hw,q⟩:=h
 cases rx
 obtain ⟨its,r,ht,hz⟩:=I.tuple hx
 have hlen:its.toArray.size = xs.length:=by rw [List.size_toArray]; exact r.length.symm
 refine ⟨"tuple",_,PyProof.Rows.slot_tuple_getitem.lookup,ht.typeIs,?_⟩
 refine HT.getItem_tuple_cut ht hs pl pu (by rw [hlen]; exact hw) ?_ (by rw [hlen]; exact hz)
 rw [hlen]
 refine ⟨.ref s.heap.objs.size,_,I.laid (t':=s.toks) (o:=.tup (cutV xs lo hi)) (fun b ob q=>Heap.get?_push_of_some _ q) (Nat.le_refl _) ?_,rfl,q _ (I.hok.fresh (Nat.le_refl _))⟩
 exact ⟨Nat.le_trans (zcE xs lo hi) hz,_,(r.drop (HT.sIx xs.length 0 lo)).take (HT.sIx xs.length xs.length hi - HT.sIx xs.length 0 lo),IsTup.new _ _⟩
noncomputable def rLtT (K:PySem.W.Frag):R2:=fun x y H Q=>∃ a b ns ms,x = .ref a/\y = .ref b/\SqT K H a (ns.map V.int)/\SqT K H b (ms.map V.int)/\Q (.bl (HT.lexLt ns ms)) H
theorem zlL (hu:X.A.units < cLine):OpR X (compareOp .Lt) (rLtT X.K):=by
 intro pins s σ H x y v u Q I rx ry h
 obtain ⟨a,b,ns,ms,rfl,rfl,ha,hb,q⟩:=h
 cases rx
 cases ry
 obtain ⟨its,r1,p1,_⟩:=I.tuple ha
 obtain ⟨its2,r2,p2,_⟩:=I.tuple hb
 have i1:IntsAre its.toArray.toList ns:=zdg r1
 have i2:IntsAre its2.toArray.toList ms:=zdg r2
 exact HT.lt_tupInts p1 p2 i1 i2 hu ⟨.bl (HT.lexLt ns ms),H,I,rfl,q⟩
theorem Vals.nil_iff {xs:List V} {us:List Value} (r:Vals xs us):us = [] ↔ xs = []:=by
 cases r with
 | nil=>simp
 | cons _ _=>simp
end
end L2
namespace L2
open PySem PySem.Spec PyProof.Rows
noncomputable def ixN (n:Nat) (i:Int):Option Nat:=if 0<=i then (if i < n then some i.toNat else none) else if -(n:Int)<=i then some (i + n).toNat else none
noncomputable def atI {α:Type} (xs:List α) (i:Int):Option α:=(ixN xs.length i).bind fun j=>xs[j]?
theorem zg8 {n:Nat} {i:Int} {j:Nat} (h:ixN n i = some j):seqIndex? i n = some j/\j < n/\-(n:Int)<=i/\i < n:=by
 unfold ixN at h
 by_cases h0:0<=i
 ·rw [if_pos h0] at h
  by_cases h1:i < n
  ·rw [if_pos h1] at h
   have e:i.toNat = j:=Option.some.inj h
   exact ⟨by rw [seqIndex_of h0 h1,e],by omega,by omega,h1⟩
  ·rw [if_neg h1] at h; cases h
 ·rw [if_neg h0] at h
  by_cases h1 : -(n:Int)<=i
  ·rw [if_pos h1] at h
   have e:(i + n).toNat = j:=Option.some.inj h
   exact ⟨by rw [seqIndex_neg (by omega) h1,e],by omega,h1,by omega⟩
  ·rw [if_neg h1] at h; cases h
theorem zeX {α:Type} {xs:List α} {i:Int} {v:α} (h:atI xs i = some v):∃ j,seqIndex? i xs.length = some j/\xs[j]? = some v/\j < xs.length/\-(xs.length:Int)<=i/\i < xs.length:=by
 unfold atI at h
 cases e:ixN xs.length i with
 | none=>rw [e] at h; cases h
 | some j=>
  rw [e] at h
  obtain ⟨h1,h2,h3,h4⟩:=zg8 e
  exact ⟨j,h1,h,h2,h3,h4⟩
noncomputable def PlainIx (b:Expr):Prop:=∀ o i,subscripted b false o i = operate [o,i] (getItem o i)
noncomputable def IxR (X:Cx) (r:R2):Prop:=
 ∀ (value slice:Expr) (pins:List (Addr × Obj)) (s:Shared) (σ:St) (H:Hp) (x y:V) (v u:Value) (Q:VK),Inv X pins σ H s->RelV x v->RelV y u->r x y H Q->
  subscripted slice false v u = operate [v,u] (getItem v u)->wpAny (model X.prog X.w) X.A (subscriptTail value slice v u) (EP X pins σ Q) X.xe s
noncomputable def MtR (X:Cx) (id:String) (r:V->List V->Hp->VK->Prop):Prop:=
 ∀ (pins:List (Addr × Obj)) (s:Shared) (σ:St) (H:Hp) (x:V) (xs:List V) (v:Value) (us:List Value) (Q:VK),Inv X pins σ H s->RelV x v->Vals xs us->r x xs H Q->
  wpAny (model X.prog X.w) X.A (call (.builtin id) (v::us)) (EP X pins σ Q) X.xe s
section
variable {X:Cx} {a b:Expr} {ta tb:TE} {pos:Pos}
theorem IxR.or {r r':R2} (h:IxR X r) (h':IxR X r'):IxR X (fun x y H Q=>r x y H Q\/r' x y H Q):=by
 intro value slice pins s σ H x y v u Q I rx ry q hs
 rcases q with q | q
 ·exact h value slice pins s σ H x y v u Q I rx ry q hs
 ·exact h' value slice pins s σ H x y v u Q I rx ry q hs
theorem zmX {r:R2} (hr:IxR X r) (ha:PE X a ta) (hb:PE X b tb) (hs:PlainIx b):PE X (.Subscript a b pos) (tOp r ta tb):=by
 intro pins s σ H Q I h
 exact Subscript_ (binT ha hb I h fun v u s2 x y H2 I2 rx ry q=>hr a b pins s2 σ H2 x y v u Q I2 rx ry q (hs _ _))
noncomputable def rIxL (K:PySem.W.Frag):R2:=fun x y H Q=>∃ p xs i v,x = .ref p/\y = .int i/\SqL K H p xs/\atI xs i = some v/\Q v H
noncomputable def rIxT (K:PySem.W.Frag):R2:=fun x y H Q=>∃ p xs i v,x = .ref p/\y = .int i/\SqT K H p xs/\atI xs i = some v/\Q v H
noncomputable def rIxS:R2:=fun x y H Q=>∃ z i c,x = .str z/\y = .int i/\z.length<=sizeLine/\atI z.cps.toList i = some c/\Q (.str ⟨#[c]⟩) H
theorem ix_list:IxR X (rIxL X.K):=by
 intro value slice pins s σ H x y v u Q I rx ry h hs
 obtain ⟨p,xs,i,z,rfl,rfl,hq,he,q⟩:=h
 cases rx
 obtain ⟨t,rfl⟩:=ry
 obtain ⟨its,r,pl,hz⟩:=I.list hq
 obtain ⟨j,h1,h2,h3,h4,h5⟩:=zeX he
 obtain ⟨w,ew,rw'⟩:=r.get h2
 have hl:=r.length
 have hn:=line63
 have fin:EP X pins σ Q w s:=⟨z,H,I,rw',q⟩
 by_cases h0:0<=i
 ·have hj:i.toNat = j:=by
   rw [seqIndex_of h0 h5] at h1
   exact Option.some.inj h1
  exact item_listR pl.isList h0 (by omega) (by rw [hj]; simpa using ew) fin hs
 ·have hj:(i + (its.toArray.size:Int)).toNat = j:=by
   rw [seqIndex_neg (by omega) h4] at h1
   rw [List.size_toArray,<- hl]
   exact Option.some.inj h1
  exact subscriptTail_builtinR (x:=w) pl.isList.typeIs slot_list_getitem.lookup
   (wpAny_getItem_list_neg (Q:=fun r s'=>r = w/\EP X pins σ Q r s') pl.isList (by omega) (by rw [List.size_toArray] <;> omega) (by omega) (by rw [hj]; simpa using ew) ⟨rfl,fin⟩) hs
theorem ix_tup:IxR X (rIxT X.K):=by
 intro value slice pins s σ H x y v u Q I rx ry h hs
 obtain ⟨p,xs,i,z,rfl,rfl,hq,he,q⟩:=h
 cases rx
 obtain ⟨t,rfl⟩:=ry
 obtain ⟨its,r,pl,hz⟩:=I.tuple hq
 obtain ⟨j,h1,h2,h3,h4,h5⟩:=zeX he
 obtain ⟨w,ew,rw'⟩:=r.get h2
 have hl:=r.length
 have hn:=line63
 have fin:EP X pins σ Q w s:=⟨z,H,I,rw',q⟩
 exact subscriptTail_builtinR (x:=w) pl.typeIs slot_tuple_getitem.lookup
  (getItem_tuple (j:=j) (Q:=fun r s'=>r = w/\EP X pins σ Q r s') pl (by omega) (by omega) (by rw [List.size_toArray,<- hl]; exact h1) (by simpa using ew) ⟨rfl,fin⟩) hs
theorem zkZ:IxR X rIxS:=by
 intro value slice pins s σ H x y v u Q I rx ry h hs
 obtain ⟨z,i,c,rfl,rfl,hz,he,q⟩:=h
 obtain ⟨t,rfl⟩:=rx
 obtain ⟨t',rfl⟩:=ry
 obtain ⟨j,h1,h2,h3,h4,h5⟩:=zeX he
 have hl:z.cps.toList.length = z.length:=by simp [Str.length]
 rw [hl] at h1 h4 h5
 have hn:=line63
 exact tail_any (typeIs_str s z t) slot_str_getitem.lookup (getItem_str (c:=c) (by
  have e1:decide (i < -(2 ^ 63:Int)) = false:=decide_eq_false (by omega)
  have e2:decide (i >= 2 ^ 63) = false:=decide_eq_false (by omega)
  rw [e1,e2,Bool.or_false]) (by rw [h1]; simpa using h2) ⟨.str ⟨#[c]⟩,H,I.tok _,⟨_,rfl⟩,q⟩) hs
noncomputable def rIx (K:PySem.W.Frag):R2:=fun x y H Q=>rIxL K x y H Q\/rIxT K x y H Q\/rIxS x y H Q
theorem zlT:IxR X (rIx X.K):=ix_list.or (ix_tup.or zkZ)
theorem zfU (its:List Value) (n j:Nat) (u:Value):Obj.mapSeq (·.setIfInBounds j u) { cls:=.type "list",data:=.seq its.toArray n } = { cls:=.type "list",data:=.seq (its.set j u).toArray n }:=by
 simp [Obj.mapSeq]
theorem Inv.lst {pins:List (Addr × Obj)} {σ:St} {H:Hp} {s:Shared} {p:Addr} {xs:List V} (I:Inv X pins σ H s) (h:H p = some (.lst xs)) :
  ∃ (its:List Value) (n:Nat),Vals xs its/\s.heap.get? p = some { cls:=.type "list",data:=.seq its.toArray n }/\xs.length<=sizeLine:=by
 obtain ⟨z,its,n,r,e⟩:=I.hok p _ h
 exact ⟨its,n,r,e,z⟩
theorem Inv.lstUpd {pins:List (Addr × Obj)} {σ:St} {H:Hp} {s:Shared} {p:Addr} {xs ys:List V} {its its':List Value} {n n':Nat} {f:Obj->Obj} (I:Inv X pins σ H s) (h:H p = some (.lst xs))
  (ho:s.heap.get? p = some { cls:=.type "list",data:=.seq its.toArray n }) (hf:f { cls:=.type "list",data:=.seq its.toArray n } = { cls:=.type "list",data:=.seq its'.toArray n' }) (r:Vals ys its') (hz:ys.length<=sizeLine) (t:Nat) :
  Inv X pins σ (upd H p (.lst ys)) { s with heap:=s.heap.update p f,toks:=t }:=by
 have e:(s.heap.update p f).get? p = some { cls:=.type "list",data:=.seq its'.toArray n' }:=by
  rw [Heap.get?_update_self f ho (by rw [hf] <;> rfl),hf]
 refine I.write (x:=p) (e:=p) (by rw [h]; trivial) (.inl rfl) (fun b u hb q=>(Heap.get?_update_other _ _ (Ne.symm hb)).trans q) ⟨_,e⟩ ?_
 exact ⟨hz,its',n',r,e⟩
noncomputable def rSetL:V->V->V->Hp->(Hp->Prop)->Prop:=fun o i v H Q=>∃ p xs k j,o = .ref p/\i = .int k/\H p = some (.lst xs)/\ixN xs.length k = some j/\Q (upd H p (.lst (xs.set j v)))
theorem zhT:PSet X rSetL:=by
 intro pins s σ H o i v ov iv u Q I ro ri rv h
 obtain ⟨p,xs,k,j,rfl,rfl,hp,hj,q⟩:=h
 cases ro
 obtain ⟨t,rfl⟩:=ri
 obtain ⟨its,n,r,ho,hz⟩:=I.lst hp
 obtain ⟨h1,h2,h3,h4⟩:=zg8 hj
 have hl:=r.length
 have hn:=line63
 have I':Inv X pins σ (upd H p (.lst (xs.set j v))) { s with heap:=s.heap.update p (Obj.mapSeq (·.setIfInBounds j u)) }:=
  I.lstUpd hp ho (zfU its n j u) (r.set rv j) (by rw [List.length_set]; exact hz) s.toks
 by_cases h0:0<=k
 ·have hk:k.toNat = j:=by
   rw [seqIndex_of h0 h4] at h1
   exact Option.some.inj h1
  exact PySem.W.ki_setAt ho h0 (by omega) (by rw [List.size_toArray,<- hl]; exact h4) (by rw [hk]; exact ⟨_,I',q⟩)
 ·have hk:(k + (its.toArray.size:Int)).toNat = j:=by
   rw [seqIndex_neg (by omega) h3] at h1
   rw [List.size_toArray,<- hl]
   exact Option.some.inj h1
  exact PySem.W.ki_setBack ho (by omega) (by rw [List.size_toArray,<- hl]; exact h3) (by omega) (by rw [hk]; exact ⟨_,I',q⟩)
theorem zd1 (lo hi:Option Int) (n:Nat):(sliceBounds lo hi none n).1 = ((HT.sIx n 0 lo:Nat):Int)/\(sliceBounds lo hi none n).2.1 = ((HT.sIx n n hi:Nat):Int)/\(sliceBounds lo hi none n).2.2 = 1:=by
 refine ⟨?_,?_,rfl⟩
 ·cases lo with
  | none=>simp [sliceBounds,HT.sIx]
  | some i=>
   simp only [sliceBounds,HT.sIx,Option.getD_none,show (1:Int) > 0 by decide,if_true]
   by_cases h:i < 0
   ·simp only [h,if_true] <;> omega
   ·simp only [h,if_false] <;> omega
 ·cases hi with
  | none=>simp [sliceBounds,HT.sIx]
  | some i=>
   simp only [sliceBounds,HT.sIx,Option.getD_none,show (1:Int) > 0 by decide,if_true]
   by_cases h:i < 0
   ·simp only [h,if_true] <;> omega
   ·simp only [h,if_false] <;> omega
theorem zdv (its:List Value) (lo hi:Option Int):slicePick its.toArray lo hi none = ((its.drop (HT.sIx its.length 0 lo)).take (HT.sIx its.length its.length hi - HT.sIx its.length 0 lo)).toArray:=by
 obtain ⟨h1,h2,h3⟩:=zd1 lo hi its.toArray.size
 unfold slicePick
 rw [h1,h2,h3]
 simp only [sliceRange_one,pick_run,List.size_toArray] <;> rfl
noncomputable def rSlL (K:PySem.W.Frag):V->Option Int->Option Int->Hp->VK->Prop:=fun x lo hi H Q=>∃ a xs,x = .ref a/\SqL K H a xs/\∀ p,H p = none->Q (.ref p) (upd H p (.lst (cutV xs lo hi)))
theorem sl_list:SlR X (rSlL X.K):=by
 intro pins s σ H x v vl vu lo hi sl Q I rx hs pl pu h
 obtain ⟨a,xs,rfl,hx,q⟩:=h
 cases rx
 obtain ⟨its,r,ht,hz⟩:=I.list hx
 have hlen:=r.length
 refine ⟨"list",_,slot_list_getitem.lookup,ht.isList.typeIs,?_⟩
 refine wpAny_getItem_list_slice ht.isList hs pl pu .none (by simp) ?_ (by rw [List.size_toArray] <;> omega)
 rw [zdv,<- hlen]
 refine ⟨.ref s.heap.objs.size,_,I.laid (t':=s.toks) (o:=.lst (cutV xs lo hi)) (fun b ob q=>Heap.get?_push_of_some _ q) (Nat.le_refl _) ?_,rfl,q _ (I.hok.fresh (Nat.le_refl _))⟩
 exact ⟨Nat.le_trans (zcE xs lo hi) hz,_,0,(r.drop (HT.sIx xs.length 0 lo)).take (HT.sIx xs.length xs.length hi - HT.sIx xs.length 0 lo),Heap.get?_push_size _ rfl⟩
theorem zd3:CallR X (.builtin "len") (fun xs H Q=>∃ p ys,xs = [.ref p]/\(SqL X.K H p ys\/SqT X.K H p ys)/\Q (.int ys.length) H):=by
 intro pins s σ H xs us Q I r h
 obtain ⟨p,ys,rfl,hq,q⟩:=h
 obtain ⟨u,rfl,rx⟩:=vals1 r
 cases rx
 have hn:=line63
 rcases hq with hq | hq
 ·obtain ⟨its,r',pl,hz⟩:=I.list hq
  have hlen:=r'.length
  exact Calls.call_len_list pl.isList (by simp only [List.size_toArray] <;> omega) ⟨.int ys.length,H,I.tok _,⟨s.toks + 1,by rw [List.size_toArray,hlen]⟩,q⟩
 ·obtain ⟨its,r',pl,hz⟩:=I.tuple hq
  have hlen:=r'.length
  exact len_tuple pl (by simp only [List.size_toArray] <;> omega) ⟨.int ys.length,H,I.tok _,⟨s.toks + 1,by rw [List.size_toArray,hlen]⟩,q⟩
theorem zef:CallR X (.type "list") (fun xs H Q=>∃ p ys,xs = [.ref p]/\(SqL X.K H p ys\/SqT X.K H p ys)/\∀ l,H l = none->Q (.ref l) (upd H l (.lst ys))):=by
 intro pins s σ H xs us Q I r h
 obtain ⟨p,ys,rfl,hq,q⟩:=h
 obtain ⟨u,rfl,rx⟩:=vals1 r
 cases rx
 have fin:∀ (its:List Value),Vals ys its->ys.length<=sizeLine->∀ (h':Heap) (c':Nat),(∀ b o',s.heap.get? b = some o'->h'.get? b = some o')->
   h'.get? s.heap.objs.size = some { cls:=.type "list",dict:=none,data:=.seq its.toArray c',slots:=#[] }->EP X pins σ Q (.ref s.heap.objs.size) { s with heap:=h' }:=fun its r' hz h' c' kp e=>
  ⟨.ref s.heap.objs.size,_,I.laid (t':=s.toks) kp (Nat.le_refl _) (show ObjOk X.prog X.w _ h' _ (.lst ys) from ⟨hz,its,c',r',e⟩),rfl,q _ (I.hok.fresh (Nat.le_refl _))⟩
 rcases hq with hq | hq
 ·obtain ⟨its,r',pl,hz⟩:=I.list hq
  have hlen:=r'.length
  obtain ⟨o,ho,hc,n,hd⟩:=pl.isList
  exact call_list_seq p (.inl rfl) ho hc hd (fun h' c' kp e=>fin its r' hz h' c' kp e) (by simp only [List.size_toArray] <;> omega)
 ·obtain ⟨its,r',pl,hz⟩:=I.tuple hq
  have hlen:=r'.length
  obtain ⟨o,ho,hc,n,hd⟩:=pl
  exact call_list_seq p (.inr rfl) ho hc hd (fun h' c' kp e=>fin its r' hz h' c' kp e) (by simp only [List.size_toArray] <;> omega)
theorem zdy:CallR X (.type "tuple") (fun xs H Q=>∃ p ys,xs = [.ref p]/\((SqL X.K H p ys/\∀ l,H l = none->Q (.ref l) (upd H l (.tup ys)))\/(SqT X.K H p ys/\Q (.ref p) H))):=by
 intro pins s σ H xs us Q I r h
 obtain ⟨p,ys,rfl,h⟩:=h
 obtain ⟨u,rfl,rx⟩:=vals1 r
 cases rx
 rcases h with ⟨hq,q⟩ | ⟨hq,q⟩
 ·obtain ⟨its,r',pl,hz⟩:=I.list hq
  have hlen:=r'.length
  refine call_tuple_list pl.isList (fun h' kp=>?_) (by simp only [List.size_toArray] <;> omega)
  have I1:Inv X pins σ H { s with heap:=h' }:=I.kept (t':=s.toks) kp
  have I2:Inv X pins σ (upd H h'.objs.size (.tup ys)) { s with heap:=h'.push { cls:=.type "tuple",data:=.seq its.toArray } }:=
   I1.laid (t':=s.toks) (fun b o e=>Heap.get?_push_of_some _ e) (Nat.le_refl _) (show ObjOk X.prog X.w _ _ _ (.tup ys) from ⟨hz,its,r',IsTup.new _ _⟩)
  exact ⟨.ref h'.objs.size,_,I2,rfl,q _ (I1.hok.fresh (Nat.le_refl _))⟩
 ·obtain ⟨its,r',pl,hz⟩:=I.tuple hq
  exact call_tuple_same pl ⟨.ref p,H,I,rfl,q⟩
noncomputable def tyV (K:PySem.W.Frag) (T:String) (x:V) (H:Hp):Prop:=match x with
 | .str _=>T = "str"
 | .int _=>T = "int"
 | .ref p=>(T = "list"/\∃ xs,SqL K H p xs)\/(T = "tuple"/\∃ o,K.lookup p = some o/\o.cls = .type "tuple"/\o.dict = none) \/
   (T = "dict"/\((∃ kvs,H p = some (.dK kvs))\/∃ kvs,H p = some (.dT kvs)))\/(T = "set"/\∃ S n,H p = some (.set S n))
 | _=>False
theorem ziK {pins:List (Addr × Obj)} {σ:St} {H:Hp} {s:Shared} {T:String} {x:V} {v:Value} (I:Inv X pins σ H s) (r:RelV x v) (ty:tyV X.K T x H) :
  s.TypeIs v T/\∀ a,v = .ref a->∃ ob,s.heap.get? a = some ob/\ob.dict = none:=by
 cases x with
 | str z=>
  obtain ⟨t,rfl⟩:=r
  cases (show T = "str" from ty)
  exact ⟨typeIs_str s z t,fun _ e=>nomatch e⟩
 | int i=>
  obtain ⟨t,rfl⟩:=r
  cases (show T = "int" from ty)
  exact ⟨typeIs_int s i t,fun _ e=>nomatch e⟩
 | ref p=>
  cases r
  rcases ty with ⟨rfl,xs,hq⟩ | ⟨rfl,o,hk,hc,hd⟩ | ⟨rfl,hk⟩ | ⟨rfl,S,n,hk⟩
  ·obtain ⟨its,_,pl,_⟩:=I.list hq
   refine ⟨pl.isList.typeIs,fun a e=>?_⟩
   cases e
   obtain ⟨o,n,e,c,hd,_⟩:=pl
   exact ⟨o,e,hd⟩
  ·refine ⟨⟨o,I.kIn p o hk,hc⟩,fun a e=>?_⟩
   cases e
   exact ⟨o,I.kIn _ o hk,hd⟩
  ·have z:∃ o,s.heap.get? p = some o/\o.ExactDict:=by
    rcases hk with ⟨kvs,hk⟩ | ⟨kvs,hk⟩
    ·obtain ⟨_,_,_,_,o,_,_,e,ex,_⟩:=I.hok p _ hk
     exact ⟨o,e,ex⟩
    ·obtain ⟨_,_,_,_,o,_,_,e,ex,_⟩:=I.hok p _ hk
     exact ⟨o,e,ex⟩
   obtain ⟨o,e,ex⟩:=z
   refine ⟨⟨o,e,ex.1⟩,fun a e2=>?_⟩
   cases e2
   exact ⟨o,e,ex.2.1⟩
  ·obtain ⟨o,_,_,_,e,ex,_⟩:=I.hok p _ hk
   refine ⟨⟨o,e,ex.1⟩,fun a e2=>?_⟩
   cases e2
   exact ⟨o,e,ex.2.1⟩
 | _=>exact False.elim ty
noncomputable def tBM0 (K:PySem.W.Frag) (T:String) (r:V->List V->Hp->VK->Prop) (to:TE):TE:=fun σ H Q=>to σ H fun x H1=>tyV K T x H1/\r x [] H1 Q
noncomputable def tBM (K:PySem.W.Frag) (T:String) (r:V->List V->Hp->VK->Prop) (to:TE) (t:TA):TE:=fun σ H Q=>to σ H fun x H1=>tyV K T x H1/\t σ H1 fun xs H2=>r x xs H2 Q
variable {o e:Expr} {es:List Expr} {to:TE} {t:TA} {name:Str} {apos cpos:Pos} {T id:String} {r:V->List V->Hp->VK->Prop}
theorem zlV (pa:PlainAttrs T) (slot:Slot T name id) (hty:typeOf (.builtin id) = pure (.type "method_descriptor")) (hm:MtR X id r) (ho:PE X o to)
  (hbase:attributeBase o name X.env (eval o X.env) = eval o X.env:=by rfl) (hline:(apos.endLine == cpos.line) = true:=by rfl):PE X (.Call (.Attribute o name apos) [] [] cpos) (tBM0 X.K T r to):=by
 intro pins s σ H Q I h
 refine wpAny_Call_method0_late hbase hline (thn (ho pins s σ H _ I h) fun v s1 ⟨x,H1,I1,r1,ty,q1⟩=>?_)
 obtain ⟨h1,h2⟩:=ziK I1 r1 ty
 exact ⟨T,id,pa,slot,hty,h1,h2,Calls.callWith_builtin rfl (PySem.evalArgs_none (hm pins s1 σ H1 x [] v [] Q I1 r1 .nil q1))⟩
theorem zmF (pa:PlainAttrs T) (slot:Slot T name id) (hty:typeOf (.builtin id) = pure (.type "method_descriptor")) (hm:MtR X id r) (ho:PE X o to) (ha:PA X (e::es) t)
  (hbase:attributeBase o name X.env (eval o X.env) = eval o X.env:=by rfl)
  (hfew:((backTo cpos (starEach (e::es) X.env)).all (fun x=>!x.1) && (backToKw cpos (keywordEach [] X.env)).all (fun x=>x.1.isSome)
   && decide ((e::es).length + ([]:List Keyword).length + (if ([]:List Keyword).isEmpty then 0 else 1) < 30)) = true:=by rfl)
  (hline:(apos.endLine == cpos.line) = true:=by rfl) (hs:starEach (e::es) X.env = (false,eval e X.env)::starEach es X.env:=by rfl) (hplain:(backTo cpos (starEach es X.env)).any (·.1) = false:=by rfl) :
  PE X (.Call (.Attribute o name apos) (e::es) [] cpos) (tBM X.K T r to t):=by
 intro pins s σ H Q I h
 refine wpAny_Call_method_late hbase hfew hline rfl (thn (ho pins s σ H _ I h) fun v s1 ⟨x,H1,I1,r1,ty,q1⟩=>?_)
 obtain ⟨h1,h2⟩:=ziK I1 r1 ty
 refine ⟨T,id,pa,slot,hty,h1,h2,?_⟩
 have hA:=ha cpos pins s1 σ H1 _ I1 q1
 rw [hs] at hA ⊢
 refine Calls.callWith_builtin (by show (false || (backTo cpos (starEach es X.env)).any (·.1)) = false; rw [hplain] <;> rfl) (Calls.evalArgs_plain ?_)
 exact thn hA fun us s2 ⟨vs,H2,I2,r2,q2⟩=>hm pins s2 σ H2 x vs v us Q I2 r1 r2 q2
end
end L2
namespace L2
open PySem PySem.Spec PyProof.Rows
noncomputable def MtM (X:Cx) (id:String) (r:V->List V->Hp->VK->Prop):Prop:=
 ∀ (pins:List (Addr × Obj)) (s:Shared) (σ:St) (H:Hp) (x:V) (xs:List V) (v:Value) (us:List Value) (Q:VK),Inv X pins σ H s->RelV x v->Vals xs us->r x xs H Q->
  wpAny (model X.prog X.w) X.A (call (.builtin id) (v::us)) (EP X pins σ Q) X.xe s
theorem Vals.one:∀ {x:V} {us:List Value},Vals [x] us->∃ u,us = [u]/\RelV x u
 | _,_,.cons r .nil=>⟨_,rfl,r⟩
theorem Vals.two:∀ {x y:V} {us:List Value},Vals [x,y] us->∃ u v,us = [u,v]/\RelV x u/\RelV y v
 | _,_,_,.cons r (.cons q .nil)=>⟨_,_,rfl,r,q⟩
theorem Vals.zero:∀ {us:List Value},Vals [] us->us = []
 | _,.nil=>rfl
theorem Vals.dropLast {xs:List V} {us:List Value} (h:Vals xs us):Vals xs.dropLast us.dropLast:=by
 induction h with
 | nil=>exact .nil
 | cons r t ih=>
  cases t with
  | nil=>exact .nil
  | cons q t'=>exact .cons r ih
theorem zfK {α:Type} (l:List α):l.eraseIdx (l.length - 1) = l.dropLast:=by
 induction l with
 | nil=>rfl
 | cons a r ih=>
  cases r with
  | nil=>rfl
  | cons b r=>
   have e:(a::b::r).length - 1 = ((b::r).length - 1) + 1:=by
    have h1:(a::b::r).length = r.length + 2:=rfl
    have h2:(b::r).length = r.length + 1:=rfl
    omega
   rw [e,List.eraseIdx_cons_succ,ih]
   all_goals rfl
section
variable {X:Cx} {pins:List (Addr × Obj)} {σ:St} {H:Hp} {s:Shared} {l b:Addr} {xs ys zs:List V}
theorem Inv.lset {its its':List Value} {n:Nat} {f:Array Value->Array Value} {t':Nat} (I:Inv X pins σ H s) (hH:H l = some (.lst xs))
  (e:s.heap.get? l = some { cls:=.type "list",data:=.seq its.toArray n }) (hf:f its.toArray = its'.toArray) (hv:Vals ys its') (hz:ys.length<=sizeLine) :
  Inv X pins σ (upd H l (.lst ys)) { s with heap:=s.heap.update l (Obj.mapSeq f),toks:=t' }:=by
 have q:=PySem.IsL.update e f
 rw [hf] at q
 refine I.write (x:=l) (e:=l) (by rw [hH]; exact trivial) (.inl rfl) (fun b' u hb hu=>(Heap.get?_update_other s.heap (Obj.mapSeq f) (Ne.symm hb)).trans hu) ⟨_,q⟩ ?_
 exact ⟨hz,its',_,hv,q⟩
theorem Inv.lnew {its:List Value} {t':Nat} (I:Inv X pins σ H s) (hv:Vals ys its) (hz:ys.length<=sizeLine) :
  Inv X pins σ (upd H s.heap.objs.size (.lst ys)) { s with heap:=s.heap.push { cls:=.type "list",data:=.seq its.toArray },toks:=t' }:=
 I.laid (fun _ _ q=>Heap.get?_push_of_some _ q) (Nat.le_refl _) ⟨hz,its,0,hv,Heap.get?_push_size _ rfl⟩
theorem Inv.fresh (I:Inv X pins σ H s):H s.heap.objs.size = none:=I.hok.fresh (Nat.le_refl _)
theorem Inv.lstM (I:Inv X pins σ H s) (hH:H l = some (.lst xs)):xs.length<=sizeLine/\∃ (its:List Value) (n:Nat),Vals xs its/\xs.length = its.length/\s.heap.get? l = some { cls:=.type "list",data:=.seq its.toArray n }:=by
 obtain ⟨z,its,n,r,e⟩:=I.hok l _ hH
 exact ⟨z,its,n,r,r.length,e⟩
end
section
variable {X:Cx}
noncomputable def rAppend:V->List V->Hp->VK->Prop:=fun x vs H Q=>∃ l xs y,x = .ref l/\vs = [y]/\H l = some (.lst xs)/\xs.length < sizeLine/\Q .non (upd H l (.lst (xs ++ [y])))
theorem zdV:MtM X "list.append" rAppend:=by
 intro pins s σ H x vs v us Q I rx rv h
 obtain ⟨l,xs,y,rfl,rfl,hH,hz,q⟩:=h
 cases rx
 obtain ⟨u,rfl,ru⟩:=rv.one
 obtain ⟨z,its,n,r,hl,e⟩:=I.lstM hH
 refine call_meets F.slot_list_append ⟨_,e,rfl⟩ F.entry_list_append (F.args_list_append_2 _ _) (PySem.list_append l its.toArray n u (by rw [List.size_toArray]; omega)) ⟨e,?_⟩
 refine ⟨.non,_,I.lset (its':=its ++ [u]) hH e (by simp) (r.append (.cons ru .nil)) ?_,rfl,q⟩
 rw [List.length_append,List.length_singleton]
 omega
noncomputable def rPop:V->List V->Hp->VK->Prop:=fun x vs H Q=>∃ l xs y,x = .ref l/\vs = []/\H l = some (.lst xs)/\xs[xs.length - 1]? = some y/\Q y (upd H l (.lst xs.dropLast))
theorem zl3:MtM X "list.pop" rPop:=by
 intro pins s σ H x vs v us Q I rx rv h
 obtain ⟨l,xs,y,rfl,rfl,hH,hy,q⟩:=h
 cases rx
 have hus:=rv.zero
 subst hus
 obtain ⟨z,its,n,r,hl,e⟩:=I.lstM hH
 obtain ⟨u,hu,ru⟩:=r.get hy
 have hy':its.toArray[its.toArray.size - 1]? = some u:=by
  show its.toArray[its.length - 1]? = some u
  rw [<- Array.getElem?_toList,<- hl]
  exact hu
 refine call_meets F.slot_list_pop ⟨_,e,rfl⟩ F.entry_list_pop (F.args_list_pop_1 _) (MeetsSeq.list_pop_last l its.toArray n u hy' (by rw [List.size_toArray]; omega)) ⟨e,?_⟩
 refine ⟨y,_,I.lset (its':=its.dropLast) hH e ?_ r.dropLast ?_,ru,q⟩
 ·show its.toArray.eraseIdxIfInBounds (its.toArray.size - 1) = its.dropLast.toArray
  rw [List.size_toArray,List.eraseIdxIfInBounds_toArray,zfK]
 ·rw [List.length_dropLast]
  omega
end
section
variable {prog:Program} {w:World} {A:Around} {E:Value->Shared->Prop} {s:Shared}
set_option maxRecDepth 100000 in
end
section
variable {X:Cx}
end
end L2
namespace Att
open PySem PySem.W PySem.Calls PyProof.Rows
theorem zcB {P:Params} {h:Heap}:∀ (ns:List Int) (vs:List Value),WellAll P h vs (ns.map WData.int)->IntsAre vs ns:=by
 intro ns
 induction ns with
 | nil=>
  intro vs w
  rw [List.map_nil] at w
  cases w
  exact .nil
 | cons n ns ih=>
  intro vs w
  rw [List.map_cons] at w
  cases w with
  | cons a b=>
   cases a
   exact .cons _ _ (ih _ b)
theorem zgh {l:OpenLaw} {n:Nat} (hn:l.most = some n) {P:Params} {h:Heap} {args:List WData} {vals:List Value}
  (hpre:l.row.toRowW.claim.pre args = true) (hwl:WellAll P h vals args) :
  ∃ a vs ns,vals = [Value.ref a]/\args = [WData.list (ns.map WData.int)]/\h.get? a = some { cls:=.type "list",data:=.seq vs.toArray }/\IntsAre vs ns/\ns.length<=n:=by
 have hsh:WShape.hasAll [] args [.list .int] = true:=(pre_splitW hpre).1
 have hc:l.pre.holds [] { args:=args } = true:=(pre_splitW hpre).2
 obtain ⟨d,r,rfl,h1,h2⟩:=hasAllW_cons hsh
 obtain rfl:=hasAllW_nil h2
 obtain ⟨xs,rfl,h3⟩:=hasW_list h1
 obtain ⟨ns,rfl⟩:=items_int h3
 have hlen:ns.length<=n:=by
  unfold OpenLaw.pre at hc
  have h4:(WTm.not (.lt (.lit (.int (n:Int))) (.len (.arg 0)))).holds [] { args:=[.list (ns.map .int)] } = true:=by
   have h4:=(holds_andW hc).1
   rw [hn] at h4
   exact h4
  have h5:=condW_of h4 (w_not (w_lt w_lit (w_len_list (w_arg rfl))))
  rw [List.length_map] at h5
  refine Nat.le_of_not_lt fun q=>?_
  have q':(n:Int) < ((ns.length:Nat):Int):=by omega
  first
   | (rw [decide_eq_true q'] at h5; exact absurd h5 (by decide))
   | (simp at h5; omega)
 cases hwl with
 | cons w1 w2=>
  cases w2
  cases w1 with
  | list ho hall=>exact ⟨_,_,ns,rfl,rfl,ho,zcB ns _ hall,hlen⟩
theorem zg7 (l:OpenLaw) (args:List WData):l.row.toRowW.claim.post args (.bool true) args = true:=
 postW_of (r:=l.row.toRowW) (X:=(true == true))
  (show WShape.has [] (.bool true) .bool = true by first | rfl | decide | simp [WShape.has,WShape.arms,WShape.armsAll])
  (show (WTm.eq .res (.lit (.bool true))).value [] { args:=args,res:=some (.bool true),after:=args } = some (.bool (true == true)) from w_eq_bool (w_res rfl) w_lit) rfl
theorem attach_call {l:OpenLaw} {n:Nat} {q:Program} {loose:List Str} {XP:(Str->Option Value)->Heap->Prop} {YP:World->Heap->Prop} {d:DefRec}
  (hn:l.most = some n) (hdf:d.params.defaults = [])
  (call:∀ (w:World) (s₀ s₁:Shared) (mg mb:Str->Option Value) (fa:Addr) (o:Obj) (pm cd doc:Value) (a:Addr) (vs:List Value) (ns:List Int),
   Ground q loose [] XP w s₀ mg mb s₁.heap->YP w s₁.heap->
   s₁.heap.get? fa = some o->o.data = .func (docDef d.name d.params d.body d.scope pm cd doc)->s₁.heap.CodeRec cd d.name->mg d.name = some (.ref fa)->
   s₁.heap.get? a = some { cls:=.type "list",data:=.seq vs.toArray }->IntsAre vs ns->ns.length<=n->s₁.gens = #[]->
   codeAny (model l.prog w) callerA (.call (.ref fa) ⟨[.ref a],[]⟩) (fun r s'=>r = .ok (.ret (.bool true))/\OldK s₁.heap s'.heap/\s'.os = s₁.os/\AllBare s'.gens) s₁) :
  WalkO q loose XP YP l.row.toRowW d [] (fun f vs=>PySem.call f vs):=by
 intro w s₀ s₁ mg mb G Y fa o pm cd doc dV kV ho hd hcd hD hmg hg args vals as hpre hlay hrd hwl hlo
 obtain rfl:dV = .none:=Dflts.none hD hdf
 obtain rfl:kV = .none:=Dflts.noKw hD
 obtain ⟨a,vs,ns,rfl,rfl,hobj,hints,hlen⟩:=zgh hn hpre hwl
 refine enter_call (codeAny_mono (call w s₀ s₁ mg mb fa o pm cd doc a vs ns G Y ho (fd_plain hd) hcd hmg hobj hints hlen hg) fun r s' hq=>?_)
 obtain ⟨rfl,h2,h3,h4⟩:=hq
 exact ⟨.inl ⟨.bool true,.bool true,[],rfl,fun _=>rfl,.bool true,zg7 l _,fun _=>⟨List.Pairwise.nil,fun _ hm=>(nomatch hm)⟩⟩,h2,h3,h4⟩
section
variable {prog:Program} {w:World} {A:Around} {E:Value->Shared->Prop} {s:Shared} {K:Frag}
end
end Att
namespace L2
open PySem PySem.Spec PyProof.Rows
theorem zek:∀ {vs:List Value} {ns:List Int},IntsAre vs ns->Vals (ns.map V.int) vs
 | _,_,.nil=>.nil
 | _,_,.cons n t h=>.cons ⟨t,rfl⟩ (zek h)
noncomputable def Only (H:Hp):Prop:=∀ b,H b = none\/∃ o xs,H b = some (.frz o (.lst xs))
theorem zig {P:Program} {w:World} {K:PySem.W.Frag} {mg mb:Str->Option Value} {CX:CXT} {k:Nat} {fa a:Addr} {fd:FuncData} {x:Str} {sp:Sp} {s₁:Shared} {vs:List Value} {ns:List Int}
  (KX:K.In s₁.heap) (hns:s₁.heap.Ns mainGlobals mg) (hb:s₁.heap.Ns builtinsNs mb) (hbb:∀ x:Str,x ≠ "__name__"->mb x = bootBuiltins x) (hlim:s₁.heap.NoLimit) (hg:s₁.gens = #[])
  (ha:s₁.heap.get? a = some { cls:=.type "list",data:=.seq vs.toArray }) (hi:IntsAre vs ns) (hl:ns.length<=sizeLine) (hr:Room k callerA)
  (F:∀ base:Heap,K.In base->base.Ns mainGlobals mg->FnOk P w K mg base CX true k fa fd [x] sp) (hbind:∀ (s:Shared) (u:Value),BindsTo s fd ⟨[u],[]⟩ [(x,u)])
  (hsp:∀ H:Hp,Only H->SqL K H a (ns.map V.int)->sp [.ref a] H (fun v _=>v = .bl true) fun _ _ _=>False)
  (hCX:∀ H e s',CX [] H s₁ (fun _ _ _=>False) e s'->False) :
  codeAny (model P w) callerA (.call (.ref fa) ⟨[.ref a],[]⟩) (fun r s'=>r = .ok (.ret (.bool true))/\OldK s₁.heap s'.heap/\s'.os = s₁.os/\AllBare s'.gens) s₁:=by
 have rv:=zek hi
 have lenV:=hi.length
 have core:∀ H:Hp,Only H->SqL K H a (ns.map V.int)->HOk P w H s₁.heap->(∀ b,H b ≠ none->b = a)->(H a ≠ none->K.lookup a = none)->
   codeAny (model P w) callerA (.call (.ref fa) ⟨[.ref a],[]⟩) (fun r s'=>r = .ok (.ret (.bool true))/\OldK s₁.heap s'.heap/\s'.os = s₁.os/\AllBare s'.gens) s₁:=by
  intro H hO hS hok hA hK
  have base_of:∀ {b:Addr} {o:Obj},s₁.heap.get? b = some o->H b = none->(hidT s₁.heap H).get? b = some o:=fun e n=>zhS e n
  have noA:∀ {b:Addr} {o:Obj} {es:Array DictEntry} {ep:Nat},s₁.heap.get? b = some o->o.data = .dict es ep->H b = none:=fun {b o es ep} e d=>by
   cases q:H b with
   | none=>rfl
   | some u=>
    have e':b = a:=hA b (by rw [q]; simp)
    subst e'
    rw [ha] at e; cases e
    have d':Data.seq vs.toArray _ = Data.dict es ep:=d
    cases d'
  have nsK:∀ {b:Addr} {m:Str->Option Value},s₁.heap.Ns b m->(hidT s₁.heap H).Ns b m:=fun {b m} ⟨o,es,ep,e,d,r⟩=>⟨o,es,ep,base_of e (noA e d),d,r⟩
  have hKb:K.In (hidT s₁.heap H):=fun b o e=>base_of (KX b o e) (by
   cases q:H b with
   | none=>rfl
   | some u=>
    have e':b = a:=hA b (by rw [q]; simp)
    subst e'
    rw [hK (by rw [q]; simp)] at e; cases e)
  have hM:Mod K mg (hidT s₁.heap H):=⟨hKb,nsK hns,⟨mb,nsK hb,hbb⟩,let ⟨mc,h1,h2⟩:=hlim; ⟨mc,nsK h1,h2⟩⟩
  have e0:Env0 P w K mg (hidT s₁.heap H) callerA [] s₁ H:=⟨rfl,hM,fun b o e=>zjq e,Nat.le_of_eq (zgA _ _),trivial,fun b hb=>absurd (show b ∈ ([]:List Addr) from hb) (by simp),hok,.of_eq hg⟩
  refine codeAny_mono ((F _ hKb (nsK hns)).run callerA [] s₁ H ⟨[.ref a],[]⟩ [.ref a] [.ref a] _ _ (fun _=>rfl) hr e0 (hbind s₁ (.ref a)) (.cons rfl .nil) (hsp H hO hS)) fun r s' h=>?_
  cases r with
  | error e=>exact (hCX H e s' h).elim
  | ok fl=>
   cases fl with
   | next=>exact False.elim h
   | brk=>exact False.elim h
   | cont=>exact False.elim h
   | ret u=>
    obtain ⟨v,H',os,bare,un,hok',r',q⟩:=h
    have q':v = .bl true:=q
    subst q'
    obtain rfl:u = Value.bool true:=r'
    refine ⟨rfl,OldK.of_keep fun b o e=>?_,os,bare⟩
    cases q:H b with
    | none=>exact un.keep b o e q (by intro z; exact absurd (show b ∈ ([]:List Addr) from z) (by simp)) (by simp)
    | some u=>
     rcases hO b with z | ⟨ob,xs,z⟩
     ·rw [q] at z; cases z
     ·have z2:=un.frzs b ob _ z
      obtain ⟨e1,_⟩:=hok b _ z
      obtain ⟨e2,_⟩:=hok' b _ z2
      rw [e] at e1; cases e1
      exact e2
 cases hk:K.lookup a with
 | some o=>
  have e:=KX a o hk
  rw [ha] at e
  cases e
  refine core (fun _=>none) (fun _=>.inl rfl) (.inr ⟨_,vs.toArray,_,hk,rfl,rfl,rfl,by rw [List.size_toArray,lenV]; exact hl,by simpa using rv⟩) (fun b u z=>by have z':(none:Option HO) = some u:=z; cases z') (fun b z=>absurd rfl z) fun z=>absurd rfl z
 | none=>
  refine core (fun b=>if b = a then some (.frz { cls:=.type "list",data:=.seq vs.toArray } (.lst (ns.map V.int))) else none) (fun b=>?_) (.inl (.inr ⟨{ cls:=.type "list",data:=.seq vs.toArray },if_pos rfl⟩)) (fun b u z=>?_) (fun b z=>?_) fun _=>hk
  ·by_cases hb:b = a
   ·exact .inr ⟨_,_,if_pos hb⟩
   ·exact .inl (if_neg hb)
  ·by_cases hb:b = a
   ·have z':=(if_pos hb).symm.trans z
    cases z'
    subst hb
    exact ⟨ha,by rw [List.length_map]; exact hl,vs,_,rv,ha⟩
   ·have z':=(if_neg hb).symm.trans z
    cases z'
  ·by_cases hb:b = a
   ·exact hb
   ·exact absurd (if_neg hb) z
end L2
namespace L2
open PySem PySem.Spec PyProof.Rows
end L2
set_option Elab.async false
set_option linter.all false
set_option maxRecDepth 100000
set_option maxHeartbeats 4000000
namespace L2
open PySem PySem.Spec PyProof.Rows
noncomputable def TbOk (h0:Heap) (H:Hp) (h:Heap) (e:Addr) (hd:Value):Prop:=
 hd = .none\/∃ T oT ts,hd = .ref T/\h0.get? T = none/\H T = none/\T ≠ e/\h.get? T = some oT/\oT.data = .fields ts/\ts[3]? = some .none
structure Exc (h0:Heap) (H:Hp) (h:Heap) (e C:Addr) (dx:Option Addr):Prop where
 new:h0.get? e = none
 un:H e = none
 ob:∃ oe vs hd,h.get? e = some oe/\oe.cls = .ref C/\oe.dict = dx/\oe.data = .fields vs/\vs[1]? = some hd/\TbOk h0 H h e hd
structure Tbd (h0:Heap) (H:Hp) (fr:List Addr) (h h':Heap) (ch:List Addr):Prop where
 rec_:∀ b ∈ ch,h0.get? b = none/\H b = none/\∃ o vs,h.get? b = some o/\o.data = .fields vs
 keep:∀ b o,h.get? b = some o->b ∉ fr->b ∉ ch->h'.get? b = some o
 slot:∀ b o,h.get? b = some o->b ∈ fr->∃ sl,h'.get? b = some { o with slots:=sl }
 there:∀ b o,h.get? b = some o->∃ o',h'.get? b = some o'
noncomputable def tbObj (head:Value) (L:Addr) (pl:List Value):Obj:=
 { cls:=.type "traceback",dict:=none,data:=.fields ([head,.ref L,.none,rawInt L,.none] ++ (if pl.isEmpty then List.replicate 6 Value.none else pl)).toArray }
theorem zed (o:Obj) (f:Array Value->Array Value):(o.mapFields f).dict = o.dict:=by
 obtain ⟨c,d,dt,sl⟩:=o; cases dt <;> rfl
theorem zfC (o:Obj) (f:Array Value->Array Value):(o.mapFields f).cls = o.cls:=by
 obtain ⟨c,d,dt,sl⟩:=o; cases dt <;> rfl
section
variable {M:Model} {A:Around} {E:Value->Shared->Prop} {s:Shared} {base h0:Heap} {env:Env} {outer:List Env} {L e C:Addr} {dx:Option Addr} {H:Hp} {Q:Unit->Shared->Prop}
theorem zeB {oe:Obj} {vs:Array Value} {head:Value} {hn:Bool} (hfr:A.frames = some (env::outer)) (hl:s.heap.FunFrames base (env::outer)) (hf:env.frame = some L)
  (he:s.heap.get? e = some oe) (hd:oe.data = .fields vs) (hsz:1 < vs.size)
  (k:∀ h' T oT ts,s.heap.objs.size<=T->(∀ b o,s.heap.get? b = some o->b ∉ frs (env::outer)->b ≠ e->h'.get? b = some o)->(∀ b o,s.heap.get? b = some o->b ∈ frs (env::outer)->∃ sl,h'.get? b = some { o with slots:=sl })->
   h'.get? e = some (oe.mapFields (·.setIfInBounds 1 (.ref T)))->h'.get? T = some oT->oT.data = .fields ts->3 < ts.size->ts[3]? = some (rawInt L)->Q () { s with heap:=h' }) :
  wpAny M A (do let a <- frameOf env; let pl <- entryPlaceOf L hn; let b <- EntryCells.newEntry head a .none (rawInt L) .none pl; setField (.ref e) 1 b) Q E s:=by
 have nfr:e ∉ frs (env::outer):=fun hm=>by
  obtain ⟨_,o,ho,hx⟩:=hl.mem hm
  rw [he] at ho
  cases ho
  exact hx vs hd
 refine wpAny_bind (wpAny_frameOf_fun hfr hl hf fun h₁ sl₁=>?_)
 refine wpAny_bind (wpAny_entryPlaceOf fun pl hpl=>?_)
 unfold EntryCells.newEntry newFields
 refine wpAny_bind (wpAny_newObj_type ?_ (hpl.sizeOk5 _ _ _ _ _))
 have e1:h₁.get? e = some oe:=(sl₁.2.1 e nfr).trans he
 have e2:(h₁.push (tbObj head L pl)).get? e = some oe:=Heap.get?_push_of_some _ e1
 refine wpAny_setField e2 hd hsz ?_
 have ne:h₁.objs.size ≠ e:=Nat.ne_of_gt (Heap.lt_size e1)
 have d3:=Obj.data_mapFields hd (·.setIfInBounds 1 (Value.ref h₁.objs.size))
 have kp:∀ b o,h₁.get? b = some o->b ≠ e->((h₁.push (tbObj head L pl)).update e (Obj.mapFields (·.setIfInBounds 1 (Value.ref h₁.objs.size)))).get? b = some o:=fun b o q n=>by
  rw [Heap.get?_update_other _ _ n.symm]
  exact Heap.get?_push_of_some _ q
 refine k _ h₁.objs.size (tbObj head L pl) _ (by rw [sl₁.1]; exact Nat.le_refl _) (fun b o q n1 n2=>kp b o ((sl₁.2.1 b n1).trans q) n2) (fun b o q m=>?_) (Heap.get?_update_self _ e2 (Obj.isFreed_of_fields d3)) ?_ rfl ?_ ?_
 ·obtain ⟨sl,z⟩:=sl₁.2.2 b o q
  exact ⟨sl,kp b _ z fun y=>nfr (y ▸ m)⟩
 ·rw [Heap.get?_update_other _ _ ne.symm]
  exact Heap.get?_push_size _ rfl
 ·simp only [List.size_toArray,List.length_append,List.length_cons,List.length_nil] <;> omega
 ·first
   | (simp; done)
   | (rcases hpl with rfl | ⟨_,_,_,_,_,_,_,rfl⟩ <;> simp)
theorem zhB (hfr:A.frames = some (env::outer)) (hl:s.heap.FunFrames base (env::outer)) (hf:env.frame = some L) (x:Exc h0 H s.heap e C dx)
  (k:∀ h' T oT oe ts vs ch,Tbd h0 H (frs (env::outer)) s.heap h' ch->s.heap.objs.size<=T->h'.get? e = some oe->oe.cls = .ref C->oe.dict = dx->oe.data = .fields vs->vs[1]? = some (.ref T)->h'.get? T = some oT->oT.data = .fields ts->
   3 < ts.size->ts[3]? = some (rawInt L)->Q () { s with heap:=h' }):wpAny M A (noteFrame (.ref e) env) Q E s:=by
 obtain ⟨oe,vs,hd,he,hc,hdx,hda,h1,tb⟩:=x.ob
 have hsz:1 < vs.size:=(Array.getElem?_eq_some_iff.mp h1).1
 have nfr:∀ b o ws,s.heap.get? b = some o->o.data = .fields ws->b ∉ frs (env::outer):=fun b o ws q d hm=>by
  obtain ⟨_,o',ho,hx⟩:=hl.mem hm
  rw [q] at ho
  cases ho
  exact hx ws d
 unfold noteFrame
 simp only [hf]
 refine wpAny_bind (wpAny_field he hda h1 ?_)
 rcases tb with rfl | ⟨T,oT,ts,rfl,nT,uT,neT,gT,dT,h3⟩
 ·rw [if_neg (by decide)]
  refine zeB hfr hl hf he hda hsz fun h' T oT ts lt kp sl ge gT dT z3 z4=>?_
  refine k h' T oT _ ts _ [e] ⟨fun b hb=>?_,fun b o q n1 n2=>kp b o q n1 fun z=>n2 (by rw [z]; exact .head _),sl,fun b o q=>?_⟩ lt ge ((zfC _ _).trans hc) ((zed _ _).trans hdx) (Obj.data_mapFields hda _) (by simp [hsz]) gT dT z3 z4
  ·obtain rfl:b = e:=by simpa using hb
   exact ⟨x.new,x.un,oe,vs,he,hda⟩
  ·by_cases z:b = e
   ·subst z; exact ⟨_,ge⟩
   ·by_cases m:b ∈ frs (env::outer)
    ·obtain ⟨w,q'⟩:=sl b o q m
     exact ⟨_,q'⟩
    ·exact ⟨o,kp b o q m z⟩
 ·rw [if_pos (show (Value.ref T != Value.none) = true from by simp)]
  refine wpAny_bind (wpAny_field gT dT h3 ?_)
  rw [if_neg (show ¬ ((Value.none == rawInt L) = true) from by simp [rawInt])]
  have z3:3 < ts.size:=(Array.getElem?_eq_some_iff.mp h3).1
  refine wpAny_bind (wpAny_setField gT dT z3 ?_)
  have oth:∀ b,b ≠ T->(s.heap.update T (Obj.mapFields (·.setIfInBounds 3 Value.none))).get? b = s.heap.get? b:=fun b n=>Heap.get?_update_other _ _ n.symm
  have hl':(s.heap.update T (Obj.mapFields (·.setIfInBounds 3 Value.none))).FunFrames base (env::outer):=hl.of_keeps fun b o q nd=>⟨o,(oth b fun z=>by subst z; rw [gT] at q; cases q; exact nd ts dT).trans q,rfl⟩
  have sT:(s.heap.update T (Obj.mapFields (·.setIfInBounds 3 Value.none))).get? T = some (oT.mapFields (·.setIfInBounds 3 Value.none)):=Heap.get?_update_self _ gT (Obj.isFreed_of_fields (Obj.data_mapFields dT _))
  refine zeB hfr hl' hf ((oth e neT.symm).trans he) hda hsz fun h' T' oT' ts' lt kp sl ge gT' dT' z3' z4'=>?_
  have lt':s.heap.objs.size<=T':=by
   have:=lt
   simp only [Heap.size_after_update] at this
   exact this
  refine k h' T' oT' _ ts' _ [e,T] ⟨fun b hb=>?_,fun b o q n1 n2=>kp b o ((oth b fun z=>n2 (by simp [z])).trans q) n1 fun z=>n2 (by simp [z]),fun b o q m=>?_,fun b o q=>?_⟩ lt' ge ((zfC _ _).trans hc) ((zed _ _).trans hdx) (Obj.data_mapFields hda _) (by simp [hsz]) gT' dT' z3' z4'
  ·have hb':b = e\/b = T:=by simpa using hb
   rcases hb' with rfl | rfl
   ·exact ⟨x.new,x.un,oe,vs,he,hda⟩
   ·exact ⟨nT,uT,oT,ts,gT,dT⟩
  ·exact sl b o ((oth b fun z=>by subst z; exact nfr b o ts q (by rw [gT] at q; cases q; exact dT) m).trans q) m
  ·by_cases z:b = e
   ·subst z; exact ⟨_,ge⟩
   ·by_cases y:b = T
    ·subst y
     exact ⟨_,kp b _ sT (nfr b oT ts gT dT) z⟩
    ·by_cases m:b ∈ frs (env::outer)
     ·obtain ⟨w,q'⟩:=sl b o ((oth b y).trans q) m
      exact ⟨_,q'⟩
     ·exact ⟨o,kp b o ((oth b y).trans q) m z⟩
theorem zhD {oe oT:Obj} {vs ts:Array Value} {T:Addr} (he:s.heap.get? e = some oe) (hd:oe.data = .fields vs) (h1:vs[1]? = some (.ref T)) (gT:s.heap.get? T = some oT) (dT:oT.data = .fields ts) (z3:3 < ts.size)
  (k:∀ h',(∀ b o,b ≠ T->s.heap.get? b = some o->h'.get? b = some o)->h'.get? T = some (oT.mapFields (·.setIfInBounds 3 Value.none))->Q () { s with heap:=h' }):wpAny M A (setFlight (.ref e) none) Q E s:=by
 unfold setFlight
 refine wpAny_bind (wpAny_field he hd h1 ?_)
 rw [if_pos (show (Value.ref T != Value.none) = true from by simp)]
 exact wpAny_setField gT dT z3 (k _ (fun b o n q=>(Heap.get?_update_other _ _ n.symm).trans q) (Heap.get?_update_self _ gT (Obj.isFreed_of_fields (Obj.data_mapFields dT _))))
theorem zgc (hfr:A.frames = some (env::outer)) (hl:s.heap.FunFrames base (env::outer)) (hf:env.frame = some L) (x:Exc h0 H s.heap e C dx)
  (hfree:∀ b,s.heap.objs.size<=b->H b = none) (h0s:∀ b o,h0.get? b = some o->∃ o',s.heap.get? b = some o')
  (k:∀ h' ch,Tbd h0 H (frs (env::outer)) s.heap h' ch->Exc h0 H h' e C dx->Q () { s with heap:=h' }) :
  wpAny M A (noteFrame (.ref e) env) (fun _ s₁=>wpAny M A (setFlight (.ref e) none) Q E s₁) E s:=by
 have ele:∃ o,s.heap.get? e = some o:=let ⟨oe,_,_,he,_⟩:=x.ob; ⟨oe,he⟩
 refine zhB hfr hl hf x fun h' T oT oe ts vs ch t lt ge hc hdx hda h1 gT dT z3 z4=>?_
 have neT:T ≠ e:=fun z=>by
  obtain ⟨o,q⟩:=ele
  exact absurd (Nat.lt_of_lt_of_le (Heap.lt_size q) (z ▸ lt)) (Nat.lt_irrefl _)
 refine zhD (s:={ s with heap:=h' }) ge hda h1 gT dT z3 fun h2 kp gT2=>?_
 have nT:∀ b o,s.heap.get? b = some o->b ≠ T:=fun b o q z=>absurd (Nat.lt_of_lt_of_le (Heap.lt_size q) (z ▸ lt)) (Nat.lt_irrefl _)
 refine k h2 ch ⟨t.rec_,fun b o q n1 n2=>kp b o (nT b o q) (t.keep b o q n1 n2),fun b o q m=>?_,fun b o q=>?_⟩ ⟨x.new,x.un,oe,vs,.ref T,kp e oe neT.symm ge,hc,hdx,hda,h1,.inr ⟨T,_,_,rfl,?_,hfree T lt,neT,gT2,Obj.data_mapFields dT _,by simp [z3]⟩⟩
 ·obtain ⟨sl,q'⟩:=t.slot b o q m
  exact ⟨sl,kp b _ (nT b o q) q'⟩
 ·obtain ⟨o',q'⟩:=t.there b o q
  exact ⟨o',kp b o' (nT b o q) q'⟩
 ·cases z:h0.get? T with
  | none=>rfl
  | some o=>
   obtain ⟨o',q⟩:=h0s T o z
   exact absurd rfl (nT T o' q)
end
end L2
set_option Elab.async false
set_option linter.all false
set_option maxRecDepth 100000
set_option maxHeartbeats 4000000
namespace L2
open PySem PySem.Spec PyProof.Rows
noncomputable abbrev XS:=St->Value->Option Addr->Hp->Prop
noncomputable def Sub (h0 h:Heap):Prop:=∀ b o,h0.get? b = some o->∃ o',h.get? b = some o'
theorem Sub.none {h0 h:Heap} (x:Sub h0 h) {b:Addr} (e:h.get? b = none):h0.get? b = none:=by
 cases q:h0.get? b with
 | none=>rfl
 | some o=>
  obtain ⟨o',z⟩:=x b o q
  rw [e] at z; cases z
theorem Exc.older {h0 h1:Heap} {H:Hp} {h:Heap} {e C:Addr} {dx:Option Addr} (x:Exc h1 H h e C dx) (y:Sub h0 h1):Exc h0 H h e C dx:=by
 obtain ⟨oe,vs,hd,a,b,c,d,f,tb⟩:=x.ob
 refine ⟨y.none x.new,x.un,oe,vs,hd,a,b,c,d,f,?_⟩
 rcases tb with z | ⟨T,oT,ts,z1,z2,z3⟩
 ·exact .inl z
 ·exact .inr ⟨T,oT,ts,z1,y.none z2,z3⟩
section
variable {X:Cx} {pins:List (Addr × Obj)} {σ:St} {H:Hp} {s:Shared} {h0 h':Heap} {ch fr:List Addr}
theorem HOk.tbd {P:Program} {w:World} {h:Heap} (x:HOk P w H h) (t:Tbd h0 H fr h h' ch) (hf:∀ b ∈ fr,H b = none):HOk P w H h':=fun a o e=>by
 have st:∀ b u,(b = a\/H b = some (.own a))->h.get? b = some u->h'.get? b = some u:=fun b u z q=>by
  have nb:H b ≠ none:=by
   rcases z with z | z
   ·rw [z,e]; simp
   ·rw [z]; simp
  exact t.keep b u q (fun m=>nb (hf b m)) fun m=>nb (t.rec_ b m).2.1
 exact (x a o e).stay st (fun _ z=>z) fun _ _ z=>z
end
noncomputable def Raises (X:Cx) (EX:XS):Prop:=
 ∀ (pins:List (Addr × Obj)) (σ:St) (H:Hp) (s:Shared) (h0:Heap) (e C:Addr) (dx:Option Addr),Inv X pins σ H s->(∀ b o,X.s₀.heap.get? b = some o->b ∉ X.ex->∃ o',h0.get? b = some o')->
  (∀ p ∈ X.pn ++ pins,∃ o,h0.get? p.1 = some o)->Sub h0 s.heap->Exc h0 H s.heap e C dx->EX σ (.ref C) dx H->X.xe (.ref e) s
noncomputable def CXe (P:Program) (w:World):CXT:=fun outer H s E e s'=>
 ∃ (a C:Addr) (dx:Option Addr) (H':Hp),e = .ref a/\s'.os = s.os/\AllBare s'.gens/\Un (frs outer) [] H H' s.heap s'.heap/\HOk P w H' s'.heap/\Exc s.heap H' s'.heap a C dx/\E (.ref C) dx H'
theorem zfQ {P:Program} {w:World} {K:PySem.W.Frag} {mg:Str->Option Value} {base:Heap} {N:List Str} {qual:Str} {scope:Scope} {f:Addr} {cd:Value} {A:Around} {outer:List Env} {s:Shared} {H:Hp} {E:XK} {cm:Bool} :
  Raises (cxOf (CXe P w) P w K mg base N qual scope f cd A outer s H E cm) (fun _ C dx H'=>E C dx H'):=by
 intro pins σ H1 s1 h0 e C dx I hs hp h01 x ex
 have I0:Inv (cxOf (CXe P w) P w K mg base N qual scope f cd A outer s H E cm) [] σ H1 s1:=I.pins_of fun p z=>absurd z (by simp)
 show wpAny (model P w) (A.deeper (envOfC qual scope s.heap.objs.size f cd)) (leaving (envOfC qual scope s.heap.objs.size f cd) (.ref e)) _ _ s1
 unfold leaving
 have hsub:Sub s.heap h0:=fun b o q=>hs b o q (by show b ∉ ([]:List Addr); simp)
 refine wpAny_bind (zgc (base:=base) (outer:=outer) (L:=s.heap.objs.size) I0.ok.frames I0.stack rfl x (fun b z=>I0.hok.fresh z) h01 fun h' ch t x'=>?_)
 have fin:∀ b o,s.heap.get? b = some o->b ∉ ch:=fun b o q m=>by
  have z:=hsub.none (t.rec_ b m).1
  rw [q] at z; cases z
 have nL:∀ b o,s.heap.get? b = some o->b ∉ frs outer->b ∉ frs (envOfC qual scope s.heap.objs.size f cd::outer):=fun b o q n m=>by
  have m':b ∈ s.heap.objs.size::frs outer:=m
  rcases List.mem_cons.mp m' with z | z
  ·exact absurd (Heap.lt_size q) (by rw [z]; exact Nat.lt_irrefl _)
  ·exact n z
 refine ⟨e,C,dx,H1,rfl,I0.os,I0.bare,⟨fun b o q n hb _=>?_,fun b o q n hb _=>?_,fun b o q n _=>I0.base.free b o q n (by show b ∉ ([]:List Addr); simp),fun b o q _=>?_,I0.base.tups,I0.base.frzs,I0.base.tbls⟩,I0.hok.tbd t I0.stkFree,x'.older hsub,ex⟩
 ·exact t.keep b o (I0.base.keep b o q n hb (by show b ∉ ([]:List Addr); simp)) (nL b o q hb) (fin b o q)
 ·obtain ⟨sl,q1⟩:=I0.base.slot b o q n hb (by show b ∉ ([]:List Addr); simp)
  obtain ⟨sl',q2⟩:=t.slot b _ q1 (show b ∈ s.heap.objs.size::frs outer from List.mem_cons_of_mem _ hb)
  exact ⟨sl',q2⟩
 ·obtain ⟨o',q1⟩:=I0.base.there b o q (by show b ∉ ([]:List Addr); simp)
  exact t.there b o' q1
section
variable {X:Cx} {cm:Bool} {k:Nat} {f C:Addr} {fd:FuncData} {ps:List Str} {sp:Sp} {EX:XS} {x m:Str} {p pos apos:Pos} {e o:Expr} {es:List Expr} {ta:TE} {t:TA}
theorem Raises.pass (R:Raises X EX) {pins:List (Addr × Obj)} {σ:St} {H:Hp} {s s':Shared} {v:Value} (I:Inv X pins σ H s) (h:CXe X.prog X.w X.stack H s (EX σ) v s'):X.xe v s':=by
 obtain ⟨a,C,dx,H',rfl,os,bare,un,hok,x,q⟩:=h
 have sub:Sub s.heap s'.heap:=fun b o z=>un.there b o z (by simp)
 refine R pins σ H' s' s.heap a C dx (I.call' os un hok bare fun b z=>absurd z (by simp)) (fun b o z n=>I.base.there b o z n) (fun p hp=>?_) sub x q
 exact ⟨p.2,(I.pin p hp).1⟩
noncomputable def tCallX (sp:Sp) (EX:XS) (t:TA):TE:=fun σ H Q=>t σ H fun vs H1=>sp vs H1 Q (EX σ)
theorem zj4 {pins:List (Addr × Obj)} {σ:St} {H:Hp} {s:Shared} {Q:VK} {us:List Value} {vs:List V} (F:FnOk X.prog X.w X.K X.mg X.base (CXe X.prog X.w) cm k f fd ps sp) (hcm:cm = true->X.calm = true) (hr:Room k X.A) (hb:Binds X.K fd ps []) (R:Raises X EX)
  (I:Inv X pins σ H s) (r:Vals vs us) (h:sp vs H Q (EX σ)):wpAny (model X.prog X.w) X.A (call (.ref f) us) (EP X pins σ Q) X.xe s:=by
 have hl:us.length = ps.length:=by rw [<- r.length]; exact F.len _ _ _ _ h
 have hb':=hb s us I.kIn (by rw [List.append_nil]; exact hl)
 rw [List.append_nil] at hb'
 refine wpAny_call (codeAny_mono (F.run X.A X.stack s H ⟨us,[]⟩ us vs Q (EX σ) (fun z=>I.ok.hd (hcm z)) hr I.env0 hb' r h) fun r s' hq=>?_)
 cases r with
 | error v=>exact R.pass I hq
 | ok fl=>
  cases fl with
  | ret u=>exact I.after hq
  | next=>exact False.elim hq
  | brk=>exact False.elim hq
  | cont=>exact False.elim hq
theorem zh0 (F:FnOk X.prog X.w X.K X.mg X.base (CXe X.prog X.w) cm k f fd ps sp) (hcm:cm = true->X.calm = true) (hr:Room k X.A) (hg:Gl X x) (hm:X.mg x = some (.ref f)) (hk:PySem.W.keepIn X.K (.ref f) = true) (hb:Binds X.K fd ps []) (R:Raises X EX)
  (ha:PA X (e::es) t) (hdb:(x == ("__debug__" : Str)) = false:=by decide) (he:starEach (e::es) X.env = (false,eval e X.env)::starEach es X.env:=by rfl) (hpl:(backTo pos (starEach es X.env)).any (·.1) = false:=by rfl) :
  PE X (.Call (.Name x p) (e::es) [] pos) (tCallX sp EX t):=by
 intro pins s σ H Q I h
 refine wpAny_Call_Name_kw (zeW I hg hm ?_ hdb)
 exact PySem.W.callWith_K (h₀:=X.base) I.ok.mod.kin hk (thn (ha pos pins s σ H _ I h) fun us s1 ⟨vs,H1,I1,r,q⟩=>⟨I1.kIn,zj4 F hcm hr hb R I1 r q⟩) he hpl
end
end L2
set_option Elab.async false
set_option linter.all false
set_option maxRecDepth 100000
set_option maxHeartbeats 4000000
namespace L2
open PySem PySem.Spec PyProof.Rows
noncomputable def excO (a C:Addr) (dx:Option Addr):HO:=.ext fun h=>∃ oe vs,h.get? a = some oe/\oe.cls = .ref C/\oe.dict = dx/\oe.data = .fields vs
section
variable {X:Cx} {pins:List (Addr × Obj)} {σ:St} {H:Hp} {s:Shared} {e:Addr} {o:HO}
end
section
variable {X:Cx} {x n:Str} {np hpos pos:Pos} {b₀:Stmt} {body suite:List Stmt} {Dc:Addr} {i:Nat} {tb:XS->TS} {th:TS}
end
end L2
set_option Elab.async false
set_option linter.all false
set_option maxRecDepth 100000
set_option maxHeartbeats 4000000
namespace L2
open PySem PySem.Spec PyProof.Rows PySem.W Builtin.ObjectAttr
section
variable {prog:Program} {w:World} {A:Around} {E:Value->Shared->Prop} {s:Shared} {K:Frag} {x C:Addr} {ox:Obj} {od:Option Obj} {name:Str} {tk:Tok}
theorem zjh {r:Found} {Q:PySem.Fin->Shared->Prop} (XI:K.In s.heap) (I:InstAt s.heap x ox C od) (hf:findObj K C od name = some r)
  (h:match r with | .value v=>Q (.done (.ret v)) s | .bind g a=>wpAny (model prog w) A (call g [a,.ref x,.ref C]) (fun v s'=>Q (.done (.ret v)) s') E s | .missing=>False) :
  wpAny (model prog w) A (Builtin.«object.__getattribute__» ⟨[.ref x,.str name tk],[]⟩) Q E s:=by
 obtain ⟨hh,g,d,t,os⟩:=s
 have L0:=I.type (M:=model prog w)
 have L1:=looks_find (M:=model prog w) XI I hf
 unfold Builtin.«object.__getattribute__»
 refine wpAny_bind (wpAny_of_eq (a:=(Value.ref x,[Value.str name tk])) (by rfl) ?_)
 refine wpAny_bind (wpAny_of_eq (a:=name) (by rfl) ?_)
 refine wpAny_bind (L0.at (wpAny_bind (L1.at ?_)))
 cases r with
 | value v=>exact wpAny_pure h
 | bind g a=>
  show wpAny _ _ (holding [a] (call g [a,.ref x,.ref C]) >>= ret) _ _ _
  exact wpAny_bind (wpAny_holding (wpAny_mono h (fun v s' z=>wpAny_pure z) fun _ _ z=>z))
 | missing=>exact h.elim
theorem zgZ {r:Found} {R:Result->Shared->Prop} (XI:K.In s.heap) (I:InstAt s.heap x ox C od) (hb:mroIn K C (.type "BaseException") = some true) (hf:findObj K C od name = some r)
  (h:match r with | .value v=>R (.ok (.ret v)) s | .bind g a=>wpAny (model prog w) A.in1 (call g [a,.ref x,.ref C]) (fun v s'=>R (.ok (.ret v)) s') (fun e s'=>R (.error e) s') s | .missing=>False) :
  codeAny (model prog w) A (.call (.builtin "BaseException.__getattribute__") ⟨[.ref x,.str name tk],[]⟩) R s:=by
 have hk:builtinKind "BaseException.__getattribute__" = some .slot:=by decide +kernel
 have hsplit:splitId "BaseException.__getattribute__" = some ("BaseException","__getattribute__"):=by decide +kernel
 have ha:=F.args_bexc_ga (.ref x) (.str name tk)
 refine codeAny_call_builtin F.attr_ValueError.ga.plain F.entry_bexc_ga ?_
 have fin:wpAny (model prog w) A.in1 (Builtin.«object.__getattribute__» ⟨[.ref x,.str name tk],[]⟩) (fun fin s'=>match fin with | .done f=>R (.ok f) s' | .again c'=>c'.quiet = true/\codeAny (model prog w) A c' R s') (fun e s'=>R (.error e) s') s:=by
  refine zjh XI I hf ?_
  cases r with
  | value v=>exact h
  | bind g a=>exact h
  | missing=>exact h.elim
 have chk:∀ Q:Unit->Shared->Prop,Q () s->wpAny (model prog w) A.in1 (checkBuiltinCall "BaseException.__getattribute__" ⟨[.ref x,.str name tk],[]⟩) Q (fun e s'=>R (.error e) s') s:=fun Q hq=>by
  obtain ⟨hh,g,d,t,os⟩:=s
  have L0:=I.type (M:=model prog w)
  have L1:=looks_mroIn (M:=model prog w) XI hb
  have LI:Looks (model prog w) hh (isInstance (.ref x) (.type "BaseException")) true:=L0.andThen L1
  simp only [checkBuiltinCall,hk,hsplit]
  refine wpAny_bind ?_
  repeat (first | with_reducible exact hq | with_reducible refine LI.at ?_ | wp_step)
 exact chk _ fin
theorem bexc_get? {r:Found} {Q:Option Value->Shared->Prop} (XI:K.In s.heap) (I:InstAt s.heap x ox C od) (hb:mroIn K C (.type "BaseException") = some true) (hga:findIn K (.ref C) "__getattribute__" = some (some (.builtin "BaseException.__getattribute__")))
  (hgn:findIn K (.ref C) "__getattr__" = some none) (hf:findObj K C od name = some r)
  (h:match r with | .value v=>wpAny (model prog w) A (handedOut v) (fun u s'=>Q (some u) s') (fun _ _=>False) { s with toks:=s.toks + 1 } | .bind g a=>wpAny (model prog w) A.in1 (call g [a,.ref x,.ref C]) (fun v s'=>wpAny (model prog w) A (handedOut v) (fun u s''=>Q (some u) s'') (fun _ _=>False) s') (fun _ _=>False) { s with toks:=s.toks + 1 } | .missing=>False) :
  wpAny (model prog w) A (getAttr? (.ref x) name) Q E s:=by
 obtain ⟨hh,g,d,t,os⟩:=s
 have L0:=I.type (M:=model prog w)
 have L1:=looks_findIn (M:=model prog w) XI hga
 have L2:=looks_findIn (M:=model prog w) XI hgn
 have hx2:(Value.builtin "BaseException.__getattribute__" == Value.builtin "object.__getattribute__") = false:=by decide +kernel
 unfold getAttr? getAttrBy? getAttrBy
 refine wpAny_bind (wpAny_mkText (wpAny_bind (wpAny_attempt (wpAny_holding (wpAny_bind (L0.at (wpAny_bind (L1.at ?_))))))))
 show wpAny _ _ (if (onTheHeap (.ref C) && (Value.builtin "BaseException.__getattribute__" == Value.builtin "object.__getattribute__")) = true then _ else getAttrByItsOwn _ _ _ _ _ _) _ _ _
 rw [hx2,Bool.and_false,if_neg (by decide)]
 unfold getAttrByItsOwn hookBefore callGetattribute boundAndCalled
 refine wpAny_bind (L2.at ?_)
 refine wpAny_bind (wpAny_attempt (wpAny_holding (wpAny_bind (wpAny_of_eq (F.attr_ValueError.ga.bind (.ref x)) ?_))))
 refine wpAny_call (zgZ XI I hb hf ?_)
 cases r with
 | value v=>exact wpAny_mono h (fun v s'' hv=>wpAny_pure hv) (fun _ _ z=>z.elim)
 | bind g a=>exact wpAny_mono h (fun v s' hv=>wpAny_mono hv (fun u s'' z=>wpAny_pure z) fun _ _ z=>z.elim) (fun _ _ z=>z.elim)
 | missing=>exact h.elim
end
structure XC (K:Frag) (C:Addr):Prop where
 ga:findIn K (.ref C) "__getattribute__" = some (some (.builtin "BaseException.__getattribute__"))
 gn:findIn K (.ref C) "__getattr__" = some none
 cl:findIn K (.ref C) "__class__" = some (some (.builtin "object.__class__"))
 mb:mroIn K C (.type "BaseException") = some true
 mo:mroIn K C (.type "object") = some true
 cd:(clsIn K C).isSome = true
 dg:specialIn K (.builtin "object.__class__") "__get__" = some (some (.builtin "getset_descriptor.__get__"))
 dt:takesIn K (.builtin "object.__class__") = some true
theorem zf9 {K:Frag} {C:Addr} {od:Option Obj} {name:Str} {a g:Value} (hc:(clsIn K C).isSome = true) (ha:findIn K (.ref C) name = some (some a)) (hg:specialIn K a "__get__" = some (some g)) (ht:takesIn K a = some true):findObj K C od name = some (.bind g a):=by
 obtain ⟨cd,z⟩:=Option.isSome_iff_exists.mp hc
 simp only [findObj,z,ha,hg,ht,Option.bind_some]
theorem zfp {K:Frag} {e C:Addr} (c:XC K C):KitX K (.ref e) (.ref C) (fun h=>∃ ox od,InstAt h e ox C od) where
 ty:=fun _ _ _ ⟨_,_,I⟩=>I.type
 it:=fun _ _ XI _=>by
  have q:=c.cd
  unfold clsIn at q
  split at q
  ·rename_i c' d' cd' sl' lk
   intro A' Q' E' s' k z
   unfold isType loadHead
   exact wpAny_bind (wpAny_loadPart (k _ _ (XI _ _ lk)) (wpAny_pure z))
  ·cases q
 ne:=fun h tp dd its n sl XI htp=>by
  refine Bool.eq_false_iff.mpr fun z=>?_
  have ee:C = tp:=Value.ref.inj (beq_iff_eq.mp z)
  subst ee
  have q:=c.cd
  unfold clsIn at q
  split at q
  ·rename_i c' d' cd' sl' lk
   have y:=(XI _ _ lk).symm.trans htp
   cases y
  ·cases q
 ca:=fun {prog w A E Q s} XI ⟨ox,od,I⟩ k=>by
  have hf:findObj K C od "__class__" = some (.bind (.builtin "getset_descriptor.__get__") (.builtin "object.__class__")):=zf9 c.cd c.cl c.dg c.dt
  refine bexc_get? XI I c.mb c.ga c.gn hf ?_
  exact wpAny_call (class_get (s:={ s with toks:=s.toks + 1 }) (ox:=ox) (od:=od) XI I c.mo (handed_on rfl k))
end L2
set_option Elab.async false
set_option linter.all false
set_option maxRecDepth 100000
set_option maxHeartbeats 4000000
namespace L2
open PySem PySem.Spec PyProof.Rows
theorem zfT {env:Env}:∀ (names:List (Str × NameKind)) (cs:List (Str × Addr)),(∀ x ∈ names,x.2 = .free->∃ c,env.cells.lookup x.1 = some c)->(∀ x c,cs.lookup x = some c->env.cells.lookup x = some c)->
  ∃ cl,(forIn names cs fun x r=>(do
    if x.2 == .free then
     let a <- cellOf env x.1
     pure (ForInStep.yield ((x.1,a)::r))
    else pure (ForInStep.yield r)):Sem (List (Str × Addr))) = pure cl/\(∀ x c,cl.lookup x = some c->env.cells.lookup x = some c)/\(∀ x c,cs.lookup x = some c->cl.lookup x = some c)/\∀ x ∈ names,x.2 = .free->∃ c,cl.lookup x.1 = some c:=by
 intro names
 induction names with
 | nil=>intro cs _ h; exact ⟨cs,rfl,h,fun _ _ q=>q,fun x z=>nomatch z⟩
 | cons y r ih=>
  intro cs h1 h2
  obtain ⟨n,k⟩:=y
  by_cases hk:k = .free
  ·subst hk
   obtain ⟨c,hc⟩:=h1 (n,.free) List.mem_cons_self rfl
   have hc:env.cells.lookup n = some c:=hc
   have h3:∀ x d,((n,c)::cs).lookup x = some d->env.cells.lookup x = some d:=fun x d q=>by
    rw [List.lookup_cons] at q
    by_cases z:x = n
    ·subst z
     simp at q
     subst q
     exact hc
    ·have z':(x == n) = false:=by simpa using z
     rw [z'] at q
     exact h2 x d q
   obtain ⟨cl,e,a,b,d⟩:=ih ((n,c)::cs) (fun x z=>h1 x (List.mem_cons_of_mem _ z)) h3
   have hco:cellOf env n = pure c:=by
    unfold cellOf
    rw [hc]
   refine ⟨cl,?_,a,fun x q z=>?_,fun x z q=>?_⟩
   ·rw [List.forIn_cons]
    simp only [beq_self_eq_true,if_true,hco]
    exact e
   ·by_cases y:x = n
    ·subst y
     have z1:=h2 x q z
     rw [hc] at z1
     cases z1
     exact b x c (by simp)
    ·have y':(x == n) = false:=by simpa using y
     exact b x q (by rw [List.lookup_cons,y']; exact z)
   ·rcases List.mem_cons.mp z with z | z
    ·subst z
     exact ⟨c,b n c (by simp)⟩
    ·exact d x z q
  ·have hb:(k == NameKind.free) = false:=by simpa using hk
   obtain ⟨cl,e,a,b,d⟩:=ih cs (fun x z=>h1 x (List.mem_cons_of_mem _ z)) h2
   refine ⟨cl,?_,a,b,fun x z q=>?_⟩
   ·rw [List.forIn_cons]
    simp only [hb,Bool.false_eq_true,if_false]
    exact e
   ·rcases List.mem_cons.mp z with z | z
    ·subst z; exact absurd q hk
    ·exact d x z q
theorem zfV {env:Env} {scope:Scope} (h:∀ x ∈ scope.names,x.2 = .free->∃ c,env.cells.lookup x.1 = some c):∃ cl,closureFor scope env = pure cl/\(∀ x c,cl.lookup x = some c->env.cells.lookup x = some c)/\∀ x ∈ scope.names,x.2 = .free->∃ c,cl.lookup x.1 = some c:=by
 obtain ⟨cl,e,a,_,d⟩:=zfT scope.names [] h (fun x c q=>by cases q)
 refine ⟨cl,?_,a,d⟩
 unfold closureFor
 have e':=e
 simp only [pure_bind,bind_pure] at e' ⊢
 exact e'
end L2
set_option Elab.async false
set_option linter.all false
set_option maxRecDepth 100000
set_option maxHeartbeats 4000000
namespace L2
open PySem PySem.Spec PyProof.Rows
theorem zbr {env:Env} {k:NameKind}:∀ {names:List (Str × NameKind)} {x:Str},(names.map fun (n,k)=>if (k == NameKind.free && env.scope.kind == .function && env.kindOf n == some .cell) then (n,NameKind.cell) else (n,k)).lookup x = some k->
  names.lookup x = some k\/(k = .cell/\names.lookup x = some .free)
 | [],x,h=>by simp at h
 | (n,q)::r,x,h=>by
  rw [List.map_cons,List.lookup_cons] at h
  rw [List.lookup_cons]
  have hd:∀ c:Bool,(if c = true then (n,NameKind.cell) else (n,q)).1 = n:=fun c=>by cases c <;> rfl
  rw [hd] at h
  by_cases z:x = n
  ·subst z
   simp only [beq_self_eq_true] at h ⊢
   split at h
   ·rename_i y
    simp only [Bool.and_eq_true,beq_iff_eq] at y
    cases h
    exact .inr ⟨rfl,by rw [y.1.1]⟩
   ·cases h; exact .inl rfl
  ·have z':(x == n) = false:=by simpa using z
   simp only [z'] at h ⊢
   exact zbr h
theorem zbq {env:Env}:∀ {names:List (Str × NameKind)} {x:Str},names.lookup x = some .free->
  (names.map fun (n,k)=>if (k == NameKind.free && env.scope.kind == .function && env.kindOf n == some .cell) then (n,NameKind.cell) else (n,k)).lookup x = some .cell \/
  (names.map fun (n,k)=>if (k == NameKind.free && env.scope.kind == .function && env.kindOf n == some .cell) then (n,NameKind.cell) else (n,k)).lookup x = some .free
 | [],x,h=>by simp at h
 | (n,q)::r,x,h=>by
  rw [List.lookup_cons] at h
  rw [List.map_cons,List.lookup_cons]
  have hd:∀ c:Bool,(if c = true then (n,NameKind.cell) else (n,q)).1 = n:=fun c=>by cases c <;> rfl
  rw [hd]
  by_cases z:x = n
  ·subst z
   simp only [beq_self_eq_true] at h ⊢
   cases h
   split
   ·exact .inl rfl
   ·exact .inr rfl
  ·have z':(x == n) = false:=by simpa using z
   simp only [z'] at h ⊢
   exact zbq h
structure CellsNew (n:Nat) (h1:Heap) (names:List (Str × NameKind)) (cl cl':List (Str × Addr)):Prop where
 d1:∀ x c,cl'.lookup x = some c->(cl.lookup x = some c/\(x,NameKind.cell) ∉ names)\/((x,NameKind.cell) ∈ names/\n < c/\h1.IsCell c none)
 d2:∀ x y c,n < c->cl'.lookup x = some c->cl'.lookup y = some c->x = y
 d3:∀ x,names.lookup x = some .cell->∃ c,cl'.lookup x = some c
 d4:∀ x c,(x,NameKind.cell) ∉ names->cl.lookup x = some c->cl'.lookup x = some c
theorem cc:(NameKind.cell == NameKind.cell) = true:=by decide
theorem zaz:∀ (names:List (Str × NameKind)) (h:Heap) (b:Addr) (o:Obj),h.get? b = some o->(pushCells h names).get? b = some o
 | [],h,b,o,e=>e
 | (x,k)::r,h,b,o,e=>by
  rw [pushCells]
  split
  ·exact zaz r _ b o (Heap.get?_push_of_some _ e)
  ·exact zaz r h b o e
theorem zca:∀ (names:List (Str × NameKind)) (h:Heap) (acc:List (Str × Addr)) (x:Str) (c:Addr),(cellsFrom h.objs.size names acc).lookup x = some c->
  (acc.lookup x = some c/\(x,NameKind.cell) ∉ names)\/((x,NameKind.cell) ∈ names/\h.objs.size<=c/\(pushCells h names).IsCell c none)
 | [],h,acc,x,c,e=>.inl ⟨e,by simp⟩
 | (y,k)::r,h,acc,x,c,e=>by
  rw [cellsFrom] at e
  rw [pushCells]
  by_cases hk:k = .cell
  ·subst hk
   rw [if_pos cc] at e ⊢
   have sz:(h.push { cls:=Value.type "cell",data:=Data.cell none }).objs.size = h.objs.size + 1:=by unfold Heap.push; simp
   rw [<- sz] at e
   rcases zca r _ _ x c e with ⟨a,b⟩ | ⟨a,b,d⟩
   ·rw [List.lookup_cons] at a
    by_cases z:x = y
    ·subst z
     simp at a
     subst a
     exact .inr ⟨List.mem_cons_self,Nat.le_refl _,_,zaz r _ _ _ (Heap.get?_push_size _ rfl),rfl⟩
    ·have z':(x == y) = false:=by simpa using z
     rw [z'] at a
     exact .inl ⟨a,by simp [z,b]⟩
   ·exact .inr ⟨List.mem_cons_of_mem _ a,by omega,d⟩
  ·have hb:(k == NameKind.cell) = false:=by simpa using hk
   rw [if_neg (by rw [hb]; decide)] at e ⊢
   rcases zca r _ _ x c e with ⟨a,b⟩ | ⟨a,b,d⟩
   ·exact .inl ⟨a,by simp [b]; intro _ q; exact hk q.symm⟩
   ·exact .inr ⟨List.mem_cons_of_mem _ a,b,d⟩
theorem zcI:∀ (names:List (Str × NameKind)) (n:Nat) (acc:List (Str × Addr)) (x y:Str) (c:Addr),(∀ u v,acc.lookup u = some c->acc.lookup v = some c->u = v)->(∀ u a,acc.lookup u = some a->a < n\/a ≠ c)->(cellsFrom n names acc).lookup x = some c->(cellsFrom n names acc).lookup y = some c->x = y
 | [],n,acc,x,y,c,h,_,e1,e2=>h x y e1 e2
 | (z,k)::r,n,acc,x,y,c,h,hl,e1,e2=>by
  rw [cellsFrom] at e1 e2
  by_cases hk:k = .cell
  ·subst hk
   rw [if_pos cc] at e1 e2
   refine zcI r (n + 1) _ x y c (fun u v a b=>?_) (fun u a q=>?_) e1 e2
   ·rw [List.lookup_cons] at a b
    by_cases u1:u = z
    ·by_cases v1:v = z
     ·rw [u1,v1]
     ·have v':(v == z) = false:=by simpa using v1
      subst u1
      simp at a
      rw [v'] at b
      subst a
      have b:acc.lookup v = some n:=b
      rcases hl v n b with q | q
      ·exact absurd q (Nat.lt_irrefl _)
      ·exact absurd rfl q
    ·have u':(u == z) = false:=by simpa using u1
     rw [u'] at a
     have a:acc.lookup u = some c:=a
     by_cases v1:v = z
     ·subst v1
      simp at b
      subst b
      rcases hl u n a with q | q
      ·exact absurd q (Nat.lt_irrefl _)
      ·exact absurd rfl q
     ·have v':(v == z) = false:=by simpa using v1
      rw [v'] at b
      exact h u v a b
   ·rw [List.lookup_cons] at q
    by_cases u1:u = z
    ·subst u1
     simp at q
     subst q
     exact .inl (Nat.lt_succ_self _)
    ·have u':(u == z) = false:=by simpa using u1
     rw [u'] at q
     exact (hl u a q).imp (fun q=>Nat.lt_succ_of_lt q) id
  ·have hb:(k == NameKind.cell) = false:=by simpa using hk
   rw [if_neg (by rw [hb]; decide)] at e1 e2
   exact zcI r n acc x y c h hl e1 e2
theorem zcb:∀ (names:List (Str × NameKind)) (n:Nat) (acc:List (Str × Addr)) (x:Str) (c:Addr),(x,NameKind.cell) ∉ names->acc.lookup x = some c->(cellsFrom n names acc).lookup x = some c
 | [],n,acc,x,c,_,e=>e
 | (z,k)::r,n,acc,x,c,h,e=>by
  rw [cellsFrom]
  have hr:(x,NameKind.cell) ∉ r:=fun q=>h (List.mem_cons_of_mem _ q)
  by_cases hk:k = .cell
  ·subst hk
   rw [if_pos cc]
   refine zcb r (n + 1) _ x c hr ?_
   have:x ≠ z:=fun q=>h (by rw [q]; exact List.mem_cons_self)
   have z':(x == z) = false:=by simpa using this
   rw [List.lookup_cons,z']
   exact e
  ·have hb:(k == NameKind.cell) = false:=by simpa using hk
   rw [if_neg (by rw [hb]; decide)]
   exact zcb r n acc x c hr e
theorem zcd {M:Model} {A:Around} {E:Value->Shared->Prop}:∀ (names:List (Str × NameKind)) (acc:List (Str × Addr)) (s:Shared) (Q:List (Str × Addr)->Shared->Prop),
  Q (cellsFrom s.heap.objs.size names acc) { s with heap:=pushCells s.heap names }->
  wpAny M A (forIn names acc fun x (cells:List (Str × Addr))=>match x with
   | (name,kind)=>if (kind == NameKind.cell) = true then do
     let a <- alloc { cls:=Value.type "cell",data:=Data.cell none }
     pure (ForInStep.yield ((name,a)::cells))
    else pure (ForInStep.yield cells)) Q E s
 | [],acc,s,Q,h=>by
  rw [List.forIn_nil]
  exact wpAny_pure h
 | (z,k)::r,acc,s,Q,h=>by
  rw [List.forIn_cons]
  rw [cellsFrom,pushCells] at h
  by_cases hk:k = .cell
  ·subst hk
   rw [if_pos cc,if_pos cc] at h
   refine wpAny_bind ?_
   dsimp only
   rw [if_pos cc]
   refine wpAny_bind (wpAny_alloc (wpAny_pure ?_))
   refine zcd r _ _ Q ?_
   have sz:(s.heap.push { cls:=Value.type "cell",data:=Data.cell none }).objs.size = s.heap.objs.size + 1:=by unfold Heap.push; simp
   rw [sz]
   exact h
  ·have hb:(k == NameKind.cell) = false:=by simpa using hk
   rw [if_neg (by rw [hb]; decide),if_neg (by rw [hb]; decide)] at h
   refine wpAny_bind ?_
   dsimp only
   rw [if_neg (by rw [hb]; decide)]
   exact wpAny_pure (zcd r _ _ Q h)
theorem zhp {M:Model} {A:Around} {E:Value->Shared->Prop} {s:Shared} {scope:Scope} {globals:Addr} {cl:List (Str × Addr)} {qual:Str} {env:Env} {Q:Env->Shared->Prop} (old:∀ x c,cl.lookup x = some c->c < s.heap.objs.size) (inj:∀ x y c,cl.lookup x = some c->cl.lookup y = some c->x = y)
  (h:∀ h1 cl',h1.Ns s.heap.objs.size (fun _=>none)->(∀ b o,s.heap.get? b = some o->h1.get? b = some o)->CellsNew s.heap.objs.size h1 scope.names cl cl'->Q { scope:=scope,locals:=s.heap.objs.size,globals:=globals,cells:=cl',qual:=qual,func:=none,code:=env.code,frame:=env.frame,builtins:=env.builtins } { s with heap:=h1 }) :
  wpAny M A (newFunctionEnv scope globals cl [] qual none .none (some env)) Q E s:=by
 unfold newFunctionEnv
 refine wpAny_bind (wpAny_alloc ?_)
 refine wpAny_bind ?_
 refine zcd scope.names cl _ _ ?_
 dsimp only
 rw [List.forIn_nil]
 refine wpAny_bind (wpAny_pure (wpAny_pure ?_))
 have sz:(s.heap.push { cls:=Value.type (if (some env).isSome = true then "dict" else "frame"),data:=Data.dict #[] }).objs.size = s.heap.objs.size + 1:=by unfold Heap.push; simp
 refine h _ _ ?_ (fun b o e=>zaz _ _ _ _ (Heap.get?_push_of_some _ e)) ⟨fun x c e=>?_,fun x y c hc e1 e2=>?_,fun x e=>?_,fun x c hx e=>zcb _ _ _ x c hx e⟩
 ·refine ⟨_,#[],_,zaz _ _ _ _ (Heap.get?_push_size _ rfl),rfl,?_,fun _=>rfl⟩
  intro e he
  simp at he
 ·rcases zca _ _ _ x c e with ⟨a,b⟩ | ⟨a,b,d⟩
  ·exact .inl ⟨a,b⟩
  ·rw [sz] at b
   exact .inr ⟨a,by omega,d⟩
 ·exact zcI _ _ _ x y c (fun u v a b=>inj u v c a b) (fun u a q=>.inl (by rw [sz]; exact Nat.lt_succ_of_lt (old u a q))) e1 e2
 ·have:=PySem.W.cellsFrom_some scope.names (s.heap.push { cls:=Value.type (if (some env).isSome = true then "dict" else "frame"),data:=Data.dict #[] }).objs.size cl (.inl e)
  exact Option.isSome_iff_exists.mp this
noncomputable def Cx.blk (X:Cx) (scope:Scope) (cl:List (Str × Addr)) (N:List Str) (C:Addr) (s3:Shared) (H3:Hp) (fp:List Addr) (pins:List (Addr × Obj)):Cx where
 prog:=X.prog
 w:=X.w
 K:=X.K
 mg:=X.mg
 base:=X.base
 A:=X.A
 N:=N
 s₀:=s3
 H₀:=H3
 env:=compEnvC scope cl C X.env
 outer:=X.stack
 stack:=X.stack
 ex:=fp
 fn:=fun x=>scope.names.lookup x == some .cell
 calm:=X.calm
 pn:=X.pn ++ pins
 xe:=fun _ _=>False
structure BlkOk (sc scope:Scope):Prop where
 kind:scope.kind = .function
 cel:∀ y ∈ scope.names,y.2 = .cell->scope.names.lookup y.1 = some .cell
 free:∀ y ∈ scope.names,y.2 = .free->sc.names.lookup y.1 = some .cell\/sc.names.lookup y.1 = some .free
 loc:∀ y ∈ scope.names,y.2 = .local->scope.names.lookup y.1 = some .local
section
variable {X:Cx} {pins:List (Addr × Obj)} {σ:St} {H:Hp} {s:Shared} {scope:Scope} {cl:List (Str × Addr)} {N:List Str} {fp:List Addr} {σY:St}
theorem zjt {h1:Heap} {t:Nat} {cl':List (Str × Addr)} (I:Inv X pins σ H s) (B:BlkOk X.env.scope scope) (c1:∀ x c,cl.lookup x = some c->X.env.cells.lookup x = some c) (c2:∀ x ∈ scope.names,x.2 = .free->∃ c,cl.lookup x.1 = some c)
  (f:∀ b ∈ fp,FpOk X pins H b) (fo:∀ b ∈ fp,∃ o,s.heap.get? b = some o) (hn:h1.Ns s.heap.objs.size (fun _=>none)) (kp:∀ b o,s.heap.get? b = some o->h1.get? b = some o) (CN:CellsNew s.heap.objs.size h1 scope.names cl cl')
  (hl:σY.length = N.length) (hσ:∀ (i:Nat) (x:Str) (v:V),N[i]? = some x->σY[i]? = some (some v)->scope.names.lookup x = some .free/\∃ j:Nat,X.N[j]? = some x/\σ[j]? = some (some v)) :
  Inv (X.blk scope cl' N s.heap.objs.size s H fp pins) [] σY H { s with heap:=h1,toks:=t }:=by
 have lt:∀ b o,s.heap.get? b = some o->b ≠ s.heap.objs.size:=fun b o q=>Nat.ne_of_lt (Heap.lt_size q)
 have nfs:∀ b,b ≠ X.env.locals->b ∉ X.fs->b ∉ frs X.stack:=fun b a c z=>(List.mem_cons.mp (I.stkSub b z)).elim a c
 have mem_of:∀ x k,scope.names.lookup x = some k->(x,k) ∈ scope.names:=fun x k q=>PySem.mem_of_lookup q
 have old:∀ x c,cl.lookup x = some c->c < s.heap.objs.size:=fun x c q=>by
  obtain ⟨v,o,q1,q2⟩:=I.cell x c (c1 x c q)
  exact Heap.lt_size q1
 have fnc:∀ x,scope.names.lookup x = some .free->(x,NameKind.cell) ∉ scope.names:=fun x q z=>by
  have:=B.cel _ z rfl
  have this:scope.names.lookup x = some .cell:=this
  rw [q] at this
  cases this
 refine ⟨⟨I.ok.mod,B.kind,I.ok.glob,I.ok.blt,Nat.le_refl _,fun x y c a b=>?_,fun x hx=>?_,fun x c z q=>?_,I.ok.hd,I.ok.frames,.inl rfl,fun b hb=>?_,I.bs,Nat.le_trans I.ok.bsz I.sz,fun b o q hb=>?_,fun b hb=>nfs b (f b hb).2.1 (f b hb).2.2.1,I.stack,I.stkFree⟩,
  rfl,I.bare,Un.kept kp,⟨_,hn,fun i x v e1 e2 e3=>?_⟩,fun x c q=>?_,I.hok.fresh (Nat.le_refl _),fun x c q=>?_,fun p hp=>?_,I.hok.kept kp,hl⟩
 ·by_cases hc:s.heap.objs.size < c
  ·exact CN.d2 x y c hc a b
  ·rcases CN.d1 x c a with ⟨a1,_⟩ | ⟨_,a1,_⟩
   ·rcases CN.d1 y c b with ⟨b1,_⟩ | ⟨_,b1,_⟩
    ·exact I.ok.inj x y c (c1 x c a1) (c1 y c b1)
    ·exact absurd b1 hc
   ·exact absurd a1 hc
 ·have hx:(relabel scope X.env).names.lookup x = some .cell\/(relabel scope X.env).names.lookup x = some .free:=hx
  have fr:scope.names.lookup x = some .cell\/scope.names.lookup x = some .free:=by
   rcases hx with hx | hx
   ·rcases zbr hx with z | ⟨_,z⟩
    ·exact .inl z
    ·exact .inr z
   ·rcases zbr hx with z | ⟨z,_⟩
    ·exact .inr z
    ·cases z
  rcases fr with fr | fr
  ·exact CN.d3 x fr
  ·obtain ⟨c,hc⟩:=c2 (x,.free) (mem_of x _ fr) rfl
   exact ⟨c,CN.d4 x c (fnc x fr) hc⟩
 ·rcases CN.d1 x c q with ⟨_,q1⟩ | ⟨_,q1,_⟩
  ·have z:(scope.names.lookup x == some NameKind.cell) = true:=z
   exact absurd (mem_of x _ (by simpa using z)) q1
  ·exact Nat.le_of_lt q1
 ·obtain ⟨o,q⟩:=fo b hb
  refine ⟨lt b o q,fun x c z=>?_⟩
  rcases CN.d1 x c z with ⟨q1,_⟩ | ⟨_,q1,_⟩
  ·exact (f b hb).2.2.2.2.1 x c (c1 x c q1)
  ·exact fun e=>absurd (Heap.lt_size q) (by rw [<- e]; exact Nat.not_lt.mpr (Nat.le_of_lt q1))
 ·obtain ⟨_,_,_,z,_⟩:=f b hb
  rcases z with z | z
  ·exact I.ok.noex b o q z
  ·exact absurd (Nat.lt_of_lt_of_le (Heap.lt_size q) (Nat.le_trans I.ok.bsz z)) (Nat.lt_irrefl _)
 ·obtain ⟨fr,j,hj,hv⟩:=hσ i x v e1 e2
  have hk:=B.free (x,.free) (mem_of x _ fr) rfl
  obtain ⟨m,hm,hlk⟩:=I.loc
  obtain ⟨u,r,l⟩:=hlk j x v hj hv (hk.elim (fun z=>.inr (.inl z)) fun z=>.inr (.inr z))
  obtain ⟨c',hc'⟩:=c2 (x,.free) (mem_of x _ fr) rfl
  have hc':cl.lookup x = some c':=hc'
  refine ⟨u,r,.inr ⟨zbq fr,c',CN.d4 x c' (fnc x fr) hc',?_⟩⟩
  rcases l with ⟨k1,_⟩ | ⟨_,c,k2,oc,k3,k4⟩
  ·have k1:X.env.scope.names.lookup x = some .local:=k1
   rcases hk with hk | hk
   ·have hk:X.env.scope.names.lookup x = some .cell:=hk
    rw [k1] at hk; cases hk
   ·have hk:X.env.scope.names.lookup x = some .free:=hk
    rw [k1] at hk; cases hk
  ·have e:=c1 x c' hc'
   rw [k2] at e
   cases e
   exact ⟨oc,kp _ oc k3,k4⟩
 ·rcases CN.d1 x c q with ⟨q1,_⟩ | ⟨_,_,q1⟩
  ·obtain ⟨v,o,q1,q2⟩:=I.cell x c (c1 x c q1)
   exact ⟨v,o,kp c o q1,q2⟩
  ·exact ⟨none,q1⟩
 ·rcases CN.d1 x c q with ⟨q1,_⟩ | ⟨_,q1,_⟩
  ·exact I.freeC x c (c1 x c q1)
  ·exact I.hok.fresh (Nat.le_of_lt q1)
 ·have hp:p ∈ X.pn ++ pins:=by
   have z:p ∈ (X.pn ++ pins) ++ []:=hp
   simpa using z
  obtain ⟨a1,a2,a3,a4,a5⟩:=I.pin p hp
  exact ⟨kp _ _ a1,a2,lt _ _ a1,nfs _ a3 a4,a5⟩
theorem zeK {σ':St} {H':Hp} {s':Shared} (I:Inv X pins σ H s) (f:∀ b ∈ fp,FpOk X pins H b) (J:Inv (X.blk scope cl N s.heap.objs.size s H fp pins) [] σ' H' s'):Inv X pins σ H' s':=
 I.call' (ch:=fp) J.os J.base J.hok J.bare fun b hb=>by
  obtain ⟨_,a2,_,a4,a5,a6⟩:=f b hb
  exact ⟨a4.imp id fun z=>Heap.get?_none_of_le z,a2,a5,a6⟩
theorem zcr {σ':St} {H':Hp} {s':Shared} {h2:Heap} {C:Addr} (J:Inv X pins σ H' s') (hC:X.s₀.heap.objs.size<=C) (n1:H' C = none) (n2:C ≠ X.env.locals) (n3:∀ x c,X.env.cells.lookup x = some c->c ≠ C) (n4:∀ p ∈ X.pn ++ pins,p.1 ≠ C)
  (sb:Heap.SameBut C s'.heap h2):Inv X pins σ H' { s' with heap:=h2 }:=
 J.turned (t':=s'.toks) (fun b o z q=>(sb.2 b z).trans q) n1 n2 (.inr hC) n3 n4
end
end L2
set_option Elab.async false
set_option linter.all false
set_option maxRecDepth 100000
set_option maxHeartbeats 4000000
namespace L2
open PySem PySem.Spec PyProof.Rows
noncomputable abbrev testsOf (ifs:List Expr) (env:Env):Sem Bool:=forIn ifs true fun c r=>if r = true then do let ok <- isTrue c env (eval c env); pure (ForInStep.yield ok) else pure (ForInStep.yield r)
theorem zgP {prog:Program} {w:World} {A:Around} {R:Result->Shared->Prop} {s:Shared} {elt target iter:Expr} {ifs:List Expr} {scope:Scope} {pos:Pos} {it acc:Value} {env:Env} (V:Nat->Shared->Prop)
  (turn:∀ n s,V n s->wpAny (model prog w) A (pyNext it) (fun r s₁=>match r with
   | none=>R (.ok .next) s₁
   | some v=>wpAny (model prog w) A (letOwnedTupleGo target it v) (fun _ s₂=>wpAny (model prog w) A (assign target env v) (fun _ s₃=>
     wpAny (model prog w) A (testsOf ifs env) (fun ok s₄=>
      if ok = true then wpAny (model prog w) A (eval elt env) (fun x s₅=>wpAny (model prog w) A (call (.builtin "list.append") [acc,x]) (fun _ s₆=>∃ m,m < n/\V m s₆) (fun _ _=>False) s₅) (fun _ _=>False) s₄
      else ∃ m,m < n/\V m s₄) (fun _ _=>False) s₃) (fun _ _=>False) s₂) (fun _ _=>False) s₁) (fun _ _=>False) s)
  (n:Nat) (h:V n s):codeAny (model prog w) A (.compLoop (.ListComp elt [⟨target,iter,ifs,0⟩] scope pos) 0 it acc env) R s:=by
 refine codeAny_loop rfl V (fun n s hV=>?_) n h
 show wpAny _ A ((compTurn (.ListComp elt [⟨target,iter,ifs,0⟩] scope pos) 0 it acc env).onRaise (fun x=>do noteFrame x env; theTreesLotGoes x)) _ _ s
 refine wpAny_noted ?_
 rw [compTurn_list]
 refine wpAny_bind (wpAny_standAt (wpAny_bind (wpAny_mono (turn n s hV) (fun r s₁ h₁=>?_) fun _ _ z=>z.elim)))
 cases r with
 | none=>exact wpAny_pure h₁
 | some v=>
  refine wpAny_bind (wpAny_mono h₁ (fun _ s₂ h₂=>?_) fun _ _ z=>z.elim)
  refine wpAny_bind (wpAny_mono h₂ (fun _ s₃ h₃=>wpAny_bind (wpAny_mono h₃ (fun ok s₄ h₄=>?_) fun _ _ z=>z.elim)) fun _ _ z=>z.elim)
  cases ok with
  | true=>
   simp only [if_true] at h₄ ⊢
   exact wpAny_bind (wpAny_bind (wpAny_mono h₄ (fun x s₅ h₅=>wpAny_bind (wpAny_mono h₅ (fun _ s₆ h₆=>wpAny_pure (wpAny_pure ⟨rfl,h₆⟩)) fun _ _ z=>z.elim)) fun _ _ z=>z.elim))
  | false=>
   simp only [Bool.false_eq_true,if_false] at h₄ ⊢
   exact wpAny_pure ⟨rfl,h₄⟩
noncomputable def PTs (X:Cx) (ifs:List Expr) (t:TT):Prop:=
 ∀ (pins:List (Addr × Obj)) (s:Shared) (σ:St) (H:Hp) (Q:Bool->Hp->Prop),Inv X pins σ H s->t σ H Q->wpAny (model X.prog X.w) X.A (testsOf ifs X.env) (TP X pins σ Q) X.xe s
noncomputable def tYes:TT:=fun _ H Q=>Q true H
theorem zjm {X:Cx}:PTs X [] tYes:=fun _ _ _ H _ I h=>wpAny_tests_nil ⟨H,I,h⟩
theorem zjM {X:Cx} {c:Expr} {t:TT} (h:PT X c t):PTs X [c] t:=fun pins s σ H Q I hq=>wpAny_tests_one (h pins s σ H Q I hq)
noncomputable def tBlk (σY:St->St) (g:TG) (tt:TT) (te:TE) (J:It) (σ:St) (H:Hp) (Q:VK):Prop:=∀ D,H D = none->∃ W:Nat->Nat->St->Hp->Prop,(∃ m,W 0 m (σY σ) (upd H D (.lst [])))/\∀ i m σ' H',W i m σ' H'->
 (J.stop i H'/\Q (.ref D) H')\/(J.go i H'/\∃ N:St->Hp->Prop,(∀ σ2 H2,N σ2 H2->∃ m',m' < m/\W (i + 1) m' σ2 H2)/\∀ x H2,J.yld i H' x H2->g x σ' H2 fun σ3 H3=>tt σ3 H3 fun ok H4=>
  if ok = true then te σ3 H4 fun y H5=>∃ ys,H5 D = some (.lst ys)/\ys.length < sizeLine/\N σ3 (upd H5 D (.lst (ys ++ [y]))) else N σ3 H4)
section
variable {X:Cx} {elt tg iter:Expr} {ifs:List Expr} {scope:Scope} {pos:Pos} {N:List Str} {σY:St->St} {wi:TI} {g:TG} {tt:TT} {te:TE}
structure Parts (X:Cx) (elt tg:Expr) (ifs:List Expr) (scope:Scope) (N:List Str) (g:TG) (tt:TT) (te:TE):Prop where
 tgt:∀ cl C s3 H3 fp pins,PG (X.blk scope cl N C s3 H3 fp pins) tg g
 tst:∀ cl C s3 H3 fp pins,PTs (X.blk scope cl N C s3 H3 fp pins) ifs tt
 el:∀ cl C s3 H3 fp pins,PE (X.blk scope cl N C s3 H3 fp pins) elt te
theorem zes (hc:X.calm = true) (B:BlkOk X.env.scope scope) (P:Parts X elt tg ifs scope N g tt te) (hl:∀ σ,(σY σ).length = N.length)
  (hσ:∀ (σ:St) (i:Nat) (x:Str) (v:V),N[i]? = some x->(σY σ)[i]? = some (some v)->scope.names.lookup x = some .free/\∃ j:Nat,X.N[j]? = some x/\σ[j]? = some (some v))
  {pins:List (Addr × Obj)} {s:Shared} {σ:St} {H:Hp} {Q:VK} {it:Addr} {fp:List Addr} {tn:Nat->Heap->Prop} {J:It} (I:Inv X pins σ H s) (T:Turn X.prog X.w X.K tg J fp it tn) (st:tn 0 s.heap) (f:∀ b ∈ fp,FpOk X pins H b) (h:tBlk σY g tt te J σ H Q)
  {cl:List (Str × Addr)} (c1:∀ x c,cl.lookup x = some c->X.env.cells.lookup x = some c) (c2:∀ x ∈ scope.names,x.2 = .free->∃ c,cl.lookup x.1 = some c) {R:Value->Addr->Result->Shared->Prop} {E:Value->Shared->Prop}
  (k:∀ D C s' H',Inv X pins σ H' s'->X.s₀.heap.objs.size<=C->H' C = none->C ≠ X.env.locals->(∀ x c,X.env.cells.lookup x = some c->c ≠ C)->(∀ p ∈ X.pn ++ pins,p.1 ≠ C)->(∃ m,s'.heap.Ns C m)->Q (.ref D) H'->R (.ref D) C (.ok .next) s') :
  wpAny (model X.prog X.w) X.A (newList []) (fun acc s₃=>wpAny (model X.prog X.w) X.A (newFunctionEnv scope X.env.globals cl [] X.env.qual none .none (some X.env)) (fun cenv s₄=>
   codeAny (model X.prog X.w) X.A (.compStart (.ListComp elt [⟨tg,iter,ifs,0⟩] scope pos) 0 (.ref it) acc { cenv with scope:=relabel scope X.env }) (R acc cenv.locals) s₄) E s₃) E s:=by
 refine wpAny_newObj_type ?_
 have hD:H s.heap.objs.size = none:=I.hok.fresh (Nat.le_refl _)
 have I3:Inv X pins σ (upd H s.heap.objs.size (.lst [])) { s with heap:=s.heap.push { cls:=.type "list",dict:=none,data:=.seq ([]:List Value).toArray } }:=
  I.laid (t':=s.toks) (fun b u q=>Heap.get?_push_of_some _ q) (Nat.le_refl _) ⟨Nat.zero_le _,[],0,.nil,Heap.get?_push_size _ rfl⟩
 have f3:∀ b ∈ fp,FpOk X pins (upd H s.heap.objs.size (.lst [])) b:=fun b hb=>by
  obtain ⟨a1,a2⟩:=f b hb
  obtain ⟨o,q,_⟩:=T.obj 0 _ st b hb
  exact ⟨by rw [zap (Nat.ne_of_lt (Heap.lt_size q))]; exact a1,a2⟩
 have st3:tn 0 (s.heap.push { cls:=.type "list",dict:=none,data:=.seq ([]:List Value).toArray }):=T.keep _ _ _ st fun b hb o q=>Heap.get?_push_of_some _ q
 obtain ⟨W,⟨m0,w0⟩,turn⟩:=h s.heap.objs.size hD
 generalize hs3:({ s with heap:=s.heap.push { cls:=.type "list",dict:=none,data:=.seq ([]:List Value).toArray } }:Shared) = s3 at *
 have st3':tn 0 s3.heap:=by rw [<- hs3]; exact st3
 generalize hH3:upd H s.heap.objs.size (.lst []) = H3 at *
 refine zhp (fun x c q=>by obtain ⟨v,o,q1,_⟩:=I3.cell x c (c1 x c q); exact Heap.lt_size q1) (fun x y c a b=>I3.ok.inj x y c (c1 x c a) (c1 y c b)) fun h1 cl' hn kp CN=>?_
 have J0:Inv (X.blk scope cl' N s3.heap.objs.size s3 H3 fp pins) [] (σY σ) H3 { s3 with heap:=h1 }:=
  zjt (t:=s3.toks) I3 B c1 c2 f3 (fun b hb=>let ⟨o,q,_⟩:=T.obj 0 _ st3' b hb; ⟨o,q⟩) hn kp CN (hl σ) (hσ σ)
 have st4:tn 0 h1:=T.keep _ _ _ st3' fun b hb o q=>kp b o q
 have fY:∀ {H':Hp},(∀ b ∈ fp,H' b = none)->∀ b ∈ fp,FpOk (X.blk scope cl' N s3.heap.objs.size s3 H3 fp pins) [] H' b:=fun {H'} z b hb=>by
  obtain ⟨a1,a2,a3,a4,a5,a6⟩:=f3 b hb
  obtain ⟨o,q,_⟩:=T.obj 0 _ st3' b hb
  refine ⟨z b hb,Nat.ne_of_lt (Heap.lt_size q),fun y=>(List.mem_cons.mp (I3.stkSub b y)).elim a2 a3,.inl hb,fun x c y=>?_,fun p hp=>a6 p ?_⟩
  ·rcases CN.d1 x c y with ⟨q1,_⟩ | ⟨_,q1,_⟩
   ·exact a5 x c (c1 x c q1)
   ·exact fun e=>absurd (Heap.lt_size q) (by rw [<- e]; exact Nat.not_lt.mpr (Nat.le_of_lt q1))
  have y:p ∈ (X.pn ++ pins) ++ []:=hp
  simpa using y
 have loop:codeAny (model X.prog X.w) X.A (.compLoop (.ListComp elt [⟨tg,iter,ifs,0⟩] scope pos) 0 (.ref it) (.ref s.heap.objs.size) (compEnvC scope cl' s3.heap.objs.size X.env)) (R (.ref s.heap.objs.size) s3.heap.objs.size) { s3 with heap:=h1 }:=by
  refine zgP (fun n s'=>∃ i σ' H',Inv (X.blk scope cl' N s3.heap.objs.size s3 H3 fp pins) [] σ' H' s'/\tn i s'.heap/\(∀ b ∈ fp,H' b = none)/\W i n σ' H') ?_ m0 ⟨0,σY σ,H3,J0,st4,fun b hb=>(f3 b hb).1,w0⟩
  rintro n s5 ⟨i,σ5,H5,J5,st5,fr5,w5⟩
  rcases turn i n σ5 H5 w5 with ⟨stop,q⟩ | ⟨go,Nx,hN,step⟩
  ·refine thn (T.done (X.blk scope cl' N s3.heap.objs.size s3 H3 fp pins) rfl rfl rfl hc i [] s5 σ5 H5 _ J5 (fY fr5) st5 stop) fun r s6 ⟨hr,J6⟩=>?_
   subst hr
   have JX:=zeK I3 f3 J6
   refine k s.heap.objs.size s3.heap.objs.size s6 H5 JX I3.sz J6.free (Nat.ne_of_gt I3.lt) (fun x c y z=>?_) (fun p hp z=>?_) ?_ q
   ·obtain ⟨v,qc⟩:=I3.cell x c y
    exact absurd qc.lt (by rw [z]; exact Nat.lt_irrefl _)
   ·exact absurd (Heap.lt_size (I3.pin p hp).1) (by rw [z]; exact Nat.lt_irrefl _)
   ·obtain ⟨m,hm,_⟩:=J6.loc
    exact ⟨m,hm⟩
  ·refine thn (T.item (X.blk scope cl' N s3.heap.objs.size s3 H3 fp pins) rfl rfl rfl hc i [] s5 σ5 H5 _ J5 (fY fr5) st5 go) fun r s6 ⟨u,hr,h6⟩=>?_
   subst hr
   refine thn h6 fun _ s7 ⟨x,H7,J7,r7,y7,st7,fr7⟩=>?_
   have J7':=J7.pinned (fY fr7) (T.obj _ _ st7)
   refine thn (P.tgt cl' s3.heap.objs.size s3 H3 fp pins _ s7 σ5 H7 x u _ J7' r7 (step x H7 y7)) fun _ s8 ⟨σ8,H8,J8,q8⟩=>?_
   refine thn (P.tst cl' s3.heap.objs.size s3 H3 fp pins _ s8 σ8 H8 _ J8 q8) fun ok s9 ⟨H9,J9,q9⟩=>?_
   have again:∀ {H':Hp} {s':Shared},Inv (X.blk scope cl' N s3.heap.objs.size s3 H3 fp pins) ([] ++ pinsAt fp s7.heap) σ8 H' s'->Nx σ8 H'->∃ m,m < n/\∃ i σ' H',Inv (X.blk scope cl' N s3.heap.objs.size s3 H3 fp pins) [] σ' H' s'/\tn i s'.heap/\(∀ b ∈ fp,H' b = none)/\W i m σ' H':=fun {H' s'} J' n'=>by
    obtain ⟨m',hm,w'⟩:=hN σ8 H' n'
    refine ⟨m',hm,i + 1,σ8,H',J'.unpinned,T.keep _ _ _ st7 fun b hb o e=>(J'.pin (b,o) (List.mem_append_right _ (List.mem_append_right _ (zbu hb e)))).1,fun b hb=>?_,w'⟩
    obtain ⟨o,e,d⟩:=T.obj _ _ st7 b hb
    exact (J'.pin (b,o) (List.mem_append_right _ (List.mem_append_right _ (zbu hb e)))).2.1
   cases ok with
   | false=>
    rw [if_neg (by decide)] at q9 ⊢
    exact again J9 q9
   | true=>
    rw [if_pos rfl] at q9 ⊢
    refine thn (P.el cl' s3.heap.objs.size s3 H3 fp pins _ s9 σ8 H9 _ J9 q9) fun v s10 ⟨y,H10,J10,r10,ys,hD10,hz,q10⟩=>?_
    refine thn (zdV (X:=(X.blk scope cl' N s3.heap.objs.size s3 H3 fp pins)) _ s10 σ8 H10 (.ref s.heap.objs.size) [y] (.ref s.heap.objs.size) [v] (fun _ H'=>Nx σ8 H') J10 rfl (.cons r10 .nil) ⟨s.heap.objs.size,ys,y,rfl,rfl,hD10,hz,q10⟩) fun _ s11 ⟨_,H11,J11,_,q11⟩=>again J11 q11
 exact codeAny_compStart_list loop (T.self _ 0 _ _ _ st4 loop)
end
end L2
set_option Elab.async false
set_option linter.all false
set_option maxRecDepth 100000
set_option maxHeartbeats 4000000
namespace L2
open PySem PySem.Spec PyProof.Rows
noncomputable def tComp (wi:TI) (σY:St->St) (g:TG) (tt:TT) (te:TE):TE:=fun σ H Q=>wi σ H fun J H1=>tBlk σY g tt te J σ H1 Q
section
variable {X:Cx} {elt tg iter:Expr} {ifs:List Expr} {scope:Scope} {pos spos py:Pos} {N:List Str} {σY:St->St} {wi:TI} {g:TG} {tt:TT} {te:TE} {i:Nat} {y:Str}
theorem zgw {pins:List (Addr × Obj)} {s:Shared} {σ:St} {H:Hp} (I:Inv X pins σ H s) (B:BlkOk X.env.scope scope):∃ cl,closureFor scope X.env = pure cl/\(∀ x c,cl.lookup x = some c->X.env.cells.lookup x = some c)/\∀ x ∈ scope.names,x.2 = .free->∃ c,cl.lookup x.1 = some c:=
 zfV fun x hx hf=>I.ok.has x.1 (B.free x hx hf)
theorem zjY (hc:X.calm = true) (B:BlkOk X.env.scope scope) (hi:PI X tg iter wi) (P:Parts X elt tg ifs scope N g tt te) (hl:∀ σ,(σY σ).length = N.length)
  (hσ:∀ (σ:St) (i:Nat) (x:Str) (v:V),N[i]? = some x->(σY σ)[i]? = some (some v)->scope.names.lookup x = some .free/\∃ j:Nat,X.N[j]? = some x/\σ[j]? = some (some v))
  (hs:∀ x,foldedSetIterable iter X.env x = pure x:=by intro _; rfl):PE X (.ListComp elt [⟨tg,iter,ifs,0⟩] scope pos) (tComp wi σY g tt te):=by
 intro pins s σ H Q I h
 obtain ⟨cl,hcl,c1,c2⟩:=zgw I B
 rw [eval_ListComp]
 refine wpAny_comprehension_free (use:=none) rfl hs hcl B.kind B.loc (thn (hi pins s σ H _ I h) fun xv s1 h1=>thn h1 fun itv s2 h2=>?_)
 obtain ⟨it,fp,tn,J,H2,e,I2,T,st2,f2,hq⟩:=h2
 subst e
 exact zes hc B P hl hσ I2 T st2 f2 hq c1 c2 (R:=fun acc C=>compPost (model X.prog X.w) X.A X.xe none (EP X pins σ Q) acc C) fun D C s' H' J' a b c d e ⟨m,hm⟩ q=>⟨m,hm,fun h' sb=>⟨.ref D,H',zcr (σ':=σ) J' a b c d e sb,rfl,q⟩⟩
theorem zfM (hc:X.calm = true) (hN:X.N.Nodup) (hi':X.N[i]? = some y) (hx:Loc X.env.scope y) (hf:X.fn y = true\/X.env.scope.names.lookup y = some .local) (B:BlkOk X.env.scope scope) (hi:PI X tg iter wi) (P:Parts X elt tg ifs scope N g tt te) (hl:∀ σ,(σY σ).length = N.length)
  (hσ:∀ (σ:St) (i:Nat) (x:Str) (v:V),N[i]? = some x->(σY σ)[i]? = some (some v)->scope.names.lookup x = some .free/\∃ j:Nat,X.N[j]? = some x/\σ[j]? = some (some v))
  (hsw:swapsWith (.ListComp elt [⟨tg,iter,ifs,0⟩] scope pos) (some (.Name y py)) spos.line X.env = pure true) (hs:∀ x,foldedSetIterable iter X.env x = pure x:=by intro _; rfl) :
  PS X (.Assign [.Name y py] (.ListComp elt [⟨tg,iter,ifs,0⟩] scope pos) spos) (tAsg (tComp wi σY g tt te) (gName i)):=by
 intro pins s σ H D I h
 obtain ⟨cl,hcl,c1,c2⟩:=zgw I B
 rw [exec_Assign_Name_used _ _ _ _ hsw]
 refine wpAny_bind (wpAny_standAt (wpAny_bind ?_))
 show wpAny _ X.A (do let _ <- comprehension (.ListComp elt [⟨tg,iter,ifs,0⟩] scope pos) scope X.env _ (newList []) false (eval iter X.env) (some (assign (.Name y py) X.env))) _ _ s
 refine wpAny_bind (wpAny_comprehension_free (use:=some (assign (.Name y py) X.env)) rfl hs hcl B.kind B.loc (thn (hi pins s σ H _ I h) fun xv s1 h1=>thn h1 fun itv s2 h2=>?_))
 obtain ⟨it,fp,tn,J,H2,e,I2,T,st2,f2,hq⟩:=h2
 subst e
 refine zes hc B P hl hσ I2 T st2 f2 hq c1 c2 (R:=fun acc C=>compPost (model X.prog X.w) X.A X.xe (some (assign (.Name y py) X.env)) _ acc C) fun D' C s' H' J' a b c d e ⟨m,hm⟩ q=>?_
 show wpAny _ _ (assign (.Name y py) X.env (.ref D')) _ _ s'
 refine wpAny_assign_Name (zec (v:=.ref D') J' hN hi' hx rfl (fun s5 J5 ⟨ad,sb,had⟩=>?_) hf)
 have nC:C ≠ ad:=by
  rcases had with z | z
  ·rw [z]; exact c
  ·exact (d y ad z).symm
 obtain ⟨ol,es,ep,e1,r1⟩:=hm
 refine ⟨m,⟨ol,es,ep,(sb.2 C nC).trans e1,r1⟩,fun h' sb'=>wpAny_pure (wpAny_pure ⟨_,H',zcr (σ':=σ) J5 a b c d e sb',q⟩)⟩
end
end L2
set_option Elab.async false
set_option linter.all false
set_option maxRecDepth 100000
set_option maxHeartbeats 4000000
namespace L2
open PySem PySem.Spec PyProof.Rows
section
variable {X:Cx} {elt tg iter tg₂ iter₂:Expr} {ifs₂:List Expr} {scope:Scope} {pos spos py:Pos} {N:List Str} {σY:St->St} {wi wi₂:TI} {g g₁:TG} {tt:TT} {te:TE} {i:Nat} {y:Str}
end
end L2
set_option Elab.async false
set_option linter.all false
set_option maxRecDepth 100000
set_option maxHeartbeats 4000000
namespace L2
open PySem PySem.Spec PyProof.Rows PySem.W
noncomputable def kasRun {α:Type} (lt:Nat->Nat->Option Bool):KasT α->Option α
 | .ret a=>some a
 | .ask i j k=>match lt i j with
  | some b=>kasRun lt (k b)
  | none=>none
section
variable {prog:Program} {w:World} {A:Around} {E:Value->Shared->Prop} {s:Shared} {κ:SortKind} {lt:Nat->Nat->Option Bool} {p:Array Nat}
end
end L2
set_option Elab.async false
set_option linter.all false
set_option maxRecDepth 100000
set_option maxHeartbeats 4000000
namespace L2
open PySem PySem.Spec PyProof.Rows PySem.W
section
variable {X:Cx}
end
end L2
set_option Elab.async false
set_option linter.all false
set_option maxRecDepth 100000
set_option maxHeartbeats 4000000
namespace L2
open PySem PySem.Spec PyProof.Rows PySem.W PySem.Calls PySem.Builtin PySem.Builtin.ObjectAttr
theorem zeC (self:Value):∀ {l:List Value},passM l = true->refuseLoop self "__setattr__" l = pure ()
 | .ref c::r,e=>by rw [refuseLoop_ref]; exact zeC self (by unfold passM at e; exact e)
 | [],e=>by cases e
 | .type n::r,e=>by
  have e':(Value.type n::r) = vErr:=by unfold passM at e; exact beq_iff_eq.mp e
  rw [e']
  exact PySem.F.store_ValueError.passes self
 | .none::r,e=>by unfold passM at e; cases (beq_iff_eq.mp e)
 | .bool _::r,e=>by unfold passM at e; cases (beq_iff_eq.mp e)
 | .int _ _::r,e=>by unfold passM at e; cases (beq_iff_eq.mp e)
 | .str _ _::r,e=>by unfold passM at e; cases (beq_iff_eq.mp e)
 | .bytes _ _::r,e=>by unfold passM at e; cases (beq_iff_eq.mp e)
 | .float _ _::r,e=>by unfold passM at e; cases (beq_iff_eq.mp e)
 | .builtin _::r,e=>by unfold passM at e; cases (beq_iff_eq.mp e)
theorem zfl:∀ {l:List Value},passM l = true->l.contains (.type "object") = true
 | .ref c::r,e=>by rw [List.contains_cons,zfl (l:=r) (by unfold passM at e; exact e),Bool.or_true]
 | [],e=>by cases e
 | .type n::r,e=>by
  have e':(Value.type n::r) = vErr:=by unfold passM at e; exact beq_iff_eq.mp e
  rw [e']
  decide
 | .none::r,e=>by unfold passM at e; cases (beq_iff_eq.mp e)
 | .bool _::r,e=>by unfold passM at e; cases (beq_iff_eq.mp e)
 | .int _ _::r,e=>by unfold passM at e; cases (beq_iff_eq.mp e)
 | .str _ _::r,e=>by unfold passM at e; cases (beq_iff_eq.mp e)
 | .bytes _ _::r,e=>by unfold passM at e; cases (beq_iff_eq.mp e)
 | .float _ _::r,e=>by unfold passM at e; cases (beq_iff_eq.mp e)
 | .builtin _::r,e=>by unfold passM at e; cases (beq_iff_eq.mp e)
section
variable {prog:Program} {w:World} {A:Around} {R:Result->Shared->Prop} {E:Value->Shared->Prop} {s:Shared} {K:PySem.W.Frag} {x C:Addr} {ox:Obj} {cd:ClassData} {name:Str} {v:Value} {mA:Str->Option Value} {ns:List Str}
theorem typeX {M:Model} {h:Heap} (hx:h.get? x = some ox) (hc:ox.cls = .ref C):Looks M h (typeOf (.ref x)) (.ref C):=by
 rw [<- hc]
 exact (Looks.ld hx).andThen .now
theorem osaX {tk:Tok} (X:K.In s.heap) (hx:s.heap.get? x = some ox) (hc:ox.cls = .ref C) (hnc:∀ c,ox.data ≠ .cls c) (hcl:clsIn K C = some cd) (hm:passM cd.mro = true) (hhd:cd.hasDict = true) (ht:findIn K (.ref C) name = some none)
  (hd:(ox.dict = none/\∀ n,mA n = none)\/∃ dx,ox.dict = some dx/\dx ≠ x/\s.heap.Ns1 dx mA) (hw:Within mA ns) (hsz:ns.length<=1000)
  (hq:∀ h' tk' d,h'.get? x = some { ox with dict:=some d }->d ≠ x->h'.Ns1 d (fun y=>if y = name then some v else mA y)->((ox.dict = none/\s.heap.objs.size<=d)\/ox.dict = some d)->(∀ b o,b ≠ x->b ≠ d->s.heap.get? b = some o->h'.get? b = some o)->R (.ok (.ret .none)) { s with heap:=h',toks:=tk' }) :
  codeAny (model prog w) A (.call (.builtin "object.__setattr__") ⟨[.ref x,.str name tk,v],[]⟩) R s:=by
 have SF:=PySem.F.store_object
 have ne:cd.mro.isEmpty = false:=by cases q:cd.mro with | nil=>rw [q] at hm; cases hm | cons _ _=>rfl
 have I:Looks (model prog w) s.heap (typeOf (.ref x)) (.ref C):=typeX hx hc
 have sub:Looks (model prog w) s.heap (isInstance (.ref x) (.type "object")) true:=I.andThen (looks_mroIn X (by unfold mroIn; rw [hcl,Option.bind_some,if_neg (by rw [ne]; decide),zfl hm]))
 refine codeAny_call_builtin SF.slot.plain SF.entry (@check_slot (model prog w) _ _ s "object.__setattr__" "object" "__setattr__" (.ref x) [.str name tk,v] [] _ SF.kind SF.split sub (SF.args (.ref x) (.str name tk) v) ?_)
 have hm':Looks (model prog w) s.heap (mroOf (.ref C)) cd.mro:=(looks_clsIn X hcl).andThen .now
 rw [osa_eq,refuse_eq]
 refine wpAny_bind (wpAny_bind (I.here (wpAny_bind (hm'.here ?_))))
 rw [zeC _ hm]
 refine wpAny_pure (wpAny_bind (I.here (wpAny_bind ((looks_findIn X ht).here (wpAny_bind (wpAny_pure ?_))))))
 obtain ⟨oc,odi,oda,osl⟩:=ox
 dsimp only at hc hd hq hnc
 subst hc
 refine wpAny_bind (wpAny_pure (wpAny_bind (wpAny_bind (wpAny_loadPart hx (wpAny_bind ((looks_clsIn X hcl).here ?_))))))
 rw [hhd]
 rcases hd with ⟨rfl,hn⟩ | ⟨dx,rfl,nx,n1⟩
 ·have hfr:=(Heap.get?_some_iff.mp hx).2
  have hx₁:(s.heap.push { cls:=.type "dict",data:=.dict #[] }).get? x = some ⟨.ref C,none,oda,osl⟩:=Heap.get?_push_of_some _ hx
  have hxs:x ≠ s.heap.objs.size:=Nat.ne_of_lt (Heap.lt_size hx)
  have key:wpAny (model prog w) A.in1 (do
    let d <- alloc { cls:=Value.type "dict",data:=Data.dict #[] }
    update x fun o=>{ cls:=o.cls,dict:=some d,data:=o.data,slots:=o.slots }
    dictMade (Value.ref C) x d) (fun a s'=>wpAny (model prog w) A.in1 (match a with
    | some d=>storeInDict d (Value.str name tk) name v
    | none=>noDictFor (Value.ref x) (Value.ref C) name (Option.isSome (none:Option Value)))
    (fun fin s'=>match fin with
     | Fin.done f=>R (Except.ok f) s'
     | Fin.again c'=>c'.quiet = true/\codeAny (model prog w) A c' R s')
    (fun e s'=>R (Except.error e) s') s') (fun e s'=>R (Except.error e) s') s:=by
   refine wpAny_bind (wpAny_alloc' ?_)
   refine wpAny_bind (wpAny_update' hx₁ ?_)
   refine wpAny_pure (a:=some s.heap.objs.size) ?_
   have hgd:((s.heap.push { cls:=.type "dict",data:=.dict #[] }).update x fun o=>{ cls:=o.cls,dict:=some s.heap.objs.size,data:=o.data,slots:=o.slots }).get? s.heap.objs.size
     = some { cls:=.type "dict",data:=.dict #[] }:=
    (Heap.get?_update_ne _ _ _ _ hxs.symm).trans (Heap.get?_push_at rfl rfl)
   have hnd:((s.heap.push { cls:=.type "dict",data:=.dict #[] }).update x fun o=>{ cls:=o.cls,dict:=some s.heap.objs.size,data:=o.data,slots:=o.slots }).Ns s.heap.objs.size (fun _=>none):=
    ⟨_,#[],_,hgd,rfl,fun e he=>absurd he (by simp),fun _=>rfl⟩
   show wpAny _ _ (storeInDict s.heap.objs.size (.str name tk) name v) _ _ _
   unfold storeInDict newKeyGuard
   refine wpAny_bind (wpAny_pure (wpAny_bind (wpAny_nsSet1 (Heap.Ns1.of_empty hnd) fun h' hn' hs=>?_)))
   obtain ⟨oD,esD,epD,hoD,hdD,hcD⟩:=hn'.count (Within.cons name v Within.nil)
   refine wpAny_bind (wpAny_lookBehind hoD (by rw [hdD]; exact pastItsLine_dict (Nat.le_trans hcD (by rw [List.length_cons,List.length_nil,sizeLine_eq]; omega))) ?_)
   refine wpAny_pure (hq h' _ s.heap.objs.size ?_ hxs.symm ?_ (.inl ⟨rfl,Nat.le_refl _⟩) fun b ob hbx _ hb=>?_)
   ·refine (hs.2 x hxs).trans (Heap.get?_update_self _ hx₁ ?_)
    cases oda <;> first | rfl | exact hfr
   ·obtain ⟨o',es,ep,e1,e2,e3,eu,e4⟩:=hn'
    exact ⟨o',es,ep,e1,e2,e3,eu,fun y=>by rw [e4 y]; by_cases hy:y = name <;> simp [hy,hn]⟩
   ·exact (hs.2 b (Nat.ne_of_lt (Heap.lt_size hb))).trans ((Heap.get?_update_ne _ _ _ _ hbx).trans (Heap.get?_push_of_some _ hb))
  cases oda <;> first | exact key | exact absurd rfl (hnc _)
 ·refine wpAny_pure (a:=some dx) ?_
  show wpAny _ _ (storeInDict dx (.str name tk) name v) _ _ _
  unfold storeInDict newKeyGuard
  refine wpAny_bind (wpAny_pure (wpAny_bind (wpAny_nsSet1 n1 fun h' hn' hs=>?_)))
  obtain ⟨oD,esD,epD,hoD,hdD,hcD⟩:=hn'.count (Within.cons name v hw)
  refine wpAny_bind (wpAny_lookBehind hoD (by rw [hdD]; exact pastItsLine_dict (Nat.le_trans hcD (by rw [List.length_cons,sizeLine_eq]; omega))) ?_)
  exact wpAny_pure (hq h' _ dx ((hs.2 x nx.symm).trans hx) nx hn' (.inr rfl) fun b o _ nb e=>(hs.2 b nb).trans e)
theorem setX {Q:Unit->Shared->Prop} (X:K.In s.heap) (hx:s.heap.get? x = some ox) (hc:ox.cls = .ref C) (hnc:∀ c,ox.data ≠ .cls c) (hs:findIn K (.ref C) "__setattr__" = some (some (.builtin "object.__setattr__"))) (hcl:clsIn K C = some cd) (hm:passM cd.mro = true) (hhd:cd.hasDict = true) (ht:findIn K (.ref C) name = some none)
  (hd:(ox.dict = none/\∀ n,mA n = none)\/∃ dx,ox.dict = some dx/\dx ≠ x/\s.heap.Ns1 dx mA) (hw:Within mA ns) (hsz:ns.length<=1000)
  (hq:∀ h' tk' d,h'.get? x = some { ox with dict:=some d }->d ≠ x->h'.Ns1 d (fun y=>if y = name then some v else mA y)->((ox.dict = none/\s.heap.objs.size<=d)\/ox.dict = some d)->(∀ b o,b ≠ x->b ≠ d->s.heap.get? b = some o->h'.get? b = some o)->Q () { s with heap:=h',toks:=tk' }) :
  wpAny (model prog w) A (setAttr (.ref x) name v) Q E s:=by
 refine wpAny_bind (wpAny_mkText (wpAny_bind (wpAny_bind (wpAny_bind (typeX hx hc _ _ _ _ (fun _ _ e=>e) (looks_findIn X hs _ _ _ _ (fun _ _ e=>e) (wpAny_holding ?_)))))))
 rw [PySem.F.store_object.slot.bind]
 refine wpAny_bind (wpAny_pure (wpAny_bind (wpAny_call (osaX (s:={ s with toks:=s.toks + 1 }) X hx hc hnc hcl hm hhd ht hd hw hsz fun h' tk' d a1 a2 a3 a4 a5=>?_))))
 exact wpAny_pure (wpAny_pure (hq h' tk' d a1 a2 a3 a4 a5))
end
end L2
set_option Elab.async false
set_option linter.all false
set_option maxRecDepth 100000
set_option maxHeartbeats 4000000
namespace L2
open PySem PySem.Spec PyProof.Rows PySem.W PySem.Calls
noncomputable def initB (sf:Str):List Stmt->List Str->Bool
 | [],[]=>true
 | .Assign [.Attribute (.Name a _) x _] (.Name y _) _::rest,f::fs=>a == sf && x == f && y == f && initB sf rest fs
 | _,_=>false
noncomputable def insAll:List (Str × Value)->(Str->Option Value)->Str->Option Value
 | [],m=>m
 | (f,u)::r,m=>insAll r (fun y=>if y = f then some u else m y)
section
variable {prog:Program} {w:World} {K:PySem.W.Frag} {C e:Addr} {cd:ClassData} {env:Env} {m:Str->Option Value} {A:Around} {E:Value->Shared->Prop} {sf:Str}
theorem zc9 (hk:env.scope.kind = .function) (hself:m sf = some (.ref e)) (hsl:env.scope.names.lookup sf = some .local) (hsd:(sf == ("__debug__" : Str)) = false) (hset:findIn K (.ref C) "__setattr__" = some (some (.builtin "object.__setattr__"))) (hcl:clsIn K C = some cd) (hm:passM cd.mro = true) (hhd:cd.hasDict = true)
  (hKe:∀ b o,K.lookup b = some o->b ≠ e) (hL:env.locals ≠ e):∀ (fs:List Str) (us:List Value) (body:List Stmt) (ox:Obj) (mA:Str->Option Value) (ns:List Str) (s:Shared) (Q:Flow->Shared->Prop),initB sf body fs = true->fs.length = us.length->
  (∀ (i:Nat) f u,fs[i]? = some f->us[i]? = some u->m f = some u)->(∀ f ∈ fs,env.scope.names.lookup f = some .local/\(f == ("__debug__" : Str)) = false/\findIn K (.ref C) f = some none)->
  K.In s.heap->s.heap.Ns env.locals m->s.heap.get? e = some ox->ox.cls = .ref C->(∀ c,ox.data ≠ .cls c)->(∃ dx,ox.dict = some dx/\dx ≠ e/\s.heap.Ns1 dx mA/\dx ≠ env.locals/\∀ b o,K.lookup b = some o->b ≠ dx)->Within mA ns->ns.length + fs.length<=1000->
  (∀ h' tk',h'.get? e = some ox->(∀ dx,ox.dict = some dx->h'.Ns1 dx (insAll (fs.zip us) mA))->(∀ b o,b ≠ e->(∀ dx,ox.dict = some dx->b ≠ dx)->s.heap.get? b = some o->h'.get? b = some o)->Q .next { s with heap:=h',toks:=tk' })->
  wpAny (model prog w) A (execs body env) Q E s
 | [],us,[],ox,mA,ns,s,Q,hb,hl,hv,hf,X,hN,he,hc,hnc,⟨dx,h1,h2,h3,h4,h5⟩,hw,hz,q=>by
  cases us with
  | cons _ _=>cases hl
  | nil=>exact wpAny_execs_nil (q s.heap s.toks he (fun d hd=>by rw [h1] at hd; cases hd; exact h3) fun b o _ _ e=>e)
 | [],us,st::rest,ox,mA,ns,s,Q,hb,_,_,_,_,_,_,_,_,_,_,_,_=>by
  unfold initB at hb
  split at hb
  ·rename_i h _; cases h
  ·rename_i h; cases h
  ·cases hb
 | f::fs,[],body,ox,mA,ns,s,Q,hb,hl,_,_,_,_,_,_,_,_,_,_,_=>by cases hl
 | f::fs,u::us,body,ox,mA,ns,s,Q,hb,hl,hv,hf,X,hN,he,hc,hnc,⟨dx,h1,h2,h3,h4,h5⟩,hw,hz,q=>by
  unfold initB at hb
  split at hb
  ·rename_i h; cases h
  ·rename_i a p1 x p2 y p3 p4 rest f' fs' hfs
   cases hfs
   simp only [Bool.and_eq_true,beq_iff_eq] at hb
   obtain ⟨⟨⟨ea,ex⟩,ey⟩,hb⟩:=hb
   replace ea:=ea.symm
   replace ex:=ex.symm
   replace ey:=ey.symm
   subst ea ex ey
   obtain ⟨k1,k2,k3⟩:=hf _ List.mem_cons_self
   have hu:=hv 0 _ _ rfl rfl
   refine wpAny_execs_cons ?_
   refine plainObj_wpAny_Assign_Attribute ?_ rfl
   refine wpAny_Name (wpAny_loadName_local hk k1 hN hu ?_) k2
   refine wpAny_Name (wpAny_loadName_local hk hsl hN hself ?_) hsd
   refine setX (ns:=ns) X he hc hnc hset hcl hm hhd k3 (.inr ⟨dx,h1,h2,h3⟩) hw (by omega) fun h' tk' d a1 a2 a3 a4 a5=>?_
   have ed:d = dx:=by
    rcases a4 with ⟨z,_⟩ | z
    ·rw [h1] at z; cases z
    ·rw [h1] at z; cases z; rfl
   subst ed
   have eo:({ ox with dict:=some d }:Obj) = ox:=by rw [<- h1]
   rw [eo] at a1
   have X':K.In h':=fun b o z=>a5 b o (hKe b o z) (h5 b o z) (X b o z)
   have hN':h'.Ns env.locals m:=let ⟨o,es,ep,e1,r⟩:=hN; ⟨o,es,ep,a5 _ _ hL h4.symm e1,r⟩
   refine zc9 hk hself hsl hsd hset hcl hm hhd hKe hL fs us rest ox _ (f::ns) { s with heap:=h',toks:=tk' } Q hb (by simpa using hl) (fun i f u e1 e2=>hv (i + 1) f u (by simpa using e1) (by simpa using e2)) (fun f hf'=>hf f (List.mem_cons_of_mem _ hf')) X' hN' a1 hc hnc ⟨d,h1,h2,a3,h4,h5⟩ (Within.cons f u hw) (by simp at hz ⊢; omega) fun h2' tk2 b1 b2 b3=>q h2' tk2 b1 (fun dx' hd'=>?_) fun b o nb nd e'=>b3 b o nb nd (a5 b o nb (nd d h1) e')
   exact b2 dx' hd'
  ·cases hb
theorem zeT (hk:env.scope.kind = .function) (hself:m sf = some (.ref e)) (hsl:env.scope.names.lookup sf = some .local) (hsd:(sf == ("__debug__" : Str)) = false) (hset:findIn K (.ref C) "__setattr__" = some (some (.builtin "object.__setattr__"))) (hcl:clsIn K C = some cd) (hm:passM cd.mro = true) (hhd:cd.hasDict = true)
  (hKe:∀ b o,K.lookup b = some o->b ≠ e) (hL:env.locals ≠ e) {f:Str} {fs:List Str} {u:Value} {us:List Value} {body:List Stmt} {ox:Obj} {s:Shared} {Q:Flow->Shared->Prop} (hb:initB sf body (f::fs) = true) (hl:fs.length = us.length) (hz:fs.length<=900)
  (hv:∀ (i:Nat) g v,(f::fs)[i]? = some g->(u::us)[i]? = some v->m g = some v) (hf:∀ g ∈ f::fs,env.scope.names.lookup g = some .local/\(g == ("__debug__" : Str)) = false/\findIn K (.ref C) g = some none)
  (X:K.In s.heap) (hN:s.heap.Ns env.locals m) (he:s.heap.get? e = some ox) (hc:ox.cls = .ref C) (hnc:∀ c,ox.data ≠ .cls c) (hd:ox.dict = none)
  (q:∀ h' tk' d,s.heap.objs.size<=d->h'.get? e = some { ox with dict:=some d }->h'.Ns1 d (insAll ((f::fs).zip (u::us)) fun _=>none)->(∀ b o,b ≠ e->b ≠ d->s.heap.get? b = some o->h'.get? b = some o)->Q .next { s with heap:=h',toks:=tk' }) :
  wpAny (model prog w) A (execs body env) Q E s:=by
 unfold initB at hb
 split at hb
 ·rename_i h; cases h
 ·rename_i a p1 x p2 y p3 p4 rest f' fs' hfs
  cases hfs
  simp only [Bool.and_eq_true,beq_iff_eq] at hb
  obtain ⟨⟨⟨ea,ex⟩,ey⟩,hb⟩:=hb
  replace ea:=ea.symm
  replace ex:=ex.symm
  replace ey:=ey.symm
  subst ea ex ey
  obtain ⟨k1,k2,k3⟩:=hf _ List.mem_cons_self
  have hu:=hv 0 _ _ rfl rfl
  refine wpAny_execs_cons ?_
  refine plainObj_wpAny_Assign_Attribute ?_ rfl
  refine wpAny_Name (wpAny_loadName_local hk k1 hN hu ?_) k2
  refine wpAny_Name (wpAny_loadName_local hk hsl hN hself ?_) hsd
  refine setX (ns:=[]) (mA:=fun _=>none) X he hc hnc hset hcl hm hhd k3 (.inl ⟨hd,fun _=>rfl⟩) Within.nil (Nat.zero_le _) fun h' tk' d a1 a2 a3 a4 a5=>?_
  have fd:s.heap.objs.size<=d:=by
   rcases a4 with ⟨_,z⟩ | z
   ·exact z
   ·rw [hd] at z; cases z
  have nd:∀ b o,s.heap.get? b = some o->b ≠ d:=fun b o z=>Nat.ne_of_lt (Nat.lt_of_lt_of_le (Heap.lt_size z) fd)
  have X':K.In h':=fun b o z=>a5 b o (hKe b o z) (nd b o (X b o z)) (X b o z)
  have hN':h'.Ns env.locals m:=let ⟨o,es,ep,e1,r⟩:=hN; ⟨o,es,ep,a5 _ _ hL (nd _ _ e1) e1,r⟩
  have nL:d ≠ env.locals:=let ⟨o,es,ep,e1,r⟩:=hN; (nd _ _ e1).symm
  refine zc9 hk hself hsl hsd hset hcl hm hhd hKe hL fs us rest { ox with dict:=some d } _ [f] { s with heap:=h',toks:=tk' } Q hb hl (fun i g v e1 e2=>hv (i + 1) g v (by simpa using e1) (by simpa using e2)) (fun g hg=>hf g (List.mem_cons_of_mem _ hg)) X' hN' a1 hc hnc ⟨d,rfl,a2,a3,nL,fun b o z=>nd b o (X b o z)⟩ (Within.cons f u Within.nil) (by simp; omega) fun h2 tk2 b1 b2 b3=>q h2 tk2 d fd b1 (b2 d rfl) fun b o n1 n2 z=>b3 b o n1 (fun dx hx=>by cases hx; exact n2) (a5 b o n1 n2 z)
 ·cases hb
end
end L2
set_option Elab.async false
set_option linter.all false
set_option maxRecDepth 100000
set_option maxHeartbeats 4000000
namespace PySem
open Sem (wp)
section
variable {prog:Program} {w:World} {A:Around} {E:Value->Shared->Prop} {h:Heap} {g:Array GenState} {d:Drawn} {t:Nat} {os:OsState}
variable {nm q:Str} {C N:Addr} {bs bm bmB:List Value} {hdct:Bool} {sn:List Str} {sub:List Value} {ab:Bool} {col:Option Bool} {dd:Option Addr} {k0 k1 k2 k3 k5:Option Value} {B Bn newId nid initId inN:String} {bmN:List Value}
theorem za5 (Fn:ExcBaseFacts Bn newId inN bmN) (hBn:bmB.contains (.type Bn) = true) (F:ExcBaseFacts B nid initId bmB) (T:OwnTail h bmB bm) {mN:Str->Option Value} {rest:List Value} {fI:Addr} {oI:Obj} {Q:Fin->Shared->Prop}
  (hC:h.get? C = some (excClassObj nm q C N bs bm hdct sn sub ab col dd k0 k1 k2 k3 k5 newId)) (hn:h.Ns N mN) (hi:mN "__init__" = some (.ref fI))
  (hfI:h.get? fI = some oI) (hfc:oI.cls = .type "function")
  (hq:wpAny (model prog w) A (call (.ref fI) (.ref (h.objs.size + 1)::rest)) (fun r s'=>r = .none/\Q (.done (.ret (.ref (h.objs.size + 1)))) s') E
   ⟨(h.push { cls:=.type "tuple",data:=.seq rest.toArray }).push { cls:=.ref C,data:=.fields #[.ref h.objs.size,.none,.none,.none,.bool false,.none] },g,d,t,os⟩) (hrest:rest.length<=sizeLine:=by size_fits) :
  wpAny (model prog w) A (Builtin.«type.__call__» ⟨.ref C::rest,[]⟩) Q E ⟨h,g,d,t,os⟩:=by
 repeat (first | with_reducible refine wpAny_loadPart_at hC ?_ | with_reducible refine wpAny_madeBy_exc hC ?_ | wp_step)
 refine codeAny_call_builtin_code (Code.quiet_builtin _ Fn.quiet) (wpAny_check_new_subU Fn hBn T hC ?_)
 refine codeAny_exc_new_subU Fn hBn F T hC ?_ hrest
 show wpAny _ _ _ _ _ _
 have hC₁:=Heap.get?_push_of_some { cls:=.ref C,data:=.fields #[.ref h.objs.size,.none,.none,.none,.bool false,.none] }
  (Heap.get?_push_of_some { cls:=.type "tuple",data:=.seq rest.toArray } hC)
 have hfI₁:=Heap.get?_push_of_some { cls:=.ref C,data:=.fields #[.ref h.objs.size,.none,.none,.none,.bool false,.none] }
  (Heap.get?_push_of_some { cls:=.type "tuple",data:=.seq rest.toArray } hfI)
 have hn₁:((h.push { cls:=.type "tuple",data:=.seq rest.toArray }).push { cls:=.ref C,data:=.fields #[.ref h.objs.size,.none,.none,.none,.bool false,.none] }).Ns N mN:=
  let ⟨o,es,ep,e,r⟩:=hn; ⟨o,es,ep,Heap.get?_push_of_some _ (Heap.get?_push_of_some _ e),r⟩
 have hget:((h.push { cls:=.type "tuple",data:=.seq rest.toArray }).push
   { cls:=.ref C,data:=.fields #[.ref h.objs.size,.none,.none,.none,.bool false,.none] }).get? (h.objs.size + 1) = some
   { cls:=.ref C,data:=.fields #[.ref h.objs.size,.none,.none,.none,.bool false,.none] }:=by heap_get
 have hcC:(Value.ref C::bm).contains (.ref C) = true:=by simp
 have T₁:=T.keeps (h':=(h.push { cls:=.type "tuple",data:=.seq rest.toArray }).push { cls:=.ref C,data:=.fields #[.ref h.objs.size,.none,.none,.none,.bool false,.none] })
  fun b o e=>Heap.get?_push_of_some _ (Heap.get?_push_of_some _ e)
 unfold isInstance
 repeat (first | with_reducible refine wpAny_loadPart_at hget ?_ | (with_reducible refine wpAny_isSubtype_exc hC₁ ?_; rw [hcC]) | wp_step)
 show wpAny _ _ (typeLookup (.ref C) _) _ _ _
 refine wpAny_typeLookup_tail hC₁ hn₁ T₁ F.mroIs F.init.lookup ?_
 rw [hi]
 refine wpAny_holding (wpAny_bind ?_)
 unfold bindSpecial
 refine wpAny_bind (wpAny_typeOf (T:="function") ⟨_,hfI₁,hfc⟩ ?_)
 rw [if_pos (by decide)]
 refine wpAny_pure (wpAny_bind (wpAny_mono hq (fun r s' hr=>?_) fun _ _ x=>x))
 obtain ⟨rfl,hQ⟩:=hr
 wp_walk
 exact hQ
theorem zbw (Fn:ExcBaseFacts Bn newId inN bmN) (hBn:bmB.contains (.type Bn) = true) (F:ExcBaseFacts B nid initId bmB) (T:OwnTail h bmB bm) {mN:Str->Option Value} {rest:List Value} {fI:Addr} {oI:Obj} {Q:Value->Shared->Prop}
  (hC:h.get? C = some (excClassObj nm q C N bs bm hdct sn sub ab col dd k0 k1 k2 k3 k5 newId)) (hn:h.Ns N mN) (hi:mN "__init__" = some (.ref fI))
  (hfI:h.get? fI = some oI) (hfc:oI.cls = .type "function")
  (hq:wpAny (model prog w) (A.under (.builtin "type.__call__" ⟨.ref C::rest,[]⟩)) (call (.ref fI) (.ref (h.objs.size + 1)::rest)) (fun r s'=>r = .none/\Q (.ref (h.objs.size + 1)) s') E
   ⟨(h.push { cls:=.type "tuple",data:=.seq rest.toArray }).push { cls:=.ref C,data:=.fields #[.ref h.objs.size,.none,.none,.none,.bool false,.none] },g,d,t,os⟩) (hrest:rest.length<=sizeLine:=by size_fits) :
  wpAny (model prog w) A (call (.ref C) rest) Q E ⟨h,g,d,t,os⟩:=by
 have f1:=tc_lookup
 have f2:=tc_bind (.ref C)
 have hT:(⟨h,g,d,t,os⟩ : Shared).TypeIs (.ref C) "type":=⟨_,hC,rfl⟩
 refine wpAny_call (codeAny_of_tree ?_)
 show wpAny _ _ (callAny (.ref C) _) _ _ _
 repeat (any_goals (first | assumption | with_reducible refine wpAny_loadPart_at hC ?_ | wp_step))
 refine ⟨rfl,?_⟩
 refine codeAny_call_builtin_at (Code.quiet_builtin _ (by decide +kernel)) entry_typeCall (wpAny_check_type_call_sub hC (za5 (hrest:=hrest) Fn hBn F T hC hn hi hfI hfc ?_))
 exact hq
end
section
variable {prog:Program} {w:World} {A:Around} {E:Value->Shared->Prop} {s:Shared} {env:Env}
variable {nm q:Str} {C N:Addr} {bs bm bmB:List Value} {hdct:Bool} {sn:List Str} {sub:List Value} {ab:Bool} {col:Option Bool} {dd:Option Addr} {k0 k1 k2 k3 k5:Option Value} {B Bn newId nid initId inN:String} {bmN:List Value}
theorem zaF {M:Model} {x:Sem Value} {Q:Flow->Shared->Prop} (hbase:bm.contains (.type "BaseException") = true) (hh:A.handled = none)
  (h:wpAny M A x (fun v s₁=>∃ e t dx,v = .ref e/\s₁.heap.get? C = some (excClassObj nm q C N bs bm hdct sn sub ab col dd k0 k1 k2 k3 k5 newId) /\
   s₁.heap.get? e = some { cls:=.ref C,dict:=dx,data:=.fields #[.ref t,.none,.none,.none,.bool false,.none] }/\E (.ref e) s₁) E s) :
  wpAny M A (raiseStmt env (some x) none) Q E s:=by
 have hcB:(Value.ref C::bm).contains (.type "BaseException") = true:=by rw [List.contains_cons,hbase,Bool.or_true]
 unfold raiseStmt
 refine wpAny_bind (wpAny_mono h (fun v s₁ h₁=>?_) fun _ _ x=>x)
 obtain ⟨e,t,dx,rfl,hC,he,hE⟩:=h₁
 obtain ⟨hp,g,d,tk,os⟩:=s₁
 repeat (first | with_reducible refine wpAny_loadPart_at he ?_ | with_reducible refine wpAny_loadPart_at hC ?_ | (with_reducible refine wpAny_isSubtype_exc hC ?_; rw [hcB]) | wp_step)
 exact wpAny_raiseNew_none hh hE
theorem zbn (Fn:ExcBaseFacts Bn newId inN bmN) (hBn:bmB.contains (.type Bn) = true) (F:ExcBaseFacts B nid initId bmB) {mN:Str->Option Value} {fI:Addr} {oI:Obj} {x:Str} {np cpos pos:Pos} {args:List Expr} {Q:Flow->Shared->Prop}
  (hbase:bm.contains (.type "BaseException") = true) (hh:A.handled = none) (hplain:(backTo cpos (starEach args env)).any (·.1) = false) (hi:mN "__init__" = some (.ref fI)) (hfc:oI.cls = .type "function")
  (h:wpAny (model prog w) A (eval (.Name x np) env) (fun f s₁=>f = .ref C/\wpAny (model prog w) A (evalArgs (.ref C) true (backTo cpos (starEach args env)) [])
   (fun a s₂=>a.kw = []/\a.pos.length<=sizeLine/\s₂.heap.get? C = some (excClassObj nm q C N bs bm hdct sn sub ab col dd k0 k1 k2 k3 k5 newId)/\s₂.heap.Ns N mN/\OwnTail s₂.heap bmB bm/\s₂.heap.get? fI = some oI /\
    wpAny (model prog w) (A.under (.builtin "type.__call__" ⟨.ref C::a.pos,[]⟩)) (call (.ref fI) (.ref (s₂.heap.objs.size + 1)::a.pos)) (fun r s'=>r = .none/\(∃ dx t0,s'.heap.get? (s₂.heap.objs.size + 1) = some { cls:=.ref C,dict:=dx,data:=.fields #[.ref t0,.none,.none,.none,.bool false,.none] })/\s'.heap.get? C = some (excClassObj nm q C N bs bm hdct sn sub ab col dd k0 k1 k2 k3 k5 newId)/\E (.ref (s₂.heap.objs.size + 1)) s') E
     { s₂ with heap:=(s₂.heap.push { cls:=.type "tuple",data:=.seq a.pos.toArray }).push { cls:=.ref C,data:=.fields #[.ref s₂.heap.objs.size,.none,.none,.none,.bool false,.none] } }) E s₁) E s) :
  wpAny (model prog w) A (exec (.Raise (some (.Call (.Name x np) args [] cpos)) none pos) env) Q E s:=by
 rw [arm_exec_Raise]
 first
  | refine wpAny_bind (wpAny_standAt (zaF (C:=C) (nm:=nm) (q:=q) (N:=N) (bs:=bs) (bm:=bm) (hdct:=hdct) (sn:=sn) (sub:=sub) (ab:=ab) (col:=col) (dd:=dd) (k0:=k0) (k1:=k1) (k2:=k2) (k3:=k3) (k5:=k5) (newId:=newId) hbase hh (wpAny_bind (wpAny_mono (wpAny_Call_ofName (wpAny_mono h (fun f s₁ h₁=>?_) fun _ _ x=>x)) (fun v s₃ h₃=>wpAny_bind (wpAny_standAt (wpAny_pure h₃))) fun _ _ x=>x))))
  | (simp only [evalOpt,Option.map]; refine wpAny_bind (wpAny_standAt (zaF (C:=C) (nm:=nm) (q:=q) (N:=N) (bs:=bs) (bm:=bm) (hdct:=hdct) (sn:=sn) (sub:=sub) (ab:=ab) (col:=col) (dd:=dd) (k0:=k0) (k1:=k1) (k2:=k2) (k3:=k3) (k5:=k5) (newId:=newId) hbase hh (wpAny_bind (wpAny_mono (wpAny_Call_ofName (wpAny_mono h (fun f s₁ h₁=>?_) fun _ _ x=>x)) (fun v s₃ h₃=>wpAny_bind (wpAny_standAt (wpAny_pure h₃))) fun _ _ x=>x)))))
  | (refine wpAny_bind (wpAny_standAt (zaF (C:=C) (nm:=nm) (q:=q) (N:=N) (bs:=bs) (bm:=bm) (hdct:=hdct) (sn:=sn) (sub:=sub) (ab:=ab) (col:=col) (dd:=dd) (k0:=k0) (k1:=k1) (k2:=k2) (k3:=k3) (k5:=k5) (newId:=newId) hbase hh ?_)); refine wpAny_bind (wpAny_mono (wpAny_Call_ofName (wpAny_mono h (fun f s₁ h₁=>?_) fun _ _ x=>x)) (fun v s₃ h₃=>wpAny_bind (wpAny_standAt (wpAny_pure h₃))) fun _ _ x=>x))
 obtain ⟨rfl,h₁⟩:=h₁
 unfold callWith
 refine wpAny_bind (wpAny_holding (wpAny_mono h₁ (fun a s₂ h₂=>wpAny_bind (wpAny_standAt ?_)) fun _ _ x=>x))
 obtain ⟨apos,akw⟩:=a
 obtain ⟨hkw,hlen,hC,hn,T,hfI,h₂⟩:=h₂
 obtain rfl:akw = []:=hkw
 obtain ⟨hp,g,d,tk,os⟩:=s₂
 simp only [hplain]
 refine wpAny_bind (wpAny_keeperOf_exc hC ?_)
 refine wpAny_bind (zbw (hrest:=hlen) Fn hBn F T hC hn hi hfI hfc (wpAny_mono h₂ (fun r s' hr=>?_) fun _ _ x=>x))
 obtain ⟨rfl,⟨dx,t0,ht⟩,hC',hE⟩:=hr
 exact ⟨rfl,wpAny_bind (wpAny_holding (wpAny_point (wpAny_pure ⟨_,t0,dx,rfl,hC',ht,hE⟩)))⟩
end
end PySem
set_option Elab.async false
set_option linter.all false
set_option maxRecDepth 100000
set_option maxHeartbeats 4000000
namespace L2
open PySem PySem.Spec PyProof.Rows PySem.W PySem.Calls
theorem zbW {α:Type}:∀ {l:List (Str × α)} {f:Str} {u:α},(l.map (·.1)).Nodup->(f,u) ∈ l->l.lookup f = some u
 | (g,v)::r,f,u,hn,hm=>by
  rw [List.map_cons,List.nodup_cons] at hn
  rw [List.lookup_cons]
  rcases List.mem_cons.mp hm with e | hm
  ·cases e; simp
  ·have:f ≠ g:=fun z=>hn.1 (by rw [<- z]; exact List.mem_map.mpr ⟨(f,u),hm,rfl⟩)
   rw [show (f == g) = false by simpa using this]
   exact zbW hn.2 hm
theorem zi9 {α:Type} {fs:List Str} {us:List α} {i:Nat} {f:Str} {u:α} (h1:fs[i]? = some f) (h2:us[i]? = some u):(f,u) ∈ fs.zip us:=by
 refine List.mem_of_getElem? (i:=i) ?_
 exact (List.getElem?_zip_eq_some (z:=(f,u))).mpr ⟨h1,h2⟩
theorem zfE {α:Type} {fs:List Str} {us:List α} (h:fs.length = us.length):(fs.zip us).map (·.1) = fs:=by
 rw [List.map_fst_zip]
 omega
theorem zfX {α:Type} {fs:List Str} {us:List α} (hn:fs.Nodup) (hl:fs.length = us.length) {i:Nat} {f:Str} {u:α} (h1:fs[i]? = some f) (h2:us[i]? = some u):(fs.zip us).reverse.lookup f = some u:=by
 refine zbW ?_ (List.mem_reverse.mpr (zi9 h1 h2))
 rw [List.map_reverse,zfE hl,List.Nodup,List.pairwise_reverse]
 exact List.Pairwise.imp (fun h=>h.symm) hn
theorem zei:∀ {l:List (Str × Value)} {m:Str->Option Value} {f:Str},(l.map (·.1)).Nodup->insAll l m f = match l.lookup f with | some u=>some u | none=>m f
 | [],m,f,_=>rfl
 | (g,v)::r,m,f,hn=>by
  rw [List.map_cons,List.nodup_cons] at hn
  unfold insAll
  rw [zei hn.2,List.lookup_cons]
  by_cases e:f = g
  ·subst e
   have:r.lookup f = none:=by
    cases z:r.lookup f with
    | none=>rfl
    | some u=>
     exfalso
     apply hn.1
     clear hn
     induction r with
     | nil=>cases z
     | cons p r ih=>
      rw [List.lookup_cons] at z
      by_cases e:f = p.1
      ·rw [e]; exact List.mem_cons_self
      ·rw [show (f == p.1) = false by simpa using e] at z
       exact List.mem_cons_of_mem _ (ih z)
   rw [this]
   simp
  ·rw [show (f == g) = false by simpa using e,if_neg e]
theorem zis {fs:List Str}:∀ {vs:List V} {us:List Value},Vals vs us->∀ f,RelO ((fs.zip vs).lookup f) ((fs.zip us).lookup f):=by
 induction fs with
 | nil=>intro vs us _ f; exact trivial
 | cons g r ih=>
  intro vs us h f
  cases h with
  | nil=>exact trivial
  | cons h t=>
   rw [List.zip_cons_cons,List.zip_cons_cons,List.lookup_cons,List.lookup_cons]
   by_cases e:f = g
   ·rw [show (f == g) = true by simpa using e]
    exact h
   ·rw [show (f == g) = false by simpa using e]
    exact ih t f
theorem zif {K:Frag} {h:Heap} {C fI:Addr} (XI:K.In h) (q:excInI K C fI = true) :
  ∃ bm N nm qn bs hdct sn sub ab col dd k0 k1 k2 k3 k5 mN,h.get? C = some (excClassObj nm qn C N bs bm hdct sn sub ab col dd k0 k1 k2 k3 k5 "ValueError.__new__")/\h.Ns N mN/\mN "__init__" = some (.ref fI)/\OwnTail h vErr bm:=by
 unfold excInI at q
 split at q
 ·rename_i dd cd sl lk
  split at q
  ·rename_i C' bm k0 k1 k2 k3 nw k5 em es
   simp only [Bool.and_eq_true,beq_iff_eq,Bool.not_eq_true'] at q
   obtain ⟨⟨⟨⟨⟨rfl,rfl⟩,nodel⟩,tl⟩,nok⟩,noi⟩:=q
   obtain ⟨nm,bs,mro,ns,qn,hd,sn,sub,ab,col,del⟩:=cd
   dsimp only at em nodel nok noi
   subst em nodel
   have esl:sl = #[k0,k1,k2,k3,some (.builtin "ValueError.__new__"),k5]:=by
    obtain ⟨ll⟩:=sl
    simp only at es
    rw [es]
   subst esl
   have hNs:h.Ns ns (h.nsMap ns):=.of_isNs (isNs_of_in XI nok)
   refine ⟨bm,ns,nm,qn,bs,hd,sn,sub,ab,col,dd,k0,k1,k2,k3,k5,_,XI _ _ lk,hNs,?_,tail_of_in XI tl⟩
   exact ns_some_of XI hNs noi
  ·cases q
 ·cases q
where
 ns_some_of {K:Frag} {h:Heap} {N:Addr} {x:Str} {v:Value} {m:Str->Option Value} (X:K.In h) (G:h.Ns N m) (e:nsIn K N x = some (some v)):m x = some v:=by
  obtain ⟨o,es,ep,ho,hd,_,hf⟩:=G
  unfold nsIn at e
  split at e
  ·rename_i c d es' n' sl q
   have:=X _ _ q
   rw [ho] at this
   cases this
   cases hd
   rw [<- hf x]
   split at e
   ·rename_i z
    cases e
    unfold nsFind findBy
    rw [<- Array.find?_toList,z]
    rfl
   ·split at e <;> cases e
  ·cases e
structure InitOk (K:Frag) (C:Addr) (ar:Arguments) (bd:List Stmt) (sc:Scope) (fs:List Str):Prop where
 ex:∃ (fI:Addr) (od:Option Addr) (kV doc pm:Value) (an:Option Addr) (cdv ct:Value) (osl:Array (Option Value)) (qual:Str) (cd:ClassData),
  K.lookup fI = some ⟨.type "function",od,.func (fnOf "__init__" qual ar bd sc .none kV doc pm an cdv ct),osl⟩/\codeIn K cdv qual = true/\excInI K C fI = true/\clsIn K C = some cd/\passM cd.mro = true/\cd.hasDict = true /\
  (∀ us:List Value,us.length = fs.length + 1->bindArgs (fnOf "__init__" qual ar bd sc .none kV doc pm an cdv ct) ⟨us,[]⟩ = pure ((("self" : Str)::fs).zip us))
 set:findIn K (.ref C) "__setattr__" = some (some (.builtin "object.__setattr__"))
 nd:("self"::fs:List Str).Nodup
 ne:fs ≠ []
 few:fs.length<=900
 body:initB "self" bd fs = true
 nocell:∀ x ∈ sc.names,x.2 ≠ .cell
 loc:∀ f ∈ ("self"::fs:List Str),sc.names.lookup f = some .local/\(f == ("__debug__" : Str)) = false
 fld:∀ f ∈ fs,findIn K (.ref C) f = some none
 co:sc.isCoroutine = false
 gen:sc.isGenerator = false
 kind:sc.kind = .function
section
variable {X:Cx} {EX:XS} {C:Addr} {ar:Arguments} {bd:List Stmt} {sc:Scope} {fs:List Str} {t:TA} {x:Str} {p apos pos:Pos} {e:Expr} {es:List Expr}
noncomputable def tRaiseI (EX:XS) (C:Addr) (fs:List Str) (t:TA):TS:=fun _ σ H=>t σ H fun vs H1=>vs.length = fs.length/\vs.length<=sizeLine/\∀ d,H1 d = none->EX σ (.ref C) (some d) (upd H1 d (.xd (fs.zip vs)))
theorem zf6 {k:Nat} (hr:Room k X.A) (hc:X.calm = true) (IO:InitOk X.K C ar bd sc fs) (hg:Gl X x) (hm:X.mg x = some (.ref C))
  (R:Raises X EX) (ha:PA X (e::es) t) (hdb:(x == ("__debug__" : Str)) = false:=by decide) (he:starEach (e::es) X.env = (false,eval e X.env)::starEach es X.env:=by rfl) (hpl:(backTo apos (starEach es X.env)).any (·.1) = false:=by rfl) :
  PS X (.Raise (some (.Call (.Name x p) (e::es) [] apos)) none pos) (tRaiseI EX C fs t):=by
 intro pins s σ H D I h
 obtain ⟨fI,od,kV,doc,pm,an,cdv,ct,osl,qual,cd,lk,hcd,hX,hcl,hmro,hhd,hbind⟩:=IO.ex
 obtain ⟨bm,N,nm,qn,bs,hdct,sn,sub,ab,col,dd,k0,k1,k2,k3,k5,mN,hC,hN,hni,T⟩:=zif I.mod.kin hX
 refine zbn (C:=C) (nm:=nm) (q:=qn) (N:=N) (bs:=bs) (bm:=bm) (hdct:=hdct) (sn:=sn) (sub:=sub) (ab:=ab) (col:=col) (dd:=dd) (k0:=k0) (k1:=k1) (k2:=k2) (k3:=k3) (k5:=k5) (bmB:=vErr)
  PySem.F.excBase_ValueError (by decide +kernel) PySem.F.excBase_ValueError (mN:=mN) (fI:=fI) (T.hasType PySem.F.excBase_ValueError.hasBase) (I.ok.hd hc) (by rw [he]; show (false || (backTo apos (starEach es X.env)).any (·.1)) = false; rw [hpl]; rfl) hni (oI:=⟨.type "function",od,.func (fnOf "__init__" qual ar bd sc .none kV doc pm an cdv ct),osl⟩) rfl (zeW I hg hm ⟨rfl,?_⟩ hdb)
 have h2:=ha apos pins s σ H _ I h
 rw [he] at h2 ⊢
 refine Calls.evalArgs_plain (thn h2 fun us s2 ⟨vs,H2,I2,r,hl,z,q⟩=>⟨rfl,by rw [<- r.length]; exact z,I2.bk _ _ hC,hN.keeps I2.bk,T.keeps I2.bk,I2.kIn _ _ lk,?_⟩)
 have hlu:us.length = fs.length:=by rw [<- r.length]; exact hl
 dsimp only
 generalize hS:({ s2 with heap:=(s2.heap.push { cls:=.type "tuple",data:=.seq us.toArray }).push { cls:=.ref C,data:=.fields #[.ref s2.heap.objs.size,.none,.none,.none,.bool false,.none] } }:Shared) = s3
 have hsz3:s3.heap.objs.size = s2.heap.objs.size + 2:=by rw [<- hS]; simp [Heap.size_push]
 have keep3:∀ b o,s2.heap.get? b = some o->s3.heap.get? b = some o:=fun b o q=>by rw [<- hS]; exact Heap.get?_push_of_some _ (Heap.get?_push_of_some _ q)
 have he3:s3.heap.get? (s2.heap.objs.size + 1) = some { cls:=.ref C,data:=.fields #[.ref s2.heap.objs.size,.none,.none,.none,.bool false,.none] }:=by
  rw [<- hS]
  have:=Heap.get?_push_size (s2.heap.push { cls:=.type "tuple",data:=.seq us.toArray }) (o:={ cls:=.ref C,data:=.fields #[.ref s2.heap.objs.size,.none,.none,.none,.bool false,.none] }) rfl
  rw [Heap.size_push] at this
  exact this
 have KX3:X.K.In s3.heap:=I2.kIn.keeps keep3
 have lim3:s3.heap.NoLimit:=I2.nolimit.keeps keep3
 have nK:∀ b o,X.K.lookup b = some o->b ≠ s2.heap.objs.size + 1:=fun b o q=>Nat.ne_of_lt (Nat.lt_succ_of_lt (Heap.lt_size (I2.kIn b o q)))
 have hlen:("self"::fs:List Str).length = (Value.ref (s2.heap.objs.size + 1)::us).length:=by simp [hlu]
 refine wpAny_call (codeAny_call_def (fd:=fnOf "__init__" qual ar bd sc .none kV doc pm an cdv ct) (binds:=(("self" : Str)::fs).zip (Value.ref (s2.heap.objs.size + 1)::us)) (by have:=hr.dp; show X.A.depth + (Code.builtin "type.__call__" { pos:=Value.ref C::us }).weight < recursionLimit; have w:(Code.builtin "type.__call__" { pos:=Value.ref C::us }).weight<=1:=(by show (Code.builtin "type.__call__" { pos:=Value.ref C::us }).weight<=1; first | exact Nat.le_refl _ | exact Nat.zero_le _ | exact Nat.le_of_ble_eq_true (by kernel_rfl) | (simp [Code.weight,Code.frames,Code.isGuard,Code.isCaller])); omega) (KX3 _ _ lk) rfl lim3 (codeRec_of KX3 hcd) rfl
  (.of_eq (hbind _ (by simp [hlu]))) IO.nocell (fun y hy=>(IO.loc y.1 (List.of_mem_zip hy).1).1) (fun h₀ hns hk0=>?_) IO.co IO.gen IO.kind)
 obtain ⟨f0,fr,rfl⟩ : ∃ f0 fr,fs = f0::fr:=by
  cases hfs:fs with
  | nil=>exact absurd hfs IO.ne
  | cons a b=>exact ⟨a,b,rfl⟩
 obtain ⟨u0,ur,rfl⟩ : ∃ u0 ur,us = u0::ur:=by
  cases hus:us with
  | nil=>rw [hus] at hlu; cases hlu
  | cons a b=>exact ⟨a,b,rfl⟩
 have get:∀ (i:Nat) g v,("self"::f0::fr:List Str)[i]? = some g->(Value.ref (s2.heap.objs.size + 1)::u0::ur)[i]? = some v->((("self" : Str)::f0::fr).zip (Value.ref (s2.heap.objs.size + 1)::u0::ur)).reverse.lookup g = some v:=fun i g v e1 e2=>zfX IO.nd hlen e1 e2
 refine zeT (K:=X.K) (C:=C) (cd:=cd) (sf:="self") (e:=s2.heap.objs.size + 1) (m:=fun x=>((("self" : Str)::f0::fr).zip (Value.ref (s2.heap.objs.size + 1)::u0::ur)).reverse.lookup x) (fs:=fr) (us:=ur) (ox:={ cls:=.ref C,data:=.fields #[.ref s2.heap.objs.size,.none,.none,.none,.bool false,.none] })
  IO.kind (get 0 _ _ rfl rfl) (IO.loc _ List.mem_cons_self).1 (IO.loc _ List.mem_cons_self).2 IO.set hcl hmro hhd nK (Nat.ne_of_gt (by show _ < s3.heap.objs.size; rw [hsz3]; omega)) IO.body (by simpa using hlu.symm) (by have:=IO.few; simp at this; omega)
  (fun i g v e1 e2=>get (i + 1) g v (by simpa using e1) (by simpa using e2)) (fun g hg=>⟨(IO.loc g (List.mem_cons_of_mem _ hg)).1,(IO.loc g (List.mem_cons_of_mem _ hg)).2,IO.fld g hg⟩)
  (KX3.keeps hk0) hns (hk0 _ _ he3) rfl (fun c z=>by cases z) rfl fun h' tk' d hd a1 a2 a3=>?_
 have hd3:s3.heap.objs.size<=d:=by
  refine Nat.le_trans ?_ hd
  by_cases z:h₀.objs.size < s3.heap.objs.size
  ·exfalso
   have e1:=hns.lt
   exact absurd (Nat.lt_trans e1 z) (Nat.lt_irrefl _)
  ·exact Nat.le_of_not_lt z
 have keepAll:∀ b o,s2.heap.get? b = some o->h'.get? b = some o:=fun b o q=>a3 b o (Nat.ne_of_lt (Nat.lt_succ_of_lt (Heap.lt_size q))) (Nat.ne_of_lt (Nat.lt_of_lt_of_le (Heap.lt_size q) (by rw [hsz3] at hd3; omega))) (hk0 _ _ (keep3 _ _ q))
 have hne:d ≠ s2.heap.objs.size + 1:=by omega
 have und:H2 d = none:=I2.hok.fresh (by omega)
 refine ⟨rfl,⟨some d,_,a1⟩,keepAll _ _ (I2.bk _ _ hC),?_⟩
 have new:ObjOk X.prog X.w (upd H2 d (.xd ((f0::fr).zip vs))) h' d (.xd ((f0::fr).zip vs)):=⟨_,a2,fun f=>by
  rw [zei (by rw [zfE hlu.symm]; exact (List.nodup_cons.mp IO.nd).2)]
  have:=zis (fs:=f0::fr) r f
  revert this
  cases ((f0::fr).zip (u0::ur)).lookup f <;> exact id⟩
 have I3:Inv X pins σ (upd H2 d (.xd ((f0::fr).zip vs))) { s3 with heap:=h',toks:=tk' }:=by
  have:=I2.laid (t':=tk') keepAll (by omega) new
  rw [<- hS]
  exact this
 have une:upd H2 d (.xd ((f0::fr).zip vs)) (s2.heap.objs.size + 1) = none:=by
  rw [zap (Ne.symm hne)]
  exact I2.hok.fresh (Nat.le_succ _)
 refine R pins σ _ _ s2.heap (s2.heap.objs.size + 1) C (some d) I3 (fun b ob z n=>I2.base.there b ob z n) (fun q hq=>⟨q.2,(I2.pin q hq).1⟩) (fun b ob z=>⟨ob,keepAll b ob z⟩) ⟨Heap.get?_none_of_le (Nat.le_succ _),une,_,_,_,a1,rfl,rfl,rfl,rfl,.inl rfl⟩ (q d und)
end
end L2
set_option Elab.async false
set_option linter.all false
set_option maxRecDepth 100000
set_option maxHeartbeats 4000000
namespace L2
open PySem PySem.Spec PyProof.Rows PySem.W PySem.Calls
section
variable {prog:Program} {w:World} {A:Around} {E:Value->Shared->Prop} {s:Shared} {K:Frag} {x C:Addr} {ox:Obj} {od:Option Obj} {name:Str}
end
structure XF (K:Frag) (C:Addr) (f:Str):Prop where
 ga:findIn K (.ref C) "__getattribute__" = some (some (.builtin "BaseException.__getattribute__"))
 gn:findIn K (.ref C) "__getattr__" = some none
 mb:mroIn K C (.type "BaseException") = some true
 no:findIn K (.ref C) f = some none
 hd:hasDictIn K C = true
section
variable {X:Cx} {e:Expr} {f:Str} {pos:Pos} {ta:TE}
end
end L2
set_option Elab.async false
set_option linter.all false
set_option maxRecDepth 100000
set_option maxHeartbeats 4000000
namespace L2
open PySem PySem.Spec PyProof.Rows
section
variable {X:Cx} {pins:List (Addr × Obj)} {σ:St} {H:Hp} {s:Shared} {h':Heap}
theorem Inv.turnedNew {t':Nat} {ch:List Addr} {a:Addr} {o:HO} (I:Inv X pins σ H s) (k:∀ b u,b ∉ ch->s.heap.get? b = some u->h'.get? b = some u) (hf:∀ b ∈ ch,FpOk X pins H b) (ha:s.heap.objs.size<=a) (new:ObjOk X.prog X.w (upd H a o) h' a o) :
  Inv X pins σ (upd H a o) { s with heap:=h',toks:=t' }:=by
 have nit:∀ b u,H b = some u->b ∉ ch:=fun b u e z=>by rw [(hf b z).1] at e; cases e
 have hn:H a = none:=I.hok.fresh ha
 have na:∀ b u,H b = some u->b ≠ a:=fun b u e z=>by rw [z,hn] at e; cases e
 have la:∀ b u,s.heap.get? b = some u->b ≠ a:=fun b u e=>Nat.ne_of_lt (Nat.lt_of_lt_of_le (Heap.lt_size e) ha)
 refine I.step (g':=s.gens) (d':=s.drawn) (ch:=ch) (fun b hb=>?_) (fun b o _ _ hc e _=>k b o hc e) (fun b o _ _ hc e _=>⟨o.slots,k b o hc e⟩) (fun b o' _ e n=>by rw [zap (la b o' e)]; exact n)
  (fun b o hc e=>⟨o,k b o hc e⟩) (fun b xs e=>by rw [zap (na b _ e)]; exact e) (fun b o u e=>by rw [zap (na b _ e)]; exact e) (fun b ps e=>⟨#[],by rw [zap (na b _ e),e]; simp⟩) (fun m hm=>?_) (fun b u e=>?_) I.bare
 ·obtain ⟨f0,f1,f2,f3,f4,f5⟩:=hf b hb
  exact ⟨f3.imp id fun z=>Heap.get?_none_of_le z,f1,f4,f5⟩
 ·obtain ⟨o,es,ep,ho,r⟩:=hm
  exact ⟨o,es,ep,k _ o (fun z=>(hf _ z).2.1 rfl) ho,r⟩
 ·by_cases z:b = a
  ·subst z
   rw [zas] at e
   cases e
   exact new
  ·rw [zap z] at e
   refine (I.hok b u e).stay (fun c v hc q=>k c v ?_ q) (fun c q=>by rw [zap (na c _ q)]; exact q) fun c _ q=>by rw [zap (na c _ q)]; exact q
   rcases hc with y | y
   ·rw [y]; exact nit b u e
   ·exact nit c _ y
theorem Inv.turnedL {t':Nat} {ch:List Addr} (I:Inv X pins σ H s) (k:∀ b u,b ∉ ch->s.heap.get? b = some u->h'.get? b = some u) (hf:∀ b ∈ ch,FpOk X pins H b):Inv X pins σ H { s with heap:=h',toks:=t' }:=by
 have nit:∀ b u,H b = some u->b ∉ ch:=fun b u e z=>by rw [(hf b z).1] at e; cases e
 refine I.step (g':=s.gens) (d':=s.drawn) (ch:=ch) (fun b hb=>?_) (fun b o _ _ hc e _=>k b o hc e) (fun b o _ _ hc e _=>⟨o.slots,k b o hc e⟩) (fun _ _ _ _ n=>n)
  (fun b o hc e=>⟨o,k b o hc e⟩) (fun _ _ e=>e) (fun _ _ _ e=>e) (fun b ps e=>⟨#[],by rw [e]; simp⟩) (fun m hm=>?_) (fun b u e=>?_) I.bare
 ·obtain ⟨f0,f1,f2,f3,f4,f5⟩:=hf b hb
  exact ⟨f3.imp id fun z=>Heap.get?_none_of_le z,f1,f4,f5⟩
 ·obtain ⟨o,es,ep,ho,r⟩:=hm
  exact ⟨o,es,ep,k _ o (fun z=>(hf _ z).2.1 rfl) ho,r⟩
 ·refine (I.hok b u e).stay (fun c v hc q=>k c v ?_ q) (fun _ q=>q) fun _ _ q=>q
  rcases hc with y | y
  ·rw [y]; exact nit b u e
  ·exact nit c _ y
end
section
variable {X:Cx}
end
end L2
set_option Elab.async false
set_option linter.all false
set_option maxRecDepth 100000
set_option maxHeartbeats 4000000
namespace L2
open PySem PySem.Spec PyProof.Rows
structure Nxt (prog:Program) (w:World) (it src:Addr) (st:Nat->Heap->Prop) (its:Array Value):Prop where
 item:∀ (A:Around) (E:Value->Shared->Prop) (s:Shared) (i:Nat) (x:Value) (Q:Value->Shared->Prop),st i s.heap->its[i]? = some x->(∀ h',st (i + 1) h'->Heap.SameBut it s.heap h'->Q x { s with heap:=h' })->wpAny (model prog w) A (Builtin.SmallTypes.nextOf (.ref it)) Q E s
 fin:∀ (A:Around) (E:Value->Shared->Prop) (s:Shared) (i:Nat) (Q:Value->Shared->Prop),A.handled = none->st i s.heap->its[i]? = none->(∀ h' e,Heap.ExtBut it s.heap h'->(∃ o,h'.get? e = some o/\o.cls = .type "StopIteration")->E (.ref e) { s with heap:=h' })->wpAny (model prog w) A (Builtin.SmallTypes.nextOf (.ref it)) Q E s
 keep:∀ i h h',st i h->(∀ b o,b = it\/b = src->h.get? b = some o->h'.get? b = some o)->st i h'
theorem Nxt.list {prog:Program} {w:World} {it l:Addr} {its:Array Value} (hne:l ≠ it):Nxt prog w it l (fun i h=>h.IsListIter it l i/\h.IsList l its) its where
 item:=fun A E s i x Q ⟨h1,h2⟩ hx q=>wpAny_nextOf_list_item h1 h2 hx fun h' a sb=>q h' ⟨a,h2.at fun o e=>(sb.2 l hne).trans e⟩ sb
 fin:=fun A E s i Q hh ⟨h1,h2⟩ hx q=>wpAny_nextOf_list_end hh h1 h2 hx q
 keep:=fun i h h' ⟨h1,h2⟩ k=>⟨h1.at fun o e=>k it o (.inl rfl) e,h2.at fun o e=>k l o (.inr rfl) e⟩
theorem ze7 (l:Addr):¬ ((Value.ref l == Value.none) = true):=fun z=>by cases (show false = true from z)
theorem IsTupleIter.at' {h h':Heap} {it l:Addr} {i:Nat} (x:h.IsTupleIter it l i) (k:∀ o,h.get? it = some o->h'.get? it = some o):h'.IsTupleIter it l i:=by
 obtain ⟨o,e,r⟩:=x
 exact ⟨o,k o e,r⟩
theorem IsTuple.at' {h h':Heap} {l:Addr} {xs:Array Value} (x:h.IsTuple l xs) (k:∀ o,h.get? l = some o->h'.get? l = some o):h'.IsTuple l xs:=by
 obtain ⟨o,e,r⟩:=x
 exact ⟨o,k o e,r⟩
section
variable {prog:Program} {w:World} {A:Around} {E:Value->Shared->Prop} {s:Shared} {it l:Addr} {i:Nat} {its:Array Value}
theorem zfS {x:Value} {Q:Value->Shared->Prop} (hi:s.heap.IsTupleIter it l i) (hl:s.heap.IsTuple l its) (hx:its[i]? = some x) (q:∀ h',h'.IsTupleIter it l (i + 1)->Heap.SameBut it s.heap h'->Q x { s with heap:=h' }) :
  wpAny (model prog w) A (Builtin.SmallTypes.nextOf (.ref it)) Q E s:=by
 obtain ⟨oi,ei,ci,di⟩:=id hi
 obtain ⟨ol,el,_,nl,dl⟩:=hl
 unfold Builtin.SmallTypes.nextOf
 refine wpAny_bind (wpAny_callSpecial?_slot (name:=Str.ofString "__next__") hi.typeIs F.slot_tuple_iterator_next (wpAny_call_entry F.slot_tuple_iterator_next hi.typeIs F.entry_tuple_iterator_next ?_ (F.args_tuple_iterator_next_1 _)))
 show wpAny _ A.in1 (field (.ref it) 0 >>= _) _ E s
 refine wpAny_bind (wpAny_field ei di (x:=.ref l) rfl ?_)
 show wpAny _ A.in1 (if (Value.ref l == Value.none) = true then _ else _) _ E s
 rw [if_neg (ze7 l)]
 show wpAny _ A.in1 (field (.ref it) 1 >>= _) _ E s
 refine wpAny_bind (wpAny_field ei di (x:=.int i 0) rfl ?_)
 show wpAny _ A.in1 (seqItems? (.ref l) >>= _) _ E s
 refine wpAny_bind (wpAny_seqItems el dl ?_)
 simp only [Int.toNat_natCast,hx]
 refine wpAny_bind (wpAny_setField ei di (by simp) (wpAny_pure ⟨x,rfl,wpAny_pure (q _ ⟨_,Heap.get?_update_self _ ei (Obj.isFreed_of_fields (Obj.data_mapFields di _)),(Obj.cls_mapFields ..).trans ci,?_⟩ (Heap.SameBut.update ..))⟩))
 rw [Obj.data_mapFields di]
 simp [rawInt]
theorem zg5 {Q:Value->Shared->Prop} (hh:A.handled = none) (hi:s.heap.IsTupleIter it l i) (hl:s.heap.IsTuple l its) (hx:its[i]? = none) (q:∀ h' e,Heap.ExtBut it s.heap h'->(∃ o,h'.get? e = some o/\o.cls = .type "StopIteration")->E (.ref e) { s with heap:=h' }) :
  wpAny (model prog w) A (Builtin.SmallTypes.nextOf (.ref it)) Q E s:=by
 obtain ⟨oi,ei,ci,di⟩:=id hi
 obtain ⟨ol,el,_,nl,dl⟩:=hl
 unfold Builtin.SmallTypes.nextOf
 refine wpAny_bind (wpAny_callSpecial?_slot (name:=Str.ofString "__next__") hi.typeIs F.slot_tuple_iterator_next (wpAny_call_entry F.slot_tuple_iterator_next hi.typeIs F.entry_tuple_iterator_next ?_ (F.args_tuple_iterator_next_1 _)))
 show wpAny _ A.in1 (field (.ref it) 0 >>= _) _ E s
 refine wpAny_bind (wpAny_field ei di (x:=.ref l) rfl ?_)
 show wpAny _ A.in1 (if (Value.ref l == Value.none) = true then _ else _) _ E s
 rw [if_neg (ze7 l)]
 show wpAny _ A.in1 (field (.ref it) 1 >>= _) _ E s
 refine wpAny_bind (wpAny_field ei di (x:=.int i 0) rfl ?_)
 show wpAny _ A.in1 (seqItems? (.ref l) >>= _) _ E s
 refine wpAny_bind (wpAny_seqItems el dl ?_)
 simp only [Int.toNat_natCast,hx]
 refine wpAny_bind (wpAny_rule (wpAny_bind (wpAny_setField ei di (by simp) ?_)))
 show wpAny _ A.in1 (newExc (.type "StopIteration") [] >>= _) _ E _
 refine wpAny_bind ?_
 simp only [newExc,newTuple]
 refine wpAny_bind (wpAny_newObj_type (wpAny_bind (m:=firstArgMember _ _) (wpAny_of_eq (a:=Value.none) (by first | rfl | (simp only [firstArgMember]; rfl)) (wpAny_newObj_type ?_ (by size_fits)))) (by size_fits))
 simp only [raiseNew]
 refine wpAny_bind (wpAny_handled ?_)
 rw [show A.in1.handled = none from hh]
 exact wpAny_bind (wpAny_pure (wpAny_throw (q _ _ (((Heap.SameBut.update ..).extBut.push _).push _) ⟨_,Heap.get?_push_size _ rfl,rfl⟩)))
end
theorem Nxt.tuple {prog:Program} {w:World} {it l:Addr} {its:Array Value} (hne:l ≠ it):Nxt prog w it l (fun i h=>h.IsTupleIter it l i/\h.IsTuple l its) its where
 item:=fun A E s i x Q ⟨h1,h2⟩ hx q=>zfS h1 h2 hx fun h' a sb=>q h' ⟨a,IsTuple.at' h2 fun o e=>(sb.2 l hne).trans e⟩ sb
 fin:=fun A E s i Q hh ⟨h1,h2⟩ hx q=>zg5 hh h1 h2 hx q
 keep:=fun i h h' ⟨h1,h2⟩ k=>⟨IsTupleIter.at' h1 fun o e=>k it o (.inl rfl) e,IsTuple.at' h2 fun o e=>k l o (.inr rfl) e⟩
structure Apart2 (z TI TO i1 i2 l1 l2:Addr):Prop where
 zs:z ≠ TI/\z ≠ TO/\z ≠ i1/\z ≠ i2/\z ≠ l1/\z ≠ l2
 os:TO ≠ TI/\TO ≠ i1/\TO ≠ i2/\TO ≠ l1/\TO ≠ l2
 is:TI ≠ i1/\TI ≠ i2/\i1 ≠ i2/\i1 ≠ l1/\i1 ≠ l2/\i2 ≠ l1/\i2 ≠ l2
section
variable {prog:Program} {w:World} {A:Around} {E:Value->Shared->Prop} {s:Shared} {z TI TO i1 i2 l1 l2:Addr} {st1 st2:Nat->Heap->Prop} {xs ys:Array Value} {k:Nat} {a b:Value}
theorem zhQ {x y:Value} {Q:Option Value->Shared->Prop} (N1:Nxt prog w i1 l1 st1 xs) (N2:Nxt prog w i2 l2 st2 ys) (D:Apart2 z TI TO i1 i2 l1 l2) (hz:IsZip s.heap z TI TO .none) (hTI:IsPair s.heap TI (.ref i1) (.ref i2)) (hTO:IsPair s.heap TO a b)
  (h1:st1 k s.heap) (h2:st2 k s.heap) (hx:xs[k]? = some x) (hy:ys[k]? = some y)
  (q:∀ h',IsZip h' z TI TO (rawInt s.heap.objs.size)->IsPair h' TO x y->st1 (k + 1) h'->st2 (k + 1) h'->IsPair h' s.heap.objs.size x y->h'.objs.size = s.heap.objs.size + 1->(∀ c o,c ≠ z->c ≠ TO->c ≠ i1->c ≠ i2->s.heap.get? c = some o->h'.get? c = some o)->Q (some (.ref s.heap.objs.size)) { s with heap:=h' }) :
  wpAny (model prog w) A (pyNext (.ref z)) Q E s:=by
 obtain ⟨⟨z1,z2,z3,z4,z5,z6⟩,⟨t1,t2,t3,t4,t5⟩,⟨j1,j2,j3,j4,j5,j6,j7⟩⟩:=D
 have hT:s.TypeIs (.ref z) "zip":=⟨_,hz,rfl⟩
 unfold pyNext
 refine wpAny_bind (wpAny_attempt (wpAny_callSpecial?_slot (name:=Str.ofString "__next__") hT F.slot_zip_next (wpAny_call_entry F.slot_zip_next hT F.entry_zip_next ?_ (F.args_zip_next_1 _))))
 show wpAny _ A.in1 (field (.ref z) 2 >>= _) _ _ s
 refine wpAny_bind (wpAny_field hz rfl (x:=.bool false) rfl ?_)
 show wpAny _ A.in1 (field (.ref z) 3 >>= _) _ _ s
 refine wpAny_bind (wpAny_field hz rfl (x:=.ref TI) rfl (wpAny_bind (wpAny_seqItems hTI rfl ?_)))
 show wpAny _ A.in1 (Builtin.SmallTypes.ownedTupleIsFree (.ref z) >>= _) _ _ s
 refine wpAny_bind ?_
 unfold Builtin.SmallTypes.ownedTupleIsFree
 refine wpAny_bind (wpAny_field hz rfl (x:=.none) rfl (wpAny_pure ?_))
 simp only [if_true]
 refine wpAny_bind (wpAny_rule (wpAny_bind (wpAny_field hz rfl (x:=.ref TO) rfl (wpAny_bind (wpAny_setField_rec hz (by simp) fun ha za sa=>wpAny_bind ?_)))))
 replace za:IsZip ha z TI TO .ellipsis:=za
 simp only [List.zipIdx_cons,List.zipIdx_nil,List.forIn_cons,List.forIn_nil]
 refine wpAny_bind (wpAny_bind (wpAny_onRaise ?_))
 show wpAny _ A.in1 (Builtin.SmallTypes.nextOf (.ref i1) >>= _) _ _ _
 refine wpAny_bind (N1.item _ _ { s with heap:=ha } k x _ (N1.keep _ _ _ h1 fun c o hc e=>sa.extBut c o (by rcases hc with rfl | rfl; exact z3.symm; exact z5.symm) e) hx fun hb sb1 sb=>wpAny_pure ?_)
 have tb:IsPair hb TO a b:=sb.extBut _ _ t2 (sa.extBut _ _ z2.symm hTO)
 refine wpAny_bind (wpAny_seqItems tb rfl (wpAny_bind (wpAny_updateSeq_pair tb fun hc tc sc=>wpAny_bind (wpAny_letGo (wpAny_pure ?_)))))
 replace tc:IsPair hc TO x b:=tc
 refine wpAny_bind (wpAny_bind (wpAny_onRaise ?_))
 show wpAny _ A.in1 (Builtin.SmallTypes.nextOf (.ref i2) >>= _) _ _ _
 have k2:st2 k hc:=N2.keep _ _ _ h2 fun c o hc' e=>by
  rcases hc' with rfl | rfl
  ·exact sc.extBut _ _ t3.symm (sb.extBut _ _ j3.symm (sa.extBut _ _ z4.symm e))
  ·exact sc.extBut _ _ t5.symm (sb.extBut _ _ j5.symm (sa.extBut _ _ z6.symm e))
 have k1:st1 (k + 1) hc:=N1.keep _ _ _ sb1 fun c o hc' e=>by
  rcases hc' with rfl | rfl
  ·exact sc.extBut _ _ t2.symm e
  ·exact sc.extBut _ _ t4.symm e
 refine wpAny_bind (N2.item _ _ { s with heap:=hc } k y _ k2 hy fun hd sd2 sd=>wpAny_pure ?_)
 have td:IsPair hd TO x b:=sd.extBut _ _ t3 tc
 refine wpAny_bind (wpAny_seqItems td rfl (wpAny_bind (wpAny_updateSeq_pair td fun he te se=>wpAny_bind (wpAny_letGo (wpAny_pure (wpAny_pure ?_))))))
 replace te:IsPair he TO x y:=te
 refine wpAny_bind (wpAny_seqItems te rfl (wpAny_bind (wpAny_newTuple ?_)))
 have size:he.objs.size = s.heap.objs.size:=by rw [se.1,sd.1,sc.1,sb.1,sa.1]
 have ze:IsZip he z TI TO .ellipsis:=se.extBut _ _ z2 (sd.extBut _ _ z4 (sc.extBut _ _ z2 (sb.extBut _ _ z3 za)))
 have kept:∀ c o,c ≠ z->c ≠ TO->c ≠ i1->c ≠ i2->s.heap.get? c = some o->he.get? c = some o:=fun c o c1 c2 c3 c4 e=>se.extBut _ _ c2 (sd.extBut _ _ c4 (sc.extBut _ _ c2 (sb.extBut _ _ c3 (sa.extBut _ _ c1 e))))
 have e1:st1 (k + 1) he:=N1.keep _ _ _ k1 fun c o hc' e=>by
  rcases hc' with rfl | rfl
  ·exact se.extBut _ _ t2.symm (sd.extBut _ _ j3 e)
  ·exact se.extBut _ _ t4.symm (sd.extBut _ _ j6.symm e)
 have e2:st2 (k + 1) he:=N2.keep _ _ _ sd2 fun c o hc' e=>by
  rcases hc' with rfl | rfl
  ·exact se.extBut _ _ t3.symm e
  ·exact se.extBut _ _ t5.symm e
 show wpAny _ A.in1 (Builtin.SmallTypes.ownedTupleHandOut (.ref z) (.ref he.objs.size) >>= _) _ _ _
 refine wpAny_bind ?_
 unfold Builtin.SmallTypes.ownedTupleHandOut
 have zf:IsZip (he.push { cls:=.type "tuple",data:=.seq #[x,y] }) z TI TO .ellipsis:=Heap.get?_push_of_some _ ze
 refine wpAny_bind (wpAny_setField_rec zf (by simp) fun hg zg sg=>wpAny_setField_rec zg (by simp) fun hh zh sh=>wpAny_pure ⟨_,rfl,wpAny_pure ?_⟩)
 replace zh:IsZip hh z TI TO (rawInt he.objs.size):=zh
 have up:∀ c o,c ≠ z->he.get? c = some o->hh.get? c = some o:=fun c o c1 e=>sh.extBut _ _ c1 (sg.extBut _ _ c1 (Heap.get?_push_of_some _ e))
 have lz:z < he.objs.size:=Heap.lt_size ze
 have tn:IsPair hh he.objs.size x y:=sh.extBut _ _ (Nat.ne_of_gt lz) (sg.extBut _ _ (Nat.ne_of_gt lz) (Heap.get?_push_size _ rfl))
 have sz:hh.objs.size = he.objs.size + 1:=by rw [sh.1,sg.1,Heap.size_push]
 rw [size] at zh tn sz
 show Q (some (.ref he.objs.size)) _
 rw [size]
 exact q hh zh (up _ _ z2.symm te) (N1.keep _ _ _ e1 fun c o hc' e=>up c o (by rcases hc' with rfl | rfl; exact z3.symm; exact z5.symm) e) (N2.keep _ _ _ e2 fun c o hc' e=>up c o (by rcases hc' with rfl | rfl; exact z4.symm; exact z6.symm) e) tn sz fun c o c1 c2 c3 c4 e=>up c o c1 (kept c o c1 c2 c3 c4 e)
theorem zju {Q:Option Value->Shared->Prop} (hn:A.handled = none) (N1:Nxt prog w i1 l1 st1 xs) (N2:Nxt prog w i2 l2 st2 ys) (D:Apart2 z TI TO i1 i2 l1 l2) (hz:IsZip s.heap z TI TO .none) (hTI:IsPair s.heap TI (.ref i1) (.ref i2)) (hTO:IsPair s.heap TO a b)
  (h1:st1 k s.heap) (h2:st2 k s.heap) (hx:xs[k]? = none\/ys[k]? = none) (q:∀ h',(∀ c o,c ≠ z->c ≠ TO->c ≠ i1->c ≠ i2->s.heap.get? c = some o->h'.get? c = some o)->Q none { s with heap:=h' }):wpAny (model prog w) A (pyNext (.ref z)) Q E s:=by
 obtain ⟨⟨z1,z2,z3,z4,z5,z6⟩,⟨t1,t2,t3,t4,t5⟩,⟨j1,j2,j3,j4,j5,j6,j7⟩⟩:=D
 have hT:s.TypeIs (.ref z) "zip":=⟨_,hz,rfl⟩
 have stop:∀ (h':Heap) (e:Addr),(∀ c o,c ≠ z->c ≠ TO->c ≠ i1->c ≠ i2->s.heap.get? c = some o->h'.get? c = some o)->(∃ o,h'.get? e = some o/\o.cls = .type "StopIteration")->
   wpAny (model prog w) A (do if <- isInstance (.ref e) (.type "StopIteration") then pure none else throw (.ref e):Sem (Option Value)) Q E { s with heap:=h' }:=fun h' e kp ⟨o,ho,hc⟩=>
  wpAny_bind (wpAny_isInstance (T:="StopIteration") (b:=true) ⟨o,ho,hc⟩ isSubtype_stop (wpAny_pure (q h' kp)))
 unfold pyNext
 refine wpAny_bind (wpAny_attempt (wpAny_callSpecial?_slot (name:=Str.ofString "__next__") hT F.slot_zip_next (wpAny_call_entry F.slot_zip_next hT F.entry_zip_next ?_ (F.args_zip_next_1 _))))
 show wpAny _ A.in1 (field (.ref z) 2 >>= _) _ _ s
 refine wpAny_bind (wpAny_field hz rfl (x:=.bool false) rfl ?_)
 show wpAny _ A.in1 (field (.ref z) 3 >>= _) _ _ s
 refine wpAny_bind (wpAny_field hz rfl (x:=.ref TI) rfl (wpAny_bind (wpAny_seqItems hTI rfl ?_)))
 show wpAny _ A.in1 (Builtin.SmallTypes.ownedTupleIsFree (.ref z) >>= _) _ _ s
 refine wpAny_bind ?_
 unfold Builtin.SmallTypes.ownedTupleIsFree
 refine wpAny_bind (wpAny_field hz rfl (x:=.none) rfl (wpAny_pure ?_))
 simp only [if_true]
 refine wpAny_bind (wpAny_rule (wpAny_bind (wpAny_field hz rfl (x:=.ref TO) rfl (wpAny_bind (wpAny_setField_rec hz (by simp) fun ha za sa=>wpAny_bind ?_)))))
 replace za:IsZip ha z TI TO .ellipsis:=za
 simp only [List.zipIdx_cons,List.zipIdx_nil,List.forIn_cons,List.forIn_nil]
 refine wpAny_bind (wpAny_bind (wpAny_onRaise ?_))
 show wpAny _ A.in1 (Builtin.SmallTypes.nextOf (.ref i1) >>= _) _ _ _
 have ka:st1 k ha:=N1.keep _ _ _ h1 fun c o hc e=>sa.extBut c o (by rcases hc with rfl | rfl; exact z3.symm; exact z5.symm) e
 cases ex:xs[k]? with
 | none=>
  refine wpAny_bind (N1.fin _ _ { s with heap:=ha } k _ hn ka ex fun hb e sb se=>?_)
  obtain ⟨oe,ho,hc⟩:=se
  have zb:IsZip hb z TI TO .ellipsis:=sb _ _ z3 za
  have ne:e ≠ z:=fun y=>by subst y; rw [zb] at ho; cases ho; simp at hc
  exact wpAny_setField_rec zb (by simp) fun hd _ sd=>stop hd e (fun c o c1 _ c3 _ y=>sd.extBut _ _ c1 (sb _ _ c3 (sa.extBut _ _ c1 y))) ⟨oe,sd.extBut _ _ ne ho,hc⟩
 | some x=>
  have ey:ys[k]? = none:=by
   rcases hx with y | y
   ·rw [ex] at y; cases y
   ·exact y
  refine wpAny_bind (N1.item _ _ { s with heap:=ha } k x _ ka ex fun hb sb1 sb=>wpAny_pure ?_)
  have tb:IsPair hb TO a b:=sb.extBut _ _ t2 (sa.extBut _ _ z2.symm hTO)
  refine wpAny_bind (wpAny_seqItems tb rfl (wpAny_bind (wpAny_updateSeq_pair tb fun hc tc sc=>wpAny_bind (wpAny_letGo (wpAny_pure ?_)))))
  refine wpAny_bind (wpAny_bind (wpAny_onRaise ?_))
  show wpAny _ A.in1 (Builtin.SmallTypes.nextOf (.ref i2) >>= _) _ _ _
  have k2:st2 k hc:=N2.keep _ _ _ h2 fun c o hc' e=>by
   rcases hc' with rfl | rfl
   ·exact sc.extBut _ _ t3.symm (sb.extBut _ _ j3.symm (sa.extBut _ _ z4.symm e))
   ·exact sc.extBut _ _ t5.symm (sb.extBut _ _ j5.symm (sa.extBut _ _ z6.symm e))
  refine wpAny_bind (N2.fin _ _ { s with heap:=hc } k _ hn k2 ey fun hd e sd se=>?_)
  obtain ⟨oe,ho,hcl⟩:=se
  have zd:IsZip hd z TI TO .ellipsis:=sd _ _ z4 (sc.extBut _ _ z2 (sb.extBut _ _ z3 za))
  have ne:e ≠ z:=fun y=>by subst y; rw [zd] at ho; cases ho; simp at hcl
  exact wpAny_setField_rec zd (by simp) fun hf _ sf=>stop hf e (fun c o c1 c2 c3 c4 y=>sf.extBut _ _ c1 (sd _ _ c4 (sc.extBut _ _ c2 (sb.extBut _ _ c3 (sa.extBut _ _ c1 y))))) ⟨oe,sf.extBut _ _ ne ho,hcl⟩
end
end L2
set_option Elab.async false
set_option linter.all false
set_option maxRecDepth 100000
set_option maxHeartbeats 4000000
namespace L2
open PySem PySem.Spec PyProof.Rows
noncomputable def Ck:Bool->Heap->Addr->Array Value->Prop
 | true,h,l,xs=>h.IsList l xs
 | false,h,l,xs=>h.IsTuple l xs
noncomputable def Rk:Bool->Addr->Addr->Nat->Heap->Prop
 | true,it,l,i,h=>h.IsListIter it l i
 | false,it,l,i,h=>h.IsTupleIter it l i
noncomputable def Sk:Bool->PySem.W.Frag->Hp->Addr->List V->Prop
 | true,K,H,l,xs=>SqL K H l xs
 | false,K,H,l,xs=>SqT K H l xs
noncomputable def itO:Bool->Addr->Obj
 | true,l=>{ cls:=.type "list_iterator",data:=.fields #[.ref l,.int 0 0] }
 | false,l=>{ cls:=.type "tuple_iterator",data:=.fields #[.ref l,.int 0 0] }
theorem Nxt.of {prog:Program} {w:World} {it l:Addr} {its:Array Value} (kd:Bool) (hne:l ≠ it):Nxt prog w it l (fun i h=>Rk kd it l i h/\Ck kd h l its) its:=by
 cases kd
 ·exact Nxt.tuple hne
 ·exact Nxt.list hne
theorem Ck.keep {kd:Bool} {h h':Heap} {l:Addr} {xs:Array Value} (x:Ck kd h l xs) (k:∀ o,h.get? l = some o->h'.get? l = some o):Ck kd h' l xs:=by
 cases kd
 ·exact IsTuple.at' x k
 ·exact Heap.IsList.at x k
theorem Rk.keep {kd:Bool} {h h':Heap} {it l:Addr} {i:Nat} (x:Rk kd it l i h) (k:∀ o,h.get? it = some o->h'.get? it = some o):Rk kd it l i h':=by
 cases kd
 ·exact IsTupleIter.at' x k
 ·exact Heap.IsListIter.at x k
theorem Rk.obj {kd:Bool} {h:Heap} {it l:Addr} {i:Nat} (x:Rk kd it l i h):∃ o,h.get? it = some o/\∀ v,o.data ≠ .cell v:=by
 cases kd
 ·obtain ⟨o,e,c,d⟩:=x
  exact ⟨o,e,fun v z=>by rw [d] at z; cases z⟩
 ·obtain ⟨o,e,c,d⟩:=x
  exact ⟨o,e,fun v z=>by rw [d] at z; cases z⟩
theorem Ck.lt {kd:Bool} {h:Heap} {l:Addr} {xs:Array Value} (x:Ck kd h l xs):l < h.objs.size:=by
 cases kd
 ·obtain ⟨o,e,_⟩:=x; exact Heap.lt_size e
 ·obtain ⟨o,e,_⟩:=x; exact Heap.lt_size e
section
variable {prog:Program} {w:World} {A:Around} {E:Value->Shared->Prop} {s:Shared}
theorem zfb {kd:Bool} {l:Addr} {xs:Array Value} {Q:Value->Shared->Prop} (c:Ck kd s.heap l xs) (q:Q (.ref s.heap.objs.size) { s with heap:=s.heap.push (itO kd l) }):wpAny (model prog w) A (pyIter (.ref l)) Q E s:=by
 cases kd
 ·exact wpAny_pyIter_tuple c q
 ·exact wpAny_pyIter_list c q
end
noncomputable def zH (h:Heap) (k1 k2:Bool) (l1 l2:Addr):Heap:=((((h.push (itO k1 l1)).push (itO k2 l2)).push { cls:=.type "tuple",data:=.seq #[.ref h.objs.size,.ref (h.push (itO k1 l1)).objs.size] }).push { cls:=.type "tuple",data:=.seq #[.none,.none] }).push
 { cls:=.type "zip",data:=.fields #[.none,.bool false,.bool false,.ref ((h.push (itO k1 l1)).push (itO k2 l2)).objs.size,.ref (((h.push (itO k1 l1)).push (itO k2 l2)).push { cls:=.type "tuple",data:=.seq #[.ref h.objs.size,.ref (h.push (itO k1 l1)).objs.size] }).objs.size] }
theorem zhN (k1 k2:Bool) (l1 l2:Addr) (xs ys:Array Value):Meets (Builtin.«zip.__new__» ⟨[.type "zip",.ref l1,.ref l2],[]⟩) (fun _ R s=>Ck k1 s.heap l1 xs/\Ck k2 s.heap l2 ys /\
   R (.ok (.ret (.ref ((((s.heap.push (itO k1 l1)).push (itO k2 l2)).push { cls:=.type "tuple",data:=.seq #[.ref s.heap.objs.size,.ref (s.heap.push (itO k1 l1)).objs.size] }).push { cls:=.type "tuple",data:=.seq #[.none,.none] }).objs.size))) { s with heap:=zH s.heap k1 k2 l1 l2 }):=
 .of_wp fun prog w A R s h=>by
  obtain ⟨hp,g,d,tk,os⟩:=s
  obtain ⟨c1,c2,h⟩:=h
  have hsub:=sub_zip
  have C1:Ck k1 (Shared.heap ⟨hp,g,d,tk,os⟩) l1 xs:=c1
  have C2:Ck k2 (Shared.heap ⟨hp.push (itO k1 l1),g,d,tk,os⟩) l2 ys:=c2.keep fun o e=>Heap.get?_push_of_some _ e
  wp_walk using zfb C1,zfb C2
  exact ⟨_,rfl,h⟩
section
variable {prog:Program} {w:World} {A:Around} {E:Value->Shared->Prop} {s:Shared}
theorem zjG {k1 k2:Bool} {l1 l2:Addr} {xs ys:Array Value} {Q:Value->Shared->Prop} (c1:Ck k1 s.heap l1 xs) (c2:Ck k2 s.heap l2 ys)
  (h:∀ h',IsZip h' (s.heap.objs.size + 4) (s.heap.objs.size + 2) (s.heap.objs.size + 3) .none->IsPair h' (s.heap.objs.size + 2) (.ref s.heap.objs.size) (.ref (s.heap.objs.size + 1))->IsPair h' (s.heap.objs.size + 3) .none .none->
   Rk k1 s.heap.objs.size l1 0 h'->Rk k2 (s.heap.objs.size + 1) l2 0 h'->(∀ c o,s.heap.get? c = some o->h'.get? c = some o)->Q (.ref (s.heap.objs.size + 4)) { s with heap:=h' }) :
  wpAny (model prog w) A (call (.type "zip") [.ref l1,.ref l2]) Q E s:=by
 refine callType_new F.called_zip (by decide) (F.typeCall_zip_2 _ _) (F.newCall_zip_2 _ _) (fun obj=>F.args_object_init_3 obj _ _) F.entry_zip_new (zhN k1 k2 l1 l2 xs ys) ⟨c1,c2,?_⟩
 have n1:(s.heap.push (itO k1 l1)).objs.size = s.heap.objs.size + 1:=Heap.size_push ..
 have n2:((s.heap.push (itO k1 l1)).push (itO k2 l2)).objs.size = s.heap.objs.size + 2:=by rw [Heap.size_push,n1]
 have fr:∀ kd l,(itO kd l).isFreed = false:=fun kd l=>by cases kd <;> rfl
 have rk:∀ {h:Heap} {a:Addr} {kd:Bool} {l:Addr},h.get? a = some (itO kd l)->Rk kd a l 0 h:=fun {h a kd l} e=>by
  cases kd
  ·exact ⟨_,e,rfl,rfl⟩
  ·exact ⟨_,e,rfl,rfl⟩
 have o1:(s.heap.push (itO k1 l1)).get? s.heap.objs.size = some (itO k1 l1):=Heap.get?_push_size _ (fr _ _)
 have o2:((s.heap.push (itO k1 l1)).push (itO k2 l2)).get? (s.heap.objs.size + 1) = some (itO k2 l2):=by
  have:=Heap.get?_push_size (s.heap.push (itO k1 l1)) (o:=itO k2 l2) (fr _ _)
  rw [n1] at this
  exact this
 generalize hA:(s.heap.push (itO k1 l1)).push (itO k2 l2) = hA' at *
 have eH:zH s.heap k1 k2 l1 l2 = ((hA'.push { cls:=.type "tuple",data:=.seq #[.ref s.heap.objs.size,.ref (s.heap.objs.size + 1)] }).push { cls:=.type "tuple",data:=.seq #[.none,.none] }).push { cls:=.type "zip",data:=.fields #[.none,.bool false,.bool false,.ref (s.heap.objs.size + 2),.ref (s.heap.objs.size + 3)] }:=by
  unfold zH
  rw [hA,n1,n2,Heap.size_push,n2]
 have n3:(hA'.push { cls:=.type "tuple",data:=.seq #[.ref s.heap.objs.size,.ref (s.heap.objs.size + 1)] }).objs.size = s.heap.objs.size + 3:=by rw [Heap.size_push,n2]
 have n4:((hA'.push { cls:=.type "tuple",data:=.seq #[.ref s.heap.objs.size,.ref (s.heap.objs.size + 1)] }).push { cls:=.type "tuple",data:=.seq #[.none,.none] }).objs.size = s.heap.objs.size + 4:=by rw [Heap.size_push,n3]
 rw [n1,n4]
 have g5:(zH s.heap k1 k2 l1 l2).get? (s.heap.objs.size + 4) = some { cls:=.type "zip",data:=.fields #[.none,.bool false,.bool false,.ref (s.heap.objs.size + 2),.ref (s.heap.objs.size + 3)] }:=by
  rw [eH,<- n4]; exact Heap.get?_push_size _ rfl
 have g4:(zH s.heap k1 k2 l1 l2).get? (s.heap.objs.size + 3) = some { cls:=.type "tuple",data:=.seq #[.none,.none] }:=by
  rw [eH,<- n3]; exact Heap.get?_push_of_some _ (Heap.get?_push_size _ rfl)
 have g3:(zH s.heap k1 k2 l1 l2).get? (s.heap.objs.size + 2) = some { cls:=.type "tuple",data:=.seq #[.ref s.heap.objs.size,.ref (s.heap.objs.size + 1)] }:=by
  rw [eH,<- n2]; exact Heap.get?_push_of_some _ (Heap.get?_push_of_some _ (Heap.get?_push_size _ rfl))
 have up:∀ c o,hA'.get? c = some o->(zH s.heap k1 k2 l1 l2).get? c = some o:=fun c o e=>by rw [eH]; exact Heap.get?_push_of_some _ (Heap.get?_push_of_some _ (Heap.get?_push_of_some _ e))
 refine ⟨⟨_,g5,rfl⟩,h _ g5 g3 g4 (rk (up _ _ ?_)) (rk (up _ _ o2)) fun c o e=>up _ _ ?_⟩
 ·rw [<- hA]; exact Heap.get?_push_of_some _ o1
 ·rw [<- hA]; exact Heap.get?_push_of_some _ (Heap.get?_push_of_some _ e)
end
end L2
set_option Elab.async false
set_option linter.all false
set_option maxRecDepth 100000
set_option maxHeartbeats 4000000
namespace L2
open PySem PySem.Spec PyProof.Rows
noncomputable def Itz (K:PySem.W.Frag) (k1 k2:Bool) (l1 l2:Addr):It:=
 ⟨fun i H=>∃ xs ys x y,Sk k1 K H l1 xs/\Sk k2 K H l2 ys/\xs[i]? = some x/\ys[i]? = some y,
  fun i H v H'=>∃ a x y,H a = none/\v = .ref a/\H' = upd H a (.tup [x,y])/\(∀ xs,Sk k1 K H l1 xs->xs[i]? = some x)/\∀ ys,Sk k2 K H l2 ys->ys[i]? = some y,
  fun i H=>∃ xs ys,Sk k1 K H l1 xs/\Sk k2 K H l2 ys/\(xs.length<=i\/ys.length<=i)⟩
section
variable {X:Cx} {pins:List (Addr × Obj)} {σ:St} {H:Hp} {s:Shared} {kd:Bool} {l:Addr} {xs ys:List V}
theorem Inv.row (I:Inv X pins σ H s) (h:Sk kd X.K H l xs):∃ its:List Value,Vals xs its/\Ck kd s.heap l its.toArray:=by
 cases kd
 ·obtain ⟨its,rv,p,hz⟩:=I.tuple h
  exact ⟨its,rv,p⟩
 ·obtain ⟨its,rv,p,hz⟩:=I.list h
  exact ⟨its,rv,p.isList⟩
theorem Inv.row_inj (I:Inv X pins σ H s) (h:Sk kd X.K H l xs) (h':Sk kd X.K H l ys):xs = ys:=by
 cases kd
 ·exact I.tuple_inj h h'
 ·exact I.list_inj h h'
end
theorem zie {P:Program} {w:World} {K:PySem.W.Frag} {elts:List Expr} {kk:Nat} {pos:Pos} {k1 k2:Bool} {l1 l2 z TI TO i1 i2:Addr} (D:Apart2 z TI TO i1 i2 l1 l2) :
  Turn P w K (.Tuple elts kk pos) (Itz K k1 k2 l1 l2) [z,TI,TO,i1,i2] z (fun i h=>IsZip h z TI TO .none/\IsPair h TI (.ref i1) (.ref i2)/\(∃ a b,IsPair h TO a b)/\Rk k1 i1 l1 i h/\Rk k2 i2 l2 i h) where
 mem:=by simp
 obj:=fun i h ⟨a1,a2,⟨p,q,a3⟩,a4,a5⟩ b hb=>by
  have:b = z\/b = TI\/b = TO\/b = i1\/b = i2:=by simpa using hb
  rcases this with rfl | rfl | rfl | rfl | rfl
  ·exact ⟨_,a1,fun v y=>by cases y⟩
  ·exact ⟨_,a2,fun v y=>by cases y⟩
  ·exact ⟨_,a3,fun v y=>by cases y⟩
  ·exact a4.obj
  ·exact a5.obj
 keep:=fun i h h' ⟨a1,a2,⟨p,q,a3⟩,a4,a5⟩ k=>⟨k z (by simp) _ a1,k TI (by simp) _ a2,⟨p,q,k TO (by simp) _ a3⟩,a4.keep fun o e=>k i1 (by simp) o e,a5.keep fun o e=>k i2 (by simp) o e⟩
 item:=by
  intro X hP hw hK hc i pins s σ H E I hf ⟨a1,a2,⟨p,q,a3⟩,a4,a5⟩ hg
  subst hP hw hK
  obtain ⟨xs,ys,x,y,hq1,hq2,hx,hy⟩:=hg
  obtain ⟨it1,rv1,c1⟩:=I.row hq1
  obtain ⟨it2,rv2,c2⟩:=I.row hq2
  obtain ⟨u,hu,ru⟩:=rv1.get hx
  obtain ⟨v,hv,rv⟩:=rv2.get hy
  have D':=D
  obtain ⟨⟨z1,z2,z3,z4,z5,z6⟩,⟨t1,t2,t3,t4,t5⟩,⟨j1,j2,j3,j4,j5,j6,j7⟩⟩:=D'
  refine zhQ (Nxt.of k1 j4.symm) (Nxt.of k2 j7.symm) D a1 a2 a3 ⟨a4,c1⟩ ⟨a5,c2⟩ (x:=u) (y:=v) (by simpa using hu) (by simpa using hv) fun h1 b1 b2 b3 b4 b5 b6 kp=>?_
  refine ⟨_,rfl,wpAny_letOwnedTupleGo_zip (s:={ s with heap:=h1 }) b1 fun h2 e2 sb=>?_⟩
  have hT2:IsPair h2 s.heap.objs.size u v:=(sb.2 _ (Nat.ne_of_gt (Heap.lt_size a1))).trans b5
  have kk:∀ b o,b ∉ [z,TI,TO,i1,i2]->s.heap.get? b = some o->h2.get? b = some o:=fun b o hb e=>(sb.2 b fun y=>hb (by simp [y])).trans (kp b o (fun y=>hb (by simp [y])) (fun y=>hb (by simp [y])) (fun y=>hb (by simp [y])) (fun y=>hb (by simp [y])) e)
  have I2:=I.turnedNew (t':=s.toks) (a:=s.heap.objs.size) (o:=.tup [x,y]) kk (fun b hb=>hf b hb) (Nat.le_refl _) (show ObjOk X.prog X.w _ h2 _ (.tup [x,y]) from ⟨by show 2<=sizeLine; decide,[u,v],.cons ru (.cons rv .nil),⟨_,hT2,rfl,_,rfl⟩⟩)
  have hn:H s.heap.objs.size = none:=I.hok.fresh (Nat.le_refl _)
  refine ⟨.ref s.heap.objs.size,_,I2,rfl,⟨_,x,y,hn,rfl,rfl,fun zs hz=>by rw [I.row_inj hz hq1]; exact hx,fun zs hz=>by rw [I.row_inj hz hq2]; exact hy⟩,⟨e2,(sb.2 _ z1.symm).trans (kp _ _ z1.symm t1.symm j1 j2 a2),⟨_,_,(sb.2 _ z2.symm).trans b2⟩,b3.1.keep fun o e=>(sb.2 _ z3.symm).trans e,b4.1.keep fun o e=>(sb.2 _ z4.symm).trans e⟩,fun b hb=>?_⟩
  have nb:b ≠ s.heap.objs.size:=by
   have:b = z\/b = TI\/b = TO\/b = i1\/b = i2:=by simpa using hb
   rcases this with rfl | rfl | rfl | rfl | rfl
   ·exact Nat.ne_of_lt (Heap.lt_size a1)
   ·exact Nat.ne_of_lt (Heap.lt_size a2)
   ·exact Nat.ne_of_lt (Heap.lt_size a3)
   ·obtain ⟨o,e,_⟩:=a4.obj
    exact Nat.ne_of_lt (Heap.lt_size e)
   ·obtain ⟨o,e,_⟩:=a5.obj
    exact Nat.ne_of_lt (Heap.lt_size e)
  rw [zap nb]
  exact (hf b hb).1
 done:=by
  intro X hP hw hK hc i pins s σ H E I hf ⟨a1,a2,⟨p,q,a3⟩,a4,a5⟩ hg
  subst hP hw hK
  obtain ⟨xs,ys,hq1,hq2,hx⟩:=hg
  obtain ⟨it1,rv1,c1⟩:=I.row hq1
  obtain ⟨it2,rv2,c2⟩:=I.row hq2
  have n1:=rv1.length
  have n2:=rv2.length
  refine zju (I.ok.hd hc) (Nxt.of k1 D.is.2.2.2.1.symm) (Nxt.of k2 D.is.2.2.2.2.2.2.symm) D a1 a2 a3 ⟨a4,c1⟩ ⟨a5,c2⟩ ?_ fun h' kp=>⟨rfl,I.turnedL (t':=s.toks) (ch:=[z,TI,TO,i1,i2]) (fun b o hb e=>kp b o (fun y=>hb (by simp [y])) (fun y=>hb (by simp [y])) (fun y=>hb (by simp [y])) (fun y=>hb (by simp [y])) e) fun b hb=>hf b hb⟩
  rcases hx with y | y
  ·exact .inl (by simp; omega)
  ·exact .inr (by simp; omega)
 self:=fun _ _ _ _ _ ⟨a1,_⟩ h=>wpAny_pyIter_zip a1 h
section
variable {X:Cx}
noncomputable def iZip (K:PySem.W.Frag) (ta:TA):TI:=fun σ H R=>ta σ H fun vs H1=>∃ k1 k2 l1 l2 xs ys,vs = [.ref l1,.ref l2]/\Sk k1 K H1 l1 xs/\Sk k2 K H1 l2 ys/\R (Itz K k1 k2 l1 l2) H1
theorem zid:bootBuiltins "zip" = some (.type "zip"):=by decide +kernel
theorem zku {a b:Expr} {ta:TA} {p pos tpos:Pos} {elts:List Expr} {kk:Nat} (hg:Gl X "zip") (hm:X.mg "zip" = none) (ha:PA X [a,b] ta) (hs:starEach [a,b] X.env = [(false,eval a X.env),(false,eval b X.env)]:=by rfl) (hs2:starEach [b] X.env = [(false,eval b X.env)]:=by rfl) :
  PI X (.Tuple elts kk tpos) (.Call (.Name "zip" p) [a,b] [] pos) (iZip X.K ta):=by
 intro pins s σ H R I h
 refine Call_ (zdf I hg hm zid (PyProof.Rows.callWith_type1 (thn (ha pos pins s σ H _ I h) fun us s1 ⟨vs,H1,I1,r1,q1⟩=>?_) (by rw [hs,hs2]) (by rw [hs2]; rfl)))
 obtain ⟨k1,k2,l1,l2,xs,ys,e,hq1,hq2,q⟩:=q1
 subst e
 cases r1 with
 | cons r rr=>
  cases rr with
  | cons r' rr=>
   cases rr
   cases r
   cases r'
   obtain ⟨it1,rv1,c1⟩:=I1.row hq1
   obtain ⟨it2,rv2,c2⟩:=I1.row hq2
   have m1:=c1.lt
   have m2:=c2.lt
   refine zjG c1 c2 fun h' b1 b2 b3 b4 b5 kp=>?_
   refine wpAny_pyIter_zip b1 ?_
   have ne:∀ {u v:Nat},u < v->u ≠ v:=fun h=>Nat.ne_of_lt h
   have D:Apart2 (s1.heap.objs.size + 4) (s1.heap.objs.size + 2) (s1.heap.objs.size + 3) s1.heap.objs.size (s1.heap.objs.size + 1) l1 l2:=
    ⟨⟨(ne (by omega)).symm,(ne (by omega)).symm,(ne (by omega)).symm,(ne (by omega)).symm,(ne (Nat.lt_of_lt_of_le m1 (by omega))).symm,(ne (Nat.lt_of_lt_of_le m2 (by omega))).symm⟩,
     ⟨(ne (by omega)).symm,(ne (by omega)).symm,(ne (by omega)).symm,(ne (Nat.lt_of_lt_of_le m1 (by omega))).symm,(ne (Nat.lt_of_lt_of_le m2 (by omega))).symm⟩,
     ⟨(ne (by omega)).symm,(ne (by omega)).symm,ne (by omega),(ne m1).symm,(ne m2).symm,(ne (Nat.lt_of_lt_of_le m1 (by omega))).symm,(ne (Nat.lt_of_lt_of_le m2 (by omega))).symm⟩⟩
   refine ⟨s1.heap.objs.size + 4,[s1.heap.objs.size + 4,s1.heap.objs.size + 2,s1.heap.objs.size + 3,s1.heap.objs.size,s1.heap.objs.size + 1],_,_,H1,rfl,I1.kept (t':=s1.toks) kp,zie D,⟨b1,b2,⟨_,_,b3⟩,b4,b5⟩,fun b hb=>?_,q⟩
   have:s1.heap.objs.size<=b:=by
    have:b = s1.heap.objs.size + 4\/b = s1.heap.objs.size + 2\/b = s1.heap.objs.size + 3\/b = s1.heap.objs.size\/b = s1.heap.objs.size + 1:=by simpa using hb
    rcases this with rfl | rfl | rfl | rfl | rfl <;> omega
   exact I1.fpOk this (I1.hok.fresh this)
end
end L2
set_option Elab.async false
set_option linter.all false
set_option maxRecDepth 100000
set_option maxHeartbeats 4000000
namespace Mi
open PySem
inductive D where
 | non | bl (b:Bool) | int (i:Int) | str (s:Str) | tup (xs:List D) | fl (xs:List D) | fd (ks vs:List D) | exc (c:Nat) (fs:List D) | ob (c:Nat) (fs:List D)
inductive Xv where
 | d (x:D) | l (n:Nat)
inductive SO where
 | lst (xs:List D)
 | dct (ks vs:List D)
noncomputable abbrev S:=List SO
inductive Rs (α:Type) where
 | ok (a:α) | er (c:Nat) (fs:List D)
noncomputable abbrev M (α:Type):=S->Option (Rs α × S)
noncomputable def M.ret {α:Type} (a:α):M α:=fun s=>some (.ok a,s)
noncomputable def M.bd {α β:Type} (m:M α) (k:α->M β):M β:=fun s=>match m s with
 | some (.ok a,s')=>k a s'
 | some (.er c f,s')=>some (.er c f,s')
 | none=>none
noncomputable def M.qt {α:Type} (m:M α):M α:=fun s=>match m s with
 | some (.ok a,s')=>some (.ok a,s')
 | _=>none
noncomputable def M.no {α:Type}:M α:=fun _=>none
noncomputable def M.opt {α:Type}:Option α->M α
 | some a=>M.ret a
 | none=>M.no
inductive Rz where
 | dat (d:D) | nw (xs:List D)
inductive Pr where
 | add | sub | mul | fdiv | mod | pow | neg
 | eq | ne | lt | le | gt | ge | inn | nin
 | isN | noN
 | len | abs | max2 | min2 | maxL | minL | int1 | divmod | all | sum | list | tuple | sorted | sortset | lenset | str1
 | ix | rev | rgl
 | count | index | repr
inductive Kd where
 | int | bool | str | tuple | list | dict | cls (c:Nat) | verr
mutual
inductive E where
 | c (d:D)
 | v (i:Nat)
 | pr (fz:Bool) (p:Pr) (xs:Es)
 | ch2 (p q:Pr) (a b c:E)
 | ch3 (p q r:Pr) (a b c d:E)
 | and (a b:E)
 | or (a b:E)
 | not (a:E)
 | ite (c a b:E)
 | tup (xs:Es)
 | lst (fz:Bool) (xs:Es)
 | dct1 (k:Str) (i:Int)
 | call (f:Nat) (xs:Es)
 | isi (a:E) (k:Kd)
 | sl (fz:Bool) (a:E) (lo hi:Eo)
 | meth (fz:Bool) (p:Pr) (k:Kd) (o:E) (xs:Es)
 | push (o a:E)
 | pop (o:E)
 | comp (fz:Bool) (elt:E) (tg:List Nat) (it:Wk) (fr:List Nat) (many:Nat) (cond:Eo)
 | comp2 (fz:Bool) (elt:E) (tg:List Nat) (it:Wk) (tg2:List Nat) (it2:Wk) (fr:List Nat) (many:Nat) (cond:Eo)
 | fld (o:E) (cs:List Nat) (i:Nat)
 | mk (c:Nat) (xs:Es)
 | sortk (fz:Bool) (a:E) (b:E)
 | no
inductive Wk where
 | seq (e:E)
 | rg (a b:E)
 | zip (a b:E)
 | enum (a:E)
 | rrg (a:E)
inductive Es where
 | nil
 | cons (a:E) (r:Es)
inductive Eo where
 | no
 | yes (a:E)
end
noncomputable def Es.len:Es->Nat
 | .nil=>0
 | .cons _ r=>r.len + 1
inductive Tg where
 | nm (i:Nat)
 | tp (is:List Nat)
 | sub (o i:E)
mutual
inductive St where
 | pass
 | ex (e:E)
 | asg (t:Tg) (e:E)
 | par (i j:Nat) (a b:E)
 | aug (i:Nat) (e:E)
 | ret (e:E)
 | rise (c:Nat) (kp:Bool) (xs:Es)
 | iff (c:E) (t e:Sts)
 | wh (c:E) (b:Sts)
 | fr (t:Tg) (w:Wk) (b:Sts)
 | tryc (b:Sts) (d:Nat) (i:Nat) (h:Sts)
 | no
inductive Sts where
 | nil
 | cons (a:St) (r:Sts)
end
noncomputable def deqs (eq:D->D->Option Bool):List D->List D->Option Bool
 | [],[]=>some true
 | [],_::_=>some false
 | _::_,[]=>some false
 | x::xs,y::ys=>match eq x y,deqs eq xs ys with
  | some a,some b=>some (a && b)
  | _,_=>none
noncomputable def kq:D->Option Nat
 | .non=>some 0
 | .bl _=>some 1
 | .int _=>some 1
 | .str _=>some 2
 | .tup _=>some 3
 | .fl _=>some 4
 | _=>none
noncomputable def deq:Nat->D->D->Option Bool
 | n + 1,.tup xs,.tup ys=>deqs (deq n) xs ys
 | n + 1,.fl xs,.fl ys=>deqs (deq n) xs ys
 | _,.non,.non=>some true
 | _,.bl a,.bl b=>some (a == b)
 | _,.int a,.int b=>some (a == b)
 | _,.str a,.str b=>some (a == b)
 | _,.bl a,.int b=>some ((if a then 1 else 0) == b)
 | _,.int a,.bl b=>some (a == (if b then 1 else 0))
 | _,a,b=>match kq a,kq b with
  | some i,some j=>if i = j then none else some false
  | _,_=>none
noncomputable def isInts:List D->Option (List Int)
 | []=>some []
 | .int i::r=>(isInts r).map (i::·)
 | _=>none
noncomputable def ltI:List Int->List Int->Bool
 | _,[]=>false
 | [],_::_=>true
 | x::xs,y::ys=>if x = y then ltI xs ys else decide (x < y)
noncomputable def allBl:List D->Option (List Bool)
 | []=>some []
 | .bl b::r=>(allBl r).map (b::·)
 | _=>none
noncomputable def cut {α:Type} (xs:List α) (lo hi:Option Int):List α:=(xs.drop (HT.sIx xs.length 0 lo)).take (HT.sIx xs.length xs.length hi - HT.sIx xs.length 0 lo)
noncomputable def sqOf:D->Option (List D)
 | .tup xs=>some xs
 | .fl xs=>some xs
 | _=>none
noncomputable def cutD (x:D) (lo hi:Option Int):Option Rz:=match x with
 | .tup xs=>some (.dat (.tup (cut xs lo hi)))
 | .fl xs=>some (.nw (cut xs lo hi))
 | _=>none
noncomputable def memD (d:D):List D->Option Bool
 | []=>some false
 | x::r=>match deq 50 x d,memD d r with
  | some a,some b=>some (a || b)
  | _,_=>none
noncomputable def kindIs:Kd->D->Bool
 | .list,.fl _=>true
 | .str,.str _=>true
 | .dict,.fd _ _=>true
 | _,_=>false
noncomputable def pInt2 (f:Int->Int->Option D):List D->Option Rz
 | [.int i,.int j]=>(f i j).map .dat
 | _=>none
noncomputable def pInt1 (f:Int->D):List D->Option Rz
 | [.int i]=>some (.dat (f i))
 | _=>none
noncomputable def pSq1 (f:List D->Option Rz):List D->Option Rz
 | [a]=>(sqOf a).bind f
 | _=>none
noncomputable def pAdd:List D->Option Rz
 | [.int i,.int j]=>some (.dat (.int (i + j)))
 | [.tup xs,.tup ys]=>if xs.length + ys.length<=sizeLine then some (.dat (.tup (xs ++ ys))) else none
 | [.fl xs,.fl ys]=>if xs.length + ys.length<=sizeLine then some (.nw (xs ++ ys)) else none
 | [.str x,.str y]=>if x.length + y.length<=sizeLine then some (.dat (.str (x ++ y))) else none
 | _=>none
noncomputable def pLt:List D->Option Rz
 | [.int i,.int j]=>some (.dat (.bl (decide (i < j))))
 | [.tup xs,.tup ys]=>match isInts xs,isInts ys with
  | some a,some b=>some (.dat (.bl (ltI a b)))
  | _,_=>none
 | _=>none
noncomputable def pEq (f:Bool->Bool):List D->Option Rz
 | [a,b]=>(deq 50 a b).map fun k=>.dat (.bl (f k))
 | _=>none
noncomputable def pIn (f:Bool->Bool):List D->Option Rz
 | [a,b]=>((sqOf b).bind (memD a)).map fun k=>.dat (.bl (f k))
 | _=>none
noncomputable def D.isNon:D->Bool
 | .non=>true
 | _=>false
noncomputable def pIsN (f:Bool->Bool):List D->Option Rz
 | [a]=>some (.dat (.bl (f a.isNon)))
 | _=>none
noncomputable def pInt:List D->Option Rz
 | [.int i]=>some (.dat (.int i))
 | [.bl k]=>some (.dat (.int (if k then 1 else 0)))
 | _=>none
noncomputable def pAll:List D->Option Rz
 | [.fl xs]=>(allBl xs).map fun bs=>.dat (.bl (bs.all id))
 | _=>none
noncomputable def allInt:List D->Option (List Int)
 | []=>some []
 | .int i::r=>(allInt r).map (i::·)
 | _=>none
noncomputable def best (bt:Int->Int->Bool) (i:Int) (is:List Int):Int:=is.foldl (fun m j=>if bt j m then j else m) i
noncomputable def bestO (bt:Int->Int->Bool):Option (List Int)->Option Rz
 | some (i::is)=>some (.dat (.int (best bt i is)))
 | _=>none
noncomputable def pBest (bt:Int->Int->Bool):List D->Option Rz
 | [a]=>(sqOf a).bind fun xs=>bestO bt (allInt xs)
 | _=>none
noncomputable def okR (i j:Int):Bool:=decide (-(2 ^ 62)<=i/\i < 2 ^ 62/\-(2 ^ 62)<=j/\j < 2 ^ 62/\(j - i).toNat<=65536)
noncomputable def rgD (i:Int) (n:Nat):List D:=(List.range n).map fun k=>.int (i + (k:Nat))
noncomputable def pRgl:List D->Option Rz
 | [.int j]=>if okR 0 j then some (.nw (rgD 0 (j - 0).toNat)) else none
 | [.int i,.int j]=>if okR i j then some (.nw (rgD i (j - i).toNat)) else none
 | _=>none
noncomputable def pTuple:List D->Option Rz
 | [a]=>(sqOf a).map fun xs=>.dat (.tup xs)
 | _=>none
noncomputable def pIx:List D->Option Rz
 | [a,.int i]=>((sqOf a).bind fun xs=>L2.atI xs i).map .dat
 | _=>none
noncomputable def lexD:List D->List D->Option Bool
 | [],ys=>some (decide (0 < ys.length))
 | _::_,[]=>some false
 | .int x::xs,.int y::ys=>if x = y then lexD xs ys else some (decide (x < y))
 | _::_,_::_=>none
noncomputable def ltD (xs:List D) (i j:Nat):Option Bool:=match xs[i]?,xs[j]? with
 | some (.int x),some (.int y)=>some (decide (x < y))
 | some (.tup us),some (.tup ws)=>lexD us ws
 | _,_=>none
noncomputable def isIntD:D->Bool
 | .int _=>true
 | _=>false
noncomputable def isRowD:D->Bool
 | .tup (.int _::_)=>true
 | _=>false
noncomputable def srtBy (lt:Nat->Nat->Option Bool) (xs:List D):Option (List D):=if xs.length < 2 then some xs else if xs.length < 64 then (match L2.kasRun lt (PySem.W.kas_sort xs.length) with
  | some p=>if p.size = xs.length then some (p.toList.map fun i=>xs.getD i .non) else none
  | none=>none) else none
noncomputable def srt (xs:List D):Option (List D):=if xs.all isIntD || xs.all isRowD then srtBy (ltD xs) xs else none
noncomputable def pSorted:List D->Option Rz
 | [.fl xs]=>(srt xs).map .nw
 | _=>none
noncomputable def ltK (ks:List Int) (i j:Nat):Option Bool:=match ks[i]?,ks[j]? with
 | some x,some y=>some (decide (x < y))
 | _,_=>none
noncomputable def pRev:List D->Option Rz
 | [.tup xs]=>some (.dat (.tup xs.reverse))
 | _=>none
noncomputable def pCount:List D->Option Rz
 | [.fl xs,.bl b]=>(allBl xs).map fun bs=>.dat (.int (bs.count b))
 | _=>none
noncomputable def pIndex:List D->Option Rz
 | [.fl xs,.bl b]=>((allBl xs).bind fun bs=>bs.idxOf? b).map fun (i:Nat)=>.dat (.int i)
 | _=>none
noncomputable def pStr:List D->Option Rz
 | [.int i]=>if i.natAbs < 2 ^ 62 then some (.dat (.str (Str.ofString (toString i)))) else none
 | _=>none
noncomputable def pds (f:D->Option PyData):List D->Option (List PyData)
 | []=>some []
 | x::r=>match f x,pds f r with
  | some a,some b=>some (a::b)
  | _,_=>none
noncomputable def pd:Nat->D->Option PyData
 | n + 1,.tup xs=>(pds (pd n) xs).map .tuple
 | n + 1,.fl xs=>(pds (pd n) xs).map .list
 | _,.non=>some .none
 | _,.bl b=>some (.bool b)
 | _,.int i=>some (.int i)
 | _,.str x=>some (.str x)
 | _,_=>none
noncomputable def pdT:D->Option PyData
 | .fd [.str k] [.int i]=>some (.dict [(.str k,.int i)])
 | x=>pd 40 x
noncomputable def shw (d:PyData):Option Rz:=if d.showable = true/\d.shown.length<=sizeLine then some (.dat (.str d.shown)) else none
noncomputable def pRepr:List D->Option Rz
 | [x]=>(pdT x).bind shw
 | _=>none
noncomputable def prim:Pr->List D->Option Rz
 | .add=>pAdd
 | .sub=>pInt2 fun i j=>some (.int (i - j))
 | .mul=>pInt2 fun i j=>if (-(2 ^ 64) < i/\i < 2 ^ 64)\/(-(2 ^ 64) < j/\j < 2 ^ 64) then some (.int (i * j)) else none
 | .fdiv=>pInt2 fun i j=>if 0 < j/\j < 1073741824 then some (.int (i / j)) else none
 | .mod=>pInt2 fun i j=>if 0 < j then some (.int (i % j)) else none
 | .pow=>pInt2 fun i j=>if 0<=j/\j<=1000000/\i.natAbs < 2 ^ 64 then some (.int (i ^ j.toNat)) else none
 | .neg=>pInt1 fun i=>.int (-i)
 | .eq=>pEq id
 | .ne=>pEq not
 | .lt=>pLt
 | .le=>pInt2 fun i j=>some (.bl (decide (i<=j)))
 | .gt=>pInt2 fun i j=>some (.bl (decide (j < i)))
 | .ge=>pInt2 fun i j=>some (.bl (decide (j<=i)))
 | .inn=>pIn id
 | .nin=>pIn not
 | .isN=>pIsN id
 | .noN=>pIsN not
 | .len=>pSq1 fun xs=>some (.dat (.int xs.length))
 | .abs=>pInt1 fun i=>.int (if i < 0 then -i else i)
 | .max2=>pInt2 fun i j=>some (.int (if j > i then j else i))
 | .min2=>pInt2 fun i j=>some (.int (if j < i then j else i))
 | .int1=>pInt
 | .divmod=>pInt2 fun i j=>if 0 < j/\j < 1073741824 then some (.tup [.int (i / j),.int (i % j)]) else none
 | .all=>pAll
 | .rgl=>pRgl
 | .maxL=>pBest fun a b=>decide (a > b)
 | .minL=>pBest fun a b=>decide (a < b)
 | .list=>pSq1 fun xs=>some (.nw xs)
 | .tuple=>pTuple
 | .ix=>pIx
 | .rev=>pRev
 | .sorted=>pSorted
 | .count=>pCount
 | .index=>pIndex
 | .repr=>pRepr
 | .str1=>pStr
 | _=>fun _=>none
noncomputable def isiOf (sub:Nat->Nat->Bool):D->Kd->Option Bool
 | .exc c _,.cls e=>some (sub c e)
 | .exc _ _,.verr=>some true
 | .exc _ _,_=>none
 | .ob _ _,_=>none
 | _,.cls _=>none
 | _,.verr=>none
 | .bl _,.bool=>some true
 | .bl _,.int=>some true
 | .bl _,_=>some false
 | .int _,.int=>some true
 | .int _,_=>some false
 | .non,_=>some false
 | .str _,.str=>some true
 | .str _,_=>some false
 | .tup _,.tuple=>some true
 | .tup _,_=>some false
 | .fl _,.list=>some true
 | .fl _,_=>some false
 | .fd _ _,.dict=>some true
 | .fd _ _,_=>some false
noncomputable def rd (x:Xv):M D:=fun s=>match x with
 | .d v=>some (.ok v,s)
 | .l n=>match s[n]? with
  | some (.lst xs)=>some (.ok (.fl xs),s)
  | _=>none
noncomputable def rds:List Xv->M (List D)
 | []=>M.ret []
 | x::r=>M.bd (rd x) fun d=>M.bd (rds r) fun ds=>M.ret (d::ds)
noncomputable def dat (x:Xv):M D:=match x with
 | .d v=>M.ret v
 | .l _=>M.no
noncomputable def dats:List Xv->M (List D)
 | []=>M.ret []
 | x::r=>M.bd (dat x) fun d=>M.bd (dats r) fun ds=>M.ret (d::ds)
noncomputable def bool (x:Xv):M Bool:=match x with
 | .d (.bl b)=>M.ret b
 | _=>M.no
noncomputable def int (x:Xv):M Int:=match x with
 | .d (.int b)=>M.ret b
 | _=>M.no
noncomputable def newL (fz:Bool) (xs:List D):M Xv:=match fz with
 | true=>M.ret (.d (.fl xs))
 | false=>fun s=>some (.ok (.l s.length),s ++ [.lst xs])
noncomputable def outz (fz:Bool) (o:Option Rz):M Xv:=match o with
 | some (.dat d)=>M.ret (.d d)
 | some (.nw xs)=>newL fz xs
 | none=>M.no
noncomputable def lstAt (x:Xv):M (Nat × List D):=fun s=>match x with
 | .l n=>match s[n]? with
  | some (.lst xs)=>some (.ok (n,xs),s)
  | _=>none
 | _=>none
noncomputable def putL (n:Nat) (xs:List D):M Unit:=fun s=>some (.ok (),s.set n (.lst xs))
noncomputable def enumFrom:Nat->List D->List D
 | _,[]=>[]
 | i,x::r=>.tup [.int i,x]::enumFrom (i + 1) r
inductive Src where
 | fix (xs:List D) | live (n:Nat) | liveE (n:Nat)
noncomputable def Src.at (c:Src) (i:Nat) (s:S):Option (Option D):=match c with
 | .fix xs=>some xs[i]?
 | .live n=>match s[n]? with
  | some (.lst xs)=>some xs[i]?
  | _=>none
 | .liveE n=>match s[n]? with
  | some (.lst xs)=>some (xs[i]?.map fun x=>.tup [.int i,x])
  | _=>none
noncomputable def enumS (x:Xv):M (Src × Nat):=fun s=>match x with
 | .d (.fl xs)=>some (.ok (.fix (enumFrom 0 xs),(enumFrom 0 xs).length),s)
 | .l n=>match s[n]? with
  | some (.lst xs)=>some (.ok (.liveE n,xs.length),s)
  | _=>none
 | _=>none
noncomputable def src (x:Xv):M (Src × Nat):=fun s=>match x with
 | .d (.tup xs)=>some (.ok (.fix xs,xs.length),s)
 | .d (.fl xs)=>some (.ok (.fix xs,xs.length),s)
 | .l n=>match s[n]? with
  | some (.lst xs)=>some (.ok (.live n,xs.length),s)
  | _=>none
 | _=>none
noncomputable def seqD (x:Xv):M (List D):=match x with
 | .d (.tup xs)=>M.ret xs
 | .d (.fl xs)=>M.ret xs
 | _=>M.no
noncomputable def rgL (a b:Int):List D:=(List.range (b - a).toNat).map fun (i:Nat)=>.int (a + i)
noncomputable def rgOk (a:Int):Bool:=decide (-(2 ^ 62) < a) && decide (a < 2 ^ 62)
noncomputable def walk (c:Src) (f:D->List D->M (List D)):Nat->Nat->List D->M (List D)
 | 0,_,_=>M.no
 | k + 1,i,acc=>fun s=>match c.at i s with
  | none=>none
  | some none=>some (.ok acc,s)
  | some (some x)=>M.bd (f x acc) (fun acc'=>walk c f k (i + 1) acc') s
noncomputable def keysM (f:D->M Xv):List D->M (List Int)
 | []=>M.ret []
 | x::r=>M.bd (M.qt (f x)) fun y=>M.bd (int y) fun k=>M.bd (keysM f r) fun ks=>M.ret (k::ks)
noncomputable abbrev Vs:=List (Option Xv)
noncomputable abbrev Fn:=Nat->List Xv->M Xv
noncomputable def locs:List Xv->List Nat
 | []=>[]
 | .d _::r=>locs r
 | .l n::r=>n::locs r
noncomputable def renam:Nat->List Xv->List Xv
 | _,[]=>[]
 | k,.d v::r=>.d v::renam k r
 | k,.l _::r=>.l k::renam (k + 1) r
noncomputable def subS (s:S):List Nat->Option S
 | []=>some []
 | n::r=>match s[n]?,subS s r with
  | some o,some q=>some (o::q)
  | _,_=>none
noncomputable def wback (s:S):List Nat->S->S
 | n::r,o::q=>wback (s.set n o) r q
 | _,_=>s
noncomputable def callW (F:List Xv->M Xv) (xs:List Xv):M Xv:=fun s=>
 if (locs xs).Nodup then match subS s (locs xs) with
  | none=>none
  | some s0=>match F (renam 0 xs) s0 with
   | none=>none
   | some (.er c fs,s1)=>some (.er c fs,wback s (locs xs) s1)
   | some (.ok (.d v),s1)=>some (.ok (.d v),wback s (locs xs) s1)
   | some (.ok (.l n),s1)=>match (locs xs)[n]? with
    | some m=>some (.ok (.l m),wback s (locs xs) s1)
    | none=>match s1[n]? with
     | some o=>some (.ok (.l s.length),wback s (locs xs) s1 ++ [o])
     | none=>none
 else none
noncomputable def setAll {α:Type}:List Nat->List α->List (Option α)->Option (List (Option α))
 | [],[],τ=>some τ
 | i::is,d::ds,τ=>setAll is ds (τ.set i (some d))
 | _,_,_=>none
noncomputable def tupOf:D->Option (List D)
 | .tup xs=>some xs
 | _=>none
noncomputable def setTg (tg:List Nat) (x:D) (τ:Vs):Option Vs:=match tg with
 | [i]=>some (τ.set i (some (.d x)))
 | is=>(tupOf x).bind fun ds=>setAll is (ds.map .d) τ
noncomputable def blk (many:Nat) (fr:List Nat) (τ:Vs):Vs:=List.replicate many none ++ fr.map fun j=>τ[j]?.join
section
variable (sub:Nat->Nat->Bool) (calm:Bool) (F:Fn)
mutual
noncomputable def ev:E->Vs->M Xv
 | .c d,_=>M.ret (.d d)
 | .v i,τ=>M.opt (τ[i]?.join)
 | .pr fz p xs,τ=>M.bd (evs xs τ) fun vs=>M.bd (rds vs) fun ds=>outz fz (prim p ds)
 | .ch2 p q a b c,τ=>M.bd (ev a τ) fun x=>M.bd (ev b τ) fun y=>M.bd (rds [x,y]) fun ds=>M.bd (outz true (prim p ds)) fun t=>M.bd (bool t) fun k=>
   if k = true then M.bd (ev c τ) fun z=>M.bd (rds [y,z]) fun ds=>outz true (prim q ds) else M.ret (.d (.bl false))
 | .ch3 p q r a b c d,τ=>M.bd (ev a τ) fun x=>M.bd (ev b τ) fun y=>M.bd (rds [x,y]) fun ds=>M.bd (outz true (prim p ds)) fun t=>M.bd (bool t) fun k=>
   if k = true then M.bd (ev c τ) fun z=>M.bd (rds [y,z]) fun ds=>M.bd (outz true (prim q ds)) fun t=>M.bd (bool t) fun k2=>
    if k2 = true then M.bd (ev d τ) fun w=>M.bd (rds [z,w]) fun ds=>outz true (prim r ds) else M.ret (.d (.bl false))
   else M.ret (.d (.bl false))
 | .and a b,τ=>M.bd (ev a τ) fun x=>M.bd (bool x) fun k=>if k = true then ev b τ else M.ret (.d (.bl false))
 | .or a b,τ=>M.bd (ev a τ) fun x=>M.bd (bool x) fun k=>if k = true then M.ret (.d (.bl true)) else ev b τ
 | .not a,τ=>M.bd (ev a τ) fun x=>M.bd (bool x) fun k=>M.ret (.d (.bl (!k)))
 | .ite c a b,τ=>M.bd (ev c τ) fun x=>M.bd (bool x) fun k=>if k = true then ev a τ else ev b τ
 | .tup xs,τ=>M.bd (evs xs τ) fun vs=>M.bd (dats vs) fun ds=>M.ret (.d (.tup ds))
 | .lst fz xs,τ=>M.bd (evs xs τ) fun vs=>M.bd (dats vs) fun ds=>newL fz ds
 | .dct1 k i,_=>M.ret (.d (.fd [.str k] [.int i]))
 | .call f xs,τ=>M.bd (evs xs τ) fun vs=>callW (F f) vs
 | .isi a k,τ=>M.bd (ev a τ) fun x=>M.bd (rd x) fun d=>M.bd (M.opt (isiOf sub d k)) fun b=>M.ret (.d (.bl b))
 | .sl fz a lo hi,τ=>M.bd (ev a τ) fun x=>M.bd (evo lo τ) fun l=>M.bd (evo hi τ) fun h=>M.bd (rd x) fun d=>outz fz (cutD d l h)
 | .meth fz p k o xs,τ=>M.bd (ev o τ) fun x=>M.bd (rd x) fun d=>if kindIs k d = true then M.bd (evs xs τ) fun ys=>M.bd (rds (x::ys)) fun ds=>outz fz (prim p ds) else M.no
 | .push o a,τ=>M.bd (ev o τ) fun x=>M.bd (lstAt x) fun _=>M.bd (ev a τ) fun y=>M.bd (dat y) fun d=>M.bd (lstAt x) fun nx=>if nx.2.length < sizeLine then M.bd (putL nx.1 (nx.2 ++ [d])) fun _=>M.ret (.d .non) else M.no
 | .pop o,τ=>M.bd (ev o τ) fun x=>M.bd (lstAt x) fun nx=>match nx.2.getLast? with
   | some d=>M.bd (putL nx.1 nx.2.dropLast) fun _=>M.ret (.d d)
   | none=>M.no
 | .comp fz elt tg it fr many cond,τ=>if calm = true then M.bd (wks it τ) fun cn=>
   M.bd (walk cn.1 (fun d acc=>M.bd (M.opt (setTg tg d (blk many fr τ))) fun τ'=>M.bd (M.qt (evc cond τ')) fun ok=>
    if ok = true then M.bd (M.qt (ev elt τ')) fun y=>M.bd (dat y) fun e=>if acc.length < sizeLine then M.ret (acc ++ [e]) else M.no else M.ret acc) (cn.2 + 1) 0 []) fun xs=>newL fz xs
  else M.no
 | .comp2 fz elt tg it tg2 it2 fr many cond,τ=>if calm = true then M.bd (wks it τ) fun cn=>
   M.bd (walk cn.1 (fun d acc=>M.bd (M.opt (setTg tg d (blk many fr τ))) fun τ'=>M.bd (M.qt (wks it2 τ')) fun cn2=>
    walk cn2.1 (fun d2 acc=>M.bd (M.opt (setTg tg2 d2 τ')) fun τ''=>M.bd (M.qt (evc cond τ'')) fun ok=>
     if ok = true then M.bd (M.qt (ev elt τ'')) fun y=>M.bd (dat y) fun e=>if acc.length < sizeLine then M.ret (acc ++ [e]) else M.no else M.ret acc) (cn2.2 + 1) 0 acc) (cn.2 + 1) 0 []) fun xs=>newL fz xs
  else M.no
 | .fld o cs i,τ=>M.bd (ev o τ) fun x=>match x with
   | .d (.exc c fs)=>if cs.contains c = true then M.opt (fs[i]?.map .d) else M.no
   | _=>M.no
 | .mk c xs,τ=>M.bd (evs xs τ) fun vs=>M.bd (dats vs) fun ds=>M.ret (.d (.ob c ds))
 | .sortk fz a b,τ=>if calm = true then M.bd (ev a τ) fun x=>match x with
   | .d (.fl xs)=>M.bd (keysM (fun d=>ev b [some (.d d)]) xs) fun ks=>M.bd (M.opt (srtBy (ltK ks) xs)) fun ys=>newL fz ys
   | _=>M.no else M.no
 | .no,_=>M.no
noncomputable def wks:Wk->Vs->M (Src × Nat)
 | .seq e,τ=>M.bd (ev e τ) src
 | .rg a b,τ=>M.bd (ev a τ) fun x=>M.bd (ev b τ) fun y=>M.bd (int x) fun i=>M.bd (int y) fun j=>if rgOk i && rgOk j then M.ret (.fix (rgL i j),(rgL i j).length) else M.no
 | .zip a b,τ=>M.bd (ev a τ) fun x=>M.bd (ev b τ) fun y=>M.bd (seqD x) fun xs=>M.bd (seqD y) fun ys=>M.ret (.fix (List.zipWith (fun p q=>.tup [p,q]) xs ys),(List.zipWith (fun (p q:D)=>D.tup [p,q]) xs ys).length)
 | .enum a,τ=>M.bd (ev a τ) enumS
 | .rrg a,τ=>M.bd (ev a τ) fun x=>M.bd (int x) fun i=>if rgOk i then M.ret (.fix (rgL 0 i).reverse,(rgL 0 i).length) else M.no
noncomputable def evo:Eo->Vs->M (Option Int)
 | .no,_=>M.ret none
 | .yes a,τ=>M.bd (ev a τ) fun x=>M.bd (int x) fun i=>M.ret (some i)
noncomputable def evc:Eo->Vs->M Bool
 | .no,_=>M.ret true
 | .yes a,τ=>M.bd (ev a τ) bool
noncomputable def evs:Es->Vs->M (List Xv)
 | .nil,_=>M.ret []
 | .cons a r,τ=>M.bd (ev a τ) fun x=>M.bd (evs r τ) fun xs=>M.ret (x::xs)
end
end
inductive Out where
 | nx (τ:Vs) | rt (x:Xv) | bk (τ:Vs) | ct (τ:Vs) | er (c:Nat) (fs:List D) (τ:Vs)
noncomputable abbrev MS:=S->Option (Out × S)
noncomputable def ofM {α:Type} (m:M α) (τ:Vs) (k:α->MS):MS:=fun s=>match m s with
 | some (.ok a,s')=>k a s'
 | some (.er c fs,s')=>some (.er c fs τ,s')
 | none=>none
noncomputable def thenS (m:MS) (k:Vs->MS):MS:=fun s=>match m s with
 | some (.nx τ,s')=>k τ s'
 | r=>r
section
variable (sub:Nat->Nat->Bool)
noncomputable def store (calm:Bool) (F:Fn) (t:Tg) (x:Xv) (τ:Vs):MS:=match t with
 | .nm i=>fun s=>some (.nx (τ.set i (some x)),s)
 | .tp is=>if calm = true then ofM (M.bd (dat x) fun d=>M.opt ((tupOf d).bind fun ds=>setAll is (ds.map .d) τ)) τ (fun τ' s=>some (.nx τ',s)) else fun _=>none
 | .sub o i=>ofM (M.bd (dat x) fun d=>M.bd (ev sub calm F o τ) fun y=>M.bd (ev sub calm F i τ) fun z=>M.bd (int z) fun j=>M.bd (lstAt y) fun nx=>
   match L2.ixN nx.2.length j with
   | some q=>putL nx.1 (nx.2.set q d)
   | none=>M.no) τ (fun _ s=>some (.nx τ,s))
noncomputable def whileS (c:Vs->M Bool) (b:Vs->MS):Nat->Vs->MS
 | 0,_=>fun _=>none
 | k + 1,τ=>ofM (c τ) τ fun ok=>if ok = true then fun s=>match b τ s with
   | some (.nx τ',s')=>whileS c b k τ' s'
   | some (.ct τ',s')=>whileS c b k τ' s'
   | some (.bk τ',s')=>some (.nx τ',s')
   | r=>r
  else fun s=>some (.nx τ,s)
noncomputable def forS (c:Src) (b:D->Vs->MS):Nat->Nat->Vs->MS
 | 0,_,_=>fun _=>none
 | k + 1,i,τ=>fun s=>match c.at i s with
  | none=>none
  | some none=>some (.nx τ,s)
  | some (some d)=>match b d τ s with
   | some (.nx τ',s')=>forS c b k (i + 1) τ' s'
   | some (.ct τ',s')=>forS c b k (i + 1) τ' s'
   | some (.bk τ',s')=>some (.nx τ',s')
   | r=>r
noncomputable def goes (i:Nat):Out->Out
 | .nx τ=>.nx (τ.set i none)
 | .bk τ=>.bk (τ.set i none)
 | .ct τ=>.ct (τ.set i none)
 | r=>r
noncomputable def wFuel:Nat:=1000000000000
mutual
noncomputable def ex (calm:Bool) (F:Bool->Fn):St->Vs->MS
 | .pass,τ=>fun s=>some (.nx τ,s)
 | .ex e,τ=>ofM (ev sub calm (F calm) e τ) τ fun _ s=>some (.nx τ,s)
 | .asg t e,τ=>ofM (ev sub calm (F calm) e τ) τ fun x=>store sub calm (F calm) t x τ
 | .par i j a b,τ=>if calm = true then ofM (M.bd (ev sub calm (F calm) a τ) fun x=>M.bd (ev sub calm (F calm) b τ) fun y=>M.ret (x,y)) τ fun xy s=>some (.nx ((τ.set i (some xy.1)).set j (some xy.2)),s) else fun _=>none
 | .aug i e,τ=>ofM (M.bd (M.opt (τ[i]?.join)) fun x=>M.bd (ev sub calm (F calm) e τ) fun y=>M.bd (int x) fun p=>M.bd (int y) fun q=>M.ret (p + q)) τ fun r s=>some (.nx (τ.set i (some (.d (.int r)))),s)
 | .ret e,τ=>ofM (ev sub calm (F calm) e τ) τ fun x s=>some (.rt x,s)
 | .rise c kp xs,τ=>if calm = true then ofM (M.bd (evs sub calm (F calm) xs τ) dats) τ fun ds s=>some (.er c (if kp = true then ds else []) τ,s) else fun _=>none
 | .iff c t e,τ=>ofM (M.bd (ev sub calm (F calm) c τ) bool) τ fun b=>if b = true then exs calm F t τ else exs calm F e τ
 | .wh c b,τ=>whileS (fun τ=>M.bd (ev sub calm (F calm) c τ) bool) (fun τ=>exs calm F b τ) wFuel τ
 | .fr t w b,τ=>if calm = true then ofM (wks sub calm (F calm) w τ) τ fun cn=>forS cn.1 (fun d τ=>thenS (store sub calm (F calm) t (.d d) τ) fun τ'=>exs calm F b τ') (cn.2 + 1) 0 τ else fun _=>none
 | .tryc b d i h,τ=>if calm = true then fun s=>match exs calm F b τ s with
   | some (.er c fs τ',s')=>if sub c d = true then (match exs false F h (τ'.set i (some (.d (.exc c fs)))) s' with
    | some (r,s'')=>(match r with
     | .er _ _ _=>none
     | r=>some (goes i r,s''))
    | none=>none) else none
   | r=>r
  else fun _=>none
 | .no,_=>fun _=>none
noncomputable def exs (calm:Bool) (F:Bool->Fn):Sts->Vs->MS
 | .nil,τ=>fun s=>some (.nx τ,s)
 | .cons a r,τ=>thenS (ex calm F a τ) fun τ'=>exs calm F r τ'
end
structure Df where
 many:Nat
 pars:Nat
 body:Sts
noncomputable def call (T:Nat->Option Df):Nat->Bool->Fn
 | 0,_,_,_=>M.no
 | k + 1,calm,f,xs=>match T f with
  | none=>M.no
  | some d=>if xs.length = d.pars then fun s=>match exs sub calm (fun c=>call T k c) d.body (xs.map some ++ List.replicate (d.many - d.pars) none) s with
    | some (.nx _,s')=>some (.ok (.d .non),s')
    | some (.rt v,s')=>some (.ok v,s')
    | some (.er c fs _,s')=>some (.er c fs,s')
    | _=>none
   else M.no
end
end Mi
set_option Elab.async false
set_option linter.all false
set_option maxRecDepth 100000
set_option maxHeartbeats 4000000
namespace Mi
open PySem L2
structure Ph where
 z:Addr->Prop
 l:List Addr
structure Cl where
 a:Nat->Addr
 f:Nat->List Str
section
variable (K:PySem.W.Frag) (cA:Cl)
noncomputable def KT (a:Addr) (vs:List V):Prop:=SqT K (fun _=>none) a vs
noncomputable def KL (a:Addr) (vs:List V):Prop:=SqL K (fun _=>none) a vs
noncomputable def TupAt (φ:Ph) (H:Hp) (a:Addr) (vs:List V):Prop:=(Rd H a (.tup vs)/\¬ φ.z a)\/KT K a vs
noncomputable def LstAt (φ:Ph) (H:Hp) (a:Addr) (vs:List V):Prop:=(Rd H a (.lst vs)/\¬ φ.z a)\/KL K a vs
noncomputable def ExcAt (φ:Ph) (H:Hp) (a:Addr) (c:Nat) (vs:List V):Prop:=¬ φ.z a/\((cA.f c = []/\vs = []/\H a = some (excO a (cA.a c) none))\/∃ dx,H a = some (excO a (cA.a c) (some dx))/\¬ φ.z dx/\H dx = some (.xd ((cA.f c).zip vs))/\(cA.f c).length = vs.length)
noncomputable def ObAt (φ:Ph) (H:Hp) (a:Addr) (c:Nat) (vs:List V):Prop:=¬ φ.z a/\∃ dx,H a = some (.ins (cA.a c) dx ((cA.f c).zip vs))/\(cA.f c).length = vs.length
mutual
inductive Rep (φ:Ph) (H:Hp):D->V->Prop where
 | non:Rep φ H .non .non
 | bl (b:Bool):Rep φ H (.bl b) (.bl b)
 | int (i:Int):Rep φ H (.int i) (.int i)
 | str (x:Str):Rep φ H (.str x) (.str x)
 | tup {a:Addr} {xs:List D} {vs:List V} (h:TupAt K φ H a vs) (r:Reps φ H xs vs):Rep φ H (.tup xs) (.ref a)
 | fl {a:Addr} {xs:List D} {vs:List V} (h:LstAt K φ H a vs) (r:Reps φ H xs vs):Rep φ H (.fl xs) (.ref a)
 | fd {a:Addr} {k:Str} {i:Int} (h:H a = some (.dK [(.inr k,.int i)])) (n:¬ φ.z a):Rep φ H (.fd [.str k] [.int i]) (.ref a)
 | exc {a:Addr} {c:Nat} {xs:List D} {vs:List V} (h:ExcAt cA φ H a c vs) (r:Reps φ H xs vs):Rep φ H (.exc c xs) (.ref a)
 | ob {a:Addr} {c:Nat} {xs:List D} {vs:List V} (h:ObAt cA φ H a c vs) (r:Reps φ H xs vs):Rep φ H (.ob c xs) (.ref a)
inductive Reps (φ:Ph) (H:Hp):List D->List V->Prop where
 | nil:Reps φ H [] []
 | cons {d:D} {v:V} {ds:List D} {vs:List V} (h:Rep φ H d v) (r:Reps φ H ds vs):Reps φ H (d::ds) (v::vs)
end
inductive RepX (φ:Ph) (H:Hp):Xv->V->Prop where
 | d {x:D} {v:V} (h:Rep K cA φ H x v):RepX φ H (.d x) v
 | l {n:Nat} {a:Addr} (h:φ.l[n]? = some a):RepX φ H (.l n) (.ref a)
inductive RepXs (φ:Ph) (H:Hp):List Xv->List V->Prop where
 | nil:RepXs φ H [] []
 | cons {d:Xv} {v:V} {ds:List Xv} {vs:List V} (h:RepX K cA φ H d v) (r:RepXs φ H ds vs):RepXs φ H (d::ds) (v::vs)
noncomputable def ObR (φ:Ph) (H:Hp) (a:Addr):SO->Prop
 | .lst xs=>∃ vs,H a = some (.lst vs)/\Reps K cA φ H xs vs
 | .dct _ _=>False
structure RepS (φ:Ph) (H:Hp) (s:S):Prop where
 len:φ.l.length = s.length
 obj:∀ (n:Nat) o a,s[n]? = some o->φ.l[n]? = some a->ObR K cA φ H a o
 uniq:φ.l.Nodup
 lz:∀ a ∈ φ.l,φ.z a
 zt:∀ a,φ.z a->∃ o,H a = some o
structure Ext (φ:Ph) (H:Hp) (φ':Ph) (H':Hp):Prop where
 more:∃ r,φ'.l = φ.l ++ r/\∀ b ∈ r,H b = none
 zin:∀ a,φ.z a->φ'.z a
 znew:∀ a,φ'.z a->φ.z a\/H a = none
 frame:∀ a o,H a = some o->a ∉ φ.l->H' a = some o
 stay:∀ a o,H a = some o->∃ o',H' a = some o'
noncomputable def RepL (φ:Ph) (H:Hp) (σ:L2.St) (τ:Vs):Prop:=σ.length = τ.length/\∀ (i:Nat) (x:Xv),τ[i]? = some (some x)->∃ v,σ[i]? = some (some v)/\RepX K cA φ H x v
end
section
variable {K:PySem.W.Frag} {cA:Cl} {φ φ' φ'':Ph} {H H' H'':Hp} {s:S} {σ:L2.St} {τ:Vs}
theorem Ext.refl:Ext φ H φ H:=⟨⟨[],by simp,by simp⟩,fun _ h=>h,fun _ h=>.inl h,fun _ _ h _=>h,fun _ o h=>⟨o,h⟩⟩
theorem Ext.none_back (x:Ext φ H φ' H') {a:Addr} (h:H' a = none):H a = none:=by
 cases e:H a with
 | none=>rfl
 | some o=>obtain ⟨o',q⟩:=x.stay a o e; rw [h] at q; cases q
theorem Ext.trans (x:Ext φ H φ' H') (y:Ext φ' H' φ'' H''):Ext φ H φ'' H'':=by
 obtain ⟨r,e,hr⟩:=x.more
 obtain ⟨r',e',hr'⟩:=y.more
 refine ⟨⟨r ++ r',by rw [e',e,List.append_assoc],fun b hb=>?_⟩,fun a h=>y.zin a (x.zin a h),fun a h=>?_,fun a o h n=>y.frame a o (x.frame a o h n) ?_,fun a o h=>?_⟩
 ·rcases List.mem_append.mp hb with z | z
  ·exact hr b z
  ·exact x.none_back (hr' b z)
 ·rcases y.znew a h with z | z
  ·exact x.znew a z
  ·exact .inr (x.none_back z)
 ·rw [e]
  intro z
  rcases List.mem_append.mp z with z | z
  ·exact n z
  ·rw [hr a z] at h; cases h
 ·obtain ⟨o',q⟩:=x.stay a o h
  exact y.stay a o' q
theorem Ext.get (x:Ext φ H φ' H') {n:Nat} {a:Addr} (h:φ.l[n]? = some a):φ'.l[n]? = some a:=by
 obtain ⟨r,e,_⟩:=x.more
 rw [e,List.getElem?_append_left (List.getElem?_eq_some_iff.mp h).1]
 exact h
theorem Ext.out (x:Ext φ H φ' H') (hz:∀ a ∈ φ.l,φ.z a) {a:Addr} {o:HO} (h:H a = some o) (n:¬ φ.z a):H' a = some o/\¬ φ'.z a:=
 ⟨x.frame a o h fun z=>n (hz a z),fun z=>by
  rcases x.znew a z with y | y
  ·exact n y
  ·rw [h] at y; cases y⟩
theorem TupAt.mono (x:Ext φ H φ' H') (hz:∀ a ∈ φ.l,φ.z a) {a:Addr} {vs:List V} (h:TupAt K φ H a vs):TupAt K φ' H' a vs:=by
 rcases h with ⟨h | ⟨o,h⟩,n⟩ | h
 ·obtain ⟨p,q⟩:=x.out hz h n; exact .inl ⟨.inl p,q⟩
 ·obtain ⟨p,q⟩:=x.out hz h n; exact .inl ⟨.inr ⟨o,p⟩,q⟩
 ·exact .inr h
theorem LstAt.mono (x:Ext φ H φ' H') (hz:∀ a ∈ φ.l,φ.z a) {a:Addr} {vs:List V} (h:LstAt K φ H a vs):LstAt K φ' H' a vs:=by
 rcases h with ⟨h | ⟨o,h⟩,n⟩ | h
 ·obtain ⟨p,q⟩:=x.out hz h n; exact .inl ⟨.inl p,q⟩
 ·obtain ⟨p,q⟩:=x.out hz h n; exact .inl ⟨.inr ⟨o,p⟩,q⟩
 ·exact .inr h
theorem ExcAt.mono (x:Ext φ H φ' H') (hz:∀ a ∈ φ.l,φ.z a) {a:Addr} {c:Nat} {vs:List V} (h:ExcAt cA φ H a c vs):ExcAt cA φ' H' a c vs:=by
 obtain ⟨n,⟨e1,e2,h⟩ | ⟨dx,h,n2,h2,h3⟩⟩:=h
 ·obtain ⟨p,q⟩:=x.out hz h n; exact ⟨q,.inl ⟨e1,e2,p⟩⟩
 ·obtain ⟨p,q⟩:=x.out hz h n
  obtain ⟨p2,q2⟩:=x.out hz h2 n2
  exact ⟨q,.inr ⟨dx,p,q2,p2,h3⟩⟩
theorem ObAt.mono (x:Ext φ H φ' H') (hz:∀ a ∈ φ.l,φ.z a) {a:Addr} {c:Nat} {vs:List V} (h:ObAt cA φ H a c vs):ObAt cA φ' H' a c vs:=by
 obtain ⟨n,dx,h,h3⟩:=h
 obtain ⟨p,q⟩:=x.out hz h n
 exact ⟨q,dx,p,h3⟩
mutual
theorem Rep.mono (x:Ext φ H φ' H') (hz:∀ a ∈ φ.l,φ.z a):∀ {d:D} {v:V},Rep K cA φ H d v->Rep K cA φ' H' d v
 | _,_,.non=>.non
 | _,_,.bl b=>.bl b
 | _,_,.int i=>.int i
 | _,_,.str z=>.str z
 | _,_,.tup h r=>.tup (h.mono x hz) (Reps.mono x hz r)
 | _,_,.fl h r=>.fl (h.mono x hz) (Reps.mono x hz r)
 | _,_,.fd h n=>.fd (x.out hz h n).1 (x.out hz h n).2
 | _,_,.exc h r=>.exc (h.mono x hz) (Reps.mono x hz r)
 | _,_,.ob h r=>.ob (h.mono x hz) (Reps.mono x hz r)
theorem Reps.mono (x:Ext φ H φ' H') (hz:∀ a ∈ φ.l,φ.z a):∀ {ds:List D} {vs:List V},Reps K cA φ H ds vs->Reps K cA φ' H' ds vs
 | _,_,.nil=>.nil
 | _,_,.cons h r=>.cons (Rep.mono x hz h) (Reps.mono x hz r)
end
theorem RepX.mono (x:Ext φ H φ' H') (hz:∀ a ∈ φ.l,φ.z a) {d:Xv} {v:V} (h:RepX K cA φ H d v):RepX K cA φ' H' d v:=by
 cases h with
 | d h=>exact .d (h.mono x hz)
 | l h=>exact .l (x.get h)
theorem RepL.mono (x:Ext φ H φ' H') (hz:∀ a ∈ φ.l,φ.z a) (h:RepL K cA φ H σ τ):RepL K cA φ' H' σ τ:=⟨h.1,fun i d e=>let ⟨v,a,b⟩:=h.2 i d e; ⟨v,a,b.mono x hz⟩⟩
theorem Reps.len:∀ {ds:List D} {vs:List V},Reps K cA φ H ds vs->ds.length = vs.length
 | _,_,.nil=>rfl
 | _,_,.cons _ r=>by rw [List.length_cons,List.length_cons,Reps.len r]
theorem RepXs.len:∀ {ds:List Xv} {vs:List V},RepXs K cA φ H ds vs->ds.length = vs.length
 | _,_,.nil=>rfl
 | _,_,.cons _ r=>by rw [List.length_cons,List.length_cons,RepXs.len r]
theorem Reps.get:∀ {ds:List D} {vs:List V} {i:Nat} {d:D},Reps K cA φ H ds vs->ds[i]? = some d->∃ v,vs[i]? = some v/\Rep K cA φ H d v
 | _,_,_,_,.nil,e=>by simp at e
 | _,_,0,_,.cons h _,e=>by simp at e; subst e; exact ⟨_,rfl,h⟩
 | _,_,i + 1,d,.cons _ r,e=>by
  obtain ⟨v,a,b⟩:=Reps.get (i:=i) (d:=d) r (by simpa using e)
  exact ⟨v,by simpa using a,b⟩
theorem RepXs.get:∀ {ds:List Xv} {vs:List V} {i:Nat} {d:Xv},RepXs K cA φ H ds vs->ds[i]? = some d->∃ v,vs[i]? = some v/\RepX K cA φ H d v
 | _,_,_,_,.nil,e=>by simp at e
 | _,_,0,_,.cons h _,e=>by simp at e; subst e; exact ⟨_,rfl,h⟩
 | _,_,i + 1,d,.cons _ r,e=>by
  obtain ⟨v,a,b⟩:=RepXs.get (i:=i) (d:=d) r (by simpa using e)
  exact ⟨v,by simpa using a,b⟩
theorem Reps.none:∀ {ds:List D} {vs:List V} {i:Nat},Reps K cA φ H ds vs->ds[i]? = none->vs[i]? = none:=fun {ds vs i} r e=>by
 have:=r.len
 have h2:ds.length<=i:=List.getElem?_eq_none_iff.mp e
 exact List.getElem?_eq_none_iff.mpr (by omega)
theorem Reps.app:∀ {ds es:List D} {vs us:List V},Reps K cA φ H ds vs->Reps K cA φ H es us->Reps K cA φ H (ds ++ es) (vs ++ us)
 | _,_,_,_,.nil,s=>s
 | _,_,_,_,.cons h r,s=>.cons h (Reps.app r s)
theorem Reps.take:∀ {ds:List D} {vs:List V} (n:Nat),Reps K cA φ H ds vs->Reps K cA φ H (ds.take n) (vs.take n)
 | _,_,0,_=>by simp; exact .nil
 | _,_,n + 1,.nil=>by simp; exact .nil
 | _,_,n + 1,.cons h r=>by simp only [List.take_succ_cons]; exact .cons h (Reps.take n r)
theorem Reps.drop:∀ {ds:List D} {vs:List V} (n:Nat),Reps K cA φ H ds vs->Reps K cA φ H (ds.drop n) (vs.drop n)
 | _,_,0,r=>r
 | _,_,n + 1,.nil=>by simp; exact .nil
 | _,_,n + 1,.cons _ r=>by simp only [List.drop_succ_cons]; exact Reps.drop n r
theorem Reps.set {d:D} {v:V} (h:Rep K cA φ H d v):∀ {ds:List D} {vs:List V} (i:Nat),Reps K cA φ H ds vs->Reps K cA φ H (ds.set i d) (vs.set i v)
 | _,_,_,.nil=>.nil
 | _,_,0,.cons _ r=>.cons h r
 | _,_,i + 1,.cons q r=>.cons q (Reps.set h i r)
theorem Reps.cut {ds:List D} {vs:List V} {l h:Option Int} (r:Reps K cA φ H ds vs):Reps K cA φ H (Mi.cut ds l h) (cutV vs l h):=by
 unfold Mi.cut cutV
 rw [<- r.len]
 exact (r.drop _).take _
noncomputable def Grow (H H':Hp):Prop:=∀ a o,H a = some o->H' a = some o
theorem Grow.refl:Grow H H:=fun _ _ h=>h
theorem Grow.new {p:Addr} {o:HO} (hp:H p = none):Grow H (upd H p o):=fun a u h=>by rw [zap (zaS h hp)]; exact h
theorem Grow.ext (g:Grow H H'):Ext φ H φ H':=⟨⟨[],by simp,by simp⟩,fun _ h=>h,fun _ h=>.inl h,fun a o h _=>g a o h,fun a o h=>⟨o,g a o h⟩⟩
theorem ObR.grow {a:Addr} {o:SO} (g:Grow H H') (hz:∀ a ∈ φ.l,φ.z a) (h:ObR K cA φ H a o):ObR K cA φ H' a o:=by
 cases o with
 | lst xs=>obtain ⟨vs,e,r⟩:=h; exact ⟨vs,g _ _ e,r.mono g.ext hz⟩
 | dct _ _=>exact h
theorem RepS.grow (g:Grow H H') (h:RepS K cA φ H s):RepS K cA φ H' s:=
 ⟨h.len,fun n o a e1 e2=>(h.obj n o a e1 e2).grow g h.lz,h.uniq,h.lz,fun a z=>let ⟨o,e⟩:=h.zt a z; ⟨o,g _ _ e⟩⟩
theorem RepS.nz (h:RepS K cA φ H s) {p:Addr} (hp:H p = none):¬ φ.z p:=fun z=>by obtain ⟨o,e⟩:=h.zt p z; rw [hp] at e; cases e
noncomputable def Ph.add (φ:Ph) (p:Addr):Ph:=⟨fun a=>φ.z a\/a = p,φ.l ++ [p]⟩
theorem Ext.add {p:Addr} {o:HO} (hp:H p = none):Ext φ H (φ.add p) (upd H p o):=
 ⟨⟨[p],rfl,by simpa using hp⟩,fun _ h=>.inl h,fun a h=>h.imp id fun e=>by rw [e]; exact hp,fun a u h _=>Grow.new hp a u h,fun a u h=>⟨u,Grow.new hp a u h⟩⟩
theorem RepS.add {p:Addr} {xs:List D} {vs:List V} (h:RepS K cA φ H s) (hp:H p = none) (r:Reps K cA φ H xs vs):RepS K cA (φ.add p) (upd H p (.lst vs)) (s ++ [.lst xs]):=by
 have pn:p ∉ φ.l:=fun z=>h.nz hp (h.lz p z)
 refine ⟨by show (φ.l ++ [p]).length = _; rw [List.length_append,List.length_append,h.len]; rfl,fun n o a e1 e2=>?_,?_,fun a ha=>?_,fun a ha=>?_⟩
 ·have e2:(φ.l ++ [p])[n]? = some a:=e2
  by_cases hn:n < s.length
  ·rw [List.getElem?_append_left hn] at e1
   rw [List.getElem?_append_left (by rw [h.len]; exact hn)] at e2
   have:=h.obj n o a e1 e2
   cases o with
   | lst ys=>obtain ⟨us,q1,q2⟩:=this; exact ⟨us,Grow.new hp _ _ q1,q2.mono (Ext.add hp) h.lz⟩
   | dct _ _=>exact this
  ·have hl:n = s.length:=by
    have z:=(List.getElem?_eq_some_iff.mp e1).1
    rw [List.length_append] at z
    simp at z
    omega
   subst hl
   rw [List.getElem?_append_right (Nat.le_refl _)] at e1
   rw [List.getElem?_append_right (by rw [h.len]; exact Nat.le_refl _)] at e2
   simp at e1
   simp [h.len] at e2
   subst e1 e2
   exact ⟨vs,zas,r.mono (Ext.add hp) h.lz⟩
 ·show (φ.l ++ [p]).Nodup
  rw [List.nodup_append]
  refine ⟨h.uniq,by simp,fun a ha b hb e=>?_⟩
  simp at hb
  subst hb e
  exact pn ha
 ·have ha:a ∈ φ.l ++ [p]:=ha
  rcases List.mem_append.mp ha with z | z
  ·exact .inl (h.lz a z)
  ·simp at z; exact .inr z
 ·rcases ha with z | z
  ·obtain ⟨o,e⟩:=h.zt a z; exact ⟨o,Grow.new hp _ _ e⟩
  ·subst z; exact ⟨_,zas⟩
theorem Ext.write {n:Nat} {p:Addr} {o:HO} (hp:φ.l[n]? = some p) (hv:∃ u,H p = some u):Ext φ H φ (upd H p o):=by
 have hm:p ∈ φ.l:=List.mem_of_getElem? hp
 refine ⟨⟨[],by simp,by simp⟩,fun _ h=>h,fun _ h=>.inl h,fun a u h n=>by
  have ne:a ≠ p:=fun e=>n (by rw [e]; exact hm)
  rw [zap ne]; exact h,fun a u h=>?_⟩
 by_cases e:a = p
 ·subst e; exact ⟨o,zas⟩
 ·exact ⟨u,by rw [zap e]; exact h⟩
theorem RepS.write {n:Nat} {p:Addr} {xs ys:List D} {us:List V} (h:RepS K cA φ H s) (hn:s[n]? = some (.lst xs)) (hp:φ.l[n]? = some p) (r:Reps K cA φ H ys us):RepS K cA φ (upd H p (.lst us)) (s.set n (.lst ys)):=by
 obtain ⟨vs,hv,_⟩:=h.obj n _ p hn hp
 have x:Ext φ H φ (upd H p (.lst us)):=Ext.write hp ⟨_,hv⟩
 refine ⟨by rw [List.length_set]; exact h.len,fun m o a e1 e2=>?_,h.uniq,h.lz,fun a ha=>?_⟩
 ·by_cases hm:n = m
  ·subst hm
   rw [List.getElem?_set_self (List.getElem?_eq_some_iff.mp hn).1] at e1
   cases e1
   rw [hp] at e2
   cases e2
   exact ⟨us,zas,r.mono x h.lz⟩
  ·rw [List.getElem?_set_ne hm] at e1
   have ne:a ≠ p:=fun y=>by
    subst y
    exact hm ((List.getElem?_inj (List.getElem?_eq_some_iff.mp hp).1 h.uniq).mp (hp.trans e2.symm))
   have:=h.obj m o a e1 e2
   cases o with
   | lst ys=>obtain ⟨us',q1,q2⟩:=this; exact ⟨us',by rw [zap ne]; exact q1,q2.mono x h.lz⟩
   | dct _ _=>exact this
 ·obtain ⟨o,e⟩:=h.zt a ha
  obtain ⟨o',e'⟩:=x.stay a o e
  exact ⟨o',e'⟩
theorem RepL.set {i:Nat} {d:Xv} {v:V} (hL:RepL K cA φ H σ τ) (r:RepX K cA φ H d v):RepL K cA φ H (σ.set i (some v)) (τ.set i (some d)):=by
 refine ⟨by rw [List.length_set,List.length_set]; exact hL.1,fun j e h=>?_⟩
 by_cases hij:i = j
 ·subst hij
  by_cases hl:i < τ.length
  ·rw [List.getElem?_set_self hl] at h
   cases h
   exact ⟨v,by rw [List.getElem?_set_self (by rw [hL.1]; exact hl)],r⟩
  ·rw [List.getElem?_eq_none (by rw [List.length_set]; omega)] at h; cases h
 ·rw [List.getElem?_set_ne hij] at h
  obtain ⟨u,a,b⟩:=hL.2 j e h
  exact ⟨u,by rw [List.getElem?_set_ne hij]; exact a,b⟩
theorem TupAt.sqT {a:Addr} {vs:List V} (h:TupAt K φ H a vs):SqT K H a vs:=by
 rcases h with ⟨h,_⟩ | (h | h)
 ·exact .inl h
 ·rcases h with h | ⟨o,h⟩ <;> cases h
 ·exact .inr h
theorem LstAt.sqL {a:Addr} {vs:List V} (h:LstAt K φ H a vs):SqL K H a vs:=by
 rcases h with ⟨h,_⟩ | (h | h)
 ·exact .inl h
 ·rcases h with h | ⟨o,h⟩ <;> cases h
 ·exact .inr h
theorem TupAt.new {p:Addr} {vs:List V} (hz:¬ φ.z p):TupAt K φ (upd H p (.tup vs)) p vs:=.inl ⟨.inl zas,hz⟩
theorem LstAt.new {p:Addr} {vs:List V} (hz:¬ φ.z p):LstAt K φ (upd H p (.lst vs)) p vs:=.inl ⟨.inl zas,hz⟩
end
end Mi
set_option Elab.async false
set_option linter.all false
set_option maxRecDepth 100000
set_option maxHeartbeats 4000000
namespace Mi
open PySem PySem.Spec PyProof.Rows L2
theorem un {α β γ:Type} {A B C:α->β->γ->Prop} {R:Prop} (h:∃ a b c,A a b c/\B a b c/\C a b c) (f:∀ a b c,A a b c->B a b c->C a b c->R):R:=by
 obtain ⟨a,b,c,x,y,z⟩:=h
 exact f a b c x y z
section
variable (K:PySem.W.Frag) (cA:Cl)
noncomputable def Run {α:Type} (m:M α) (φ:Ph) (H:Hp) (s:S) (P:α->S->Ph->Hp->Prop) (Ee:Nat->List D->S->Ph->Hp->Prop):Prop:=
 match m s with
 | some (.ok a,s')=>∀ φ' H',Ext φ H φ' H'->RepS K cA φ' H' s'->P a s' φ' H'
 | some (.er c f,s')=>∀ φ' H',Ext φ H φ' H'->RepS K cA φ' H' s'->Ee c f s' φ' H'
 | none=>False
noncomputable def ExcDx (φ:Ph) (H:Hp) (c:Nat) (fs:List D) (dx:Option Addr):Prop:=
 (cA.f c = []/\fs = []/\dx = none)\/∃ d vs,dx = some d/\¬ φ.z d/\H d = some (.xd ((cA.f c).zip vs))/\(cA.f c).length = vs.length/\Reps K cA φ H fs vs
noncomputable def eX (EX:XS) (σ:L2.St):Nat->List D->S->Ph->Hp->Prop:=fun c fs _ φ' H'=>∀ dx,ExcDx K cA φ' H' c fs dx->EX σ (.ref (cA.a c)) dx H'
noncomputable def tE (EX:XS) (m:Vs->M Xv):TE:=fun σ H Q=>∃ φ τ s,RepL K cA φ H σ τ/\RepS K cA φ H s/\Run K cA (m τ) φ H s (fun d _ φ' H'=>∀ v,RepX K cA φ' H' d v->Q v H') (eX K cA EX σ)
noncomputable def tAs (EX:XS) (m:Vs->M (List Xv)):TA:=fun σ H Q=>∃ φ τ s,RepL K cA φ H σ τ/\RepS K cA φ H s/\Run K cA (m τ) φ H s (fun d _ φ' H'=>∀ v,RepXs K cA φ' H' d v->Q v H') (eX K cA EX σ)
noncomputable def tTs (EX:XS) (m:Vs->M Bool):TT:=fun σ H Q=>∃ φ τ s,RepL K cA φ H σ τ/\RepS K cA φ H s/\Run K cA (m τ) φ H s (fun d _ φ' H'=>Q d H') (eX K cA EX σ)
noncomputable def Rv (φ:Ph) (H:Hp) (d:D) (v:V):Prop:=match d with
 | .fl xs=>∃ a vs,v = .ref a/\SqL K H a vs/\Reps K cA φ H xs vs
 | d=>Rep K cA φ H d v
inductive Rvs (φ:Ph) (H:Hp):List D->List V->Prop where
 | nil:Rvs φ H [] []
 | cons {d:D} {v:V} {ds:List D} {vs:List V} (h:Rv K cA φ H d v) (r:Rvs φ H ds vs):Rvs φ H (d::ds) (v::vs)
noncomputable def OutP (φ:Ph) (H:Hp) (o:Option Rz) (Q:VK):Prop:=match o with
 | none=>False
 | some (.dat d)=>∀ H' v,Grow H H'->Rep K cA φ H' d v->Q v H'
 | some (.nw xs)=>∀ p vs,H p = none->Reps K cA φ H xs vs->Q (.ref p) (upd H p (.lst vs))
structure Zt (φ:Ph) (H:Hp):Prop where
 lz:∀ a ∈ φ.l,φ.z a
 zt:∀ a,φ.z a->∃ o,H a = some o
noncomputable def PrOk (p:Pr) (r:List V->Hp->VK->Prop):Prop:=∀ (φ:Ph) (H:Hp) (ds:List D) (vs:List V) (Q:VK),Zt φ H->Rvs K cA φ H ds vs->OutP K cA φ H (prim p ds) Q->r vs H Q
end
section
variable {K:PySem.W.Frag} {cA:Cl} {φ φ':Ph} {H H':Hp} {s:S} {σ:L2.St} {τ:Vs} {EX:XS}
theorem RepS.zs (h:RepS K cA φ H s):Zt φ H:=⟨h.lz,h.zt⟩
theorem Zt.nz (h:Zt φ H) {p:Addr} (hp:H p = none):¬ φ.z p:=fun z=>by obtain ⟨o,e⟩:=h.zt p z; rw [hp] at e; cases e
theorem Rep.rv {d:D} {v:V} (h:Rep K cA φ H d v):Rv K cA φ H d v:=by
 cases h with
 | fl h r=>exact ⟨_,_,rfl,h.sqL,r⟩
 | non=>exact .non
 | bl b=>exact .bl b
 | int b=>exact .int b
 | str b=>exact .str b
 | tup h r=>exact .tup h r
 | fd h n=>exact .fd h n
 | exc h r=>exact .exc h r
 | ob h r=>exact .ob h r
theorem Run.bd {α β:Type} {m:M α} {k:α->M β} {P:β->S->Ph->Hp->Prop} {Ee:Nat->List D->S->Ph->Hp->Prop} (h:Run K cA (M.bd m k) φ H s P Ee):Run K cA m φ H s (fun a s1 φ1 H1=>Ext φ H φ1 H1/\RepS K cA φ1 H1 s1/\Run K cA (k a) φ1 H1 s1 P Ee) Ee:=by
 unfold Run M.bd at *
 cases e:m s with
 | none=>rw [e] at h; exact h
 | some r=>
  obtain ⟨r,s1⟩:=r
  rw [e] at h
  cases r with
  | er c f=>exact h
  | ok a=>
   intro φ1 H1 x1 r1
   refine ⟨x1,r1,?_⟩
   dsimp only at h ⊢
   cases e2:k a s1 with
   | none=>rw [e2] at h; exact h
   | some q=>
    obtain ⟨q,s2⟩:=q
    rw [e2] at h
    cases q with
    | ok b=>exact fun φ2 H2 x2 r2=>h φ2 H2 (x1.trans x2) r2
    | er c f=>exact fun φ2 H2 x2 r2=>h φ2 H2 (x1.trans x2) r2
theorem Run.imp {α:Type} {m:M α} {P P':α->S->Ph->Hp->Prop} {Ee:Nat->List D->S->Ph->Hp->Prop} (h:Run K cA m φ H s P Ee) (f:∀ a s' φ' H',P a s' φ' H'->P' a s' φ' H'):Run K cA m φ H s P' Ee:=by
 unfold Run at *
 split at h
 ·exact fun φ' H' x r=>f _ _ _ _ (h φ' H' x r)
 ·exact h
 ·exact h
theorem Run.pure_ {α:Type} {a:α} {P:α->S->Ph->Hp->Prop} {Ee:Nat->List D->S->Ph->Hp->Prop} (r:RepS K cA φ H s) (h:Run K cA (M.ret a) φ H s P Ee):P a s φ H:=h φ H Ext.refl r
theorem Run.opt {α:Type} {o:Option α} {P:α->S->Ph->Hp->Prop} {Ee:Nat->List D->S->Ph->Hp->Prop} (r:RepS K cA φ H s) (h:Run K cA (M.opt o) φ H s P Ee):∃ a,o = some a/\P a s φ H:=by
 cases o with
 | none=>exact h.elim
 | some a=>exact ⟨a,rfl,h φ H Ext.refl r⟩
theorem Run.opt2 {α β:Type} {o:Option α} {k:α->M β} {P:β->S->Ph->Hp->Prop} {Ee:Nat->List D->S->Ph->Hp->Prop} (h:Run K cA (M.bd (M.opt o) k) φ H s P Ee):∃ a,o = some a/\Run K cA (k a) φ H s P Ee:=by
 cases o with
 | none=>exact h.elim
 | some a=>exact ⟨a,rfl,h⟩
theorem zcv {β:Type} {x:Xv} {v:V} {k:Bool->M β} {P:β->S->Ph->Hp->Prop} {Ee:Nat->List D->S->Ph->Hp->Prop} (r:RepX K cA φ H x v) (h:Run K cA (M.bd (bool x) k) φ H s P Ee):∃ b,x = .d (.bl b)/\v = .bl b/\Run K cA (k b) φ H s P Ee:=by
 cases r with
 | l _=>exact h.elim
 | d r=>cases r with
  | bl b=>exact ⟨b,rfl,rfl,h⟩
  | _=>exact h.elim
theorem zcJ {β:Type} {x:Xv} {v:V} {k:Int->M β} {P:β->S->Ph->Hp->Prop} {Ee:Nat->List D->S->Ph->Hp->Prop} (r:RepX K cA φ H x v) (h:Run K cA (M.bd (int x) k) φ H s P Ee):∃ b,x = .d (.int b)/\v = .int b/\Run K cA (k b) φ H s P Ee:=by
 cases r with
 | l _=>exact h.elim
 | d r=>cases r with
  | int b=>exact ⟨b,rfl,rfl,h⟩
  | _=>exact h.elim
theorem ze2 {β:Type} {x:Xv} {v:V} {k:D->M β} {P:β->S->Ph->Hp->Prop} {Ee:Nat->List D->S->Ph->Hp->Prop} (r:RepX K cA φ H x v) (h:Run K cA (M.bd (dat x) k) φ H s P Ee):∃ d,x = .d d/\Rep K cA φ H d v/\Run K cA (k d) φ H s P Ee:=by
 cases r with
 | l _=>exact h.elim
 | d r=>exact ⟨_,rfl,r,h⟩
theorem zdG {β:Type}:∀ {xs:List Xv} {vs:List V} {k:List D->M β} {P:β->S->Ph->Hp->Prop} {Ee:Nat->List D->S->Ph->Hp->Prop},RepXs K cA φ H xs vs->Run K cA (M.bd (dats xs) k) φ H s P Ee->∃ ds,xs = ds.map .d/\Reps K cA φ H ds vs/\Run K cA (k ds) φ H s P Ee:=by
 intro xs
 induction xs with
 | nil=>intro vs k P Ee r h; cases r; exact ⟨[],rfl,.nil,h⟩
 | cons x xs ih=>
  intro vs k P Ee r h
  cases r with
  | cons a r=>
   cases a with
   | l _=>exact h.elim
   | @d y v a=>
    have h2:Run K cA (M.bd (dats xs) fun ds=>k (y::ds)) φ H s P Ee:=by
     unfold Run M.bd dats dat at h
     unfold Run M.bd
     simp only [M.bd,M.ret] at h
     cases e:dats xs s with
     | none=>simp only [e] at h
     | some q=>
      obtain ⟨q,s1⟩:=q
      simp only [e] at h
      cases q with
      | ok ds=>exact h
      | er c f=>exact h
    obtain ⟨ds,e,rs,h3⟩:=ih r h2
    exact ⟨y::ds,by rw [e]; rfl,.cons a rs,h3⟩
theorem zgt {β:Type} {x:Xv} {v:V} {k:D->M β} {P:β->S->Ph->Hp->Prop} {Ee:Nat->List D->S->Ph->Hp->Prop} (hS:RepS K cA φ H s) (r:RepX K cA φ H x v) (h:Run K cA (M.bd (rd x) k) φ H s P Ee):∃ d,Rv K cA φ H d v/\Run K cA (k d) φ H s P Ee:=by
 cases r with
 | d r=>exact ⟨_,r.rv,h⟩
 | @l n a hl=>
  unfold Run M.bd rd at h
  dsimp only at h
  cases e:s[n]? with
  | none=>rw [e] at h; exact h.elim
  | some o=>
   rw [e] at h
   cases o with
   | lst xs=>
    obtain ⟨vs,q1,q2⟩:=hS.obj n _ _ e hl
    exact ⟨.fl xs,⟨a,vs,rfl,SqL.of q1,q2⟩,h⟩
   | dct _ _=>exact h.elim
theorem zar {α β γ:Type} (m:M α) (f:α->M β) (g:β->M γ):M.bd (M.bd m f) g = M.bd m fun x=>M.bd (f x) g:=by
 funext s
 unfold M.bd
 cases m s with
 | none=>rfl
 | some r=>
  obtain ⟨r,s1⟩:=r
  cases r <;> rfl
theorem zb8 {β:Type}:∀ {xs:List Xv} {vs:List V} {k:List D->M β} {P:β->S->Ph->Hp->Prop} {Ee:Nat->List D->S->Ph->Hp->Prop},RepS K cA φ H s->RepXs K cA φ H xs vs->Run K cA (M.bd (rds xs) k) φ H s P Ee->∃ ds,Rvs K cA φ H ds vs/\Run K cA (k ds) φ H s P Ee:=by
 intro xs
 induction xs with
 | nil=>intro vs k P Ee hS r h; cases r; exact ⟨[],.nil,h⟩
 | cons x xs ih=>
  intro vs k P Ee hS r h
  cases r with
  | cons a r=>
   have h2:Run K cA (M.bd (rd x) fun d=>M.bd (rds xs) fun ds=>k (d::ds)) φ H s P Ee:=by
    have e:M.bd (rds (x::xs)) k = M.bd (rd x) fun d=>M.bd (rds xs) fun ds=>k (d::ds):=by
     show M.bd (M.bd (rd x) fun d=>M.bd (rds xs) fun ds=>M.ret (d::ds)) k = _
     rw [zar]
     congr 1
     funext d
     rw [zar]
     rfl
    rw [e] at h
    exact h
   obtain ⟨d,rd,h3⟩:=zgt hS a h2
   obtain ⟨ds,rs,h4⟩:=ih hS r h3
   exact ⟨d::ds,.cons rd rs,h4⟩
theorem zaX {fz:Bool} {o:Option Rz} {Q:VK} {Ee:Nat->List D->S->Ph->Hp->Prop} (hS:RepS K cA φ H s) (h:Run K cA (outz fz o) φ H s (fun x _ φ' H'=>∀ v,RepX K cA φ' H' x v->Q v H') Ee):OutP K cA φ H o Q:=by
 cases o with
 | none=>exact h.elim
 | some z=>
  cases z with
  | dat d=>exact fun H' v g r=>h φ H' g.ext (hS.grow g) v (.d r)
  | nw xs=>
   intro p vs hp r
   cases fz with
   | true=>exact h φ _ (Grow.new hp).ext (hS.grow (Grow.new hp)) _ (.d (.fl (LstAt.new (hS.nz hp)) (r.mono (Grow.new hp).ext hS.lz)))
   | false=>exact h (φ.add p) _ (Ext.add hp) (hS.add hp r) _ (.l (by show (φ.l ++ [p])[s.length]? = _; rw [<- hS.len]; simp))
theorem zhY {fz:Bool} {xs:List D} {Q:VK} {Ee:Nat->List D->S->Ph->Hp->Prop} (hS:RepS K cA φ H s) (h:Run K cA (newL fz xs) φ H s (fun x _ φ' H'=>∀ v,RepX K cA φ' H' x v->Q v H') Ee):∀ p vs,H p = none->Reps K cA φ H xs vs->Q (.ref p) (upd H p (.lst vs)):=
 zaX (o:=some (.nw xs)) hS h
theorem useE {β:Type} {ma:Vs->M Xv} {k:Xv->M β} {P:β->S->Ph->Hp->Prop} (hL:RepL K cA φ H σ τ) (hS:RepS K cA φ H s) (h:Run K cA (M.bd (ma τ) k) φ H s P (eX K cA EX σ)) {Q:VK}
  (f:∀ x H1 φ1 d s1,Ext φ H φ1 H1->RepL K cA φ1 H1 σ τ->RepS K cA φ1 H1 s1->RepX K cA φ1 H1 d x->Run K cA (k d) φ1 H1 s1 P (eX K cA EX σ)->Q x H1):tE K cA EX ma σ H Q:=
 ⟨φ,τ,s,hL,hS,h.bd.imp fun d s1 φ1 H1 ⟨x1,r1,h1⟩ v rv=>f v H1 φ1 d s1 x1 (hL.mono x1 hS.lz) r1 rv h1⟩
theorem useA {β:Type} {ma:Vs->M (List Xv)} {k:List Xv->M β} {P:β->S->Ph->Hp->Prop} (hL:RepL K cA φ H σ τ) (hS:RepS K cA φ H s) (h:Run K cA (M.bd (ma τ) k) φ H s P (eX K cA EX σ)) {Q:List V->Hp->Prop}
  (f:∀ x H1 φ1 d s1,Ext φ H φ1 H1->RepL K cA φ1 H1 σ τ->RepS K cA φ1 H1 s1->RepXs K cA φ1 H1 d x->Run K cA (k d) φ1 H1 s1 P (eX K cA EX σ)->Q x H1):tAs K cA EX ma σ H Q:=
 ⟨φ,τ,s,hL,hS,h.bd.imp fun d s1 φ1 H1 ⟨x1,r1,h1⟩ v rv=>f v H1 φ1 d s1 x1 (hL.mono x1 hS.lz) r1 rv h1⟩
theorem useT {β:Type} {ma:Vs->M Bool} {k:Bool->M β} {P:β->S->Ph->Hp->Prop} (hL:RepL K cA φ H σ τ) (hS:RepS K cA φ H s) (h:Run K cA (M.bd (ma τ) k) φ H s P (eX K cA EX σ)) {Q:Bool->Hp->Prop}
  (f:∀ b H1 φ1 s1,Ext φ H φ1 H1->RepL K cA φ1 H1 σ τ->RepS K cA φ1 H1 s1->Run K cA (k b) φ1 H1 s1 P (eX K cA EX σ)->Q b H1):tTs K cA EX ma σ H Q:=
 ⟨φ,τ,s,hL,hS,h.bd.imp fun d s1 φ1 H1 ⟨x1,r1,h1⟩=>f d H1 φ1 s1 x1 (hL.mono x1 hS.lz) r1 h1⟩
end
section
variable (X:Cx) (cA:Cl) (sub:Nat->Nat->Bool) (calm:Bool) (F:Fn) (EX:XS)
noncomputable def SE (e:Expr) (m:E):Prop:=PE X e (tE X.K cA EX (ev sub calm F m))
noncomputable def SA (es:List Expr) (m:Es):Prop:=PA X es (tAs X.K cA EX (evs sub calm F m))
noncomputable def ST (e:Expr) (m:E):Prop:=PT X e (tTs X.K cA EX (fun τ=>M.bd (ev sub calm F m τ) bool))
noncomputable def SW (e:Expr) (m:E):Prop:=PW X e (tTs X.K cA EX (fun τ=>M.bd (ev sub calm F m τ) bool))
end
section
variable {X:Cx} {cA:Cl} {sub:Nat->Nat->Bool} {calm:Bool} {F:Fn} {EX:XS} {a b c d e:Expr} {A B C Dd E':E} {pos:Pos} {es:List Expr} {Xs:Es} {fz:Bool} {p:Pr}
theorem PE.weak {t t':TE} (h:PE X e t) (f:∀ σ H Q,t' σ H Q->t σ H Q):PE X e t':=fun pins s σ H Q I q=>h pins s σ H Q I (f σ H Q q)
theorem PT.weak {t t':TT} (h:PT X e t) (f:∀ σ H Q,t' σ H Q->t σ H Q):PT X e t':=fun pins s σ H Q I q=>h pins s σ H Q I (f σ H Q q)
theorem PW.weak {t t':TT} (h:PW X e t) (f:∀ σ H Q,t' σ H Q->t σ H Q):PW X e t':=fun wh pins s σ H Q I q=>h wh pins s σ H Q I (f σ H Q q)
theorem PA.weak {t t':TA} (h:PA X es t) (f:∀ σ H Q,t' σ H Q->t σ H Q):PA X es t':=fun p pins s σ H Q I q=>h p pins s σ H Q I (f σ H Q q)
theorem zk8 {i j p}:SE X cA sub calm F EX (.Constant (.int i) j p) (.c (.int i)):=PE.weak ziX fun σ H Q hh=>un hh fun φ τ s hL hS h=>h.pure_ hS _ (.d (.int i))
theorem zmK {i j p}:SE X cA sub calm F EX (.Constant (.bool i) j p) (.c (.bl i)):=PE.weak zmP fun σ H Q hh=>un hh fun φ τ s hL hS h=>h.pure_ hS _ (.d (.bl i))
theorem zlv {j p}:SE X cA sub calm F EX (.Constant .none j p) (.c .non):=PE.weak zkH fun σ H Q hh=>un hh fun φ τ s hL hS h=>h.pure_ hS _ (.d .non)
theorem zk9 {i j p}:SE X cA sub calm F EX (.Constant (.str i) j p) (.c (.str i)):=PE.weak zi0 fun σ H Q hh=>un hh fun φ τ s hL hS h=>h.pure_ hS _ (.d (.str i))
theorem zcS {α:Type} {o:Option (Option α)} {x:α} (h:o.join = some x):o = some (some x):=by
 cases o with
 | none=>cases h
 | some y=>cases y with
  | none=>cases h
  | some z=>cases h; rfl
theorem znt (i:Nat) {x:Str} (hN:X.N[i]? = some x:=by rfl) (hv:Vis X.env.scope x:=by first | exact Or.inl rfl | exact Or.inr (Or.inl rfl) | exact Or.inr (Or.inr rfl)) (hd:(x == ("__debug__" : Str)) = false:=by decide)
  (hcd:(x == ("__classdict__" : Str)) = false:=by decide):SE X cA sub calm F EX (.Name x pos) (.v i):=PE.weak (zlh hN hv hd hcd) fun σ H Q hh=>un hh fun φ τ s hL hS h=>by
 obtain ⟨dd,e1,q⟩:=Run.opt hS h
 obtain ⟨v,q1,q2⟩:=hL.2 i dd (zcS e1)
 exact ⟨v,q1,q v q2⟩
theorem zjE {x:Str} {i:Int} {t:Tok} (hg:Gl X x) (hm:X.mg x = some (.int i t)) (hd:(x == ("__debug__" : Str)) = false:=by decide):SE X cA sub calm F EX (.Name x pos) (.c (.int i)):=PE.weak (zj0 (v:=.int i) hg hm ⟨t,rfl⟩ hd) fun σ H Q hh=>un hh fun φ τ s hL hS h=>h.pure_ hS _ (.d (.int i))
theorem zkJ:SA X cA sub calm F EX [] .nil:=PA.weak zdc fun σ H Q hh=>un hh fun φ τ s hL hS h=>h.pure_ hS _ .nil
theorem zjy (ha:SE X cA sub calm F EX a A) (hr:SA X cA sub calm F EX es Xs) (hs:starEach (a::es) X.env = (false,eval a X.env)::starEach es X.env:=by rfl):SA X cA sub calm F EX (a::es) (.cons A Xs):=PA.weak (zbk ha hr hs) fun σ H Q hh=>un hh fun φ τ s hL hS h=>by
 refine useE hL hS h fun x H1 φ1 d1 s1 x1 hL1 hS1 r1 h1=>useA hL1 hS1 h1 fun ys H2 φ2 d2 s2 x2 hL2 hS2 r2 h2=>h2.pure_ hS2 _ (.cons (r1.mono x2 hS1.lz) r2)
theorem zdF {φ φ1 φ2:Ph} {H1 H2:Hp} {s1 s2:S} {d1 d2:Xv} {x y:V} {Q:VK} {Ee:Nat->List D->S->Ph->Hp->Prop} (x2:Ext φ1 H1 φ2 H2) (hS1:RepS X.K cA φ1 H1 s1) (hS2:RepS X.K cA φ2 H2 s2) (r1:RepX X.K cA φ1 H1 d1 x) (r2:RepX X.K cA φ2 H2 d2 y)
  (h:Run X.K cA (M.bd (rds [d1,d2]) fun ds=>outz fz (prim p ds)) φ2 H2 s2 (fun x _ φ' H'=>∀ v,RepX X.K cA φ' H' x v->Q v H') Ee) {r:List V->Hp->VK->Prop} (hp:PrOk X.K cA p r):r [x,y] H2 Q:=by
 obtain ⟨ds,rs,h2⟩:=zb8 hS2 (.cons (r1.mono x2 hS1.lz) (.cons r2 .nil)) h
 exact hp φ2 H2 ds _ Q hS2.zs rs (zaX hS2 h2)
noncomputable def r2 (r:R2):List V->Hp->VK->Prop:=fun vs H Q=>∃ x y,vs = [x,y]/\r x y H Q
theorem zfR {r:R2} {x y:V} {H:Hp} {Q:VK} (h:r2 r [x,y] H Q):r x y H Q:=by
 obtain ⟨_,_,e,q⟩:=h
 cases e
 exact q
theorem zkM {op:Operator} {r:R2} (ho:OpR X (binaryOp op) r) (hp:PrOk X.K cA p (r2 r)) (ha:SE X cA sub calm F EX a A) (hb:SE X cA sub calm F EX b B):SE X cA sub calm F EX (.BinOp a op b pos) (.pr fz p (.cons A (.cons B .nil))):=PE.weak (zmq ho ha hb) fun σ H Q hh=>un hh fun φ τ s hL hS h=>by
 have h:Run X.K cA (M.bd (M.bd (ev sub calm F A τ) fun x=>M.bd (M.bd (ev sub calm F B τ) fun y=>M.bd (M.ret []) fun z=>M.ret (y::z)) fun ys=>M.ret (x::ys)) fun vs=>M.bd (rds vs) fun ds=>outz fz (prim p ds)) φ H s _ _:=h
 simp only [zar] at h
 refine useE hL hS h fun x H1 φ1 d1 s1 x1 hL1 hS1 r1 h1=>useE hL1 hS1 h1 fun y H2 φ2 d2 s2 x2 hL2 hS2 r2' h2=>?_
 exact zfR (zdF (fz:=fz) (φ:=φ) x2 hS1 hS2 r1 r2' h2 hp)
theorem zk6 {op:CmpOp} {r:R2} (ho:OpR X (compareOp op) r) (hp:PrOk X.K cA p (r2 r)) (ha:SE X cA sub calm F EX a A) (hb:SE X cA sub calm F EX b B) (hm:behindInMarks op b = false):SE X cA sub calm F EX (.Compare a [op] [b] pos) (.pr true p (.cons A (.cons B .nil))):=PE.weak (zkf ho ha hb hm) fun σ H Q hh=>un hh fun φ τ s hL hS h=>by
 have h:Run X.K cA (M.bd (M.bd (ev sub calm F A τ) fun x=>M.bd (M.bd (ev sub calm F B τ) fun y=>M.bd (M.ret []) fun z=>M.ret (y::z)) fun ys=>M.ret (x::ys)) fun vs=>M.bd (rds vs) fun ds=>outz true (prim p ds)) φ H s _ _:=h
 simp only [zar] at h
 refine useE hL hS h fun x H1 φ1 d1 s1 x1 hL1 hS1 r1 h1=>useE hL1 hS1 h1 fun y H2 φ2 d2 s2 x2 hL2 hS2 r2' h2=>?_
 exact zfR (zdF (fz:=true) (φ:=φ) x2 hS1 hS2 r1 r2' h2 hp)
theorem iT {A B:Prop} (h:A):if true = true then A else B:=by rw [if_pos rfl]; exact h
theorem iF {A B:Prop} (h:B):if false = true then A else B:=by rw [if_neg Bool.false_ne_true]; exact h
theorem zkR {op:CmpOp} {r:R2} (ho:OpR X (compareOp op) r) (hp:PrOk X.K cA p (r2 r)) (ha:SE X cA sub calm F EX a A) (hb:SE X cA sub calm F EX b B) (hm:behindInMarks op b = false):ST X cA sub calm F EX (.Compare a [op] [b] pos) (.pr true p (.cons A (.cons B .nil))):=PT.weak (zke ho ha hb hm) fun σ H Q hh=>un hh fun φ τ s hL hS h=>by
 have h:Run X.K cA (M.bd (M.bd (M.bd (ev sub calm F A τ) fun x=>M.bd (M.bd (ev sub calm F B τ) fun y=>M.bd (M.ret []) fun z=>M.ret (y::z)) fun ys=>M.ret (x::ys)) fun vs=>M.bd (rds vs) fun ds=>outz true (prim p ds)) bool) φ H s _ _:=h
 simp only [zar] at h
 refine useE hL hS h fun x H1 φ1 d1 s1 x1 hL1 hS1 r1 h1=>useE hL1 hS1 h1 fun y H2 φ2 d2 s2 x2 hL2 hS2 r2' h2=>?_
 obtain ⟨ds,rs,h3⟩:=zb8 hS2 (.cons (r1.mono x2 hS1.lz) (.cons r2' .nil)) h2
 refine zfR (hp φ2 H2 ds _ _ hS2.zs rs (zaX (Ee:=eX X.K cA EX σ) hS2 (h3.bd.imp fun t s3 φ3 H3 ⟨x3,hS3,h4⟩ v rv=>?_)))
 cases rv with
 | l _=>exact h4.elim
 | d rv=>cases rv with
  | bl k=>exact ⟨k,rfl,h4 φ3 H3 Ext.refl hS3⟩
  | _=>exact h4.elim
theorem zkC {op op':CmpOp} {r r':R2} {q:Pr} (ho:OpR X (compareOp op) r) (hp:PrOk X.K cA p (r2 r)) (ho':OpR X (compareOp op') r') (hp':PrOk X.K cA q (r2 r')) (ha:SE X cA sub calm F EX a A) (hb:SE X cA sub calm F EX b B) (hc:SE X cA sub calm F EX c C) (hm:lastMarks [op,op'] [b,c] = false:=by with_unfolding_all rfl) :
  SE X cA sub calm F EX (.Compare a [op,op'] [b,c] pos) (.ch2 p q A B C):=PE.weak (zh5 ho ho' ha hb hc hm) fun σ H Q hh=>un hh fun φ τ s hL hS h=>by
 refine useE hL hS h fun x H1 φ1 d1 s1 x1 hL1 hS1 r1 h1=>useE hL1 hS1 h1 fun y H2 φ2 d2 s2 x2 hL2 hS2 r2' h2=>?_
 obtain ⟨ds,rs,h3⟩:=zb8 hS2 (.cons (r1.mono x2 hS1.lz) (.cons r2' .nil)) h2
 refine zfR (hp φ2 H2 ds _ _ hS2.zs rs (zaX (Ee:=eX X.K cA EX σ) hS2 (h3.bd.imp fun t s3 φ3 H3 ⟨x3,hS3,h4⟩ v rv=>?_)))
 obtain ⟨k,_,e,h5⟩:=zcv rv h4
 refine ⟨k,e,?_⟩
 cases k with
 | false=>exact iF (h5.pure_ hS3 _ (.d (.bl _)))
 | true=>
  have hL3:=hL2.mono x3 hS2.lz
  refine iT (useE hL3 hS3 h5 fun z H4 φ4 d4 s4 x4 hL4 hS4 r4 h6=>?_)
  exact zfR (zdF (fz:=true) (φ:=φ) x4 hS3 hS4 (r2'.mono x3 hS2.lz) r4 h6 hp')
theorem zl6 (ha:SE X cA sub calm F EX a A):SE X cA sub calm F EX (.UnaryOp .Not a pos) (.not A):=PE.weak (zlz ha) fun σ H Q hh=>un hh fun φ τ s hL hS h=>by
 refine useE hL hS h fun x H1 φ1 d1 s1 x1 hL1 hS1 r1 h1=>?_
 obtain ⟨i,_,e,h3⟩:=zcv r1 h1
 exact ⟨i,e,h3.pure_ hS1 _ (.d (.bl _))⟩
theorem zmb {op} (ha:SE X cA sub calm F EX a A):SE X cA sub calm F EX (.BoolOp op [a] pos) A:=zkT ha
theorem zkV {rest:List Expr} (ha:SE X cA sub calm F EX a A) (hb:SE X cA sub calm F EX (.BoolOp .And (b::rest) pos) B):SE X cA sub calm F EX (.BoolOp .And (a::b::rest) pos) (.and A B):=PE.weak (zkE ha hb) fun σ H Q hh=>un hh fun φ τ s hL hS h=>by
 refine useE hL hS h fun x H1 φ1 d1 s1 x1 hL1 hS1 r1 h1=>?_
 obtain ⟨i,_,e,h3⟩:=zcv r1 h1
 refine ⟨i,e,?_⟩
 cases i with
 | true=>exact iT ⟨φ1,τ,s1,hL1,hS1,h3⟩
 | false=>exact iF (h3.pure_ hS1 _ (.d (.bl _)))
end
end Mi
set_option Elab.async false
set_option linter.all false
set_option maxRecDepth 100000
set_option maxHeartbeats 4000000
namespace Mi
open PySem PySem.Spec PyProof.Rows L2
section
variable {X:Cx} {cA:Cl} {sub:Nat->Nat->Bool} {calm:Bool} {F:Fn} {EX:XS} {a b c d e o:Expr} {A B C Dd E' O:E} {pos pp p2 apos:Pos} {es:List Expr} {Xs:Es} {fz:Bool} {p:Pr} {x:Str}
theorem zkO (ha:SE X cA sub calm F EX a A) (he:∀ whole,isTrue a X.env whole = (do let v <- whole; standAt a.pos; holding [v] (truthy v)):=by intro _; rfl):ST X cA sub calm F EX a A:=PT.weak (zlu ha he) fun σ H Q hh=>un hh fun φ τ s hL hS h=>by
 refine useE hL hS h fun x H1 φ1 d1 s1 x1 hL1 hS1 r1 h1=>?_
 have h1:Run X.K cA (M.bd (bool d1) M.ret) φ1 H1 s1 (fun d _ φ' H'=>Q d H') (eX X.K cA EX σ):=by
  cases d1 with
  | l n=>exact h1
  | d v=>cases v <;> exact h1
 obtain ⟨k,_,e,q⟩:=zcv r1 h1
 exact ⟨k,e,q.pure_ hS1⟩
theorem zhL {m:M Xv} {g:Bool->Bool}:M.bd (M.bd m fun x=>M.bd (bool x) fun k=>M.ret (Xv.d (.bl (g k)))) bool = M.bd (M.bd m bool) fun k=>M.ret (g k):=by
 rw [zar,zar]
 congr 1
 funext x
 rw [zar]
 rfl
theorem zlt (ha:ST X cA sub calm F EX a A):ST X cA sub calm F EX (.UnaryOp .Not a pos) (.not A):=PT.weak (zkW ha) fun σ H Q hh=>un hh fun φ τ s hL hS h=>by
 have h:Run X.K cA (M.bd (M.bd (ev sub calm F A τ) fun x=>M.bd (bool x) fun k=>M.ret (Xv.d (.bl (!k)))) bool) φ H s _ _:=h
 rw [zhL (g:=fun k=>!k)] at h
 exact useT hL hS h fun k H1 φ1 s1 x1 hL1 hS1 h1=>h1.pure_ hS1
theorem zjz (ha:ST X cA sub calm F EX a A):SW X cA sub calm F EX (.BoolOp .And [a] pos) A:=zj7 ha
theorem zk4 (ha:ST X cA sub calm F EX a A):SW X cA sub calm F EX (.BoolOp .Or [a] pos) A:=zld ha
theorem zgx {m:M Xv} {k:Bool->M Xv}:M.bd (M.bd m fun x=>M.bd (bool x) k) bool = M.bd (M.bd m bool) fun b=>M.bd (k b) bool:=by
 rw [zar,zar]
 congr 1
 funext x
 rw [zar]
theorem zml {rest:List Expr} (ha:ST X cA sub calm F EX a A) (hb:SW X cA sub calm F EX (.BoolOp .And (b::rest) pos) B):SW X cA sub calm F EX (.BoolOp .And (a::b::rest) pos) (.and A B):=PW.weak (zme ha hb) fun σ H Q hh=>un hh fun φ τ s hL hS h=>by
 have h:Run X.K cA (M.bd (M.bd (ev sub calm F A τ) fun x=>M.bd (bool x) fun k=>if k = true then ev sub calm F B τ else M.ret (Xv.d (.bl false))) bool) φ H s _ _:=h
 rw [zgx] at h
 refine useT hL hS h fun k H1 φ1 s1 x1 hL1 hS1 h3=>?_
 cases k with
 | true=>exact iT ⟨φ1,τ,s1,hL1,hS1,h3⟩
 | false=>exact iF (Run.pure_ hS1 (a:=false) h3)
theorem zmA {rest:List Expr} (ha:ST X cA sub calm F EX a A) (hb:SW X cA sub calm F EX (.BoolOp .Or (b::rest) pos) B):SW X cA sub calm F EX (.BoolOp .Or (a::b::rest) pos) (.or A B):=PW.weak (zmu ha hb) fun σ H Q hh=>un hh fun φ τ s hL hS h=>by
 have h:Run X.K cA (M.bd (M.bd (ev sub calm F A τ) fun x=>M.bd (bool x) fun k=>if k = true then M.ret (Xv.d (.bl true)) else ev sub calm F B τ) bool) φ H s _ _:=h
 rw [zgx] at h
 refine useT hL hS h fun k H1 φ1 s1 x1 hL1 hS1 h3=>?_
 cases k with
 | true=>exact iT (Run.pure_ hS1 (a:=true) h3)
 | false=>exact iF ⟨φ1,τ,s1,hL1,hS1,h3⟩
theorem znG (h:SW X cA sub calm F EX a A):ST X cA sub calm F EX a A:=PW.pt h
theorem zgo:∀ (Xs:Es) (τ:Vs) (s:S) (ds:List Xv) (s':S),evs sub calm F Xs τ s = some (.ok ds,s')->ds.length = Es.len Xs
 | .nil,τ,s,ds,s',h=>by cases h; rfl
 | .cons a r,τ,s,ds,s',h=>by
  have h:M.bd (ev sub calm F a τ) (fun x=>M.bd (evs sub calm F r τ) fun xs=>M.ret (x::xs)) s = some (.ok ds,s'):=h
  unfold M.bd at h
  cases e1:ev sub calm F a τ s with
  | none=>rw [e1] at h; cases h
  | some q=>
   obtain ⟨q,s1⟩:=q
   rw [e1] at h
   cases q with
   | er c f=>cases h
   | ok d=>
    dsimp only at h
    cases e2:evs sub calm F r τ s1 with
    | none=>rw [e2] at h; cases h
    | some q=>
     obtain ⟨q,s2⟩:=q
     rw [e2] at h
     cases q with
     | er c f=>cases h
     | ok ds'=>
      cases h
      rw [List.length_cons,zgo r τ s1 ds' _ e2]
      rfl
theorem useN {β:Type} {K:PySem.W.Frag} {φ:Ph} {H:Hp} {s:S} {σ:L2.St} {τ:Vs} {k:List Xv->M β} {P:β->S->Ph->Hp->Prop} (hL:RepL K cA φ H σ τ) (hS:RepS K cA φ H s) (h:Run K cA (M.bd (evs sub calm F Xs τ) k) φ H s P (eX K cA EX σ)) {Q:List V->Hp->Prop}
  (f:∀ x H1 φ1 d s1,d.length = Es.len Xs->Ext φ H φ1 H1->RepL K cA φ1 H1 σ τ->RepS K cA φ1 H1 s1->RepXs K cA φ1 H1 d x->Run K cA (k d) φ1 H1 s1 P (eX K cA EX σ)->Q x H1):tAs K cA EX (evs sub calm F Xs) σ H Q:=by
 refine ⟨φ,τ,s,hL,hS,?_⟩
 have h2:=h.bd
 unfold Run at h2 ⊢
 cases e:evs sub calm F Xs τ s with
 | none=>rw [e] at h2; exact h2
 | some r=>
  obtain ⟨r,s1⟩:=r
  rw [e] at h2
  cases r with
  | er c f=>exact h2
  | ok ds=>
   intro φ1 H1 x1 r1 v rv
   obtain ⟨_,_,h3⟩:=h2 φ1 H1 x1 r1
   exact f v H1 φ1 ds s1 (zgo Xs τ s ds s1 e) x1 (hL.mono x1 hS.lz) r1 rv h3
theorem zl8 {k} (ha:SA X cA sub calm F EX es Xs) (hz:Es.len Xs<=sizeLine):SE X cA sub calm F EX (.Tuple es k pos) (.tup Xs):=PE.weak (zkN ha) fun σ H Q hh=>un hh fun φ τ s hL hS h=>by
 refine useN hL hS h fun vs H1 φ1 xs s1 hl x1 hL1 hS1 rv h1=>?_
 obtain ⟨ds,e,rs,h2⟩:=zdG rv h1
 refine ⟨by rw [<- rv.len,hl]; exact hz,fun p hp=>?_⟩
 exact h2 φ1 (upd H1 p (.tup vs)) (Grow.new hp).ext (hS1.grow (Grow.new hp)) _ (.d (.tup (TupAt.new (hS1.nz hp)) (rs.mono (Grow.new hp).ext hS1.lz)))
theorem zlf (ha:SA X cA sub calm F EX es Xs) (hz:Es.len Xs<=sizeLine):SE X cA sub calm F EX (.List es pos) (.lst fz Xs):=PE.weak (zlx ha) fun σ H Q hh=>un hh fun φ τ s hL hS h=>by
 refine useN hL hS h fun vs H1 φ1 xs s1 hl x1 hL1 hS1 rv h1=>?_
 obtain ⟨ds,e,rs,h2⟩:=zdG rv h1
 exact ⟨by rw [<- rv.len,hl]; exact hz,fun p hp=>zhY hS1 h2 p vs hp rs⟩
theorem zcP {id:String} {r:List V->Hp->VK->Prop} (hc:CallR X (.builtin id) r) (hp:PrOk X.K cA p r)
  (hg:Gl X x) (hm:X.mg x = none) (hv:bootBuiltins x = some (.builtin id)) (ha:SA X cA sub calm F EX (e::es) Xs) (hn:x ≠ "__name__":=by decide) (hdb:(x == ("__debug__" : Str)) = false:=by decide)
  (he:starEach (e::es) X.env = (false,eval e X.env)::starEach es X.env:=by rfl) (hpl:(backTo pos (starEach es X.env)).any (·.1) = false:=by rfl):SE X cA sub calm F EX (.Call (.Name x pp) (e::es) [] pos) (.pr fz p Xs):=PE.weak (zfo hc hg hm hv ha hn hdb he hpl) fun σ H Q hh=>un hh fun φ τ s hL hS h=>
 useA hL hS h fun vs H1 φ1 ds s1 x1 hL1 hS1 r1 h1=>by
  obtain ⟨ds,rs,h3⟩:=zb8 hS1 r1 h1
  exact hp φ1 H1 ds _ _ hS1.zs rs (zaX hS1 h3)
theorem zhd {id:String} {r:List V->Hp->VK->Prop} (hc:CallR X (.type id) r) (hp:PrOk X.K cA p r)
  (hg:Gl X x) (hm:X.mg x = none) (hv:bootBuiltins x = some (.type id)) (ha:SA X cA sub calm F EX (e::es) Xs) (hn:x ≠ "__name__":=by decide) (hdb:(x == ("__debug__" : Str)) = false:=by decide)
  (he:starEach (e::es) X.env = (false,eval e X.env)::starEach es X.env:=by rfl) (hpl:(backTo pos (starEach es X.env)).any (·.1) = false:=by rfl):SE X cA sub calm F EX (.Call (.Name x pp) (e::es) [] pos) (.pr fz p Xs):=PE.weak (zht hc hg hm hv ha hn hdb he hpl) fun σ H Q hh=>un hh fun φ τ s hL hS h=>
 useA hL hS h fun vs H1 φ1 ds s1 x1 hL1 hS1 r1 h1=>by
  obtain ⟨ds,rs,h3⟩:=zb8 hS1 r1 h1
  exact hp φ1 H1 ds _ _ hS1.zs rs (zaX hS1 h3)
theorem zmy (hp:PrOk X.K cA p (r2 (rIx X.K))) (ha:SE X cA sub calm F EX a A) (hb:SE X cA sub calm F EX b B) (hs:PlainIx b:=by intro _ _; rfl):SE X cA sub calm F EX (.Subscript a b pos) (.pr true p (.cons A (.cons B .nil))):=PE.weak (zmX zlT ha hb hs) fun σ H Q hh=>un hh fun φ τ s hL hS h=>by
 have h:Run X.K cA (M.bd (M.bd (ev sub calm F A τ) fun x=>M.bd (M.bd (ev sub calm F B τ) fun y=>M.bd (M.ret []) fun z=>M.ret (y::z)) fun ys=>M.ret (x::ys)) fun vs=>M.bd (rds vs) fun ds=>outz true (prim p ds)) φ H s _ _:=h
 simp only [zar] at h
 refine useE hL hS h fun x H1 φ1 d1 s1 x1 hL1 hS1 r1 h1=>useE hL1 hS1 h1 fun y H2 φ2 d2 s2 x2 hL2 hS2 r2' h2=>?_
 exact zfR (zdF (fz:=true) (φ:=φ) x2 hS1 hS2 r1 r2' h2 hp)
theorem znd {op:UnaryOp} {r:V->Hp->VK->Prop} (ho:UnR X (unaryOp op) r) (hp:PrOk X.K cA p (fun vs H Q=>∃ x,vs = [x]/\r x H Q)) (ha:SE X cA sub calm F EX a A):SE X cA sub calm F EX (.UnaryOp op a pos) (.pr true p (.cons A .nil)):=PE.weak (zmI ho ha) fun σ H Q hh=>un hh fun φ τ s hL hS h=>by
 have h:Run X.K cA (M.bd (M.bd (ev sub calm F A τ) fun x=>M.bd (M.ret []) fun z=>M.ret (x::z)) fun vs=>M.bd (rds vs) fun ds=>outz true (prim p ds)) φ H s _ _:=h
 simp only [zar] at h
 refine useE hL hS h fun x H1 φ1 d1 s1 x1 hL1 hS1 r1 h1=>?_
 obtain ⟨ds,rs,h3⟩:=zb8 hS1 (.cons r1 .nil) h1
 obtain ⟨_,e,q⟩:=hp φ1 H1 ds _ _ hS1.zs rs (zaX hS1 h3)
 cases e
 exact q
end
end Mi
set_option Elab.async false
set_option linter.all false
set_option maxRecDepth 100000
set_option maxHeartbeats 4000000
namespace Mi
open PySem PySem.Spec PyProof.Rows L2
mutual
inductive Is (h:Heap):D->Value->Prop where
 | non:Is h .non .none
 | bl (b:Bool):Is h (.bl b) (.bool b)
 | int (i:Int) (t:Tok):Is h (.int i) (.int i t)
 | str (x:Str) (t:Tok):Is h (.str x) (.str x t)
 | tup {a:Addr} {xs:List D} {its:List Value} (p:h.IsTuple a its.toArray) (r:Iss h xs its):Is h (.tup xs) (.ref a)
 | fl {a:Addr} {xs:List D} {its:List Value} (p:h.IsList a its.toArray) (r:Iss h xs its):Is h (.fl xs) (.ref a)
 | oth {d:D} {u:Value} (k:kq d = none):Is h d u
inductive Iss (h:Heap):List D->List Value->Prop where
 | nil:Iss h [] []
 | cons {d:D} {u:Value} {ds:List D} {us:List Value} (a:Is h d u) (r:Iss h ds us):Iss h (d::ds) (u::us)
end
section
variable {X:Cx} {cA:Cl} {pins:List (Addr × Obj)} {σ:L2.St} {H:Hp} {s:Shared} {φ:Ph} {h:Heap}
mutual
theorem zdI (I:Inv X pins σ H s):∀ {d:D} {v:V} {u:Value},Rep X.K cA φ H d v->RelV v u->Is s.heap d u
 | _,_,_,.non,r=>by cases r; exact .non
 | _,_,_,.bl b,r=>by cases r; exact .bl b
 | _,_,_,.int i,r=>by obtain ⟨t,rfl⟩:=r; exact .int i t
 | _,_,_,.str i,r=>by obtain ⟨t,rfl⟩:=r; exact .str i t
 | _,_,_,.tup h q,r=>by
  cases r
  obtain ⟨its,rv,ht,_⟩:=I.tuple h.sqT
  exact .tup ht (zfc I q rv)
 | _,_,_,.fl h q,r=>by
  cases r
  obtain ⟨its,rv,ht,_⟩:=I.list h.sqL
  exact .fl ht.isList (zfc I q rv)
 | _,_,_,.fd _ _,_=>.oth rfl
 | _,_,_,.exc _ _,_=>.oth rfl
 | _,_,_,.ob _ _,_=>.oth rfl
theorem zfc (I:Inv X pins σ H s):∀ {ds:List D} {vs:List V} {us:List Value},Reps X.K cA φ H ds vs->Vals vs us->Iss s.heap ds us
 | _,_,_,.nil,r=>by cases r; exact .nil
 | _,_,_,.cons q qs,r=>by
  cases r with
  | cons a b=>exact .cons (zdI I q a) (zfc I qs b)
end
theorem ze3 (I:Inv X pins σ H s) {d:D} {v:V} {u:Value} (q:Rv X.K cA φ H d v) (r:RelV v u):Is s.heap d u:=by
 cases d with
 | fl xs=>
  obtain ⟨a,vs,rfl,sq,rs⟩:=q
  cases r
  obtain ⟨its,rv,ht,_⟩:=I.list sq
  exact .fl ht.isList (zfc I rs rv)
 | non=>exact zdI I q r
 | bl b=>exact zdI I q r
 | int b=>exact zdI I q r
 | str b=>exact zdI I q r
 | tup b=>exact zdI I q r
 | fd b c=>exact zdI I q r
 | exc b c=>exact zdI I q r
 | ob b c=>exact zdI I q r
theorem Iss.len:∀ {ds:List D} {us:List Value},Iss h ds us->ds.length = us.length
 | _,_,.nil=>rfl
 | _,_,.cons _ r=>by rw [List.length_cons,List.length_cons,Iss.len r]
theorem Iss.get:∀ {ds:List D} {us:List Value} {i:Nat} {d:D},Iss h ds us->ds[i]? = some d->∃ u,us[i]? = some u/\Is h d u
 | _,_,_,_,.nil,e=>by simp at e
 | _,_,0,_,.cons h _,e=>by simp at e; subst e; exact ⟨_,rfl,h⟩
 | _,_,i + 1,d,.cons _ r,e=>by
  obtain ⟨v,a,b⟩:=Iss.get (i:=i) (d:=d) r (by simpa using e)
  exact ⟨v,by simpa using a,b⟩
theorem zft {a:Addr} {is js:Array Value} (p:h.IsTuple a is) (q:h.IsTuple a js):is = js:=by
 obtain ⟨o,e,c,n,d⟩:=p
 obtain ⟨o',e',c',n',d'⟩:=q
 rw [e] at e'; cases e'
 rw [d] at d'; cases d'
 rfl
theorem zfr {a:Addr} {is js:Array Value} (p:h.IsList a is) (q:h.IsList a js):is = js:=by
 obtain ⟨o,e,c,n,d⟩:=p
 obtain ⟨o',e',c',n',d'⟩:=q
 rw [e] at e'; cases e'
 rw [d] at d'; cases d'
 rfl
theorem za3 {a:Addr} {is js:Array Value} (p:h.IsList a is) (q:h.IsTuple a js):False:=by
 obtain ⟨o,e,c,n,d⟩:=p
 obtain ⟨o',e',c',n',d'⟩:=q
 rw [e] at e'; cases e'
 rw [c] at c'
 exact absurd c' (by simp)
theorem zbp {eq:D->D->Option Bool}:∀ {xs ys:List D} {b:Bool},deqs eq xs ys = some b->∃ e:Nat->Bool,(∀ (j:Nat) x y,xs[j]? = some x->ys[j]? = some y->eq x y = some (e j))/\b = ((List.range (min xs.length ys.length)).all e && xs.length == ys.length)
 | [],[],b,h=>by cases h; exact ⟨fun _=>true,fun j x y q=>by simp at q,by simp⟩
 | [],y::ys,b,h=>by cases h; exact ⟨fun _=>true,fun j x y q=>by simp at q,by simp⟩
 | x::xs,[],b,h=>by cases h; exact ⟨fun _=>true,fun j x y q r=>by simp at r,by simp⟩
 | x::xs,y::ys,b,h=>by
  simp only [deqs] at h
  cases e1:eq x y with
  | none=>rw [e1] at h; cases h
  | some a=>
   cases e2:deqs eq xs ys with
   | none=>rw [e1,e2] at h; cases h
   | some c=>
    rw [e1,e2] at h
    cases h
    obtain ⟨e,h1,h2⟩:=zbp e2
    refine ⟨fun j=>match j with | 0=>a | j + 1=>e j,fun j p q r1 r2=>?_,?_⟩
    ·cases j with
     | zero=>
      simp at r1 r2
      subst r1 r2
      exact e1
     | succ j=>exact h1 j p q (by simpa using r1) (by simpa using r2)
    ·rw [h2]
     simp only [List.length_cons,Nat.succ_min_succ,List.range_succ_eq_map,List.all_cons,List.all_map,Function.comp_def]
     rw [Bool.and_assoc]
     congr 2
     simp
theorem zao {n:Nat} {d e:D} (k:kq d = none):deq n d e = none:=by
 cases n <;> cases d <;> first | cases k; done | (cases e <;> rfl)
theorem zal {n:Nat} {d e:D} (k:kq e = none):deq n d e = none:=by
 cases n <;> cases e <;> first | cases k; done | (cases d <;> rfl)
theorem ze8:∀ (n:Nat) {d1 d2:D} {u:Value} {b:Bool},Is h d1 u->Is h d2 u->deq n d1 d2 = some b->b = true:=by
 intro n
 have rows:∀ (n:Nat),(∀ {d1 d2:D} {u:Value} {b:Bool},Is h d1 u->Is h d2 u->deq n d1 d2 = some b->b = true)->∀ {xs ys:List D} {is js:List Value} {b:Bool},Iss h xs is->Iss h ys js->is.toArray = js.toArray->deqs (deq n) xs ys = some b->b = true:=by
  intro n ih xs ys is js b q1 q2 e hd
  have e:is = js:=by simpa using e
  subst e
  obtain ⟨e,a1,a2⟩:=zbp (eq:=deq n) hd
  rw [a2]
  have hl:_ = _:=q1.len.trans q2.len.symm
  rw [Bool.and_eq_true]
  refine ⟨List.all_eq_true.mpr fun j hj=>?_,by rw [hl]; simp⟩
  have hj:=List.mem_range.mp hj
  obtain ⟨x,hx⟩ : ∃ x,_ = some x:=⟨_,List.getElem?_eq_getElem (Nat.lt_of_lt_of_le hj (Nat.min_le_left _ _))⟩
  obtain ⟨y,hy⟩ : ∃ y,_ = some y:=⟨_,List.getElem?_eq_getElem (Nat.lt_of_lt_of_le hj (Nat.min_le_right _ _))⟩
  obtain ⟨v1,e1,p1⟩:=q1.get hx
  obtain ⟨v2,e2,p2⟩:=q2.get hy
  rw [e1] at e2
  cases e2
  exact ih p1 p2 (a1 j x y hx hy)
 induction n with
 | zero=>
  intro d1 d2 u b r1 r2 hd
  cases r1 with
  | oth k=>rw [zao k] at hd; cases hd
  | non=>cases r2 with
   | oth k=>rw [zal k] at hd; cases hd
   | non=>cases hd; rfl
  | bl x=>cases r2 with
   | oth k=>rw [zal k] at hd; cases hd
   | bl y=>cases hd; simp
  | int x t=>cases r2 with
   | oth k=>rw [zal k] at hd; cases hd
   | int y=>cases hd; simp
  | str x t=>cases r2 with
   | oth k=>rw [zal k] at hd; cases hd
   | str y=>cases hd; simp
  | tup p q=>cases r2 with
   | oth k=>rw [zal k] at hd; cases hd
   | tup p2 q2=>cases hd
   | fl p2 q2=>exact (za3 p2 p).elim
  | fl p q=>cases r2 with
   | oth k=>rw [zal k] at hd; cases hd
   | fl p2 q2=>cases hd
   | tup p2 q2=>exact (za3 p p2).elim
 | succ n ih=>
  intro d1 d2 u b r1 r2 hd
  cases r1 with
  | oth k=>rw [zao k] at hd; cases hd
  | non=>cases r2 with
   | oth k=>rw [zal k] at hd; cases hd
   | non=>cases hd; rfl
  | bl x=>cases r2 with
   | oth k=>rw [zal k] at hd; cases hd
   | bl y=>cases hd; simp
  | int x t=>cases r2 with
   | oth k=>rw [zal k] at hd; cases hd
   | int y=>cases hd; simp
  | str x t=>cases r2 with
   | oth k=>rw [zal k] at hd; cases hd
   | str y=>cases hd; simp
  | tup p q=>cases r2 with
   | oth k=>rw [zal k] at hd; cases hd
   | tup p2 q2=>exact rows n ih q q2 (zft p p2) hd
   | fl p2 q2=>exact (za3 p2 p).elim
  | fl p q=>cases r2 with
   | oth k=>rw [zal k] at hd; cases hd
   | fl p2 q2=>exact rows n ih q q2 (zfr p p2) hd
   | tup p2 q2=>exact (za3 p p2).elim
theorem parts {n:Nat} {A:Around} {xs ys:List D} {is js:List Value} {b:Bool} (r1:Iss s.heap xs is) (r2:Iss s.heap ys js) (hd:deqs (deq n) xs ys = some b)
  (ih:∀ {d1 d2:D} {u1 u2:Value} {b:Bool},Is s.heap d1 u1->Is s.heap d2 u2->deq n d1 d2 = some b->SeqAt.EqAt A s u1 u2 b) :
  ∃ e:Nat->Bool,(∀ j (h1:j < is.toArray.size) (h2:j < js.toArray.size),SeqAt.EqAt A s is.toArray[j] js.toArray[j] (e j))/\b = ((List.range (min is.toArray.size js.toArray.size)).all e && is.toArray.size == js.toArray.size):=by
 obtain ⟨e,a1,a2⟩:=zbp hd
 have z1:=r1.len
 have z2:=r2.len
 refine ⟨e,fun j h1 h2=>?_,by simp only [List.size_toArray,<- z1,<- z2]; exact a2⟩
 simp only [List.size_toArray] at h1 h2
 obtain ⟨x,hx⟩ : ∃ x,xs[j]? = some x:=⟨_,List.getElem?_eq_getElem (by rw [z1]; exact h1)⟩
 obtain ⟨y,hy⟩ : ∃ y,ys[j]? = some y:=⟨_,List.getElem?_eq_getElem (by rw [z2]; exact h2)⟩
 obtain ⟨u,f1,g1⟩:=r1.get hx
 obtain ⟨u',f2,g2⟩:=r2.get hy
 have k1:is.toArray[j] = u:=by
  have:=List.getElem?_eq_some_iff.mp f1
  simpa using this.2
 have k2:js.toArray[j] = u':=by
  have:=List.getElem?_eq_some_iff.mp f2
  simpa using this.2
 rw [k1,k2]
 exact ih g1 g2 (a1 j x y hx hy)
theorem zfG {A:Around} {l m:Addr} {is js:Array Value} {e:Nat->Bool} {b:Bool} (p1:s.heap.IsList l is) (p2:s.heap.IsList m js) (hu:A.units < cLine) (he:∀ j (h1:j < is.size) (h2:j < js.size),SeqAt.EqAt A.in1 s is[j] js[j] (e j)) (hb:b = ((List.range (min is.size js.size)).all e && is.size == js.size)):SeqAt.RcAt A s (.ref l) (.ref m) b:=by
 by_cases hz:is.size = js.size
 ·have:b = (List.range is.size).all e:=by rw [hb,hz]; simp
  rw [this]
  exact SeqAt.RcAt.lists p1 p2 hz hu he
 ·have hz':(is.size != js.size) = true:=by simpa using hz
  have:b = false:=by rw [hb]; simp [hz]
  rw [this]
  exact SeqAt.RcAt.lists_lengths p1 p2 hz' hu
theorem zgk {A:Around} {l m:Addr} {is js:Array Value} {e:Nat->Bool} {b:Bool} (p1:s.heap.IsList l is) (p2:s.heap.IsList m js) (hu:A.units < cLine) (he:∀ j (h1:j < is.size) (h2:j < js.size),SeqAt.EqAt A.in1 s is[j] js[j] (e j)) (hb:b = ((List.range (min is.size js.size)).all e && is.size == js.size)):SeqAt.RcNeAt A s (.ref l) (.ref m) (!b):=by
 by_cases hz:is.size = js.size
 ·have:b = (List.range is.size).all e:=by rw [hb,hz]; simp
  rw [this]
  exact SeqAt.RcNeAt.lists p1 p2 hz hu he
 ·have hz':(is.size != js.size) = true:=by simpa using hz
  have:b = false:=by rw [hb]; simp [hz]
  rw [this]
  exact SeqAt.RcNeAt.lists_lengths p1 p2 hz' hu
open SeqAt in
theorem zdp:∀ (n:Nat) {A:Around} {d1 d2:D} {u1 u2:Value} {b:Bool},A.units + n < cLine->Is s.heap d1 u1->Is s.heap d2 u2->deq n d1 d2 = some b->SeqAt.EqAt A s u1 u2 b:=by
 intro n
 induction n with
 | zero=>
  intro A d1 d2 u1 u2 b hu r1 r2 hd
  have hu:A.units < cLine:=by omega
  cases r1 with
  | oth k=>rw [zao k] at hd; cases hd
  | non=>cases r2 with
   | oth k=>rw [zal k] at hd; cases hd
   | non=>cases hd; exact EqAt.same _
   | bl y=>cases hd; exact EqAt.none_bool _
   | int y t=>cases hd; exact EqAt.none_int _ _
   | str y t=>cases hd; exact EqAt.none_str _ _
   | tup p q=>cases hd; exact EqAt.none_tuple p hu
   | fl p q=>cases hd; exact EqAt.none_list p hu
  | bl x=>cases r2 with
   | oth k=>rw [zal k] at hd; cases hd
   | non=>cases hd; exact EqAt.bool_none _
   | bl y=>cases hd; exact EqAt.bool_bool _ _
   | int y t=>cases hd; exact EqAt.bool_int _ _ _
   | str y t=>cases hd; exact EqAt.bool_str _ _ _
   | tup p q=>cases hd; exact EqAt.bool_tuple _ p hu
   | fl p q=>cases hd; exact EqAt.bool_list _ p hu
  | int x t=>cases r2 with
   | oth k=>rw [zal k] at hd; cases hd
   | non=>cases hd; exact EqAt.int_none _ _
   | bl y=>cases hd; exact EqAt.int_bool _ _ _
   | int y t=>cases hd; exact EqAt.int_int _ _ _ _
   | str y t=>cases hd; exact EqAt.int_str _ _ _ _
   | tup p q=>cases hd; exact EqAt.int_tuple _ _ p hu
   | fl p q=>cases hd; exact EqAt.int_list _ _ p hu
  | str x t=>cases r2 with
   | oth k=>rw [zal k] at hd; cases hd
   | non=>cases hd; exact EqAt.str_none _ _
   | bl y=>cases hd; exact EqAt.str_bool _ _ _
   | int y t=>cases hd; exact EqAt.str_int _ _ _ _
   | str y t=>cases hd; exact EqAt.str_str _ _ _ _
   | tup p q=>cases hd; exact EqAt.str_tuple _ _ p hu
   | fl p q=>cases hd; exact EqAt.str_list _ _ p hu
  | tup p q=>cases r2 with
   | oth k=>rw [zal k] at hd; cases hd
   | non=>cases hd; exact EqAt.tuple_none p hu
   | bl y=>cases hd; exact EqAt.tuple_bool _ p hu
   | int y t=>cases hd; exact EqAt.tuple_int _ _ p hu
   | str y t=>cases hd; exact EqAt.tuple_str _ _ p hu
   | tup p2 q2=>cases hd
   | fl p2 q2=>cases hd; exact EqAt.tuple_list p p2 hu
  | fl p q=>cases r2 with
   | oth k=>rw [zal k] at hd; cases hd
   | non=>cases hd; exact EqAt.list_none p hu
   | bl y=>cases hd; exact EqAt.list_bool _ p hu
   | int y t=>cases hd; exact EqAt.list_int _ _ p hu
   | str y t=>cases hd; exact EqAt.list_str _ _ p hu
   | tup p2 q2=>cases hd; exact EqAt.list_tuple p p2 hu
   | fl p2 q2=>cases hd
 | succ n ih=>
  intro A d1 d2 u1 u2 b hu0 r1 r2 hd
  have hu:A.units < cLine:=by omega
  have hin:A.in1.units + n < cLine:=by show A.units + 1 + n < cLine; omega
  cases r1 with
  | oth k=>rw [zao k] at hd; cases hd
  | non=>cases r2 with
   | oth k=>rw [zal k] at hd; cases hd
   | non=>cases hd; exact EqAt.same _
   | bl y=>cases hd; exact EqAt.none_bool _
   | int y t=>cases hd; exact EqAt.none_int _ _
   | str y t=>cases hd; exact EqAt.none_str _ _
   | tup p q=>cases hd; exact EqAt.none_tuple p hu
   | fl p q=>cases hd; exact EqAt.none_list p hu
  | bl x=>cases r2 with
   | oth k=>rw [zal k] at hd; cases hd
   | non=>cases hd; exact EqAt.bool_none _
   | bl y=>cases hd; exact EqAt.bool_bool _ _
   | int y t=>cases hd; exact EqAt.bool_int _ _ _
   | str y t=>cases hd; exact EqAt.bool_str _ _ _
   | tup p q=>cases hd; exact EqAt.bool_tuple _ p hu
   | fl p q=>cases hd; exact EqAt.bool_list _ p hu
  | int x t=>cases r2 with
   | oth k=>rw [zal k] at hd; cases hd
   | non=>cases hd; exact EqAt.int_none _ _
   | bl y=>cases hd; exact EqAt.int_bool _ _ _
   | int y t=>cases hd; exact EqAt.int_int _ _ _ _
   | str y t=>cases hd; exact EqAt.int_str _ _ _ _
   | tup p q=>cases hd; exact EqAt.int_tuple _ _ p hu
   | fl p q=>cases hd; exact EqAt.int_list _ _ p hu
  | str x t=>cases r2 with
   | oth k=>rw [zal k] at hd; cases hd
   | non=>cases hd; exact EqAt.str_none _ _
   | bl y=>cases hd; exact EqAt.str_bool _ _ _
   | int y t=>cases hd; exact EqAt.str_int _ _ _ _
   | str y t=>cases hd; exact EqAt.str_str _ _ _ _
   | tup p q=>cases hd; exact EqAt.str_tuple _ _ p hu
   | fl p q=>cases hd; exact EqAt.str_list _ _ p hu
  | @tup a1 xs is p q=>cases r2 with
   | oth k=>rw [zal k] at hd; cases hd
   | non=>cases hd; exact EqAt.tuple_none p hu
   | bl y=>cases hd; exact EqAt.tuple_bool _ p hu
   | int y t=>cases hd; exact EqAt.tuple_int _ _ p hu
   | str y t=>cases hd; exact EqAt.tuple_str _ _ p hu
   | @tup a2 ys js p2 q2=>
    by_cases ea:a1 = a2
    ·subst ea
     have:=ze8 (n + 1) (.tup p q) (.tup p2 q2) hd
     subst this
     exact EqAt.same _
    ·obtain ⟨e,he,hb⟩:=parts (A:=A.in1) q q2 hd fun a b c=>ih hin a b c
     rw [hb]
     exact EqAt.of_refs ea (RcAt.tuples p p2 hu he)
   | fl p2 q2=>cases hd; exact EqAt.tuple_list p p2 hu
  | @fl a1 xs is p q=>cases r2 with
   | oth k=>rw [zal k] at hd; cases hd
   | non=>cases hd; exact EqAt.list_none p hu
   | bl y=>cases hd; exact EqAt.list_bool _ p hu
   | int y t=>cases hd; exact EqAt.list_int _ _ p hu
   | str y t=>cases hd; exact EqAt.list_str _ _ p hu
   | tup p2 q2=>cases hd; exact EqAt.list_tuple p p2 hu
   | @fl a2 ys js p2 q2=>
    by_cases ea:a1 = a2
    ·subst ea
     have:=ze8 (n + 1) (.fl p q) (.fl p2 q2) hd
     subst this
     exact EqAt.same _
    ·obtain ⟨e,he,hb⟩:=parts (A:=A.in1) q q2 hd fun a b c=>ih hin a b c
     exact EqAt.of_refs ea (zfG p p2 hu he hb)
end
end Mi
set_option Elab.async false
set_option linter.all false
set_option maxRecDepth 100000
set_option maxHeartbeats 4000000
namespace Mi
open PySem PySem.Spec PyProof.Rows L2
section
variable {X:Cx} {cA:Cl} {pins:List (Addr × Obj)} {σ:L2.St} {H:Hp} {s:Shared} {φ:Ph} {h:Heap}
open SeqAt in
theorem zgv {n:Nat} {A:Around} {d1 d2:D} {u1 u2:Value} {b:Bool} (hu0:A.units + (n + 1) < cLine) (r1:Is s.heap d1 u1) (r2:Is s.heap d2 u2) (hd:deq (n + 1) d1 d2 = some b):RcAt A s u1 u2 b/\RcNeAt A s u1 u2 (!b):=by
 have hu:A.units < cLine:=by omega
 have hin:A.in1.units + n < cLine:=by show A.units + 1 + n < cLine; omega
 cases r1 with
 | oth k=>rw [zao k] at hd; cases hd
 | non=>cases r2 with
  | oth k=>rw [zal k] at hd; cases hd
  | non=>cases hd; exact ⟨RcAt.none_none,RcNeAt.none_none⟩
  | bl y=>cases hd; exact ⟨RcAt.none_bool _,RcNeAt.none_bool _⟩
  | int y t=>cases hd; exact ⟨RcAt.none_int _ _,RcNeAt.none_int _ _⟩
  | str y t=>cases hd; exact ⟨RcAt.none_str _ _,RcNeAt.none_str _ _⟩
  | tup p q=>cases hd; exact ⟨RcAt.none_tuple p hu,RcNeAt.none_tuple p hu⟩
  | fl p q=>cases hd; exact ⟨RcAt.none_list p hu,RcNeAt.none_list p hu⟩
 | bl x=>cases r2 with
  | oth k=>rw [zal k] at hd; cases hd
  | non=>cases hd; exact ⟨RcAt.bool_none _,RcNeAt.bool_none _⟩
  | bl y=>cases hd; exact ⟨RcAt.bool_bool _ _,RcNeAt.bool_bool _ _⟩
  | int y t=>cases hd; exact ⟨RcAt.bool_int _ _ _,RcNeAt.bool_int _ _ _⟩
  | str y t=>cases hd; exact ⟨RcAt.bool_str _ _ _,RcNeAt.bool_str _ _ _⟩
  | tup p q=>cases hd; exact ⟨RcAt.bool_tuple _ p hu,RcNeAt.bool_tuple _ p hu⟩
  | fl p q=>cases hd; exact ⟨RcAt.bool_list _ p hu,RcNeAt.bool_list _ p hu⟩
 | int x t=>cases r2 with
  | oth k=>rw [zal k] at hd; cases hd
  | non=>cases hd; exact ⟨RcAt.int_none _ _,RcNeAt.int_none _ _⟩
  | bl y=>cases hd; exact ⟨RcAt.int_bool _ _ _,RcNeAt.int_bool _ _ _⟩
  | int y t=>cases hd; exact ⟨RcAt.int_int _ _ _ _,RcNeAt.int_int _ _ _ _⟩
  | str y t=>cases hd; exact ⟨RcAt.int_str _ _ _ _,RcNeAt.int_str _ _ _ _⟩
  | tup p q=>cases hd; exact ⟨RcAt.int_tuple _ _ p hu,RcNeAt.int_tuple _ _ p hu⟩
  | fl p q=>cases hd; exact ⟨RcAt.int_list _ _ p hu,RcNeAt.int_list _ _ p hu⟩
 | str x t=>cases r2 with
  | oth k=>rw [zal k] at hd; cases hd
  | non=>cases hd; exact ⟨RcAt.str_none _ _,RcNeAt.str_none _ _⟩
  | bl y=>cases hd; exact ⟨RcAt.str_bool _ _ _,RcNeAt.str_bool _ _ _⟩
  | int y t=>cases hd; exact ⟨RcAt.str_int _ _ _ _,RcNeAt.str_int _ _ _ _⟩
  | str y t=>cases hd; exact ⟨RcAt.str_str _ _ _ _,RcNeAt.str_str _ _ _ _⟩
  | tup p q=>cases hd; exact ⟨RcAt.str_tuple _ _ p hu,RcNeAt.str_tuple _ _ p hu⟩
  | fl p q=>cases hd; exact ⟨RcAt.str_list _ _ p hu,RcNeAt.str_list _ _ p hu⟩
 | @tup a1 xs is p q=>cases r2 with
  | oth k=>rw [zal k] at hd; cases hd
  | non=>cases hd; exact ⟨RcAt.tuple_none p hu,RcNeAt.tuple_none p hu⟩
  | bl y=>cases hd; exact ⟨RcAt.tuple_bool _ p hu,RcNeAt.tuple_bool _ p hu⟩
  | int y t=>cases hd; exact ⟨RcAt.tuple_int _ _ p hu,RcNeAt.tuple_int _ _ p hu⟩
  | str y t=>cases hd; exact ⟨RcAt.tuple_str _ _ p hu,RcNeAt.tuple_str _ _ p hu⟩
  | @tup a2 ys js p2 q2=>
   obtain ⟨e,he,hb⟩:=parts (A:=A.in1) q q2 hd fun a b c=>zdp n hin a b c
   rw [hb]
   exact ⟨RcAt.tuples p p2 hu he,RcNeAt.tuples p p2 hu he⟩
  | fl p2 q2=>cases hd; exact ⟨RcAt.tuple_list p p2 hu,RcNeAt.tuple_list p p2 hu⟩
 | @fl a1 xs is p q=>cases r2 with
  | oth k=>rw [zal k] at hd; cases hd
  | non=>cases hd; exact ⟨RcAt.list_none p hu,RcNeAt.list_none p hu⟩
  | bl y=>cases hd; exact ⟨RcAt.list_bool _ p hu,RcNeAt.list_bool _ p hu⟩
  | int y t=>cases hd; exact ⟨RcAt.list_int _ _ p hu,RcNeAt.list_int _ _ p hu⟩
  | str y t=>cases hd; exact ⟨RcAt.list_str _ _ p hu,RcNeAt.list_str _ _ p hu⟩
  | tup p2 q2=>cases hd; exact ⟨RcAt.list_tuple p p2 hu,RcNeAt.list_tuple p p2 hu⟩
  | @fl a2 ys js p2 q2=>
   obtain ⟨e,he,hb⟩:=parts (A:=A.in1) q q2 hd fun a b c=>zdp n hin a b c
   exact ⟨zfG p p2 hu he hb,zgk p p2 hu he hb⟩
noncomputable def rEqD (K:PySem.W.Frag) (cA:Cl) (f:Bool->Bool):R2:=fun x y H Q=>∃ φ d1 d2 b,Rv K cA φ H d1 x/\Rv K cA φ H d2 y/\deq 50 d1 d2 = some b/\Q (.bl (f b)) H
theorem zkw (hu:X.A.units + 60 < cLine):OpR X (compareOp .Eq) (rEqD X.K cA id):=by
 intro pins s σ H x y v u Q I rx ry ⟨φ,d1,d2,b,r1,r2,hd,q⟩
 exact (zgv (n:=49) (by omega) (ze3 I r1 rx) (ze3 I r2 ry) hd).1 X.prog X.w X.xe _ ⟨.bl b,H,I,rfl,q⟩
theorem zlg (hu:X.A.units + 60 < cLine):OpR X (compareOp .NotEq) (rEqD X.K cA not):=by
 intro pins s σ H x y v u Q I rx ry ⟨φ,d1,d2,b,r1,r2,hd,q⟩
 exact (zgv (n:=49) (by omega) (ze3 I r1 rx) (ze3 I r2 ry) hd).2 X.prog X.w X.xe _ ⟨.bl (!b),H,I,rfl,q⟩
theorem zjs:∀ (n:Nat) {d d' x:D} {u:Value} {b b':Bool},Is h d u->Is h d' u->deq n d x = some b->deq n d' x = some b'->b = b':=by
 intro n
 have flat:∀ {d d' x:D} {u:Value} {b b':Bool},Is h d u->Is h d' u->(∀ xs xs',d = .tup xs->d' = .tup xs'->False)->(∀ xs xs',d = .fl xs->d' = .fl xs'->False)->deq n d x = some b->deq n d' x = some b'->b = b':=by
  intro d d' x u b b' r1 r2 n1 n2 h1 h2
  cases r1 with
  | oth k=>rw [zao k] at h1; cases h1
  | non=>cases r2 with
   | oth k=>rw [zao k] at h2; cases h2
   | non=>rw [h1] at h2; exact Option.some.inj h2
  | bl y=>cases r2 with
   | oth k=>rw [zao k] at h2; cases h2
   | bl=>rw [h1] at h2; exact Option.some.inj h2
  | int y=>cases r2 with
   | oth k=>rw [zao k] at h2; cases h2
   | int=>rw [h1] at h2; exact Option.some.inj h2
  | str y=>cases r2 with
   | oth k=>rw [zao k] at h2; cases h2
   | str=>rw [h1] at h2; exact Option.some.inj h2
  | tup p q=>cases r2 with
   | oth k=>rw [zao k] at h2; cases h2
   | tup=>exact (n1 _ _ rfl rfl).elim
   | fl p2 q2=>exact (za3 p2 p).elim
  | fl p q=>cases r2 with
   | oth k=>rw [zao k] at h2; cases h2
   | fl=>exact (n2 _ _ rfl rfl).elim
   | tup p2 q2=>exact (za3 p p2).elim
 have tn:∀ {n:Nat} {xs xs':List D} {x:D},(∀ ys,x = .tup ys->False)->deq n (.tup xs) x = deq n (.tup xs') x:=fun {n xs xs' x} hx=>by
  cases n <;> cases x <;> first | rfl | exact (hx _ rfl).elim
 have ln:∀ {n:Nat} {xs xs':List D} {x:D},(∀ ys,x = .fl ys->False)->deq n (.fl xs) x = deq n (.fl xs') x:=fun {n xs xs' x} hx=>by
  cases n <;> cases x <;> first | rfl | exact (hx _ rfl).elim
 clear flat
 induction n with
 | zero=>
  intro d d' x u b b' r1 r2 h1 h2
  cases r1 with
  | oth k=>rw [zao k] at h1; cases h1
  | non=>cases r2 with
   | oth k=>rw [zao k] at h2; cases h2
   | non=>rw [h1] at h2; exact Option.some.inj h2
  | bl y=>cases r2 with
   | oth k=>rw [zao k] at h2; cases h2
   | bl=>rw [h1] at h2; exact Option.some.inj h2
  | int y=>cases r2 with
   | oth k=>rw [zao k] at h2; cases h2
   | int=>rw [h1] at h2; exact Option.some.inj h2
  | str y=>cases r2 with
   | oth k=>rw [zao k] at h2; cases h2
   | str=>rw [h1] at h2; exact Option.some.inj h2
  | tup p q=>cases r2 with
   | oth k=>rw [zao k] at h2; cases h2
   | tup p2 q2=>
    cases x with
    | tup ys=>cases h1
    | _=>rw [tn (by intro ys z; cases z),h2] at h1; exact (Option.some.inj h1).symm
   | fl p2 q2=>exact (za3 p2 p).elim
  | fl p q=>cases r2 with
   | oth k=>rw [zao k] at h2; cases h2
   | fl p2 q2=>
    cases x with
    | fl ys=>cases h1
    | _=>rw [ln (by intro ys z; cases z),h2] at h1; exact (Option.some.inj h1).symm
   | tup p2 q2=>exact (za3 p p2).elim
 | succ n ih=>
  intro d d' x u b b' r1 r2 h1 h2
  have rows:∀ {xs xs' ys:List D} {is js:List Value} {b b':Bool},Iss h xs is->Iss h xs' js->is.toArray = js.toArray->deqs (deq n) xs ys = some b->deqs (deq n) xs' ys = some b'->b = b':=by
   intro xs xs' ys is js b b' q1 q2 e h1 h2
   have e:is = js:=by simpa using e
   subst e
   obtain ⟨e1,a1,b1⟩:=zbp h1
   obtain ⟨e2,a2,b2⟩:=zbp h2
   have hl:xs.length = xs'.length:=q1.len.trans q2.len.symm
   rw [b1,b2,hl]
   congr 1
   rw [Bool.eq_iff_iff,List.all_eq_true,List.all_eq_true]
   have key:∀ j ∈ List.range (min xs'.length ys.length),e1 j = e2 j:=fun j hj=>by
    have hj:=List.mem_range.mp hj
    obtain ⟨x1,hx1⟩ : ∃ x,xs[j]? = some x:=⟨_,List.getElem?_eq_getElem (by rw [hl]; exact Nat.lt_of_lt_of_le hj (Nat.min_le_left _ _))⟩
    obtain ⟨x2,hx2⟩ : ∃ x,xs'[j]? = some x:=⟨_,List.getElem?_eq_getElem (Nat.lt_of_lt_of_le hj (Nat.min_le_left _ _))⟩
    obtain ⟨y,hy⟩ : ∃ y,ys[j]? = some y:=⟨_,List.getElem?_eq_getElem (Nat.lt_of_lt_of_le hj (Nat.min_le_right _ _))⟩
    obtain ⟨v1,f1,p1⟩:=q1.get hx1
    obtain ⟨v2,f2,p2⟩:=q2.get hx2
    rw [f1] at f2
    cases f2
    exact ih p1 p2 (a1 j x1 y hx1 hy) (a2 j x2 y hx2 hy)
   exact ⟨fun z j hj=>by rw [<- key j hj]; exact z j hj,fun z j hj=>by rw [key j hj]; exact z j hj⟩
  cases r1 with
  | oth k=>rw [zao k] at h1; cases h1
  | non=>cases r2 with
   | oth k=>rw [zao k] at h2; cases h2
   | non=>rw [h1] at h2; exact Option.some.inj h2
  | bl y=>cases r2 with
   | oth k=>rw [zao k] at h2; cases h2
   | bl=>rw [h1] at h2; exact Option.some.inj h2
  | int y=>cases r2 with
   | oth k=>rw [zao k] at h2; cases h2
   | int=>rw [h1] at h2; exact Option.some.inj h2
  | str y=>cases r2 with
   | oth k=>rw [zao k] at h2; cases h2
   | str=>rw [h1] at h2; exact Option.some.inj h2
  | tup p q=>cases r2 with
   | oth k=>rw [zao k] at h2; cases h2
   | tup p2 q2=>
    cases x with
    | tup ys=>exact rows q q2 (zft p p2) h1 h2
    | _=>rw [tn (by intro ys z; cases z),h2] at h1; exact (Option.some.inj h1).symm
   | fl p2 q2=>exact (za3 p2 p).elim
  | fl p q=>cases r2 with
   | oth k=>rw [zao k] at h2; cases h2
   | fl p2 q2=>
    cases x with
    | fl ys=>exact rows q q2 (zfr p p2) h1 h2
    | _=>rw [ln (by intro ys z; cases z),h2] at h1; exact (Option.some.inj h1).symm
   | tup p2 q2=>exact (za3 p p2).elim
theorem zfg {x:D}:∀ {xs:List D} {b:Bool},memD x xs = some b->∀ d ∈ xs,∃ k,deq 50 d x = some k
 | [],_,_,d,hd=>by cases hd
 | y::xs,b,h,d,hd=>by
  unfold memD at h
  cases e1:deq 50 y x with
  | none=>simp only [e1] at h; cases h
  | some a=>
   cases e2:memD x xs with
   | none=>simp only [e1,e2] at h; cases h
   | some c=>
    rcases List.mem_cons.mp hd with rfl | hd
    ·exact ⟨a,e1⟩
    ·exact zfg e2 d hd
theorem zfj {x:D}:∀ {xs:List D} {us:List Value} {b:Bool},memD x xs = some b->Iss h xs us->∃ e:Value->Bool,(∀ u ∈ us,∃ d,Is h d u/\deq 50 d x = some (e u))/\us.any e = b:=by
 intro xs us b hm r
 have ex:∀ u ∈ us,∃ d k,Is h d u/\deq 50 d x = some k:=by
  intro u hu
  obtain ⟨i,hi,e⟩:=List.getElem_of_mem hu
  have hl:=r.len
  obtain ⟨d,hd⟩ : ∃ d,xs[i]? = some d:=⟨_,List.getElem?_eq_getElem (by omega)⟩
  obtain ⟨u',e1,q⟩:=r.get hd
  rw [List.getElem?_eq_getElem hi,e] at e1
  cases e1
  obtain ⟨k,hk⟩:=zfg hm d (List.mem_of_getElem? hd)
  exact ⟨d,k,q,hk⟩
 refine ⟨fun u=>by classical exact if z:∃ k,∃ d,Is h d u/\deq 50 d x = some k then z.choose else false,fun u hu=>?_,?_⟩
 ·obtain ⟨d,k,q,hk⟩:=ex u hu
  have z:∃ k,∃ d,Is h d u/\deq 50 d x = some k:=⟨k,d,q,hk⟩
  dsimp only
  rw [dif_pos z]
  exact z.choose_spec
 ·clear ex
  have key:∀ (xs:List D) (us:List Value) (b:Bool),memD x xs = some b->Iss h xs us->us.any (fun u=>by classical exact if z:∃ k,∃ d,Is h d u/\deq 50 d x = some k then z.choose else false) = b:=by
   intro xs
   induction xs with
   | nil=>intro us b hm r; cases r; cases hm; rfl
   | cons d ds ih=>
    intro us b hm r
    cases r with
    | @cons _ u _ us a r=>
     unfold memD at hm
     cases e1:deq 50 d x with
     | none=>simp only [e1] at hm; cases hm
     | some k=>
      cases e2:memD x ds with
      | none=>simp only [e1,e2] at hm; cases hm
      | some c=>
       simp only [e1,e2] at hm
       cases hm
       rw [List.any_cons]
       have z:∃ k,∃ d,Is h d u/\deq 50 d x = some k:=⟨k,d,a,e1⟩
       have hk:z.choose = k:=by
        obtain ⟨d',q,hd'⟩:=z.choose_spec
        exact zjs 50 q a hd' e1
       rw [dif_pos z,hk,ih us c e2 r]
  exact key xs us b hm r
noncomputable def rInD (K:PySem.W.Frag) (cA:Cl) (f:Bool->Bool):R2:=fun x y H Q=>∃ φ d1 d2 xs b,Rv K cA φ H d1 x/\Rv K cA φ H d2 y/\sqOf d2 = some xs/\memD d1 xs = some b/\Q (.bl (f b)) H
theorem zl4 (hu:X.A.units + 60 < cLine):OpR X (compareOp .In) (rInD X.K cA id):=by
 intro pins s σ H x y v u Q I rx ry ⟨φ,d1,d2,xs,b,r1,r2,hq,hm,q⟩
 have hin:X.A.in1.units + 50 < cLine:=by show X.A.units + 1 + 50 < cLine; omega
 have i1:=ze3 I r1 rx
 cases ze3 I r2 ry with
 | tup p r=>
  cases hq
  obtain ⟨e,he,hb⟩:=zfj hm r
  refine SeqAt.in_tupleAt e p (fun w hw=>?_) ⟨.bl b,H,I,by rw [<- hb]; simp [L2.RelV],q⟩
  obtain ⟨d,q1,q2⟩:=he w (by simpa using hw)
  exact zdp 50 hin q1 i1 q2
 | fl p r=>
  cases hq
  obtain ⟨e,he,hb⟩:=zfj hm r
  refine SeqAt.in_listAt e p (fun w hw=>?_) ⟨.bl b,H,I,by rw [<- hb]; simp [L2.RelV],q⟩
  obtain ⟨d,q1,q2⟩:=he w (by simpa using hw)
  exact zdp 50 hin q1 i1 q2
 | oth k=>cases d2 <;> cases hq <;> cases k
 | _=>cases hq
end
end Mi
set_option Elab.async false
set_option linter.all false
set_option maxRecDepth 100000
set_option maxHeartbeats 4000000
namespace HT
open PySem PyProof.Rows
section
variable {prog:Program} {w:World} {A:Around} {E:Value->Shared->Prop} {s:Shared}
theorem cat_tup0 {t b:Addr} {vs ws:List Value} {Q:Value->Shared->Prop} (ht:IsTup s.heap t vs.toArray) (hb:IsTup s.heap b ws.toArray) (hv:vs = [])
  (h1:Q (.ref b) s):wpAny (model prog w) A (binaryOp .Add (.ref t) (.ref b)) Q E s:=by
 obtain ⟨⟨cls,dd,data,sl⟩,ho,hc,n,hd⟩:=id ht
 obtain ⟨⟨cls2,dd2,data2,sl2⟩,ho2,hc2,n2,hd2⟩:=id hb
 simp only at hc hd hc2 hd2
 subst hc hd hc2 hd2
 exact concat_meets ⟨_,ho,rfl⟩ ⟨_,ho2,rfl⟩ noFill_tuple_add seq_tuple_add PySem.F.slot_tuple_add PySem.F.entry_tuple_add (PySem.F.args_tuple_add_2 _ _)
   (tuple_addW0 t b vs.toArray ws.toArray n n2 dd dd2 sl sl2 (by simp [hv])) ⟨ho,ho2,h1⟩
theorem getItem_tuple_whole {t sl:Addr} {items:Array Value} {vl vu:Value} {lo hi:Option Int} {Q:Value->Shared->Prop} (ht:IsTup s.heap t items) (hs:s.heap.IsSliceOf sl vl vu .none) (pl:IsPart vl lo) (pu:IsPart vu hi)
  (hw:sIx items.size 0 lo = 0/\sIx items.size items.size hi = items.size) (h:Q (.ref t) s):wpAny (model prog w) A (getItem (.ref t) (.ref sl)) Q E s:=by
 obtain ⟨os,hos,hcs,hds⟩:=id hs
 have hTs:s.TypeIs (.ref sl) "slice":=⟨os,hos,hcs⟩
 unfold getItem
 try with_reducible refine wpAny_holding ?_
 first | refine wpAny_bind (wpAny_pure ?_) | skip
 refine wpAny_bind (wpAny_sequenceKey ht.typeIs (by decide) ?_)
 refine wpAny_bind (wpAny_callSpecial?_slot (name:=Str.ofString "__getitem__") ht.typeIs PyProof.Rows.slot_tuple_getitem
  (wpAny_call_entry PyProof.Rows.slot_tuple_getitem ht.typeIs entry_tuple_getitem ?_ (args_tuple_getitem _ _)))
 show wpAny _ _ (Builtin.Tuple.tupleItemsOf (.ref t) >>= _) _ _ s
 refine wpAny_bind (tupleItemsOf_ ht ?_)
 refine wpAny_bind (wpAny_typeOf hTs ?_)
 rw [if_pos (by decide)]
 refine wpAny_bind (zbl hs pl pu ?_)
 have hyes:(((sIx items.size 0 lo:Nat):Int) == 0 && (1:Int) == 1 && (sIx items.size items.size hi - sIx items.size 0 lo) == items.size) = true:=by
  rw [hw.1,hw.2]; simp
 show wpAny _ _ (if (((sIx items.size 0 lo:Nat):Int) == 0 && (1:Int) == 1 && (sIx items.size items.size hi - sIx items.size 0 lo) == items.size) = true then _ else _) _ _ s
 rw [if_pos hyes]
 refine wpAny_bind ?_
 unfold Builtin.Tuple.tupleIsExact
 refine wpAny_bind (wpAny_typeOf ht.typeIs ?_)
 refine wpAny_pure ?_
 rw [if_pos (by decide)]
 refine wpAny_bind (wpAny_rule ?_)
 exact wpAny_pure ⟨_,rfl,wpAny_pure h⟩
end
end HT
namespace L2
open PySem PySem.Spec PyProof.Rows
section
variable {X:Cx} {e:Expr} {te:TE} {pos p2:Pos}
noncomputable def rCatT' (K:PySem.W.Frag):R2:=fun x y H Q=>∃ a b xs ys,x = .ref a/\y = .ref b/\SqT K H a xs/\SqT K H b ys/\xs.length + ys.length<=sizeLine /\
 (xs = []->Q (.ref b) H)/\(ys = []->Q (.ref a) H)/\∀ p,H p = none->Q (.ref p) (upd H p (.tup (xs ++ ys)))
theorem op_catT':OpR X (binaryOp .Add) (rCatT' X.K):=by
 intro pins s σ H x y v u Q I rx ry h
 obtain ⟨a,b,xs,ys,rfl,rfl,ha,hb,hz,q0,q1,q2⟩:=h
 cases rx
 cases ry
 obtain ⟨its,r1,p1,_⟩:=I.tuple ha
 obtain ⟨its2,r2,p2,_⟩:=I.tuple hb
 by_cases hx:xs = []
 ·exact HT.cat_tup0 p1 p2 (r1.nil_iff.mpr hx) ⟨.ref b,H,I,rfl,q0 hx⟩
 ·refine HT.cat_tup p1 p2 (fun z=>hx (r1.nil_iff.mp z)) (fun z=>⟨.ref a,H,I,rfl,q1 (r2.nil_iff.mp z)⟩) (fun z=>?_) (by rw [<- r1.length,<- r2.length]; exact hz)
  refine ⟨.ref s.heap.objs.size,_,I.laid (t':=s.toks) (o:=.tup (xs ++ ys)) (fun b ob q=>Heap.get?_push_of_some _ q) (Nat.le_refl _) ?_,rfl,q2 _ (I.hok.fresh (Nat.le_refl _))⟩
  exact ⟨by rw [List.length_append]; exact hz,_,r1.append r2,IsTup.new _ _⟩
noncomputable def rSlT' (K:PySem.W.Frag):V->Option Int->Option Int->Hp->VK->Prop:=fun x lo hi H Q=>∃ a xs,x = .ref a/\SqT K H a xs /\
 ((HT.sIx xs.length 0 lo = 0/\HT.sIx xs.length xs.length hi = xs.length)->Q (.ref a) H)/\∀ p,H p = none->Q (.ref p) (upd H p (.tup (cutV xs lo hi)))
theorem zjc:SlR X (rSlT' X.K):=by
 intro pins s σ H x v vl vu lo hi sl Q I rx hs pl pu h
 obtain ⟨a,xs,rfl,hx,hw,q⟩:=h
 by_cases hz:HT.sIx xs.length 0 lo = 0/\HT.sIx xs.length xs.length hi = xs.length
 ·cases rx
  obtain ⟨its,r,ht,_⟩:=I.tuple hx
  have hlen:its.toArray.size = xs.length:=by rw [List.size_toArray]; exact r.length.symm
  refine ⟨"tuple",_,PyProof.Rows.slot_tuple_getitem.lookup,ht.typeIs,?_⟩
  exact HT.getItem_tuple_whole ht hs pl pu (by rw [hlen]; exact hz) ⟨.ref a,H,I,rfl,hw hz⟩
 ·exact zlM pins s σ H (.ref a) v vl vu lo hi sl Q I rx hs pl pu ⟨a,xs,rfl,hx,hz,q⟩
end
end L2
set_option Elab.async false
set_option linter.all false
set_option maxRecDepth 100000
set_option maxHeartbeats 4000000
namespace L2
open PySem PySem.Spec PyProof.Rows
section
variable {X:Cx}
noncomputable def rCatL (K:PySem.W.Frag):R2:=fun x y H Q=>∃ l b xs zs,x = .ref l/\y = .ref b/\SqL K H l xs/\SqL K H b zs/\xs.length + zs.length<=sizeLine/\∀ p,H p = none->Q (.ref p) (upd H p (.lst (xs ++ zs)))
theorem op_catL:OpR X (binaryOp .Add) (rCatL X.K):=by
 intro pins s σ H x y v u Q I rx ry h
 obtain ⟨l,b,xs,zs,rfl,rfl,hH,hB,hz,q⟩:=h
 cases rx
 cases ry
 obtain ⟨its,r,pl,_⟩:=I.list hH
 obtain ⟨its2,r2,pl2,_⟩:=I.list hB
 obtain ⟨⟨cls,dd,data,sl⟩,ho,hc,n,hd⟩:=pl.isList
 obtain ⟨⟨cls2,dd2,data2,sl2⟩,ho2,hc2,n2,hd2⟩:=pl2.isList
 simp only at hc hd hc2 hd2
 subst hc hd hc2 hd2
 refine concat_meets ⟨_,ho,rfl⟩ ⟨_,ho2,rfl⟩ noFill_list_add seq_list_add PySem.F.slot_list_add PySem.F.entry_list_add (PySem.F.args_list_add_2 _ _) (list_addW l b its.toArray its2.toArray n n2 dd dd2 sl sl2 (by rw [List.size_toArray,List.size_toArray,<- r.length,<- r2.length]; exact hz)) ⟨ho,ho2,?_⟩
 have ea:its.toArray ++ its2.toArray = (its ++ its2).toArray:=by simp
 rw [ea]
 exact ⟨.ref _,_,I.lnew (t':=s.toks) (r.append r2) (by rw [List.length_append]; omega),rfl,q _ I.fresh⟩
noncomputable def rAddAll (K:PySem.W.Frag):R2:=fun x y H Q=>rI0 (fun i j=>.int (i + j)) x y H Q\/rCatL K x y H Q\/rCatT' K x y H Q\/∃ i j,x = .str i/\y = .str j/\i.length + j.length<=sizeLine/\Q (.str (i ++ j)) H
theorem zgy:OpR X (binaryOp .Add) (rAddAll X.K):=op_add.or (op_catL.or (op_catT'.or zf0))
end
end L2
namespace Mi
open PySem PySem.Spec PyProof.Rows L2
section
variable {K:PySem.W.Frag} {cA:Cl} {φ:Ph} {H:Hp} {Q:VK} {p:Pr}
theorem OutP.some' {o:Option Rz} (h:OutP K cA φ H o Q):∃ z,o = some z:=by
 cases o with
 | none=>exact h.elim
 | some z=>exact ⟨z,rfl⟩
theorem OutP.of {o:Option Rz} {z:Rz} (h:OutP K cA φ H o Q) (e:o = some z):OutP K cA φ H (some z) Q:=e ▸ h
theorem OutP.here {d:D} {v:V} (h:OutP K cA φ H (some (.dat d)) Q) (r:Rep K cA φ H d v):Q v H:=h H v Grow.refl r
theorem OutP.tup {xs:List D} {vs:List V} {a:Addr} (h:OutP K cA φ H (some (.dat (.tup xs))) Q) (z:Zt φ H) (r:Reps K cA φ H xs vs) (hp:H a = none):Q (.ref a) (upd H a (.tup vs)):=
 h _ _ (Grow.new hp) (.tup (TupAt.new (z.nz hp)) (r.mono (Grow.new hp).ext z.lz))
theorem Rvs.two {ds:List D} {vs:List V} {d d':D} (h:Rvs K cA φ H [d,d'] vs):∃ v v',vs = [v,v']/\Rv K cA φ H d v/\Rv K cA φ H d' v':=by
 cases h with
 | cons a r=>cases r with
  | cons b r=>cases r; exact ⟨_,_,rfl,a,b⟩
theorem Rvs.one {vs:List V} {d:D} (h:Rvs K cA φ H [d] vs):∃ v,vs = [v]/\Rv K cA φ H d v:=by
 cases h with
 | cons a r=>cases r; exact ⟨_,rfl,a⟩
theorem Rv.int {i:Int} {v:V} (h:Rv K cA φ H (.int i) v):v = .int i:=by cases (show Rep K cA φ H (.int i) v from h); rfl
theorem Rv.bl {i:Bool} {v:V} (h:Rv K cA φ H (.bl i) v):v = .bl i:=by cases (show Rep K cA φ H (.bl i) v from h); rfl
theorem Rv.str {i:Str} {v:V} (h:Rv K cA φ H (.str i) v):v = .str i:=by cases (show Rep K cA φ H (.str i) v from h); rfl
theorem Rv.tup {xs:List D} {v:V} (h:Rv K cA φ H (.tup xs) v):∃ a vs,v = .ref a/\TupAt K φ H a vs/\Reps K cA φ H xs vs:=by
 cases (show Rep K cA φ H (.tup xs) v from h) with
 | tup a r=>exact ⟨_,_,rfl,a,r⟩
theorem Rv.sq {d:D} {xs:List D} {v:V} (h:Rv K cA φ H d v) (e:sqOf d = some xs):∃ a vs,v = .ref a/\(SqL K H a vs\/SqT K H a vs)/\Reps K cA φ H xs vs:=by
 cases d with
 | tup ys=>
  cases e
  obtain ⟨a,vs,e,t,r⟩:=Rv.tup h
  exact ⟨a,vs,e,.inr t.sqT,r⟩
 | fl ys=>
  cases e
  obtain ⟨a,vs,e,l,r⟩:=h
  exact ⟨a,vs,e,.inl l,r⟩
 | _=>cases e
theorem zey {f:Int->Int->Option D} {ds:List D} {z:Rz} (h:pInt2 f ds = some z):∃ i j d,ds = [.int i,.int j]/\f i j = some d/\z = .dat d:=by
 unfold pInt2 at h
 split at h
 ·obtain ⟨d,e1,e2⟩:=Option.map_eq_some_iff.mp h
  exact ⟨_,_,d,rfl,e1,e2.symm⟩
 ·cases h
theorem zcF {f:Int->Int->Option D} (hp:prim p = pInt2 f) {C:Int->Int->Prop} {g:Int->Int->V} (hf:∀ i j d,f i j = some d->C i j/\∀ φ H,Rep K cA φ H d (g i j)):PrOk K cA p (r2 (rI C g)):=by
 intro φ H ds vs Q zt rs o
 rw [hp] at o
 obtain ⟨z,e⟩:=o.some'
 obtain ⟨i,j,d,rfl,e1,rfl⟩:=zey e
 obtain ⟨c,r⟩:=hf i j d e1
 obtain ⟨v,v',rfl,r1,r2⟩:=rs.two (ds:=[])
 rw [r1.int,r2.int]
 exact ⟨_,_,rfl,i,j,rfl,rfl,c,(o.of e).here (r φ H)⟩
theorem zcz {f:Int->Int->D} (hp:prim p = pInt2 fun i j=>some (f i j)) {g:Int->Int->V} (hf:∀ i j φ H,Rep K cA φ H (f i j) (g i j)):PrOk K cA p (r2 (rI0 g)):=by
 intro φ H ds vs Q zt rs o
 obtain ⟨x,y,e,i,j,a,b,_,q⟩:=zcF (K:=K) (cA:=cA) (C:=fun _ _=>True) hp (fun i j d e=>⟨trivial,fun φ H=>by cases e; exact hf i j φ H⟩) φ H ds vs Q zt rs o
 exact ⟨x,y,e,i,j,a,b,q⟩
theorem zcN {α:Type} {c:Prop} [Decidable c] {x y:α} (h:(if c then some x else none) = some y):c/\y = x:=by
 split at h
 ·rename_i z; cases h; exact ⟨z,rfl⟩
 ·cases h
theorem zlm:PrOk K cA .sub (r2 (rI0 fun i j=>.int (i - j))):=zcz (f:=fun i j=>.int (i - j)) rfl fun i j _ _=>.int _
theorem zlG:PrOk K cA .mul (r2 (rI CMul fun i j=>.int (i * j))):=zcF rfl fun i j d e=>by obtain ⟨c,rfl⟩:=zcN e; exact ⟨c,fun _ _=>.int _⟩
theorem zjx:PrOk K cA .fdiv (r2 (rI CDiv fun i j=>.int (i / j))):=zcF rfl fun i j d e=>by obtain ⟨c,rfl⟩:=zcN e; exact ⟨c,fun _ _=>.int _⟩
theorem zlc:PrOk K cA .mod (r2 (rI (fun _ j=>0 < j) fun i j=>.int (i % j))):=zcF rfl fun i j d e=>by obtain ⟨c,rfl⟩:=zcN e; exact ⟨c,fun _ _=>.int _⟩
theorem zmk:PrOk K cA .pow (r2 (rI CPow fun i j=>.int (i ^ j.toNat))):=zcF rfl fun i j d e=>by obtain ⟨c,rfl⟩:=zcN e; exact ⟨c,fun _ _=>.int _⟩
theorem zna:PrOk K cA .le (r2 (rI0 fun i j=>.bl (decide (i<=j)))):=zcz (f:=fun i j=>.bl (decide (i<=j))) rfl fun i j _ _=>.bl _
theorem zmY:PrOk K cA .ge (r2 (rI0 fun i j=>.bl (decide (j<=i)))):=zcz (f:=fun i j=>.bl (decide (j<=i))) rfl fun i j _ _=>.bl _
theorem zly:PrOk K cA .neg (fun vs H Q=>∃ x,vs = [x]/\rU (fun i=>.int (-i)) x H Q):=by
 intro φ H ds vs Q zt rs o
 obtain ⟨z,e⟩:=o.some'
 have e:pInt1 (fun i=>.int (-i)) ds = some z:=e
 unfold pInt1 at e
 split at e
 ·cases e
  obtain ⟨v,rfl,r1⟩:=rs.one
  exact ⟨_,rfl,_,r1.int,OutP.here (o.of rfl) (.int _)⟩
 ·cases e
theorem zmJ:PrOk K cA .eq (r2 (rEqD K cA id)):=by
 intro φ H ds vs Q zt rs o
 obtain ⟨z,e⟩:=o.some'
 have e:pEq id ds = some z:=e
 unfold pEq at e
 split at e
 ·obtain ⟨b,e1,e2⟩:=Option.map_eq_some_iff.mp e
  obtain ⟨v,v',rfl,r1,r2⟩:=rs.two (ds:=[])
  subst e2
  exact ⟨_,_,rfl,φ,_,_,b,r1,r2,e1,(o.of e).here (.bl _)⟩
 ·cases e
theorem zmv:PrOk K cA .ne (r2 (rEqD K cA not)):=by
 intro φ H ds vs Q zt rs o
 obtain ⟨z,e⟩:=o.some'
 have e:pEq not ds = some z:=e
 unfold pEq at e
 split at e
 ·obtain ⟨b,e1,e2⟩:=Option.map_eq_some_iff.mp e
  obtain ⟨v,v',rfl,r1,r2⟩:=rs.two (ds:=[])
  subst e2
  exact ⟨_,_,rfl,φ,_,_,b,r1,r2,e1,(o.of e).here (.bl _)⟩
 ·cases e
theorem zjZ {f:Bool->Bool} {ds:List D} {z:Rz} (h:pIn f ds = some z):∃ a b xs k,ds = [a,b]/\sqOf b = some xs/\memD a xs = some k/\z = .dat (.bl (f k)):=by
 unfold pIn at h
 split at h
 ·obtain ⟨k,e1,e2⟩:=Option.map_eq_some_iff.mp h
  obtain ⟨xs,e3,e4⟩:=Option.bind_eq_some_iff.mp e1
  exact ⟨_,_,xs,k,rfl,e3,e4,e2.symm⟩
 ·cases h
theorem zmH:PrOk K cA .inn (r2 (rInD K cA id)):=by
 intro φ H ds vs Q zt rs o
 obtain ⟨z,e⟩:=o.some'
 obtain ⟨a,b,xs,k,rfl,e1,e2,rfl⟩:=zjZ (show pIn id ds = some z from e)
 obtain ⟨v,v',rfl,r1,r2⟩:=rs.two (ds:=[])
 exact ⟨_,_,rfl,φ,_,_,xs,k,r1,r2,e1,e2,(o.of e).here (.bl _)⟩
theorem zbF:∀ {xs:List D} {ns:List Int} {vs:List V},isInts xs = some ns->Reps K cA φ H xs vs->vs = ns.map V.int
 | [],ns,vs,h,r=>by cases h; cases r; rfl
 | d::xs,ns,vs,h,r=>by
  cases d with
  | int i=>
   simp only [isInts,Option.map_eq_some_iff] at h
   obtain ⟨ns',h1,rfl⟩:=h
   cases r with
   | cons a r=>cases a; rw [zbF h1 r]; rfl
  | _=>simp [isInts] at h
theorem zgz:∀ (a b:List Int),ltI a b = HT.lexLt a b
 | _,[]=>by cases ‹List Int› <;> rfl
 | [],_::_=>rfl
 | x::xs,y::ys=>by
  unfold ltI
  rw [zgz xs ys,HT.lexLt_cons]
theorem zm2:PrOk K cA .lt (r2 fun x y H Q=>rI0 (fun i j=>.bl (decide (i < j))) x y H Q\/rLtT K x y H Q):=by
 intro φ H ds vs Q zt rs o
 obtain ⟨z,e⟩:=o.some'
 have e:pLt ds = some z:=e
 unfold pLt at e
 split at e
 ·cases e
  obtain ⟨v,v',rfl,r1,r2⟩:=rs.two (ds:=[])
  exact ⟨_,_,rfl,.inl ⟨_,_,r1.int,r2.int,OutP.here (o.of rfl) (.bl _)⟩⟩
 ·split at e
  ·rename_i a b h1 h2
   cases e
   obtain ⟨v,v',rfl,r1,r2⟩:=rs.two (ds:=[])
   obtain ⟨p,us,rfl,t1,q1⟩:=r1.tup
   obtain ⟨p',us',rfl,t2,q2⟩:=r2.tup
   have o2:OutP K cA φ H (some (.dat (.bl (ltI a b)))) Q:=by
    have o3:OutP K cA φ H (pLt [.tup _,.tup _]) Q:=o
    unfold pLt at o3
    simp only [h1,h2] at o3
    exact o3
   refine ⟨_,_,rfl,.inr ⟨p,p',a,b,rfl,rfl,by rw [<- zbF h1 q1]; exact t1.sqT,by rw [<- zbF h2 q2]; exact t2.sqT,?_⟩⟩
   rw [<- zgz]
   exact o2.here (.bl _)
  ·cases e
 ·cases e
theorem zli:PrOk K cA .add (r2 (rAddAll K)):=by
 intro φ H ds vs Q zt rs o
 have o:OutP K cA φ H (pAdd ds) Q:=o
 unfold pAdd at o
 split at o
 ·obtain ⟨v,v',rfl,r1,r2⟩:=rs.two (ds:=[])
  exact ⟨_,_,rfl,.inl ⟨_,_,r1.int,r2.int,OutP.here o (.int _)⟩⟩
 ·obtain ⟨v,v',rfl,r1,r2⟩:=rs.two (ds:=[])
  obtain ⟨p,us,rfl,t1,q1⟩:=r1.tup
  obtain ⟨p',us',rfl,t2,q2⟩:=r2.tup
  split at o
  ·rename_i hz
   refine ⟨_,_,rfl,.inr (.inr (.inl ⟨p,p',us,us',rfl,rfl,t1.sqT,t2.sqT,by rw [<- q1.len,<- q2.len]; exact hz,fun e=>?_,fun e=>?_,fun a ha=>o.tup zt (q1.app q2) ha⟩))⟩
   ·subst e; cases q1; exact o.here (.tup t2 q2)
   ·subst e; cases q2; rw [List.append_nil] at o; exact o.here (.tup t1 q1)
  ·exact o.elim
 ·obtain ⟨v,v',rfl,⟨p,us,rfl,t1,q1⟩,⟨p',us',rfl,t2,q2⟩⟩:=rs.two (ds:=[])
  split at o
  ·rename_i hz
   exact ⟨_,_,rfl,.inr (.inl ⟨p,p',us,us',rfl,rfl,t1,t2,by rw [<- q1.len,<- q2.len]; exact hz,fun a ha=>o a _ ha (q1.app q2)⟩)⟩
  ·exact o.elim
 ·obtain ⟨v,v',rfl,r1,r2⟩:=rs.two (ds:=[])
  split at o
  ·rename_i hz
   exact ⟨_,_,rfl,.inr (.inr (.inr ⟨_,_,r1.str,r2.str,hz,o.here (.str _)⟩))⟩
  ·exact o.elim
 ·exact o.elim
theorem zmg:PrOk K cA .len (fun xs H Q=>∃ p ys,xs = [.ref p]/\(SqL K H p ys\/SqT K H p ys)/\Q (.int ys.length) H):=by
 intro φ H ds vs Q zt rs o
 have o:OutP K cA φ H (pSq1 (fun xs=>some (.dat (.int xs.length))) ds) Q:=o
 unfold pSq1 at o
 split at o
 ·obtain ⟨v,rfl,r1⟩:=rs.one
  obtain ⟨z,e⟩:=o.some'
  obtain ⟨xs,e1,e2⟩:=Option.bind_eq_some_iff.mp e
  obtain ⟨a,us,rfl,sq,q⟩:=r1.sq e1
  cases e2
  refine ⟨a,us,rfl,sq,?_⟩
  rw [<- q.len]
  exact (o.of e).here (.int _)
 ·exact o.elim
theorem zjk:PrOk K cA .list (fun xs H Q=>∃ p ys,xs = [.ref p]/\(SqL K H p ys\/SqT K H p ys)/\∀ l,H l = none->Q (.ref l) (upd H l (.lst ys))):=by
 intro φ H ds vs Q zt rs o
 have o:OutP K cA φ H (pSq1 (fun xs=>some (.nw xs)) ds) Q:=o
 unfold pSq1 at o
 split at o
 ·obtain ⟨v,rfl,r1⟩:=rs.one
  obtain ⟨z,e⟩:=o.some'
  obtain ⟨xs,e1,e2⟩:=Option.bind_eq_some_iff.mp e
  obtain ⟨a,us,rfl,sq,q⟩:=r1.sq e1
  cases e2
  exact ⟨a,us,rfl,sq,fun l hl=>(o.of e) l us hl q⟩
 ·exact o.elim
theorem ziE:PrOk K cA .tuple (fun xs H Q=>∃ p ys,xs = [.ref p]/\((SqL K H p ys/\∀ l,H l = none->Q (.ref l) (upd H l (.tup ys)))\/(SqT K H p ys/\Q (.ref p) H))):=by
 intro φ H ds vs Q zt rs o
 have o:OutP K cA φ H (pTuple ds) Q:=o
 unfold pTuple at o
 split at o
 ·rename_i d _
  obtain ⟨v,rfl,r1⟩:=rs.one
  cases d with
  | tup xs=>
   obtain ⟨a,us,rfl,t,q⟩:=r1.tup
   exact ⟨a,us,rfl,.inr ⟨t.sqT,OutP.here o (.tup t q)⟩⟩
  | fl xs=>
   obtain ⟨a,us,rfl,t,q⟩:=r1
   exact ⟨a,us,rfl,.inl ⟨t,fun l hl=>OutP.tup o zt q hl⟩⟩
  | _=>exact o.elim
 ·exact o.elim
theorem zkn:PrOk K cA .int1 (fun xs H Q=>(∃ i,xs = [.int i]/\Q (.int i) H)\/∃ k,xs = [.bl k]/\Q (.int (if k then 1 else 0)) H):=by
 intro φ H ds vs Q zt rs o
 have o:OutP K cA φ H (pInt ds) Q:=o
 unfold pInt at o
 split at o
 ·obtain ⟨v,rfl,r1⟩:=rs.one
  rw [r1.int]
  exact .inl ⟨_,rfl,OutP.here o (.int _)⟩
 ·obtain ⟨v,rfl,r1⟩:=rs.one
  rw [r1.bl]
  exact .inr ⟨_,rfl,OutP.here o (.int _)⟩
 ·exact o.elim
theorem zko:PrOk K cA .max2 (fun xs H Q=>∃ i j,xs = [.int i,.int j]/\Q (.int (if j > i then j else i)) H):=by
 intro φ H ds vs Q zt rs o
 obtain ⟨x,y,e,i,j,rfl,rfl,q⟩:=zcz (K:=K) (cA:=cA) (p:=.max2) (f:=fun i j=>.int (if j > i then j else i)) rfl (fun i j _ _=>.int _) φ H ds vs Q zt rs o
 exact ⟨i,j,e,q⟩
theorem zgm:PrOk K cA .divmod (fun xs H Q=>∃ i j,xs = [.int i,.int j]/\CDiv i j/\∀ p,H p = none->Q (.ref p) (upd H p (.tup [.int (i / j),.int (i % j)]))):=by
 intro φ H ds vs Q zt rs o
 have o:OutP K cA φ H (pInt2 (fun i j=>if 0 < j/\j < 1073741824 then some (.tup [.int (i / j),.int (i % j)]) else none) ds) Q:=o
 obtain ⟨z,e⟩:=o.some'
 obtain ⟨i,j,d,rfl,e1,rfl⟩:=zey e
 obtain ⟨c,rfl⟩:=zcN e1
 obtain ⟨v,v',rfl,r1,r2⟩:=rs.two (ds:=[])
 rw [r1.int,r2.int]
 exact ⟨i,j,rfl,c,fun p hp=>(o.of e).tup zt (.cons (.int _) (.cons (.int _) .nil)) hp⟩
theorem zde:∀ {xs:List D} {bs:List Bool} {vs:List V},allBl xs = some bs->Reps K cA φ H xs vs->vs = bs.map V.bl
 | [],bs,vs,h,r=>by cases h; cases r; rfl
 | d::xs,bs,vs,h,r=>by
  cases d with
  | bl b=>
   simp only [allBl,Option.map_eq_some_iff] at h
   obtain ⟨bs',h1,rfl⟩:=h
   cases r with
   | cons q r=>cases q; rw [zde h1 r]; rfl
  | _=>simp [allBl] at h
theorem zmV:PrOk K cA .ix (r2 (rIx K)):=by
 intro φ H ds vs Q zt rs o
 have o:OutP K cA φ H (pIx ds) Q:=o
 unfold pIx at o
 split at o
 ·rename_i d i _
  obtain ⟨v,v',rfl,r1,r2⟩:=rs.two (ds:=[])
  obtain ⟨z,e⟩:=o.some'
  obtain ⟨y,e1,e2⟩:=Option.map_eq_some_iff.mp e
  obtain ⟨xs,e3,e4⟩:=Option.bind_eq_some_iff.mp e1
  obtain ⟨a,us,rfl,sq,q⟩:=r1.sq e3
  have key:∃ w,L2.atI us i = some w/\Rep K cA φ H y w:=by
   unfold L2.atI at *
   rw [<- q.len]
   obtain ⟨j,h1,h2⟩:=Option.bind_eq_some_iff.mp e4
   obtain ⟨w,h3,h4⟩:=q.get h2
   exact ⟨w,by rw [h1]; exact h3,h4⟩
  obtain ⟨w,hw,rw'⟩:=key
  subst e2
  have q':=(o.of e).here rw'
  rcases sq with sq | sq
  ·exact ⟨_,_,rfl,.inl ⟨a,us,i,w,rfl,r2.int,sq,hw,q'⟩⟩
  ·exact ⟨_,_,rfl,.inr (.inl ⟨a,us,i,w,rfl,r2.int,sq,hw,q'⟩)⟩
 ·exact o.elim
noncomputable def rSl (K:PySem.W.Frag):V->Option Int->Option Int->Hp->VK->Prop:=fun x lo hi H Q=>rSlL K x lo hi H Q\/rSlT' K x lo hi H Q
theorem zl2 {X:Cx}:SlR X (rSl X.K):=sl_list.or zjc
theorem zj1 {d:D} {lo hi:Option Int} {v:V} (zt:Zt φ H) (r:Rv K cA φ H d v) (o:OutP K cA φ H (cutD d lo hi) Q):rSl K v lo hi H Q:=by
 cases d with
 | tup xs=>
  obtain ⟨a,us,rfl,t,q⟩:=r.tup
  refine .inr ⟨a,us,rfl,t.sqT,fun e=>?_,fun p hp=>OutP.tup o zt q.cut hp⟩
  have hc:cut xs lo hi = xs:=by
   unfold cut
   rw [q.len,e.1,e.2,List.drop_zero,Nat.sub_zero,<- q.len,List.take_length]
  have o:OutP K cA φ H (some (.dat (.tup (cut xs lo hi)))) Q:=o
  rw [hc] at o
  exact o.here (.tup t q)
 | fl xs=>
  obtain ⟨a,us,rfl,t,q⟩:=r
  exact .inl ⟨a,us,rfl,t,fun p hp=>o p _ hp q.cut⟩
 | _=>exact o.elim
end
end Mi
set_option Elab.async false
set_option linter.all false
set_option maxRecDepth 100000
set_option maxHeartbeats 4000000
namespace L2
open PySem PySem.Spec PyProof.Rows
section
variable {κ:Type} [DecidableEq κ]
noncomputable def putK (kvs:List (κ × V)) (k:κ) (v:V):List (κ × V):=
 if (kvs.any fun kv=>decide (kv.1 = k)) = true then kvs.map (fun kv=>if kv.1 = k then (kv.1,v) else kv) else kvs ++ [(k,v)]
theorem zeF (kvs:List (κ × V)) (k:κ) (v:V):(putK kvs k v).length<=kvs.length + 1:=by
 unfold putK
 split
 ·rw [List.length_map]; omega
 ·rw [List.length_append,List.length_cons,List.length_nil]; omega
theorem KV.any {kvs:List (κ × V)} {vs:List (κ × Value)} (r:KV kvs vs) (k:κ):(kvs.any fun kv=>decide (kv.1 = k)) = vs.any fun kv=>decide (kv.1 = k):=by
 unfold KV at r
 induction r with
 | nil=>rfl
 | cons h t ih=>rw [List.any_cons,List.any_cons,ih,h.1]
theorem KV.repl {kvs:List (κ × V)} {vs:List (κ × Value)} (r:KV kvs vs) (k:κ) {y:V} {u:Value} (ry:RelV y u) :
  KV (kvs.map fun kv=>if kv.1 = k then (kv.1,y) else kv) (vs.map fun kv=>if kv.1 = k then (kv.1,u) else kv):=by
 unfold KV at r ⊢
 induction r with
 | nil=>exact .nil
 | @cons p q ps qs h t ih=>
  rw [List.map_cons,List.map_cons]
  refine .cons ?_ ih
  obtain ⟨h1,h2⟩:=h
  by_cases e:p.1 = k
  ·rw [if_pos e,if_pos (h1.symm.trans e)]; exact ⟨h1,ry⟩
  ·rw [if_neg e,if_neg (fun z=>e (h1.trans z))]; exact ⟨h1,h2⟩
theorem KV.put {kvs:List (κ × V)} {vs:List (κ × Value)} (r:KV kvs vs) (k:κ) {y:V} {u:Value} (ry:RelV y u):KV (putK kvs k y) (stored vs k u):=by
 unfold putK stored
 rw [r.any k]
 by_cases e:(vs.any fun kv=>decide (kv.1 = k)) = true
 ·rw [if_pos e,if_pos e]; exact r.repl k ry
 ·rw [if_neg e,if_neg e]; exact Paired.snoc r ⟨rfl,ry⟩
end
theorem zmU {P:Program} {w:World} {k:Key} {u:Value} (r:RelV (kV k) u):(mixKind P w).is k u = true:=by
 cases k with
 | inl i=>obtain ⟨t,e⟩:=(show ∃ t,u = Value.int i t from r); subst e; exact ze6 P w i t
 | inr x=>obtain ⟨t,e⟩:=(show ∃ t,u = Value.str x t from r); subst e; exact zeY P w x t
section
variable {P:Program} {w:World} {H:Hp} {h:Heap} {a:Addr}
theorem zm8 {u:HO} (ok:HOk P w H h) (e:Rd H a u):ObjOk P w H h a u:=e.ok ok
theorem znb {kvs:List (Key × V)} (ok:HOk P w H h) (e:Rd H a (.dK kvs)):kvs.length<=sizeLine/\(a == sysModules) = false/\∃ vs,KV kvs vs/\h.DictOf (mixKind P w) a vs:=
 show ObjOk P w H h a (.dK kvs) from zm8 ok e
theorem zmQ {kvs:List (Key × V)} (ok:HOk P w H h) (e:H a = some (.dK kvs)):kvs.length<=sizeLine/\(a == sysModules) = false/\∃ vs,KV kvs vs/\h.DictOf (mixKind P w) a vs:=znb ok (.inl e)
end
section
variable {X:Cx} {pins:List (Addr × Obj)} {σ:St} {H:Hp} {s:Shared} {a:Addr} {y v:V} {u r:Value} {o:Option V} {A:Around} {E:Value->Shared->Prop}
theorem Inv.big (I:Inv X pins σ H s):sysModules < s.heap.objs.size:=by
 have h:mainGlobals < s.heap.objs.size:=(I.mod.glob.keeps I.bk).lt
 exact Nat.lt_trans (by decide) h
theorem zi6 {h':Heap} {t':Nat} {ob:HO} (I:Inv X pins σ H s) (mu:Mut (H a)) (hs:Heap.SameBut a s.heap h') (he:∃ q,h'.get? a = some q) (new:ObjOk X.prog X.w (upd H a ob) h' a ob) :
  Inv X pins σ (upd H a ob) { s with heap:=h',toks:=t' }:=
 I.write (x:=a) (e:=a) mu (.inl rfl) (fun b q hb z=>(hs.2 b hb).trans z) he new
theorem zlB {P:Program} {w:World} {H':Hp} {h':Heap} {kvs:List (Key × V)} {vs:List (Key × Value)} (z:kvs.length<=sizeLine) (hd:(a == sysModules) = false) (rel:KV kvs vs) (dd:h'.DictOf (mixKind P w) a vs) :
  ObjOk P w H' h' a (.dK kvs):=⟨z,hd,vs,rel,dd⟩
end
section
variable {X:Cx} {pins:List (Addr × Obj)} {σ:St} {H:Hp} {s:Shared} {a:Addr} {kvs:List (Key × V)} {k:Key} {u:Value} {A:Around} {E:Value->Shared->Prop}
end
section
variable {X:Cx} {o i e value:Expr} {pos pos' tpos:Pos} {td ty tv:TE}
end
theorem ziz {P:Program} {w:World} {H:Hp} (h:Heap) (hb:sysModules < h.objs.size):ObjOk P w H (h.push { cls:=.type "dict",data:=.dict #[] }) h.objs.size (.dK []):=
 ⟨Nat.zero_le _,beq_eq_false_iff_ne.mpr (Ne.symm (Nat.ne_of_lt hb)),[],.nil,Heap.DictOf.new h⟩
section
variable {X:Cx} {pos:Pos}
end
noncomputable def tPairs:List (TE × TE)->St->Hp->(List (V × V)->Hp->Prop)->Prop
 | [],_,H,Q=>Q [] H
 | (tk,tv)::r,σ,H,Q=>tk σ H fun x H1=>tv σ H1 fun y H2=>tPairs r σ H2 fun ps H3=>Q ((x,y)::ps) H3
noncomputable abbrev VV:List (V × V)->List (Value × Value)->Prop:=Paired fun p q=>RelV p.1 q.1/\RelV p.2 q.2
noncomputable def PPs (X:Cx) (pos:Pos) (keys:List (Option Expr)) (values:List Expr) (trs:List (TE × TE)):Prop:=
 ∀ (pins:List (Addr × Obj)) (s:Shared) (σ:St) (H:Hp) (Q:List (V × V)->Hp->Prop),Inv X pins σ H s->tPairs trs σ H Q->
  wpAny (model X.prog X.w) X.A (evalPairs (pairTrees keys values X.env pos)) (fun vs s'=>∃ ps H',Inv X pins σ H' s'/\VV ps vs/\Q ps H') X.xe s
theorem zkp {X:Cx} {pos:Pos}:PPs X pos [] [] []:=fun pins s σ H Q I h=>pairTrees_nil_walk ⟨[],H,I,.nil,h⟩
theorem ziA {X:Cx} {pos:Pos} {k v:Expr} {ks:List (Option Expr)} {vs:List Expr} {tk tv:TE} {trs:List (TE × TE)} (hk:PE X k tk) (hv:PE X v tv) (hr:PPs X pos ks vs trs) :
  PPs X pos (some k::ks) (v::vs) ((tk,tv)::trs):=fun pins s σ H Q I h=>
 pairTrees_cons_walk (thn (hk pins s σ H _ I h) fun u s1 ⟨x,H1,I1,rx,q1⟩=>thn (hv pins s1 σ H1 _ I1 q1) fun w2 s2 ⟨y,H2,I2,ry,q2⟩=>
  thn (hr pins s2 σ H2 _ I2 q2) fun ws s3 ⟨ps,H3,I3,rel,q3⟩=>⟨(x,y)::ps,H3,I3,.cons ⟨rx,ry⟩ rel,q3⟩)
noncomputable def mergeK (kvs more:List (Key × V)):List (Key × V):=more.foldl (fun acc kv=>putK acc kv.1 kv.2) kvs
theorem KV.merge:∀ {more:List (Key × V)} {rs:List (Key × Value)} {kvs:List (Key × V)} {vs:List (Key × Value)},KV more rs->KV kvs vs->KV (mergeK kvs more) (merged vs rs):=by
 intro more rs kvs vs r
 unfold KV at r
 induction r generalizing kvs vs with
 | nil=>intro q; exact q
 | @cons p q ps qs h t ih=>
  intro r0
  have e:KV (putK kvs p.1 p.2) (stored vs q.1 q.2):=by
   have:=r0.put p.1 h.2
   rw [<- h.1]; exact this
  exact ih e
theorem zbR:∀ (more kvs:List (Key × V)),(mergeK kvs more).length<=kvs.length + more.length
 | [],kvs=>by show kvs.length<=kvs.length + 0; omega
 | p::r,kvs=>by
  have h1:=zbR r (putK kvs p.1 p.2)
  have h2:=zeF kvs p.1 p.2
  show (mergeK (putK kvs p.1 p.2) r).length<=_
  rw [List.length_cons]; omega
theorem zdi {P:Program} {w:World}:∀ {kvs:List (Key × V)} {ws:List (Value × Value)},VV (kvs.map fun kv=>(kV kv.1,kv.2)) ws->∃ rs,Carries (mixKind P w) ws rs/\KV kvs rs
 | [],_,r=>by rw [List.map_nil] at r; cases r; exact ⟨[],True.intro,.nil⟩
 | p::kvs,_,r=>by
  rw [List.map_cons] at r
  cases r with
  | @cons a b as bs h t=>
   obtain ⟨rs,c,q⟩:=zdi (P:=P) (w:=w) t
   obtain ⟨b1,b2⟩:=b
   exact ⟨(p.1,b2)::rs,⟨zmU h.1,rfl,c⟩,.cons ⟨rfl,h.2⟩ q⟩
noncomputable def tDisp (trs:List (TE × TE)):TE:=fun σ H Q=>∀ p,H p = none->tPairs trs σ (upd H p (.dK [])) fun ps H2=>H2 p = some (.dK [])/\∃ kvs:List (Key × V),ps = kvs.map (fun kv=>(kV kv.1,kv.2))/\kvs.length<=15/\Q (.ref p) (upd H2 p (.dK (mergeK [] kvs)))
theorem zka {X:Cx} {pos:Pos} {keys:List (Option Expr)} {values:List Expr} {trs:List (TE × TE)} (h:PPs X pos keys values trs) (hall:keys.all (·.isSome) = true) (hl:keys.length = values.length) (h0:keys ≠ [])
  (h15:keys.length<=15):PE X (.Dict keys values pos) (tDisp trs):=by
 intro pins s σ H Q I q
 have hn:=I.hok.fresh (Nat.le_refl s.heap.objs.size)
 have I1:=I.laid (a:=s.heap.objs.size) (o:=.dK []) (h':=s.heap.push { cls:=.type "dict",data:=.dict #[] }) (t':=s.toks) (fun _ _ q=>Heap.get?_push_of_some _ q) (Nat.le_refl _) (ziz s.heap I.big)
 refine wpAny_Dict_walk (knd:=mixKind X.prog X.w) hall hl h0 h15 (thn (h pins _ σ _ _ I1 (q _ hn)) fun ws s2 ⟨ps,H2,I2,rel,e,kvs,ep,lk,q2⟩=>?_)
 subst ep
 obtain ⟨rs,c,rk⟩:=zdi (P:=X.prog) (w:=X.w) rel
 obtain ⟨z,hd,vs0,r0,dd⟩:=zmQ I2.hok e
 cases r0
 refine ⟨rs,c,dd,fun h' dd' hs=>⟨.ref s.heap.objs.size,_,?_,rfl,q2⟩⟩
 have hz:(mergeK [] kvs).length<=sizeLine:=by
  have h1:=zbR kvs []
  rw [List.length_nil] at h1
  rw [sizeLine_eq]; omega
 have he:∃ q,h'.get? s.heap.objs.size = some q:=let ⟨q,_,_,hq,_⟩:=dd'; ⟨q,hq⟩
 exact zi6 I2 (by rw [e]; exact True.intro) hs he (zlB hz hd (rk.merge .nil) dd')
section
variable {X:Cx} {pins:List (Addr × Obj)} {σ:St} {H:Hp} {s:Shared} {a:Addr} {y d:V} {u r:Value} {o:Option V} {A:Around} {E:Value->Shared->Prop}
end
section
variable {X:Cx} {o e f:Expr} {apos cpos:Pos} {td ty tx:TE}
end
section
variable {X:Cx} {pins:List (Addr × Obj)} {σ:St} {H:Hp} {s:Shared} {a:Addr} {kvs:List (Key × V)} {A:Around} {E:Value->Shared->Prop}
end
section
variable {X:Cx} {pins:List (Addr × Obj)} {σ:St} {H:Hp} {s:Shared} {a:Addr} {y:V} {u:Value} {A:Around} {E:Value->Shared->Prop}
end
end L2
set_option Elab.async false
set_option linter.all false
set_option maxRecDepth 100000
set_option maxHeartbeats 4000000
namespace Mi
open PySem PySem.Spec PyProof.Rows L2
section
variable {X:Cx} {cA:Cl} {sub:Nat->Nat->Bool} {calm:Bool} {F:Fn} {EX:XS} {a b c d e o:Expr} {A B C Dd E' O:E} {pos pp p2 apos cpos:Pos} {es:List Expr} {Xs:Es} {fz:Bool} {p:Pr} {x:Str} {φ:Ph} {H:Hp} {s:S} {lo hi:Option Expr} {Lo Hi:Eo}
noncomputable def SOp (X:Cx) (cA:Cl) (sub:Nat->Nat->Bool) (calm:Bool) (F:Fn) (EX:XS) (oe:Option Expr) (m:Eo):Prop:=
 PO X oe (fun σ H Q=>∃ φ τ s,RepL X.K cA φ H σ τ/\RepS X.K cA φ H s/\Run X.K cA (evo sub calm F m τ) φ H s (fun i _ φ' H'=>Q i H') (eX X.K cA EX σ))
theorem PO.weak {oe:Option Expr} {t t':TO} (h:PO X oe t) (f:∀ σ H Q,t' σ H Q->t σ H Q):PO X oe t':=by
 intro pins s σ H Q I q
 exact h pins s σ H Q I (f σ H Q q)
theorem zmG:SOp X cA sub calm F EX none .no:=PO.weak zj2 fun σ H Q hh=>un hh fun φ τ s hL hS h=>h.pure_ hS
theorem zlk (ha:SE X cA sub calm F EX a A):SOp X cA sub calm F EX (some a) (.yes A):=PO.weak (zjF ha) fun σ H Q hh=>un hh fun φ τ s hL hS h=>by
 refine useE hL hS h fun x H1 φ1 d1 s1 x1 hL1 hS1 r1 h1=>?_
 obtain ⟨i,_,e,h3⟩:=zcJ r1 h1
 exact ⟨i,e,h3.pure_ hS1⟩
theorem useO {β:Type} {σ:L2.St} {τ:Vs} {m:Eo} {k:Option Int->M β} {P:β->S->Ph->Hp->Prop} (hL:RepL X.K cA φ H σ τ) (hS:RepS X.K cA φ H s) (h:Run X.K cA (M.bd (evo sub calm F m τ) k) φ H s P (eX X.K cA EX σ)) {Q:Option Int->Hp->Prop}
  (f:∀ i H1 φ1 s1,Ext φ H φ1 H1->RepL X.K cA φ1 H1 σ τ->RepS X.K cA φ1 H1 s1->Run X.K cA (k i) φ1 H1 s1 P (eX X.K cA EX σ)->Q i H1) :
  ∃ φ τ s,RepL X.K cA φ H σ τ/\RepS X.K cA φ H s/\Run X.K cA (evo sub calm F m τ) φ H s (fun i _ φ' H'=>Q i H') (eX X.K cA EX σ):=
 ⟨φ,τ,s,hL,hS,h.bd.imp fun i s1 φ1 H1 ⟨x1,r1,h1⟩=>f i H1 φ1 s1 x1 (hL.mono x1 hS.lz) r1 h1⟩
theorem zm1 (ha:SE X cA sub calm F EX a A) (hl:SOp X cA sub calm F EX lo Lo) (hh:SOp X cA sub calm F EX hi Hi):SE X cA sub calm F EX (.Subscript a (.Slice lo hi none p2) pos) (.sl fz A Lo Hi):=PE.weak (ziv zl2 ha hl hh) fun σ H Q hh=>un hh fun φ τ s hL hS h=>by
 refine useE hL hS h fun x H1 φ1 d1 s1 x1 hL1 hS1 r1 h1=>useO hL1 hS1 h1 fun l H2 φ2 s2 x2 hL2 hS2 h2=>useO hL2 hS2 h2 fun u H3 φ3 s3 x3 hL3 hS3 h3=>?_
 obtain ⟨dd,rv,h4⟩:=zgt hS3 ((r1.mono x2 hS1.lz).mono x3 hS2.lz) h3
 exact zj1 hS3.zs rv (zaX hS3 h4)
theorem zeD:∀ bs:List Bool,(List.range bs.length).all (fun i=>(bs[i]?).getD false) = bs.all id
 | []=>rfl
 | b::r=>by
  rw [List.length_cons,List.range_succ_eq_map,List.all_cons,List.all_map,List.all_cons]
  have:=zeD r
  simp only [Function.comp_def,List.getElem?_cons_succ,List.getElem?_cons_zero,Option.getD_some,id]
  rw [this]
theorem zga (hc:X.calm = true):CallR X (.builtin "all") (fun xs H Q=>∃ (p:Addr) (bs:List Bool),xs = [.ref p]/\SqL X.K H p (bs.map V.bl)/\Q (.bl (bs.all id)) H):=by
 intro pins s σ H xs us Q I r ⟨p,bs,e,hp,q⟩
 subst e
 obtain ⟨u,rfl,ru⟩:=Vals.one r
 cases (show u = Value.ref p from ru)
 obtain ⟨its,rv,pl,hz⟩:=I.list hp
 have hl:s.heap.IsList p its.toArray:=pl.isList
 have hpn:p ≠ s.heap.objs.size:=by
  obtain ⟨o,hg,_⟩:=hl
  exact Nat.ne_of_lt (Heap.lt_size hg)
 refine call_all_walk (wpAny_pyIter_list hl ?_)
 refine ⟨_,_,_,_,_,_,fun i=>(bs[i]?).getD false,rfl,Walks.list (A:=X.A.in1) (I.ok.hd hc) _ p hpn its.toArray,⟨⟨_,Heap.get?_push_size _ rfl,rfl,rfl⟩,hl.push _⟩,?_,fun h' tk hk=>?_⟩
 ·intro i v s' Q' E' hP hQ
  have hi:its[i]? = some v:=by simpa using hP
  have hb:∃ b,bs[i]? = some b:=by
   have hlt:i < its.length:=(List.getElem?_eq_some_iff.mp hi).1
   have z:=rv.length
   rw [List.length_map] at z
   exact ⟨_,List.getElem?_eq_getElem (by omega)⟩
  obtain ⟨b,hb⟩:=hb
  obtain ⟨u,e1,e2⟩:=rv.get (i:=i) (x:=V.bl b) (by rw [List.getElem?_map,hb]; rfl)
  rw [hi] at e1
  cases e1
  cases (show v = Value.bool b from e2)
  have hQ:Q' ((bs[i]?).getD false) s':=hQ
  rw [hb] at hQ
  exact wpAny_truthy_bool hQ
 ·have ez:(List.range its.toArray.size).all (fun i=>(bs[i]?).getD false) = bs.all id:=by
   have z:=rv.length
   rw [List.length_map] at z
   rw [List.size_toArray,<- z]
   exact zeD bs
  rw [ez]
  refine ⟨.bl (bs.all id),H,I.kept (h':=h') (t':=tk) (old_kept hk),rfl,q⟩
theorem zkY {K:PySem.W.Frag}:PrOk K cA .all (fun xs H Q=>∃ (p:Addr) (bs:List Bool),xs = [.ref p]/\SqL K H p (bs.map V.bl)/\Q (.bl (bs.all id)) H):=by
 intro φ H ds vs Q zt rs o
 have o:OutP K cA φ H (pAll ds) Q:=o
 unfold pAll at o
 split at o
 ·obtain ⟨v,rfl,⟨ad,us,rfl,l,q⟩⟩:=rs.one
  obtain ⟨z,e⟩:=o.some'
  obtain ⟨bs,e1,e2⟩:=Option.map_eq_some_iff.mp e
  subst e2
  exact ⟨ad,bs,rfl,by rw [<- zde e1 q]; exact l,(o.of e).here (.bl _)⟩
 ·exact o.elim
noncomputable def kdB:Kd->String->Bool
 | .int,"int"=>true
 | .int,"bool"=>true
 | .bool,"bool"=>true
 | .str,"str"=>true
 | .tuple,"tuple"=>true
 | .list,"list"=>true
 | .dict,"dict"=>true
 | _,_=>false
noncomputable def kdV:Kd->Option Value
 | .int=>some (.type "int")
 | .bool=>some (.type "bool")
 | .str=>some (.type "str")
 | .tuple=>some (.type "tuple")
 | .list=>some (.type "list")
 | .dict=>some (.type "dict")
 | _=>none
theorem zlS {K:PySem.W.Frag} {k:Kd} {cu:Value} (h:kdV k = some cu) {T:String} (hT:T ∈ ["NoneType","bool","int","str","tuple","list","dict"]):PySem.W.kitOne K (.type T) cu = some (kdB k T):=by
 simp only [List.mem_cons,List.mem_nil_iff,or_false] at hT
 cases k <;> simp only [kdV] at h <;> cases h <;> rcases hT with rfl | rfl | rfl | rfl | rfl | rfl | rfl <;> rfl
structure Clss (K:PySem.W.Frag) (cA:Cl) (sub:Nat->Nat->Bool):Prop where
 xc:∀ c,XC K (cA.a c)
 sub:∀ c e,PySem.W.kitOne K (.ref (cA.a c)) (.ref (cA.a e)) = some (sub c e)
 verr:∀ c,PySem.W.kitOne K (.ref (cA.a c)) (.type "ValueError") = some true
noncomputable def kdC (cA:Cl):Kd->V
 | .cls e=>.ref (cA.a e)
 | .verr=>.ty "ValueError"
 | .int=>.ty "int"
 | .bool=>.ty "bool"
 | .str=>.ty "str"
 | .tuple=>.ty "tuple"
 | .list=>.ty "list"
 | .dict=>.ty "dict"
theorem zh6 {k:Kd} (Cs:kdV k = none->Clss X.K cA sub) :
  CallR X (.builtin "isinstance") (fun xs H Q=>∃ φ d v bb,xs = [v,kdC cA k]/\Rv X.K cA φ H d v/\isiOf sub d k = some bb/\Q (.bl bb) H):=by
 intro pins sh σ H xs us Q I r ⟨φ,d,v,bb,e,rd,hi,q⟩
 subst e
 obtain ⟨u,w,rfl,ru,rw_⟩:=Vals.two r
 have done_:∀ tk,EP X pins σ Q (.bool bb) { sh with toks:=tk }:=fun tk=>⟨.bl bb,H,I.tok tk,rfl,q⟩
 have bt:∀ {T:String} {Hh:Heap->Prop},PySem.W.KitX X.K u (.type T) Hh->Hh sh.heap->T ∈ ["NoneType","bool","int","str","tuple","list","dict"]->u ≠ Value.builtin "__main__.__loader__#opaque"->(∃ cu,kdV k = some cu/\w = cu/\kdB k T = bb)->wpAny (model X.prog X.w) X.A (PySem.call (.builtin "isinstance") [u,w]) (EP X pins σ Q) X.xe sh:=fun {T Hh} Z hh hT hx ⟨cu,h1,h2,h3⟩=>by
  subst h2 h3
  exact PySem.W.kia_one Z I.kIn hh (zlS h1 hT) hx done_
 have wv:∀ cu,kdV k = some cu->w = cu:=fun cu h=>by
  cases k <;> simp only [kdV] at h <;> cases h <;> exact rw_
 have fin:∀ T,isiOf sub d k = (match kdV k with | some _=>some (kdB k T) | none=>none)->∃ cu,kdV k = some cu/\w = cu/\kdB k T = bb:=fun T h=>by
  rw [hi] at h
  cases z:kdV k with
  | none=>rw [z] at h; cases h
  | some cu=>rw [z] at h; cases h; exact ⟨cu,rfl,wv cu z,rfl⟩
 cases d with
 | non=>
  cases (show Rep X.K cA φ H .non v from rd)
  cases (show u = Value.none from ru)
  exact bt PySem.W.kitx_none trivial (by simp) (fun z=>nomatch z) (fin "NoneType" (by cases k <;> rfl))
 | bl b=>
  cases rd.bl
  cases (show u = Value.bool b from ru)
  exact bt PySem.W.kitx_bool trivial (by simp) (fun z=>nomatch z) (fin "bool" (by cases k <;> rfl))
 | int i=>
  cases rd.int
  obtain ⟨t,z⟩:=(show ∃ t,u = Value.int i t from ru)
  cases z
  exact bt PySem.W.kitx_int trivial (by simp) (fun z=>nomatch z) (fin "int" (by cases k <;> rfl))
 | str y=>
  cases rd.str
  obtain ⟨t,z⟩:=(show ∃ t,u = Value.str y t from ru)
  cases z
  exact bt PySem.W.kitx_str trivial (by simp) (fun z=>nomatch z) (fin "str" (by cases k <;> rfl))
 | tup xs=>
  obtain ⟨ad,vs,rfl,h1,h2⟩:=rd.tup
  cases (show u = Value.ref ad from ru)
  obtain ⟨its,_,ht,_⟩:=I.tuple h1.sqT
  obtain ⟨o,q1,q2,_⟩:=ht
  exact bt PySem.W.kitx_tuple ⟨o,q1,q2⟩ (by simp) (fun z=>nomatch z) (fin "tuple" (by cases k <;> rfl))
 | fl xs=>
  obtain ⟨ad,vs,rfl,h1,h2⟩:=rd
  cases (show u = Value.ref ad from ru)
  obtain ⟨its,_,ht,_⟩:=I.list h1
  obtain ⟨o,q1,q2,_⟩:=ht.isList
  exact bt PySem.W.kitx_list ⟨o,q1,q2⟩ (by simp) (fun z=>nomatch z) (fin "list" (by cases k <;> rfl))
 | fd ks vs=>
  cases (show Rep X.K cA φ H (.fd ks vs) v from rd) with
  | @fd ad kk ii q1 n=>
   cases (show u = Value.ref ad from ru)
   obtain ⟨_,_,vs,_,o,es',ep,g1,g2,_⟩:=(show ObjOk X.prog X.w H sh.heap ad (.dK [(.inr kk,.int ii)]) from I.hok ad _ q1)
   exact bt PySem.W.kitx_dict ⟨o,g1,g2.1⟩ (by simp) (fun z=>nomatch z) (fin "dict" (by cases k <;> rfl))
 | ob c fs=>cases k <;> cases hi
 | exc c fs=>
  cases (show Rep X.K cA φ H (.exc c fs) v from rd) with
  | @exc ad _ _ vs hx rs=>
   cases (show u = Value.ref ad from ru)
   have hI:∃ ox od,PySem.W.InstAt sh.heap ad ox (cA.a c) od:=by
    obtain ⟨_,⟨_,_,hx⟩ | ⟨dx,hx,_,hd,_⟩⟩:=hx
    ·obtain ⟨⟨oe,vs,g1,g2,g3,g4⟩,_⟩:=(show ObjOk X.prog X.w H sh.heap ad (excO ad (cA.a c) none) from I.hok ad _ hx)
     exact ⟨oe,none,g1,g2,by unfold PySem.W.notCls; rw [g4],by rw [g3]; trivial⟩
    ·obtain ⟨⟨oe,vs,g1,g2,g3,g4⟩,_⟩:=(show ObjOk X.prog X.w H sh.heap ad (excO ad (cA.a c) (some dx)) from I.hok ad _ hx)
     obtain ⟨mA,⟨od,es,ep,e1,c1⟩,_⟩:=(show ObjOk X.prog X.w H sh.heap dx (.xd _) from I.hok dx _ hd)
     exact ⟨oe,some od,g1,g2,by unfold PySem.W.notCls; rw [g4],by rw [g3]; exact e1⟩
   cases k with
   | cls e=>
    cases (show w = Value.ref (cA.a e) from rw_)
    have z:some (sub c e) = some bb:=hi
    cases z
    exact PySem.W.kia_one (zfp ((Cs rfl).xc c)) I.kIn hI ((Cs rfl).sub c e) (fun z=>nomatch z) done_
   | verr=>
    cases (show w = Value.type "ValueError" from rw_)
    have z:some true = some bb:=hi
    cases z
    exact PySem.W.kia_one (zfp ((Cs rfl).xc c)) I.kIn hI ((Cs rfl).verr c) (fun z=>nomatch z) done_
   | _=>cases hi
theorem zmj {k:Kd} {kx:Expr} (Cs:kdV k = none->Clss X.K cA sub) (hg:Gl X "isinstance") (hm:X.mg "isinstance" = none) (ha:SE X cA sub calm F EX a A) (hk:PE X kx (tC (kdC cA k))) (h1:starEach [a,kx] X.env = (false,eval a X.env)::starEach [kx] X.env:=by rfl) (h2:starEach [kx] X.env = (false,eval kx X.env)::starEach [] X.env:=by rfl)
  (hpl:(backTo pos (starEach [kx] X.env)).any (·.1) = false:=by rfl):SE X cA sub calm F EX (.Call (.Name "isinstance" pp) [a,kx] [] pos) (.isi A k):=PE.weak (zfo (zh6 (cA:=cA) (k:=k) Cs) hg hm PyProof.Rows.boot_isinstance (zbk ha (zbk hk zdc h2) h1) (by decide) (by decide) h1 hpl) fun σ H Q hh=>un hh fun φ τ s hL hS h=>
 useE hL hS h fun v H1 φ1 d s1 x1 hL1 hS1 r1 h1=>by
  show ∃ φ d' v' bb,[v,kdC cA k] = [v',kdC cA k]/\_
  obtain ⟨dd,rv,h2⟩:=zgt hS1 r1 h1
  obtain ⟨bb,e,h3⟩:=Run.opt2 h2
  exact ⟨φ1,dd,v,bb,rfl,rv,e,h3.pure_ hS1 _ (.d (.bl bb))⟩
theorem zi7 {j p1 j2 p3} {k:Str} {i:Int}:SE X cA sub calm F EX (.Dict [some (.Constant (.str k) j p1)] [.Constant (.int i) j2 p3] pos) (.dct1 k i):=PE.weak (zka (ziA zi0 ziX zkp) rfl rfl (by simp) (Nat.le_of_ble_eq_true rfl)) fun σ H Q hh=>un hh fun φ τ s hL hS h=>by
 intro p hp
 refine ⟨zas,[(.inr k,.int i)],rfl,Nat.le_of_ble_eq_true rfl,?_⟩
 rw [zhh]
 exact h φ _ (Grow.new hp).ext (hS.grow (Grow.new hp)) _ (.d (.fd zas (hS.nz hp)))
end
end Mi
set_option Elab.async false
set_option linter.all false
set_option maxRecDepth 100000
set_option maxHeartbeats 4000000
namespace Mi
open PySem PySem.Spec PyProof.Rows L2
section
variable {K:PySem.W.Frag} {cA:Cl} {φ φ':Ph} {H H':Hp} {s:S}
theorem TupAt.zeq (e:∀ a,φ'.z a->φ.z a) {a:Addr} {vs:List V} (h:TupAt K φ H a vs):TupAt K φ' H a vs:=h.imp (fun ⟨p,n⟩=>⟨p,fun z=>n (e a z)⟩) id
theorem LstAt.zeq (e:∀ a,φ'.z a->φ.z a) {a:Addr} {vs:List V} (h:LstAt K φ H a vs):LstAt K φ' H a vs:=h.imp (fun ⟨p,n⟩=>⟨p,fun z=>n (e a z)⟩) id
theorem ExcAt.zeq (e:∀ a,φ'.z a->φ.z a) {a:Addr} {c:Nat} {vs:List V} (h:ExcAt cA φ H a c vs):ExcAt cA φ' H a c vs:=
 ⟨fun z=>h.1 (e a z),h.2.imp id fun ⟨dx,p,n,q,l⟩=>⟨dx,p,fun z=>n (e dx z),q,l⟩⟩
theorem ObAt.zeq (e:∀ a,φ'.z a->φ.z a) {a:Addr} {c:Nat} {vs:List V} (h:ObAt cA φ H a c vs):ObAt cA φ' H a c vs:=⟨fun z=>h.1 (e a z),h.2⟩
mutual
theorem Rep.zeq (e:∀ a,φ'.z a->φ.z a):∀ {d:D} {v:V},Rep K cA φ H d v->Rep K cA φ' H d v
 | _,_,.non=>.non
 | _,_,.bl b=>.bl b
 | _,_,.int i=>.int i
 | _,_,.str z=>.str z
 | _,_,.tup h r=>.tup (h.zeq e) (Reps.zeq e r)
 | _,_,.fl h r=>.fl (h.zeq e) (Reps.zeq e r)
 | _,_,.fd h n=>.fd h (fun z=>n (e _ z))
 | _,_,.exc h r=>.exc (h.zeq e) (Reps.zeq e r)
 | _,_,.ob h r=>.ob (h.zeq e) (Reps.zeq e r)
theorem Reps.zeq (e:∀ a,φ'.z a->φ.z a):∀ {ds:List D} {vs:List V},Reps K cA φ H ds vs->Reps K cA φ' H ds vs
 | _,_,.nil=>.nil
 | _,_,.cons h r=>.cons (Rep.zeq e h) (Reps.zeq e r)
end
theorem ObR.zeq (e:∀ a,φ'.z a->φ.z a) {a:Addr} {o:SO} (h:ObR K cA φ H a o):ObR K cA φ' H a o:=by
 cases o with
 | lst xs=>obtain ⟨vs,q1,q2⟩:=h; exact ⟨vs,q1,q2.zeq e⟩
 | dct _ _=>exact h
theorem Rep.zl {d:D} {v:V} (h:Rep K cA φ H d v) (l:List Addr):Rep K cA ⟨φ.z,l⟩ H d v:=Rep.zeq (φ:=φ) (φ':=⟨φ.z,l⟩) (fun _ z=>z) h
theorem Reps.zl {d:List D} {v:List V} (h:Reps K cA φ H d v) (l:List Addr):Reps K cA ⟨φ.z,l⟩ H d v:=Reps.zeq (φ:=φ) (φ':=⟨φ.z,l⟩) (fun _ z=>z) h
theorem ObR.zl {a:Addr} {o:SO} (h:ObR K cA φ H a o) (l:List Addr):ObR K cA ⟨φ.z,l⟩ H a o:=ObR.zeq (φ:=φ) (φ':=⟨φ.z,l⟩) (fun _ z=>z) h
noncomputable def adr (l:List Addr):List Nat->List Addr
 | []=>[]
 | n::r=>match l[n]? with
  | some a=>a::adr l r
  | none=>adr l r
theorem zcf {l:List Addr}:∀ {ns:List Nat} {a:Addr},a ∈ adr l ns->∃ n ∈ ns,l[n]? = some a
 | [],a,h=>by cases h
 | n::r,a,h=>by
  unfold adr at h
  cases e:l[n]? with
  | none=>
   simp only [e] at h
   obtain ⟨m,h1,h2⟩:=zcf h
   exact ⟨m,List.mem_cons_of_mem _ h1,h2⟩
  | some b=>
   simp only [e] at h
   rcases List.mem_cons.mp h with rfl | h
   ·exact ⟨n,List.mem_cons_self,e⟩
   ·obtain ⟨m,h1,h2⟩:=zcf h
    exact ⟨m,List.mem_cons_of_mem _ h1,h2⟩
theorem zfv {s:S}:∀ {ns:List Nat} {s0:S} {i n:Nat},subS s ns = some s0->ns[i]? = some n->s0[i]? = s[n]?/\∃ o,s[n]? = some o
 | [],s0,i,n,h,e=>by simp at e
 | m::r,s0,i,n,h,e=>by
  unfold subS at h
  cases e1:s[m]? with
  | none=>simp only [e1] at h; cases h
  | some o=>
   cases e2:subS s r with
   | none=>simp only [e1,e2] at h; cases h
   | some q=>
    simp only [e1,e2] at h
    cases h
    cases i with
    | zero=>simp at e; subst e; exact ⟨by simp [e1],o,e1⟩
    | succ i=>simpa using zfv e2 (by simpa using e)
theorem zfA {s:S}:∀ {ns:List Nat} {s0:S},subS s ns = some s0->s0.length = ns.length
 | [],s0,h=>by cases h; rfl
 | m::r,s0,h=>by
  unfold subS at h
  cases e1:s[m]? with
  | none=>simp only [e1] at h; cases h
  | some o=>
   cases e2:subS s r with
   | none=>simp only [e1,e2] at h; cases h
   | some q=>
    simp only [e1,e2] at h
    cases h
    rw [List.length_cons,List.length_cons,zfA e2]
theorem zcQ {l:List Addr}:∀ {ns:List Nat} {i n:Nat},(∀ n ∈ ns,∃ a,l[n]? = some a)->ns[i]? = some n->(adr l ns)[i]? = l[n]?
 | [],i,n,_,e=>by simp at e
 | m::r,i,n,h,e=>by
  obtain ⟨a,ha⟩:=h m List.mem_cons_self
  unfold adr
  simp only [ha]
  cases i with
  | zero=>simp at e; subst e; simp [ha]
  | succ i=>simpa using zcQ (fun n hn=>h n (List.mem_cons_of_mem _ hn)) (by simpa using e)
theorem zcV {l:List Addr}:∀ {ns:List Nat},(∀ n ∈ ns,∃ a,l[n]? = some a)->(adr l ns).length = ns.length
 | [],_=>rfl
 | m::r,h=>by
  obtain ⟨a,ha⟩:=h m List.mem_cons_self
  unfold adr
  simp only [ha]
  rw [List.length_cons,List.length_cons,zcV (fun n hn=>h n (List.mem_cons_of_mem _ hn))]
theorem zd4 {l:List Addr} (hl:l.Nodup):∀ {ns:List Nat},ns.Nodup->(∀ n ∈ ns,∃ a,l[n]? = some a)->(adr l ns).Nodup
 | [],_,_=>List.nodup_nil
 | m::r,hn,h=>by
  obtain ⟨a,ha⟩:=h m List.mem_cons_self
  unfold adr
  simp only [ha]
  obtain ⟨h1,h2⟩:=List.nodup_cons.mp hn
  refine List.nodup_cons.mpr ⟨fun z=>?_,zd4 hl h2 (fun n hn=>h n (List.mem_cons_of_mem _ hn))⟩
  obtain ⟨n,q1,q2⟩:=zcf z
  have:m = n:=(List.getElem?_inj (List.getElem?_eq_some_iff.mp ha).1 hl).mp (ha.trans q2.symm)
  exact h1 (this ▸ q1)
theorem zbd {s:S}:∀ {ns:List Nat} {s1:S},(wback s ns s1).length = s.length
 | [],s1=>by cases s1 <;> rfl
 | n::r,[]=>rfl
 | n::r,o::q=>by
  show (wback (s.set n o) r q).length = _
  rw [zbd,List.length_set]
theorem zcU {s:S}:∀ {ns:List Nat} {s1:S} {m:Nat},m ∉ ns->(wback s ns s1)[m]? = s[m]?
 | [],s1,m,_=>by cases s1 <;> rfl
 | n::r,[],m,_=>rfl
 | n::r,o::q,m,h=>by
  show (wback (s.set n o) r q)[m]? = _
  rw [zcU (fun z=>h (List.mem_cons_of_mem _ z)),List.getElem?_set_ne (fun z=>h (by rw [z]; exact List.mem_cons_self))]
theorem zff {s:S}:∀ {ns:List Nat} {s1:S} {i m:Nat} {o:SO},ns.Nodup->ns[i]? = some m->s1[i]? = some o->m < s.length->(wback s ns s1)[m]? = some o
 | [],s1,i,m,o,_,e,_,_=>by simp at e
 | n::r,[],i,m,o,_,_,e,_=>by simp at e
 | n::r,q::qs,i,m,o,hn,e1,e2,hm=>by
  show (wback (s.set n q) r qs)[m]? = _
  obtain ⟨h1,h2⟩:=List.nodup_cons.mp hn
  cases i with
  | zero=>
   simp at e1 e2
   subst e1 e2
   rw [zcU h1,List.getElem?_set_self hm]
  | succ i=>exact zff h2 (by simpa using e1) (by simpa using e2) (by rw [List.length_set]; exact hm)
theorem zcC:∀ {xs:List Xv} {vs:List V} (l0:List Addr) (z:Addr->Prop) (k:Nat),RepXs K cA φ H xs vs->φ.z = z->(∀ i n,(locs xs)[i]? = some n->l0[k + i]? = φ.l[n]?)->RepXs K cA ⟨z,l0⟩ H (renam k xs) vs
 | [],_,l0,z,k,.nil,_,_=>.nil
 | .d v::r,_,l0,z,k,.cons a q,ez,h=>by
  cases a with
  | d a=>exact .cons (.d (a.zeq fun b hb=>by rw [ez]; exact hb)) (zcC l0 z k q ez h)
 | .l n::r,_,l0,z,k,.cons a q,ez,h=>by
  cases a with
  | l a=>
   refine .cons (.l ?_) (zcC l0 z (k + 1) q ez fun i m e=>?_)
   ·have:=h 0 n rfl
    rw [Nat.add_zero] at this
    show l0[k]? = _
    rw [this]; exact a
   ·have:=h (i + 1) m (by simpa [locs] using e)
    rw [<- this]
    congr 1
    omega
theorem zch:∀ {xs:List Xv} {vs:List V},RepXs K cA φ H xs vs->∀ n ∈ locs xs,∃ a,φ.l[n]? = some a
 | [],_,.nil,n,h=>by cases h
 | .d v::r,_,.cons a q,n,h=>zch q n h
 | .l m::r,_,.cons a q,n,h=>by
  rcases List.mem_cons.mp h with rfl | h
  ·cases a with | l a=>exact ⟨_,a⟩
  ·exact zch q n h
theorem zdX {xs:List Xv} {φ1:Ph} {s0 s1:S} (hS:RepS K cA φ H s) (hn:(locs xs).Nodup) (ht:∀ n ∈ locs xs,∃ a,φ.l[n]? = some a) (x:Ext ⟨φ.z,adr φ.l (locs xs)⟩ H φ1 H') (r1:RepS K cA φ1 H' s1) :
  Ext φ H ⟨φ1.z,φ.l⟩ H'/\RepS K cA ⟨φ1.z,φ.l⟩ H' (wback s (locs xs) s1):=by
 have sub:∀ a ∈ adr φ.l (locs xs),a ∈ φ.l:=fun a ha=>by obtain ⟨n,_,q⟩:=zcf ha; exact List.mem_of_getElem? q
 obtain ⟨r,er,hr⟩:=x.more
 have er:φ1.l = adr φ.l (locs xs) ++ r:=er
 refine ⟨⟨⟨[],by simp,by simp⟩,fun a h=>x.zin a h,fun a h=>x.znew a h,fun a o h n=>x.frame a o h fun z=>n (sub a z),x.stay⟩,?_⟩
 refine ⟨by rw [zbd]; exact hS.len,fun n o a e1 e2=>?_,hS.uniq,fun a ha=>x.zin a (hS.lz a ha),r1.zt⟩
 have e2:φ.l[n]? = some a:=e2
 by_cases hin:n ∈ locs xs
 ·obtain ⟨i,hi,ei⟩:=List.getElem_of_mem hin
  have ei:(locs xs)[i]? = some n:=by rw [List.getElem?_eq_getElem hi,ei]
  have ha:(adr φ.l (locs xs))[i]? = some a:=by rw [zcQ ht ei]; exact e2
  have ha1:φ1.l[i]? = some a:=by rw [er,List.getElem?_append_left (List.getElem?_eq_some_iff.mp ha).1]; exact ha
  have hlt:i < s1.length:=by rw [<- r1.len]; exact (List.getElem?_eq_some_iff.mp ha1).1
  have hb:=zff (s:=s) (s1:=s1) hn ei (List.getElem?_eq_getElem hlt) (by rw [<- hS.len]; exact (List.getElem?_eq_some_iff.mp e2).1)
  rw [hb] at e1
  cases e1
  exact ObR.zl (r1.obj i _ a (List.getElem?_eq_getElem hlt) ha1) _
 ·rw [zcU hin] at e1
  have hna:a ∉ adr φ.l (locs xs):=fun z=>by
   obtain ⟨m,q1,q2⟩:=zcf z
   have:n = m:=(List.getElem?_inj (List.getElem?_eq_some_iff.mp e2).1 hS.uniq).mp (e2.trans q2.symm)
   exact hin (this ▸ q1)
  have:=hS.obj n o a e1 e2
  cases o with
  | lst ys=>
   obtain ⟨us,q1,q2⟩:=this
   refine ⟨us,x.frame a _ q1 hna,?_⟩
   have q3:Reps K cA ⟨φ.z,adr φ.l (locs xs)⟩ H ys us:=Reps.zl q2 _
   exact Reps.zl (q3.mono x fun a ha=>hS.lz a (sub a ha)) _
  | dct _ _=>exact this
theorem zhA {F:List Xv->M Xv} {xs:List Xv} {vs:List V} {Q:VK} {EE:Nat->List D->Ph->Hp->Prop} (hS:RepS K cA φ H s) (r:RepXs K cA φ H xs vs)
  (hE:∀ c fs φ1 φ2 H',φ1.z = φ2.z->EE c fs φ1 H'->EE c fs φ2 H')
  (h:Run K cA (callW F xs) φ H s (fun x _ φ' H'=>∀ v,RepX K cA φ' H' x v->Q v H') (fun c fs _ φ' H'=>EE c fs φ' H')) :
  ∃ φ0 s0,RepXs K cA φ0 H (renam 0 xs) vs/\RepS K cA φ0 H s0/\Run K cA (F (renam 0 xs)) φ0 H s0 (fun x _ φ' H'=>∀ v,RepX K cA φ' H' x v->Q v H') (fun c fs _ φ' H'=>EE c fs φ' H'):=by
 unfold Run callW at h
 by_cases hn:(locs xs).Nodup
 ·simp only [if_pos hn] at h
  have ht:=zch r
  have sub:∀ a ∈ adr φ.l (locs xs),a ∈ φ.l:=fun a ha=>by obtain ⟨n,_,q⟩:=zcf ha; exact List.mem_of_getElem? q
  cases e0:subS s (locs xs) with
  | none=>simp only [e0] at h
  | some s0=>
   simp only [e0] at h
   refine ⟨⟨φ.z,adr φ.l (locs xs)⟩,s0,zcC _ _ 0 r rfl (fun i n e=>by rw [Nat.zero_add]; exact zcQ ht e),?_,?_⟩
   ·refine ⟨by rw [zfA e0]; exact zcV ht,fun i o a e1 e2=>?_,zd4 hS.uniq hn ht,fun a ha=>hS.lz a (sub a ha),hS.zt⟩
    have e2:(adr φ.l (locs xs))[i]? = some a:=e2
    have hi:i < (locs xs).length:=by rw [<- zcV ht]; exact (List.getElem?_eq_some_iff.mp e2).1
    have ei:(locs xs)[i]? = some ((locs xs)[i]):=List.getElem?_eq_getElem hi
    rw [zcQ ht ei] at e2
    rw [(zfv e0 ei).1] at e1
    exact ObR.zl (hS.obj _ o a e1 e2) _
   ·unfold Run
    cases e1:F (renam 0 xs) s0 with
    | none=>simp only [e1] at h
    | some q=>
     obtain ⟨q,s1⟩:=q
     simp only [e1] at h
     cases q with
     | er c fs=>
      intro φ1 H' x r1
      obtain ⟨x2,r2⟩:=zdX (s0:=s0) hS hn ht x r1
      exact hE c fs ⟨φ1.z,φ.l⟩ φ1 H' rfl (h ⟨φ1.z,φ.l⟩ H' x2 r2)
     | ok y=>
      intro φ1 H' x r1 v rv
      obtain ⟨x2,r2⟩:=zdX (s0:=s0) hS hn ht x r1
      cases y with
      | d w=>
       cases rv with
       | d rv=>exact h ⟨φ1.z,φ.l⟩ H' x2 r2 v (.d (Rep.zl rv _))
      | l n=>
       cases rv with
       | @l _ a hl=>
        obtain ⟨rr,er,hr⟩:=x.more
        have er:φ1.l = adr φ.l (locs xs) ++ rr:=er
        cases em:(locs xs)[n]? with
        | some m=>
         simp only [em] at h
         refine h _ H' x2 r2 _ (.l ?_)
         show φ.l[m]? = some a
         have ha:(adr φ.l (locs xs))[n]? = φ.l[m]?:=zcQ ht em
         have hlt:n < (adr φ.l (locs xs)).length:=by rw [zcV ht]; exact (List.getElem?_eq_some_iff.mp em).1
         rw [er,List.getElem?_append_left hlt] at hl
         rw [<- ha]; exact hl
        | none=>
         simp only [em] at h
         have hge:(adr φ.l (locs xs)).length<=n:=by rw [zcV ht]; exact List.getElem?_eq_none_iff.mp em
         have har:a ∈ rr:=by
          rw [er,List.getElem?_append_right hge] at hl
          exact List.mem_of_getElem? hl
         have hna:a ∉ φ.l:=fun z=>by
          obtain ⟨o,eo⟩:=hS.zt a (hS.lz a z)
          rw [hr a har] at eo; cases eo
         cases eo:s1[n]? with
         | none=>simp only [eo] at h
         | some o=>
          simp only [eo] at h
          have ho:=r1.obj n o a eo hl
          refine h ⟨φ1.z,φ.l ++ [a]⟩ H' ⟨⟨[a],rfl,by simpa using hr a har⟩,x2.zin,x2.znew,x2.frame,x2.stay⟩ ?_ _ (.l (by show (φ.l ++ [a])[s.length]? = _; rw [<- hS.len]; simp))
          refine ⟨by show (φ.l ++ [a]).length = _; rw [List.length_append,List.length_append,zbd,hS.len]; rfl,fun m o' a' e1 e2=>?_,?_,fun b hb=>?_,r1.zt⟩
          ·have e2:(φ.l ++ [a])[m]? = some a':=e2
           by_cases hm:m < s.length
           ·rw [List.getElem?_append_left (by rw [zbd]; exact hm)] at e1
            rw [List.getElem?_append_left (by rw [hS.len]; exact hm)] at e2
            exact ObR.zl (r2.obj m o' a' e1 e2) _
           ·have hl2:m = s.length:=by
             have z:=(List.getElem?_eq_some_iff.mp e2).1
             rw [List.length_append,hS.len] at z
             simp at z
             omega
            subst hl2
            rw [List.getElem?_append_right (by rw [zbd]; exact Nat.le_refl _)] at e1
            rw [List.getElem?_append_right (by rw [hS.len]; exact Nat.le_refl _)] at e2
            simp [zbd] at e1
            simp [hS.len] at e2
            subst e1 e2
            exact ObR.zl ho _
          ·show (φ.l ++ [a]).Nodup
           rw [List.nodup_append]
           refine ⟨hS.uniq,by simp,fun b hb c hc e=>?_⟩
           simp at hc
           subst hc e
           exact hna hb
          ·have hb:b ∈ φ.l ++ [a]:=hb
           rcases List.mem_append.mp hb with z | z
           ·exact x2.zin b (hS.lz b z)
           ·simp at z
            subst z
            exact r1.lz _ (List.mem_of_getElem? hl)
 ·simp only [if_neg hn] at h
end
section
variable {X:Cx} {cA:Cl} {sub:Nat->Nat->Bool} {calm:Bool} {F:Fn} {EX:XS} {a b c d e o:Expr} {A B C Dd E' O:E} {pos pp p2 apos cpos:Pos} {es:List Expr} {Xs:Es} {fz:Bool} {p:Pr} {x:Str} {φ:Ph} {H:Hp} {s:S}
theorem zbP {K:PySem.W.Frag} {β:Type} {x:Xv} {v:V} {k:Nat × List D->M β} {P:β->S->Ph->Hp->Prop} {Ee:Nat->List D->S->Ph->Hp->Prop} (hS:RepS K cA φ H s) (r:RepX K cA φ H x v) (h:Run K cA (M.bd (lstAt x) k) φ H s P Ee) :
  ∃ n ad xs vs,x = .l n/\v = .ref ad/\s[n]? = some (.lst xs)/\φ.l[n]? = some ad/\H ad = some (.lst vs)/\Reps K cA φ H xs vs/\Run K cA (k (n,xs)) φ H s P Ee:=by
 cases r with
 | d _=>exact h.elim
 | @l n ad hl=>
  unfold Run M.bd lstAt at h
  dsimp only at h
  cases e:s[n]? with
  | none=>rw [e] at h; exact h.elim
  | some o=>
   rw [e] at h
   cases o with
   | lst xs=>
    obtain ⟨vs,q1,q2⟩:=hS.obj n _ _ e hl
    exact ⟨n,ad,xs,vs,rfl,rfl,e,hl,q1,q2,h⟩
   | dct _ _=>exact h.elim
theorem zjn (ho:SE X cA sub calm F EX o O) (ha:SE X cA sub calm F EX a A)
  (hbase:attributeBase o "append" X.env (eval o X.env) = eval o X.env:=by rfl)
  (hfew:((backTo cpos (starEach [a] X.env)).all (fun x=>!x.1) && (backToKw cpos (keywordEach [] X.env)).all (fun x=>x.1.isSome)
   && decide ([a].length + ([]:List Keyword).length + (if ([]:List Keyword).isEmpty then 0 else 1) < 30)) = true:=by rfl)
  (hline:(apos.endLine == cpos.line) = true:=by rfl) (hs:starEach [a] X.env = (false,eval a X.env)::starEach [] X.env:=by rfl) (hplain:(backTo cpos (starEach [] X.env)).any (·.1) = false:=by rfl) :
  SE X cA sub calm F EX (.Call (.Attribute o "append" apos) [a] [] cpos) (.push O A):=PE.weak (zmF PySem.F.plainAttrs_list PySem.F.slot_list_append PySem.F.type_list_append zdV ho (zbk ha zdc hs) hbase hfew hline hs hplain) fun σ H Q hh=>un hh fun φ τ s hL hS h=>by
 refine useE hL hS h fun x H1 φ1 d1 s1 x1 hL1 hS1 r1 h1=>?_
 obtain ⟨n,ad,xs,vs,rfl,rfl,e1,f1,g1,q1,h2⟩:=zbP hS1 r1 h1
 refine ⟨.inl ⟨rfl,vs,SqL.of g1⟩,useE hL1 hS1 h2 fun y H2 φ2 d2 s2 x2 hL2 hS2 r2 h3=>?_⟩
 obtain ⟨dd,_,rd,h4⟩:=ze2 r2 h3
 obtain ⟨n',ad',ys,us,en,ea,e2,f2,g2,q2,h5⟩:=zbP hS2 (r1.mono x2 hS1.lz) h4
 cases en
 cases ea
 by_cases hz:ys.length < sizeLine
 ·have h5:Run X.K cA (M.bd (putL n (ys ++ [dd])) fun _=>M.ret (Xv.d .non)) φ2 H2 s2 (fun d _ φ' H'=>∀ v,RepX X.K cA φ' H' d v->Q v H') (eX X.K cA EX σ):=by
   have h6:Run X.K cA (if ys.length < sizeLine then M.bd (putL n (ys ++ [dd])) fun _=>M.ret (Xv.d .non) else M.no) φ2 H2 s2 (fun d _ φ' H'=>∀ v,RepX X.K cA φ' H' d v->Q v H') (eX X.K cA EX σ):=h5
   rw [if_pos hz] at h6
   exact h6
  refine ⟨ad,us,y,rfl,rfl,g2,by rw [<- q2.len]; exact hz,?_⟩
  exact h5 φ2 _ (Ext.write f2 ⟨_,g2⟩) (hS2.write e2 f2 (q2.app (.cons rd .nil))) _ (.d .non)
 ·have h6:Run X.K cA (if ys.length < sizeLine then M.bd (putL n (ys ++ [dd])) fun _=>M.ret (Xv.d .non) else M.no) φ2 H2 s2 (fun d _ φ' H'=>∀ v,RepX X.K cA φ' H' d v->Q v H') (eX X.K cA EX σ):=h5
  rw [if_neg hz] at h6
  exact h6.elim
theorem zeI {α:Type} {xs:List α} {d:α} (h:xs.getLast? = some d):xs[xs.length - 1]? = some d:=by
 rw [List.getLast?_eq_getElem?] at h
 exact h
theorem Reps.dropLast {K:PySem.W.Frag} {ds:List D} {vs:List V} (r:Reps K cA φ H ds vs):Reps K cA φ H ds.dropLast vs.dropLast:=by
 rw [List.dropLast_eq_take,List.dropLast_eq_take,r.len]
 exact r.take _
theorem zmd (ho:SE X cA sub calm F EX o O) (hbase:attributeBase o "pop" X.env (eval o X.env) = eval o X.env:=by rfl) (hline:(apos.endLine == cpos.line) = true:=by rfl) :
  SE X cA sub calm F EX (.Call (.Attribute o "pop" apos) [] [] cpos) (.pop O):=PE.weak (zlV PySem.F.plainAttrs_list PySem.F.slot_list_pop PySem.F.type_list_pop zl3 ho hbase hline) fun σ H Q hh=>un hh fun φ τ s hL hS h=>by
 refine useE hL hS h fun x H1 φ1 d1 s1 x1 hL1 hS1 r1 h1=>?_
 obtain ⟨n,ad,xs,vs,rfl,rfl,e1,f1,g1,q1,h2⟩:=zbP hS1 r1 h1
 refine ⟨.inl ⟨rfl,vs,SqL.of g1⟩,?_⟩
 cases eg:xs.getLast? with
 | none=>simp only [eg] at h2; exact h2.elim
 | some dd=>
  simp only [eg] at h2
  obtain ⟨w,hw,rw'⟩:=q1.get (zeI eg)
  rw [q1.len] at hw
  refine ⟨ad,vs,w,rfl,rfl,g1,hw,?_⟩
  have x2:Ext φ1 H1 φ1 (upd H1 ad (.lst vs.dropLast)):=Ext.write f1 ⟨_,g1⟩
  exact h2 φ1 _ x2 (hS1.write e1 f1 q1.dropLast) _ (.d (rw'.mono x2 hS1.lz))
noncomputable def spF (K:PySem.W.Frag) (cA:Cl) (m:List Xv->M Xv):Sp:=fun vs H Q E=>∃ φ xs s,RepXs K cA φ H xs vs/\RepS K cA φ H s/\Run K cA (m xs) φ H s (fun d _ φ' H'=>∀ v,RepX K cA φ' H' d v->Q v H') (fun c fs _ φ' H'=>∀ dx,ExcDx K cA φ' H' c fs dx->E (.ref (cA.a c)) dx H')
theorem zje {K:PySem.W.Frag} {φ1 φ2:Ph} {c:Nat} {fs:List D} {dx:Option Addr} (e:φ1.z = φ2.z) (h:ExcDx K cA φ2 H c fs dx):ExcDx K cA φ1 H c fs dx:=h.imp id fun ⟨d,vs,a,b,c,l,r⟩=>⟨d,vs,a,by rw [e]; exact b,c,l,r.zeq fun _ z=>by rw [<- e]; exact z⟩
theorem zjK {cm:Bool} {k f:Nat} {fa:Addr} {fd:FuncData} {ps:List Str} (Fo:FnOk X.prog X.w X.K X.mg X.base (CXe X.prog X.w) cm k fa fd ps (spF X.K cA (F f))) (hcm:cm = true->X.calm = true) (hr:Room k X.A) (hg:Gl X x) (hm:X.mg x = some (.ref fa)) (hk:PySem.W.keepIn X.K (.ref fa) = true) (hb:Binds X.K fd ps []) (R:Raises X EX)
  (ha:SA X cA sub calm F EX (e::es) Xs) (hdb:(x == ("__debug__" : Str)) = false:=by decide) (he:starEach (e::es) X.env = (false,eval e X.env)::starEach es X.env:=by rfl) (hpl:(backTo pos (starEach es X.env)).any (·.1) = false:=by rfl) :
  SE X cA sub calm F EX (.Call (.Name x pp) (e::es) [] pos) (.call f Xs):=PE.weak (zh0 Fo hcm hr hg hm hk hb R ha hdb he hpl) fun σ H Q hh=>un hh fun φ τ s hL hS h=>
 useA hL hS h fun vs H1 φ1 ds s1 x1 hL1 hS1 r1 h1=>by
  obtain ⟨φ0,s0,a1,a2,a3⟩:=zhA (EE:=fun c fs φ' H'=>∀ dx,ExcDx X.K cA φ' H' c fs dx->EX σ (.ref (cA.a c)) dx H') hS1 r1 (fun c fs φ1 φ2 H' ez z dx q=>z dx (zje ez q)) h1
  exact ⟨φ0,_,s0,a1,a2,a3⟩
end
end Mi
set_option Elab.async false
set_option linter.all false
set_option maxRecDepth 100000
set_option maxHeartbeats 4000000
namespace Mi
open PySem PySem.Spec PyProof.Rows L2
section
variable {K:PySem.W.Frag} {cA:Cl} {φ φ':Ph} {H H':Hp} {s:S}
noncomputable def Outz (φ:Ph) (H H':Hp):Prop:=∀ a o,H a = some o->¬ φ.z a->H' a = some o
mutual
theorem Rep.out (x:Outz φ H H'):∀ {d:D} {v:V},Rep K cA φ H d v->Rep K cA φ H' d v
 | _,_,.non=>.non
 | _,_,.bl b=>.bl b
 | _,_,.int i=>.int i
 | _,_,.str z=>.str z
 | _,_,.tup h r=>.tup (h.imp (fun ⟨p,n⟩=>⟨p.imp (fun q=>x _ _ q n) fun ⟨o,q⟩=>⟨o,x _ _ q n⟩,n⟩) id) (Reps.out x r)
 | _,_,.fl h r=>.fl (h.imp (fun ⟨p,n⟩=>⟨p.imp (fun q=>x _ _ q n) fun ⟨o,q⟩=>⟨o,x _ _ q n⟩,n⟩) id) (Reps.out x r)
 | _,_,.fd h n=>.fd (x _ _ h n) n
 | _,_,.exc h r=>.exc ⟨h.1,h.2.imp (fun ⟨a,b,q⟩=>⟨a,b,x _ _ q h.1⟩) fun ⟨dx,p,n,q,l⟩=>⟨dx,x _ _ p h.1,n,x _ _ q n,l⟩⟩ (Reps.out x r)
 | _,_,.ob h r=>.ob ⟨h.1,let ⟨dx,p,l⟩:=h.2; ⟨dx,x _ _ p h.1,l⟩⟩ (Reps.out x r)
theorem Reps.out (x:Outz φ H H'):∀ {ds:List D} {vs:List V},Reps K cA φ H ds vs->Reps K cA φ H' ds vs
 | _,_,.nil=>.nil
 | _,_,.cons h r=>.cons (Rep.out x h) (Reps.out x r)
end
theorem Outz.refl:Outz φ H H:=fun a o e _=>e
structure JOk (K:PySem.W.Frag) (cA:Cl) (c:Src) (φ:Ph) (H:Hp) (J:L2.It):Prop where
 stop:∀ φ' H₁ H' s' i,Ext φ H φ' H₁->Outz φ' H₁ H'->RepS K cA φ' H' s'->c.at i s' = some none->J.stop i H'
 go:∀ φ' H₁ H' s' i x,Ext φ H φ' H₁->Outz φ' H₁ H'->RepS K cA φ' H' s'->c.at i s' = some (some x)->J.go i H'
 yld:∀ φ' H₁ H' s' i x v H2,Ext φ H φ' H₁->Outz φ' H₁ H'->RepS K cA φ' H' s'->c.at i s' = some (some x)->J.yld i H' v H2->Grow H' H2/\Rep K cA φ' H2 x v
theorem LstAt.later {a:Addr} {vs:List V} {φ':Ph} {H₁ H':Hp} (hz:∀ a ∈ φ.l,φ.z a) (h:LstAt K φ H a vs) (x:Ext φ H φ' H₁) (o:Outz φ' H₁ H'):LstAt K φ' H' a vs:=
 (h.mono x hz).imp (fun ⟨p,n⟩=>⟨p.imp (fun q=>o _ _ q n) fun ⟨w,q⟩=>⟨w,o _ _ q n⟩,n⟩) id
theorem TupAt.later {a:Addr} {vs:List V} {φ':Ph} {H₁ H':Hp} (hz:∀ a ∈ φ.l,φ.z a) (h:TupAt K φ H a vs) (x:Ext φ H φ' H₁) (o:Outz φ' H₁ H'):TupAt K φ' H' a vs:=
 (h.mono x hz).imp (fun ⟨p,n⟩=>⟨p.imp (fun q=>o _ _ q n) fun ⟨w,q⟩=>⟨w,o _ _ q n⟩,n⟩) id
theorem JOk.list {a:Addr} {xs:List D} {vs:List V} (hz:∀ a ∈ φ.l,φ.z a) (h:LstAt K φ H a vs) (r:Reps K cA φ H xs vs):JOk K cA (.fix xs) φ H (Itl K a):=by
 refine ⟨fun φ' H₁ H' s' i x o hS e=>⟨vs,(h.later hz x o).sqL,?_⟩,fun φ' H₁ H' s' i d x o hS e=>?_,fun φ' H₁ H' s' i d v H2 x o hS e y=>?_⟩
 ·have e:xs[i]? = none:=Option.some.inj e
  exact List.getElem?_eq_none_iff.mp ((r.mono x hz).none e)
 ·have e:xs[i]? = some d:=Option.some.inj e
  obtain ⟨v,q,_⟩:=r.get e
  exact ⟨vs,v,(h.later hz x o).sqL,q⟩
 ·have e:xs[i]? = some d:=Option.some.inj e
  obtain ⟨rfl,y⟩:=y
  obtain ⟨w,q,rw'⟩:=((r.mono x hz).out o).get e
  have:=y vs (h.later hz x o).sqL
  rw [q] at this
  cases this
  exact ⟨Grow.refl,rw'⟩
theorem JOk.tuple {a:Addr} {xs:List D} {vs:List V} (hz:∀ a ∈ φ.l,φ.z a) (h:TupAt K φ H a vs) (r:Reps K cA φ H xs vs):JOk K cA (.fix xs) φ H (Itt K a):=by
 refine ⟨fun φ' H₁ H' s' i x o hS e=>⟨vs,(h.later hz x o).sqT,?_⟩,fun φ' H₁ H' s' i d x o hS e=>?_,fun φ' H₁ H' s' i d v H2 x o hS e y=>?_⟩
 ·have e:xs[i]? = none:=Option.some.inj e
  exact List.getElem?_eq_none_iff.mp ((r.mono x hz).none e)
 ·have e:xs[i]? = some d:=Option.some.inj e
  obtain ⟨v,q,_⟩:=r.get e
  exact ⟨vs,v,(h.later hz x o).sqT,q⟩
 ·have e:xs[i]? = some d:=Option.some.inj e
  obtain ⟨rfl,y⟩:=y
  obtain ⟨w,q,rw'⟩:=((r.mono x hz).out o).get e
  have:=y vs (h.later hz x o).sqT
  rw [q] at this
  cases this
  exact ⟨Grow.refl,rw'⟩
theorem zdH {n i:Nat} {o:Option D} (h:(Src.live n).at i s = some o):∃ xs,s[n]? = some (.lst xs)/\xs[i]? = o:=by
 unfold Src.at at h
 dsimp only at h
 cases e:s[n]? with
 | none=>rw [e] at h; cases h
 | some ob=>
  rw [e] at h
  cases ob with
  | lst xs=>exact ⟨xs,rfl,Option.some.inj h⟩
  | dct _ _=>cases h
theorem JOk.live {a:Addr} {n:Nat} (h:φ.l[n]? = some a):JOk K cA (.live n) φ H (Itl K a):=by
 refine ⟨fun φ' H₁ H' s' i x o hS e=>?_,fun φ' H₁ H' s' i d x o hS e=>?_,fun φ' H₁ H' s' i d v H2 x o hS e y=>?_⟩
 ·obtain ⟨xs,e1,e2⟩:=zdH e
  obtain ⟨vs,q1,q2⟩:=hS.obj n _ a e1 (x.get h)
  exact ⟨vs,SqL.of q1,List.getElem?_eq_none_iff.mp (q2.none e2)⟩
 ·obtain ⟨xs,e1,e2⟩:=zdH e
  obtain ⟨vs,q1,q2⟩:=hS.obj n _ a e1 (x.get h)
  obtain ⟨v,q3,_⟩:=q2.get e2
  exact ⟨vs,v,SqL.of q1,q3⟩
 ·obtain ⟨xs,e1,e2⟩:=zdH e
  obtain ⟨vs,q1,q2⟩:=hS.obj n _ a e1 (x.get h)
  obtain ⟨w,q3,rw'⟩:=q2.get e2
  obtain ⟨rfl,y⟩:=y
  have:=y vs (SqL.of q1)
  rw [q3] at this
  cases this
  exact ⟨Grow.refl,rw'⟩
theorem ze1 {a b:Int} {i:Nat}:(rgL a b)[i]? = if i < (b - a).toNat then some (.int (a + i)) else none:=by
 unfold rgL
 rw [List.getElem?_map,List.getElem?_range']
where
 List.getElem?_range' {n i:Nat}:Option.map (fun (i:Nat)=>D.int (a + i)) (List.range n)[i]? = if i < n then some (.int (a + i)) else none:=by
  by_cases h:i < n
  ·rw [if_pos h,List.getElem?_range h]; rfl
  ·rw [if_neg h,List.getElem?_eq_none (by simp; omega)]; rfl
theorem JOk.range {a b:Int}:JOk K cA (.fix (rgL a b)) φ H (Itr a (b - a).toNat):=by
 refine ⟨fun φ' H₁ H' s' i x o hS e=>?_,fun φ' H₁ H' s' i d x o hS e=>?_,fun φ' H₁ H' s' i d v H2 x o hS e y=>?_⟩
 ·have e:(rgL a b)[i]? = none:=Option.some.inj e
  rw [ze1] at e
  split at e
  ·cases e
  ·exact Nat.le_of_not_lt (by assumption)
 ·have e:(rgL a b)[i]? = some d:=Option.some.inj e
  rw [ze1] at e
  split at e
  ·assumption
  ·cases e
 ·have e:(rgL a b)[i]? = some d:=Option.some.inj e
  rw [ze1] at e
  split at e
  ·cases e
   obtain ⟨rfl,rfl⟩:=y
   exact ⟨Grow.refl,.int _⟩
  ·cases e
end
noncomputable def iSeq (K:PySem.W.Frag) (te:TE):TI:=fun σ H R=>te σ H fun v H1=>∃ a,v = .ref a/\(((∃ xs,SqL K H1 a xs)/\R (Itl K a) H1)\/((∃ xs,SqT K H1 a xs)/\R (Itt K a) H1))
theorem zlH {X:Cx} {tg l:Expr} {te:TE} (he:PE X l te):PI X tg l (iSeq X.K te):=by
 intro pins s σ H R I h
 refine thn (he pins s σ H _ I h) fun v s1 ⟨x,H1,I1,r1,a,e,q⟩=>?_
 subst e
 cases r1
 rcases q with ⟨⟨xs,hq⟩,q⟩ | ⟨⟨xs,hq⟩,q⟩
 ·obtain ⟨its,rv,p,hz⟩:=I1.list hq
  refine wpAny_pyIter_list p.isList ?_
  refine ⟨s1.heap.objs.size,[s1.heap.objs.size],_,_,H1,rfl,I1.kept (t':=s1.toks) fun b o e=>Heap.get?_push_of_some _ e,zgC a _,⟨_,Heap.get?_push_size _ rfl,rfl,rfl⟩,fun b hb=>?_,q⟩
  have e:b = s1.heap.objs.size:=by simpa using hb
  subst e
  exact I1.fpOk (Nat.le_refl _) (I1.hok.fresh (Nat.le_refl _))
 ·obtain ⟨its,rv,p,hz⟩:=I1.tuple hq
  refine wpAny_pyIter_tuple (show s1.heap.IsTuple a its.toArray from p) ?_
  refine ⟨s1.heap.objs.size,[s1.heap.objs.size],_,_,H1,rfl,I1.kept (t':=s1.toks) fun b o e=>Heap.get?_push_of_some _ e,zfZ a _,⟨_,Heap.get?_push_size _ rfl,rfl,rfl⟩,fun b hb=>?_,q⟩
  have e:b = s1.heap.objs.size:=by simpa using hb
  subst e
  exact I1.fpOk (Nat.le_refl _) (I1.hok.fresh (Nat.le_refl _))
section
variable {X:Cx} {cA:Cl} {sub:Nat->Nat->Bool} {calm:Bool} {F:Fn} {EX:XS} {a b tg:Expr} {A B:E} {pos pp:Pos}
noncomputable def tI (K:PySem.W.Frag) (cA:Cl) (EX:XS) (m:Vs->M (Src × Nat)):TI:=fun σ H R=>∃ φ τ s,RepL K cA φ H σ τ/\RepS K cA φ H s/\Run K cA (m τ) φ H s (fun cn _ φ1 H1=>∀ J,JOk K cA cn.1 φ1 H1 J->R J H1) (eX K cA EX σ)
noncomputable def SI (X:Cx) (cA:Cl) (sub:Nat->Nat->Bool) (calm:Bool) (F:Fn) (EX:XS) (tg iter:Expr) (w:Wk):Prop:=PI X tg iter (tI X.K cA EX (wks sub calm F w))
theorem PI.weak {iter:Expr} {t t':TI} (h:PI X tg iter t) (f:∀ σ H Q,t' σ H Q->t σ H Q):PI X tg iter t':=fun pins s σ H Q I q=>h pins s σ H Q I (f σ H Q q)
theorem zlR (ha:SE X cA sub calm F EX a A):SI X cA sub calm F EX tg a (.seq A):=PI.weak (zlH ha) fun σ H R hh=>un hh fun φ τ s hL hS h=>by
 refine useE hL hS h fun v H1 φ1 d s1 x1 hL1 hS1 r1 h1=>?_
 cases r1 with
 | @l n ad hl=>
  unfold Run src at h1
  dsimp only at h1
  cases e:s1[n]? with
  | none=>rw [e] at h1; exact h1.elim
  | some o=>
   rw [e] at h1
   cases o with
   | lst xs=>
    obtain ⟨vs,q1,q2⟩:=hS1.obj n _ _ e hl
    exact ⟨ad,rfl,.inl ⟨⟨vs,SqL.of q1⟩,h1 φ1 H1 Ext.refl hS1 _ (JOk.live hl)⟩⟩
   | dct _ _=>exact h1.elim
 | d r1=>
  cases r1 with
  | tup q r=>exact ⟨_,rfl,.inr ⟨⟨_,q.sqT⟩,h1 φ1 H1 Ext.refl hS1 _ (JOk.tuple hS1.lz q r)⟩⟩
  | fl q r=>exact ⟨_,rfl,.inl ⟨⟨_,q.sqL⟩,h1 φ1 H1 Ext.refl hS1 _ (JOk.list hS1.lz q r)⟩⟩
  | _=>exact h1.elim
theorem zfI {i:Int} (h:rgOk i = true) : -(2 ^ 62)<=i/\i < 2 ^ 62:=by
 unfold rgOk at h
 rw [Bool.and_eq_true,decide_eq_true_eq,decide_eq_true_eq] at h
 exact ⟨by omega,h.2⟩
theorem ziZ {K:PySem.W.Frag} {φ:Ph} {H:Hp} {s:S} {i j:Int} {P:Src × Nat->S->Ph->Hp->Prop} {Ee:Nat->List D->S->Ph->Hp->Prop} (hS:RepS K cA φ H s) (h:Run K cA (if (rgOk i && rgOk j) = true then M.ret (Src.fix (rgL i j),(rgL i j).length) else M.no) φ H s P Ee):(-(2 ^ 62)<=i/\i < 2 ^ 62/\-(2 ^ 62)<=j/\j < 2 ^ 62)/\P (.fix (rgL i j),(rgL i j).length) s φ H:=by
 by_cases hk:(rgOk i && rgOk j) = true
 ·rw [if_pos hk] at h
  rw [Bool.and_eq_true] at hk
  obtain ⟨a,b⟩:=zfI hk.1
  obtain ⟨c,d⟩:=zfI hk.2
  exact ⟨⟨a,b,c,d⟩,h.pure_ hS⟩
 ·rw [if_neg hk] at h
  exact h.elim
theorem zmR (hgl:Gl X "range") (hmg:X.mg "range" = none) (ha:SE X cA sub calm F EX a A) (hb:SE X cA sub calm F EX b B) (h1:starEach [a,b] X.env = (false,eval a X.env)::starEach [b] X.env) (h2:starEach [b] X.env = (false,eval b X.env)::starEach [] X.env) :
  SI X cA sub calm F EX tg (.Call (.Name "range" pp) [a,b] [] pos) (.rg A B):=PI.weak (zgu hgl hmg (zbk ha (zbk hb zdc h2) h1) (by rw [h1,h2]; rfl) (by rw [h2]; rfl)) fun σ H R hh=>un hh fun φ τ s hL hS h=>by
 refine useE hL hS h fun x H1 φ1 d1 s1 x1 hL1 hS1 r1 h1=>useE hL1 hS1 h1 fun y H2 φ2 d2 s2 x2 hL2 hS2 r2 h2=>?_
 obtain ⟨i,_,e1,h3⟩:=zcJ (r1.mono x2 hS1.lz) h2
 obtain ⟨j,_,e2,h4⟩:=zcJ r2 h3
 obtain ⟨hz,q⟩:=ziZ hS2 h4
 subst e1 e2
 exact ⟨i,j,rfl,hz,q _ JOk.range⟩
theorem zlI (hgl:Gl X "range") (hmg:X.mg "range" = none) (hb:SE X cA sub calm F EX b B) (h2:starEach [b] X.env = (false,eval b X.env)::starEach [] X.env) :
  SI X cA sub calm F EX tg (.Call (.Name "range" pp) [b] [] pos) (.rg (.c (.int 0)) B):=PI.weak (zhj hgl hmg (zbk hb zdc h2) (by rw [h2]; rfl)) fun σ H R hh=>un hh fun φ τ s hL hS h=>by
 have h:Run X.K cA (M.bd (ev sub calm F B τ) fun y=>M.bd (int (.d (.int 0))) fun i=>M.bd (int y) fun j=>if (rgOk i && rgOk j) = true then M.ret (Src.fix (rgL i j),(rgL i j).length) else M.no) φ H s _ _:=h
 refine useE hL hS h fun y H2 φ2 d2 s2 x2 hL2 hS2 r2 h2=>?_
 obtain ⟨j,_,e2,h4⟩:=zcJ r2 (show Run X.K cA (M.bd (int d2) fun j=>if (rgOk 0 && rgOk j) = true then M.ret (Src.fix (rgL 0 j),(rgL 0 j).length) else M.no) φ2 H2 s2 _ _ from h2)
 obtain ⟨hz,q⟩:=ziZ hS2 h4
 subst e2
 refine ⟨j,rfl,hz.2.2.1,hz.2.2.2,q _ ?_⟩
 have:=JOk.range (K:=X.K) (cA:=cA) (φ:=φ2) (H:=H2) (a:=0) (b:=j)
 rw [Int.sub_zero] at this
 exact this
end
end Mi
set_option Elab.async false
set_option linter.all false
set_option maxRecDepth 100000
set_option maxHeartbeats 4000000
namespace Mi
open PySem PySem.Spec PyProof.Rows L2
section
variable {K:PySem.W.Frag} {cA:Cl} {φ φ' φ0:Ph} {H H' H0:Hp} {s:S}
theorem Run.bd0 {α β:Type} {m:M α} {k:α->M β} {P:β->S->Ph->Hp->Prop} {Ee:Nat->List D->S->Ph->Hp->Prop} (x:Ext φ0 H0 φ H) (h:Run K cA (M.bd m k) φ0 H0 s P Ee) :
  Run K cA m φ H s (fun a s1 φ1 H1=>Ext φ H φ1 H1/\RepS K cA φ1 H1 s1/\Run K cA (k a) φ0 H0 s1 P Ee) Ee:=by
 unfold Run M.bd at *
 cases e:m s with
 | none=>rw [e] at h; exact h
 | some r=>
  obtain ⟨r,s1⟩:=r
  rw [e] at h
  cases r with
  | er c f=>exact fun φ1 H1 x1 r1=>h φ1 H1 (x.trans x1) r1
  | ok a=>exact fun φ1 H1 x1 r1=>⟨x1,r1,h⟩
theorem zgs {α β:Type} {m:M α} {k:α->M β} {P:β->S->Ph->Hp->Prop} {Ee Ee':Nat->List D->S->Ph->Hp->Prop} (x:Ext φ0 H0 φ H) (h:Run K cA (M.bd (M.qt m) k) φ0 H0 s P Ee) :
  Run K cA m φ H s (fun a s1 φ1 H1=>Ext φ H φ1 H1/\RepS K cA φ1 H1 s1/\Run K cA (k a) φ0 H0 s1 P Ee) Ee':=by
 have h2:=h.bd0 x
 unfold Run at h2 ⊢
 unfold M.qt at h2
 cases e:m s with
 | none=>rw [e] at h2; exact h2
 | some r=>
  obtain ⟨r,s1⟩:=r
  rw [e] at h2
  cases r with
  | ok a=>exact h2
  | er c f=>exact h2.elim
theorem zkF {α β:Type} {m m':M α} {k:α->M β} {P:β->S->Ph->Hp->Prop} {Ee:Nat->List D->S->Ph->Hp->Prop} (e:m s = m' s) (h:Run K cA (M.bd m k) φ H s P Ee):Run K cA (M.bd m' k) φ H s P Ee:=by
 unfold Run M.bd at *
 rw [<- e]
 exact h
end
section
variable {X:Cx} {cA:Cl} {sub:Nat->Nat->Bool} {calm:Bool} {F:Fn} {EX:XS} {elt iter tg:Expr} {A B:E} {pos p:Pos} {ifs:List Expr} {scope:Scope} {N:List Str} {cond:Eo} {fr tgs:List Nat} {many:Nat} {fz:Bool} {w:Wk}
noncomputable def STs (X:Cx) (cA:Cl) (sub:Nat->Nat->Bool) (calm:Bool) (F:Fn) (EX:XS) (ifs:List Expr) (m:Eo):Prop:=PTs X ifs (tTs X.K cA EX (evc sub calm F m))
theorem zlD:STs X cA sub calm F EX [] .no:=fun pins s σ H Q I ⟨φ,τ,st,hL,hS,h⟩=>zjm pins s σ H Q I (h.pure_ hS)
theorem zjC {c:Expr} {C:E} (h:ST X cA sub calm F EX c C):STs X cA sub calm F EX [c] (.yes C):=zjM h
structure TgOk (K:PySem.W.Frag) (cA:Cl) (g:TG) (tgs:List Nat):Prop where
 run:∀ (φ:Ph) (H:Hp) (s:S) (σ:L2.St) (τ τ':Vs) (d:D) (v:V) (Q:L2.St->Hp->Prop),RepL K cA φ H σ τ->RepS K cA φ H s->Rep K cA φ H d v->setTg tgs d τ = some τ'->
  (∀ σ',RepL K cA φ H σ' τ'->σ'.length = σ.length->(∀ i,i ∉ tgs->σ'[i]? = σ[i]?)->Q σ' H)->g v σ H Q
theorem za1 {K:PySem.W.Frag} (i:Nat):TgOk K cA (gName i) [i] where
 run:=fun φ H s σ τ τ' d v Q hL hS r e k=>by
  cases e
  exact k _ (hL.set (.d r)) (List.length_set ..) fun j hj=>List.getElem?_set_ne (by simpa using fun z=>hj (by simp [z]))
theorem zdn {K:PySem.W.Frag} (i j:Nat):TgOk K cA (gTup K 2 (gCons (gName i) (gCons (gName j) gNil))) [i,j] where
 run:=fun φ H s σ τ τ' d v Q hL hS r e k=>by
  have e:(tupOf d).bind (fun ds=>setAll [i,j] (ds.map Xv.d) τ) = some τ':=e
  obtain ⟨ds,e1,e2⟩:=Option.bind_eq_some_iff.mp e
  cases r with
  | @tup ad xs vs h1 h2=>
   have e1:xs = ds:=Option.some.inj e1
   subst e1
   cases h2 with
   | nil=>cases e2
   | cons r1 t1=>
    cases t1 with
    | nil=>cases e2
    | cons r2 t2=>
     cases t2 with
     | nil=>
      have e2:=Option.some.inj e2
      subst e2
      refine ⟨ad,_,rfl,h1.sqT,rfl,_,_,rfl,_,_,rfl,rfl,k _ ((hL.set (.d r1)).set (.d r2)) (by rw [List.length_set,List.length_set]) fun m hm=>?_⟩
      rw [List.getElem?_set_ne (fun z=>hm (by simp [z])),List.getElem?_set_ne (fun z=>hm (by simp [z]))]
     | cons r3 t3=>cases e2
  | _=>cases e1
noncomputable def freesN (many:Nat) (fr:List Nat) (σ:L2.St):L2.St:=List.replicate many none ++ fr.map fun j=>(σ[j]?).join
theorem zjU {φ:Ph} {H:Hp} {σ:L2.St} {τ:Vs} (hL:RepL X.K cA φ H σ τ) {σ':L2.St} (hl:σ'.length = many + fr.length) (hf:∀ (i:Nat) j v,fr[i]? = some j->σ[j]? = some (some v)->σ'[many + i]? = some (some v)):RepL X.K cA φ H σ' (blk many fr τ):=by
 refine ⟨by unfold blk; simp [hl],fun i d e=>?_⟩
 unfold blk at e
 by_cases hi:i < many
 ·rw [List.getElem?_append_left (by simpa using hi),List.getElem?_replicate,if_pos hi] at e
  cases e
 ·rw [List.getElem?_append_right (by simpa using Nat.le_of_not_lt hi),List.length_replicate,List.getElem?_map] at e
  cases z:fr[i - many]? with
  | none=>rw [z] at e; cases e
  | some j=>
   rw [z] at e
   have e3:τ[j]?.join = some d:=by simpa using e
   obtain ⟨v,q1,q2⟩:=hL.2 j d (zcS e3)
   refine ⟨v,?_,q2⟩
   have:=hf (i - many) j v z q1
   rw [show many + (i - many) = i by omega] at this
   exact this
structure Keep (φ:Ph) (H:Hp) (Dd:Addr) (vs:List V):Prop where
 at_:H Dd = some (.lst vs)
 nl:Dd ∉ φ.l
 z:φ.z Dd
theorem Keep.mono {φ φ':Ph} {H H':Hp} {Dd:Addr} {vs:List V} (x:Ext φ H φ' H') (k:Keep φ H Dd vs):Keep φ' H' Dd vs:=by
 refine ⟨x.frame _ _ k.at_ k.nl,fun z=>?_,x.zin _ k.z⟩
 obtain ⟨r,er,hr⟩:=x.more
 rw [er] at z
 rcases List.mem_append.mp z with z | z
 ·exact k.nl z
 ·have:=hr _ z; rw [k.at_] at this; cases this
theorem Keep.ext {φ:Ph} {H:Hp} {Dd:Addr} {vs us:List V} (k:Keep φ H Dd vs):(∀ a o,H a = some o->¬ φ.z a->(upd H Dd (.lst us)) a = some o)/\Keep φ (upd H Dd (.lst us)) Dd us:=
 ⟨fun a o e n=>by rw [zap (fun z=>n (by rw [z]; exact k.z))]; exact e,zas,k.nl,k.z⟩
end
section
variable {K:PySem.W.Frag} {cA:Cl} {φ φ':Ph} {H H':Hp}
theorem RepS.keep {s:S} {Dd:Addr} {vs us:List V} (h:RepS K cA φ H s) (k:Keep φ H Dd vs):RepS K cA φ (upd H Dd (.lst us)) s:=by
 have x:Outz φ H (upd H Dd (.lst us)):=k.ext.1
 refine ⟨h.len,fun n o a e1 e2=>?_,h.uniq,h.lz,fun a z=>?_⟩
 ·have na:a ≠ Dd:=fun y=>k.nl (by rw [<- y]; exact List.mem_of_getElem? e2)
  have:=h.obj n o a e1 e2
  cases o with
  | lst ys=>obtain ⟨ws,q1,q2⟩:=this; exact ⟨ws,by rw [zap na]; exact q1,q2.out x⟩
  | dct _ _=>exact this
 ·by_cases e:a = Dd
  ·subst e; exact ⟨_,zas⟩
  ·obtain ⟨o,q⟩:=h.zt a z; exact ⟨o,by rw [zap e]; exact q⟩
theorem Ext.keep {φ1:Ph} {H1:Hp} {Dd:Addr} {vs us:List V} (x:Ext φ1 H1 φ H) (hD:H1 Dd = none):Ext φ1 H1 φ (upd H Dd (.lst us)):=by
 refine ⟨x.more,x.zin,x.znew,fun a o h n=>?_,fun a o h=>?_⟩
 ·rw [zap (fun z=>by rw [z,hD] at h; cases h)]
  exact x.frame a o h n
 ·rw [zap (fun z=>by rw [z,hD] at h; cases h)]
  exact x.stay a o h
theorem zgr {φ1:Ph} {H1:Hp} {s':S} {fz:Bool} {acc:List D} {vs:List V} {Dd:Addr} {Q:VK} {Ee:Nat->List D->S->Ph->Hp->Prop} (h:Run K cA (newL fz acc) φ1 H1 s' (fun d _ φ' H'=>∀ v,RepX K cA φ' H' d v->Q v H') Ee)
  (x2:Ext φ1 H1 φ' H') (hD:H1 Dd = none) (nz:¬ φ1.z Dd) (hS2:RepS K cA φ' H' s') (k:Keep φ' H' Dd vs) (rac:Reps K cA φ' H' acc vs):Q (.ref Dd) H':=by
 cases fz with
 | true=>
  have zq:∀ a,(fun a=>φ'.z a/\a ≠ Dd) a->φ'.z a:=fun a z=>z.1
  refine h ⟨fun a=>φ'.z a/\a ≠ Dd,φ'.l⟩ H' ⟨x2.more,fun a z=>⟨x2.zin a z,fun e=>nz (by rw [<- e]; exact z)⟩,fun a z=>x2.znew a z.1,x2.frame,x2.stay⟩ ?_ _ (.d (.fl (.inl ⟨.inl k.at_,fun z=>z.2 rfl⟩) (Reps.zeq (φ:=φ') zq rac)))
  refine ⟨hS2.len,fun n o a e1 e2=>ObR.zeq (φ:=φ') zq (hS2.obj n o a e1 e2),hS2.uniq,fun a ha=>⟨hS2.lz a ha,fun e=>k.nl (by rw [<- e]; exact ha)⟩,fun a z=>hS2.zt a z.1⟩
 | false=>
  obtain ⟨r,er,hr⟩:=x2.more
  refine h ⟨φ'.z,φ'.l ++ [Dd]⟩ H' ⟨⟨r ++ [Dd],by show φ'.l ++ [Dd] = _; rw [er,List.append_assoc],fun b hb=>?_⟩,x2.zin,x2.znew,x2.frame,x2.stay⟩ ?_ _ (.l (by show (φ'.l ++ [Dd])[s'.length]? = _; rw [<- hS2.len]; simp))
  ·rcases List.mem_append.mp hb with z | z
   ·exact hr b z
   ·simp at z; subst z; exact hD
  ·refine ⟨by show (φ'.l ++ [Dd]).length = _; rw [List.length_append,List.length_append,hS2.len]; rfl,fun m o' a' e1 e2=>?_,?_,fun b hb=>?_,hS2.zt⟩
   ·have e2:(φ'.l ++ [Dd])[m]? = some a':=e2
    by_cases hm:m < s'.length
    ·rw [List.getElem?_append_left hm] at e1
     rw [List.getElem?_append_left (by rw [hS2.len]; exact hm)] at e2
     exact ObR.zl (hS2.obj m o' a' e1 e2) _
    ·have hl2:m = s'.length:=by
      have z:=(List.getElem?_eq_some_iff.mp e2).1
      rw [List.length_append,hS2.len] at z
      simp at z
      omega
     subst hl2
     rw [List.getElem?_append_right (Nat.le_refl _)] at e1
     rw [List.getElem?_append_right (by rw [hS2.len]; exact Nat.le_refl _)] at e2
     simp at e1
     simp [hS2.len] at e2
     subst e1 e2
     exact ⟨vs,k.at_,Reps.zl rac _⟩
   ·show (φ'.l ++ [Dd]).Nodup
    rw [List.nodup_append]
    refine ⟨hS2.uniq,by simp,fun b hb c hc e=>?_⟩
    simp at hc
    subst hc e
    exact k.nl hb
   ·have hb:b ∈ φ'.l ++ [Dd]:=hb
    rcases List.mem_append.mp hb with z | z
    ·exact hS2.lz b z
    ·simp at z; subst z; exact k.z
noncomputable def Ph.mark (φ:Ph) (p:Addr):Ph:=⟨fun a=>φ.z a\/a = p,φ.l⟩
theorem zfP {s:S} {p:Addr} (hS:RepS K cA φ H s) (hp:H p = none):Ext φ H (φ.mark p) (upd H p (.lst []))/\RepS K cA (φ.mark p) (upd H p (.lst [])) s/\Keep (φ.mark p) (upd H p (.lst [])) p []:=by
 have g:=Grow.new (o:=.lst []) hp
 have nz:=hS.nz hp
 refine ⟨⟨⟨[],by simp [Ph.mark],by simp⟩,fun a z=>.inl z,fun a z=>z.imp id fun e=>by rw [e]; exact hp,fun a o h _=>g a o h,fun a o h=>⟨o,g a o h⟩⟩,⟨hS.len,fun n o a e1 e2=>?_,hS.uniq,fun a ha=>.inl (hS.lz a ha),fun a z=>?_⟩,zas,fun z=>nz (hS.lz p z),.inr rfl⟩
 ·have x:Ext φ H (φ.mark p) (upd H p (.lst [])):=⟨⟨[],by simp [Ph.mark],by simp⟩,fun a z=>.inl z,fun a z=>z.imp id fun e=>by rw [e]; exact hp,fun a o h _=>g a o h,fun a o h=>⟨o,g a o h⟩⟩
  have:=hS.obj n o a e1 e2
  cases o with
  | lst ys=>obtain ⟨us,q1,q2⟩:=this; exact ⟨us,g _ _ q1,q2.mono x hS.lz⟩
  | dct _ _=>exact this
 ·rcases z with z | z
  ·obtain ⟨o,e⟩:=hS.zt a z; exact ⟨o,g _ _ e⟩
  ·subst z; exact ⟨_,zas⟩
end
section
variable {X:Cx} {cA:Cl} {sub:Nat->Nat->Bool} {calm:Bool} {F:Fn} {EX:XS} {elt iter tg:Expr} {A B:E} {pos p:Pos} {ifs:List Expr} {scope:Scope} {N:List Str} {cond:Eo} {fr tgs:List Nat} {many:Nat} {fz:Bool} {w:Wk}
noncomputable abbrev turnM (sub:Nat->Nat->Bool) (calm:Bool) (F:Fn) (B:E) (cond:Eo) (tgs:List Nat) (τb:Vs):D->List D->M (List D):=fun d acc=>M.bd (M.opt (setTg tgs d τb)) fun τ'=>M.bd (M.qt (evc sub calm F cond τ')) fun ok=>
    if ok = true then M.bd (M.qt (ev sub calm F B τ')) fun y=>M.bd (dat y) fun e=>if acc.length < sizeLine then M.ret (acc ++ [e]) else M.no else M.ret acc
theorem ziG {H:Hp} {a:Addr} {o:HO} (h:H a = some o):upd H a o = H:=funext fun b=>by
 by_cases z:b = a
 ·subst z; rw [zas,h]
 ·rw [zap z]
theorem zir {K:PySem.W.Frag} {g:TG} {φ1 φ':Ph} {H1 H2:Hp} {s':S} {σ':L2.St} {τb:Vs} {Dd:Addr} {acc:List D} {vs:List V} {xi:D} {v:V} {β:Type} {kk:List D->M β} {P:β->S->Ph->Hp->Prop} {Ee:Nat->List D->S->Ph->Hp->Prop} (hT:TgOk K cA g tgs) (hin:∀ i ∈ tgs,i < many)
  (hD:H1 Dd = none) (x2:Ext φ1 H1 φ' H2) (hL2:RepL K cA φ' H2 σ' τb) (hS2:RepS K cA φ' H2 s') (kp:Keep φ' H2 Dd vs) (rac:Reps K cA φ' H2 acc vs) (rx:Rep K cA φ' H2 xi v)
  (h:Run K cA (M.bd (turnM sub calm F B cond tgs τb xi acc) kk) φ1 H1 s' P Ee) {Nn:L2.St->Hp->Prop}
  (hN:∀ σ3 H3 φ3 s3 acc3 vs3,σ3.length = σ'.length->(∀ i,many<=i->σ3[i]? = σ'[i]?)->Ext φ1 H1 φ3 H3->Ext φ' H2 φ3 (upd H3 Dd (.lst vs))->RepS K cA φ3 H3 s3->Keep φ3 H3 Dd vs3->Reps K cA φ3 H3 acc3 vs3->Run K cA (kk acc3) φ1 H1 s3 P Ee->Nn σ3 H3) :
  g v σ' H2 fun σ3 H3=>tTs K cA (fun _ _ _ _=>False) (evc sub calm F cond) σ3 H3 fun ok H4=>
   if ok = true then tE K cA (fun _ _ _ _=>False) (ev sub calm F B) σ3 H4 fun y H5=>∃ ys,H5 Dd = some (.lst ys)/\ys.length < sizeLine/\Nn σ3 (upd H5 Dd (.lst (ys ++ [y]))) else Nn σ3 H4:=by
 unfold turnM at h
 rw [zar] at h
 obtain ⟨τ',e1,h1⟩:=Run.opt2 h
 refine hT.run φ' H2 s' σ' τb τ' xi v _ hL2 hS2 rx e1 fun σ3 hL3 hl3 hf3=>?_
 rw [zar] at h1
 have kf:∀ i,many<=i->σ3[i]? = σ'[i]?:=fun i hi=>hf3 i fun z=>absurd (hin i z) (Nat.not_lt.mpr hi)
 refine ⟨φ',τ',s',hL3,hS2,(zgs x2 h1).imp fun ok s4 φ4 H4 ⟨x4,hS4,h6⟩=>?_⟩
 cases ok with
 | false=>
  refine iF (hN σ3 H4 φ4 s4 acc vs hl3 kf (x2.trans x4) (by rw [ziG (kp.mono x4).at_]; exact x4) hS4 (kp.mono x4) (rac.mono x4 hS2.lz) ?_)
  rw [if_neg (by decide)] at h6
  exact h6
 | true=>
  rw [if_pos rfl,zar] at h6
  refine iT ⟨φ4,τ',s4,hL3.mono x4 hS2.lz,hS4,(zgs (x2.trans x4) h6).imp fun y s5 φ5 H5 ⟨x5,hS5,h7⟩ u ru=>?_⟩
  rw [zar] at h7
  have k5:=(kp.mono x4).mono x5
  have r5:=(rac.mono x4 hS2.lz).mono x5 hS4.lz
  have x15:=(x2.trans x4).trans x5
  obtain ⟨dd,ey,rd,h8⟩ : ∃ d,y = .d d/\Rep K cA φ5 H5 d u/\Run K cA (M.bd (if acc.length < sizeLine then M.ret (acc ++ [d]) else M.no) kk) φ1 H1 s5 P Ee:=by
   cases ru with
   | l _=>exact h7.elim
   | d r=>exact ⟨_,rfl,r,h7⟩
  by_cases hz:acc.length < sizeLine
  ·rw [if_pos hz] at h8
   refine ⟨vs,k5.at_,by rw [<- r5.len]; exact hz,?_⟩
   have ox:Outz φ5 H5 (upd H5 Dd (.lst (vs ++ [u]))):=k5.ext.1
   exact hN σ3 _ φ5 s5 (acc ++ [dd]) (vs ++ [u]) hl3 kf (Ext.keep (vs:=vs) x15 hD) (by rw [zhh,ziG k5.at_]; exact x4.trans x5) (hS5.keep k5) k5.ext.2 ((r5.app (.cons rd .nil)).out ox) h8
  ·rw [if_neg hz] at h8
   exact h8.elim
theorem zer {g:TG} {iter':Expr} (hT:TgOk X.K cA g tgs) (hin:∀ i ∈ tgs,i < many) {σ:L2.St} {H:Hp} {Q:VK} (hh:tE X.K cA EX (ev sub calm F (.comp fz B tgs w fr many cond)) σ H Q) :
  tComp (tI X.K cA EX (wks sub calm F w)) (freesN many fr) g (tTs X.K cA (fun _ _ _ _=>False) (evc sub calm F cond)) (tE X.K cA (fun _ _ _ _=>False) (ev sub calm F B)) σ H Q:=un hh fun φ τ s hL hS h=>by
 by_cases hcal:calm = true
 ·have h:Run X.K cA (if calm = true then M.bd (wks sub calm F w τ) fun cn=>M.bd (walk cn.1 (turnM sub calm F B cond tgs (blk many fr τ)) (cn.2 + 1) 0 []) fun xs=>newL fz xs else M.no) φ H s (fun d _ φ' H'=>∀ v,RepX X.K cA φ' H' d v->Q v H') (eX X.K cA EX σ):=h
  rw [if_pos hcal] at h
  refine ⟨φ,τ,s,hL,hS,h.bd.imp fun cn s1 φ1 H1 ⟨x1,hS1,h1⟩ J hJ=>?_⟩
  have hL1:=hL.mono x1 hS.lz
  obtain ⟨c,n⟩:=cn
  dsimp only at h1 hJ
  intro Dd hD
  obtain ⟨x0,hS0,k0⟩:=zfP hS1 hD
  have frep:∀ {σ':L2.St},(σ'.length = many + fr.length/\∀ i,many<=i->σ'[i]? = (freesN many fr σ)[i]?)->∀ {φ' H'},Ext φ1 H1 φ' H'->RepL X.K cA φ' H' σ' (blk many fr τ):=fun {σ'} hσ {φ' H'} x=>zjU (hL1.mono x hS1.lz) hσ.1 fun i j v e1 e2=>by
   rw [hσ.2 _ (by omega)]
   unfold freesN
   rw [List.getElem?_append_right (by simp),List.length_replicate,List.getElem?_map,show many + i - many = i by omega,e1]
   simp [e2]
  refine ⟨fun i m σ' H'=>m = n + 1 - i/\(σ'.length = many + fr.length/\∀ i,many<=i->σ'[i]? = (freesN many fr σ)[i]?)/\∃ φ' s' acc vs,Ext φ1 H1 φ' H'/\RepS X.K cA φ' H' s'/\Keep φ' H' Dd vs/\Reps X.K cA φ' H' acc vs /\
   Run X.K cA (M.bd (walk c (turnM sub calm F B cond tgs (blk many fr τ)) (n + 1 - i) i acc) fun xs=>newL fz xs) φ1 H1 s' (fun d _ φ' H'=>∀ v,RepX X.K cA φ' H' d v->Q v H') (eX X.K cA EX σ),⟨n + 1,rfl,⟨by simp [freesN],fun i _=>rfl⟩,φ1.mark Dd,s1,[],[],x0,hS0,k0,.nil,h1⟩,?_⟩
  rintro i m σ' H' ⟨rfl,hσ,φ',s',acc,vs,x2,hS2,kp,rac,h3⟩
  have hL2:=frep hσ x2
  cases ek:n + 1 - i with
  | zero=>rw [ek] at h3; exact h3.elim
  | succ k=>
   rw [ek] at h3
   cases ei:c.at i s' with
   | none=>
    exfalso
    unfold Run M.bd walk at h3
    simp only [ei] at h3
   | some oi=>
    cases oi with
    | none=>
     refine .inl ⟨hJ.stop φ' H' H' s' i x2 Outz.refl hS2 ei,?_⟩
     have h4:Run X.K cA (newL fz acc) φ1 H1 s' (fun d _ φ' H'=>∀ v,RepX X.K cA φ' H' d v->Q v H') (eX X.K cA EX σ):=by
      unfold Run M.bd walk at h3
      simp only [ei] at h3
      exact h3
     exact zgr h4 x2 hD (hS1.nz hD) hS2 kp rac
    | some xi=>
     refine .inr ⟨hJ.go φ' H' H' s' i xi x2 Outz.refl hS2 ei,fun σ2 H2=>(σ2.length = many + fr.length/\∀ i,many<=i->σ2[i]? = (freesN many fr σ)[i]?)/\∃ φ' s' acc vs,Ext φ1 H1 φ' H2/\RepS X.K cA φ' H2 s'/\Keep φ' H2 Dd vs/\Reps X.K cA φ' H2 acc vs /\
      Run X.K cA (M.bd (walk c (turnM sub calm F B cond tgs (blk many fr τ)) k (i + 1) acc) fun xs=>newL fz xs) φ1 H1 s' (fun d _ φ' H'=>∀ v,RepX X.K cA φ' H' d v->Q v H') (eX X.K cA EX σ),fun σ2 H2 hn=>⟨k,by omega,by omega,hn.1,?_⟩,fun v H2 hy=>?_⟩
     ·have:n + 1 - (i + 1) = k:=by omega
      rw [this]
      exact hn.2
     ·obtain ⟨gr,rx⟩:=hJ.yld φ' H' H' s' i xi v H2 x2 Outz.refl hS2 ei hy
      have h4:Run X.K cA (M.bd (turnM sub calm F B cond tgs (blk many fr τ) xi acc) fun acc'=>M.bd (walk c (turnM sub calm F B cond tgs (blk many fr τ)) k (i + 1) acc') fun xs=>newL fz xs) φ1 H1 s' (fun d _ φ' H'=>∀ v,RepX X.K cA φ' H' d v->Q v H') (eX X.K cA EX σ):=by
       have h5:=zkF (m':=M.bd (turnM sub calm F B cond tgs (blk many fr τ) xi acc) fun acc'=>walk c (turnM sub calm F B cond tgs (blk many fr τ)) k (i + 1) acc') (by rw [walk]; simp only [ei]) h3
       rw [zar] at h5
       exact h5
      exact zir hT hin hD (x2.trans gr.ext) (hL2.mono gr.ext hS2.lz) (hS2.grow gr) (kp.mono gr.ext) (rac.mono gr.ext hS2.lz) rx h4 fun σ3 H3 φ3 s3 acc3 vs3 l3 f3 x3 _ hS3 k3 r3 h6=>⟨⟨l3.trans hσ.1,fun i hi=>(f3 i hi).trans (hσ.2 i hi)⟩,φ3,s3,acc3,vs3,x3,hS3,k3,r3,h6⟩
 ·have h:Run X.K cA (if calm = true then M.bd (wks sub calm F w τ) fun cn=>M.bd (walk cn.1 (turnM sub calm F B cond tgs (blk many fr τ)) (cn.2 + 1) 0 []) fun xs=>newL fz xs else M.no) φ H s (fun d _ φ' H'=>∀ v,RepX X.K cA φ' H' d v->Q v H') (eX X.K cA EX σ):=h
  rw [if_neg hcal] at h
  exact h.elim
theorem zfi {XN:List Str} (hfr:∀ (i:Nat) (y:Str) (j:Nat),N[many + i]? = some y->fr[i]? = some j->scope.names.lookup y = some .free/\XN[j]? = some y) (σ:L2.St) (i:Nat) (x:Str) (v:V) (e1:N[i]? = some x) (e2:(freesN many fr σ)[i]? = some (some v)):scope.names.lookup x = some .free/\∃ j:Nat,XN[j]? = some x/\σ[j]? = some (some v):=by
 unfold freesN at e2
 by_cases hi:i < many
 ·rw [List.getElem?_append_left (by simpa using hi),List.getElem?_replicate,if_pos hi] at e2
  cases e2
 ·rw [List.getElem?_append_right (by simpa using Nat.le_of_not_lt hi),List.length_replicate,List.getElem?_map] at e2
  cases z:fr[i - many]? with
  | none=>rw [z] at e2; cases e2
  | some j=>
   rw [z] at e2
   have e3:(σ[j]?).join = some v:=by simpa using e2
   obtain ⟨a1,a2⟩:=hfr (i - many) x j (by rw [show many + (i - many) = i by omega]; exact e1) z
   exact ⟨a1,j,a2,zcS e3⟩
theorem zjT {g:TG} (hc:X.calm = true) (B':BlkOk X.env.scope scope) (hi:SI X cA sub calm F EX tg iter w) (hN:N.length = many + fr.length)
  (hfr:∀ (i:Nat) (y:Str) (j:Nat),N[many + i]? = some y->fr[i]? = some j->scope.names.lookup y = some .free/\X.N[j]? = some y)
  (hg:∀ cl C s3 H3 fp pins,PG (X.blk scope cl N C s3 H3 fp pins) tg g) (hT:TgOk X.K cA g tgs) (hin:∀ i ∈ tgs,i < many)
  (ht:∀ cl C s3 H3 fp pins,STs (X.blk scope cl N C s3 H3 fp pins) cA sub calm F (fun _ _ _ _=>False) ifs cond) (he:∀ cl C s3 H3 fp pins,SE (X.blk scope cl N C s3 H3 fp pins) cA sub calm F (fun _ _ _ _=>False) elt B)
  (hs:∀ x,foldedSetIterable iter X.env x = pure x:=by intro _; rfl):SE X cA sub calm F EX (.ListComp elt [⟨tg,iter,ifs,0⟩] scope pos) (.comp fz B tgs w fr many cond):=
 PE.weak (zjY hc B' hi (⟨hg,ht,he⟩ : Parts X elt tg ifs scope N g (tTs X.K cA (fun _ _ _ _=>False) (evc sub calm F cond)) (tE X.K cA (fun _ _ _ _=>False) (ev sub calm F B))) (σY:=freesN many fr) (fun σ=>by simp [freesN,hN]) (fun σ i x v e1 e2=>zfi hfr σ i x v e1 e2) hs) fun σ H Q hh=>zer (iter':=iter) hT hin hh
end
end Mi
set_option Elab.async false
set_option linter.all false
set_option maxRecDepth 100000
set_option maxHeartbeats 400000
namespace Mi
open PySem PySem.Spec PyProof.Rows L2
section
variable (K:PySem.W.Frag) (cA:Cl)
noncomputable def RunS (m:MS) (φ:Ph) (H:Hp) (s:S) (D:Ends) (EX:XS):Prop:=match m s with
 | some (.nx τ,s')=>∀ φ' H' σ',Ext φ H φ' H'->RepS K cA φ' H' s'->RepL K cA φ' H' σ' τ->D.nx σ' H'
 | some (.bk τ,s')=>∀ φ' H' σ',Ext φ H φ' H'->RepS K cA φ' H' s'->RepL K cA φ' H' σ' τ->D.bk σ' H'
 | some (.ct τ,s')=>∀ φ' H' σ',Ext φ H φ' H'->RepS K cA φ' H' s'->RepL K cA φ' H' σ' τ->D.ct σ' H'
 | some (.rt d,s')=>∀ φ' H' v,Ext φ H φ' H'->RepS K cA φ' H' s'->RepX K cA φ' H' d v->D.rt v H'
 | some (.er c fs τ,s')=>∀ φ' H' σ',Ext φ H φ' H'->RepS K cA φ' H' s'->RepL K cA φ' H' σ' τ->∀ dx,ExcDx K cA φ' H' c fs dx->EX σ' (.ref (cA.a c)) dx H'
 | none=>False
noncomputable def tS (EX:XS) (m:Vs->MS):TS:=fun D σ H=>∃ φ τ s,RepL K cA φ H σ τ/\RepS K cA φ H s/\RunS K cA (m τ) φ H s D EX
end
section
variable {K:PySem.W.Frag} {cA:Cl} {φ φ':Ph} {H H':Hp} {s:S} {σ:L2.St} {τ:Vs} {EX:XS} {D:Ends}
theorem RunS.ext {m:MS} (x:Ext φ H φ' H') (h:RunS K cA m φ H s D EX):RunS K cA m φ' H' s D EX:=by
 unfold RunS at *
 split at h <;> first
  | exact fun φ2 H2 a y r l=>h φ2 H2 a (x.trans y) r l
  | exact h.elim
theorem RunS.ofM {α:Type} {m:M α} {k:α->MS} (hL:RepL K cA φ H σ τ) (hz:∀ a ∈ φ.l,φ.z a) (h:RunS K cA (ofM m τ k) φ H s D EX):Run K cA m φ H s (fun a s1 φ1 H1=>Ext φ H φ1 H1/\RepS K cA φ1 H1 s1/\RunS K cA (k a) φ1 H1 s1 D EX) (eX K cA EX σ):=by
 unfold RunS Mi.ofM at h
 unfold Run
 cases e:m s with
 | none=>rw [e] at h; exact h
 | some r=>
  obtain ⟨r,s1⟩:=r
  rw [e] at h
  cases r with
  | er c fs=>exact fun φ1 H1 x r=>h φ1 H1 σ x r (hL.mono x hz)
  | ok a=>
   intro φ1 H1 x r
   refine ⟨x,r,?_⟩
   have h2:RunS K cA (k a) φ H s1 D EX:=h
   exact h2.ext x
theorem RunS.then_ {m:MS} {k:Vs->MS} (h:RunS K cA (thenS m k) φ H s D EX):RunS K cA m φ H s { D with nx:=fun σ' H'=>∃ φ' τ' s',RepL K cA φ' H' σ' τ'/\RepS K cA φ' H' s'/\RunS K cA (k τ') φ' H' s' D EX } EX:=by
 unfold RunS thenS at h
 unfold RunS
 cases e:m s with
 | none=>rw [e] at h; exact h
 | some r=>
  obtain ⟨r,s1⟩:=r
  rw [e] at h
  cases r with
  | nx τ=>
   intro φ1 H1 σ1 x r l
   have h2:RunS K cA (k τ) φ H s1 D EX:=h
   exact ⟨φ1,τ,s1,l,r,h2.ext x⟩
  | bk τ=>exact h
  | ct τ=>exact h
  | rt d=>exact h
  | er c fs τ=>exact h
end
section
variable (X:Cx) (cA:Cl) (sub:Nat->Nat->Bool) (calm:Bool) (F:Bool->Fn) (EX:XS)
noncomputable def SS (st:Stmt) (m:St):Prop:=PS X st (tS X.K cA EX (ex sub calm F m))
noncomputable def SSs (st:List Stmt) (m:Sts):Prop:=PSs X st (tS X.K cA EX (exs sub calm F m))
end
section
variable {X:Cx} {cA:Cl} {sub:Nat->Nat->Bool} {calm:Bool} {F:Bool->Fn} {EX:XS} {a b c d e:Expr} {A B C:E} {pos p p2:Pos} {st:Stmt} {sts body orelse:List Stmt} {m:St} {ms mb me mh:Sts} {es:List Expr} {Xs:Es} {x y n:Str} {i j:Nat}
theorem PS.weak {t t':TS} (h:PS X st t) (f:∀ D σ H,t' D σ H->t D σ H):PS X st t':=fun pins s σ H D I q=>h pins s σ H D I (f D σ H q)
theorem PSs.weak {t t':TS} (h:PSs X sts t) (f:∀ D σ H,t' D σ H->t D σ H):PSs X sts t':=fun pins s σ H D I q=>h pins s σ H D I (f D σ H q)
theorem zjd:SSs X cA sub calm F EX [] .nil:=PSs.weak zjj fun D σ H hh=>un hh fun φ τ s hL hS h=>h φ H σ Ext.refl hS hL
theorem zhU (h1:SS X cA sub calm F EX st m) (h2:SSs X cA sub calm F EX sts ms):SSs X cA sub calm F EX (st::sts) (.cons m ms):=PSs.weak (zim h1 h2) fun D σ H hh=>un hh fun φ τ s hL hS h=>by
 have h:RunS X.K cA (thenS (ex sub calm F m τ) fun τ'=>exs sub calm F ms τ') φ H s D EX:=h
 exact ⟨φ,τ,s,hL,hS,h.then_⟩
theorem zm9 (ha:SE X cA sub calm (F calm) EX a A) (hs:swapsWith a none pos.line X.env = pure false:=by rfl):SS X cA sub calm F EX (.Expr a pos) (.ex A):=PS.weak (zkl ha hs) fun D σ H hh=>un hh fun φ τ s hL hS h=>
 ⟨φ,τ,s,hL,hS,(RunS.ofM hL hS.lz h).imp fun d s1 φ1 H1 ⟨x1,hS1,h1⟩ v rv=>h1 φ1 H1 σ Ext.refl hS1 (hL.mono x1 hS.lz)⟩
theorem zl7 (ha:SE X cA sub calm (F calm) EX a A):SS X cA sub calm F EX (.Return (some a) pos) (.ret A):=PS.weak (zlC ha) fun D σ H hh=>un hh fun φ τ s hL hS h=>
 ⟨φ,τ,s,hL,hS,(RunS.ofM hL hS.lz h).imp fun d s1 φ1 H1 ⟨x1,hS1,h1⟩ v rv=>h1 φ1 H1 v Ext.refl hS1 rv⟩
theorem zl1 (hN:X.N.Nodup) (hi:X.N[i]? = some x) (hx:Loc X.env.scope x) (ha:SE X cA sub calm (F calm) EX a A) (hs:swapsWith a (some (.Name x p)) pos.line X.env = pure false:=by rfl) (hf:X.fn x = true\/X.env.scope.names.lookup x = some .local:=by first | exact .inl rfl | exact .inr rfl) :
  SS X cA sub calm F EX (.Assign [.Name x p] a pos) (.asg (.nm i) A):=PS.weak (zlp hN hi hx ha hs hf) fun D σ H hh=>un hh fun φ τ s hL hS h=>
 ⟨φ,τ,s,hL,hS,(RunS.ofM hL hS.lz h).imp fun d s1 φ1 H1 ⟨x1,hS1,h1⟩ v rv=>h1 φ1 H1 _ Ext.refl hS1 ((hL.mono x1 hS.lz).set rv)⟩
theorem zhb {k} {px py:Pos} (hc:X.calm = true) (hN:X.N.Nodup) (hi:X.N[i]? = some x) (hj:X.N[j]? = some y) (hx:Loc X.env.scope x) (hy:Loc X.env.scope y) (hfx:X.fn x = true\/X.env.scope.names.lookup x = some .local) (hfy:X.fn y = true\/X.env.scope.names.lookup y = some .local) :
  PG X (.Tuple [.Name x px,.Name y py] k pos) (gTup X.K 2 (gCons (gName i) (gCons (gName j) gNil))):=zkv hc (zfF (zdM hN hi hx hfx) (zfF (zdM hN hj hy hfy) zjI))
theorem zgF {K:PySem.W.Frag} {φ:Ph} {H:Hp} {s:S} {τ:Vs} {σ:L2.St} {D:Ends} {d:Xv} {v:V} (hcal:calm = true) (hL:RepL K cA φ H σ τ) (hS:RepS K cA φ H s) (rv:RepX K cA φ H d v) (h:RunS K cA (store sub calm (F calm) (.tp [i,j]) d τ) φ H s D EX):gTup K 2 (gCons (gName i) (gCons (gName j) gNil)) v σ H D.nx:=by
 have h:RunS K cA (if calm = true then ofM (M.bd (dat d) fun d=>M.opt ((tupOf d).bind fun ds=>setAll [i,j] (ds.map Xv.d) τ)) τ (fun τ' s=>some (Out.nx τ',s)) else fun _=>none) φ H s D EX:=h
 rw [if_pos hcal] at h
 obtain ⟨dd,e0,rd,h1⟩:=ze2 rv (RunS.ofM hL hS.lz h)
 obtain ⟨τ',e,_,hS1,h2⟩:=Run.opt hS h1
 refine (zdn i j).run φ H s σ τ τ' dd v _ hL hS rd e fun σ' hL' _ _=>h2 φ H σ' Ext.refl hS hL'
theorem zjW {k} {px py pt:Pos} (hc:X.calm = true) (hcal:calm = true) (hN:X.N.Nodup) (hi:X.N[i]? = some x) (hj:X.N[j]? = some y) (hx:Loc X.env.scope x) (hy:Loc X.env.scope y) (hfx:X.fn x = true\/X.env.scope.names.lookup x = some .local) (hfy:X.fn y = true\/X.env.scope.names.lookup y = some .local) (ha:SE X cA sub calm (F calm) EX a A)
  (hs:swapsWithSole [.Tuple [.Name x px,.Name y py] k pt] a pos.line X.env = pure false:=by rfl) (hw:swappedStores [.Tuple [.Name x px,.Name y py] k pt] a X.env = pure none:=by rfl)
  (h1:(assignEach [.Tuple [.Name x px,.Name y py] k pt] X.env).map (·.2) = [assign (.Tuple [.Name x px,.Name y py] k pt) X.env]:=by rfl) :
  SS X cA sub calm F EX (.Assign [.Tuple [.Name x px,.Name y py] k pt] a pos) (.asg (.tp [i,j]) A):=PS.weak (ziJ ha (zhb hc hN hi hj hx hy hfx hfy) hs hw h1) fun D σ H hh=>un hh fun φ τ s hL hS h=>
 ⟨φ,τ,s,hL,hS,(RunS.ofM hL hS.lz h).imp fun d s1 φ1 H1 ⟨x1,hS1,h1⟩ v rv=>zgF hcal (hL.mono x1 hS.lz) hS1 rv h1⟩
theorem zkB {oo ii:Expr} {O I':E} (hO:SE X cA sub calm (F calm) EX oo O) (hI:SE X cA sub calm (F calm) EX ii I') (ha:SE X cA sub calm (F calm) EX a A)
  (hat:∀ v,assign (.Subscript oo ii p) X.env v = (do
   let ov <- holding [v] (eval oo X.env)
   let iv <- holding [v,ov] (eval ii X.env)
   standAt p
   holding [v,ov,iv] (setItem ov iv v)
   release [v,ov,iv] []):=by intro _; rfl) (hs:swapsWithSole [.Subscript oo ii p] a pos.line X.env = pure false:=by rfl) (hw:swappedStores [.Subscript oo ii p] a X.env = pure none:=by rfl)
  (h1:(assignEach [.Subscript oo ii p] X.env).map (·.2) = [assign (.Subscript oo ii p) X.env]:=by rfl) :
  SS X cA sub calm F EX (.Assign [.Subscript oo ii p] a pos) (.asg (.sub O I') A):=PS.weak (ziJ ha (zlE hO hI zhT hat) hs hw h1) fun D σ H hh=>un hh fun φ τ s hL hS h=>by
 refine ⟨φ,τ,s,hL,hS,(RunS.ofM hL hS.lz h).imp fun d s1 φ1 H1 ⟨x1,hS1,h1⟩ v rv=>?_⟩
 obtain ⟨dd,e0,rd,h2⟩:=ze2 rv (RunS.ofM (hL.mono x1 hS.lz) hS1.lz h1)
 refine useE (hL.mono x1 hS.lz) hS1 h2 fun xo H2 φ2 d2 s2 x2 hL2 hS2 r2 h3=>useE hL2 hS2 h3 fun yi H3 φ3 d3 s3 x3 hL3 hS3 r3 h4=>?_
 obtain ⟨k,_,ek,h5⟩:=zcJ r3 h4
 obtain ⟨n,ad,xs,vs,_,ea,e1,f1,g1,q1,h6⟩:=zbP hS3 (r2.mono x3 hS2.lz) h5
 subst ek ea
 cases ej:L2.ixN xs.length k with
 | none=>simp only [ej] at h6; exact h6.elim
 | some jj=>
  simp only [ej] at h6
  refine ⟨ad,vs,k,jj,rfl,rfl,g1,by rw [<- q1.len]; exact ej,?_⟩
  have rv3:=(rd.mono x2 hS1.lz).mono x3 hS2.lz
  have hS4:=hS3.write e1 f1 (q1.set rv3 jj)
  have x4:Ext φ3 H3 φ3 (upd H3 ad (.lst (vs.set jj v))):=Ext.write f1 ⟨_,g1⟩
  obtain ⟨_,_,h8⟩:=h6 φ3 _ x4 hS4
  exact h8 φ3 _ σ Ext.refl hS4 (hL3.mono x4 hS3.lz)
theorem zm3 (hc:ST X cA sub calm (F calm) EX c C) (ht:SSs X cA sub calm F EX body mb) (he:SSs X cA sub calm F EX orelse me):SS X cA sub calm F EX (.If c body orelse pos) (.iff C mb me):=PS.weak (znc hc ht he) fun D σ H hh=>un hh fun φ τ s hL hS h=>by
 refine ⟨φ,τ,s,hL,hS,(RunS.ofM hL hS.lz h).imp fun k s1 φ1 H1 ⟨x1,hS1,h1⟩=>?_⟩
 cases k with
 | true=>exact iT ⟨φ1,τ,s1,hL.mono x1 hS.lz,hS1,h1⟩
 | false=>exact iF ⟨φ1,τ,s1,hL.mono x1 hS.lz,hS1,h1⟩
theorem zjL {g:TG} {elt iter tg:Expr} {ifs:List Expr} {scope:Scope} {N:List Str} {cond:Eo} {fr tgs:List Nat} {many:Nat} {fz:Bool} {w:Wk} {spos py:Pos} (hc:X.calm = true) (hXN:X.N.Nodup) (hi':X.N[i]? = some y) (hx:Loc X.env.scope y) (hf:X.fn y = true\/X.env.scope.names.lookup y = some .local) (B':BlkOk X.env.scope scope) (hi:SI X cA sub calm (F calm) EX tg iter w) (hN:N.length = many + fr.length)
  (hfr:∀ (i:Nat) (y:Str) (j:Nat),N[many + i]? = some y->fr[i]? = some j->scope.names.lookup y = some .free/\X.N[j]? = some y)
  (hg:∀ cl C s3 H3 fp pins,PG (X.blk scope cl N C s3 H3 fp pins) tg g) (hT:TgOk X.K cA g tgs) (hin:∀ i ∈ tgs,i < many)
  (ht:∀ cl C s3 H3 fp pins,STs (X.blk scope cl N C s3 H3 fp pins) cA sub calm (F calm) (fun _ _ _ _=>False) ifs cond) (he:∀ cl C s3 H3 fp pins,SE (X.blk scope cl N C s3 H3 fp pins) cA sub calm (F calm) (fun _ _ _ _=>False) elt B)
  (hsw:swapsWith (.ListComp elt [⟨tg,iter,ifs,0⟩] scope pos) (some (.Name y py)) spos.line X.env = pure true) (hs:∀ x,foldedSetIterable iter X.env x = pure x:=by intro _; rfl) :
  SS X cA sub calm F EX (.Assign [.Name y py] (.ListComp elt [⟨tg,iter,ifs,0⟩] scope pos) spos) (.asg (.nm i) (.comp fz B tgs w fr many cond)):=
 PS.weak (zfM hc hXN hi' hx hf B' hi (⟨hg,ht,he⟩ : Parts X elt tg ifs scope N g (tTs X.K cA (fun _ _ _ _=>False) (evc sub calm (F calm) cond)) (tE X.K cA (fun _ _ _ _=>False) (ev sub calm (F calm) B))) (σY:=freesN many fr) (fun σ=>by simp [freesN,hN]) (fun σ i x v e1 e2=>zfi hfr σ i x v e1 e2) hsw hs) fun D σ H hh=>un hh fun φ τ s hL hS h=>
  zer (iter':=iter) hT hin ⟨φ,τ,s,hL,hS,(RunS.ofM hL hS.lz h).imp fun d s1 φ1 H1 ⟨x1,hS1,h1⟩ v rv=>h1 φ1 H1 _ Ext.refl hS1 ((hL.mono x1 hS.lz).set rv)⟩
noncomputable def turnS (m:MS) (kN:Vs->MS):MS:=fun s=>match m s with
 | some (.nx τ',s')=>kN τ' s'
 | some (.ct τ',s')=>kN τ' s'
 | some (.bk τ',s')=>some (.nx τ',s')
 | r=>r
theorem RunS.turn {K:PySem.W.Frag} {φ:Ph} {H:Hp} {s:S} {D:Ends} {m:MS} {kN:Vs->MS} {N:L2.St->Hp->Prop} (hN:∀ φ' τ' s' σ' H',Ext φ H φ' H'->RepL K cA φ' H' σ' τ'->RepS K cA φ' H' s'->RunS K cA (kN τ') φ' H' s' D EX->N σ' H') (h:RunS K cA (turnS m kN) φ H s D EX) :
  RunS K cA m φ H s { D with nx:=N,ct:=N,bk:=D.nx } EX:=by
 unfold RunS turnS at h
 unfold RunS
 cases e:m s with
 | none=>rw [e] at h; exact h
 | some r=>
  obtain ⟨r,s1⟩:=r
  rw [e] at h
  cases r with
  | nx τ'=>
   intro φ1 H1 σ1 x r l
   have h2:RunS K cA (kN τ') φ H s1 D EX:=h
   exact hN φ1 τ' s1 σ1 H1 x l r (h2.ext x)
  | ct τ'=>
   intro φ1 H1 σ1 x r l
   have h2:RunS K cA (kN τ') φ H s1 D EX:=h
   exact hN φ1 τ' s1 σ1 H1 x l r (h2.ext x)
  | bk τ'=>exact h
  | rt d=>exact h
  | er c fs τ'=>exact h
theorem ziC (hp:PassesOwn (model X.prog X.w) X.A X.env X.xe) (hc:ST X cA sub calm (F calm) EX c C) (hb:SSs X cA sub calm F EX body mb):SS X cA sub calm F EX (.While c body [] pos) (.wh C mb):=PS.weak (zh7 hp hc hb) fun D σ H hh=>un hh fun φ τ s hL hS h=>by
 refine ⟨fun m σ H=>∃ φ τ s,RepL X.K cA φ H σ τ/\RepS X.K cA φ H s/\RunS X.K cA (whileS (fun τ=>M.bd (ev sub calm (F calm) C τ) bool) (fun τ=>exs sub calm F mb τ) m τ) φ H s D EX,⟨wFuel,φ,τ,s,hL,hS,h⟩,?_⟩
 rintro m σ H ⟨φ,τ,s,hL,hS,h⟩
 cases m with
 | zero=>exact h.elim
 | succ m=>
  refine ⟨φ,τ,s,hL,hS,(RunS.ofM (k:=fun ok=>if ok = true then turnS (exs sub calm F mb τ) (whileS (fun τ=>M.bd (ev sub calm (F calm) C τ) bool) (fun τ=>exs sub calm F mb τ) m) else fun s=>some (.nx τ,s)) hL hS.lz h).imp fun k s1 φ1 H1 ⟨x1,hS1,h1⟩=>?_⟩
  cases k with
  | true=>
   rw [if_pos rfl] at h1 ⊢
   refine ⟨_,fun σ' H' z=>⟨m,Nat.lt_succ_self m,z⟩,φ1,τ,s1,hL.mono x1 hS.lz,hS1,RunS.turn (fun φ' τ' s' σ' H' _ l r q=>?_) h1⟩
   exact ⟨φ',τ',s',l,r,q⟩
  | false=>
   rw [if_neg Bool.false_ne_true] at h1 ⊢
   exact h1 φ1 H1 σ Ext.refl hS1 (hL.mono x1 hS.lz)
noncomputable def SG (X:Cx) (cA:Cl) (sub:Nat->Nat->Bool) (calm:Bool) (F:Bool->Fn) (EX:XS) (tg:Expr) (t:Tg):Prop:=∃ g:TG,PG X tg g/\∀ (φ:Ph) (H:Hp) (s:S) (σ:L2.St) (τ:Vs) (d:Xv) (v:V) (D:Ends),RepL X.K cA φ H σ τ->RepS X.K cA φ H s->RepX X.K cA φ H d v->
 RunS X.K cA (store sub calm (F calm) t d τ) φ H s D EX->g v σ H D.nx
theorem zjp (hN:X.N.Nodup) (hi:X.N[i]? = some x) (hx:Loc X.env.scope x) (hf:X.fn x = true\/X.env.scope.names.lookup x = some .local:=by first | exact .inl rfl | exact .inr rfl):SG X cA sub calm F EX (.Name x pos) (.nm i):=
 ⟨_,zdM hN hi hx hf,fun φ H s σ τ d v D hL hS r h=>h φ H _ Ext.refl hS (hL.set r)⟩
theorem zkt {tg:Expr} {t:Tg} {w:Wk} (hp:PassesOwn (model X.prog X.w) X.A X.env X.xe) (hc:X.calm = true) (hcal:calm = true) (ha:SI X cA sub calm (F calm) EX tg a w) (hg:SG X cA sub calm F EX tg t) (hb:SSs X cA sub calm F EX body mb)
  (hs:∀ x,foldedSetIterable a X.env x = pure x:=by intro _; rfl):SS X cA sub calm F EX (.For tg a body [] pos) (.fr t w mb):=by
 obtain ⟨g,hG,hg⟩:=hg
 refine PS.weak (zkx hp hc ha hG hb hs) fun D σ H hh=>un hh fun φ τ s hL hS h=>?_
 have h:RunS X.K cA (if calm = true then ofM (wks sub calm (F calm) w τ) τ fun cn=>forS cn.1 (fun d τ=>thenS (store sub calm (F calm) t (.d d) τ) fun τ'=>exs sub calm F mb τ') (cn.2 + 1) 0 τ else fun _=>none) φ H s D EX:=h
 rw [if_pos hcal] at h
 refine ⟨φ,τ,s,hL,hS,(RunS.ofM hL hS.lz h).imp fun cn s1 φ1 H1 ⟨x1,hS1,h1⟩ J hJ=>?_⟩
 have hL1:=hL.mono x1 hS.lz
 obtain ⟨c,n⟩:=cn
 dsimp only at h1 hJ
 refine ⟨fun i m σ' H'=>∃ φ' τ' s',Ext φ1 H1 φ' H'/\RepL X.K cA φ' H' σ' τ'/\RepS X.K cA φ' H' s'/\RunS X.K cA (forS c (fun d τ=>thenS (store sub calm (F calm) t (.d d) τ) fun τ'=>exs sub calm F mb τ') m i τ') φ' H' s' D EX,⟨n + 1,φ1,τ,s1,Ext.refl,hL1,hS1,h1⟩,?_⟩
 rintro i m σ' H' ⟨φ',τ',s',x2,hL2,hS2,h4⟩
 cases m with
 | zero=>exact h4.elim
 | succ m=>
  cases ei:c.at i s' with
  | none=>
   exfalso
   unfold RunS forS at h4
   simp only [ei] at h4
  | some oi=>
   cases oi with
   | none=>
    refine .inl ⟨hJ.stop φ' H' H' s' i x2 Outz.refl hS2 ei,?_⟩
    unfold RunS forS at h4
    simp only [ei] at h4
    exact h4 φ' H' σ' Ext.refl hS2 hL2
   | some xi=>
    refine .inr ⟨hJ.go φ' H' H' s' i xi x2 Outz.refl hS2 ei,_,fun σ3 H3 z=>⟨m,Nat.lt_succ_self m,z⟩,fun v H3 hy=>?_⟩
    obtain ⟨gr,rx⟩:=hJ.yld φ' H' H' s' i xi v H3 x2 Outz.refl hS2 ei hy
    have h5:RunS X.K cA (turnS (thenS (store sub calm (F calm) t (.d xi) τ') fun τ'=>exs sub calm F mb τ') (forS c (fun d τ=>thenS (store sub calm (F calm) t (.d d) τ) fun τ'=>exs sub calm F mb τ') m (i + 1))) φ' H' s' D EX:=by
     unfold RunS at h4 ⊢
     have e:forS c (fun d τ=>thenS (store sub calm (F calm) t (.d d) τ) fun τ'=>exs sub calm F mb τ') (m + 1) i τ' s' = turnS (thenS (store sub calm (F calm) t (.d xi) τ') fun τ'=>exs sub calm F mb τ') (forS c (fun d τ=>thenS (store sub calm (F calm) t (.d d) τ) fun τ'=>exs sub calm F mb τ') m (i + 1)) s':=by
      rw [forS]
      simp only [ei]
      rfl
     rw [e] at h4
     exact h4
    exact hg φ' H3 s' σ' τ' (.d xi) v _ (hL2.mono gr.ext hS2.lz) (hS2.grow gr) (.d rx) (RunS.then_ (RunS.turn (fun φ4 τ4 s4 σ4 H4 x4 l4 r4 q4=>⟨φ4,τ4,s4,(x2.trans gr.ext).trans x4,l4,r4,q4⟩) (h5.ext gr.ext)))
end
end Mi
set_option Elab.async false
set_option linter.all false
set_option maxRecDepth 100000
set_option maxHeartbeats 400000
namespace L2
open PySem PySem.Spec PyProof.Rows
structure Fun (K:PySem.W.Frag) (x qual:Str) (st:Stmt) (f:Addr) (fd:FuncData):Prop where
 ex:∃ (oc:Value) (od:Option Addr) (kV doc pm:Value) (an:Option Addr) (cdv ct:Value) (osl:Array (Option Value)),
  fd = PySem.W.fnOf x qual (defArgs st) (defBody st) (defScope st) .none kV doc pm an cdv ct/\K.lookup f = some ⟨oc,od,.func fd,osl⟩/\PySem.W.codeIn K cdv qual = true
 kp:PySem.W.keepIn K (.ref f) = true
section
variable {P:Program} {w:World} {K:PySem.W.Frag} {mg:Str->Option Value} {base:Heap}
end
end L2
set_option Elab.async false
set_option linter.all false
set_option maxRecDepth 100000
set_option maxHeartbeats 400000
namespace Mi
open PySem PySem.Spec PyProof.Rows L2
section
variable {P:Program} {w:World} {K:PySem.W.Frag} {mg:Str->Option Value} {base:Heap} {cA:Cl} {sub:Nat->Nat->Bool} {T:Nat->Option Df}
theorem zf4 {φ:Ph} {H:Hp} {N:List Str} {ds:List Xv} {vs:List V} {m p:Nat} (r:RepXs K cA φ H ds vs) (hp:p = ds.length) (hm:m = N.length):RepL K cA φ H (L2.start N vs) (ds.map some ++ List.replicate (m - p) none):=by
 subst hp hm
 unfold L2.start
 have hl:=r.len
 refine ⟨by simp [hl],fun i d e=>?_⟩
 by_cases hi:i < ds.length
 ·rw [List.getElem?_append_left (by simpa using hi),List.getElem?_map] at e
  cases z:ds[i]? with
  | none=>rw [z] at e; cases e
  | some x=>
   rw [z] at e
   cases e
   obtain ⟨v,a,b⟩:=r.get z
   exact ⟨v,by rw [List.getElem?_append_left (by simp; omega),List.getElem?_map,a]; rfl,b⟩
 ·rw [List.getElem?_append_right (by simpa using hi),List.getElem?_replicate] at e
  split at e <;> cases e
theorem zfs {φ:Ph} {H:Hp} {s:S} {ds:List Xv} {k n:Nat} {cm:Bool} {df:Df} {Q:VK} {E:XK} (hT:T n = some df)
  (h:Run K cA (call sub T (k + 1) cm n ds) φ H s (fun d _ φ' H'=>∀ v,RepX K cA φ' H' d v->Q v H') (fun c fs _ φ' H'=>∀ dx,ExcDx K cA φ' H' c fs dx->E (.ref (cA.a c)) dx H')) :
  ds.length = df.pars/\RunS K cA (exs sub cm (fun c=>call sub T k c) df.body (ds.map some ++ List.replicate (df.many - df.pars) none)) φ H s { nx:=fun _ H'=>Q .non H',rt:=Q } (fun _ C dx H'=>E C dx H'):=by
 unfold call at h
 simp only [hT] at h
 by_cases hl:ds.length = df.pars
 ·refine ⟨hl,?_⟩
  rw [if_pos hl] at h
  unfold Run at h
  unfold RunS
  cases e:exs sub cm (fun c=>call sub T k c) df.body (ds.map some ++ List.replicate (df.many - df.pars) none) s with
  | none=>simp only [e] at h
  | some r=>
   obtain ⟨r,s1⟩:=r
   simp only [e] at h
   cases r with
   | nx τ=>exact fun φ' H' σ' x r l=>h φ' H' x r _ (.d .non)
   | rt d=>exact fun φ' H' v x r rv=>h φ' H' x r v rv
   | er c fs τ=>exact fun φ' H' σ' x r l=>h φ' H' x r
   | bk τ=>exact h.elim
   | ct τ=>exact h.elim
 ·rw [if_neg hl] at h
  exact h.elim
theorem zat {cm:Bool} {n:Nat} {f:Addr} {fd:FuncData} {ps:List Str}:FnOk P w K mg base (CXe P w) cm 0 f fd ps (spF K cA (call sub T 0 cm n)):=
 ⟨fun vs H Q E ⟨_,_,_,_,_,h⟩=>h.elim,fun A outer s H args us vs Q E _ _ _ _ _ ⟨_,_,_,_,_,h⟩=>h.elim⟩
theorem zkG {x qual:Str} {st:Stmt} {f:Addr} {fd:FuncData} {N ps:List Str} {k n:Nat} {cm:Bool} {df:Df} (F:Fun K x qual st f fd) (S:FnScope N ps (defScope st)) (hT:T n = some df) (hp:df.pars = ps.length) (hm:df.many = N.length)
  (hb:∀ (cdv:Value) (A:Around) (outer:List Env) (s:Shared) (H:Hp) (E:XK),Room k (A.deeper (envOfC qual (defScope st) s.heap.objs.size f cdv))->
   SSs (cxOf (CXe P w) P w K mg base N qual (defScope st) f cdv A outer s H E cm) cA sub cm (fun c=>call sub T k c) (fun _ C dx H'=>E C dx H') (defBody st) df.body) :
  FnOk P w K mg base (CXe P w) cm (k + 1) f fd ps (spF K cA (call sub T (k + 1) cm n)):=by
 obtain ⟨oc,od,kV,doc,pm,an,cdv,ct,osl,rfl,lk,hcd⟩:=F.ex
 refine zmD lk hcd S (fun vs H Q E ⟨φ,ds,s,r,hS,h⟩=>?_) fun A outer s H vs Q E hr ⟨φ,ds,st',r,hS,h⟩=>?_
 ·rw [<- r.len,(zfs hT h).1,hp]
 ·obtain ⟨hl,h2⟩:=zfs hT h
  exact ⟨_,hb cdv A outer s H E hr,φ,_,st',zf4 r hl.symm hm,hS,h2⟩
end
theorem zk5 {K:PySem.W.Frag} {cA:Cl} {m:List Xv->M Xv} {H:Hp} {a:Addr} {ns:List Int} (hq:SqL K H a (ns.map V.int)) (hm:∃ s',m [.d (.fl (ns.map D.int))] [] = some (.ok (.d (.bl true)),s')) :
  spF K cA m [.ref a] H (fun v _=>v = .bl true) fun _ _ _=>False:=by
 have rs:∀ (l:List Int) φ,Reps K cA φ H (l.map D.int) (l.map V.int):=fun l φ=>by
  induction l with
  | nil=>exact .nil
  | cons i l ih=>exact .cons (.int i) ih
 have hl:LstAt K ⟨fun _=>False,[]⟩ H a (ns.map V.int):=by
  rcases hq with h | h
  ·exact .inl ⟨h,fun z=>z⟩
  ·exact .inr (.inr h)
 refine ⟨⟨fun _=>False,[]⟩,[.d (.fl (ns.map D.int))],[],.cons (.d (.fl hl (rs ns _))) .nil,⟨rfl,(fun n o b e1 e2=>by simp at e1),List.nodup_nil,(fun b hb=>by cases hb),(fun b z=>False.elim z)⟩,?_⟩
 obtain ⟨s',e⟩:=hm
 unfold Run
 rw [e]
 intro φ' H' _ _ v rv
 cases rv with
 | d rv=>cases rv; rfl
theorem zhn {X:Cx}:Raises X (fun _ _ _ _=>False):=fun _ _ _ _ _ _ _ _ _ _ _ _ _ z=>z.elim
theorem hu60 {k:Nat} {A:Around} (r:Room k A):A.units + 60 < cLine:=by have:=r.un; omega
noncomputable def plainE:Expr->Bool
 | .Starred _ _=>false
 | _=>true
theorem star1 {e:Expr} {es:List Expr} {env:Env} (h:plainE e = true):starEach (e::es) env = (false,eval e env)::starEach es env:=by
 cases e <;> first | rfl | cases h
theorem starAny:∀ {es:List Expr} {env:Env} {pos:Pos},es.all plainE = true->(backTo pos (starEach es env)).any (·.1) = false
 | [],_,_,_=>rfl
 | e::es,env,pos,h=>by
  rw [List.all_cons,Bool.and_eq_true] at h
  rw [star1 h.1]
  show (false || (backTo pos (starEach es env)).any (·.1)) = false
  rw [starAny h.2]
  rfl
theorem starAll:∀ {es:List Expr} {env:Env} {pos:Pos},es.all plainE = true->(backTo pos (starEach es env)).all (fun x=>!x.1) = true
 | [],_,_,_=>rfl
 | e::es,env,pos,h=>by
  rw [List.all_cons,Bool.and_eq_true] at h
  rw [star1 h.1]
  show (true && (backTo pos (starEach es env)).all (fun x=>!x.1)) = true
  rw [starAll h.2]
  rfl
theorem starFew {e:Expr} {es:List Expr} {env:Env} {pos:Pos} (h1:plainE e = true) (h2:es.all plainE = true) (h3:decide (es.length < 28) = true):((backTo pos (starEach (e::es) env)).all (fun x=>!x.1) && (backToKw pos (keywordEach [] env)).all (fun x=>x.1.isSome) && decide ((e::es).length + ([]:List Keyword).length + (if ([]:List Keyword).isEmpty then 0 else 1) < 30)) = true:=by
 rw [starAll (es:=e::es) (by rw [List.all_cons,h1,h2]; rfl)]
 have:=of_decide_eq_true h3
 have z:(e::es).length + ([]:List Keyword).length + (if ([]:List Keyword).isEmpty then 0 else 1) < 30:=by
  show es.length + 1 + 0 + 0 < 30
  omega
 rw [decide_eq_true z]
 rfl
noncomputable def blkB (sc scope:Scope):Bool:=(match scope.kind with | .function=>true | _=>false) && scope.names.all fun y=>match y.2 with
 | .cell=>(match scope.names.lookup y.1 with | some .cell=>true | _=>false)
 | .free=>(match sc.names.lookup y.1 with | some .cell=>true | some .free=>true | _=>false)
 | .local=>(match scope.names.lookup y.1 with | some .local=>true | _=>false)
 | _=>true
theorem BlkOk.of {sc scope:Scope} (h:blkB sc scope = true):BlkOk sc scope:=by
 unfold blkB at h
 rw [Bool.and_eq_true,List.all_eq_true] at h
 obtain ⟨h1,h2⟩:=h
 refine ⟨?_,fun y hy z=>?_,fun y hy z=>?_,fun y hy z=>?_⟩
 ·split at h1
  ·assumption
  ·cases h1
 ·have:=h2 y hy
  rw [z] at this
  dsimp only at this
  split at this
  ·assumption
  ·cases this
 ·have:=h2 y hy
  rw [z] at this
  dsimp only at this
  split at this
  ·exact .inl (by assumption)
  ·exact .inr (by assumption)
  ·cases this
 ·have:=h2 y hy
  rw [z] at this
  dsimp only at this
  split at this
  ·assumption
  ·cases this
noncomputable def frB (scope:Scope) (XN:List Str):List Str->List Nat->Bool
 | y::N,j::fr=>(match scope.names.lookup y with | some .free=>true | _=>false) && decide (XN[j]? = some y) && frB scope XN N fr
 | [],[]=>true
 | _,_=>false
theorem ziY {scope:Scope} {XN:List Str}:∀ {N:List Str} {fr:List Nat},frB scope XN N fr = true->N.length = fr.length/\∀ (i:Nat) (y:Str) (j:Nat),N[i]? = some y->fr[i]? = some j->scope.names.lookup y = some .free/\XN[j]? = some y
 | [],[],_=>⟨rfl,fun i y j h=>by simp at h⟩
 | [],_::_,h=>by cases h
 | _::_,[],h=>by cases h
 | y::N,j::fr,h=>by
  unfold frB at h
  rw [Bool.and_eq_true,Bool.and_eq_true,decide_eq_true_eq] at h
  obtain ⟨⟨h1,h2⟩,h3⟩:=h
  obtain ⟨l,q⟩:=ziY h3
  refine ⟨by simp [l],fun i z m e1 e2=>?_⟩
  cases i with
  | zero=>
   simp at e1 e2
   subst e1 e2
   refine ⟨?_,h2⟩
   split at h1
   ·assumption
   ·cases h1
  | succ i=>exact q i z m (by simpa using e1) (by simpa using e2)
noncomputable def okN (x:Str):Bool:=!(x == ("__debug__" : Str)) && !(x == ("__classdict__" : Str)) && !decide (x = "__name__")
theorem zb3 {x:Str} (h:okN x = true):(x == ("__debug__" : Str)) = false/\(x == ("__classdict__" : Str)) = false/\x ≠ "__name__":=by
 unfold okN at h
 simp only [Bool.and_eq_true,Bool.not_eq_true',decide_eq_false_iff_not] at h
 exact ⟨h.1.1,h.1.2,h.2⟩
theorem zbi {env:Env} {k:NameKind} (hk:k ≠ .free):∀ {names:List (Str × NameKind)} {x:Str},names.lookup x = some k->
  (names.map fun (n,k)=>if (k == NameKind.free && env.scope.kind == .function && env.kindOf n == some .cell) then (n,NameKind.cell) else (n,k)).lookup x = some k
 | [],x,h=>by simp at h
 | (n,q)::r,x,h=>by
  rw [List.lookup_cons] at h
  rw [List.map_cons,List.lookup_cons]
  have hd:∀ c:Bool,(if c = true then (n,NameKind.cell) else (n,q)).1 = n:=fun c=>by cases c <;> rfl
  rw [hd]
  by_cases z:x = n
  ·subst z
   simp only [beq_self_eq_true] at h ⊢
   cases h
   split
   ·rename_i y
    simp only [Bool.and_eq_true,beq_iff_eq] at y
    exact absurd y.1.1 hk
   ·rfl
  ·have z':(x == n) = false:=by simpa using z
   simp only [z'] at h ⊢
   exact zbi hk h
theorem zkz {K:PySem.W.Frag} {C:Addr} (h:xcB K C = true):XC K C:=by
 unfold xcB at h
 simp only [Bool.and_eq_true,beq_iff_eq] at h
 obtain ⟨⟨⟨⟨⟨⟨⟨h1,h2⟩,h3⟩,h4⟩,h5⟩,h6⟩,h7⟩,h8⟩:=h
 exact ⟨h1,h2,h3,h4,h5,h6,h7,h8⟩
theorem ziP {n c:Nat} (hn:0 < n):nmN n c < n:=by unfold nmN; split <;> omega
theorem ziL {n c:Nat} (hn:0 < n):nmN n (nmN n c) = nmN n c:=by unfold nmN; split <;> simp_all
theorem zj5 {n c e:Nat} (hn:0 < n):subN n (nmN n c) (nmN n e) = subN n c e:=by unfold subN; rw [ziL hn,ziL hn]
theorem zjv {K:PySem.W.Frag} {L:List Addr} {f:Nat->List Str} (hL:0 < L.length) (h:clssB K L = true):Clss K ⟨cAof L,f⟩ (subN L.length):=by
 unfold clssB at h
 rw [List.all_eq_true] at h
 have key:∀ c,xcB K (cAof L c) = true/\PySem.W.kitOne K (.ref (cAof L c)) (.type "ValueError") = some true/\∀ e,PySem.W.kitOne K (.ref (cAof L c)) (.ref (cAof L e)) = some (subN L.length c e):=fun c=>by
  have z:=h (nmN L.length c) (List.mem_range.mpr (ziP hL))
  simp only [Bool.and_eq_true,beq_iff_eq,List.all_eq_true] at z
  obtain ⟨⟨z1,z2⟩,z3⟩:=z
  refine ⟨z1,z2,fun e=>?_⟩
  have y:=z3 (nmN L.length e) (List.mem_range.mpr (ziP hL))
  rw [zj5 hL] at y
  exact y
 exact ⟨fun c=>zkz (key c).1,fun c e=>(key c).2.2 e,fun c=>(key c).2.1⟩
noncomputable def spLaw (K:PySem.W.Frag):Sp:=fun vs H Q _=>∃ (a:Addr) (ns:List Int),vs = [.ref a]/\SqL K H a (ns.map V.int)/\ns.length<=63/\Only H/\∀ H',Q (.bl true) H'
theorem zi8 {K:PySem.W.Frag} {cA:Cl} {m:List Xv->M Xv} (hm:∀ ns:List Int,ns.length<=63->∃ s',m [.d (.fl (ns.map D.int))] [] = some (.ok (.d (.bl true)),s')) (vs:List V) (H:Hp) (Q:VK) (E:XK) (h:spLaw K vs H Q E):spF K cA m vs H Q E:=by
 obtain ⟨a,ns,rfl,hq,hl,hO,k⟩:=h
 obtain ⟨φ,ds,s,r1,r2,h⟩:=zk5 (cA:=cA) (m:=m) hq (hm ns hl)
 refine ⟨φ,ds,s,r1,r2,?_⟩
 unfold Run at h ⊢
 split at h
 ·intro φ' H' x r v rv
  rw [h φ' H' x r v rv]
  exact k H'
 ·exact fun φ' H' x r dx q=>(h φ' H' x r dx q).elim
 ·exact h
theorem binds1 {K:PySem.W.Frag} {fd:FuncData} {p:Str} (h:∀ a,bindArgs fd ⟨[a],[]⟩ = pure [(p,a)]):Binds K fd [p] []:=.all fun us hl=>by
 cases us with
 | nil=>cases hl
 | cons a r=>cases r with
  | nil=>exact h a
  | cons b r=>cases hl
theorem binds2 {K:PySem.W.Frag} {fd:FuncData} {p q:Str} (h:∀ a b,bindArgs fd ⟨[a,b],[]⟩ = pure [(p,a),(q,b)]):Binds K fd [p,q] []:=.all fun us hl=>by
 cases us with
 | nil=>cases hl
 | cons a r=>cases r with
  | nil=>cases hl
  | cons b r=>cases r with
   | nil=>exact h a b
   | cons c r=>cases hl
theorem binds3 {K:PySem.W.Frag} {fd:FuncData} {p q t:Str} (h:∀ a b c,bindArgs fd ⟨[a,b,c],[]⟩ = pure [(p,a),(q,b),(t,c)]):Binds K fd [p,q,t] []:=.all fun us hl=>by
 cases us with
 | nil=>cases hl
 | cons a r=>cases r with
  | nil=>cases hl
  | cons b r=>cases r with
   | nil=>cases hl
   | cons c r=>cases r with
    | nil=>exact h a b c
    | cons d r=>cases hl
end Mi
set_option Elab.async false
set_option linter.all false
set_option maxRecDepth 100000
set_option maxHeartbeats 400000
namespace Mi
open PySem PySem.Spec PyProof.Rows L2
theorem ziS:bootBuiltins "int" = some (.type "int"):=by decide +kernel
theorem zeV:bootBuiltins "bool" = some (.type "bool"):=by decide +kernel
theorem zcx:bootBuiltins "tuple" = some (.type "tuple"):=by decide +kernel
theorem zji:bootBuiltins "list" = some (.type "list"):=by decide +kernel
structure JE (X:Cx) (cA:Cl) (sub:Nat->Nat->Bool) (calm:Bool) (F:Fn) (EX:XS) (e:Expr) (m:E):Prop where
 o:SE X cA sub calm F EX e m
structure JA (X:Cx) (cA:Cl) (sub:Nat->Nat->Bool) (calm:Bool) (F:Fn) (EX:XS) (e:List Expr) (m:Es):Prop where
 o:SA X cA sub calm F EX e m
structure JT (X:Cx) (cA:Cl) (sub:Nat->Nat->Bool) (calm:Bool) (F:Fn) (EX:XS) (e:Expr) (m:E):Prop where
 o:ST X cA sub calm F EX e m
structure JW (X:Cx) (cA:Cl) (sub:Nat->Nat->Bool) (calm:Bool) (F:Fn) (EX:XS) (e:Expr) (m:E):Prop where
 o:SW X cA sub calm F EX e m
structure JC (X:Cx) (cA:Cl) (sub:Nat->Nat->Bool) (calm:Bool) (F:Fn) (EX:XS) (e:List Expr) (m:Eo):Prop where
 o:STs X cA sub calm F EX e m
structure JO (X:Cx) (cA:Cl) (sub:Nat->Nat->Bool) (calm:Bool) (F:Fn) (EX:XS) (e:Option Expr) (m:Eo):Prop where
 o:SOp X cA sub calm F EX e m
structure JI (X:Cx) (cA:Cl) (sub:Nat->Nat->Bool) (calm:Bool) (F:Fn) (EX:XS) (tg e:Expr) (m:Wk):Prop where
 o:SI X cA sub calm F EX tg e m
structure JG (X:Cx) (cA:Cl) (sub:Nat->Nat->Bool) (calm:Bool) (F:Bool->Fn) (EX:XS) (e:Expr) (m:Tg):Prop where
 o:SG X cA sub calm F EX e m
structure JS (X:Cx) (cA:Cl) (sub:Nat->Nat->Bool) (calm:Bool) (F:Bool->Fn) (EX:XS) (e:Stmt) (m:St):Prop where
 o:SS X cA sub calm F EX e m
structure JB (X:Cx) (cA:Cl) (sub:Nat->Nat->Bool) (calm:Bool) (F:Bool->Fn) (EX:XS) (e:List Stmt) (m:Sts):Prop where
 o:SSs X cA sub calm F EX e m
structure JK (X:Cx) (x:Str) (k:NameKind):Prop where
 o:X.env.scope.names.lookup x = some k
structure JP (X:Cx) (cA:Cl) (op:CmpOp) (p:Pr):Prop where
 o:∃ r,OpR X (compareOp op) r/\PrOk X.K cA p (r2 r)
structure JQ (X:Cx) (cA:Cl) (op:Operator) (p:Pr):Prop where
 o:∃ r,OpR X (binaryOp op) r/\PrOk X.K cA p (r2 r)
structure JN (X:Cx) (cA:Cl) (kx:Expr) (k:Kd):Prop where
 o:PE X kx (tC (kdC cA k))
structure JR (X:Cx) (EX:XS):Prop where
 o:Raises X EX
structure JH (X:Cx):Prop where
 o:PassesOwn (model X.prog X.w) X.A X.env X.xe
structure JY (X:Cx) (tg:Expr) (g:TG):Prop where
 o:PG X tg g
noncomputable def locK:NameKind->Bool
 | .local=>true
 | .cell=>true
 | _=>false
noncomputable def visK:NameKind->Bool
 | .local=>true
 | .cell=>true
 | .free=>true
 | _=>false
section
variable {X:Cx} {cA:Cl} {sub:Nat->Nat->Bool} {calm:Bool} {F:Fn} {EX:XS} {a b c d e:Expr} {A B C Dd E':E} {pos p p2 apos:Pos} {es:List Expr} {Xs:Es} {x y:Str} {k k':NameKind} {q q1 q2 q3:Pr} {fz:Bool}
theorem zce {scope:Scope} {cl:List (Str × Addr)} {N:List Str} {Cc:Addr} {s3:Shared} {H3:Hp} {fp:List Addr} {pins:List (Addr × Obj)} (h:scope.names.lookup x = some k) (hk:(match k with | .free=>false | _=>true) = true):JK (X.blk scope cl N Cc s3 H3 fp pins) x k:=
 ⟨zbi (by intro z; subst z; cases hk) h⟩
theorem g_v (i:Nat) (hN:X.N[i]? = some x) (h:JK X x k) (hv:visK k = true) (hd:okN x = true):JE X cA sub calm F EX (.Name x pos) (.v i):=
 ⟨znt i hN (by cases k <;> first | exact .inl h.o | exact .inr (.inl h.o) | exact .inr (.inr h.o) | cases hv) (zb3 hd).1 (zb3 hd).2.1⟩
theorem zeg (i:Nat) {scope:Scope} {cl:List (Str × Addr)} {N:List Str} {Cc:Addr} {s3:Shared} {H3:Hp} {fp:List Addr} {pins:List (Addr × Obj)} (hN:N[i]? = some x) (h:scope.names.lookup x = some .free) (hd:okN x = true):JE (X.blk scope cl N Cc s3 H3 fp pins) cA sub calm F EX (.Name x pos) (.v i):=
 ⟨znt i hN (.inr (zbq h)) (zb3 hd).1 (zb3 hd).2.1⟩
theorem zad {i j p}:JE X cA sub calm F EX (.Constant (.int i) j p) (.c (.int i)):=⟨zk8⟩
theorem zeO {i j p}:JE X cA sub calm F EX (.Constant (.bool i) j p) (.c (.bl i)):=⟨zmK⟩
theorem zgL {j p}:JE X cA sub calm F EX (.Constant .none j p) (.c .non):=⟨zlv⟩
theorem zhG {i j p}:JE X cA sub calm F EX (.Constant (.str i) j p) (.c (.str i)):=⟨zk9⟩
theorem znu {i:Int} (h:∃ t,X.mg x = some (.int i t)) (hg:JK X x .globalImplicit) (hd:okN x = true):JE X cA sub calm F EX (.Name x pos) (.c (.int i)):=by
 obtain ⟨t,h⟩:=h
 exact ⟨zjE hg.o h (zb3 hd).1⟩
theorem za6:JQ X cA .Add .add:=⟨_,zgy,zli⟩
theorem zhC:JQ X cA .Sub .sub:=⟨_,zk7,zlm⟩
theorem zih:JQ X cA .Mult .mul:=⟨_,zlU,zlG⟩
theorem zmh:JQ X cA .FloorDiv .fdiv:=⟨_,zjH,zjx⟩
theorem zgp:JQ X cA .Mod .mod:=⟨_,zmm,zlc⟩
theorem zjw:JQ X cA .Pow .pow:=⟨_,zks,zmk⟩
theorem zay {op:Operator} (h:JQ X cA op q) (ha:JE X cA sub calm F EX a A) (hb:JE X cA sub calm F EX b B):JE X cA sub calm F EX (.BinOp a op b pos) (.pr fz q (.cons A (.cons B .nil))):=by
 obtain ⟨r,h1,h2⟩:=h.o
 exact ⟨zkM h1 h2 ha.o hb.o⟩
theorem zcH (ha:JE X cA sub calm F EX a A):JE X cA sub calm F EX (.UnaryOp .USub a pos) (.pr true .neg (.cons A .nil)):=⟨znd zmc zly ha.o⟩
theorem zmn (ha:JE X cA sub calm F EX a A):JE X cA sub calm F EX (.UnaryOp .Not a pos) (.not A):=⟨zl6 ha.o⟩
theorem zeZ {op} (ha:JE X cA sub calm F EX a A):JE X cA sub calm F EX (.BoolOp op [a] pos) A:=⟨zmb ha.o⟩
theorem zev {rest:List Expr} (ha:JE X cA sub calm F EX a A) (hb:JE X cA sub calm F EX (.BoolOp .And (b::rest) pos) B):JE X cA sub calm F EX (.BoolOp .And (a::b::rest) pos) (.and A B):=⟨zkV ha.o hb.o⟩
theorem zi4 {k:Nat} (hr:Room k X.A):JP X cA .Eq .eq:=⟨_,zkw (hu60 hr),zmJ⟩
theorem zkq {k:Nat} (hr:Room k X.A):JP X cA .NotEq .ne:=⟨_,zlg (hu60 hr),zmv⟩
theorem zmp {k:Nat} (hr:Room k X.A):JP X cA .Lt .lt:=⟨_,op_lt.or (zlL (by have:=hu60 hr; omega)),zm2⟩
theorem zmO:JP X cA .LtE .le:=⟨_,zmL,zna⟩
theorem zmC:JP X cA .GtE .ge:=⟨_,zmx,zmY⟩
theorem znz {k:Nat} (hr:Room k X.A):JP X cA .In .inn:=⟨_,zl4 (hu60 hr),zmH⟩
noncomputable def noSet:Expr->Bool
 | .Set _ _ _=>false
 | _=>true
theorem nomk {op:CmpOp} {b:Expr} (h:noSet b = true):behindInMarks op b = false:=by cases b <;> first | rfl | cases h
theorem zdq {op:CmpOp} (ho:JP X cA op q) (ha:JE X cA sub calm F EX a A) (hb:JE X cA sub calm F EX b B) (h1:noSet b = true:=by rfl):JE X cA sub calm F EX (.Compare a [op] [b] pos) (.pr true q (.cons A (.cons B .nil))):=by
 obtain ⟨r,h2,h3⟩:=ho.o
 exact ⟨zk6 h2 h3 ha.o hb.o (nomk h1)⟩
theorem zbT {op:CmpOp} (ho:JP X cA op q) (ha:JE X cA sub calm F EX a A) (hb:JE X cA sub calm F EX b B) (h1:noSet b = true:=by rfl):JT X cA sub calm F EX (.Compare a [op] [b] pos) (.pr true q (.cons A (.cons B .nil))):=by
 obtain ⟨r,h2,h3⟩:=ho.o
 exact ⟨zkR h2 h3 ha.o hb.o (nomk h1)⟩
theorem zmS {op op':CmpOp} (h1:JP X cA op q1) (h2:JP X cA op' q2) (ha:JE X cA sub calm F EX a A) (hb:JE X cA sub calm F EX b B) (hc:JE X cA sub calm F EX c C) (hm:noSet c = true:=by rfl):JE X cA sub calm F EX (.Compare a [op,op'] [b,c] pos) (.ch2 q1 q2 A B C):=by
 obtain ⟨r,h3,h4⟩:=h1.o
 obtain ⟨r',h5,h6⟩:=h2.o
 exact ⟨zkC h3 h4 h5 h6 ha.o hb.o hc.o (nomk hm)⟩
noncomputable def byVal:Expr->Bool
 | .Call _ _ _ _=>true
 | .Name _ _=>true
 | .Subscript _ _ _=>true
 | .Attribute _ _ _=>true
 | _=>false
theorem zb7 (ha:JE X cA sub calm F EX a A) (he:byVal a = true:=by rfl):JT X cA sub calm F EX a A:=⟨zkO ha.o (by cases a <;> first | (intro _; rfl) | cases he)⟩
theorem zcc (ha:JT X cA sub calm F EX a A):JT X cA sub calm F EX (.UnaryOp .Not a pos) (.not A):=⟨zlt ha.o⟩
theorem zk3 (ha:JT X cA sub calm F EX a A):JW X cA sub calm F EX (.BoolOp .And [a] pos) A:=⟨zjz ha.o⟩
theorem ziD (ha:JT X cA sub calm F EX a A):JW X cA sub calm F EX (.BoolOp .Or [a] pos) A:=⟨zk4 ha.o⟩
theorem zms {rest:List Expr} (ha:JT X cA sub calm F EX a A) (hb:JW X cA sub calm F EX (.BoolOp .And (b::rest) pos) B):JW X cA sub calm F EX (.BoolOp .And (a::b::rest) pos) (.and A B):=⟨zml ha.o hb.o⟩
theorem zlW {rest:List Expr} (ha:JT X cA sub calm F EX a A) (hb:JW X cA sub calm F EX (.BoolOp .Or (b::rest) pos) B):JW X cA sub calm F EX (.BoolOp .Or (a::b::rest) pos) (.or A B):=⟨zmA ha.o hb.o⟩
theorem t_w (h:JW X cA sub calm F EX a A):JT X cA sub calm F EX a A:=⟨znG h.o⟩
theorem zaf:JA X cA sub calm F EX [] .nil:=⟨zkJ⟩
theorem zaa (ha:JE X cA sub calm F EX a A) (hr:JA X cA sub calm F EX es Xs) (hs:plainE a = true:=by rfl):JA X cA sub calm F EX (a::es) (.cons A Xs):=⟨zjy ha.o hr.o (star1 hs)⟩
theorem zaR {k} (ha:JA X cA sub calm F EX es Xs) (hz:decide (Es.len Xs<=sizeLine) = true:=by rfl):JE X cA sub calm F EX (.Tuple es k pos) (.tup Xs):=⟨zl8 ha.o (of_decide_eq_true hz)⟩
theorem za4 (ha:JA X cA sub calm F EX es Xs) (hz:decide (Es.len Xs<=sizeLine) = true:=by rfl):JE X cA sub calm F EX (.List es pos) (.lst fz Xs):=⟨zlf ha.o (of_decide_eq_true hz)⟩
theorem zkU {j p1 j2 p3} {k:Str} {i:Int}:JE X cA sub calm F EX (.Dict [some (.Constant (.str k) j p1)] [.Constant (.int i) j2 p3] pos) (.dct1 k i):=⟨zi7⟩
noncomputable def notSlice:Expr->Bool
 | .Constant _ _ _=>true
 | .Name _ _=>true
 | .Call _ _ _ _=>true
 | .BinOp _ _ _ _=>true
 | .UnaryOp _ _ _=>true
 | .Subscript _ _ _=>true
 | .IfExp _ _ _ _=>true
 | .Attribute _ _ _=>true
 | .Compare _ _ _ _=>true
 | .BoolOp _ _ _=>true
 | _=>false
theorem zbx (ha:JE X cA sub calm F EX a A) (hb:JE X cA sub calm F EX b B) (hs:notSlice b = true:=by rfl):JE X cA sub calm F EX (.Subscript a b pos) (.pr true .ix (.cons A (.cons B .nil))):=⟨zmy zmV ha.o hb.o (by cases b <;> first | (intro _ _; rfl) | cases hs)⟩
theorem zkr:JO X cA sub calm F EX none .no:=⟨zmG⟩
theorem zep (ha:JE X cA sub calm F EX a A):JO X cA sub calm F EX (some a) (.yes A):=⟨zlk ha.o⟩
theorem zjS {lo hi:Option Expr} {Lo Hi:Eo} (ha:JE X cA sub calm F EX a A) (hl:JO X cA sub calm F EX lo Lo) (hh:JO X cA sub calm F EX hi Hi):JE X cA sub calm F EX (.Subscript a (.Slice lo hi none p2) pos) (.sl fz A Lo Hi):=⟨zm1 ha.o hl.o hh.o⟩
theorem zam (f:Nat) {cm:Bool} {k:Nat} {fa:Addr} {fd:FuncData} {ps:List Str} (Fo:FnOk X.prog X.w X.K X.mg X.base (CXe X.prog X.w) cm k fa fd ps (spF X.K cA (F f))) (hcm:cm = true->X.calm = true) (hr:Room k X.A) (hm:X.mg x = some (.ref fa)) (hk:PySem.W.keepIn X.K (.ref fa) = true) (hb:Binds X.K fd ps []) (R:JR X EX) (hg:JK X x .globalImplicit)
  (ha:JA X cA sub calm F EX (e::es) Xs) (hd:okN x = true) (he:plainE e = true:=by rfl) (hpl:es.all plainE = true:=by rfl) :
  JE X cA sub calm F EX (.Call (.Name x p) (e::es) [] pos) (.call f Xs):=⟨zjK Fo hcm hr hg.o hm hk hb R.o ha.o (zb3 hd).1 (star1 he) (starAny hpl)⟩
theorem ziM {T:String} {kd:Kd} (hv:kdC cA kd = .ty T) (hm:X.mg x = none) (hb:bootBuiltins x = some (.type T)) (hg:JK X x .globalImplicit) (hd:okN x = true):JN X cA (.Name x pos) kd:=⟨fun pins s σ H Q I h=>by
 rw [hv] at h
 exact zdf I hg.o hm hb ⟨.ty T,H,I,rfl,h⟩ (zb3 hd).2.2 (zb3 hd).1⟩
theorem zeb {kd:Kd} {kx:Expr} (Cs:Clss X.K cA sub) (hm:X.mg "isinstance" = none) (hg:JK X "isinstance" .globalImplicit) (ha:JE X cA sub calm F EX a A) (hk:JN X cA kx kd) (h1:plainE a = true:=by rfl) (h2:plainE kx = true:=by rfl):JE X cA sub calm F EX (.Call (.Name "isinstance" p) [a,kx] [] pos) (.isi A kd):=
 ⟨zmj (fun _=>Cs) hg.o hm ha.o hk.o (star1 h1) (star1 h2) (starAny (by rw [List.all_cons,h2]; rfl))⟩
theorem zf3 (hm:X.mg "len" = none) (hg:JK X "len" .globalImplicit) (ha:JA X cA sub calm F EX (e::es) Xs) (he:plainE e = true:=by rfl) (hpl:es.all plainE = true:=by rfl):JE X cA sub calm F EX (.Call (.Name "len" p) (e::es) [] pos) (.pr fz .len Xs):=⟨zcP zd3 zmg hg.o hm PySem.boot_len ha.o (by decide) (by decide) (star1 he) (starAny hpl)⟩
theorem zlQ (hc:X.calm = true) (hm:X.mg "max" = none) (hg:JK X "max" .globalImplicit) (ha:JA X cA sub calm F EX (e::es) Xs) (he:plainE e = true:=by rfl) (hpl:es.all plainE = true:=by rfl):JE X cA sub calm F EX (.Call (.Name "max" p) (e::es) [] pos) (.pr fz .max2 Xs):=⟨zcP (zhs hc) zko hg.o hm PyProof.Rows.boot_max ha.o (by decide) (by decide) (star1 he) (starAny hpl)⟩
theorem zmo (hm:X.mg "int" = none) (hg:JK X "int" .globalImplicit) (ha:JA X cA sub calm F EX (e::es) Xs) (he:plainE e = true:=by rfl) (hpl:es.all plainE = true:=by rfl):JE X cA sub calm F EX (.Call (.Name "int" p) (e::es) [] pos) (.pr fz .int1 Xs):=⟨zhd zhg zkn hg.o hm PyProof.Rows.boot_int ha.o (by decide) (by decide) (star1 he) (starAny hpl)⟩
theorem zh4 (hm:X.mg "divmod" = none) (hg:JK X "divmod" .globalImplicit) (ha:JA X cA sub calm F EX (e::es) Xs) (he:plainE e = true:=by rfl) (hpl:es.all plainE = true:=by rfl):JE X cA sub calm F EX (.Call (.Name "divmod" p) (e::es) [] pos) (.pr fz .divmod Xs):=⟨zcP zeN zgm hg.o hm PyProof.Rows.boot_divmod ha.o (by decide) (by decide) (star1 he) (starAny hpl)⟩
theorem zgV (hc:X.calm = true) (hm:X.mg "all" = none) (hg:JK X "all" .globalImplicit) (ha:JA X cA sub calm F EX (e::es) Xs) (he:plainE e = true:=by rfl) (hpl:es.all plainE = true:=by rfl):JE X cA sub calm F EX (.Call (.Name "all" p) (e::es) [] pos) (.pr fz .all Xs):=⟨zcP (zga hc) zkY hg.o hm PyProof.Rows.boot_all ha.o (by decide) (by decide) (star1 he) (starAny hpl)⟩
theorem zkA (hm:X.mg "list" = none) (hg:JK X "list" .globalImplicit) (ha:JA X cA sub calm F EX (e::es) Xs) (he:plainE e = true:=by rfl) (hpl:es.all plainE = true:=by rfl):JE X cA sub calm F EX (.Call (.Name "list" p) (e::es) [] pos) (.pr fz .list Xs):=⟨zhd zef zjk hg.o hm zji ha.o (by decide) (by decide) (star1 he) (starAny hpl)⟩
theorem zdu (hm:X.mg "tuple" = none) (hg:JK X "tuple" .globalImplicit) (ha:JA X cA sub calm F EX (e::es) Xs) (he:plainE e = true:=by rfl) (hpl:es.all plainE = true:=by rfl):JE X cA sub calm F EX (.Call (.Name "tuple" p) (e::es) [] pos) (.pr fz .tuple Xs):=⟨zhd zdy ziE hg.o hm zcx ha.o (by decide) (by decide) (star1 he) (starAny hpl)⟩
theorem zlj (ho:JE X cA sub calm F EX a A) (hb:JE X cA sub calm F EX b B) (hbase:attributeBase a "append" X.env (eval a X.env) = eval a X.env:=by rfl) (hline:(apos.endLine == pos.line) = true:=by rfl) (hs:plainE b = true:=by rfl) :
  JE X cA sub calm F EX (.Call (.Attribute a "append" apos) [b] [] pos) (.push A B):=⟨zjn ho.o hb.o hbase (starFew hs rfl rfl) hline (star1 hs) rfl⟩
theorem zmZ (ho:JE X cA sub calm F EX a A) (hbase:attributeBase a "pop" X.env (eval a X.env) = eval a X.env:=by rfl) (hline:(apos.endLine == pos.line) = true:=by rfl) :
  JE X cA sub calm F EX (.Call (.Attribute a "pop" apos) [] [] pos) (.pop A):=⟨zmd ho.o hbase hline⟩
theorem zhw:JC X cA sub calm F EX [] .no:=⟨zlD⟩
theorem zjD {c:Expr} {C:E} (h:JT X cA sub calm F EX c C):JC X cA sub calm F EX [c] (.yes C):=⟨zjC h.o⟩
theorem zcM {tg:Expr} (ha:JE X cA sub calm F EX a A):JI X cA sub calm F EX tg a (.seq A):=⟨zlR ha.o⟩
theorem znf {tg:Expr} (hmg:X.mg "range" = none) (hgl:JK X "range" .globalImplicit) (ha:JE X cA sub calm F EX a A) (hb:JE X cA sub calm F EX b B) (h1:plainE a = true:=by rfl) (h2:plainE b = true:=by rfl):JI X cA sub calm F EX tg (.Call (.Name "range" p) [a,b] [] pos) (.rg A B):=⟨zmR hgl.o hmg ha.o hb.o (star1 h1) (star1 h2)⟩
theorem zhq {tg:Expr} (hmg:X.mg "range" = none) (hgl:JK X "range" .globalImplicit) (hb:JE X cA sub calm F EX b B) (h2:plainE b = true:=by rfl):JI X cA sub calm F EX tg (.Call (.Name "range" p) [b] [] pos) (.rg (.c (.int 0)) B):=⟨zlI hgl.o hmg hb.o (star1 h2)⟩
noncomputable def lcB (scope:Scope) (x:Str):Bool:=match scope.names.lookup x with
 | some .local=>true
 | some .cell=>true
 | _=>false
theorem zdb {scope:Scope} {cl:List (Str × Addr)} {N:List Str} {Cc:Addr} {s3:Shared} {H3:Hp} {fp:List Addr} {pins:List (Addr × Obj)} (h:lcB scope x = true):Loc (X.blk scope cl N Cc s3 H3 fp pins).env.scope x/\((X.blk scope cl N Cc s3 H3 fp pins).fn x = true\/(X.blk scope cl N Cc s3 H3 fp pins).env.scope.names.lookup x = some .local):=by
 unfold lcB at h
 split at h
 ·rename_i z
  exact ⟨.inl (lookup_relabel_local z),.inr (lookup_relabel_local z)⟩
 ·rename_i z
  exact ⟨.inr (zbi (by intro y; cases y) z),.inl (by show (scope.names.lookup x == some NameKind.cell) = true; rw [z]; rfl)⟩
 ·cases h
theorem zhy {scope:Scope} {cl:List (Str × Addr)} {N:List Str} {Cc:Addr} {s3:Shared} {H3:Hp} {fp:List Addr} {pins:List (Addr × Obj)} {tp:Pos} (i:Nat) (hnd:N.Nodup) (hi:N[i]? = some x) (hl:lcB scope x = true):JY (X.blk scope cl N Cc s3 H3 fp pins) (.Name x tp) (gName i):=
 ⟨zdM hnd hi (zdb hl).1 (zdb hl).2⟩
theorem zm6 {scope:Scope} {cl:List (Str × Addr)} {N:List Str} {Cc:Addr} {s3:Shared} {H3:Hp} {fp:List Addr} {pins:List (Addr × Obj)} {tp px py:Pos} {kt:Nat} (i j:Nat) (hc:X.calm = true) (hnd:N.Nodup) (hi:N[i]? = some x) (hj:N[j]? = some y) (hl:lcB scope x = true) (hl2:lcB scope y = true):JY (X.blk scope cl N Cc s3 H3 fp pins) (.Tuple [.Name x px,.Name y py] kt tp) (gTup X.K 2 (gCons (gName i) (gCons (gName j) gNil))):=
 ⟨zhb (X:=X.blk scope cl N Cc s3 H3 fp pins) hc hnd hi hj (zdb hl).1 (zdb hl2).1 (zdb hl).2 (zdb hl2).2⟩
theorem zit {scope:Scope} {XN:List Str} {M0 N:List Str} {fr:List Nat} (h:frB scope XN N fr = true):(M0 ++ N).length = M0.length + fr.length/\∀ (i:Nat) (y:Str) (j:Nat),(M0 ++ N)[M0.length + i]? = some y->fr[i]? = some j->scope.names.lookup y = some .free/\XN[j]? = some y:=by
 obtain ⟨l,q⟩:=ziY h
 refine ⟨by rw [List.length_append,l],fun i y j e1 e2=>q i y j ?_ e2⟩
 rw [List.getElem?_append_right (by omega)] at e1
 rw [show M0.length + i - M0.length = i by omega] at e1
 exact e1
theorem zbm {elt iter tg:Expr} {ifs:List Expr} {scope:Scope} {cond:Eo} {tgs:List Nat} {g:TG} {w:Wk} (sc:Scope) (XN M0 N:List Str) (fr:List Nat) (hc:X.calm = true) (hsc:X.env.scope = sc) (hXN:X.N = XN) (hB:blkB sc scope = true) (hf:frB scope XN N fr = true) (hT:TgOk X.K cA g tgs) (hin:tgs.all (fun i=>decide (i < M0.length)) = true)
  (hi:JI X cA sub calm F EX tg iter w) (hg:∀ cl C s3 H3 fp pins,JY (X.blk scope cl (M0 ++ N) C s3 H3 fp pins) tg g)
  (ht:∀ cl C s3 H3 fp pins,JC (X.blk scope cl (M0 ++ N) C s3 H3 fp pins) cA sub calm F (fun _ _ _ _=>False) ifs cond) (he:∀ cl C s3 H3 fp pins,JE (X.blk scope cl (M0 ++ N) C s3 H3 fp pins) cA sub calm F (fun _ _ _ _=>False) elt B)
  (hs:∀ x,foldedSetIterable iter X.env x = pure x:=by intro _; rfl):JE X cA sub calm F EX (.ListComp elt [⟨tg,iter,ifs,0⟩] scope pos) (.comp fz B tgs w fr M0.length cond):=
 ⟨zjT hc (BlkOk.of (hsc ▸ hB)) hi.o (zit (hXN ▸ hf)).1 (zit (hXN ▸ hf)).2 (fun a b c d e f=>(hg a b c d e f).o) hT (fun i hi=>of_decide_eq_true (List.all_eq_true.mp hin i hi)) (fun a b c d e f=>(ht a b c d e f).o) (fun a b c d e f=>(he a b c d e f).o) hs⟩
theorem zjO:JR X (fun _ _ _ _=>False):=⟨zhn⟩
theorem zaE {P:Program} {w:World} {K:PySem.W.Frag} {mg:Str->Option Value} {base:Heap} {N:List Str} {qual:Str} {scope:Scope} {f:Addr} {cd:Value} {A:Around} {outer:List Env} {s:Shared} {H:Hp} {E:XK} {cm:Bool} :
  JR (cxOf (CXe P w) P w K mg base N qual scope f cd A outer s H E cm) (fun _ C dx H'=>E C dx H'):=⟨zfQ⟩
theorem zeQ {CX:CXT} {P:Program} {w:World} {K:PySem.W.Frag} {mg:Str->Option Value} {base:Heap} {N:List Str} {qual:Str} {scope:Scope} {f:Addr} {cd:Value} {A:Around} {outer:List Env} {s:Shared} {H:Hp} {E:XK} {cm:Bool} :
  JH (cxOf CX P w K mg base N qual scope f cd A outer s H E cm):=⟨PassesOwn.leaving⟩
theorem zae {CX:CXT} {P:Program} {w:World} {K:PySem.W.Frag} {mg:Str->Option Value} {base:Heap} {N:List Str} {qual:Str} {scope:Scope} {f:Addr} {cd:Value} {A:Around} {outer:List Env} {s:Shared} {H:Hp} {E:XK} {cm:Bool} (h:scope.names.lookup x = some k) :
  JK (cxOf CX P w K mg base N qual scope f cd A outer s H E cm) x k:=⟨h⟩
end
section
variable {X:Cx} {cA:Cl} {sub:Nat->Nat->Bool} {calm:Bool} {F:Bool->Fn} {EX:XS} {a b c d e:Expr} {A B C:E} {pos p p2:Pos} {st:Stmt} {sts body orelse:List Stmt} {m:St} {ms mb me mh:Sts} {es:List Expr} {Xs:Es} {x y n:Str} {k k':NameKind}
theorem zdY (h:JK X x k) (hv:locK k = true):Loc X.env.scope x:=by cases k <;> first | exact .inl h.o | exact .inr h.o | cases hv
theorem zd7 (h:JK X x k) (hv:X.fn x = true\/k = .local):X.fn x = true\/X.env.scope.names.lookup x = some .local:=by
 rcases hv with hv | hv
 ·exact .inl hv
 ·subst hv; exact .inr h.o
theorem zak:JB X cA sub calm F EX [] .nil:=⟨zjd⟩
theorem zac (h1:JS X cA sub calm F EX st m) (h2:JB X cA sub calm F EX sts ms):JB X cA sub calm F EX (st::sts) (.cons m ms):=⟨zhU h1.o h2.o⟩
theorem zm0 (ha:JE X cA sub calm (F calm) EX a A) (hs:swapsWith a none pos.line X.env = pure false:=by rfl):JS X cA sub calm F EX (.Expr a pos) (.ex A):=⟨zm9 ha.o hs⟩
theorem zaD (ha:JE X cA sub calm (F calm) EX a A):JS X cA sub calm F EX (.Return (some a) pos) (.ret A):=⟨zl7 ha.o⟩
theorem zaV (i:Nat) (hN:X.N.Nodup) (hi:X.N[i]? = some x) (hx:JK X x k) (hl:locK k = true) (ha:JE X cA sub calm (F calm) EX a A) (hs:swapsWith a (some (.Name x p)) pos.line X.env = pure false:=by rfl) (hf:X.fn x = true\/k = .local:=by first | exact .inl rfl | exact .inr rfl):JS X cA sub calm F EX (.Assign [.Name x p] a pos) (.asg (.nm i) A):=
 ⟨zl1 hN hi (zdY hx hl) ha.o hs (zd7 hx hf)⟩
theorem zl5 {elt iter tg:Expr} {ifs:List Expr} {scope:Scope} {cond:Eo} {tgs:List Nat} {g:TG} {w:Wk} {fz:Bool} {py spos:Pos} (i:Nat) (sc:Scope) (XN M0 N:List Str) (fr:List Nat) (hN:X.N.Nodup) (hi':X.N[i]? = some y) (hx:JK X y k) (hl:locK k = true) (hc:X.calm = true) (hsc:X.env.scope = sc) (hXN:X.N = XN) (hB:blkB sc scope = true) (hf:frB scope XN N fr = true) (hT:TgOk X.K cA g tgs) (hin:tgs.all (fun i=>decide (i < M0.length)) = true)
  (hi:JI X cA sub calm (F calm) EX tg iter w) (hg:∀ cl C s3 H3 fp pins,JY (X.blk scope cl (M0 ++ N) C s3 H3 fp pins) tg g)
  (ht:∀ cl C s3 H3 fp pins,JC (X.blk scope cl (M0 ++ N) C s3 H3 fp pins) cA sub calm (F calm) (fun _ _ _ _=>False) ifs cond) (he:∀ cl C s3 H3 fp pins,JE (X.blk scope cl (M0 ++ N) C s3 H3 fp pins) cA sub calm (F calm) (fun _ _ _ _=>False) elt B)
  (hsw:swapsWith (.ListComp elt [⟨tg,iter,ifs,0⟩] scope pos) (some (.Name y py)) spos.line X.env = pure true:=by rfl) (hff:X.fn y = true\/k = .local:=by first | exact .inl rfl | exact .inr rfl) (hs:∀ x,foldedSetIterable iter X.env x = pure x:=by intro _; rfl) :
  JS X cA sub calm F EX (.Assign [.Name y py] (.ListComp elt [⟨tg,iter,ifs,0⟩] scope pos) spos) (.asg (.nm i) (.comp fz B tgs w fr M0.length cond)):=
 ⟨zjL hc hN hi' (zdY hx hl) (zd7 hx hff) (BlkOk.of (hsc ▸ hB)) hi.o (zit (hXN ▸ hf)).1 (zit (hXN ▸ hf)).2 (fun a b c d e f=>(hg a b c d e f).o) hT (fun i hi=>of_decide_eq_true (List.all_eq_true.mp hin i hi)) (fun a b c d e f=>(ht a b c d e f).o) (fun a b c d e f=>(he a b c d e f).o) hsw hs⟩
theorem zgI (i j:Nat) {k0} {px py pt:Pos} (hc:X.calm = true) (hcal:calm = true) (hN:X.N.Nodup) (hi:X.N[i]? = some x) (hj:X.N[j]? = some y) (hx:JK X x k) (hy:JK X y k') (hlx:locK k = true) (hly:locK k' = true) (ha:JE X cA sub calm (F calm) EX a A)
  (hfx:X.fn x = true\/k = .local:=by first | exact .inl rfl | exact .inr rfl) (hfy:X.fn y = true\/k' = .local:=by first | exact .inl rfl | exact .inr rfl)
  (hs:swapsWithSole [.Tuple [.Name x px,.Name y py] k0 pt] a pos.line X.env = pure false:=by rfl) (hw:swappedStores [.Tuple [.Name x px,.Name y py] k0 pt] a X.env = pure none:=by rfl) (h1:(assignEach [.Tuple [.Name x px,.Name y py] k0 pt] X.env).map (·.2) = [assign (.Tuple [.Name x px,.Name y py] k0 pt) X.env]:=by rfl) :
  JS X cA sub calm F EX (.Assign [.Tuple [.Name x px,.Name y py] k0 pt] a pos) (.asg (.tp [i,j]) A):=⟨zjW hc hcal hN hi hj (zdY hx hlx) (zdY hy hly) (zd7 hx hfx) (zd7 hy hfy) ha.o hs hw h1⟩
theorem zh8 {oo ii:Expr} {O I':E} (hO:JE X cA sub calm (F calm) EX oo O) (hI:JE X cA sub calm (F calm) EX ii I') (ha:JE X cA sub calm (F calm) EX a A)
  (hat:∀ v,assign (.Subscript oo ii p) X.env v = (do
   let obj <- holding [v] (eval oo X.env)
   let at_ <- holding [v,obj] (eval ii X.env)
   standAt p
   holding [v,obj,at_] (setItem obj at_ v)
   release [v,obj,at_] []):=by intro _; rfl) (hs:swapsWithSole [.Subscript oo ii p] a pos.line X.env = pure false:=by rfl) (hw:swappedStores [.Subscript oo ii p] a X.env = pure none:=by rfl)
  (h1:(assignEach [.Subscript oo ii p] X.env).map (·.2) = [assign (.Subscript oo ii p) X.env]:=by rfl):JS X cA sub calm F EX (.Assign [.Subscript oo ii p] a pos) (.asg (.sub O I') A):=⟨zkB hO.o hI.o ha.o hat hs hw h1⟩
theorem zd0 (hc:JT X cA sub calm (F calm) EX c C) (ht:JB X cA sub calm F EX body mb) (he:JB X cA sub calm F EX orelse me):JS X cA sub calm F EX (.If c body orelse pos) (.iff C mb me):=⟨zm3 hc.o ht.o he.o⟩
theorem zjr (hp:JH X) (hc:JT X cA sub calm (F calm) EX c C) (hb:JB X cA sub calm F EX body mb):JS X cA sub calm F EX (.While c body [] pos) (.wh C mb):=⟨ziC hp.o hc.o hb.o⟩
theorem zc8 (i:Nat) (hN:X.N.Nodup) (hi:X.N[i]? = some x) (hx:JK X x k) (hl:locK k = true) (hf:X.fn x = true\/k = .local:=by first | exact .inl rfl | exact .inr rfl):JG X cA sub calm F EX (.Name x pos) (.nm i):=⟨zjp hN hi (zdY hx hl) (zd7 hx hf)⟩
theorem zf2 {tg:Expr} {t:Tg} {w:Wk} (hp:JH X) (hc:X.calm = true) (hcal:calm = true) (ha:JI X cA sub calm (F calm) EX tg a w) (hg:JG X cA sub calm F EX tg t) (hb:JB X cA sub calm F EX body mb) (hs:∀ x,foldedSetIterable a X.env x = pure x:=by intro _; rfl):JS X cA sub calm F EX (.For tg a body [] pos) (.fr t w mb):=
 ⟨zkt hp.o hc hcal ha.o hg.o hb.o hs⟩
end
theorem zaC {P:Program} {w:World} {K:PySem.W.Frag} {mg:Str->Option Value} {base:Heap} {cA:Cl} {sub:Nat->Nat->Bool} {T:Nat->Option Df} {x qual:Str} {st:Stmt} {f:Addr} {fd:FuncData} {N ps:List Str} {k n:Nat} {cm:Bool} {df:Df} (F:Fun K x qual st f fd) (S:FnScope N ps (defScope st)) (hT:T n = some df) (hp:df.pars = ps.length) (hm:df.many = N.length)
  (hb:∀ (cdv:Value) (A:Around) (outer:List Env) (s:Shared) (H:Hp) (E:XK),Room k (A.deeper (envOfC qual (defScope st) s.heap.objs.size f cdv))->
   JB (cxOf (CXe P w) P w K mg base N qual (defScope st) f cdv A outer s H E cm) cA sub cm (fun c=>call sub T k c) (fun _ C dx H'=>E C dx H') (defBody st) df.body) :
  FnOk P w K mg base (CXe P w) cm (k + 1) f fd ps (spF K cA (call sub T (k + 1) cm n)):=zkG F S hT hp hm fun cdv A outer s H E hr=>(hb cdv A outer s H E hr).o
end Mi
set_option Elab.async false
set_option linter.all false
set_option maxRecDepth 100000
set_option maxHeartbeats 400000
namespace Mi
open PySem PySem.Spec PyProof.Rows L2 PySem.W
theorem zmi {fd:FuncData} {x:Str} {st:Stmt} (h:ers fd = fnE x st):fd = fnOf x x (defArgs st) (defBody st) (defScope st) .none fd.kwdefaults fd.doc fd.pyModule fd.annotations fd.code fd.closureTuple:=by
 cases fd
 unfold ers fnE at h
 cases h
 rfl
noncomputable def faOf (K:Frag) (x:Str):Addr:=match fAt K x with
 | some p=>p.1
 | none=>0
noncomputable def fdOf (K:Frag) (x:Str) (st:Stmt):FuncData:=match fAt K x with
 | some p=>p.2
 | none=>fnE x st
structure FnAt (K:Frag) (x:Str) (st:Stmt):Prop where
 ns:nsIn K mainGlobals x = some (some (.ref (faOf K x)))
 fn:Fun K x x st (faOf K x) (fdOf K x st)
theorem zmz {K:Frag} {x:Str} {st:Stmt} (h:(fAt K x).map (fun p=>ers p.2) = some (fnE x st)):FnAt K x st:=by
 cases e:fAt K x with
 | none=>rw [e] at h; cases h
 | some p=>
  rw [e] at h
  have hp:ers p.2 = fnE x st:=Option.some.inj h
  have h1:faOf K x = p.1:=by unfold faOf; rw [e]
  have h2:fdOf K x st = p.2:=by unfold fdOf; rw [e]
  unfold fAt at e
  split at e
  ·rename_i f hf
   split at e
   ·rename_i oc od fd sl hl
    split at e
    ·rename_i hc
     cases e
     rw [Bool.and_eq_true] at hc
     refine ⟨by rw [h1]; exact hf,?_⟩
     rw [h1,h2]
     exact ⟨⟨oc,od,_,_,_,_,_,_,sl,zmi hp,hl,hc.1⟩,hc.2⟩
    ·cases e
   ·cases e
  ·cases e
theorem FnAt.m {K:Frag} {x:Str} {st:Stmt} (F:FnAt K x st) {h:Heap} {mg:Str->Option Value} (X:K.In h) (G:h.Ns mainGlobals mg):mg x = some (.ref (faOf K x)):=mg_of X G F.ns
theorem zkI {K:Frag} {x:Str} (h:isCl K x = true) {hp:Heap} {mg:Str->Option Value} (X:K.In hp) (G:hp.Ns mainGlobals mg):mg x = some (.ref (clAt K x)):=by
 refine mg_of X G ?_
 unfold isCl at h
 unfold clAt
 split at h
 ·rename_i C e
  rw [e]
 ·cases h
theorem zls {K:Frag} {x:Str} {i:Int} (h:isIntG K (x,i) = true) {hp:Heap} {mg:Str->Option Value} (X:K.In hp) (G:hp.Ns mainGlobals mg):∃ t,mg x = some (.int i t):=by
 unfold isIntG at h
 split at h
 ·rename_i j t e
  rw [decide_eq_true_eq] at h
  subst h
  exact ⟨t,mg_of X G e⟩
 ·cases h
theorem zck {K:Frag} {x:Str} (h:isNoG K x = true) {hp:Heap} {mg:Str->Option Value} (X:K.In hp) (G:hp.Ns mainGlobals mg):mg x = none:=by
 refine mg_none_of X G ?_
 unfold isNoG at h
 split at h
 ·rename_i e; exact e
 ·cases h
structure GoodK (l:Lk) (K:Frag):Prop where
 cl:∀ x ∈ l.kcl,isCl K x = true
 cs:l.kcl.isEmpty = true\/clssB K (l.L K) = true
 ra:∀ k ∈ l.kra,excB K (cAof (l.L K) k) = true
 ca:∀ k ∈ l.kca,subB K (l.L K) k = true
 it:∀ p ∈ l.kin,isIntG K p = true
 no:∀ x ∈ l.kno,isNoG K x = true
theorem Lk.good_ok {l:Lk} {K:Frag} (h:l.good K = true):GoodK l K:=by
 unfold Lk.good at h
 simp only [Bool.and_eq_true,Bool.or_eq_true,List.all_eq_true] at h
 obtain ⟨⟨⟨⟨⟨h1,h2⟩,h3⟩,h4⟩,h5⟩,h6⟩:=h
 exact ⟨h1,h2,h3,h4,h5,h6⟩
theorem bindsF1 {K:Frag} {x:Str} {st:Stmt} {f:Addr} {fd:FuncData} {p:Str} (F:Fun K x x st f fd) (h:∀ (kV doc pm:Value) (an:Option Addr) (cdv ct a:Value),bindArgs (fnOf x x (defArgs st) (defBody st) (defScope st) .none kV doc pm an cdv ct) ⟨[a],[]⟩ = pure [(p,a)]):Binds K fd [p] []:=by
 obtain ⟨oc,od,kV,doc,pm,an,cdv,ct,osl,rfl,lk,hcd⟩:=F.ex
 exact binds1 (h kV doc pm an cdv ct)
theorem bindsF2 {K:Frag} {x:Str} {st:Stmt} {f:Addr} {fd:FuncData} {p q:Str} (F:Fun K x x st f fd) (h:∀ (kV doc pm:Value) (an:Option Addr) (cdv ct a b:Value),bindArgs (fnOf x x (defArgs st) (defBody st) (defScope st) .none kV doc pm an cdv ct) ⟨[a,b],[]⟩ = pure [(p,a),(q,b)]):Binds K fd [p,q] []:=by
 obtain ⟨oc,od,kV,doc,pm,an,cdv,ct,osl,rfl,lk,hcd⟩:=F.ex
 exact binds2 (h kV doc pm an cdv ct)
theorem bindsF3 {K:Frag} {x:Str} {st:Stmt} {f:Addr} {fd:FuncData} {p q t:Str} (F:Fun K x x st f fd) (h:∀ (kV doc pm:Value) (an:Option Addr) (cdv ct a b c:Value),bindArgs (fnOf x x (defArgs st) (defBody st) (defScope st) .none kV doc pm an cdv ct) ⟨[a,b,c],[]⟩ = pure [(p,a),(q,b),(t,c)]):Binds K fd [p,q,t] []:=by
 obtain ⟨oc,od,kV,doc,pm,an,cdv,ct,osl,rfl,lk,hcd⟩:=F.ex
 exact binds3 (h kV doc pm an cdv ct)
theorem bindsL {K:Frag} {x:Str} {st:Stmt} {f:Addr} {fd:FuncData} {p:Str} (F:Fun K x x st f fd) (h:∀ (kV doc pm:Value) (an:Option Addr) (cdv ct a:Value),bindArgs (fnOf x x (defArgs st) (defBody st) (defScope st) .none kV doc pm an cdv ct) ⟨[a],[]⟩ = pure [(p,a)]):∀ (s:Shared) (u:Value),BindsTo s fd ⟨[u],[]⟩ [(p,u)]:=by
 obtain ⟨oc,od,kV,doc,pm,an,cdv,ct,osl,rfl,lk,hcd⟩:=F.ex
 exact fun s u=>.of_eq (h kV doc pm an cdv ct u)
end Mi
set_option Elab.async false
set_option linter.all false
set_option maxRecDepth 100000
set_option maxHeartbeats 400000
namespace Mi
open PySem PySem.Spec PyProof.Rows L2
section
variable {K:PySem.W.Frag} {cA:Cl} {φ φ' φ'':Ph} {H H' H'':Hp} {s:S}
end
section
variable {X:Cx} {cA:Cl} {sub:Nat->Nat->Bool} {calm:Bool} {F:Fn} {EX:XS} {elt iter tg iter₂ tg₂:Expr} {A B:E} {pos p:Pos} {ifs:List Expr} {scope:Scope} {N:List Str} {cond:Eo} {fr tgs tgs₂:List Nat} {many:Nat} {fz:Bool} {w w₂:Wk}
end
section
variable {X:Cx} {cA:Cl} {sub:Nat->Nat->Bool} {calm:Bool} {F:Bool->Fn} {EX:XS} {elt iter tg iter₂ tg₂:Expr} {A B:E} {pos p:Pos} {ifs:List Expr} {scope:Scope} {N:List Str} {cond:Eo} {fr tgs tgs₂:List Nat} {many:Nat} {fz:Bool} {w w₂:Wk} {i:Nat} {y:Str}
end
section
variable {X:Cx} {cA:Cl} {sub:Nat->Nat->Bool} {calm:Bool} {F:Fn} {EX:XS} {elt iter tg iter₂ tg₂:Expr} {A B:E} {pos p:Pos} {ifs:List Expr} {scope:Scope} {N:List Str} {cond:Eo} {fr tgs tgs₂:List Nat} {many:Nat} {fz:Bool} {w w₂:Wk} {i:Nat} {y:Str}
end
end Mi
set_option Elab.async false
set_option linter.all false
set_option maxRecDepth 100000
set_option maxHeartbeats 400000
namespace Mi
open PySem PySem.Spec PyProof.Rows L2
section
variable {K:PySem.W.Frag} {cA:Cl} {φ:Ph} {H:Hp}
end
section
variable {X:Cx} {cA:Cl} {sub:Nat->Nat->Bool} {calm:Bool} {F:Fn} {EX:XS} {e:Expr} {pos p:Pos} {es:List Expr} {Xs:Es} {fz:Bool}
end
end Mi
set_option Elab.async false
set_option linter.all false
set_option maxRecDepth 100000
set_option maxHeartbeats 400000
namespace Mi
open PySem PySem.Spec PyProof.Rows L2
section
variable {K:PySem.W.Frag} {cA:Cl} {φ:Ph} {H:Hp}
end
section
variable {X:Cx} {cA:Cl} {sub:Nat->Nat->Bool} {calm:Bool} {F:Fn} {EX:XS} {a b:Expr} {A B:E} {pos pp tpos:Pos} {elts:List Expr} {kk:Nat}
end
section
variable {X:Cx} {cA:Cl} {sub:Nat->Nat->Bool} {calm:Bool} {F:Bool->Fn} {EX:XS} {e:Expr} {es:List Expr} {Xs:Es} {pos p:Pos} {x:Str}
theorem zgd {k cc:Nat} {ar:Arguments} {bd:List Stmt} {sc:Scope} {apos:Pos} (hr:Room k X.A) (hc:X.calm = true) (hcal:calm = true) (IO:InitOk X.K (cA.a cc) ar bd sc (cA.f cc)) (hl:Es.len Xs = (cA.f cc).length) (hg:Gl X x) (hm:X.mg x = some (.ref (cA.a cc)))
  (R:Raises X EX) (ha:SA X cA sub calm (F calm) EX (e::es) Xs) (hz:Es.len Xs<=sizeLine) (hdb:(x == ("__debug__" : Str)) = false:=by decide) (he:starEach (e::es) X.env = (false,eval e X.env)::starEach es X.env:=by rfl) (hpl:(backTo apos (starEach es X.env)).any (·.1) = false:=by rfl) :
  SS X cA sub calm F EX (.Raise (some (.Call (.Name x p) (e::es) [] apos)) none pos) (.rise cc true Xs):=PS.weak (zf6 hr hc IO hg hm R ha hdb he hpl) fun D σ H hh=>un hh fun φ τ s hL hS h=>by
 have h:RunS X.K cA (if calm = true then ofM (M.bd (evs sub calm (F calm) Xs τ) dats) τ (fun ds s=>some (.er cc (if true = true then ds else []) τ,s)) else fun _=>none) φ H s D EX:=h
 rw [if_pos hcal] at h
 refine useN hL hS (RunS.ofM hL hS.lz h) fun vs H1 φ1 xs s1 hl1 x1 hL1 hS1 rv h1=>?_
 have h1:Run X.K cA (M.bd (dats xs) M.ret) φ1 H1 s1 (fun a s1 φ1 H1=>Ext φ H φ1 H1/\RepS X.K cA φ1 H1 s1/\RunS X.K cA (fun s=>some (.er cc (if true = true then a else []) τ,s)) φ1 H1 s1 D EX) (eX X.K cA EX σ):=by
  unfold Run at h1 ⊢
  unfold M.bd
  cases e1:dats xs s1 with
  | none=>rw [e1] at h1; exact h1
  | some r=>
   obtain ⟨r,s2⟩:=r
   rw [e1] at h1
   cases r with
   | er c f=>exact h1
   | ok ds=>exact h1
 obtain ⟨ds,e1,rs,h2⟩:=zdG rv h1
 obtain ⟨_,_,h3⟩:=h2.pure_ hS1
 have hvl:vs.length = (cA.f cc).length:=by rw [<- rv.len,hl1]; exact hl
 refine ⟨hvl,by rw [<- rv.len,hl1]; exact hz,fun d hd=>?_⟩
 have g:Grow H1 (upd H1 d (.xd ((cA.f cc).zip vs))):=Grow.new hd
 exact h3 φ1 _ σ g.ext (hS1.grow g) (hL1.mono g.ext hS1.lz) (some d) (.inr ⟨d,vs,rfl,hS1.nz hd,zas,hvl.symm,rs.mono g.ext hS1.lz⟩)
theorem zhH {k cc:Nat} {kk:NameKind} {ar:Arguments} {bd:List Stmt} {sc:Scope} {apos:Pos} (hr:Room k X.A) (hc:X.calm = true) (hcal:calm = true) (IO:InitOk X.K (cA.a cc) ar bd sc (cA.f cc)) (hm:X.mg x = some (.ref (cA.a cc))) (hg:JK X x .globalImplicit)
  (R:JR X EX) (ha:JA X cA sub calm (F calm) EX (e::es) Xs) (hd:okN x = true) (hl:decide (Es.len Xs = (cA.f cc).length) = true:=by rfl) (hz:decide (Es.len Xs<=sizeLine) = true:=by rfl) (he:plainE e = true:=by rfl) (hpl:es.all plainE = true:=by rfl) :
  JS X cA sub calm F EX (.Raise (some (.Call (.Name x p) (e::es) [] apos)) none pos) (.rise cc true Xs):=⟨zgd hr hc hcal IO (of_decide_eq_true hl) hg.o hm R.o ha.o (of_decide_eq_true hz) (zb3 hd).1 (star1 he) (starAny hpl)⟩
end
section
variable {X:Cx} {cA:Cl} {sub:Nat->Nat->Bool} {calm:Bool} {F:Fn} {EX:XS} {a b:Expr} {A B:E} {pos p tpos:Pos} {elts:List Expr} {kk:Nat}
end
end Mi
set_option Elab.async false
set_option linter.all false
set_option maxRecDepth 100000
set_option maxHeartbeats 400000
namespace Mi
open PySem PySem.Spec PyProof.Rows L2 PySem.W
theorem zj9 {fd:FuncData} {q:Str} {st:Stmt} (h:ers fd = fnI q st):fd = fnOf "__init__" q (defArgs st) (defBody st) (defScope st) .none fd.kwdefaults fd.doc fd.pyModule fd.annotations fd.code fd.closureTuple:=by
 cases fd
 unfold ers fnI at h
 cases h
 rfl
structure InAt (K:Frag) (C:Addr) (q:Str) (st:Stmt):Prop where
 ex:∃ (fI:Addr) (od:Option Addr) (kV doc pm:Value) (an:Option Addr) (cdv ct:Value) (osl:Array (Option Value)) (cd:ClassData),
  K.lookup fI = some ⟨.type "function",od,.func (fnOf "__init__" q (defArgs st) (defBody st) (defScope st) .none kV doc pm an cdv ct),osl⟩/\codeIn K cdv q = true/\excInI K C fI = true/\clsIn K C = some cd/\passM cd.mro = true/\cd.hasDict = true
theorem zmr {K:Frag} {C:Addr} {q:Str} {st:Stmt} (h:(mAt K C).map ers = some (fnI q st)):InAt K C q st:=by
 cases e:mAt K C with
 | none=>rw [e] at h; cases h
 | some fd=>
  rw [e] at h
  have hp:ers fd = fnI q st:=Option.some.inj h
  unfold mAt at e
  split at e
  ·rename_i cd hcd
   split at e
   ·rename_i f hf
    split at e
    ·rename_i od fd' sl hl
     split at e
     ·rename_i hc
      cases e
      simp only [Bool.and_eq_true] at hc
      obtain ⟨⟨⟨c1,c2⟩,c3⟩,c4⟩:=hc
      have eq:=zj9 hp
      have qn:fd.qualname = q:=by rw [eq]
      refine ⟨⟨f,od,fd.kwdefaults,fd.doc,fd.pyModule,fd.annotations,fd.code,fd.closureTuple,sl,cd,?_,by rw [<- qn]; exact c1,c2,hcd,c3,c4⟩⟩
      rw [<- eq]
      exact hl
     ·cases e
    ·cases e
   ·cases e
  ·cases e
structure InTx (q:Str) (st:Stmt) (fs:List Str):Prop where
 bind:∀ (kV doc pm:Value) (an:Option Addr) (cdv ct:Value) (us:List Value),us.length = fs.length + 1->bindArgs (fnOf "__init__" q (defArgs st) (defBody st) (defScope st) .none kV doc pm an cdv ct) ⟨us,[]⟩ = pure (((("self" : Str))::fs).zip us)
 nd:(("self" : Str)::fs).Nodup
 ne:fs ≠ []
 few:fs.length<=900
 body:initB "self" (defBody st) fs = true
 nocell:∀ x ∈ (defScope st).names,x.2 ≠ .cell
 loc:∀ f ∈ (("self" : Str)::fs),(defScope st).names.lookup f = some .local/\(f == ("__debug__" : Str)) = false
 co:(defScope st).isCoroutine = false
 gen:(defScope st).isGenerator = false
 kind:(defScope st).kind = .function
noncomputable def scB (sc:Scope) (fs:List Str):Bool:=sc.names.all (fun x=>match x.2 with | .cell=>false | _=>true) && (("self" : Str)::fs).all (fun f=>(match sc.names.lookup f with | some .local=>true | _=>false) && !(f == ("__debug__" : Str)))
theorem InTx.of {q:Str} {st:Stmt} {fs:List Str} (bind:∀ (kV doc pm:Value) (an:Option Addr) (cdv ct:Value) (us:List Value),us.length = fs.length + 1->bindArgs (fnOf "__init__" q (defArgs st) (defBody st) (defScope st) .none kV doc pm an cdv ct) ⟨us,[]⟩ = pure (((("self" : Str))::fs).zip us)) (nd:(("self" : Str)::fs).Nodup) (ne:fs ≠ []) (few:fs.length<=900) (body:initB "self" (defBody st) fs = true)
  (sc:scB (defScope st) fs = true) (co:(defScope st).isCoroutine = false) (gen:(defScope st).isGenerator = false) (kind:(defScope st).kind = .function):InTx q st fs:=by
 unfold scB at sc
 rw [Bool.and_eq_true,List.all_eq_true,List.all_eq_true] at sc
 refine ⟨bind,nd,ne,few,body,fun x hx z=>?_,fun f hf=>?_,co,gen,kind⟩
 ·have:=sc.1 x hx
  rw [z] at this
  cases this
 ·have:=sc.2 f hf
  rw [Bool.and_eq_true,Bool.not_eq_true'] at this
  refine ⟨?_,this.2⟩
  have h1:=this.1
  split at h1
  ·assumption
  ·cases h1
theorem zkh {K:Frag} {C:Addr} {q:Str} {st:Stmt} {fs:List Str} (a:InAt K C q st) (t:InTx q st fs) (s:setB K C fs = true):InitOk K C (defArgs st) (defBody st) (defScope st) fs:=by
 obtain ⟨fI,od,kV,doc,pm,an,cdv,ct,osl,cd,h1,h2,h3,h4,h5,h6⟩:=a.ex
 unfold setB at s
 rw [Bool.and_eq_true,beq_iff_eq,List.all_eq_true] at s
 exact ⟨⟨fI,od,kV,doc,pm,an,cdv,ct,osl,q,cd,h1,h2,h3,h4,h5,h6,fun us hl=>t.bind kV doc pm an cdv ct us hl⟩,s.1,t.nd,t.ne,t.few,t.body,t.nocell,t.loc,fun f hf=>beq_iff_eq.mp (s.2 f hf),t.co,t.gen,t.kind⟩
theorem zm7 {K:Frag} {C:Addr} {f:Str} (h:xfB K C f = true):XF K C f:=by
 unfold xfB at h
 simp only [Bool.and_eq_true,beq_iff_eq] at h
 obtain ⟨⟨⟨⟨h1,h2⟩,h3⟩,h4⟩,h5⟩:=h
 exact ⟨h1,h2,h3,h4,h5⟩
structure SaysI (fs:List (Str × Stmt)) (ms:List Ini) (xs:List (Nat × Str)) (l:Lk) (K:Frag):Prop where
 fn:∀ p ∈ fs,FnAt K p.1 p.2
 gd:GoodK l K
 mi:∀ m ∈ ms,InAt K (cAof (l.L K) m.c) m.q m.st
 se:∀ m ∈ ms,setB K (cAof (l.L K) m.c) m.fs = true
 xf:∀ x ∈ xs,XF K (cAof (l.L K) x.1) x.2
theorem zeS {a:Nat} {o:Obj}:∀ {l:List Obj} {i:Nat},((a:Addr),o) ∈ goA i l->i<=a/\l[a - i]? = some o/\o.isFreed = false
 | [],i,h=>by cases h
 | p::r,i,h=>by
  unfold goA at h
  split at h
  ·obtain ⟨h1,h2,h3⟩:=zeS h
   refine ⟨by omega,?_,h3⟩
   rw [show a - i = (a - (i + 1)) + 1 by omega]
   exact h2
  ·rename_i hf
   rcases List.mem_cons.mp h with e | h
   ·cases e
    exact ⟨Nat.le_refl _,by simp,hf⟩
   ·obtain ⟨h1,h2,h3⟩:=zeS h
    refine ⟨by omega,?_,h3⟩
    rw [show a - i = (a - (i + 1)) + 1 by omega]
    exact h2
theorem zc7 {a:Addr} {o:Obj}:∀ {K:Frag},K.lookup a = some o->(a,o) ∈ K
 | [],h=>by cases h
 | (b,p)::r,h=>by
  rw [List.lookup_cons] at h
  by_cases e:a = b
  ·subst e
   simp only [beq_self_eq_true] at h
   cases h
   exact List.mem_cons_self
  ·rw [show (a == b) = false by simpa using e] at h
   exact List.mem_cons_of_mem _ (zc7 h)
theorem zhX {h:Heap}:(fragA h).In h:=fun a o e=>by
 have hm:=zc7 e
 unfold fragA at hm
 rcases List.mem_append.mp hm with z | z
 ·unfold fragL at z
  split at z
  ·rename_i p hp
   rcases List.mem_cons.mp z with e | z
   ·cases e; exact hp
   ·cases z
  ·cases z
 ·obtain ⟨_,h2,h3⟩:=zeS (List.mem_reverse.mp z)
  rw [Heap.get?_some_iff]
  refine ⟨?_,h3⟩
  have:h.objs.toList[a]? = some o:=by simpa using h2
  simpa using this
noncomputable def hookI (fs:List (Str × Stmt)) (ms:List Ini) (xs:List (Nat × Str)) (l:Lk):Hook where
 α:=List (Option FuncData) × List (Option FuncData) × Bool
 obs:=obsI fs ms xs l
 val:=valI fs ms
 says:=fun _ h=>∃ K:Frag,K.In h/\SaysI fs ms xs l K
 of:=fun w s e=>by
  have e3:(_ && _ && _) = true:=congrArg (fun x=>x.2.2) e
  rw [Bool.and_eq_true,Bool.and_eq_true,List.all_eq_true,List.all_eq_true] at e3
  refine ⟨fragA s.heap,zhX,⟨fun p hp=>?_,Lk.good_ok e3.1.1,fun m hm=>?_,e3.1.2,fun x hx=>zm7 (e3.2 x hx)⟩⟩
  ·have e1:=congrArg Prod.fst e
   exact zmz (List.map_inj_left.mp e1 p hp)
  ·have e1:=congrArg (fun x=>x.2.1) e
   exact zmr (List.map_inj_left.mp e1 m hm)
 keeps:=fun w h h' ⟨K,X,Y⟩ k=>⟨K,X.keeps k,Y⟩
theorem walkI {l:OpenLaw} {k:Nat} {q:Program} {loose:List Str} {XP:(Str->Option Value)->Heap->Prop} {fs:List (Str × Stmt)} {ms:List Ini} {xs:List (Nat × Str)} {lk:Lk} {d:DefRec} {x:Str} (hn:l.most = some 63) (hdf:d.params.defaults = []) (hr:Room k callerA)
  (F:∀ (w:World) (K:Frag) (mg:Str->Option Value) (fa:Addr) (h:Heap),SaysI fs ms xs lk K->K.In h->h.Ns mainGlobals mg->mg d.name = some (.ref fa)->
   ∃ fd:FuncData,(∀ (s:Shared) (u:Value),BindsTo s fd ⟨[u],[]⟩ [(x,u)])/\∀ base:Heap,K.In base->base.Ns mainGlobals mg->FnOk l.prog w K mg base (CXe l.prog w) true k fa fd [x] (spLaw K)) :
  WalkO q loose XP (hookI fs ms xs lk).says l.row.toRowW d [] (fun f vs=>PySem.call f vs):=by
 refine Att.attach_call hn hdf fun w s₀ s₁ mg mb fa o pm cd doc a vs ns G Y ho hd hcd hmg hobj hints hlen hg=>?_
 obtain ⟨K,KX,SY⟩:=Y
 obtain ⟨fd,hb,hF⟩:=F w K mg fa _ SY KX G.T.g hmg
 exact zig KX G.T.g G.T.b G.T.builtins G.T.nolimit hg hobj hints (Nat.le_trans hlen (by decide)) hr hF hb (fun H hO hS=>⟨a,ns,rfl,hS,hlen,hO,fun _=>rfl⟩) fun H e s' ⟨_,_,_,_,_,_,_,_,_,_,z⟩=>z
theorem bind1 {f:List Value->Sem (List (Str × Value))} {a b:Str} (h:∀ x y,f [x,y] = pure [(a,x),(b,y)]) (us:List Value) (hl:us.length = [b].length + 1):f us = pure ([a,b].zip us):=by
 match us,hl with
 | [x,y],_=>exact h x y
end Mi
set_option Elab.async false
set_option linter.all false
set_option maxRecDepth 100000
set_option maxHeartbeats 400000
namespace Mi
open PySem PySem.Spec PyProof.Rows L2
section
variable {K:PySem.W.Frag} {cA:Cl} {φ:Ph} {H:Hp}
noncomputable def RowAt (K:PySem.W.Frag) (φ:Ph) (H:Hp):Bool->Addr->List V->Prop
 | true,a,vs=>LstAt K φ H a vs
 | false,a,vs=>TupAt K φ H a vs
theorem RowAt.sk {kd:Bool} {a:Addr} {vs:List V} (h:RowAt K φ H kd a vs):Sk kd K H a vs:=by
 cases kd
 ·exact TupAt.sqT h
 ·exact LstAt.sqL h
theorem RowAt.later {kd:Bool} {a:Addr} {vs:List V} {φ':Ph} {H₁ H':Hp} (hz:∀ a ∈ φ.l,φ.z a) (h:RowAt K φ H kd a vs) (x:Ext φ H φ' H₁) (o:Outz φ' H₁ H'):RowAt K φ' H' kd a vs:=by
 cases kd
 ·exact TupAt.later hz h x o
 ·exact LstAt.later hz h x o
theorem zeU {xs ys:List D} {i:Nat}:(List.zipWith (fun p q=>D.tup [p,q]) xs ys)[i]? = match xs[i]?,ys[i]? with
  | some p,some q=>some (.tup [p,q])
  | _,_=>none:=by
 rw [List.getElem?_zipWith]
 cases xs[i]? <;> cases ys[i]? <;> rfl
theorem JOk.zip {k1 k2:Bool} {l1 l2:Addr} {xs ys:List D} {us vs:List V} (hz:∀ a ∈ φ.l,φ.z a) (h1:RowAt K φ H k1 l1 us) (h2:RowAt K φ H k2 l2 vs) (r1:Reps K cA φ H xs us) (r2:Reps K cA φ H ys vs):JOk K cA (.fix (List.zipWith (fun p q=>D.tup [p,q]) xs ys)) φ H (Itz K k1 k2 l1 l2):=by
 refine ⟨fun φ' H₁ H' s' i x o hS e=>?_,fun φ' H₁ H' s' i d x o hS e=>?_,fun φ' H₁ H' s' i d v H2 x o hS e y=>?_⟩
 ·have e:(List.zipWith (fun p q=>D.tup [p,q]) xs ys)[i]? = none:=Option.some.inj e
  rw [zeU] at e
  refine ⟨us,vs,(h1.later hz x o).sk,(h2.later hz x o).sk,?_⟩
  cases ex:xs[i]? with
  | none=>exact .inl (List.getElem?_eq_none_iff.mp (r1.none ex))
  | some p=>
   cases ey:ys[i]? with
   | none=>exact .inr (List.getElem?_eq_none_iff.mp (r2.none ey))
   | some q=>rw [ex,ey] at e; cases e
 ·have e:(List.zipWith (fun p q=>D.tup [p,q]) xs ys)[i]? = some d:=Option.some.inj e
  rw [zeU] at e
  cases ex:xs[i]? with
  | none=>rw [ex] at e; cases e
  | some p=>
   cases ey:ys[i]? with
   | none=>rw [ex,ey] at e; cases e
   | some q=>
    obtain ⟨u,q1,_⟩:=r1.get ex
    obtain ⟨v,q2,_⟩:=r2.get ey
    exact ⟨us,vs,u,v,(h1.later hz x o).sk,(h2.later hz x o).sk,q1,q2⟩
 ·have e:(List.zipWith (fun p q=>D.tup [p,q]) xs ys)[i]? = some d:=Option.some.inj e
  rw [zeU] at e
  cases ex:xs[i]? with
  | none=>rw [ex] at e; cases e
  | some p=>
   cases ey:ys[i]? with
   | none=>rw [ex,ey] at e; cases e
   | some q=>
    rw [ex,ey] at e
    cases e
    obtain ⟨a,u,w,hn,rfl,rfl,hu,hw⟩:=y
    obtain ⟨u',q1,ru⟩:=((r1.mono x hz).out o).get ex
    obtain ⟨w',q2,rw'⟩:=((r2.mono x hz).out o).get ey
    have e1:=hu us (h1.later hz x o).sk
    have e2:=hw vs (h2.later hz x o).sk
    rw [q1] at e1
    rw [q2] at e2
    cases e1
    cases e2
    have g:Grow H' (upd H' a (.tup [u,w])):=Grow.new hn
    exact ⟨g,.tup (.inl ⟨.inl zas,hS.nz hn⟩) (.cons (ru.mono g.ext hS.lz) (.cons (rw'.mono g.ext hS.lz) .nil))⟩
theorem ze9 {α:Type} {s:S} {x:Xv} {v:V} {k:List D->M α} {P:α->S->Ph->Hp->Prop} {Ee:Nat->List D->S->Ph->Hp->Prop} (r:RepX K cA φ H x v) (h:Run K cA (M.bd (seqD x) k) φ H s P Ee) :
  ∃ xs kd a vs,v = .ref a/\RowAt K φ H kd a vs/\Reps K cA φ H xs vs/\Run K cA (k xs) φ H s P Ee:=by
 cases r with
 | l _=>exact h.elim
 | d r=>
  cases r with
  | tup q r=>exact ⟨_,false,_,_,rfl,q,r,h⟩
  | fl q r=>exact ⟨_,true,_,_,rfl,q,r,h⟩
  | _=>exact h.elim
end
section
variable {X:Cx} {cA:Cl} {sub:Nat->Nat->Bool} {calm:Bool} {F:Fn} {EX:XS} {a b:Expr} {A B:E} {pos pp tpos:Pos} {elts:List Expr} {kk:Nat}
theorem zkX (hgl:Gl X "zip") (hmg:X.mg "zip" = none) (ha:SE X cA sub calm F EX a A) (hb:SE X cA sub calm F EX b B) (h1:starEach [a,b] X.env = (false,eval a X.env)::starEach [b] X.env) (h2:starEach [b] X.env = (false,eval b X.env)::starEach [] X.env) :
  SI X cA sub calm F EX (.Tuple elts kk tpos) (.Call (.Name "zip" pp) [a,b] [] pos) (.zip A B):=PI.weak (zku hgl hmg (zbk ha (zbk hb zdc h2) h1) (by rw [h1,h2]; rfl) (by rw [h2]; rfl)) fun σ H R hh=>un hh fun φ τ s hL hS h=>by
 refine useE hL hS h fun x H1 φ1 d1 s1 x1 hL1 hS1 r1 h1=>useE hL1 hS1 h1 fun y H2 φ2 d2 s2 x2 hL2 hS2 r2 h2=>?_
 obtain ⟨xs,k1,l1,us,e1,q1,p1,h3⟩:=ze9 (r1.mono x2 hS1.lz) h2
 obtain ⟨ys,k2,l2,vs,e2,q2,p2,h4⟩:=ze9 r2 h3
 subst e1 e2
 exact ⟨k1,k2,l1,l2,us,vs,rfl,q1.sk,q2.sk,(h4.pure_ hS2) _ (JOk.zip hS2.lz q1 q2 p1 p2)⟩
theorem zmw (hmg:X.mg "zip" = none) (hgl:JK X "zip" .globalImplicit) (ha:JE X cA sub calm F EX a A) (hb:JE X cA sub calm F EX b B) (h1:plainE a = true:=by rfl) (h2:plainE b = true:=by rfl):JI X cA sub calm F EX (.Tuple elts kk tpos) (.Call (.Name "zip" p) [a,b] [] pos) (.zip A B):=⟨zkX hgl.o hmg ha.o hb.o (star1 h1) (star1 h2)⟩
end
end Mi
set_option Elab.async false
set_option linter.all false
set_option maxRecDepth 100000
set_option maxHeartbeats 400000
namespace Mi
open PySem PySem.Spec PyProof.Rows L2
theorem zgj {bt:Int->Int->Bool} {i:Int} {is:List Int}:∀ k,k<=is.length->(i::is).getD (argBest (fun a b=>bt ((i::is).getD a 0) ((i::is).getD b 0)) k) 0 = best bt i (is.take k)
 | 0,_=>rfl
 | k + 1,hk=>by
  have ih:=zgj (bt:=bt) (i:=i) (is:=is) k (by omega)
  have hg:is[k]? = some (is[k]'(by omega)):=List.getElem?_eq_getElem (by omega)
  have ht:is.take (k + 1) = is.take k ++ [is[k]'(by omega)]:=List.take_succ_eq_append_getElem (by omega)
  have hv:(i::is).getD (k + 1) 0 = is[k]'(by omega):=by
   rw [List.getD_eq_getElem?_getD,List.getElem?_cons_succ,hg]
   rfl
  unfold best at ih ⊢
  rw [ht,List.foldl_append,List.foldl_cons,List.foldl_nil,<- ih]
  rw [argBest.eq_2]
  generalize argBest (fun a b=>bt ((i::is).getD a 0) ((i::is).getD b 0)) k = m
  rw [hv]
  by_cases hb:bt (is[k]'(by omega)) ((i::is).getD m 0) = true
  ·rw [if_pos hb,if_pos hb,hv]
  ·rw [if_neg hb,if_neg hb]
theorem zg6 {bt:Int->Int->Bool} {i:Int} {is:List Int}:(i::is).getD (argBest (fun a b=>bt ((i::is).getD a 0) ((i::is).getD b 0)) is.length) 0 = best bt i is:=by
 rw [zgj is.length (Nat.le_refl _),List.take_length]
section
variable {K:PySem.W.Frag} {cA:Cl} {φ:Ph} {H:Hp}
theorem zcA:∀ {xs:List D} {is:List Int} {vs:List V},allInt xs = some is->Reps K cA φ H xs vs->vs = is.map V.int
 | [],is,vs,h,r=>by cases h; cases r; rfl
 | d::xs,is,vs,h,r=>by
  cases d with
  | int b=>
   simp only [allInt,Option.map_eq_some_iff] at h
   obtain ⟨bs',h1,rfl⟩:=h
   cases r with
   | cons q r=>cases q; rw [zcA h1 r]; rfl
  | _=>simp [allInt] at h
theorem zgN {p:Pr} {bt:Int->Int->Bool} (hp:prim p = pBest bt):PrOk K cA p (fun xs H Q=>∃ (a:Addr) (i:Int) (is:List Int),xs = [.ref a]/\(SqL K H a ((i::is).map V.int)\/SqT K H a ((i::is).map V.int))/\Q (.int (best bt i is)) H):=by
 intro φ H ds vs Q zt rs o
 rw [hp] at o
 unfold pBest at o
 split at o
 ·rename_i a
  obtain ⟨v,rfl,rv⟩:=rs.one
  cases e0:sqOf a with
  | none=>rw [e0] at o; exact o.elim
  | some xs=>
   rw [e0] at o
   obtain ⟨ad,us,rfl,l,q⟩:=Rv.sq rv e0
   cases e1:allInt xs with
   | none=>
    simp only [Option.bind_some,e1,bestO] at o
    exact o.elim
   | some js=>
    cases js with
    | nil=>
     simp only [Option.bind_some,e1,bestO] at o
     exact o.elim
    | cons i is=>
     simp only [Option.bind_some,e1,bestO] at o
     exact ⟨ad,i,is,rfl,by rw [<- zcA e1 q]; exact l,(o.of rfl).here (.int _)⟩
 ·exact o.elim
end
section
variable {X:Cx}
theorem zcg {js:List Int} {its:List Value} (rv:Vals (js.map V.int) its) {i:Nat} {v:Value} (hP:its.toArray[i]? = some v):∃ t,v = .int (js.getD i 0) t:=by
 have hi:its[i]? = some v:=by simpa using hP
 have hlt:i < its.length:=(List.getElem?_eq_some_iff.mp hi).1
 have z:=rv.length
 rw [List.length_map] at z
 have hb:js[i]? = some (js[i]'(by omega)):=List.getElem?_eq_getElem (by omega)
 obtain ⟨u,e1,e2⟩:=rv.get (i:=i) (x:=V.int (js[i]'(by omega))) (by rw [List.getElem?_map,hb]; rfl)
 rw [hi] at e1
 cases e1
 obtain ⟨t,e⟩:=e2
 exact ⟨t,by rw [e,List.getD_eq_getElem?_getD,hb]; rfl⟩
theorem zha (hc:X.calm = true):CallR X (.builtin "max") (fun xs H Q=>∃ (a:Addr) (i:Int) (is:List Int),xs = [.ref a]/\(SqL X.K H a ((i::is).map V.int)\/SqT X.K H a ((i::is).map V.int))/\Q (.int (best (fun a b=>decide (a > b)) i is)) H):=by
 intro pins s σ H xs us Q I r ⟨p,i,is,e,hp,q⟩
 subst e
 obtain ⟨u,rfl,ru⟩:=Vals.one r
 cases (show u = Value.ref p from ru)
 have fin:∀ {its:List Value},Vals ((i::is).map V.int) its->∀ {v:Value} {h':Heap} {tk:Nat},its.toArray[argBest (fun a b=>decide ((i::is).getD a 0 > (i::is).getD b 0)) (its.toArray.size - 1)]? = some v->(∀ b o,s.heap.get? b = some o->h'.get? b = some o)->EP X pins σ Q v { s with heap:=h',toks:=tk }:=by
  intro its rv v h' tk hP hk
  have z:is.length + 1 = its.length:=by have:=rv.length; rw [List.length_map] at this; exact this
  have en:its.toArray.size - 1 = is.length:=by rw [List.size_toArray]; omega
  rw [en] at hP
  obtain ⟨t,ev⟩:=zcg rv hP
  rw [zg6 (bt:=fun a b=>decide (a > b))] at ev
  exact ⟨.int (best (fun a b=>decide (a > b)) i is),H,I.kept (h':=h') (t':=tk) hk,⟨t,ev⟩,q⟩
 rcases hp with hp | hp
 ·obtain ⟨its,rv,pl,hz⟩:=I.list hp
  have hl:s.heap.IsList p its.toArray:=pl.isList
  have hlt:p < s.heap.objs.size:=by
   obtain ⟨o,hg,_⟩:=hl
   exact Heap.lt_size hg
  have z:is.length + 1 = its.length:=by have:=rv.length; rw [List.length_map] at this; exact this
  refine call_max_walk (wpAny_pyIter_list hl ?_)
  refine ⟨_,_,_,_,_,_,_,rfl,Walks.list (A:=X.A.in1) (I.ok.hd hc) _ p (Nat.ne_of_lt hlt) its.toArray,⟨⟨_,Heap.get?_push_size _ rfl,rfl,rfl⟩,hl.push _⟩,?_,by rw [List.size_toArray]; omega,CmpOf.ints_gt (fun j=>(i::is).getD j 0) (fun _ _=>zcg rv),fun v h' tk hP hk=>fin rv hP (old_kept hk)⟩
  intro b hb
  show b < (s.heap.push _).objs.size
  rw [Heap.size_push]
  simp only [List.mem_cons,List.not_mem_nil,or_false] at hb
  rcases hb with e | e
  ·exact e ▸ Nat.lt_succ_self _
  ·exact e ▸ Nat.lt_succ_of_lt hlt
 ·obtain ⟨its,rv,pl,hz⟩:=I.tuple hp
  have hl:s.heap.IsTuple p its.toArray:=pl
  have hlt:p < s.heap.objs.size:=by
   obtain ⟨o,hg,_⟩:=hl
   exact Heap.lt_size hg
  have z:is.length + 1 = its.length:=by have:=rv.length; rw [List.length_map] at this; exact this
  refine call_max_walk (wpAny_pyIter_tuple hl ?_)
  refine ⟨_,_,_,_,_,_,_,rfl,Walks.tuple (A:=X.A.in1) (I.ok.hd hc) _ p (Nat.ne_of_lt hlt) its.toArray,⟨⟨_,Heap.get?_push_size _ rfl,rfl,rfl⟩,hl.push _⟩,?_,by rw [List.size_toArray]; omega,CmpOf.ints_gt (fun j=>(i::is).getD j 0) (fun _ _=>zcg rv),fun v h' tk hP hk=>fin rv hP (fun b o e=>hk b o (by simpa using Nat.ne_of_lt (Heap.lt_size e)) (Heap.get?_push_of_some _ e))⟩
  intro b hb
  show b < (s.heap.push _).objs.size
  rw [Heap.size_push]
  simp only [List.mem_cons,List.not_mem_nil,or_false] at hb
  rcases hb with e | e
  ·exact e ▸ Nat.lt_succ_self _
  ·exact e ▸ Nat.lt_succ_of_lt hlt
theorem zf7 (hc:X.calm = true):CallR X (.builtin "min") (fun xs H Q=>∃ (a:Addr) (i:Int) (is:List Int),xs = [.ref a]/\(SqL X.K H a ((i::is).map V.int)\/SqT X.K H a ((i::is).map V.int))/\Q (.int (best (fun a b=>decide (a < b)) i is)) H):=by
 intro pins s σ H xs us Q I r ⟨p,i,is,e,hp,q⟩
 subst e
 obtain ⟨u,rfl,ru⟩:=Vals.one r
 cases (show u = Value.ref p from ru)
 have fin:∀ {its:List Value},Vals ((i::is).map V.int) its->∀ {v:Value} {h':Heap} {tk:Nat},its.toArray[argBest (fun a b=>decide ((i::is).getD a 0 < (i::is).getD b 0)) (its.toArray.size - 1)]? = some v->(∀ b o,s.heap.get? b = some o->h'.get? b = some o)->EP X pins σ Q v { s with heap:=h',toks:=tk }:=by
  intro its rv v h' tk hP hk
  have z:is.length + 1 = its.length:=by have:=rv.length; rw [List.length_map] at this; exact this
  have en:its.toArray.size - 1 = is.length:=by rw [List.size_toArray]; omega
  rw [en] at hP
  obtain ⟨t,ev⟩:=zcg rv hP
  rw [zg6 (bt:=fun a b=>decide (a < b))] at ev
  exact ⟨.int (best (fun a b=>decide (a < b)) i is),H,I.kept (h':=h') (t':=tk) hk,⟨t,ev⟩,q⟩
 rcases hp with hp | hp
 ·obtain ⟨its,rv,pl,hz⟩:=I.list hp
  have hl:s.heap.IsList p its.toArray:=pl.isList
  have hlt:p < s.heap.objs.size:=by
   obtain ⟨o,hg,_⟩:=hl
   exact Heap.lt_size hg
  have z:is.length + 1 = its.length:=by have:=rv.length; rw [List.length_map] at this; exact this
  refine call_min_walk (wpAny_pyIter_list hl ?_)
  refine ⟨_,_,_,_,_,_,_,rfl,Walks.list (A:=X.A.in1) (I.ok.hd hc) _ p (Nat.ne_of_lt hlt) its.toArray,⟨⟨_,Heap.get?_push_size _ rfl,rfl,rfl⟩,hl.push _⟩,?_,by rw [List.size_toArray]; omega,CmpOf.ints_lt (fun j=>(i::is).getD j 0) (fun _ _=>zcg rv),fun v h' tk hP hk=>fin rv hP (old_kept hk)⟩
  intro b hb
  show b < (s.heap.push _).objs.size
  rw [Heap.size_push]
  simp only [List.mem_cons,List.not_mem_nil,or_false] at hb
  rcases hb with e | e
  ·exact e ▸ Nat.lt_succ_self _
  ·exact e ▸ Nat.lt_succ_of_lt hlt
 ·obtain ⟨its,rv,pl,hz⟩:=I.tuple hp
  have hl:s.heap.IsTuple p its.toArray:=pl
  have hlt:p < s.heap.objs.size:=by
   obtain ⟨o,hg,_⟩:=hl
   exact Heap.lt_size hg
  have z:is.length + 1 = its.length:=by have:=rv.length; rw [List.length_map] at this; exact this
  refine call_min_walk (wpAny_pyIter_tuple hl ?_)
  refine ⟨_,_,_,_,_,_,_,rfl,Walks.tuple (A:=X.A.in1) (I.ok.hd hc) _ p (Nat.ne_of_lt hlt) its.toArray,⟨⟨_,Heap.get?_push_size _ rfl,rfl,rfl⟩,hl.push _⟩,?_,by rw [List.size_toArray]; omega,CmpOf.ints_lt (fun j=>(i::is).getD j 0) (fun _ _=>zcg rv),fun v h' tk hP hk=>fin rv hP (fun b o e=>hk b o (by simpa using Nat.ne_of_lt (Heap.lt_size e)) (Heap.get?_push_of_some _ e))⟩
  intro b hb
  show b < (s.heap.push _).objs.size
  rw [Heap.size_push]
  simp only [List.mem_cons,List.not_mem_nil,or_false] at hb
  rcases hb with e | e
  ·exact e ▸ Nat.lt_succ_self _
  ·exact e ▸ Nat.lt_succ_of_lt hlt
end
section
variable {X:Cx} {cA:Cl} {sub:Nat->Nat->Bool} {calm:Bool} {F:Fn} {EX:XS} {e:Expr} {pos p:Pos} {es:List Expr} {Xs:Es} {fz:Bool}
theorem zlY (hc:X.calm = true) (hm:X.mg "max" = none) (hg:JK X "max" .globalImplicit) (ha:JA X cA sub calm F EX (e::es) Xs) (he:plainE e = true:=by rfl) (hpl:es.all plainE = true:=by rfl):JE X cA sub calm F EX (.Call (.Name "max" p) (e::es) [] pos) (.pr fz .maxL Xs):=⟨zcP (zha hc) (zgN rfl) hg.o hm PyProof.Rows.boot_max ha.o (by decide) (by decide) (star1 he) (starAny hpl)⟩
theorem zlo (hc:X.calm = true) (hm:X.mg "min" = none) (hg:JK X "min" .globalImplicit) (ha:JA X cA sub calm F EX (e::es) Xs) (he:plainE e = true:=by rfl) (hpl:es.all plainE = true:=by rfl):JE X cA sub calm F EX (.Call (.Name "min" p) (e::es) [] pos) (.pr fz .minL Xs):=⟨zcP (zf7 hc) (zgN rfl) hg.o hm PyProof.Rows.boot_min ha.o (by decide) (by decide) (star1 he) (starAny hpl)⟩
end
end Mi
set_option Elab.async false
set_option linter.all false
set_option maxRecDepth 100000
set_option maxHeartbeats 400000
namespace Mi
open PySem PySem.Spec PyProof.Rows L2
section
variable {X:Cx}
end
section
variable {K:PySem.W.Frag} {cA:Cl} {φ:Ph} {H:Hp}
end
section
variable {X:Cx} {cA:Cl} {sub:Nat->Nat->Bool} {calm:Bool} {F:Fn} {EX:XS} {e:Expr} {pos pos' p p':Pos} {es:List Expr} {Xs:Es} {fz:Bool}
end
end Mi
set_option Elab.async false
set_option linter.all false
set_option maxRecDepth 100000
set_option maxHeartbeats 400000
namespace Mi
open PySem PySem.Spec PyProof.Rows L2 PySem.W
structure D3 (K:Frag) (mg:Str->Option Value) (x:Str) (st:Stmt) (ps:List Str):Prop where
 f:Fun K x x st (faOf K x) (fdOf K x st)
 m:mg x = some (.ref (faOf K x))
 b:Binds K (fdOf K x st) ps []
theorem dk {p:Prop} (h:p:=by decide +kernel):p:=h
section
variable {fs:List (Str × Stmt)} {ms:List Ini} {xs:List (Nat × Str)} {lk:Lk} {K:Frag} {h:Heap} {mg:Str->Option Value} {x:Str} {st:Stmt}
theorem zhx {p:Str} (S:SaysI fs ms xs lk K) (X:K.In h) (G:h.Ns mainGlobals mg) (j:Nat) (hj:fs[j]? = some (x,st):=by rfl) (hb:∀ (kV doc pm:Value) (an:Option Addr) (cdv ct a:Value),bindArgs (fnOf x x (defArgs st) (defBody st) (defScope st) .none kV doc pm an cdv ct) ⟨[a],[]⟩ = pure [(p,a)]:=by intros; rfl):D3 K mg x st [p]:=have F:=S.fn (x,st) (List.mem_of_getElem? hj); ⟨F.fn,F.m X G,bindsF1 F.fn hb⟩
theorem zhz {p q:Str} (S:SaysI fs ms xs lk K) (X:K.In h) (G:h.Ns mainGlobals mg) (j:Nat) (hj:fs[j]? = some (x,st):=by rfl) (hb:∀ (kV doc pm:Value) (an:Option Addr) (cdv ct a b:Value),bindArgs (fnOf x x (defArgs st) (defBody st) (defScope st) .none kV doc pm an cdv ct) ⟨[a,b],[]⟩ = pure [(p,a),(q,b)]:=by intros; rfl):D3 K mg x st [p,q]:=have F:=S.fn (x,st) (List.mem_of_getElem? hj); ⟨F.fn,F.m X G,bindsF2 F.fn hb⟩
theorem znl {p q t:Str} (S:SaysI fs ms xs lk K) (X:K.In h) (G:h.Ns mainGlobals mg) (j:Nat) (hj:fs[j]? = some (x,st):=by rfl) (hb:∀ (kV doc pm:Value) (an:Option Addr) (cdv ct a b c:Value),bindArgs (fnOf x x (defArgs st) (defBody st) (defScope st) .none kV doc pm an cdv ct) ⟨[a,b,c],[]⟩ = pure [(p,a),(q,b),(t,c)]:=by intros; rfl):D3 K mg x st [p,q,t]:=have F:=S.fn (x,st) (List.mem_of_getElem? hj); ⟨F.fn,F.m X G,bindsF3 F.fn hb⟩
theorem mG {α:Type} {l:List α} {a:α} (j:Nat) (h:l[j]? = some a:=by rfl):a ∈ l:=List.mem_of_getElem? h
end
end Mi
set_option Elab.async false
set_option linter.all false
set_option maxRecDepth 100000
set_option maxHeartbeats 400000
namespace Mi
open PySem PySem.Spec PyProof.Rows L2
theorem zij:∀ (n:Nat) {x:D} {d:PyData},pd n x = some d->d.depth<=n/\d.hasDict = false:=by
 have hs:∀ (n:Nat),(∀ {x:D} {d:PyData},pd n x = some d->d.depth<=n/\d.hasDict = false)->∀ (xs:List D) {ds:List PyData},pds (pd n) xs = some ds->PyData.depthAll ds<=n/\PyData.hasDictAll ds = false:=by
  intro n ih xs
  induction xs with
  | nil=>intro ds h; cases h; exact ⟨Nat.zero_le _,rfl⟩
  | cons x r ihr=>
   intro ds h
   unfold pds at h
   split at h
   ·rename_i a b e1 e2
    cases h
    obtain ⟨p1,p2⟩:=ih e1
    obtain ⟨q1,q2⟩:=ihr e2
    refine ⟨?_,?_⟩
    ·simp only [PyData.depthAll]; omega
    ·simp only [PyData.hasDictAll,p2,q2,Bool.or_self]
   ·cases h
 intro n
 induction n with
 | zero=>intro x d h; cases x <;> simp only [pd] at h <;> first | (cases h; done) | (cases h; exact ⟨Nat.le_refl _,rfl⟩)
 | succ n ih=>
  intro x d h
  cases x with
  | tup xs=>
   simp only [pd,Option.map_eq_some_iff] at h
   obtain ⟨ds,e,rfl⟩:=h
   obtain ⟨p,q⟩:=hs n ih xs e
   exact ⟨by simp only [PyData.depth]; omega,by simp only [PyData.hasDict]; exact q⟩
  | fl xs=>
   simp only [pd,Option.map_eq_some_iff] at h
   obtain ⟨ds,e,rfl⟩:=h
   obtain ⟨p,q⟩:=hs n ih xs e
   exact ⟨by simp only [PyData.depth]; omega,by simp only [PyData.hasDict]; exact q⟩
  | non=>simp only [pd] at h; cases h; exact ⟨Nat.zero_le _,rfl⟩
  | bl _=>simp only [pd] at h; cases h; exact ⟨Nat.zero_le _,rfl⟩
  | int _=>simp only [pd] at h; cases h; exact ⟨Nat.zero_le _,rfl⟩
  | str _=>simp only [pd] at h; cases h; exact ⟨Nat.zero_le _,rfl⟩
  | _=>simp only [pd] at h; cases h
theorem zia {h:Heap}:∀ (n:Nat) {x:D} {u:Value} {d:PyData},Is h x u->pd n x = some d->∃ as,Reads h u d as:=by
 have hs:∀ (n:Nat),(∀ {x:D} {u:Value} {d:PyData},Is h x u->pd n x = some d->∃ as,Reads h u d as)->∀ (xs:List D) {us:List Value} {ds:List PyData},Iss h xs us->pds (pd n) xs = some ds->∃ as,ReadsAll h us ds as:=by
  intro n ih xs
  induction xs with
  | nil=>intro us ds i h; cases h; cases i; exact ⟨_,.nil⟩
  | cons x r ihr=>
   intro us ds i h
   unfold pds at h
   split at h
   ·rename_i a b e1 e2
    cases h
    cases i with
    | cons i1 i2=>
     obtain ⟨as,p1⟩:=ih i1 e1
     obtain ⟨bs,q1⟩:=ihr i2 e2
     exact ⟨_,.cons p1 q1⟩
   ·cases h
 intro n
 induction n with
 | zero=>
  intro x u d i h
  cases x <;> simp only [pd] at h <;> first
   | (cases h; done)
   | (cases h
      cases i <;> first
        | exact ⟨_,.none⟩
        | exact ⟨_,.bool _⟩
        | exact ⟨_,.int _ _⟩
        | exact ⟨_,.str _ _⟩
        | contradiction)
 | succ n ih=>
  intro x u d i h
  cases x with
  | tup xs=>
   simp only [pd,Option.map_eq_some_iff] at h
   obtain ⟨ds,e,rfl⟩:=h
   cases i with
   | tup p r=>
    obtain ⟨as,q⟩:=hs n ih xs r e
    obtain ⟨o,h1,h2,m,h3⟩:=p
    exact ⟨_,.tuple h1 h2 h3 q⟩
   | oth k=>cases k
  | fl xs=>
   simp only [pd,Option.map_eq_some_iff] at h
   obtain ⟨ds,e,rfl⟩:=h
   cases i with
   | fl p r=>
    obtain ⟨as,q⟩:=hs n ih xs r e
    obtain ⟨o,h1,h2,m,h3⟩:=p
    exact ⟨_,.list h1 h2 h3 q⟩
   | oth k=>cases k
  | non=>simp only [pd] at h; cases h; cases i with | non=>exact ⟨_,.none⟩ | oth k=>cases k
  | bl _=>simp only [pd] at h; cases h; cases i with | bl=>exact ⟨_,.bool _⟩ | oth k=>cases k
  | int _=>simp only [pd] at h; cases h; cases i with | int=>exact ⟨_,.int _ _⟩ | oth k=>cases k
  | str _=>simp only [pd] at h; cases h; cases i with | str=>exact ⟨_,.str _ _⟩ | oth k=>cases k
  | _=>simp only [pd] at h; cases h
section
variable {X:Cx} {cA:Cl}
theorem zhW {d:PyData} {z:Rz} (h:shw d = some z):d.showable = true/\d.shown.length<=sizeLine/\z = .dat (.str d.shown):=by
 unfold shw at h
 split at h
 ·rename_i q; cases h; exact ⟨q.1,q.2,rfl⟩
 ·cases h
noncomputable def rRepr (K:PySem.W.Frag) (cA:Cl):List V->Hp->VK->Prop:=fun xs H Q=>∃ φ x v d,xs = [v]/\Rv K cA φ H x v/\pdT x = some d/\d.showable = true/\d.shown.length<=sizeLine/\Q (.str d.shown) H
theorem zgQ {k:Str} {v:Value} (h:keyIs (.inr k) v = true):∃ t,v = .str k t:=by
 rcases zav h with ⟨i,u,e,_⟩ | ⟨x,u,e,e2⟩
 ·cases e
 ·cases e; exact ⟨u,e2⟩
theorem zge {k:Nat} (hr:Room k X.A):CallR X (.builtin "repr") (rRepr X.K cA):=by
 intro pins s σ H xs us Q I r ⟨φ,x,v,d,e,rv,hp,hs,hz,q⟩
 subst e
 obtain ⟨u,rfl,ru⟩:=vals1 r
 have hu:=hr.un
 have hg:=hr.gd
 have fin:∀ h' t tk,(∀ b o,s.heap.get? b = some o->h'.get? b = some o)->EP X pins σ Q (.str d.shown t) { s with heap:=h',toks:=tk }:=fun h' t tk hk=>⟨.str d.shown,H,I.kept (h':=h') (t':=tk) hk,⟨t,rfl⟩,q⟩
 have leaf:EP X pins σ Q (.str d.shown s.toks) { s with toks:=s.toks + 1 }:=fin s.heap _ _ fun _ _ e=>e
 by_cases hfd:∃ ks vs,x = .fd ks vs
 ·obtain ⟨ks,vs,rfl⟩:=hfd
  cases (show Rep X.K cA φ H (.fd ks vs) v from rv) with
  | @fd a kk ii q1 n=>
   cases (show u = Value.ref a from ru)
   cases hp
   obtain ⟨_,hne,kv,rel,o,es,ep,g1,g2,g3,g4,g5,_⟩:=(show ObjOk X.prog X.w H s.heap a (.dK [(.inr kk,.int ii)]) from I.hok a _ q1)
   have hrd:∃ as,Reads s.heap (.ref a) (.dict [(.str kk,.int ii)]) (a::as)/\as = []:=by
    cases rel with
    | cons rl rr=>
     cases rr
     obtain ⟨l⟩:=es
     cases g5 with
     | cons p1 p2 p3=>
      cases p3
      rename_i q e
      obtain ⟨e1,tt,e2⟩:=rl
      have hk:keyIs (.inr kk) e.key = true:=by rw [show (Sum.inr kk:Key) = _ from e1]; exact p1
      obtain ⟨tk,hk⟩:=zgQ hk
      refine ⟨[],.dict (as:=[]) (bs:=[]) g1 g2.1 g3 ?_ ?_,rfl⟩
      ·show ReadsAll s.heap [e.key] [.str kk] []
       rw [hk]
       exact .cons (.str kk tk) .nil
      ·show ReadsAll s.heap [e.val] [.int ii] []
       rw [p2,e2]
       exact .cons (.int ii tt) .nil
   obtain ⟨as,rd,rfl⟩:=hrd
   exact repr_of_reads' rd hs (fun _ hm=>by simp at hm; rw [hm] at hne; simp at hne) hg (by simp only [PyData.depth,PyData.depthKv]; omega) (fun _ _ e=>e) (fun h' t tk hk=>fin h' t tk hk) hz
 ·have hp':pd 40 x = some d:=by
   cases x with
   | fd ks vs=>exact absurd ⟨ks,vs,rfl⟩ hfd
   | _=>exact hp
  have i:Is s.heap x u:=ze3 I rv ru
  obtain ⟨as,rd⟩:=zia 40 i hp'
  obtain ⟨dp,nd⟩:=zij 40 hp'
  cases rd with
  | none=>exact P.repr_of_none leaf
  | bool b=>exact P.repr_of_bool (by cases b <;> exact leaf)
  | int j t=>exact P.repr_of_int (by simpa [PyData.showable] using hs) leaf
  | str y t=>exact P.repr_of_str leaf hz
  | list h1 h2 h3 h4=>exact repr_of_reads' (.list h1 h2 h3 h4) hs (PyData.noDict_hsm nd) hg (by omega) (fun _ _ e=>e) (fun h' t tk hk=>fin h' t tk hk) hz
  | tuple h1 h2 h3 h4=>exact repr_of_reads' (.tuple h1 h2 h3 h4) hs (PyData.noDict_hsm nd) hg (by omega) (fun _ _ e=>e) (fun h' t tk hk=>fin h' t tk hk) hz
  | dict h1 h2 h3 h4 h5=>cases nd
theorem zjJ:PrOk X.K cA .repr (rRepr X.K cA):=by
 intro φ H ds vs Q zt rs o
 have o:OutP X.K cA φ H (pRepr ds) Q:=o
 unfold pRepr at o
 split at o
 ·rename_i x _
  obtain ⟨v,rfl,r1⟩:=rs.one
  obtain ⟨z,e⟩:=o.some'
  obtain ⟨d,e1,e2⟩:=Option.bind_eq_some_iff.mp e
  obtain ⟨q1,q2,rfl⟩:=zhW e2
  exact ⟨φ,x,v,d,rfl,r1,e1,q1,q2,(o.of e).here (.str _)⟩
 ·exact o.elim
end
section
variable {X:Cx} {cA:Cl} {sub:Nat->Nat->Bool} {calm:Bool} {F:Fn} {EX:XS} {e:Expr} {pos p:Pos} {es:List Expr} {Xs:Es} {fz:Bool}
theorem ziV {k:Nat} (hr:Room k X.A) (hm:X.mg "repr" = none) (hg:JK X "repr" .globalImplicit) (ha:JA X cA sub calm F EX (e::es) Xs) (he:plainE e = true:=by rfl) (hpl:es.all plainE = true:=by rfl):JE X cA sub calm F EX (.Call (.Name "repr" p) (e::es) [] pos) (.pr fz .repr Xs):=⟨zcP (zge hr) zjJ hg.o hm PyProof.Rows.boot_repr ha.o (by decide) (by decide) (star1 he) (starAny hpl)⟩
end
end Mi
set_option Elab.async false
set_option linter.all false
set_option maxRecDepth 100000
set_option maxHeartbeats 400000
namespace Mi
open PySem
noncomputable def W {α:Type} (m:M α) (s:S) (P:α->S->Prop):Prop:=∃ a s',m s = some (.ok a,s')/\P a s'
noncomputable def WS (m:MS) (s:S) (Q:Out->S->Prop):Prop:=∃ o s',m s = some (o,s')/\Q o s'
section
variable {α β:Type} {m:M α} {k:α->M β} {s:S} {P:α->S->Prop} {R:β->S->Prop}
theorem W.bd (h:W m s fun a s'=>W (k a) s' R):W (M.bd m k) s R:=by
 obtain ⟨a,s',e,b,s2,e2,r⟩:=h
 exact ⟨b,s2,by unfold M.bd; rw [e]; exact e2,r⟩
theorem W.ret {a:α} (h:P a s):W (M.ret a) s P:=⟨a,s,rfl,h⟩
theorem W.qt (h:W m s P):W (M.qt m) s P:=by
 obtain ⟨a,s',e,p⟩:=h
 exact ⟨a,s',by unfold M.qt; rw [e],p⟩
theorem W.opt {o:Option α} {a:α} (e:o = some a) (h:P a s):W (M.opt o) s P:=by subst e; exact ⟨a,s,rfl,h⟩
theorem W.imp {P':α->S->Prop} (h:W m s P) (f:∀ a s',P a s'->P' a s'):W m s P':=let ⟨a,s',e,p⟩:=h; ⟨a,s',e,f a s' p⟩
theorem W.eq {a:α} {s':S} (e:m s = some (.ok a,s')) (p:P a s'):W m s P:=⟨a,s',e,p⟩
theorem W.rd_d {d:D} {P:D->S->Prop} (h:P d s):W (rd (.d d)) s P:=⟨d,s,rfl,h⟩
theorem W.rd_l {n:Nat} {xs:List D} {P:D->S->Prop} (e:s[n]? = some (.lst xs)) (h:P (.fl xs) s):W (rd (.l n)) s P:=⟨.fl xs,s,by unfold rd; simp only [e],h⟩
theorem W.rds_nil {P:List D->S->Prop} (h:P [] s):W (rds []) s P:=⟨[],s,rfl,h⟩
theorem W.rds_cons {x:Xv} {r:List Xv} {P:List D->S->Prop} (h:W (rd x) s fun d s1=>W (rds r) s1 fun ds s2=>P (d::ds) s2):W (rds (x::r)) s P:=W.bd (h.imp fun d s1 h1=>W.bd (h1.imp fun ds s2 h2=>W.ret h2))
theorem W.dats_nil {P:List D->S->Prop} (h:P [] s):W (dats []) s P:=⟨[],s,rfl,h⟩
theorem W.dats_cons {d:D} {r:List Xv} {P:List D->S->Prop} (h:W (dats r) s fun ds s2=>P (d::ds) s2):W (dats (.d d::r)) s P:=W.bd (W.ret (W.bd (h.imp fun ds s2 h2=>W.ret h2)))
theorem W.dat {x:D} {P:D->S->Prop} (h:P x s):W (dat (.d x)) s P:=⟨x,s,rfl,h⟩
theorem W.bool {b:Bool} {P:Bool->S->Prop} (h:P b s):W (bool (.d (.bl b))) s P:=⟨b,s,rfl,h⟩
theorem W.int {b:Int} {P:Int->S->Prop} (h:P b s):W (int (.d (.int b))) s P:=⟨b,s,rfl,h⟩
theorem W.outD {fz:Bool} {o:Option Rz} {d:D} {P:Xv->S->Prop} (e:o = some (.dat d)) (h:P (.d d) s):W (outz fz o) s P:=by subst e; exact ⟨_,s,rfl,h⟩
theorem W.outL {o:Option Rz} {xs:List D} {P:Xv->S->Prop} (e:o = some (.nw xs)) (h:P (.d (.fl xs)) s):W (outz true o) s P:=by subst e; exact ⟨_,s,rfl,h⟩
theorem W.newT {xs:List D} {P:Xv->S->Prop} (h:P (.d (.fl xs)) s):W (newL true xs) s P:=⟨_,s,rfl,h⟩
theorem W.newF {xs:List D} {P:Xv->S->Prop} (h:P (.l s.length) (s ++ [.lst xs])):W (newL false xs) s P:=⟨_,_,rfl,h⟩
theorem W.call0 {F:List Xv->M Xv} {xs:List Xv} {P:Xv->S->Prop} (hl:locs xs = []) (h:W (F (renam 0 xs)) [] fun v _=>∃ d,v = .d d/\P (.d d) s):W (callW F xs) s P:=by
 obtain ⟨v,s1,e,d,rfl,p⟩:=h
 refine ⟨.d d,s,?_,p⟩
 unfold callW
 rw [hl,if_pos List.nodup_nil]
 simp only [subS,e,wback]
theorem W.call0l {F:List Xv->M Xv} {xs:List Xv} {P:Xv->S->Prop} (hl:locs xs = []) (h:W (F (renam 0 xs)) [] fun v s1=>∃ n o,v = .l n/\s1[n]? = some o/\P (.l s.length) (s ++ [o])):W (callW F xs) s P:=by
 obtain ⟨v,s1,e,n,o,rfl,eo,p⟩:=h
 refine ⟨.l s.length,s ++ [o],?_,p⟩
 unfold callW
 rw [hl,if_pos List.nodup_nil]
 simp only [subS,e,wback,List.getElem?_nil,eo]
theorem W.call1 {F:List Xv->M Xv} {xs:List Xv} {n:Nat} {o:SO} {P:Xv->S->Prop} (hl:locs xs = [n]) (ho:s[n]? = some o) (h:W (F (renam 0 xs)) [o] fun v s1=>∃ d o',v = .d d/\s1 = [o']/\P (.d d) (s.set n o')):W (callW F xs) s P:=by
 obtain ⟨v,s1,e,d,o',rfl,rfl,p⟩:=h
 refine ⟨.d d,s.set n o',?_,p⟩
 unfold callW
 rw [hl,if_pos (by simp)]
 simp only [subS,ho,e,wback]
end
section
variable {s:S} {Q:Out->S->Prop}
theorem WS.thenS {m:MS} {k:Vs->MS} (h:WS m s fun o s'=>∃ τ,o = .nx τ/\WS (k τ) s' Q):WS (thenS m k) s Q:=by
 obtain ⟨o,s',e,τ,rfl,o2,s2,e2,q⟩:=h
 exact ⟨o2,s2,by unfold Mi.thenS; rw [e]; exact e2,q⟩
theorem WS.thenR {m:MS} {k:Vs->MS} (h:WS m s fun o s'=>(∃ x,o = .rt x)/\Q o s'):WS (Mi.thenS m k) s Q:=by
 obtain ⟨o,s',e,⟨x,rfl⟩,q⟩:=h
 exact ⟨.rt x,s',by unfold Mi.thenS; rw [e],q⟩
theorem WS.ofM {α:Type} {m:M α} {τ:Vs} {k:α->MS} (h:W m s fun a s'=>WS (k a) s' Q):WS (Mi.ofM m τ k) s Q:=by
 obtain ⟨a,s',e,o,s2,e2,q⟩:=h
 exact ⟨o,s2,by unfold Mi.ofM; rw [e]; exact e2,q⟩
theorem WS.nx {τ:Vs} (h:Q (.nx τ) s):WS (fun s=>some (.nx τ,s)) s Q:=⟨_,s,rfl,h⟩
theorem WS.rt {x:Xv} (h:Q (.rt x) s):WS (fun s=>some (.rt x,s)) s Q:=⟨_,s,rfl,h⟩
theorem WS.imp {m:MS} {Q':Out->S->Prop} (h:WS m s Q) (f:∀ o s',Q o s'->Q' o s'):WS m s Q':=let ⟨a,s',e,p⟩:=h; ⟨a,s',e,f a s' p⟩
end
theorem W.call {sub:Nat->Nat->Bool} {T:Nat->Option Df} {k f:Nat} {calm:Bool} {xs:List Xv} {s:S} {d:Df} {P:Xv->S->Prop} (hT:T f = some d) (hl:xs.length = d.pars)
  (h:WS (exs sub calm (fun c=>Mi.call sub T k c) d.body (xs.map some ++ List.replicate (d.many - d.pars) none)) s fun o s'=>match o with | .nx _=>P (.d .non) s' | .rt v=>P v s' | _=>False):W (Mi.call sub T (k + 1) calm f xs) s P:=by
 obtain ⟨o,s',e,q⟩:=h
 unfold Mi.call
 simp only [hT,if_pos hl]
 unfold W
 simp only [e]
 cases o with
 | nx τ=>exact ⟨_,_,rfl,q⟩
 | rt v=>exact ⟨_,_,rfl,q⟩
 | bk τ=>exact q.elim
 | ct τ=>exact q.elim
 | er c fs τ=>exact q.elim
theorem WS.for {c:List D} {b:D->Vs->MS} {τ:Vs} {s:S} {Q:Out->S->Prop} (I:Nat->Vs->S->Prop) (h0:I 0 τ s) (hb:∀ i x τ s,c[i]? = some x->I i τ s->WS (b x τ) s fun o s'=>∃ τ',o = .nx τ'/\I (i + 1) τ' s')
  (he:∀ τ s,I c.length τ s->Q (.nx τ) s):WS (forS (.fix c) b (c.length + 1) 0 τ) s Q:=by
 have key:∀ n i τ s,i + n = c.length->I i τ s->WS (forS (.fix c) b (n + 1) i τ) s Q:=by
  intro n
  induction n with
  | zero=>
   intro i τ s hi hI
   have e:c[i]? = none:=by rw [List.getElem?_eq_none_iff]; omega
   have:i = c.length:=by omega
   subst this
   refine ⟨_,s,?_,he τ s hI⟩
   unfold forS
   simp only [Src.at,e]
  | succ n ih=>
   intro i τ s hi hI
   have hlt:i < c.length:=by omega
   have e:c[i]? = some c[i]:=List.getElem?_eq_getElem hlt
   obtain ⟨o,s',eb,τ',rfl,hI'⟩:=hb i c[i] τ s e hI
   obtain ⟨o2,s2,e2,q⟩:=ih (i + 1) τ' s' (by omega) hI'
   refine ⟨o2,s2,?_,q⟩
   unfold forS
   simp only [Src.at,e,eb]
   exact e2
 exact key c.length 0 τ s (by omega) h0
end Mi
set_option Elab.async false
set_option linter.all false
set_option maxRecDepth 100000
set_option maxHeartbeats 400000
namespace Mi
open PySem
theorem zll {i j:Int} (h:(-(2 ^ 64) < i/\i < 2 ^ 64)\/(-(2 ^ 64) < j/\j < 2 ^ 64)):prim .mul [.int i,.int j] = some (.dat (.int (i * j))):=by
 show Option.map _ (if _ then _ else _) = _
 rw [if_pos h]; rfl
theorem zk2 {i j:Int} (h:0 < j):prim .mod [.int i,.int j] = some (.dat (.int (i % j))):=by
 show Option.map _ (if _ then _ else _) = _
 rw [if_pos h]; rfl
theorem ziO {i j:Int} (h:0 < j/\j < 1073741824):prim .fdiv [.int i,.int j] = some (.dat (.int (i / j))):=by
 show Option.map _ (if _ then _ else _) = _
 rw [if_pos h]; rfl
theorem zfD {i j:Int} (h:0 < j/\j < 1073741824):prim .divmod [.int i,.int j] = some (.dat (.tup [.int (i / j),.int (i % j)])):=by
 show Option.map _ (if _ then _ else _) = _
 rw [if_pos h]; rfl
theorem zma {i j:Int} (h:0<=j/\j<=1000000/\i.natAbs < 2 ^ 64):prim .pow [.int i,.int j] = some (.dat (.int (i ^ j.toNat))):=by
 show Option.map _ (if _ then _ else _) = _
 rw [if_pos h]; rfl
theorem zh1 {xs:List D} {i:Nat} {x:D} (h:xs[i]? = some x):prim .ix [.fl xs,.int i] = some (.dat x):=by
 show Option.map Rz.dat (L2.atI xs i) = _
 have:L2.atI xs (i:Int) = some x:=by
  unfold L2.atI L2.ixN
  have hl:i < xs.length:=(List.getElem?_eq_some_iff.mp h).1
  simp [hl]
  exact (List.getElem?_eq_some_iff.mp h).2
 rw [this]
 rfl
theorem zgf {xs ys:List D} (h:xs.length + ys.length<=sizeLine):prim .add [.fl xs,.fl ys] = some (.nw (xs ++ ys)):=by
 show (if _ then _ else _) = _
 rw [if_pos h]
theorem W.ite {α:Type} {c:Prop} [Decidable c] {m1 m2:M α} {s:S} {P:α->S->Prop} (h1:c->W m1 s P) (h2:¬ c->W m2 s P):W (if c then m1 else m2) s P:=by
 by_cases h:c
 ·rw [if_pos h]; exact h1 h
 ·rw [if_neg h]; exact h2 h
theorem WS.ite {c:Prop} [Decidable c] {m1 m2:MS} {s:S} {P:Out->S->Prop} (h1:c->WS m1 s P) (h2:¬ c->WS m2 s P):WS (if c then m1 else m2) s P:=by
 by_cases h:c
 ·rw [if_pos h]; exact h1 h
 ·rw [if_neg h]; exact h2 h
theorem W.putL {n:Nat} {xs:List D} {s:S} {P:Unit->S->Prop} (h:P () (s.set n (.lst xs))):W (putL n xs) s P:=⟨_,_,rfl,h⟩
theorem W.lstAt {n:Nat} {xs:List D} {s:S} {P:Nat × List D->S->Prop} (e:s[n]? = some (.lst xs)) (h:P (n,xs) s):W (lstAt (.l n)) s P:=⟨_,s,by unfold Mi.lstAt; simp only [e],h⟩
theorem W.srcT {xs:List D} {s:S} {P:Src × Nat->S->Prop} (h:P (.fix xs,xs.length) s):W (src (.d (.tup xs))) s P:=⟨_,s,rfl,h⟩
theorem W.srcL {xs:List D} {s:S} {P:Src × Nat->S->Prop} (h:P (.fix xs,xs.length) s):W (src (.d (.fl xs))) s P:=⟨_,s,rfl,h⟩
theorem WS.nil {sub:Nat->Nat->Bool} {calm:Bool} {F:Bool->Fn} {τ:Vs} {s:S} {Q:Out->S->Prop} (h:Q (.nx τ) s):WS (exs sub calm F .nil τ) s Q:=⟨_,s,rfl,h⟩
theorem WS.cons {sub:Nat->Nat->Bool} {calm:Bool} {F:Bool->Fn} {a:St} {r:Sts} {τ:Vs} {s:S} {Q:Out->S->Prop} (h:WS (ex sub calm F a τ) s fun o s'=>match o with | .nx τ'=>WS (exs sub calm F r τ') s' Q | .rt x=>Q (.rt x) s' | _=>False):WS (exs sub calm F (.cons a r) τ) s Q:=by
 obtain ⟨o,s',e,q⟩:=h
 unfold WS exs Mi.thenS
 rw [e]
 cases o with
 | nx τ'=>exact q
 | rt x=>exact ⟨_,_,rfl,q⟩
 | bk _=>exact q.elim
 | ct _=>exact q.elim
 | er _ _ _=>exact q.elim
noncomputable def ExT {α:Type} (o:Option α) (P:α->Prop):Prop:=∃ a,o = some a/\P a
theorem ExT.mk {α:Type} {o:Option α} {P:α->Prop} {a:α} (e:o = some a) (h:P a):ExT o P:=⟨a,e,h⟩
section
variable {sub:Nat->Nat->Bool} {calm:Bool} {F:Fn} {τ:Vs} {s:S} {P:Xv->S->Prop}
theorem W.eC {d:D} (h:P (.d d) s):W (ev sub calm F (.c d) τ) s P:=W.ret h
theorem W.eV {i:Nat} {x:Xv} (e:τ[i]?.join = some x) (h:P x s):W (ev sub calm F (.v i) τ) s P:=W.opt e h
theorem W.ePr {fz:Bool} {p:Pr} {xs:Es} (h:W (evs sub calm F xs τ) s fun vs s1=>W (rds vs) s1 fun ds s2=>W (outz fz (prim p ds)) s2 P):W (ev sub calm F (.pr fz p xs) τ) s P:=W.bd (h.imp fun _ _ h=>W.bd h)
theorem W.eAnd {a b:E} (h:W (ev sub calm F a τ) s fun x s1=>W (Mi.bool x) s1 fun k s2=>W (if k = true then ev sub calm F b τ else M.ret (.d (.bl false))) s2 P):W (ev sub calm F (.and a b) τ) s P:=W.bd (h.imp fun _ _ h=>W.bd h)
theorem W.eOr {a b:E} (h:W (ev sub calm F a τ) s fun x s1=>W (Mi.bool x) s1 fun k s2=>W (if k = true then M.ret (.d (.bl true)) else ev sub calm F b τ) s2 P):W (ev sub calm F (.or a b) τ) s P:=W.bd (h.imp fun _ _ h=>W.bd h)
theorem W.eNot {a:E} (h:W (ev sub calm F a τ) s fun x s1=>W (Mi.bool x) s1 fun k s2=>P (.d (.bl (!k))) s2):W (ev sub calm F (.not a) τ) s P:=W.bd (h.imp fun _ _ h=>W.bd (h.imp fun _ _ h=>W.ret h))
theorem W.eTup {xs:Es} (h:W (evs sub calm F xs τ) s fun vs s1=>W (dats vs) s1 fun ds s2=>P (.d (.tup ds)) s2):W (ev sub calm F (.tup xs) τ) s P:=W.bd (h.imp fun _ _ h=>W.bd (h.imp fun _ _ h=>W.ret h))
theorem W.eLst {fz:Bool} {xs:Es} (h:W (evs sub calm F xs τ) s fun vs s1=>W (dats vs) s1 fun ds s2=>W (newL fz ds) s2 P):W (ev sub calm F (.lst fz xs) τ) s P:=W.bd (h.imp fun _ _ h=>W.bd h)
theorem W.eDct {k:Str} {i:Int} (h:P (.d (.fd [.str k] [.int i])) s):W (ev sub calm F (.dct1 k i) τ) s P:=W.ret h
theorem W.eCall {f:Nat} {xs:Es} (h:W (evs sub calm F xs τ) s fun vs s1=>W (callW (F f) vs) s1 P):W (ev sub calm F (.call f xs) τ) s P:=W.bd h
theorem W.eSl {fz:Bool} {a:E} {lo hi:Eo} (h:W (ev sub calm F a τ) s fun x s1=>W (evo sub calm F lo τ) s1 fun l s2=>W (evo sub calm F hi τ) s2 fun u s3=>W (rd x) s3 fun d s4=>W (outz fz (cutD d l u)) s4 P):W (ev sub calm F (.sl fz a lo hi) τ) s P:=W.bd (h.imp fun _ _ h=>W.bd (h.imp fun _ _ h=>W.bd (h.imp fun _ _ h=>W.bd h)))
theorem W.oNo {P:Option Int->S->Prop} (h:P none s):W (evo sub calm F .no τ) s P:=W.ret h
theorem W.oYes {a:E} {P:Option Int->S->Prop} (h:W (ev sub calm F a τ) s fun x s1=>W (Mi.int x) s1 fun i s2=>P (some i) s2):W (evo sub calm F (.yes a) τ) s P:=W.bd (h.imp fun _ _ h=>W.bd (h.imp fun _ _ h=>W.ret h))
theorem W.aNil {P:List Xv->S->Prop} (h:P [] s):W (evs sub calm F .nil τ) s P:=W.ret h
theorem W.aCons {a:E} {r:Es} {P:List Xv->S->Prop} (h:W (ev sub calm F a τ) s fun x s1=>W (evs sub calm F r τ) s1 fun xs s2=>P (x::xs) s2):W (evs sub calm F (.cons a r) τ) s P:=W.bd (h.imp fun _ _ h=>W.bd (h.imp fun _ _ h=>W.ret h))
theorem W.kSeq {a:E} {P:Src × Nat->S->Prop} (h:W (ev sub calm F a τ) s fun x s1=>W (src x) s1 P):W (wks sub calm F (.seq a) τ) s P:=W.bd h
end
section
variable {sub:Nat->Nat->Bool} {calm:Bool} {F:Bool->Fn} {τ:Vs} {s:S} {Q:Out->S->Prop}
theorem WS.ifY {b:Bool} {m1 m2:MS} (e:b = true) (h:WS m1 s Q):WS (if b = true then m1 else m2) s Q:=by rw [if_pos e]; exact h
theorem WS.ifN {b:Bool} {m1 m2:MS} (e:b = false) (h:WS m2 s Q):WS (if b = true then m1 else m2) s Q:=by rw [if_neg (by rw [e]; decide)]; exact h
theorem WS.ifT {m1 m2:MS} (h:WS m1 s Q):WS (if true = true then m1 else m2) s Q:=by rw [if_pos rfl]; exact h
theorem WS.ifF {m1 m2:MS} (h:WS m2 s Q):WS (if false = true then m1 else m2) s Q:=by rw [if_neg (by decide)]; exact h
theorem WS.sEx {e:E} (h:W (ev sub calm (F calm) e τ) s fun _ s1=>Q (.nx τ) s1):WS (ex sub calm F (.ex e) τ) s Q:=WS.ofM (h.imp fun _ _ h=>WS.nx h)
theorem WS.sNm {i:Nat} {e:E} (h:W (ev sub calm (F calm) e τ) s fun x s1=>Q (.nx (τ.set i (some x))) s1):WS (ex sub calm F (.asg (.nm i) e) τ) s Q:=WS.ofM (h.imp fun _ _ h=>WS.nx h)
theorem WS.sTp {is:List Nat} {e:E} (h:W (ev sub true (F true) e τ) s fun x s1=>W (dat x) s1 fun d s2=>ExT ((tupOf d).bind fun ds=>setAll is (ds.map .d) τ) fun τ'=>Q (.nx τ') s2):WS (ex sub true F (.asg (.tp is) e) τ) s Q:=by
 refine WS.ofM (h.imp fun x s1 h=>?_)
 exact WS.ifT (m2:=fun _=>none) (WS.ofM (W.bd (h.imp fun d s2 ⟨τ',e,q⟩=>W.opt e (WS.nx q))))
theorem WS.sSub {o i e:E} (h:W (ev sub calm (F calm) e τ) s fun x s1=>W (dat x) s1 fun d s2=>W (ev sub calm (F calm) o τ) s2 fun y s3=>W (ev sub calm (F calm) i τ) s3 fun z s4=>W (Mi.int z) s4 fun j s5=>W (lstAt y) s5 fun nx s6=>ExT (L2.ixN nx.2.length j) fun q=>Q (.nx τ) (s6.set nx.1 (.lst (nx.2.set q d)))):WS (ex sub calm F (.asg (.sub o i) e) τ) s Q:=by
 refine WS.ofM (h.imp fun x s1 h=>WS.ofM (W.bd (h.imp fun d s2 h=>W.bd (h.imp fun y s3 h=>W.bd (h.imp fun z s4 h=>W.bd (h.imp fun j s5 h=>W.bd (h.imp fun nx s6 h=>?_)))))))
 obtain ⟨q,e,h⟩:=h
 simp only [e]
 exact W.putL (WS.nx h)
theorem WS.sPar {i j:Nat} {a b:E} (h:W (ev sub true (F true) a τ) s fun x s1=>W (ev sub true (F true) b τ) s1 fun y s2=>Q (.nx ((τ.set i (some x)).set j (some y))) s2):WS (ex sub true F (.par i j a b) τ) s Q:=by
 exact WS.ifT (m2:=fun _=>none) (WS.ofM (W.bd (h.imp fun x s1 h=>W.bd (h.imp fun y s2 h=>W.ret (WS.nx h)))))
theorem WS.sRet {e:E} (h:W (ev sub calm (F calm) e τ) s fun x s1=>Q (.rt x) s1):WS (ex sub calm F (.ret e) τ) s Q:=WS.ofM (h.imp fun _ _ h=>WS.rt h)
theorem WS.sIf {c:E} {t e:Sts} (h:W (ev sub calm (F calm) c τ) s fun x s1=>W (Mi.bool x) s1 fun b s2=>WS (if b = true then exs sub calm F t τ else exs sub calm F e τ) s2 Q):WS (ex sub calm F (.iff c t e) τ) s Q:=WS.ofM (W.bd h)
theorem WS.sFor {t:Tg} {w:Wk} {b:Sts} (h:W (wks sub true (F true) w τ) s fun cn s1=>WS (forS cn.1 (fun d τ=>Mi.thenS (store sub true (F true) t (.d d) τ) fun τ'=>exs sub true F b τ') (cn.2 + 1) 0 τ) s1 Q):WS (ex sub true F (.fr t w b) τ) s Q:=by
 exact WS.ifT (m2:=fun _=>none) (WS.ofM h)
end
theorem W.ifY {α:Type} {b:Bool} {m1 m2:M α} {s:S} {P:α->S->Prop} (e:b = true) (h:W m1 s P):W (if b = true then m1 else m2) s P:=by rw [if_pos e]; exact h
theorem W.ifN {α:Type} {b:Bool} {m1 m2:M α} {s:S} {P:α->S->Prop} (e:b = false) (h:W m2 s P):W (if b = true then m1 else m2) s P:=by rw [if_neg (by rw [e]; decide)]; exact h
theorem W.ifT {α:Type} {m1 m2:M α} {s:S} {P:α->S->Prop} (h:W m1 s P):W (if true = true then m1 else m2) s P:=by rw [if_pos rfl]; exact h
theorem W.ifF {α:Type} {m1 m2:M α} {s:S} {P:α->S->Prop} (h:W m2 s P):W (if false = true then m1 else m2) s P:=by rw [if_neg (by decide)]; exact h
structure Bx (R:Prop):Prop where
 o:R
theorem run {P R:Prop} (k:R) (h:Bx R->P:=by
 intro k
 repeat (first | with_reducible first
   | refine WS.cons ?_ | refine WS.nil ?_ | refine WS.sNm ?_ | refine WS.sRet ?_ | refine WS.sIf ?_ | refine WS.sTp ?_ | refine WS.sSub ?_ | refine WS.sPar ?_ | refine WS.sEx ?_ | refine WS.sFor ?_ | refine WS.ifT ?_ | refine WS.ifF ?_ | refine WS.ifY (by with_unfolding_all rfl) ?_ | refine WS.ifN (by with_unfolding_all rfl) ?_ | refine ExT.mk (by with_unfolding_all rfl) ?_
   | refine W.aCons ?_ | refine W.aNil ?_ | refine W.eC ?_ | refine W.eV (by with_unfolding_all rfl) ?_ | refine W.ePr ?_ | refine W.eCall ?_ | refine W.eTup ?_ | refine W.eLst ?_ | refine W.eNot ?_ | refine W.eAnd ?_ | refine W.eOr ?_ | refine W.eSl ?_ | refine W.eDct ?_ | refine W.oNo ?_ | refine W.oYes ?_ | refine W.kSeq ?_ | refine W.ifT ?_ | refine W.ifF ?_ | refine W.ifY (by with_unfolding_all rfl) ?_ | refine W.ifN (by with_unfolding_all rfl) ?_
   | refine W.rds_cons ?_ | refine W.rds_nil ?_ | refine W.rd_d ?_ | refine W.rd_l (by with_unfolding_all rfl) ?_ | refine W.dats_cons ?_ | refine W.dats_nil ?_ | refine W.dat ?_ | refine W.bool ?_ | refine W.int ?_ | refine W.lstAt (by with_unfolding_all rfl) ?_ | refine W.putL ?_ | refine W.srcT ?_ | refine W.srcL ?_ | refine W.newT ?_ | refine W.newF ?_
   | refine W.outD (by first | (with_unfolding_all rfl) | exact zll (by first | (left; constructor <;> omega) | (right; constructor <;> omega)) | exact zk2 (by omega) | exact ziO (by omega) | exact zfD (by omega) | exact zma (by decide)) ?_ | refine W.outL (by with_unfolding_all rfl) ?_
   | refine W.ret ?_
   | (dsimp only))
 exact k.o):P:=h ⟨k⟩
end Mi
set_option Elab.async false
set_option linter.all false
set_option maxRecDepth 100000
set_option maxHeartbeats 400000
namespace Mi
open PySem PySem.W PyProof.Rows L2
section
variable {α β:Type} {lt:Nat->Nat->Option Bool} {n:Nat}
noncomputable def Tot (n:Nat) (lt:Nat->Nat->Option Bool):Prop:=∀ i j,i < n->j < n->∃ b,lt i j = some b
variable (ht:Tot n lt) (hn:0 < n)
include ht hn
end
end Mi
set_option Elab.async false
set_option linter.all false
set_option maxRecDepth 100000
set_option maxHeartbeats 400000
namespace Mi
open PySem PySem.W PyProof.Rows L2
section
variable {lt:Nat->Nat->Option Bool} {n:Nat}
end
noncomputable def prD (p:Int × Int):D:=.tup [.int p.1,.int p.2]
end Mi
set_option Elab.async false
set_option linter.all false
set_option maxRecDepth 100000
set_option maxHeartbeats 400000
namespace Mi
open PySem
theorem W.walk {c:List D} {f:D->List D->M (List D)} {s:S} {acc:List D} {P:List D->S->Prop} (I:Nat->List D->S->Prop) (h0:I 0 acc s) (hb:∀ i x acc s,c[i]? = some x->I i acc s->W (f x acc) s fun a s'=>I (i + 1) a s')
  (he:∀ acc s,I c.length acc s->P acc s):W (Mi.walk (.fix c) f (c.length + 1) 0 acc) s P:=by
 have key:∀ n i acc s,i + n = c.length->I i acc s->W (Mi.walk (.fix c) f (n + 1) i acc) s P:=by
  intro n
  induction n with
  | zero=>
   intro i acc s hi hI
   have e:c[i]? = none:=by rw [List.getElem?_eq_none_iff]; omega
   have:i = c.length:=by omega
   subst this
   refine ⟨acc,s,?_,he acc s hI⟩
   unfold Mi.walk
   simp only [Src.at,e]
  | succ n ih=>
   intro i acc s hi hI
   have hlt:i < c.length:=by omega
   have e:c[i]? = some c[i]:=List.getElem?_eq_getElem hlt
   obtain ⟨a,s',eb,hI'⟩:=hb i c[i] acc s e hI
   obtain ⟨a2,s2,e2,q⟩:=ih (i + 1) a s' (by omega) hI'
   refine ⟨a2,s2,?_,q⟩
   unfold Mi.walk
   simp only [Src.at,e,M.bd,eb]
   exact e2
 exact key c.length 0 acc s (by omega) h0
section
variable {sub:Nat->Nat->Bool} {F:Fn} {τ:Vs} {s:S} {P:Xv->S->Prop}
theorem W.compG {fz:Bool} {elt:E} {tg:List Nat} {it:Wk} {fr:List Nat} {many:Nat} {cond:Eo} {c:List D} (g:D->Option D) (hc:c.length<=sizeLine)
  (hw:W (wks sub true F it τ) s fun cn s1=>cn = (.fix c,c.length)/\s1 = s)
  (hb:∀ x ∈ c,∃ τ',setTg tg x (blk many fr τ) = some τ'/\W (evc sub true F cond τ') s fun b s1=>s1 = s/\(if b = true then W (ev sub true F elt τ') s fun y s2=>s2 = s/\∃ d,y = .d d/\g x = some d else g x = none))
  (h:W (newL fz (c.filterMap g)) s P):W (ev sub true F (.comp fz elt tg it fr many cond) τ) s P:=by
 unfold ev
 rw [if_pos rfl]
 refine W.bd (hw.imp fun cn s1=>?_)
 rintro ⟨rfl,rfl⟩
 refine W.bd ?_
 refine W.walk (c:=c) (fun i acc s'=>s' = s1/\acc = (c.take i).filterMap g) ⟨rfl,rfl⟩ (fun i x acc s' e hI=>?_) (fun acc s' hI=>?_)
 ·obtain ⟨rfl,rfl⟩:=hI
  have hi:i < c.length:=(List.getElem?_eq_some_iff.mp e).1
  have ht:c.take (i + 1) = c.take i ++ [x]:=by rw [List.take_succ,e]; rfl
  have hl:((c.take i).filterMap g).length < sizeLine:=Nat.lt_of_le_of_lt (List.length_filterMap_le _ _) (by rw [List.length_take]; omega)
  obtain ⟨τ',e1,h1⟩:=hb x (List.mem_of_getElem? e)
  refine W.bd (W.opt e1 ?_)
  refine W.bd (W.qt (h1.imp fun b s2=>?_))
  rintro ⟨rfl,h2⟩
  rw [ht,List.filterMap_append]
  cases b
  ·rw [if_neg (by decide)] at h2 ⊢
   refine W.ret ⟨rfl,?_⟩
   simp [h2]
  ·rw [if_pos rfl] at h2 ⊢
   refine W.bd (W.qt (h2.imp fun y s3=>?_))
   rintro ⟨rfl,d,rfl,eg⟩
   refine W.bd (W.dat ?_)
   rw [if_pos hl]
   refine W.ret ⟨rfl,?_⟩
   simp [eg]
 ·obtain ⟨rfl,rfl⟩:=hI
  rw [List.take_length]
  exact h
end
end Mi
set_option Elab.async false
set_option linter.all false
set_option maxRecDepth 100000
set_option maxHeartbeats 400000
namespace Mi
open PySem
section
variable {sub:Nat->Nat->Bool} {calm:Bool} {F:Fn} {τ:Vs} {s:S} {P:Xv->S->Prop}
theorem W.eIsi {a:E} {k:Kd} (h:W (ev sub calm F a τ) s fun x s1=>W (rd x) s1 fun d s2=>∃ b,isiOf sub d k = some b/\P (.d (.bl b)) s2):W (ev sub calm F (.isi a k) τ) s P:=
 W.bd (h.imp fun _ _ h=>W.bd (h.imp fun _ _ ⟨_,e,h⟩=>W.bd (W.opt e (W.ret h))))
theorem W.eCh2 {p q:Pr} {a b c:E} (h:W (ev sub calm F a τ) s fun x s1=>W (ev sub calm F b τ) s1 fun y s2=>W (rds [x,y]) s2 fun ds s3=>W (outz true (prim p ds)) s3 fun t s4=>W (Mi.bool t) s4 fun k s5=>
  W (if k = true then M.bd (ev sub calm F c τ) fun z=>M.bd (rds [y,z]) fun ds=>outz true (prim q ds) else M.ret (.d (.bl false))) s5 P):W (ev sub calm F (.ch2 p q a b c) τ) s P:=
 W.bd (h.imp fun _ _ h=>W.bd (h.imp fun _ _ h=>W.bd (h.imp fun _ _ h=>W.bd (h.imp fun _ _ h=>W.bd h))))
end
end Mi
set_option Elab.async false
set_option linter.all false
set_option maxRecDepth 100000
set_option maxHeartbeats 400000
namespace Mi
open PySem
noncomputable def WR {α:Type} (m:M α) (s:S) (c:Nat) (fs:List D):Prop:=∃ s',m s = some (.er c fs,s')
section
variable {α β:Type} {m:M α} {k:α->M β} {s:S} {c:Nat} {fs:List D}
theorem WR.bd1 (h:WR m s c fs):WR (M.bd m k) s c fs:=by
 obtain ⟨s',e⟩:=h
 exact ⟨s',by unfold M.bd; rw [e]⟩
theorem WR.bd2 (h:W m s fun a s'=>WR (k a) s' c fs):WR (M.bd m k) s c fs:=by
 obtain ⟨a,s',e,s2,e2⟩:=h
 exact ⟨s2,by unfold M.bd; rw [e]; exact e2⟩
theorem WR.call0 {F:List Xv->M Xv} {xs:List Xv} (hl:locs xs = []) (h:WR (F (renam 0 xs)) [] c fs):WR (callW F xs) s c fs:=by
 obtain ⟨s1,e⟩:=h
 refine ⟨s,?_⟩
 unfold callW
 rw [hl,if_pos List.nodup_nil]
 simp only [subS,e,wback]
end
theorem WR.call {sub:Nat->Nat->Bool} {T:Nat->Option Df} {k f:Nat} {calm:Bool} {xs:List Xv} {s:S} {d:Df} {c:Nat} {fs:List D} (hT:T f = some d) (hl:xs.length = d.pars)
  (h:WS (exs sub calm (fun c=>Mi.call sub T k c) d.body (xs.map some ++ List.replicate (d.many - d.pars) none)) s fun o _=>∃ τ,o = .er c fs τ):WR (Mi.call sub T (k + 1) calm f xs) s c fs:=by
 obtain ⟨o,s',e,τ,rfl⟩:=h
 unfold Mi.call
 simp only [hT,if_pos hl]
 unfold WR
 simp only [e]
 exact ⟨_,rfl⟩
section
variable {sub:Nat->Nat->Bool} {calm:Bool} {F:Bool->Fn} {τ:Vs} {s:S} {Q:Out->S->Prop} {c:Nat} {fs:List D}
theorem WS.ofR {α:Type} {m:M α} {k:α->MS} (h:WR m s c fs) (q:∀ s',Q (.er c fs τ) s'):WS (Mi.ofM m τ k) s Q:=by
 obtain ⟨s',e⟩:=h
 exact ⟨_,s',by unfold Mi.ofM; rw [e],q s'⟩
theorem WS.consR {a:St} {r:Sts} (h:WS (ex sub calm F a τ) s fun o s'=>(∃ c fs τ',o = .er c fs τ')/\Q o s'):WS (exs sub calm F (.cons a r) τ) s Q:=by
 obtain ⟨o,s',e,⟨c,fs,τ',rfl⟩,q⟩:=h
 exact ⟨_,s',by unfold exs Mi.thenS; rw [e],q⟩
theorem WS.exR {e:E} (h:WR (ev sub calm (F calm) e τ) s c fs) (q:∀ s',Q (.er c fs τ) s'):WS (ex sub calm F (.ex e) τ) s Q:=WS.ofR h q
theorem WS.retR {e:E} (h:WR (ev sub calm (F calm) e τ) s c fs) (q:∀ s',Q (.er c fs τ) s'):WS (ex sub calm F (.ret e) τ) s Q:=WS.ofR h q
theorem WS.sRise {c:Nat} {kp:Bool} {xs:Es} (h:W (evs sub true (F true) xs τ) s fun vs s1=>W (dats vs) s1 fun ds s2=>Q (.er c (if kp = true then ds else []) τ) s2):WS (ex sub true F (.rise c kp xs) τ) s Q:=by
 refine WS.ifT (m2:=fun _=>none) (WS.ofM (W.bd (h.imp fun vs s1 h=>h.imp fun ds s2 h=>?_)))
 exact ⟨_,s2,rfl,h⟩
theorem WS.thn {m:MS} {k:Vs->MS} (h:WS m s fun o s'=>match o with | .nx τ'=>WS (k τ') s' Q | .rt x=>Q (.rt x) s' | _=>False):WS (Mi.thenS m k) s Q:=by
 obtain ⟨o,s',e,q⟩:=h
 unfold WS Mi.thenS
 rw [e]
 cases o with
 | nx τ'=>exact q
 | rt x=>exact ⟨_,_,rfl,q⟩
 | bk _=>exact q.elim
 | ct _=>exact q.elim
 | er _ _ _=>exact q.elim
theorem WS.stNm {F:Fn} {i:Nat} {x:Xv} (h:Q (.nx (τ.set i (some x))) s):WS (store sub calm F (.nm i) x τ) s Q:=⟨_,s,rfl,h⟩
theorem WS.stTp {F:Fn} {is:List Nat} {d:D} (h:ExT ((tupOf d).bind fun ds=>setAll is (ds.map .d) τ) fun τ'=>Q (.nx τ') s):WS (store sub true F (.tp is) (.d d) τ) s Q:=by
 obtain ⟨τ',e,q⟩:=h
 exact WS.ifT (m2:=fun _=>none) (WS.ofM (W.bd (W.dat (W.opt e (WS.nx q)))))
theorem WS.tryN {b:Sts} {d i:Nat} {h:Sts} (hb:WS (exs sub true F b τ) s fun o s'=>(∃ x,o = .rt x)/\Q o s'):WS (ex sub true F (.tryc b d i h) τ) s Q:=by
 obtain ⟨o,s',e,⟨x,rfl⟩,q⟩:=hb
 exact ⟨_,s',by unfold ex; rw [if_pos rfl]; simp only [e],q⟩
theorem WS.tryR {b:Sts} {d i:Nat} {h:Sts} (hb:WS (exs sub true F b τ) s fun o s'=>∃ c fs τ',o = .er c fs τ'/\sub c d = true/\WS (exs sub false F h (τ'.set i (some (.d (.exc c fs))))) s' fun r s2=>(∃ x,r = .rt x)/\Q r s2):WS (ex sub true F (.tryc b d i h) τ) s Q:=by
 obtain ⟨o,s',e,c,fs,τ',rfl,hs,r,s2,e2,⟨x,rfl⟩,q⟩:=hb
 exact ⟨_,s2,by unfold ex; rw [if_pos rfl]; simp only [e,hs,if_true,e2]; rfl,q⟩
end
section
variable {sub:Nat->Nat->Bool} {calm:Bool} {F:Fn} {τ:Vs} {s:S} {P:Xv->S->Prop}
theorem W.isi {a:E} {k:Kd} (h:W (ev sub calm F a τ) s fun x s1=>W (rd x) s1 fun d s2=>ExT (isiOf sub d k) fun b=>P (.d (.bl b)) s2):W (ev sub calm F (.isi a k) τ) s P:=W.eIsi h
theorem W.ch2 {p q:Pr} {a b c:E} (h:W (ev sub calm F a τ) s fun x s1=>W (ev sub calm F b τ) s1 fun y s2=>W (rds [x,y]) s2 fun ds s3=>W (outz true (prim p ds)) s3 fun t s4=>W (Mi.bool t) s4 fun k s5=>
  W (if k = true then M.bd (ev sub calm F c τ) fun z=>M.bd (rds [y,z]) fun ds=>outz true (prim q ds) else M.ret (.d (.bl false))) s5 P):W (ev sub calm F (.ch2 p q a b c) τ) s P:=W.eCh2 h
theorem W.eIte {c a b:E} (h:W (ev sub calm F c τ) s fun x s1=>W (Mi.bool x) s1 fun k s2=>W (if k = true then ev sub calm F a τ else ev sub calm F b τ) s2 P):W (ev sub calm F (.ite c a b) τ) s P:=W.bd (h.imp fun _ _ h=>W.bd h)
theorem W.kEnum {a:E} {P:Src × Nat->S->Prop} (h:W (ev sub calm F a τ) s fun x s1=>W (enumS x) s1 P):W (wks sub calm F (.enum a) τ) s P:=W.bd h
theorem W.enumD {xs:List D} {P:Src × Nat->S->Prop} (h:P (.fix (enumFrom 0 xs),(enumFrom 0 xs).length) s):W (enumS (.d (.fl xs))) s P:=⟨_,s,rfl,h⟩
theorem W.kRg {a b:E} {P:Src × Nat->S->Prop} (h:W (ev sub calm F a τ) s fun x s1=>W (ev sub calm F b τ) s1 fun y s2=>W (Mi.int x) s2 fun i s3=>W (Mi.int y) s3 fun j s4=>(rgOk i && rgOk j) = true/\P (.fix (rgL i j),(rgL i j).length) s4):W (wks sub calm F (.rg a b) τ) s P:=by
 refine W.bd (h.imp fun x s1 h=>W.bd (h.imp fun y s2 h=>W.bd (h.imp fun i s3 h=>W.bd (h.imp fun j s4 h=>?_))))
 rw [if_pos h.1]
 exact W.ret h.2
theorem W.kZip {a b:E} {P:Src × Nat->S->Prop} (h:W (ev sub calm F a τ) s fun x s1=>W (ev sub calm F b τ) s1 fun y s2=>W (seqD x) s2 fun xs s3=>W (seqD y) s3 fun ys s4=>P (.fix (List.zipWith (fun p q=>.tup [p,q]) xs ys),(List.zipWith (fun (p q:D)=>D.tup [p,q]) xs ys).length) s4):W (wks sub calm F (.zip a b) τ) s P:=
 W.bd (h.imp fun x s1 h=>W.bd (h.imp fun y s2 h=>W.bd (h.imp fun xs s3 h=>W.bd (h.imp fun ys s4 h=>W.ret h))))
theorem W.sqT {xs:List D} {P:List D->S->Prop} (h:P xs s):W (seqD (.d (.tup xs))) s P:=W.ret h
theorem W.sqL {xs:List D} {P:List D->S->Prop} (h:P xs s):W (seqD (.d (.fl xs))) s P:=W.ret h
theorem W.cNo {P:Bool->S->Prop} (h:P true s):W (evc sub calm F .no τ) s P:=W.ret h
theorem W.cYes {a:E} {P:Bool->S->Prop} (h:W (ev sub calm F a τ) s fun x s1=>W (Mi.bool x) s1 P):W (evc sub calm F (.yes a) τ) s P:=W.bd h
theorem W.compM {fz:Bool} {elt:E} {tg:List Nat} {it:Wk} {fr:List Nat} {many:Nat} {c:List D} (g:D->D) (hc:c.length<=sizeLine)
  (hw:W (wks sub true F it τ) s fun cn s1=>cn = (.fix c,c.length)/\s1 = s)
  (hb:∀ x ∈ c,ExT (setTg tg x (blk many fr τ)) fun τ'=>W (ev sub true F elt τ') s fun y s2=>s2 = s/\y = .d (g x))
  (h:W (newL fz (c.map g)) s P):W (ev sub true F (.comp fz elt tg it fr many .no) τ) s P:=by
 refine W.compG (c:=c) (fun x=>some (g x)) hc hw (fun x hx=>?_) ?_
 ·obtain ⟨τ',e,h1⟩:=hb x hx
  refine ⟨τ',e,W.ret ⟨rfl,?_⟩⟩
  rw [if_pos rfl]
  exact h1.imp fun y s2 ⟨a,b⟩=>⟨a,_,b,rfl⟩
 ·rw [show c.filterMap (fun x=>some (g x)) = c.map g by rw [<- List.filterMap_eq_map]; rfl]
  exact h
theorem W.compT {α:Type} {f:α->D} {l:List α} {fz:Bool} {elt:E} {tg:List Nat} {it:Wk} {fr:List Nat} {many:Nat} {cond:Eo} (g:α->Option D) (hc:l.length<=sizeLine)
  (hw:W (wks sub true F it τ) s fun cn s1=>cn = (.fix (l.map f),(l.map f).length)/\s1 = s)
  (hb:∀ x ∈ l,ExT (setTg tg (f x) (blk many fr τ)) fun τ'=>W (evc sub true F cond τ') s fun b s1=>s1 = s/\(b = true->W (ev sub true F elt τ') s fun y s2=>s2 = s/\∃ d,y = .d d/\g x = some d)/\(b = false->g x = none))
  (h:W (newL fz (l.filterMap g)) s P):W (ev sub true F (.comp fz elt tg it fr many cond) τ) s P:=by
 unfold ev
 rw [if_pos rfl]
 refine W.bd (hw.imp fun cn s1=>?_)
 rintro ⟨rfl,rfl⟩
 refine W.bd ?_
 refine W.walk (c:=l.map f) (fun i acc s'=>s' = s1/\acc = (l.take i).filterMap g) ⟨rfl,rfl⟩ (fun i x acc s' e hI=>?_) (fun acc s' hI=>?_)
 ·obtain ⟨rfl,rfl⟩:=hI
  rw [List.getElem?_map] at e
  cases el:l[i]? with
  | none=>rw [el] at e; cases e
  | some y=>
   rw [el] at e
   cases e
   have hi:i < l.length:=(List.getElem?_eq_some_iff.mp el).1
   have ht:l.take (i + 1) = l.take i ++ [y]:=by rw [List.take_succ,el]; rfl
   have hl:((l.take i).filterMap g).length < sizeLine:=Nat.lt_of_le_of_lt (List.length_filterMap_le _ _) (by rw [List.length_take]; omega)
   obtain ⟨τ',e1,h1⟩:=hb y (List.mem_of_getElem? el)
   refine W.bd (W.opt e1 ?_)
   refine W.bd (W.qt (h1.imp fun b s2=>?_))
   rintro ⟨rfl,h2,h3⟩
   rw [ht,List.filterMap_append]
   cases b
   ·rw [if_neg (by decide)]
    refine W.ret ⟨rfl,?_⟩
    simp [h3 rfl]
   ·rw [if_pos rfl]
    refine W.bd (W.qt ((h2 rfl).imp fun y s3=>?_))
    rintro ⟨rfl,d,rfl,eg⟩
    refine W.bd (W.dat ?_)
    rw [if_pos hl]
    refine W.ret ⟨rfl,?_⟩
    simp [eg]
 ·obtain ⟨rfl,rfl⟩:=hI
  rw [List.length_map,List.take_length]
  exact h
theorem W.compI {c:List D} {fz:Bool} {elt:E} {tg:List Nat} {it:Wk} {fr:List Nat} {many:Nat} {cond:Eo} (I:Nat->List D->S->Prop)
  (hw:W (wks sub true F it τ) s fun cn s1=>cn = (.fix c,c.length)/\I 0 [] s1)
  (hb:∀ i x acc s,c[i]? = some x->I i acc s->ExT (setTg tg x (blk many fr τ)) fun τ'=>W (evc sub true F cond τ') s fun b s1=>(b = true->W (ev sub true F elt τ') s1 fun y s2=>∃ d,y = .d d/\acc.length < sizeLine/\I (i + 1) (acc ++ [d]) s2)/\(b = false->I (i + 1) acc s1))
  (h:∀ acc s,I c.length acc s->W (newL fz acc) s P):W (ev sub true F (.comp fz elt tg it fr many cond) τ) s P:=by
 unfold ev
 rw [if_pos rfl]
 refine W.bd (hw.imp fun cn s1=>?_)
 rintro ⟨rfl,h0⟩
 refine W.bd ?_
 refine W.walk (c:=c) I h0 (fun i x acc s' e hI=>?_) (fun acc s' hI=>h acc s' hI)
 obtain ⟨τ',e1,h1⟩:=hb i x acc s' e hI
 refine W.bd (W.opt e1 ?_)
 refine W.bd (W.qt (h1.imp fun b s2=>?_))
 rintro ⟨h2,h3⟩
 cases b
 ·rw [if_neg (by decide)]
  exact W.ret (h3 rfl)
 ·rw [if_pos rfl]
  refine W.bd (W.qt ((h2 rfl).imp fun y s3=>?_))
  rintro ⟨d,rfl,hl,hi⟩
  refine W.bd (W.dat ?_)
  rw [if_pos hl]
  exact W.ret hi
theorem W.push {o a:E} (h:W (ev sub calm F o τ) s fun x s1=>W (Mi.lstAt x) s1 fun _ s2=>W (ev sub calm F a τ) s2 fun y s3=>W (Mi.dat y) s3 fun d s4=>W (Mi.lstAt x) s4 fun nx s5=>nx.2.length < sizeLine/\P (.d .non) (s5.set nx.1 (.lst (nx.2 ++ [d])))):W (ev sub calm F (.push o a) τ) s P:=by
 refine W.bd (h.imp fun x s1 h=>W.bd (h.imp fun _ s2 h=>W.bd (h.imp fun y s3 h=>W.bd (h.imp fun d s4 h=>W.bd (h.imp fun nx s5 h=>?_)))))
 rw [if_pos h.1]
 exact W.bd (W.putL (W.ret h.2))
end
theorem zdL {s:S} {o:SO}:(s ++ [o])[s.length]? = some o:=by simp
theorem zcw {s:S} {o o':SO}:(s ++ [o]).set s.length o' = s ++ [o']:=by simp
theorem go {P R:Prop} (k:R) (h:Bx R->P:=by
 intro k
 repeat (first | with_reducible first
   | refine WS.cons ?_ | refine WS.nil ?_ | refine WS.thn ?_ | refine WS.stNm ?_ | refine WS.stTp ?_ | refine WS.sNm ?_ | refine WS.sRet ?_ | refine WS.sIf ?_ | refine WS.sTp ?_ | refine WS.sSub ?_ | refine WS.sPar ?_ | refine WS.sEx ?_ | refine WS.sFor ?_ | refine WS.sRise ?_ | refine WS.ifT ?_ | refine WS.ifF ?_ | refine WS.ifY (by with_unfolding_all rfl) ?_ | refine WS.ifN (by with_unfolding_all rfl) ?_ | refine ExT.mk (by with_unfolding_all rfl) ?_
   | refine W.aCons ?_ | refine W.aNil ?_ | refine W.eC ?_ | refine W.eV (by with_unfolding_all rfl) ?_ | refine W.ePr ?_ | refine W.eCall ?_ | refine W.eTup ?_ | refine W.eLst ?_ | refine W.eNot ?_ | refine W.eAnd ?_ | refine W.eOr ?_ | refine W.eIte ?_ | refine W.isi ?_ | refine W.ch2 ?_ | refine W.push ?_ | refine W.eSl ?_ | refine W.eDct ?_ | refine W.oNo ?_ | refine W.oYes ?_ | refine W.kSeq ?_ | refine W.kRg ?_ | refine W.kZip ?_ | refine W.kEnum ?_ | refine W.cNo ?_ | refine W.cYes ?_ | refine W.ifT ?_ | refine W.ifF ?_ | refine W.ifY (by with_unfolding_all rfl) ?_ | refine W.ifN (by with_unfolding_all rfl) ?_
   | refine W.rds_cons ?_ | refine W.rds_nil ?_ | refine W.rd_d ?_ | refine W.rd_l (by with_unfolding_all rfl) ?_ | refine W.rd_l zdL ?_ | refine W.dats_cons ?_ | refine W.dats_nil ?_ | refine W.dat ?_ | refine W.bool ?_ | refine W.int ?_ | refine W.lstAt (by with_unfolding_all rfl) ?_ | refine W.lstAt zdL ?_ | refine W.putL ?_ | refine W.srcT ?_ | refine W.enumD ?_ | refine W.sqT ?_ | refine W.sqL ?_ | refine W.srcL ?_ | refine W.newT ?_ | refine W.newF ?_
   | refine W.outD (by first | (with_unfolding_all rfl) | exact zll (by first | (left; constructor <;> omega) | (right; constructor <;> omega)) | exact zk2 (by omega) | exact ziO (by omega) | exact zfD (by omega) | exact zma (by decide)) ?_ | refine W.outL (by with_unfolding_all rfl) ?_
   | refine W.ret ?_ | refine W.bd ?_
   | (dsimp only))
 all_goals exact k.o):P:=h ⟨k⟩
end Mi
set_option Elab.async false
set_option linter.all false
set_option maxRecDepth 100000
set_option maxHeartbeats 400000
namespace Mi
open PySem
noncomputable def lx (p q:Int × Int):Prop:=p.1 < q.1\/p.1 = q.1/\p.2 < q.2
noncomputable def webD (n:Int) (ps:List (Int × Int)):D:=.tup [.int n,.tup (ps.map prD)]
structure Web (n:Int) (ps:List (Int × Int)):Prop where
 h1:1<=n
 h8:n<=8
 tie:∀ p ∈ ps,0<=p.1/\p.1 < p.2/\p.2 < n
 inc:ps.Pairwise lx
 len:(ps.length:Int)<=7 * n
theorem zjV {xs:List D} (h:∀ x ∈ xs,x = .bl true):allBl xs = some (List.replicate xs.length true):=by
 induction xs with
 | nil=>rfl
 | cons x r ih=>
  rw [h x (by simp)]
  show Option.map _ (allBl r) = _
  rw [ih fun y hy=>h y (by simp [hy])]
  rfl
theorem ziQ {xs:List D} (h:∀ x ∈ xs,x = .bl true):prim .all [.fl xs] = some (.dat (.bl true)):=by
 show Option.map _ (allBl xs) = _
 rw [zjV h]
 simp
theorem zmB {p q:Int × Int} (h:lx p q):ltI [p.1,p.2] [q.1,q.2] = true:=by
 simp only [ltI]
 rcases h with h | ⟨h,h2⟩
 ·rw [if_neg (by omega)]; simp [h]
 ·rw [if_pos h,if_neg (by omega)]; simp [h2]
theorem cut1 (xs:List D):cut xs (some 1) none = xs.drop 1:=by
 unfold cut
 rw [HT.sIx_none]
 rw [show (some 1:Option Int) = some ((1:Nat):Int) from rfl,HT.sIx_nat]
 cases xs with
 | nil=>rfl
 | cons x r=>simp
theorem zi1:∀ {ps:List (Int × Int)},ps.Pairwise lx->∀ x ∈ List.zipWith (fun (p q:D)=>D.tup [p,q]) (ps.map prD) ((ps.map prD).drop 1),∃ p q,x = .tup [prD p,prD q]/\lx p q
 | [],_,x,hx=>by simp at hx
 | [p],_,x,hx=>by simp at hx
 | p::q::r,h,x,hx=>by
  rw [show (List.map prD (p::q::r)).drop 1 = List.map prD (q::r) from rfl] at hx
  have e:List.zipWith (fun (p q:D)=>D.tup [p,q]) (List.map prD (p::q::r)) (List.map prD (q::r)) = .tup [prD p,prD q]::List.zipWith (fun (p q:D)=>D.tup [p,q]) (List.map prD (q::r)) (List.map prD r):=rfl
  rw [e,List.mem_cons] at hx
  rcases hx with rfl | hx
  ·exact ⟨p,q,rfl,(List.pairwise_cons.mp h).1 q (by simp)⟩
  ·exact zi1 (ps:=q::r) (List.pairwise_cons.mp h).2 x hx
theorem ze0:∀ {es:List Int} {a n:Int},es.Pairwise (· < ·)->(∀ e ∈ es,a<=e/\e < n)->a<=n->(es.length:Int)<=n - a
 | [],a,n,_,_,h=>by simp; omega
 | e::r,a,n,h,hb,ha=>by
  obtain ⟨h1,h2⟩:=List.pairwise_cons.mp h
  have he:=hb e (by simp)
  have:=ze0 (es:=r) (a:=e + 1) (n:=n) h2 (fun x hx=>⟨by have:=h1 x hx; omega,(hb x (by simp [hx])).2⟩) (by omega)
  rw [List.length_cons]
  omega
theorem zf1 {a b:Int} {i:Nat} {x:D} (h:(rgL a b)[i]? = some x):x = .int (a + i)/\a + i < b:=by
 unfold rgL at h
 rw [List.getElem?_map] at h
 cases e:(List.range (b - a).toNat)[i]? with
 | none=>rw [e] at h; cases h
 | some j=>
  rw [e] at h
  cases h
  obtain ⟨hl,rfl⟩:=List.getElem?_eq_some_iff.mp e
  rw [List.length_range] at hl
  rw [List.getElem_range]
  exact ⟨rfl,by omega⟩
theorem zda {a b:Int}:(rgL a b).length = (b - a).toNat:=by unfold rgL; simp
theorem zbD {a:Int} (h1 : -1000<=a) (h2:a<=1000):rgOk a = true:=by
 unfold rgOk
 rw [decide_eq_true (by omega),decide_eq_true (by omega)]
 rfl
theorem W.callL {F:List Xv->M Xv} {s:S} {o:SO} {xs:List Xv} {P:Xv->S->Prop} (hl:locs xs = [s.length]) (h:W (F (renam 0 xs)) [o] fun v s1=>∃ d o',v = .d d/\s1 = [o']/\P (.d d) (s ++ [o'])):W (callW F xs) (s ++ [o]) P:=by
 refine W.call1 (n:=s.length) (o:=o) hl (by simp) (h.imp fun v s1=>?_)
 rintro ⟨d,o',rfl,rfl,hp⟩
 exact ⟨d,o',rfl,rfl,by rw [show (s ++ [o]).set s.length o' = s ++ [o'] by simp]; exact hp⟩
theorem zjB {ns:List Int} {lo hi:Option Int} {x:D} (h:x ∈ cut (ns.map D.int) lo hi):∃ n,x = .int n:=by
 have:=List.mem_of_mem_drop (List.mem_of_mem_take h)
 obtain ⟨n,_,rfl⟩:=List.mem_map.mp this
 exact ⟨n,rfl⟩
theorem zjR {ns:List Int} {lo hi:Option Int}:(cut (ns.map D.int) lo hi).length<=ns.length:=by
 unfold cut
 rw [List.length_take,List.length_drop,List.length_map]
 omega
end Mi
set_option Elab.async false
set_option linter.all false
set_option maxRecDepth 100000
set_option maxHeartbeats 400000
namespace Mi
open PySem
section
variable {sub:Nat->Nat->Bool} {F:Fn} {τ:Vs} {s:S} {P:Xv->S->Prop}
end
theorem zbU:∀ (is:List Int) (i:Int),best (fun a b=>decide (a > b)) i is ∈ i::is/\∀ x ∈ i::is,x<=best (fun a b=>decide (a > b)) i is
 | [],i=>by simp [best]
 | j::r,i=>by
  have e:best (fun a b=>decide (a > b)) i (j::r) = best (fun a b=>decide (a > b)) (if decide (j > i) = true then j else i) r:=rfl
  rw [e]
  by_cases h:j > i
  ·rw [if_pos (decide_eq_true h)]
   obtain ⟨h1,h2⟩:=zbU r j
   refine ⟨List.mem_cons_of_mem _ h1,fun x hx=>?_⟩
   rcases List.mem_cons.mp hx with rfl | hx
   ·have:=h2 j (by simp); omega
   ·exact h2 x hx
  ·rw [if_neg (by simp; omega)]
   obtain ⟨h1,h2⟩:=zbU r i
   refine ⟨?_,fun x hx=>?_⟩
   ·rcases List.mem_cons.mp h1 with h1 | h1
    ·rw [h1]; simp
    ·simp [h1]
   ·rcases List.mem_cons.mp hx with rfl | hx
    ·exact h2 x (by simp)
    ·rcases List.mem_cons.mp hx with rfl | hx
     ·have:=h2 i (by simp); omega
     ·exact h2 x (by simp [hx])
theorem zcm (fs:List Int):allInt (fs.map D.int) = some fs:=by
 induction fs with
 | nil=>rfl
 | cons a r ih=>
  show Option.map _ (allInt (r.map D.int)) = _
  rw [ih]
  rfl
end Mi
set_option Elab.async false
set_option linter.all false
set_option maxRecDepth 100000
set_option maxHeartbeats 400000
namespace Mi
open PySem
noncomputable def at' (fs:List Int) (j:Int):Int:=fs.getD j.toNat 0
theorem zg1 {fs:List Int} {j:Int} (h0:0<=j) (h:j < fs.length):∃ (i:Nat) (hi:i < fs.length),j = i/\at' fs j = fs[i]:=by
 obtain ⟨i,rfl⟩:=Int.eq_ofNat_of_zero_le h0
 have hi:i < fs.length:=by omega
 refine ⟨i,hi,rfl,?_⟩
 unfold at'
 rw [Int.toNat_natCast,List.getD_eq_getElem?_getD,List.getElem?_eq_getElem hi]
 rfl
theorem zi2 {fs:List Int} {j:Int} (h0:0<=j) (h:j < fs.length):at' fs j ∈ fs:=by
 obtain ⟨i,hi,_,e⟩:=zg1 h0 h
 rw [e]
 exact List.getElem_mem _
theorem zni {fs:List Int} {j:Int} (h0:0<=j) (h:j < fs.length):(fs.map D.int)[j.toNat]? = some (.int (at' fs j)):=by
 obtain ⟨i,hi,rfl,e⟩:=zg1 h0 h
 rw [e,Int.toNat_natCast,List.getElem?_map,List.getElem?_eq_getElem hi]
 rfl
theorem zba {fs gs:List Int} {j:Int} (h0:0<=j) (h:j < fs.length):at' (fs ++ gs) j = at' fs j:=by
 obtain ⟨i,hi,rfl,e⟩:=zg1 h0 h
 unfold at'
 rw [Int.toNat_natCast,List.getD_eq_getElem?_getD,List.getD_eq_getElem?_getD,List.getElem?_append_left hi]
theorem zcW {fs:List Int} {x:Int}:at' (fs ++ [x]) fs.length = x:=by
 unfold at'
 rw [Int.toNat_natCast,List.getD_eq_getElem?_getD,List.getElem?_append_right (Nat.le_refl _)]
 simp
theorem zmf {xs:List D} {j:Int} {x:D} (h0:0<=j) (h:xs[j.toNat]? = some x):prim .ix [.fl xs,.int j] = some (.dat x):=by
 obtain ⟨k,rfl⟩:=Int.eq_ofNat_of_zero_le h0
 exact zh1 h
theorem zi5 {fs:List Int} {j:Int} (h0:0<=j) (h:j < fs.length):prim .ix [.fl (fs.map .int),.int j] = some (.dat (.int (at' fs j))):=zmf h0 (zni h0 h)
theorem zfm {fs:List Int} {j:Int} (h0:0<=j) (h:j < fs.length):prim .ix [.tup (fs.map .int),.int j] = some (.dat (.int (at' fs j))):=zmf h0 (zni h0 h)
theorem zdz {n:Nat}:L2.ixN (n + 1) (-1) = some n:=by
 unfold L2.ixN
 simp
 omega
theorem zhO {xs:List D} {x:D}:prim .ix [.fl (xs ++ [x]),.int (-1)] = some (.dat x):=by
 show Option.map Rz.dat (L2.atI (xs ++ [x]) (-1)) = _
 have:L2.atI (xs ++ [x]) (-1) = some x:=by
  unfold L2.atI
  rw [List.length_append]
  show (L2.ixN (xs.length + 1) (-1)).bind _ = _
  rw [zdz]
  simp
 rw [this]
 rfl
noncomputable def gapI (k a b:Int):Int:=if k - (if a - b < 0 then -(a - b) else a - b) < (if a - b < 0 then -(a - b) else a - b) then k - (if a - b < 0 then -(a - b) else a - b) else (if a - b < 0 then -(a - b) else a - b)
theorem zlZ {k a b d:Int} (hd:1<=d):d<=gapI k a b ↔ (d<=a - b/\a - b<=k - d)\/(d<=b - a/\b - a<=k - d):=by
 unfold gapI
 split <;> split <;> omega
theorem zjl (j:Int) (ls:List Int):memD (.int j) (ls.map .int) = some (decide (j ∈ ls)):=by
 induction ls with
 | nil=>rfl
 | cons q r ih=>
  have hi:deq 50 (.int q) (.int j) = some (q == j):=rfl
  simp only [List.map_cons,memD,ih,hi]
  congr 1
  by_cases h:q = j
  ·subst h; simp
  ·have h2:¬ j = q:=fun e=>h e.symm
   simp [h,h2]
structure Hues (n k d:Int) (ps:List (Int × Int)) (hs:List Int):Prop where
 len:(hs.length:Int) = n
 lo:∀ x ∈ hs,0<=x/\x < k
 fit:∀ p ∈ ps,d<=gapI k (at' hs p.1) (at' hs p.2)
section
variable {sub:Nat->Nat->Bool} {calm:Bool} {F:Bool->Fn} {τ:Vs} {s:S} {Q:Out->S->Prop}
theorem WS.wh {c:E} {b:Sts} (I:Nat->Vs->S->Prop) {m:Nat} (hm:m < wFuel) (h0:I m τ s)
  (step:∀ m τ s,I m τ s->W (ev sub calm (F calm) c τ) s fun x s1=>W (Mi.bool x) s1 fun k s2=>(k = true->WS (exs sub calm F b τ) s2 fun o s3=>(∃ τ' m',o = .nx τ'/\m' < m/\I m' τ' s3)\/(∃ x,o = .rt x/\Q (.rt x) s3))/\(k = false->Q (.nx τ) s2)):WS (ex sub calm F (.wh c b) τ) s Q:=by
 have key:∀ n m τ s,m < n->I m τ s->WS (whileS (fun τ=>M.bd (ev sub calm (F calm) c τ) Mi.bool) (fun τ=>exs sub calm F b τ) n τ) s Q:=by
  intro n
  induction n with
  | zero=>intro m τ s h; exact absurd h (Nat.not_lt_zero _)
  | succ n ih=>
   intro m τ s hmn hI
   obtain ⟨x,s1,e1,k,s2,e2,hk⟩:=step m τ s hI
   unfold whileS
   refine WS.ofM (W.bd ⟨x,s1,e1,k,s2,e2,?_⟩)
   cases k with
   | false=>exact ⟨_,s2,by rw [if_neg (by decide)],hk.2 rfl⟩
   | true=>
    obtain ⟨o,s3,e3,hr⟩:=hk.1 rfl
    rcases hr with ⟨τ',m',rfl,hm',hI'⟩ | ⟨x,rfl,hq⟩
    ·obtain ⟨o2,s4,e4,q⟩:=ih m' τ' s3 (by omega) hI'
     exact ⟨o2,s4,by rw [if_pos rfl,e3]; exact e4,q⟩
    ·exact ⟨_,s3,by rw [if_pos rfl,e3],hq⟩
 exact key wFuel m τ s hm h0
end
section
variable {sub:Nat->Nat->Bool} {calm:Bool} {F:Fn} {τ:Vs} {s:S} {P:Xv->S->Prop}
theorem W.pop {o:E} {n:Nat} {xs:List D} {x:D} (h:W (ev sub calm F o τ) s fun v s1=>v = .l n/\s1[n]? = some (.lst (xs ++ [x]))/\P (.d x) (s1.set n (.lst xs))):W (ev sub calm F (.pop o) τ) s P:=by
 refine W.bd (h.imp fun v s1 h=>?_)
 obtain ⟨rfl,e,h⟩:=h
 refine W.bd (W.lstAt e ?_)
 have e1:(xs ++ [x]).getLast? = some x:=by simp
 have e2:(xs ++ [x]).dropLast = xs:=by simp
 simp only [e1,e2]
 exact W.bd (W.putL (W.ret h))
end
noncomputable def Ge (h r:List Int):Prop:=∀ j:Nat,j < r.length->(∀ i:Nat,i < j->at' h i = at' r i)->at' r j<=at' h j
theorem zhi {h r:List Int} (g:Ge h r) (h0:∀ j:Nat,0<=at' h j):Ge h (r ++ [0]):=by
 intro j hj ha
 rw [List.length_append] at hj
 by_cases hl:j < r.length
 ·rw [zba (by omega) (by omega)]
  exact g j hl fun i hi=>by rw [ha i hi,zba (by omega) (by omega)]
 ·have:j = r.length:=by simp at hj; omega
  subst this
  rw [zcW]
  exact h0 _
theorem ziN {h r:List Int} {x:Int} (g:Ge h (r ++ [x])) (hx:(∀ i:Nat,i < r.length->at' h i = at' r i)->at' h r.length ≠ x):Ge h (r ++ [x + 1]):=by
 intro j hj ha
 rw [List.length_append] at hj
 by_cases hl:j < r.length
 ·rw [zba (by omega) (by omega)]
  have:=g j (by rw [List.length_append]; omega) fun i hi=>by rw [ha i hi,zba (by omega) (by omega),zba (by omega) (by omega)]
  rwa [zba (by omega) (by omega)] at this
 ·have:j = r.length:=by simp at hj; omega
  subst this
  rw [zcW]
  have ha':∀ i:Nat,i < r.length->at' h i = at' r i:=fun i hi=>by rw [ha i hi,zba (by omega) (by omega)]
  have:=g r.length (by simp) fun i hi=>by rw [ha' i hi,zba (by omega) (by omega)]
  rw [zcW] at this
  have:=hx ha'
  omega
theorem zln {h r:List Int} {y x:Int} (g:Ge h (r ++ [y] ++ [x])) (hx:(∀ i:Nat,i < (r ++ [y]).length->at' h i = at' (r ++ [y]) i)->False):Ge h (r ++ [y + 1]):=by
 have g1:Ge h (r ++ [y]):=by
  intro j hj ha
  have:=g j (by rw [List.length_append]; omega) fun i hi=>by rw [ha i hi,zba (fs:=r ++ [y]) (gs:=[x]) (by omega) (by omega)]
  rwa [zba (by omega) (by omega)] at this
 refine ziN g1 fun ha e=>hx fun i hi=>?_
 rw [List.length_append] at hi
 by_cases hl:i < r.length
 ·rw [ha i hl,zba (by omega) (by omega)]
 ·have:i = r.length:=by simp at hi; omega
  subst this
  rw [zcW,e]
noncomputable def val (B:Nat):List Int->Nat->Nat
 | [],_=>0
 | x::r,n=>x.toNat * B ^ (n - 1) + val B r (n - 1)
theorem zbI (B:Nat):∀ (r t:List Int) (n:Nat),val B (r ++ t) n = val B r n + val B t (n - r.length)
 | [],t,n=>by simp [val]
 | x::r,t,n=>by
  simp only [List.cons_append,val,zbI B r t (n - 1),List.length_cons]
  rw [show n - 1 - r.length = n - (r.length + 1) by omega]
  omega
theorem zgg {B:Nat} (hB:0 < B):∀ {r:List Int} {n:Nat},(∀ z ∈ r,z < B)->r.length<=n->val B r n + B ^ (n - r.length)<=B ^ n
 | [],n,_,_=>by simp [val]
 | x::r,n,h,hl=>by
  rw [List.length_cons] at hl
  have ih:=zgg hB (r:=r) (n:=n - 1) (fun z hz=>h z (by simp [hz])) (by omega)
  have hx:x.toNat + 1<=B:=by have:=h x (by simp); omega
  simp only [val,List.length_cons]
  rw [show n - (r.length + 1) = n - 1 - r.length by omega]
  have h2:B ^ n = B * B ^ (n - 1):=by
   conv=>lhs; rw [show n = n - 1 + 1 by omega]
   rw [Nat.pow_succ,Nat.mul_comm]
  rw [h2]
  have h3:=Nat.mul_le_mul_right (B ^ (n - 1)) hx
  rw [Nat.succ_mul] at h3
  omega
noncomputable def left' (B n:Nat) (r:List Int):Nat:=(n + 1) * (B ^ n - val B r n) + (n - r.length)
theorem zgX {B n:Nat} {r:List Int} (h:r.length < n):left' B n (r ++ [0]) < left' B n r:=by
 unfold left'
 rw [zbI]
 simp [val]
 omega
theorem zg2 {B n a b la lb:Nat} (h:a < b) (hb:b<=B ^ n) (hl:la<=n) (hl2:lb<=n):(n + 1) * (B ^ n - b) + (n - lb) < (n + 1) * (B ^ n - a) + (n - la):=by
 have:B ^ n - b + 1<=B ^ n - a:=by omega
 have:=Nat.mul_le_mul_left (n + 1) this
 rw [Nat.mul_add] at this
 omega
theorem zik {B n:Nat} {r:List Int} {x:Int} (h0:0<=x) (hx:x + 1 < B) (hr:∀ z ∈ r,z < B) (h:r.length < n):left' B n (r ++ [x + 1]) < left' B n (r ++ [x]):=by
 have h1:=zgg (B:=B) (by omega) (r:=r ++ [x + 1]) (n:=n) (fun z hz=>by
  rcases List.mem_append.mp hz with hz | hz
  ·exact hr z hz
  ·have:z = x + 1:=by simpa using hz
   omega) (by rw [List.length_append]; simp; omega)
 unfold left'
 refine zg2 ?_ (by omega) (by simp; omega) (by simp; omega)
 rw [zbI,zbI]
 simp only [val]
 rw [show (x + 1).toNat = x.toNat + 1 by omega,Nat.succ_mul]
 have:0 < B ^ (n - r.length - 1):=Nat.pow_pos (by omega)
 omega
theorem zh2 {B n:Nat} {r:List Int} {y x:Int} (h0:0<=y) (hy:y + 1 < B) (hx0:0<=x) (hx:x < B) (hr:∀ z ∈ r,z < B) (h:r.length + 1 < n):left' B n (r ++ [y + 1]) < left' B n (r ++ [y] ++ [x]):=by
 have h1:=zgg (B:=B) (by omega) (r:=r ++ [y + 1]) (n:=n) (fun z hz=>by
  rcases List.mem_append.mp hz with hz | hz
  ·exact hr z hz
  ·have:z = y + 1:=by simpa using hz
   omega) (by rw [List.length_append]; simp; omega)
 unfold left'
 refine zg2 ?_ (by omega) (by simp; omega) (by simp; omega)
 rw [zbI,zbI,zbI]
 simp only [val,List.length_append]
 rw [show (y + 1).toNat = y.toNat + 1 by omega,Nat.succ_mul]
 have e1:B ^ (n - r.length - 1) = B * B ^ (n - (r.length + [y].length) - 1):=by
  conv=>lhs; rw [show n - r.length - 1 = n - (r.length + [y].length) - 1 + 1 by simp; omega]
  rw [Nat.pow_succ,Nat.mul_comm]
 have h2:x.toNat + 1<=B:=by omega
 have h3:=Nat.mul_le_mul_right (B ^ (n - (r.length + [y].length) - 1)) h2
 rw [Nat.succ_mul] at h3
 have:0 < B ^ (n - (r.length + [y].length) - 1):=Nat.pow_pos (by omega)
 omega
end Mi
set_option Elab.async false
set_option linter.all false
set_option maxRecDepth 100000
set_option maxHeartbeats 400000
namespace Mi
open PySem
theorem zkS {m:Nat} {f:Nat->Int} {j:Int} (h0:0<=j) (h:j < m):at' ((List.range m).map f) j = f j.toNat:=by
 unfold at'
 rw [List.getD_eq_getElem?_getD,List.getElem?_map,List.getElem?_range (by omega)]
 rfl
theorem zjf (xs:List D):deq 50 (.fl xs) (.fl []) = some (decide (xs = [])):=by
 cases xs with
 | nil=>rfl
 | cons x r=>rfl
theorem zhK {f:Bool->Bool} {xs:List D}:pEq f [.fl xs,.fl []] = some (.dat (.bl (f (decide (xs = []))))):=by
 show Option.map _ (deq 50 (.fl xs) (.fl [])) = _
 rw [zjf]
 rfl
theorem zm5 {f:Bool->Bool} {j:Int} {ls:List Int}:pIn f [.int j,.fl (ls.map .int)] = some (.dat (.bl (f (decide (j ∈ ls))))):=by
 show Option.map _ (memD (.int j) (ls.map .int)) = _
 rw [zjl]
 rfl
section
variable {n k d:Int} {ps:List (Int × Int)} {ls:List Int}
end
end Mi
set_option Elab.async false
set_option linter.all false
set_option maxRecDepth 100000
set_option maxHeartbeats 400000
namespace Mi
open PySem
section
variable {sub:Nat->Nat->Bool} {F:Fn} {τ:Vs} {s:S} {P:Xv->S->Prop}
end
theorem zee {α:Type} {l:List α} {f:α->D}:l.filterMap (fun x=>some (f x)) = l.map f:=by
 rw [<- List.filterMap_eq_map]
 rfl
theorem zmW {α:Type} {l:List α} {f:α->D} {q:α->Prop} [DecidablePred q]:l.filterMap (fun x=>if q x then some (f x) else none) = (l.filter fun x=>decide (q x)).map f:=by
 induction l with
 | nil=>rfl
 | cons x r ih=>
  rw [List.filterMap_cons,List.filter_cons]
  by_cases e:q x
  ·simp [e,ih]
  ·simp [e,ih]
theorem WS.forQ {c:List D} {b:D->Vs->MS} {τ:Vs} {s:S} {Q:Out->S->Prop} (I:Nat->Vs->S->Prop) (h0:I 0 τ s) (hb:∀ i x τ s,c[i]? = some x->I i τ s->WS (b x τ) s fun o s'=>(∃ τ',o = .nx τ'/\I (i + 1) τ' s')\/(∃ x,o = .rt x/\Q (.rt x) s'))
  (he:∀ τ s,I c.length τ s->Q (.nx τ) s):WS (forS (.fix c) b (c.length + 1) 0 τ) s Q:=by
 have key:∀ n i τ s,i + n = c.length->I i τ s->WS (forS (.fix c) b (n + 1) i τ) s Q:=by
  intro n
  induction n with
  | zero=>
   intro i τ s hi hI
   have e:c[i]? = none:=by rw [List.getElem?_eq_none_iff]; omega
   have:i = c.length:=by omega
   subst this
   refine ⟨_,s,?_,he τ s hI⟩
   unfold forS
   simp only [Src.at,e]
  | succ n ih=>
   intro i τ s hi hI
   have hlt:i < c.length:=by omega
   have e:c[i]? = some c[i]:=List.getElem?_eq_getElem hlt
   obtain ⟨o,s',eb,hr⟩:=hb i c[i] τ s e hI
   rcases hr with ⟨τ',rfl,hI'⟩ | ⟨x,rfl,hq⟩
   ·obtain ⟨o2,s2,e2,q⟩:=ih (i + 1) τ' s' (by omega) hI'
    refine ⟨o2,s2,?_,q⟩
    unfold forS
    simp only [Src.at,e,eb]
    exact e2
   ·refine ⟨_,s',?_,hq⟩
    unfold forS
    simp only [Src.at,e,eb]
 exact key c.length 0 τ s (by omega) h0
noncomputable def uptoL (n:Nat):List Int:=(List.range n).map fun (k:Nat)=>(k:Int)
theorem zdo {n:Nat} {j:Int} (h0:0<=j) (h:j < n):at' (uptoL n) j = j:=by
 unfold uptoL
 rw [zkS h0 h]
 omega
theorem zgn {n K:Int} {ps:List (Int × Int)} (w:Web n ps) (hK:n<=K):Hues n K 1 ps (uptoL n.toNat) where
 len:=by have:=w.h1; unfold uptoL; simp; omega
 lo:=fun x hx=>by
  unfold uptoL at hx
  obtain ⟨i,hi,rfl⟩:=List.mem_map.mp hx
  have:=List.mem_range.mp hi
  omega
 fit:=fun p hp=>by
  have ht:=w.tie p hp
  rw [zdo (by omega) (by omega),zdo (by omega) (by omega),zlZ (by omega)]
  omega
theorem zfq {xs ys:List D} (h:xs.length + ys.length<=sizeLine):prim .add [.tup xs,.tup ys] = some (.dat (.tup (xs ++ ys))):=by
 show (if _ then _ else _) = _
 rw [if_pos h]
end Mi
set_option Elab.async false
set_option linter.all false
set_option maxRecDepth 100000
set_option maxHeartbeats 400000
namespace Mi
open PySem
noncomputable def okE:D->Bool
 | .exc _ _=>false
 | .ob _ _=>false
 | _=>true
noncomputable def whB:D->Bool
 | .int _=>true
 | _=>false
noncomputable def nnB:D->Bool
 | .int i=>decide (0<=i)
 | _=>false
noncomputable def okT:D->Bool
 | .tup xs=>xs.all okE
 | d=>okE d
theorem zgq {α:Type} (l:List α) (f:α->Bool):allBl (l.map fun x=>D.bl (f x)) = some (l.map f):=by
 induction l with
 | nil=>rfl
 | cons x r ih=>
  show Option.map _ (allBl (r.map fun x=>D.bl (f x))) = _
  rw [ih]
  rfl
theorem zhr {α:Type} {l:List α} {f:α->Bool}:prim .all [.fl (l.map fun x=>D.bl (f x))] = some (.dat (.bl (l.all f))):=by
 show Option.map _ (allBl (l.map fun x=>D.bl (f x))) = _
 rw [zgq]
 show some (Rz.dat (.bl ((l.map f).all id))) = _
 rw [List.all_map]
 rfl
theorem zcT:∀ {xs:List D},xs.all whB = true->∃ is:List Int,xs = is.map .int
 | [],_=>⟨[],rfl⟩
 | d::r,h=>by
  rw [List.all_cons,Bool.and_eq_true] at h
  obtain ⟨is,rfl⟩:=zcT h.2
  cases d with
  | int i=>exact ⟨i::is,rfl⟩
  | _=>exact absurd h.1 (by simp [whB])
theorem zgE:∀ {xs:List D},xs.all nnB = true->∃ is:List Int,xs = is.map .int/\∀ i ∈ is,0<=i
 | [],_=>⟨[],rfl,by simp⟩
 | d::r,h=>by
  rw [List.all_cons,Bool.and_eq_true] at h
  obtain ⟨is,rfl,hi⟩:=zgE h.2
  cases d with
  | int i=>exact ⟨i::is,rfl,by
    intro j hj
    rcases List.mem_cons.mp hj with rfl | hj
    ·exact of_decide_eq_true h.1
    ·exact hi j hj⟩
  | _=>exact absurd h.1 (by simp [nnB])
noncomputable def plI (n:Int) (ps:List (Int × Int)) (is:List Int):Bool:=decide ((is.length:Int) = n) && is.all (fun i=>decide (0<=i)) && ps.all fun p=>decide (at' is p.1 ≠ at' is p.2)
noncomputable def plD (n:Int) (ps:List (Int × Int)):D->Bool
 | .tup xs=>match allInt xs with
  | some is=>plI n ps is
  | none=>false
 | _=>false
theorem zbZ {n:Int} {ps:List (Int × Int)} {is:List Int}:plD n ps (.tup (is.map .int)) = plI n ps is:=by
 show (match allInt (is.map D.int) with | some is=>plI n ps is | none=>false) = _
 rw [zcm]
theorem zbj {xs:List D} (h:xs.all whB = false):allInt xs = none:=by
 induction xs with
 | nil=>cases h
 | cons d r ih=>
  cases d with
  | int i=>
   rw [List.all_cons] at h
   show Option.map _ (allInt r) = none
   rw [ih (by simpa [whB] using h)]
   rfl
  | _=>rfl
theorem zdB:∀ (is:List Int) (i:Int),best (fun a b=>decide (a < b)) i is ∈ i::is/\∀ x ∈ i::is,best (fun a b=>decide (a < b)) i is<=x
 | [],i=>by simp [best]
 | j::r,i=>by
  have e:best (fun a b=>decide (a < b)) i (j::r) = best (fun a b=>decide (a < b)) (if decide (j < i) = true then j else i) r:=rfl
  rw [e]
  by_cases h:j < i
  ·rw [if_pos (decide_eq_true h)]
   obtain ⟨h1,h2⟩:=zdB r j
   refine ⟨List.mem_cons_of_mem _ h1,fun x hx=>?_⟩
   rcases List.mem_cons.mp hx with rfl | hx
   ·have:=h2 j (by simp); omega
   ·exact h2 x hx
  ·rw [if_neg (by simp; omega)]
   obtain ⟨h1,h2⟩:=zdB r i
   refine ⟨?_,fun x hx=>?_⟩
   ·rcases List.mem_cons.mp h1 with h1 | h1
    ·rw [h1]; simp
    ·simp [h1]
   ·rcases List.mem_cons.mp hx with rfl | hx
    ·exact h2 x (by simp)
    ·rcases List.mem_cons.mp hx with rfl | hx
     ·have:=h2 i (by simp); omega
     ·exact h2 x (by simp [hx])
theorem zlw {fs:List Int} (h:fs ≠ []):∃ r,prim .minL [.tup (fs.map .int)] = some (.dat (.int r))/\r ∈ fs/\∀ x ∈ fs,r<=x:=by
 cases fs with
 | nil=>exact absurd rfl h
 | cons i is=>
  refine ⟨_,?_,zdB is i⟩
  show bestO _ (allInt ((i::is).map D.int)) = _
  rw [zcm]
  rfl
noncomputable def mxL:List Int->Int
 | []=>0
 | i::is=>best (fun a b=>decide (a > b)) i is
theorem zl9 {fs:List Int} (h:fs ≠ []):prim .maxL [.tup (fs.map .int)] = some (.dat (.int (mxL fs))):=by
 cases fs with
 | nil=>exact absurd rfl h
 | cons i is=>
  show bestO _ (allInt ((i::is).map D.int)) = _
  rw [zcm]
  rfl
theorem zk1 {fs:List Int} (h:fs ≠ []):mxL fs ∈ fs:=by
 cases fs with
 | nil=>exact absurd rfl h
 | cons i is=>exact (zbU is i).1
theorem zmM {fs:List Int} {x:Int} (h:x ∈ fs):x<=mxL fs:=by
 cases fs with
 | nil=>cases h
 | cons i is=>exact (zbU is i).2 x h
theorem zhu {xs:List D} {lo hi:Option Int} {x:D} (h:x ∈ cut xs lo hi):x ∈ xs:=List.mem_of_mem_drop (List.mem_of_mem_take h)
theorem zgH {xs:List D} {lo hi:Option Int}:(cut xs lo hi).length<=xs.length:=by
 unfold cut
 rw [List.length_take,List.length_drop]
 omega
end Mi
set_option Elab.async false
set_option linter.all false
set_option maxRecDepth 100000
set_option maxHeartbeats 400000
namespace Mi
open PySem
section
variable {n m:Int} {ps:List (Int × Int)}
structure GoodP (n m:Int) (ps:List (Int × Int)) (h:List Int):Prop where
 len:(h.length:Int) = n
 lo:∀ x ∈ h,0<=x/\x < m
 ne:∀ p ∈ ps,at' h p.1 ≠ at' h p.2
structure PSt (n m:Int) (ps:List (Int × Int)) (r:List Int) (x:Int):Prop where
 lo:∀ z ∈ r,0<=z/\z < m
 x0:0<=x
 xm:x<=m
 len:(r.length:Int)<=n
 ge:∀ h,GoodP n m ps h->Ge h (r ++ [x])
theorem zfe {h:List Int} (g:GoodP n m ps h) (j:Nat):0<=at' h j:=by
 by_cases hj:j < h.length
 ·exact (g.lo _ (zi2 (by omega) (by omega))).1
 ·unfold at'
  rw [Int.toNat_natCast,List.getD_eq_getElem?_getD,List.getElem?_eq_none (by omega)]
  exact Int.le_refl _
theorem pst0 (hn:1<=n) (hm:1<=m):PSt n m ps [] 0 where
 lo:=by simp
 x0:=by omega
 xm:=by omega
 len:=by simp; omega
 ge:=fun h g=>zhi (r:=[]) (fun j hj=>by simp at hj) (zfe g)
theorem ziH {r:List Int} (S:PSt n m ps r m) (hl:(r.length:Int) < n) {h:List Int} (g:GoodP n m ps h) (ha:∀ i:Nat,i < r.length->at' h i = at' r i):False:=by
 have hge:=S.ge h g r.length (by simp) fun i hi=>by rw [ha i hi,zba (by omega) (by omega)]
 rw [zcW] at hge
 have hlen:=g.len
 have:=(g.lo _ (zi2 (fs:=h) (j:=(r.length:Nat)) (by omega) (by omega))).2
 omega
theorem zjo {r:List Int} {y:Int} (S:PSt n m ps (r ++ [y]) m) (hl:((r ++ [y]).length:Int) < n):PSt n m ps r (y + 1) where
 lo:=fun z hz=>S.lo z (List.mem_append_left _ hz)
 x0:=by have:=S.lo y (by simp); omega
 xm:=by have:=S.lo y (by simp); omega
 len:=by have:=S.len; rw [List.length_append] at this; simp at this; omega
 ge:=fun h g=>zln (S.ge h g) fun ha=>ziH S hl g ha
theorem zj3 (w:Web n ps) {r:List Int} {x:Int} (S:PSt n m ps r x) (hx:x ≠ m) (hn:∃ p ∈ ps,p.2 = r.length/\at' (r ++ [x]) p.1 = x):PSt n m ps r (x + 1) where
 lo:=S.lo
 x0:=by have:=S.x0; omega
 xm:=by have:=S.xm; omega
 len:=S.len
 ge:=fun h g=>ziN (S.ge h g) fun ha e=>by
  obtain ⟨p,hp,e2,hg⟩:=hn
  have ht:=w.tie p hp
  have:=g.ne p hp
  rw [e2,e] at this
  obtain ⟨i,hi⟩:=Int.eq_ofNat_of_zero_le ht.1
  rw [hi,ha i (by omega)] at this
  rw [hi,zba (by omega) (by omega)] at hg
  exact this hg
theorem zil {r:List Int} {x:Int} (S:PSt n m ps r x) (hm:1<=m) (hx:x ≠ m) (hl:(r.length:Int) < n):PSt n m ps (r ++ [x]) 0 where
 lo:=fun z hz=>by
  rcases List.mem_append.mp hz with hz | hz
  ·exact S.lo z hz
  ·have:z = x:=by simpa using hz
   have:=S.x0
   have:=S.xm
   omega
 x0:=by omega
 xm:=by omega
 len:=by rw [List.length_append]; simp; omega
 ge:=fun h g=>zhi (S.ge h g) (zfe g)
theorem ziq (w:Web n ps):GoodP n n ps (uptoL n.toNat) where
 len:=(zgn w (Int.le_refl n)).len
 lo:=(zgn w (Int.le_refl n)).lo
 ne:=fun p hp=>by
  have ht:=w.tie p hp
  rw [zdo (by omega) (by omega),zdo (by omega) (by omega)]
  omega
end
theorem bnd7 {n m:Int} (hn:n<=8) (hm:m<=8):((n + 1).toNat + 1) * (m.toNat + 1) ^ (n + 1).toNat + (n + 1).toNat < 1000000000000:=by
 have h1:(m.toNat + 1) ^ (n + 1).toNat<=9 ^ (n + 1).toNat:=Nat.pow_le_pow_left (by omega) _
 have h2:9 ^ (n + 1).toNat<=9 ^ 9:=Nat.pow_le_pow_right (by decide) (by omega)
 have h3:((n + 1).toNat + 1) * (m.toNat + 1) ^ (n + 1).toNat<=10 * 9 ^ 9:=Nat.mul_le_mul (by omega) (by omega)
 have h4:10 * 9 ^ 9 = 3874204890:=by decide
 omega
theorem cutM1 {xs:List D} {x:D}:cut (xs ++ [x]) none (some (-1)) = xs:=by
 unfold cut
 rw [HT.sIx_none]
 have h1:=HT.clip_eq (-1) (xs ++ [x]).length (xs ++ [x]).length
 rw [if_pos (by omega)] at h1
 have h2:HT.sIx (xs ++ [x]).length (xs ++ [x]).length (some (-1)) = xs.length:=by
  rw [List.length_append] at h1 ⊢
  simp at h1 ⊢
  omega
 rw [h2]
 simp
end Mi
set_option Elab.async false
set_option linter.all false
set_option maxRecDepth 100000
set_option maxHeartbeats 400000
namespace Mi
open PySem
noncomputable def Rp (d:D):Prop:=∃ t,prim .repr [d] = some (.dat (.str t))
noncomputable def rpN (n:Nat) (x:D):Prop:=∃ p,pd n x = some p/\p.showable = true/\p.leavesShort 40 = true/\p.weight<=1000
theorem zg4 {d:D} {p:PyData} (h:pdT d = some p) (hs:p.showable = true) (hl:p.leavesShort 40 = true) (hw:p.weight<=200000):Rp d:=by
 refine ⟨p.shown,?_⟩
 show (pdT d).bind shw = _
 rw [h]
 show shw p = _
 unfold shw
 have h1:=PyData.shown_le 40 (by decide) p hl
 have h2:sizeLine = 16777216:=sizeLine_eq
 rw [if_pos ⟨hs,by omega⟩]
theorem zeH {n:Nat}:∀ {xs:List D},(∀ x ∈ xs,rpN n x)->∃ ps,pds (pd n) xs = some ps/\PyData.showableAll ps = true/\PyData.leavesShortAll 40 ps = true/\PyData.weightAll ps<=xs.length * 1001
 | [],_=>⟨[],rfl,rfl,rfl,Nat.le_refl _⟩
 | x::r,h=>by
  obtain ⟨p,e1,e2,e3,e4⟩:=h x (by simp)
  obtain ⟨ps,f1,f2,f3,f4⟩:=zeH (xs:=r) fun y hy=>h y (List.mem_cons_of_mem _ hy)
  refine ⟨p::ps,?_,?_,?_,?_⟩
  ·unfold pds; rw [e1,f1]
  ·simp only [PyData.showableAll,e2,f2,Bool.and_self]
  ·simp only [PyData.leavesShortAll,e3,f3,Bool.and_self]
  ·simp only [PyData.weightAll,List.length_cons]; omega
theorem zlN {xs:List D} (h:∀ x ∈ xs,rpN 39 x) (hl:xs.length<=100):Rp (.tup xs):=by
 obtain ⟨ps,f1,f2,f3,f4⟩:=zeH h
 exact zg4 (p:=.tuple ps) (by show Option.map _ (pds (pd 39) xs) = _; rw [f1]; rfl) (by simp only [PyData.showable]; exact f2) (by simp only [PyData.leavesShort]; exact f3) (by simp only [PyData.weight]; omega)
theorem zmE {xs:List D} (h:∀ x ∈ xs,rpN 39 x) (hl:xs.length<=100):Rp (.fl xs):=by
 obtain ⟨ps,f1,f2,f3,f4⟩:=zeH h
 exact zg4 (p:=.list ps) (by show Option.map _ (pds (pd 39) xs) = _; rw [f1]; rfl) (by simp only [PyData.showable]; exact f2) (by simp only [PyData.leavesShort]; exact f3) (by simp only [PyData.weight]; omega)
theorem zfn {n k:Nat} (hk:0 < k) (h:n < 2 ^ k):n.log2 < k:=by
 by_cases z:n = 0
 ·subst z; simpa using hk
 ·exact (Nat.log2_lt z).mpr h
theorem zgS {n:Nat} {i:Int} (h:i.natAbs < 10 ^ 38):rpN n (.int i):=by
 have h2:i.natAbs < 2 ^ 127:=Nat.lt_trans h (by decide)
 have h3:=zfn (by decide) h2
 refine ⟨.int i,by cases n <;> rfl,?_,?_,?_⟩
 ·simp only [PyData.showable]; exact decide_eq_true (by omega)
 ·have e:=int_text_length_le10 (k:=38) (by decide) h
  simp only [PyData.leavesShort]
  refine decide_eq_true ?_
  show (Str.ofString (toString i)).length<=40
  rw [ofString_length]
  omega
 ·simp only [PyData.weight]
  split <;> omega
theorem zja {n:Nat} {is:List Int} (hl:is.length<=8) (h:∀ i ∈ is,i.natAbs < 2 ^ 100):rpN (n + 1) (.tup (is.map .int)):=by
 have key:∀ {js:List Int},(∀ i ∈ js,i.natAbs < 2 ^ 100)->∃ ps,pds (pd n) (js.map .int) = some ps/\PyData.showableAll ps = true/\PyData.leavesShortAll 40 ps = true/\PyData.weightAll ps<=js.length * 102:=by
  intro js
  induction js with
  | nil=>intro _; exact ⟨[],rfl,rfl,rfl,Nat.le_refl _⟩
  | cons i r ih=>
   intro h
   obtain ⟨ps,f1,f2,f3,f4⟩:=ih fun y hy=>h y (by simp [hy])
   have hi:=h i (by simp)
   obtain ⟨p,e1,e2,e3,_⟩:=zgS (n:=n) (i:=i) (Nat.lt_trans hi (by decide))
   have ep:pd n (.int i) = some (.int i):=by cases n <;> rfl
   rw [ep] at e1
   cases e1
   refine ⟨.int i::ps,?_,?_,?_,?_⟩
   ·show pds (pd n) (.int i::r.map .int) = _
    unfold pds; rw [ep,f1]
   ·simp only [PyData.showableAll,e2,f2,Bool.and_self]
   ·simp only [PyData.leavesShortAll,e3,f3,Bool.and_self]
   ·have hlg:=zfn (by decide) hi
    simp only [PyData.weightAll,PyData.weight,List.length_cons]
    split <;> omega
 obtain ⟨ps,f1,f2,f3,f4⟩:=key h
 exact ⟨.tuple ps,by show Option.map _ (pds (pd n) _) = _; rw [f1]; rfl,by simp only [PyData.showable]; exact f2,by simp only [PyData.leavesShort]; exact f3,by simp only [PyData.weight]; omega⟩
theorem at'_mem {zs:List Int} {i:Int}:at' zs i ∈ zs\/at' zs i = 0:=by
 unfold at'
 cases e:zs[i.toNat]? with
 | none=>right; rw [List.getD_eq_getElem?_getD,e]; rfl
 | some x=>left; rw [List.getD_eq_getElem?_getD,e]; exact List.mem_of_getElem? e
theorem zmt {r:List Int} {x j:Int} (h0:0<=j) (h:j < (r.length:Int) + 1):prim .ix [.fl (r.map .int ++ [.int x]),.int j] = some (.dat (.int (at' (r ++ [x]) j))):=by
 have:=zi5 (fs:=r ++ [x]) h0 (by rw [List.length_append]; simp; omega)
 rwa [List.map_append] at this
end Mi
set_option Elab.async false
set_option linter.all false
set_option maxRecDepth 100000
set_option maxHeartbeats 400000
namespace G42
open PySem Mi
noncomputable def b0:Sts:=(.cons (.ret (.and (.isi (.v 0) .int) (.not (.isi (.v 0) .bool))))
 .nil)
noncomputable def b1:Sts:=(.cons (.ret (.and (.call 0 (.cons (.v 0) .nil)) (.ch2 .le .le (.v 1) (.v 0) (.v 2))))
 .nil)
noncomputable def b2:Sts:=(.cons (.ret (.and (.isi (.v 0) .tuple) (.pr true .eq (.cons (.pr true .len (.cons (.v 0) .nil)) (.cons (.v 1) .nil)))))
 .nil)
noncomputable def b3:Sts:=(.cons (.iff (.not (.call 2 (.cons (.v 0) (.cons (.c (.int 2)) .nil)))) (.cons (.ret (.c (.bl false)))
 .nil) .nil)
 (.cons (.asg (.tp [1,2]) (.v 0))
 (.cons (.iff (.or (.not (.call 4 (.cons (.v 1) .nil))) (.not (.isi (.v 2) .tuple))) (.cons (.ret (.c (.bl false)))
 .nil) .nil)
 (.cons (.iff (.not (.pr true .all (.cons (.comp true (.call 6 (.cons (.v 1) (.cons (.v 0) .nil))) [0] (.seq (.v 2)) [1] 1 .no) .nil))) (.cons (.ret (.c (.bl false)))
 .nil) .nil)
 (.cons (.ret (.pr true .all (.cons (.comp true (.pr true .lt (.cons (.v 0) (.cons (.v 1) .nil))) [0,1] (.zip (.v 2) (.sl true (.v 2) (.yes (.c (.int 1))) .no)) [] 2 .no) .nil)))
 .nil)))))
noncomputable def b4:Sts:=(.cons (.ret (.call 1 (.cons (.v 0) (.cons (.c (.int 1)) (.cons (.c (.int 8)) .nil)))))
 .nil)
noncomputable def b5:Sts:=(.cons (.ret (.call 1 (.cons (.v 1) (.cons (.c (.int 0)) (.cons (.pr true .sub (.cons (.v 0) (.cons (.c (.int 1)) .nil))) .nil)))))
 .nil)
noncomputable def b6:Sts:=(.cons (.iff (.not (.call 2 (.cons (.v 1) (.cons (.c (.int 2)) .nil)))) (.cons (.ret (.c (.bl false)))
 .nil) .nil)
 (.cons (.asg (.tp [2,3]) (.v 1))
 (.cons (.ret (.and (.call 5 (.cons (.v 0) (.cons (.v 2) .nil))) (.and (.call 5 (.cons (.v 0) (.cons (.v 3) .nil))) (.pr true .lt (.cons (.v 2) (.cons (.v 3) .nil))))))
 .nil)))
noncomputable def b7:Sts:=(.cons (.iff (.not (.call 3 (.cons (.v 0) .nil))) (.cons (.rise 1 true (.cons (.pr true .neg (.cons (.c (.int 1)) .nil)) .nil))
 .nil) .nil)
 .nil)
noncomputable def b8:Sts:=(.cons (.ex (.call 7 (.cons (.v 0) .nil)))
 (.cons (.iff (.or (.not (.call 2 (.cons (.v 1) (.cons (.pr true .ix (.cons (.v 0) (.cons (.c (.int 0)) .nil))) .nil)))) (.not (.pr true .all (.cons (.comp true (.and (.call 0 (.cons (.v 0) .nil)) (.pr true .ge (.cons (.v 0) (.cons (.c (.int 0)) .nil)))) [0] (.seq (.v 1)) [] 1 .no) .nil)))) (.cons (.ret (.c (.bl false)))
 .nil) .nil)
 (.cons (.ret (.pr true .all (.cons (.comp true (.pr true .ne (.cons (.pr true .ix (.cons (.v 2) (.cons (.v 0) .nil))) (.cons (.pr true .ix (.cons (.v 2) (.cons (.v 1) .nil))) .nil))) [0,1] (.seq (.pr true .ix (.cons (.v 0) (.cons (.c (.int 1)) .nil)))) [1] 2 .no) .nil)))
 .nil)))
noncomputable def b9:Sts:=(.cons (.iff (.pr true .lt (.cons (.v 1) (.cons (.pr true .len (.cons (.v 0) .nil)) .nil))) (.cons (.ret (.pr true .ix (.cons (.v 0) (.cons (.v 1) .nil))))
 .nil) .nil)
 (.cons (.ret (.c (.int 0)))
 .nil))
noncomputable def b10:Sts:=(.cons (.asg (.nm 1) (.pr true .max2 (.cons (.v 0) (.cons (.pr true .sub (.cons (.c (.int 0)) (.cons (.v 0) .nil))) .nil))))
 (.cons (.ret (.lst false (.cons (.v 1) (.cons (.pr true .int1 (.cons (.pr true .ge (.cons (.v 1) (.cons (.pr true .pow (.cons (.c (.int 10)) (.cons (.c (.int 18)) .nil))) .nil))) .nil)) .nil))))
 .nil))
noncomputable def b11:Sts:=(.cons (.iff (.pr true .eq (.cons (.pr true .ix (.cons (.v 0) (.cons (.c (.int 1)) .nil))) (.cons (.c (.int 1)) .nil))) (.cons (.asg (.tp [2,3]) (.pr true .divmod (.cons (.pr true .ix (.cons (.v 0) (.cons (.c (.int 0)) .nil))) (.cons (.v 1) .nil))))
 (.cons (.asg (.sub (.v 0) (.c (.int 0))) (.v 2))
 (.cons (.ret (.v 3))
 .nil))) .nil)
 (.cons (.asg (.nm 4) (.pr true .mod (.cons (.pr true .mul (.cons (.pr true .add (.cons (.pr true .mod (.cons (.pr true .ix (.cons (.v 0) (.cons (.c (.int 0)) .nil))) (.cons (.c (.int 2147483647)) .nil))) (.cons (.c (.int 40503)) .nil))) (.cons (.c (.int 69621)) .nil))) (.cons (.c (.int 2147483629)) .nil))))
 (.cons (.asg (.nm 4) (.pr true .mod (.cons (.pr true .add (.cons (.pr true .mul (.cons (.v 4) (.cons (.v 4) .nil))) (.cons (.c (.int 7817)) .nil))) (.cons (.c (.int 2147483587)) .nil))))
 (.cons (.asg (.sub (.v 0) (.c (.int 0))) (.pr true .mod (.cons (.pr true .add (.cons (.pr true .mul (.cons (.v 4) (.cons (.c (.int 48271)) .nil))) (.cons (.c (.int 11)) .nil))) (.cons (.c (.int 2147483629)) .nil))))
 (.cons (.ret (.pr true .mod (.cons (.pr true .fdiv (.cons (.pr true .ix (.cons (.v 0) (.cons (.c (.int 0)) .nil))) (.cons (.c (.int 32)) .nil))) (.cons (.v 1) .nil))))
 .nil)))))
noncomputable def b12:Sts:=(.cons (.ret (.and (.isi (.v 0) .int) (.not (.isi (.v 0) .bool))))
 .nil)
noncomputable def b13:Sts:=(.cons (.asg (.nm 1) (.lst true (.cons (.c .non) (.cons (.c (.bl true)) (.cons (.c (.bl false)) (.cons (.pr true .neg (.cons (.c (.int 1)) .nil)) (.cons (.c (.str "1")) (.cons (.c (.str "")) (.cons (.tup .nil) (.cons (.lst true .nil) (.cons (.tup (.cons (.c (.int 0)) .nil)) (.cons (.lst true (.cons (.c (.int 0)) .nil)) (.cons (.dct1 "a" 1) (.cons (.tup (.cons (.c (.int 0)) (.cons (.c (.int 1)) .nil))) (.cons (.pr true .pow (.cons (.c (.int 10)) (.cons (.c (.int 30)) .nil))) (.cons (.tup (.cons (.c (.int 0)) (.cons (.tup .nil) .nil))) (.cons (.tup (.cons (.c (.str "ab")) .nil)) .nil)))))))))))))))))
 (.cons (.ret (.pr true .ix (.cons (.pr true .add (.cons (.v 1) (.cons (.lst true (.cons (.tup (.cons (.c (.int 1)) (.cons (.tup (.cons (.tup (.cons (.c (.int 0)) (.cons (.c (.int 0)) .nil))) .nil)) .nil))) .nil)) .nil))) (.cons (.call 11 (.cons (.v 0) (.cons (.c (.int 16)) .nil))) .nil))))
 .nil))
noncomputable def b14:Sts:=(.cons (.ret (.pr true .ix (.cons (.lst true (.cons (.c (.int 1)) (.cons (.c (.int 2)) (.cons (.c (.int 3)) (.cons (.c (.int 4)) (.cons (.c (.int 5)) (.cons (.c (.int 6)) (.cons (.c (.int 4)) (.cons (.c (.int 5)) (.cons (.c (.int 3)) (.cons (.c (.int 6)) (.cons (.c (.int 7)) (.cons (.c (.int 8)) .nil))))))))))))) (.cons (.call 11 (.cons (.v 0) (.cons (.c (.int 12)) .nil))) .nil))))
 .nil)
noncomputable def b15:Sts:=(.cons (.asg (.nm 2) (.pr true .ix (.cons (.lst true (.cons (.c (.int 2)) (.cons (.c (.int 4)) (.cons (.c (.int 6)) .nil)))) (.cons (.call 11 (.cons (.v 0) (.cons (.c (.int 3)) .nil))) .nil))))
 (.cons (.asg (.nm 3) (.lst true .nil))
 (.cons (.fr (.nm 4) (.rg (.c (.int 0)) (.v 1)) (.cons (.asg (.nm 3) (.pr true .add (.cons (.v 3) (.cons (.comp true (.tup (.cons (.v 1) (.cons (.v 0) .nil))) [0] (.rg (.pr true .add (.cons (.v 4) (.cons (.c (.int 1)) .nil))) (.v 1)) [4,0,2] 1 (.yes (.pr true .lt (.cons (.call 11 (.cons (.v 2) (.cons (.c (.int 8)) .nil))) (.cons (.v 3) .nil))))) .nil))))
 .nil))
 (.cons (.ret (.tup (.cons (.v 1) (.cons (.pr true .tuple (.cons (.v 3) .nil)) .nil))))
 .nil))))
noncomputable def b16:Sts:=(.cons (.iff (.or (.not (.isi (.v 1) .tuple)) (.or (.pr true .ne (.cons (.pr true .len (.cons (.v 1) .nil)) (.cons (.pr true .ix (.cons (.v 0) (.cons (.c (.int 0)) .nil))) .nil))) (.not (.pr true .all (.cons (.comp true (.call 12 (.cons (.v 0) .nil)) [0] (.seq (.v 1)) [] 1 .no) .nil))))) (.cons (.ret (.c (.bl false)))
 .nil) .nil)
 (.cons (.ret (.and (.pr true .ge (.cons (.pr true .minL (.cons (.v 1) .nil)) (.cons (.c (.int 0)) .nil))) (.pr true .eq (.cons (.comp true (.v 0) [0] (.seq (.pr true .ix (.cons (.v 0) (.cons (.c (.int 1)) .nil)))) [1] 1 (.yes (.pr true .eq (.cons (.pr true .ix (.cons (.v 1) (.cons (.pr true .ix (.cons (.v 0) (.cons (.c (.int 0)) .nil))) .nil))) (.cons (.pr true .ix (.cons (.v 1) (.cons (.pr true .ix (.cons (.v 0) (.cons (.c (.int 1)) .nil))) .nil))) .nil))))) (.cons (.lst true .nil) .nil)))))
 .nil))
noncomputable def b17:Sts:=(.cons (.fr (.nm 1) (.rg (.c (.int 1)) (.pr true .add (.cons (.pr true .ix (.cons (.v 0) (.cons (.c (.int 0)) .nil))) (.cons (.c (.int 1)) .nil)))) (.cons (.asg (.nm 2) (.lst false (.cons (.c (.int 0)) .nil)))
 (.cons (.wh (.and (.pr true .ne (.cons (.v 2) (.cons (.lst true .nil) .nil))) (.pr true .le (.cons (.pr true .len (.cons (.v 2) .nil)) (.cons (.pr true .ix (.cons (.v 0) (.cons (.c (.int 0)) .nil))) .nil)))) (.cons (.asg (.nm 3) (.comp true (.pr true .ix (.cons (.v 2) (.cons (.v 0) .nil))) [0,1] (.seq (.pr true .ix (.cons (.v 0) (.cons (.c (.int 1)) .nil)))) [2] 2 (.yes (.pr true .eq (.cons (.v 1) (.cons (.pr true .sub (.cons (.pr true .len (.cons (.v 2) .nil)) (.cons (.c (.int 1)) .nil))) .nil))))))
 (.cons (.iff (.pr true .eq (.cons (.pr true .ix (.cons (.v 2) (.cons (.pr true .neg (.cons (.c (.int 1)) .nil)) .nil))) (.cons (.v 1) .nil))) (.cons (.ex (.pop (.v 2)))
 (.cons (.iff (.pr true .ne (.cons (.v 2) (.cons (.lst true .nil) .nil))) (.cons (.asg (.sub (.v 2) (.pr true .neg (.cons (.c (.int 1)) .nil))) (.pr true .add (.cons (.pr true .ix (.cons (.v 2) (.cons (.pr true .neg (.cons (.c (.int 1)) .nil)) .nil))) (.cons (.c (.int 1)) .nil))))
 .nil) .nil)
 .nil)) (.cons (.iff (.pr true .inn (.cons (.pr true .ix (.cons (.v 2) (.cons (.pr true .neg (.cons (.c (.int 1)) .nil)) .nil))) (.cons (.v 3) .nil))) (.cons (.asg (.sub (.v 2) (.pr true .neg (.cons (.c (.int 1)) .nil))) (.pr true .add (.cons (.pr true .ix (.cons (.v 2) (.cons (.pr true .neg (.cons (.c (.int 1)) .nil)) .nil))) (.cons (.c (.int 1)) .nil))))
 .nil) (.cons (.ex (.push (.v 2) (.c (.int 0))))
 .nil))
 .nil))
 .nil)))
 (.cons (.iff (.pr true .ne (.cons (.v 2) (.cons (.lst true .nil) .nil))) (.cons (.ret (.pr true .tuple (.cons (.sl true (.v 2) .no (.yes (.pr true .neg (.cons (.c (.int 1)) .nil)))) .nil)))
 .nil) .nil)
 .nil))))
 (.cons (.ret (.c .non))
 .nil))
noncomputable def b18:Sts:=(.cons (.asg (.nm 2) (.call 17 (.cons (.v 1) .nil)))
 (.cons (.asg (.nm 3) (.comp true (.pr true .add (.cons (.call 11 (.cons (.v 1) (.cons (.c (.int 3)) .nil))) (.cons (.pr true .mul (.cons (.c (.int 4)) (.cons (.v 0) .nil))) .nil))) [0] (.rg (.c (.int 0)) (.pr true .add (.cons (.pr true .ix (.cons (.v 1) (.cons (.c (.int 0)) .nil))) (.cons (.c (.int 1)) .nil)))) [0] 1 .no))
 (.cons (.iff (.pr true .eq (.cons (.call 11 (.cons (.v 0) (.cons (.c (.int 4)) .nil))) (.cons (.c (.int 0)) .nil))) (.cons (.asg (.nm 3) (.comp true (.pr true .add (.cons (.pr true .pow (.cons (.c (.int 10)) (.cons (.c (.int 20)) .nil))) (.cons (.v 0) .nil))) [0] (.seq (.v 3)) [] 1 .no))
 .nil) .nil)
 (.cons (.asg (.nm 4) (.call 11 (.cons (.v 0) (.cons (.c (.int 2)) .nil))))
 (.cons (.ret (.pr true .tuple (.cons (.comp true (.pr true .ix (.cons (.v 1) (.cons (.pr true .ix (.cons (.lst true (.cons (.v 0) (.cons (.pr true .sub (.cons (.pr true .maxL (.cons (.v 2) .nil)) (.cons (.v 0) .nil))) .nil))) (.cons (.v 3) .nil))) .nil))) [0] (.seq (.v 2)) [3,2,4] 1 .no) .nil)))
 .nil)))))
noncomputable def b19:Sts:=(.cons (.asg (.nm 3) (.call 11 (.cons (.v 0) (.cons (.pr true .add (.cons (.pr true .len (.cons (.v 1) .nil)) (.cons (.c (.int 1)) .nil))) .nil))))
 (.cons (.asg (.nm 4) (.pr true .ix (.cons (.lst true (.cons (.c (.bl true)) (.cons (.c (.bl false)) (.cons (.c .non) (.cons (.pr true .neg (.cons (.c (.int 1)) .nil)) (.cons (.v 2) (.cons (.c (.str "0")) (.cons (.tup (.cons (.c (.int 0)) .nil)) (.cons (.call 11 (.cons (.v 0) (.cons (.v 2) .nil))) .nil))))))))) (.cons (.call 11 (.cons (.v 0) (.cons (.c (.int 8)) .nil))) .nil))))
 (.cons (.asg (.nm 5) (.lst true (.cons (.pr true .add (.cons (.pr true .add (.cons (.sl true (.v 1) .no (.yes (.v 3))) (.cons (.tup (.cons (.v 4) .nil)) .nil))) (.cons (.sl true (.v 1) (.yes (.pr true .add (.cons (.v 3) (.cons (.c (.int 1)) .nil)))) .no) .nil))) (.cons (.pr true .add (.cons (.sl true (.v 1) .no (.yes (.v 3))) (.cons (.sl true (.v 1) (.yes (.pr true .add (.cons (.v 3) (.cons (.c (.int 1)) .nil)))) .no) .nil))) (.cons (.pr true .add (.cons (.v 1) (.cons (.tup (.cons (.c (.int 0)) .nil)) .nil))) (.cons (.pr true .list (.cons (.v 1) .nil)) (.cons (.c .non) (.cons (.tup (.cons (.v 1) .nil)) .nil))))))))
 (.cons (.ret (.pr true .ix (.cons (.v 5) (.cons (.pr true .ix (.cons (.lst true (.cons (.c (.int 0)) (.cons (.c (.int 0)) (.cons (.c (.int 0)) (.cons (.c (.int 0)) (.cons (.c (.int 1)) (.cons (.c (.int 2)) (.cons (.c (.int 3)) (.cons (.c (.int 4)) (.cons (.c (.int 5)) .nil)))))))))) (.cons (.call 11 (.cons (.v 0) (.cons (.c (.int 9)) .nil))) .nil))) .nil))))
 .nil))))
noncomputable def b20:Sts:=(.cons (.asg (.nm 2) (.pr true .repr (.cons (.v 1) .nil)))
 (.cons (.asg (.nm 3) (.call 16 (.cons (.v 0) (.cons (.v 1) .nil))))
 (.cons (.fr (.nm 4) (.rg (.c (.int 0)) (.c (.int 2))) (.cons (.asg (.nm 5) (.call 8 (.cons (.v 0) (.cons (.v 1) .nil))))
 (.cons (.iff (.or (.not (.isi (.v 5) .bool)) (.pr true .ne (.cons (.v 5) (.cons (.v 3) .nil)))) (.cons (.ret (.c (.bl false)))
 .nil) .nil)
 .nil)))
 (.cons (.ret (.pr true .eq (.cons (.pr true .repr (.cons (.v 1) .nil)) (.cons (.v 2) .nil))))
 .nil))))
noncomputable def b21:Sts:=(.cons (.fr (.nm 1) (.seq (.lst true (.cons (.tup (.cons (.c (.int 0)) (.cons (.c (.int 1)) .nil))) (.cons (.tup (.cons (.c (.int 0)) (.cons (.c (.int 0)) .nil))) (.cons (.tup (.cons (.c (.int 0)) (.cons (.c (.bl true)) .nil))) (.cons (.tup (.cons (.c (.int 0)) (.cons (.pr true .neg (.cons (.c (.int 1)) .nil)) .nil))) (.cons (.lst true (.cons (.c (.int 0)) (.cons (.c (.int 1)) .nil))) (.cons (.c .non) (.cons (.tup (.cons (.c (.int 0)) .nil)) (.cons (.tup (.cons (.c (.int 5)) (.cons (.c (.int 0)) .nil))) .nil)))))))))) (.cons (.iff (.not (.call 20 (.cons (.tup (.cons (.c (.int 2)) (.cons (.tup (.cons (.tup (.cons (.c (.int 0)) (.cons (.c (.int 1)) .nil))) .nil)) .nil))) (.cons (.v 1) .nil)))) (.cons (.ret (.c (.bl false)))
 .nil) .nil)
 .nil))
 (.cons (.fr (.nm 2) (.seq (.pr true .add (.cons (.lst true (.cons (.call 9 (.cons (.v 0) (.cons (.c (.int 0)) .nil))) .nil)) (.cons (.sl true (.v 0) (.yes (.c (.int 1))) (.yes (.c (.int 5)))) .nil)))) (.cons (.asg (.nm 3) (.call 10 (.cons (.v 2) .nil)))
 (.cons (.asg (.nm 4) (.call 15 (.cons (.v 3) (.cons (.call 14 (.cons (.v 3) .nil)) .nil))))
 (.cons (.asg (.nm 5) (.call 18 (.cons (.v 3) (.cons (.v 4) .nil))))
 (.cons (.asg (.nm 6) (.pr true .tuple (.cons (.comp true (.call 11 (.cons (.v 1) (.cons (.c (.int 4)) .nil))) [0] (.rg (.c (.int 0)) (.pr true .ix (.cons (.v 4) (.cons (.c (.int 0)) .nil)))) [3] 1 .no) .nil)))
 (.cons (.fr (.nm 1) (.seq (.pr true .add (.cons (.lst true (.cons (.v 5) (.cons (.v 6) (.cons (.call 13 (.cons (.v 3) .nil)) .nil)))) (.cons (.comp true (.call 19 (.cons (.v 1) (.cons (.v 2) (.cons (.c (.int 9)) .nil)))) [0] (.rg (.c (.int 0)) (.c (.int 4))) [3,5] 1 .no) .nil)))) (.cons (.iff (.not (.call 20 (.cons (.v 4) (.cons (.v 1) .nil)))) (.cons (.ret (.c (.bl false)))
 .nil) .nil)
 .nil))
 .nil))))))
 (.cons (.ret (.c (.bl true)))
 .nil)))
noncomputable def T (n:Nat):Option Df:=([⟨1,1,b0⟩,⟨3,3,b1⟩,⟨2,2,b2⟩,⟨3,1,b3⟩,⟨1,1,b4⟩,⟨2,2,b5⟩,⟨4,2,b6⟩,⟨1,1,b7⟩,⟨2,2,b8⟩,⟨2,2,b9⟩,⟨2,1,b10⟩,⟨5,2,b11⟩,⟨1,1,b12⟩,⟨2,1,b13⟩,⟨1,1,b14⟩,⟨5,2,b15⟩,⟨2,2,b16⟩,⟨4,1,b17⟩,⟨5,2,b18⟩,⟨6,3,b19⟩,⟨6,2,b20⟩,⟨7,1,b21⟩]:List Df)[n]?
theorem T_0:T 0 = some ⟨1,1,b0⟩:=rfl
theorem T_1:T 1 = some ⟨3,3,b1⟩:=rfl
theorem T_2:T 2 = some ⟨2,2,b2⟩:=rfl
theorem T_3:T 3 = some ⟨3,1,b3⟩:=rfl
theorem T_4:T 4 = some ⟨1,1,b4⟩:=rfl
theorem T_5:T 5 = some ⟨2,2,b5⟩:=rfl
theorem T_6:T 6 = some ⟨4,2,b6⟩:=rfl
theorem T_7:T 7 = some ⟨1,1,b7⟩:=rfl
theorem T_8:T 8 = some ⟨2,2,b8⟩:=rfl
theorem T_9:T 9 = some ⟨2,2,b9⟩:=rfl
theorem znn:T 10 = some ⟨2,1,b10⟩:=rfl
theorem znh:T 11 = some ⟨5,2,b11⟩:=rfl
theorem znJ:T 12 = some ⟨1,1,b12⟩:=rfl
theorem znm:T 13 = some ⟨2,1,b13⟩:=rfl
theorem zng:T 14 = some ⟨1,1,b14⟩:=rfl
theorem zne:T 15 = some ⟨5,2,b15⟩:=rfl
theorem znq:T 16 = some ⟨2,2,b16⟩:=rfl
theorem zno:T 17 = some ⟨4,1,b17⟩:=rfl
theorem znp:T 18 = some ⟨5,2,b18⟩:=rfl
theorem znr:T 19 = some ⟨6,3,b19⟩:=rfl
theorem zns:T 20 = some ⟨6,2,b20⟩:=rfl
theorem znj:T 21 = some ⟨7,1,b21⟩:=rfl
noncomputable def sub:Nat->Nat->Bool:=fun c e=>(let n:=fun c=>if c < 2 then c else 0; n e == 0 || n c == n e)
end G42
set_option Elab.async false
set_option linter.all false
set_option maxRecDepth 100000
set_option maxHeartbeats 400000
namespace G42
open PySem PySem.Spec PyProof.Rows L2 Mi
noncomputable abbrev LK (i:Nat) (x:Str) (k:NameKind):Prop:=(defScope (top i)).names.lookup x = some k
noncomputable abbrev gI:NameKind:=.globalImplicit
theorem znk:sub = subN 2:=rfl
theorem zc6:okN "MOST_PLACES" = true:=dk
theorem zhE:okN "NoWeb" = true:=dk
theorem zbc:okN "_law_at" = true:=dk
theorem zct:okN "_law_bent_row" = true:=dk
theorem zdS:okN "_law_cell" = true:=dk
theorem zaI:okN "_law_cell_here" = true:=dk
theorem zan:okN "_law_draw" = true:=dk
theorem zdQ:okN "_law_drawn" = true:=dk
theorem zeR:okN "_law_due" = true:=dk
theorem zbh:okN "_law_found" = true:=dk
theorem zbS:okN "_law_k" = true:=dk
theorem zet:okN "_law_kept" = true:=dk
theorem zbo:okN "_law_left" = true:=dk
theorem zaO:okN "_law_many" = true:=dk
theorem zez:okN "_law_most" = true:=dk
theorem zd6:okN "_law_name" = true:=dk
theorem zb0:okN "_law_names" = true:=dk
theorem zeA:okN "_law_near" = true:=dk
theorem zeJ:okN "_law_odd" = true:=dk
theorem zcu:okN "_law_odd_here" = true:=dk
theorem zdP:okN "_law_often" = true:=dk
theorem zaH:okN "_law_one" = true:=dk
theorem zbV:okN "_law_other" = true:=dk
theorem ze5:okN "_law_pen" = true:=dk
theorem zab:okN "_law_pen_here" = true:=dk
theorem zdl:okN "_law_plain" = true:=dk
theorem zbJ:okN "_law_plain_first" = true:=dk
theorem zaW:okN "_law_plain_here" = true:=dk
theorem zbQ:okN "_law_right" = true:=dk
theorem zag:okN "_law_row" = true:=dk
theorem zdR:okN "_law_rows" = true:=dk
theorem zaK:okN "_law_script" = true:=dk
theorem zeE:okN "_law_size" = true:=dk
theorem zd5:okN "_law_some" = true:=dk
theorem zbO:okN "_law_some_plain" = true:=dk
theorem zbs:okN "_law_stir" = true:=dk
theorem zai:okN "_law_thing" = true:=dk
theorem zbH:okN "_law_tie" = true:=dk
theorem zcp:okN "_law_ties" = true:=dk
theorem zcX:okN "_law_turned" = true:=dk
theorem zeM:okN "_law_web" = true:=dk
theorem zah:okN "_law_web_here" = true:=dk
theorem zdK:okN "_law_whole" = true:=dk
theorem zeP:okN "bool" = true:=dk
theorem zdT:okN "check_web" = true:=dk
theorem ziT:okN "int" = true:=dk
theorem zfW:okN "is_many" = true:=dk
theorem zcG:okN "is_place" = true:=dk
theorem zcD:okN "is_row" = true:=dk
theorem zg9:okN "is_tie" = true:=dk
theorem zhl:okN "is_web" = true:=dk
theorem zcO:okN "is_whole" = true:=dk
theorem zcn:okN "is_within" = true:=dk
theorem zhF:okN "later" = true:=dk
theorem zhM:okN "least" = true:=dk
theorem zci:okN "many" = true:=dk
theorem zj6:okN "most" = true:=dk
theorem zd8:okN "number" = true:=dk
theorem zgG:okN "one" = true:=dk
theorem zds:okN "other" = true:=dk
theorem zdj:okN "plain_hold" = true:=dk
theorem zau:okN "thing" = true:=dk
theorem zi3:okN "tie" = true:=dk
theorem zdr:okN "ties" = true:=dk
theorem zdm:okN "tuple" = true:=dk
theorem zgl:okN "web" = true:=dk
noncomputable abbrev N0:List Str:=["thing"]
theorem zkk:LK 4 "bool" gI:=dk
theorem zlJ:LK 4 "int" gI:=dk
theorem zb4:LK 4 "isinstance" gI:=dk
theorem zfu:LK 4 "thing" .local:=dk
theorem sc0:FnScope N0 ["thing"] (defScope (top 4)):=⟨rfl,rfl,rfl,dk,rfl,dk,dk⟩
noncomputable abbrev N1:List Str:=["thing","least","most"]
theorem zeG:LK 5 "is_whole" gI:=dk
theorem zic:LK 5 "least" .local:=dk
theorem zki:LK 5 "most" .local:=dk
theorem zfB:LK 5 "thing" .local:=dk
theorem sc1:FnScope N1 ["thing","least","most"] (defScope (top 5)):=⟨rfl,rfl,rfl,dk,rfl,dk,dk⟩
noncomputable abbrev N2:List Str:=["thing","many"]
theorem zdw:LK 6 "isinstance" gI:=dk
theorem zlK:LK 6 "len" gI:=dk
theorem zjQ:LK 6 "many" .local:=dk
theorem zfH:LK 6 "thing" .local:=dk
theorem ziB:LK 6 "tuple" gI:=dk
theorem sc2:FnScope N2 ["thing","many"] (defScope (top 6)):=⟨rfl,rfl,rfl,dk,rfl,dk,dk⟩
noncomputable abbrev N3:List Str:=["thing","many","ties"]
theorem ziI:LK 9 "all" gI:=dk
theorem zfL:LK 9 "is_many" gI:=dk
theorem zhm:LK 9 "is_row" gI:=dk
theorem zdJ:LK 9 "isinstance" gI:=dk
theorem zgU:LK 9 "many" .cell:=dk
theorem zfy:LK 9 "thing" .local:=dk
theorem zcR:LK 9 "ties" .local:=dk
theorem zhP:LK 9 "tuple" gI:=dk
theorem zl0:LK 9 "zip" gI:=dk
theorem sc3:FnScope N3 ["thing"] (defScope (top 9)):=⟨rfl,rfl,rfl,dk,rfl,dk,dk⟩
noncomputable abbrev N4:List Str:=["thing"]
theorem zc5:LK 10 "MOST_PLACES" gI:=dk
theorem zdZ:LK 10 "is_within" gI:=dk
theorem zhI:LK 10 "thing" .local:=dk
theorem sc4:FnScope N4 ["thing"] (defScope (top 10)):=⟨rfl,rfl,rfl,dk,rfl,dk,dk⟩
noncomputable abbrev N5:List Str:=["many","thing"]
theorem zdU:LK 11 "is_within" gI:=dk
theorem zjb:LK 11 "many" .local:=dk
theorem ziu:LK 11 "thing" .local:=dk
theorem sc5:FnScope N5 ["many","thing"] (defScope (top 11)):=⟨rfl,rfl,rfl,dk,rfl,dk,dk⟩
noncomputable abbrev N6:List Str:=["many","thing","one","other"]
theorem zcL:LK 12 "is_place" gI:=dk
theorem zf8:LK 12 "is_row" gI:=dk
theorem zgD:LK 12 "many" .local:=dk
theorem zgO:LK 12 "one" .local:=dk
theorem zdt:LK 12 "other" .local:=dk
theorem zfa:LK 12 "thing" .local:=dk
theorem sc6:FnScope N6 ["many","thing"] (defScope (top 12)):=⟨rfl,rfl,rfl,dk,rfl,dk,dk⟩
noncomputable abbrev N7:List Str:=["thing"]
theorem ziw:LK 13 "NoWeb" gI:=dk
theorem zhf:LK 13 "is_web" gI:=dk
theorem zib:LK 13 "thing" .local:=dk
theorem sc7:FnScope N7 ["thing"] (defScope (top 13)):=⟨rfl,rfl,rfl,dk,rfl,dk,dk⟩
noncomputable abbrev N8:List Str:=["web","thing"]
theorem ziR:LK 15 "all" gI:=dk
theorem zej:LK 15 "check_web" gI:=dk
theorem zgT:LK 15 "is_row" gI:=dk
theorem zfw:LK 15 "thing" .cell:=dk
theorem zgW:LK 15 "web" .local:=dk
theorem sc8:FnScope N8 ["web","thing"] (defScope (top 15)):=⟨rfl,rfl,rfl,dk,rfl,dk,dk⟩
noncomputable abbrev N9:List Str:=["_law_script","_law_k"]
theorem zel:LK 17 "_law_k" .local:=dk
theorem zbC:LK 17 "_law_script" .local:=dk
theorem zlP:LK 17 "len" gI:=dk
theorem sc9:FnScope N9 ["_law_script","_law_k"] (defScope (top 17)):=⟨rfl,rfl,rfl,dk,rfl,dk,dk⟩
noncomputable abbrev N10:List Str:=["_law_cell_here","_law_left"]
theorem zaZ:LK 18 "_law_cell_here" .local:=dk
theorem zbf:LK 18 "_law_left" .local:=dk
theorem zkj:LK 18 "int" gI:=dk
theorem zkb:LK 18 "max" gI:=dk
theorem sc10:FnScope N10 ["_law_cell_here"] (defScope (top 18)):=⟨rfl,rfl,rfl,dk,rfl,dk,dk⟩
noncomputable abbrev N11:List Str:=["_law_pen_here","_law_many","_law_left","_law_found","_law_stir"]
theorem zbA:LK 19 "_law_found" .local:=dk
theorem zb1:LK 19 "_law_left" .local:=dk
theorem zbM:LK 19 "_law_many" .local:=dk
theorem zaq:LK 19 "_law_pen_here" .local:=dk
theorem zaG:LK 19 "_law_stir" .local:=dk
theorem zfN:LK 19 "divmod" gI:=dk
theorem sc11:FnScope N11 ["_law_pen_here","_law_many"] (defScope (top 19)):=⟨rfl,rfl,rfl,dk,rfl,dk,dk⟩
noncomputable abbrev N12:List Str:=["_law_thing"]
theorem zby:LK 20 "_law_thing" .local:=dk
theorem zix:LK 20 "bool" gI:=dk
theorem zkm:LK 20 "int" gI:=dk
theorem zbz:LK 20 "isinstance" gI:=dk
theorem sc12:FnScope N12 ["_law_thing"] (defScope (top 20)):=⟨rfl,rfl,rfl,dk,rfl,dk,dk⟩
noncomputable abbrev N13:List Str:=["_law_pen_here","_law_some"]
theorem zdO:LK 21 "_law_draw" gI:=dk
theorem zb9:LK 21 "_law_pen_here" .local:=dk
theorem zb6:LK 21 "_law_some" .local:=dk
theorem sc13:FnScope N13 ["_law_pen_here"] (defScope (top 21)):=⟨rfl,rfl,rfl,dk,rfl,dk,dk⟩
noncomputable abbrev N14:List Str:=["_law_pen_here"]
theorem zdE:LK 22 "_law_draw" gI:=dk
theorem zcj:LK 22 "_law_pen_here" .local:=dk
theorem sc14:FnScope N14 ["_law_pen_here"] (defScope (top 22)):=⟨rfl,rfl,rfl,dk,rfl,dk,dk⟩
noncomputable abbrev N15:List Str:=["_law_pen_here","_law_many","_law_often","_law_ties","_law_one"]
theorem zdC:LK 23 "_law_draw" gI:=dk
theorem zbg:LK 23 "_law_many" .local:=dk
theorem zc2:LK 23 "_law_often" .cell:=dk
theorem zcs:LK 23 "_law_one" .cell:=dk
theorem zcl:LK 23 "_law_pen_here" .cell:=dk
theorem zaQ:LK 23 "_law_ties" .local:=dk
theorem zen:LK 23 "range" gI:=dk
theorem zhe:LK 23 "tuple" gI:=dk
theorem sc15:FnScope N15 ["_law_pen_here","_law_many"] (defScope (top 23)):=⟨rfl,rfl,rfl,dk,rfl,dk,dk⟩
noncomputable abbrev N16:List Str:=["_law_web_here","_law_thing"]
theorem zaN:LK 24 "_law_thing" .cell:=dk
theorem zbe:LK 24 "_law_web_here" .local:=dk
theorem zjA:LK 24 "all" gI:=dk
theorem zcY:LK 24 "isinstance" gI:=dk
theorem zjg:LK 24 "len" gI:=dk
theorem zjX:LK 24 "min" gI:=dk
theorem zgb:LK 24 "tuple" gI:=dk
theorem sc16:FnScope N16 ["_law_web_here","_law_thing"] (defScope (top 24)):=⟨rfl,rfl,rfl,dk,rfl,dk,dk⟩
noncomputable abbrev N17:List Str:=["_law_web_here","_law_most","_law_row","_law_near"]
theorem zbY:LK 25 "_law_most" .local:=dk
theorem zb5:LK 25 "_law_near" .local:=dk
theorem zaj:LK 25 "_law_row" .cell:=dk
theorem zaJ:LK 25 "_law_web_here" .local:=dk
theorem zj8:LK 25 "len" gI:=dk
theorem zgK:LK 25 "range" gI:=dk
theorem zgM:LK 25 "tuple" gI:=dk
theorem sc17:FnScope N17 ["_law_web_here"] (defScope (top 25)):=⟨rfl,rfl,rfl,dk,rfl,dk,dk⟩
noncomputable abbrev N18:List Str:=["_law_pen_here","_law_web_here","_law_row","_law_names","_law_turned"]
theorem zb2:LK 26 "_law_draw" gI:=dk
theorem za0:LK 26 "_law_names" .cell:=dk
theorem za7:LK 26 "_law_pen_here" .cell:=dk
theorem zbv:LK 26 "_law_plain_first" gI:=dk
theorem zco:LK 26 "_law_row" .cell:=dk
theorem zcK:LK 26 "_law_turned" .cell:=dk
theorem za9:LK 26 "_law_web_here" .local:=dk
theorem zg0:LK 26 "range" gI:=dk
theorem zhk:LK 26 "tuple" gI:=dk
theorem sc18:FnScope N18 ["_law_pen_here","_law_web_here"] (defScope (top 26)):=⟨rfl,rfl,rfl,dk,rfl,dk,dk⟩
noncomputable abbrev N19:List Str:=["_law_pen_here","_law_row","_law_k","_law_at","_law_odd_here","_law_rows"]
theorem zaU:LK 27 "_law_at" .local:=dk
theorem zaP:LK 27 "_law_draw" gI:=dk
theorem zdd:LK 27 "_law_k" .local:=dk
theorem zbb:LK 27 "_law_odd_here" .local:=dk
theorem zaA:LK 27 "_law_pen_here" .local:=dk
theorem zax:LK 27 "_law_row" .local:=dk
theorem zbX:LK 27 "_law_rows" .local:=dk
theorem zjN:LK 27 "len" gI:=dk
theorem ziy:LK 27 "list" gI:=dk
theorem sc19:FnScope N19 ["_law_pen_here","_law_row","_law_k"] (defScope (top 27)):=⟨rfl,rfl,rfl,dk,rfl,dk,dk⟩
noncomputable abbrev N20:List Str:=["_law_web_here","_law_thing","_law_kept","_law_due","_law_turn","_law_found"]
theorem zcq:LK 28 "_law_due" .local:=dk
theorem za2:LK 28 "_law_found" .local:=dk
theorem zbN:LK 28 "_law_kept" .local:=dk
theorem zc0:LK 28 "_law_plain" gI:=dk
theorem zaL:LK 28 "_law_thing" .local:=dk
theorem zdA:LK 28 "_law_turn" .local:=dk
theorem za8:LK 28 "_law_web_here" .local:=dk
theorem zhJ:LK 28 "bool" gI:=dk
theorem zcZ:LK 28 "isinstance" gI:=dk
theorem zc1:LK 28 "plain_hold" gI:=dk
theorem zhc:LK 28 "range" gI:=dk
theorem zfx:LK 28 "repr" gI:=dk
theorem sc20:FnScope N20 ["_law_web_here","_law_thing"] (defScope (top 28)):=⟨rfl,rfl,rfl,dk,rfl,dk,dk⟩
noncomputable abbrev N21:List Str:=["_law_script","_law_thing","_law_cell_here","_law_pen_here","_law_web_here","_law_plain_here","_law_drawn"]
theorem zdD:LK 29 "_law_cell" gI:=dk
theorem zaY:LK 29 "_law_cell_here" .local:=dk
theorem zbE:LK 29 "_law_drawn" .local:=dk
theorem zdW:LK 29 "_law_odd" gI:=dk
theorem zd2:LK 29 "_law_pen" gI:=dk
theorem zaw:LK 29 "_law_pen_here" .cell:=dk
theorem zaT:LK 29 "_law_plain_here" .cell:=dk
theorem zbB:LK 29 "_law_right" gI:=dk
theorem zbt:LK 29 "_law_script" .local:=dk
theorem zdk:LK 29 "_law_size" gI:=dk
theorem zbG:LK 29 "_law_some_plain" gI:=dk
theorem zaM:LK 29 "_law_thing" .local:=dk
theorem zeu:LK 29 "_law_web" gI:=dk
theorem zaB:LK 29 "_law_web_here" .local:=dk
theorem zem:LK 29 "range" gI:=dk
theorem zgJ:LK 29 "tuple" gI:=dk
theorem sc21:FnScope N21 ["_law_script"] (defScope (top 29)):=⟨rfl,rfl,rfl,dk,rfl,dk,dk⟩
noncomputable def cl (K:PySem.W.Frag):Cl:=⟨cAof (lk.L K),fun c=>(([[],["at"]]:List (List Str)).getD c [])⟩
theorem tx1:InTx "NoWeb.__init__" ini1 ["at"]:=InTx.of (fun _ _ _ _ _ _ us hl=>bind1 (f:=fun us=>bindArgs _ ⟨us,[]⟩) (fun _ _=>rfl) us hl) (by decide +kernel) (by intro z; cases z) (by decide) (by decide +kernel) (by decide +kernel) rfl rfl rfl
structure Top (K:PySem.W.Frag) (mg:Str->Option Value):Prop where
 cs:Clss K (cl K) sub
 d0:D3 K mg "is_whole" (top 4) ["thing"]
 d1:D3 K mg "is_within" (top 5) ["thing","least","most"]
 d2:D3 K mg "is_row" (top 6) ["thing","many"]
 d3:D3 K mg "is_web" (top 9) ["thing"]
 d4:D3 K mg "is_many" (top 10) ["thing"]
 d5:D3 K mg "is_place" (top 11) ["many","thing"]
 d6:D3 K mg "is_tie" (top 12) ["many","thing"]
 d7:D3 K mg "check_web" (top 13) ["thing"]
 d8:D3 K mg "plain_hold" (top 15) ["web","thing"]
 d9:D3 K mg "_law_cell" (top 17) ["_law_script","_law_k"]
 d10:D3 K mg "_law_pen" (top 18) ["_law_cell_here"]
 d11:D3 K mg "_law_draw" (top 19) ["_law_pen_here","_law_many"]
 d12:D3 K mg "_law_whole" (top 20) ["_law_thing"]
 d13:D3 K mg "_law_odd" (top 21) ["_law_pen_here"]
 d14:D3 K mg "_law_size" (top 22) ["_law_pen_here"]
 d15:D3 K mg "_law_web" (top 23) ["_law_pen_here","_law_many"]
 d16:D3 K mg "_law_plain" (top 24) ["_law_web_here","_law_thing"]
 d17:D3 K mg "_law_plain_first" (top 25) ["_law_web_here"]
 d18:D3 K mg "_law_some_plain" (top 26) ["_law_pen_here","_law_web_here"]
 d19:D3 K mg "_law_bent_row" (top 27) ["_law_pen_here","_law_row","_law_k"]
 d20:D3 K mg "_law_right" (top 28) ["_law_web_here","_law_thing"]
 d21:D3 K mg "law" (top 29) ["_law_script"]
 c0:mg "HueError" = some (.ref ((cl K).a 0))
 c1:mg "NoWeb" = some (.ref ((cl K).a 1))
 i1:InitOk K ((cl K).a 1) (defArgs ini1) (defBody ini1) (defScope ini1) ((cl K).f 1)
 g_MOST_PLACES:∃ t,mg "MOST_PLACES" = some (.int 8 t)
 z_all:mg "all" = none
 z_bool:mg "bool" = none
 z_divmod:mg "divmod" = none
 z_int:mg "int" = none
 z_isinstance:mg "isinstance" = none
 z_len:mg "len" = none
 z_list:mg "list" = none
 z_max:mg "max" = none
 z_min:mg "min" = none
 z_range:mg "range" = none
 z_repr:mg "repr" = none
 z_tuple:mg "tuple" = none
 z_zip:mg "zip" = none
theorem zlO {K:PySem.W.Frag} {h:Heap} {mg:Str->Option Value} (S:SaysI fs ms xs lk K) (X:K.In h) (G:h.Ns mainGlobals mg):Top K mg where
 cs:=by
  rcases S.gd.cs with z | z
  ·cases z
  ·exact zjv (Nat.zero_lt_succ _) z
 d0:=zhx S X G 0
 d1:=znl S X G 1
 d2:=zhz S X G 2
 d3:=zhx S X G 3
 d4:=zhx S X G 4
 d5:=zhz S X G 5
 d6:=zhz S X G 6
 d7:=zhx S X G 7
 d8:=zhz S X G 8
 d9:=zhz S X G 9
 d10:=zhx S X G 10
 d11:=zhz S X G 11
 d12:=zhx S X G 12
 d13:=zhx S X G 13
 d14:=zhx S X G 14
 d15:=zhz S X G 15
 d16:=zhz S X G 16
 d17:=zhx S X G 17
 d18:=zhz S X G 18
 d19:=znl S X G 19
 d20:=zhz S X G 20
 d21:=zhx S X G 21
 c0:=zkI (S.gd.cl "HueError" (mG 0)) X G
 c1:=zkI (S.gd.cl "NoWeb" (mG 1)) X G
 i1:=zkh (S.mi ⟨1,"NoWeb.__init__",ini1,["at"]⟩ (mG 0)) tx1 (S.se ⟨1,"NoWeb.__init__",ini1,["at"]⟩ (mG 0))
 g_MOST_PLACES:=zls (S.gd.it ("MOST_PLACES",8) (mG 0)) X G
 z_all:=zck (S.gd.no "all" (mG 0)) X G
 z_bool:=zck (S.gd.no "bool" (mG 1)) X G
 z_divmod:=zck (S.gd.no "divmod" (mG 2)) X G
 z_int:=zck (S.gd.no "int" (mG 3)) X G
 z_isinstance:=zck (S.gd.no "isinstance" (mG 4)) X G
 z_len:=zck (S.gd.no "len" (mG 5)) X G
 z_list:=zck (S.gd.no "list" (mG 6)) X G
 z_max:=zck (S.gd.no "max" (mG 7)) X G
 z_min:=zck (S.gd.no "min" (mG 8)) X G
 z_range:=zck (S.gd.no "range" (mG 9)) X G
 z_repr:=zck (S.gd.no "repr" (mG 10)) X G
 z_tuple:=zck (S.gd.no "tuple" (mG 11)) X G
 z_zip:=zck (S.gd.no "zip" (mG 12)) X G
noncomputable abbrev FO (P:Program) (w:World) (K:PySem.W.Frag) (mg:Str->Option Value) (base:Heap) (k:Nat) (c:Bool) (x:Str) (i:Nat) (ps:List Str) (n:Nat):Prop:=FnOk P w K mg base (CXe P w) c k (faOf K x) (fdOf K x (top i)) ps (spF K (cl K) (call sub T k c n))
noncomputable abbrev JT (P:Program) (w:World) (K:PySem.W.Frag) (mg:Str->Option Value) (base:Heap) (k:Nat) (c:Bool) (x:Str) (i:Nat) (N:List Str) (b:Sts):Prop:=∀ (cdv:Value) (A:Around) (outer:List Env) (s:Shared) (H:Hp) (E:XK) (hr:Room k (A.deeper (envOfC x (defScope (top i)) s.heap.objs.size (faOf K x) cdv))),JB (cxOf (CXe P w) P w K mg base N x (defScope (top i)) (faOf K x) cdv A outer s H E c) (cl K) sub c (fun c=>call sub T k c) (fun _ C dx H'=>E C dx H') (defBody (top i)) b
structure Fs (P:Program) (w:World) (K:PySem.W.Frag) (mg:Str->Option Value) (base:Heap) (k:Nat):Prop where
 t0:FO P w K mg base k true "is_whole" 4 ["thing"] 0
 t1:FO P w K mg base k true "is_within" 5 ["thing","least","most"] 1
 t2:FO P w K mg base k true "is_row" 6 ["thing","many"] 2
 t3:FO P w K mg base k true "is_web" 9 ["thing"] 3
 t4:FO P w K mg base k true "is_many" 10 ["thing"] 4
 t5:FO P w K mg base k true "is_place" 11 ["many","thing"] 5
 t6:FO P w K mg base k true "is_tie" 12 ["many","thing"] 6
 t7:FO P w K mg base k true "check_web" 13 ["thing"] 7
 t8:FO P w K mg base k true "plain_hold" 15 ["web","thing"] 8
 t9:FO P w K mg base k true "_law_cell" 17 ["_law_script","_law_k"] 9
 t10:FO P w K mg base k true "_law_pen" 18 ["_law_cell_here"] 10
 t11:FO P w K mg base k true "_law_draw" 19 ["_law_pen_here","_law_many"] 11
 t12:FO P w K mg base k true "_law_whole" 20 ["_law_thing"] 12
 t13:FO P w K mg base k true "_law_odd" 21 ["_law_pen_here"] 13
 t14:FO P w K mg base k true "_law_size" 22 ["_law_pen_here"] 14
 t15:FO P w K mg base k true "_law_web" 23 ["_law_pen_here","_law_many"] 15
 t16:FO P w K mg base k true "_law_plain" 24 ["_law_web_here","_law_thing"] 16
 t17:FO P w K mg base k true "_law_plain_first" 25 ["_law_web_here"] 17
 t18:FO P w K mg base k true "_law_some_plain" 26 ["_law_pen_here","_law_web_here"] 18
 t19:FO P w K mg base k true "_law_bent_row" 27 ["_law_pen_here","_law_row","_law_k"] 19
 t20:FO P w K mg base k true "_law_right" 28 ["_law_web_here","_law_thing"] 20
 t21:FO P w K mg base k true "law" 29 ["_law_script"] 21
section
variable {P:Program} {w:World} {K:PySem.W.Frag} {mg:Str->Option Value} {base:Heap} {k:Nat}
theorem t_0 (Tp:Top K mg) (Fk:Fs P w K mg base k):JT P w K mg base k true "is_whole" 4 N0 b0:=fun cdv A outer s H E hr=>
 (zac (zaD (zev (zeb Tp.cs Tp.z_isinstance (zae zb4) (g_v 0 rfl (zae zfu) rfl zau) (ziM rfl Tp.z_int ziS (zae zlJ) ziT)) (zeZ (zmn (zeb Tp.cs Tp.z_isinstance (zae zb4) (g_v 0 rfl (zae zfu) rfl zau) (ziM rfl Tp.z_bool zeV (zae zkk) zeP))))))
 zak)
theorem t_1 (Tp:Top K mg) (Fk:Fs P w K mg base k):JT P w K mg base k true "is_within" 5 N1 b1:=fun cdv A outer s H E hr=>
 (zac (zaD (zev (zam 0 Fk.t0 (fun _=>rfl) hr Tp.d0.m Tp.d0.f.kp Tp.d0.b zaE (zae zeG) (zaa (g_v 0 rfl (zae zfB) rfl zau) zaf) zcO) (zeZ (zmS zmO zmO (g_v 1 rfl (zae zic) rfl zhM) (g_v 0 rfl (zae zfB) rfl zau) (g_v 2 rfl (zae zki) rfl zj6)))))
 zak)
theorem t_2 (Tp:Top K mg) (Fk:Fs P w K mg base k):JT P w K mg base k true "is_row" 6 N2 b2:=fun cdv A outer s H E hr=>
 (zac (zaD (zev (zeb Tp.cs Tp.z_isinstance (zae zdw) (g_v 0 rfl (zae zfH) rfl zau) (ziM rfl Tp.z_tuple zcx (zae ziB) zdm)) (zeZ (zdq (zi4 hr) (zf3 Tp.z_len (zae zlK) (zaa (g_v 0 rfl (zae zfH) rfl zau) zaf)) (g_v 1 rfl (zae zjQ) rfl zci)))))
 zak)
theorem t_3 (Tp:Top K mg) (Fk:Fs P w K mg base k):JT P w K mg base k true "is_web" 9 N3 b3:=fun cdv A outer s H E hr=>
 (zac (zd0 (zcc (zb7 (zam 2 Fk.t2 (fun _=>rfl) hr Tp.d2.m Tp.d2.f.kp Tp.d2.b zaE (zae zhm) (zaa (g_v 0 rfl (zae zfy) rfl zau) (zaa zad zaf)) zcD))) (zac (zaD zeO)
 zak) zak)
 (zac (zgI 1 2 rfl rfl sc3.nd rfl rfl (zae zgU) (zae zcR) rfl rfl (g_v 0 rfl (zae zfy) rfl zau))
 (zac (zd0 (t_w (zlW (zcc (zb7 (zam 4 Fk.t4 (fun _=>rfl) hr Tp.d4.m Tp.d4.f.kp Tp.d4.b zaE (zae zfL) (zaa (g_v 1 rfl (zae zgU) rfl zci) zaf) zfW))) (ziD (zcc (zb7 (zeb Tp.cs Tp.z_isinstance (zae zdJ) (g_v 2 rfl (zae zcR) rfl zdr) (ziM rfl Tp.z_tuple zcx (zae zhP) zdm))))))) (zac (zaD zeO)
 zak) zak)
 (zac (zd0 (zcc (zb7 (zgV rfl Tp.z_all (zae ziI) (zaa (zbm (defScope (top 9)) N3 ["tie"] ["many"] [1] rfl rfl rfl (by decide +kernel) (by decide +kernel) (za1 0) (by decide +kernel) (zcM (g_v 2 rfl (zae zcR) rfl zdr)) (fun _ _ _ _ _ _=>(zhy 0 (by decide +kernel) rfl (by decide +kernel))) (fun _ _ _ _ _ _=>zhw) (fun _ _ _ _ _ _=>(zam 6 Fk.t6 (fun _=>rfl) hr Tp.d6.m Tp.d6.f.kp Tp.d6.b zjO (zce (k:=.globalImplicit) (by decide +kernel) rfl) (zaa (zeg 1 rfl (by decide +kernel) zci) (zaa (g_v 0 rfl (zce (k:=.local) (by decide +kernel) rfl) rfl zi3) zaf)) zg9))) zaf)))) (zac (zaD zeO)
 zak) zak)
 (zac (zaD (zgV rfl Tp.z_all (zae ziI) (zaa (zbm (defScope (top 9)) N3 ["tie","later"] [] [] rfl rfl rfl (by decide +kernel) (by decide +kernel) (zdn 0 1) (by decide +kernel) (zmw Tp.z_zip (zae zl0) (g_v 2 rfl (zae zcR) rfl zdr) (zjS (g_v 2 rfl (zae zcR) rfl zdr) (zep zad) zkr)) (fun _ _ _ _ _ _=>(zm6 0 1 rfl (by decide +kernel) rfl rfl (by decide +kernel) (by decide +kernel))) (fun _ _ _ _ _ _=>zhw) (fun _ _ _ _ _ _=>(zdq (zmp hr) (g_v 0 rfl (zce (k:=.local) (by decide +kernel) rfl) rfl zi3) (g_v 1 rfl (zce (k:=.local) (by decide +kernel) rfl) rfl zhF)))) zaf)))
 zak)))))
theorem t_4 (Tp:Top K mg) (Fk:Fs P w K mg base k):JT P w K mg base k true "is_many" 10 N4 b4:=fun cdv A outer s H E hr=>
 (zac (zaD (zam 1 Fk.t1 (fun _=>rfl) hr Tp.d1.m Tp.d1.f.kp Tp.d1.b zaE (zae zdZ) (zaa (g_v 0 rfl (zae zhI) rfl zau) (zaa zad (zaa (znu Tp.g_MOST_PLACES (zae zc5) zc6) zaf))) zcn))
 zak)
theorem t_5 (Tp:Top K mg) (Fk:Fs P w K mg base k):JT P w K mg base k true "is_place" 11 N5 b5:=fun cdv A outer s H E hr=>
 (zac (zaD (zam 1 Fk.t1 (fun _=>rfl) hr Tp.d1.m Tp.d1.f.kp Tp.d1.b zaE (zae zdU) (zaa (g_v 1 rfl (zae ziu) rfl zau) (zaa zad (zaa (zay zhC (g_v 0 rfl (zae zjb) rfl zci) zad) zaf))) zcn))
 zak)
theorem t_6 (Tp:Top K mg) (Fk:Fs P w K mg base k):JT P w K mg base k true "is_tie" 12 N6 b6:=fun cdv A outer s H E hr=>
 (zac (zd0 (zcc (zb7 (zam 2 Fk.t2 (fun _=>rfl) hr Tp.d2.m Tp.d2.f.kp Tp.d2.b zaE (zae zf8) (zaa (g_v 1 rfl (zae zfa) rfl zau) (zaa zad zaf)) zcD))) (zac (zaD zeO)
 zak) zak)
 (zac (zgI 2 3 rfl rfl sc6.nd rfl rfl (zae zgO) (zae zdt) rfl rfl (g_v 1 rfl (zae zfa) rfl zau))
 (zac (zaD (zev (zam 5 Fk.t5 (fun _=>rfl) hr Tp.d5.m Tp.d5.f.kp Tp.d5.b zaE (zae zcL) (zaa (g_v 0 rfl (zae zgD) rfl zci) (zaa (g_v 2 rfl (zae zgO) rfl zgG) zaf)) zcG) (zev (zam 5 Fk.t5 (fun _=>rfl) hr Tp.d5.m Tp.d5.f.kp Tp.d5.b zaE (zae zcL) (zaa (g_v 0 rfl (zae zgD) rfl zci) (zaa (g_v 3 rfl (zae zdt) rfl zds) zaf)) zcG) (zeZ (zdq (zmp hr) (g_v 2 rfl (zae zgO) rfl zgG) (g_v 3 rfl (zae zdt) rfl zds))))))
 zak)))
theorem t_7 (Tp:Top K mg) (Fk:Fs P w K mg base k):JT P w K mg base k true "check_web" 13 N7 b7:=fun cdv A outer s H E hr=>
 (zac (zd0 (zcc (zb7 (zam 3 Fk.t3 (fun _=>rfl) hr Tp.d3.m Tp.d3.f.kp Tp.d3.b zaE (zae zhf) (zaa (g_v 0 rfl (zae zib) rfl zau) zaf) zhl))) (zac (zhH (kk:=.globalImplicit) hr rfl rfl Tp.i1 Tp.c1 (zae ziw) zaE (zaa (zcH zad) zaf) zhE)
 zak) zak)
 zak)
theorem t_8 (Tp:Top K mg) (Fk:Fs P w K mg base k):JT P w K mg base k true "plain_hold" 15 N8 b8:=fun cdv A outer s H E hr=>
 (zac (zm0 (zam 7 Fk.t7 (fun _=>rfl) hr Tp.d7.m Tp.d7.f.kp Tp.d7.b zaE (zae zej) (zaa (g_v 0 rfl (zae zgW) rfl zgl) zaf) zdT))
 (zac (zd0 (t_w (zlW (zcc (zb7 (zam 2 Fk.t2 (fun _=>rfl) hr Tp.d2.m Tp.d2.f.kp Tp.d2.b zaE (zae zgT) (zaa (g_v 1 rfl (zae zfw) rfl zau) (zaa (zbx (g_v 0 rfl (zae zgW) rfl zgl) zad) zaf)) zcD))) (ziD (zcc (zb7 (zgV rfl Tp.z_all (zae ziR) (zaa (zbm (defScope (top 15)) N8 ["number"] [] [] rfl rfl rfl (by decide +kernel) (by decide +kernel) (za1 0) (by decide +kernel) (zcM (g_v 1 rfl (zae zfw) rfl zau)) (fun _ _ _ _ _ _=>(zhy 0 (by decide +kernel) rfl (by decide +kernel))) (fun _ _ _ _ _ _=>zhw) (fun _ _ _ _ _ _=>(zev (zam 0 Fk.t0 (fun _=>rfl) hr Tp.d0.m Tp.d0.f.kp Tp.d0.b zjO (zce (k:=.globalImplicit) (by decide +kernel) rfl) (zaa (g_v 0 rfl (zce (k:=.local) (by decide +kernel) rfl) rfl zd8) zaf) zcO) (zeZ (zdq zmC (g_v 0 rfl (zce (k:=.local) (by decide +kernel) rfl) rfl zd8) zad))))) zaf))))))) (zac (zaD zeO)
 zak) zak)
 (zac (zaD (zgV rfl Tp.z_all (zae ziR) (zaa (zbm (defScope (top 15)) N8 ["one","other"] ["thing"] [1] rfl rfl rfl (by decide +kernel) (by decide +kernel) (zdn 0 1) (by decide +kernel) (zcM (zbx (g_v 0 rfl (zae zgW) rfl zgl) zad)) (fun _ _ _ _ _ _=>(zm6 0 1 rfl (by decide +kernel) rfl rfl (by decide +kernel) (by decide +kernel))) (fun _ _ _ _ _ _=>zhw) (fun _ _ _ _ _ _=>(zdq (zkq hr) (zbx (zeg 2 rfl (by decide +kernel) zau) (g_v 0 rfl (zce (k:=.local) (by decide +kernel) rfl) rfl zgG)) (zbx (zeg 2 rfl (by decide +kernel) zau) (g_v 1 rfl (zce (k:=.local) (by decide +kernel) rfl) rfl zds))))) zaf)))
 zak)))
theorem t_9 (Tp:Top K mg) (Fk:Fs P w K mg base k):JT P w K mg base k true "_law_cell" 17 N9 b9:=fun cdv A outer s H E hr=>
 (zac (zd0 (zbT (zmp hr) (g_v 1 rfl (zae zel) rfl zbS) (zf3 Tp.z_len (zae zlP) (zaa (g_v 0 rfl (zae zbC) rfl zaK) zaf))) (zac (zaD (zbx (g_v 0 rfl (zae zbC) rfl zaK) (g_v 1 rfl (zae zel) rfl zbS)))
 zak) zak)
 (zac (zaD zad)
 zak))
theorem znE (Tp:Top K mg) (Fk:Fs P w K mg base k):JT P w K mg base k true "_law_pen" 18 N10 b10:=fun cdv A outer s H E hr=>
 (zac (zaV 1 sc10.nd rfl (zae zbf) rfl (zlQ rfl Tp.z_max (zae zkb) (zaa (g_v 0 rfl (zae zaZ) rfl zaI) (zaa (zay zhC zad (g_v 0 rfl (zae zaZ) rfl zaI)) zaf))))
 (zac (zaD (za4 (zaa (g_v 1 rfl (zae zbf) rfl zbo) (zaa (zmo Tp.z_int (zae zkj) (zaa (zdq zmC (g_v 1 rfl (zae zbf) rfl zbo) (zay zjw zad zad)) zaf)) zaf))))
 zak))
theorem znI (Tp:Top K mg) (Fk:Fs P w K mg base k):JT P w K mg base k true "_law_draw" 19 N11 b11:=fun cdv A outer s H E hr=>
 (zac (zd0 (zbT (zi4 hr) (zbx (g_v 0 rfl (zae zaq) rfl zab) zad) zad) (zac (zgI 2 3 rfl rfl sc11.nd rfl rfl (zae zb1) (zae zbA) rfl rfl (zh4 Tp.z_divmod (zae zfN) (zaa (zbx (g_v 0 rfl (zae zaq) rfl zab) zad) (zaa (g_v 1 rfl (zae zbM) rfl zaO) zaf))))
 (zac (zh8 (g_v 0 rfl (zae zaq) rfl zab) zad (g_v 2 rfl (zae zb1) rfl zbo))
 (zac (zaD (g_v 3 rfl (zae zbA) rfl zbh))
 zak))) zak)
 (zac (zaV 4 sc11.nd rfl (zae zaG) rfl (zay zgp (zay zih (zay za6 (zay zgp (zbx (g_v 0 rfl (zae zaq) rfl zab) zad) zad) zad) zad) zad))
 (zac (zaV 4 sc11.nd rfl (zae zaG) rfl (zay zgp (zay za6 (zay zih (g_v 4 rfl (zae zaG) rfl zbs) (g_v 4 rfl (zae zaG) rfl zbs)) zad) zad))
 (zac (zh8 (g_v 0 rfl (zae zaq) rfl zab) zad (zay zgp (zay za6 (zay zih (g_v 4 rfl (zae zaG) rfl zbs) zad) zad) zad))
 (zac (zaD (zay zgp (zay zmh (zbx (g_v 0 rfl (zae zaq) rfl zab) zad) zad) (g_v 1 rfl (zae zbM) rfl zaO)))
 zak)))))
theorem znF (Tp:Top K mg) (Fk:Fs P w K mg base k):JT P w K mg base k true "_law_whole" 20 N12 b12:=fun cdv A outer s H E hr=>
 (zac (zaD (zev (zeb Tp.cs Tp.z_isinstance (zae zbz) (g_v 0 rfl (zae zby) rfl zai) (ziM rfl Tp.z_int ziS (zae zkm) ziT)) (zeZ (zmn (zeb Tp.cs Tp.z_isinstance (zae zbz) (g_v 0 rfl (zae zby) rfl zai) (ziM rfl Tp.z_bool zeV (zae zix) zeP))))))
 zak)
theorem znw (Tp:Top K mg) (Fk:Fs P w K mg base k):JT P w K mg base k true "_law_odd" 21 N13 b13:=fun cdv A outer s H E hr=>
 (zac (zaV 1 sc13.nd rfl (zae zb6) rfl (za4 (zaa zgL (zaa zeO (zaa zeO (zaa (zcH zad) (zaa zhG (zaa zhG (zaa (zaR zaf) (zaa (za4 zaf) (zaa (zaR (zaa zad zaf)) (zaa (za4 (zaa zad zaf)) (zaa zkU (zaa (zaR (zaa zad (zaa zad zaf))) (zaa (zay zjw zad zad) (zaa (zaR (zaa zad (zaa (zaR zaf) zaf))) (zaa (zaR (zaa zhG zaf)) zaf)))))))))))))))))
 (zac (zaD (zbx (zay za6 (g_v 1 rfl (zae zb6) rfl zd5) (za4 (zaa (zaR (zaa zad (zaa (zaR (zaa (zaR (zaa zad (zaa zad zaf))) zaf)) zaf))) zaf))) (zam 11 Fk.t11 (fun _=>rfl) hr Tp.d11.m Tp.d11.f.kp Tp.d11.b zaE (zae zdO) (zaa (g_v 0 rfl (zae zb9) rfl zab) (zaa zad zaf)) zan)))
 zak))
theorem znx (Tp:Top K mg) (Fk:Fs P w K mg base k):JT P w K mg base k true "_law_size" 22 N14 b14:=fun cdv A outer s H E hr=>
 (zac (zaD (zbx (za4 (zaa zad (zaa zad (zaa zad (zaa zad (zaa zad (zaa zad (zaa zad (zaa zad (zaa zad (zaa zad (zaa zad (zaa zad zaf))))))))))))) (zam 11 Fk.t11 (fun _=>rfl) hr Tp.d11.m Tp.d11.f.kp Tp.d11.b zaE (zae zdE) (zaa (g_v 0 rfl (zae zcj) rfl zab) (zaa zad zaf)) zan)))
 zak)
theorem zny (Tp:Top K mg) (Fk:Fs P w K mg base k):JT P w K mg base k true "_law_web" 23 N15 b15:=fun cdv A outer s H E hr=>
 (zac (zaV 2 sc15.nd rfl (zae zc2) rfl (zbx (za4 (zaa zad (zaa zad (zaa zad zaf)))) (zam 11 Fk.t11 (fun _=>rfl) hr Tp.d11.m Tp.d11.f.kp Tp.d11.b zaE (zae zdC) (zaa (g_v 0 rfl (zae zcl) rfl zab) (zaa zad zaf)) zan)))
 (zac (zaV 3 sc15.nd rfl (zae zaQ) rfl (za4 zaf))
 (zac (zf2 zeQ rfl rfl (zhq Tp.z_range (zae zen) (g_v 1 rfl (zae zbg) rfl zaO)) (zc8 4 sc15.nd rfl (zae zcs) rfl) (zac (zaV 3 sc15.nd rfl (zae zaQ) rfl (zay za6 (g_v 3 rfl (zae zaQ) rfl zcp) (zbm (defScope (top 23)) N15 ["_law_other"] ["_law_one","_law_pen_here","_law_often"] [4,0,2] rfl rfl rfl (by decide +kernel) (by decide +kernel) (za1 0) (by decide +kernel) (znf Tp.z_range (zae zen) (zay za6 (g_v 4 rfl (zae zcs) rfl zaH) zad) (g_v 1 rfl (zae zbg) rfl zaO)) (fun _ _ _ _ _ _=>(zhy 0 (by decide +kernel) rfl (by decide +kernel))) (fun _ _ _ _ _ _=>(zjD (zbT (zmp hr) (zam 11 Fk.t11 (fun _=>rfl) hr Tp.d11.m Tp.d11.f.kp Tp.d11.b zjO (zce (k:=.globalImplicit) (by decide +kernel) rfl) (zaa (zeg 2 rfl (by decide +kernel) zab) (zaa zad zaf)) zan) (zeg 3 rfl (by decide +kernel) zdP)))) (fun _ _ _ _ _ _=>(zaR (zaa (zeg 1 rfl (by decide +kernel) zaH) (zaa (g_v 0 rfl (zce (k:=.local) (by decide +kernel) rfl) rfl zbV) zaf)))))))
 zak))
 (zac (zaD (zaR (zaa (g_v 1 rfl (zae zbg) rfl zaO) (zaa (zdu Tp.z_tuple (zae zhe) (zaa (g_v 3 rfl (zae zaQ) rfl zcp) zaf)) zaf))))
 zak))))
theorem znA (Tp:Top K mg) (Fk:Fs P w K mg base k):JT P w K mg base k true "_law_plain" 24 N16 b16:=fun cdv A outer s H E hr=>
 (zac (zd0 (t_w (zlW (zcc (zb7 (zeb Tp.cs Tp.z_isinstance (zae zcY) (g_v 1 rfl (zae zaN) rfl zai) (ziM rfl Tp.z_tuple zcx (zae zgb) zdm)))) (zlW (zbT (zkq hr) (zf3 Tp.z_len (zae zjg) (zaa (g_v 1 rfl (zae zaN) rfl zai) zaf)) (zbx (g_v 0 rfl (zae zbe) rfl zah) zad)) (ziD (zcc (zb7 (zgV rfl Tp.z_all (zae zjA) (zaa (zbm (defScope (top 24)) N16 ["_law_one"] [] [] rfl rfl rfl (by decide +kernel) (by decide +kernel) (za1 0) (by decide +kernel) (zcM (g_v 1 rfl (zae zaN) rfl zai)) (fun _ _ _ _ _ _=>(zhy 0 (by decide +kernel) rfl (by decide +kernel))) (fun _ _ _ _ _ _=>zhw) (fun _ _ _ _ _ _=>(zam 12 Fk.t12 (fun _=>rfl) hr Tp.d12.m Tp.d12.f.kp Tp.d12.b zjO (zce (k:=.globalImplicit) (by decide +kernel) rfl) (zaa (g_v 0 rfl (zce (k:=.local) (by decide +kernel) rfl) rfl zaH) zaf) zdK))) zaf)))))))) (zac (zaD zeO)
 zak) zak)
 (zac (zaD (zev (zdq zmC (zlo rfl Tp.z_min (zae zjX) (zaa (g_v 1 rfl (zae zaN) rfl zai) zaf)) zad) (zeZ (zdq (zi4 hr) (zbm (defScope (top 24)) N16 ["_law_tie"] ["_law_thing"] [1] rfl rfl rfl (by decide +kernel) (by decide +kernel) (za1 0) (by decide +kernel) (zcM (zbx (g_v 0 rfl (zae zbe) rfl zah) zad)) (fun _ _ _ _ _ _=>(zhy 0 (by decide +kernel) rfl (by decide +kernel))) (fun _ _ _ _ _ _=>(zjD (zbT (zi4 hr) (zbx (zeg 1 rfl (by decide +kernel) zai) (zbx (g_v 0 rfl (zce (k:=.local) (by decide +kernel) rfl) rfl zbH) zad)) (zbx (zeg 1 rfl (by decide +kernel) zai) (zbx (g_v 0 rfl (zce (k:=.local) (by decide +kernel) rfl) rfl zbH) zad))))) (fun _ _ _ _ _ _=>(g_v 0 rfl (zce (k:=.local) (by decide +kernel) rfl) rfl zbH))) (za4 zaf)))))
 zak))
theorem znH (Tp:Top K mg) (Fk:Fs P w K mg base k):JT P w K mg base k true "_law_plain_first" 25 N17 b17:=fun cdv A outer s H E hr=>
 (zac (zf2 zeQ rfl rfl (znf Tp.z_range (zae zgK) zad (zay za6 (zbx (g_v 0 rfl (zae zaJ) rfl zah) zad) zad)) (zc8 1 sc17.nd rfl (zae zbY) rfl) (zac (zaV 2 sc17.nd rfl (zae zaj) rfl (za4 (zaa zad zaf)))
 (zac (zjr zeQ (t_w (zms (zbT (zkq hr) (g_v 2 rfl (zae zaj) rfl zag) (za4 zaf)) (zk3 (zbT zmO (zf3 Tp.z_len (zae zj8) (zaa (g_v 2 rfl (zae zaj) rfl zag) zaf)) (zbx (g_v 0 rfl (zae zaJ) rfl zah) zad))))) (zac (zl5 3 (defScope (top 25)) N17 ["_law_one","_law_other"] ["_law_row"] [2] sc17.nd rfl (zae zb5) rfl rfl rfl rfl (by decide +kernel) (by decide +kernel) (zdn 0 1) (by decide +kernel) (zcM (zbx (g_v 0 rfl (zae zaJ) rfl zah) zad)) (fun _ _ _ _ _ _=>(zm6 0 1 rfl (by decide +kernel) rfl rfl (by decide +kernel) (by decide +kernel))) (fun _ _ _ _ _ _=>(zjD (zbT (zi4 hr) (g_v 1 rfl (zce (k:=.local) (by decide +kernel) rfl) rfl zbV) (zay zhC (zf3 Tp.z_len (zce (k:=.globalImplicit) (by decide +kernel) rfl) (zaa (zeg 2 rfl (by decide +kernel) zag) zaf)) zad)))) (fun _ _ _ _ _ _=>(zbx (zeg 2 rfl (by decide +kernel) zag) (g_v 0 rfl (zce (k:=.local) (by decide +kernel) rfl) rfl zaH))))
 (zac (zd0 (zbT (zi4 hr) (zbx (g_v 2 rfl (zae zaj) rfl zag) (zcH zad)) (g_v 1 rfl (zae zbY) rfl zez)) (zac (zm0 (zmZ (g_v 2 rfl (zae zaj) rfl zag)))
 (zac (zd0 (zbT (zkq hr) (g_v 2 rfl (zae zaj) rfl zag) (za4 zaf)) (zac (zh8 (g_v 2 rfl (zae zaj) rfl zag) (zcH zad) (zay za6 (zbx (g_v 2 rfl (zae zaj) rfl zag) (zcH zad)) zad))
 zak) zak)
 zak)) (zac (zd0 (zbT (znz hr) (zbx (g_v 2 rfl (zae zaj) rfl zag) (zcH zad)) (g_v 3 rfl (zae zb5) rfl zeA)) (zac (zh8 (g_v 2 rfl (zae zaj) rfl zag) (zcH zad) (zay za6 (zbx (g_v 2 rfl (zae zaj) rfl zag) (zcH zad)) zad))
 zak) (zac (zm0 (zlj (g_v 2 rfl (zae zaj) rfl zag) zad))
 zak))
 zak))
 zak)))
 (zac (zd0 (zbT (zkq hr) (g_v 2 rfl (zae zaj) rfl zag) (za4 zaf)) (zac (zaD (zdu Tp.z_tuple (zae zgM) (zaa (zjS (g_v 2 rfl (zae zaj) rfl zag) zkr (zep (zcH zad))) zaf)))
 zak) zak)
 zak))))
 (zac (zaD zgL)
 zak))
theorem znv (Tp:Top K mg) (Fk:Fs P w K mg base k):JT P w K mg base k true "_law_some_plain" 26 N18 b18:=fun cdv A outer s H E hr=>
 (zac (zaV 2 sc18.nd rfl (zae zco) rfl (zam 17 Fk.t17 (fun _=>rfl) hr Tp.d17.m Tp.d17.f.kp Tp.d17.b zaE (zae zbv) (zaa (g_v 1 rfl (zae za9) rfl zah) zaf) zbJ))
 (zac (zaV 3 sc18.nd rfl (zae za0) rfl (zbm (defScope (top 26)) N18 ["_law_at"] ["_law_pen_here"] [0] rfl rfl rfl (by decide +kernel) (by decide +kernel) (za1 0) (by decide +kernel) (zhq Tp.z_range (zae zg0) (zay za6 (zbx (g_v 1 rfl (zae za9) rfl zah) zad) zad)) (fun _ _ _ _ _ _=>(zhy 0 (by decide +kernel) rfl (by decide +kernel))) (fun _ _ _ _ _ _=>zhw) (fun _ _ _ _ _ _=>(zay za6 (zam 11 Fk.t11 (fun _=>rfl) hr Tp.d11.m Tp.d11.f.kp Tp.d11.b zjO (zce (k:=.globalImplicit) (by decide +kernel) rfl) (zaa (zeg 1 rfl (by decide +kernel) zab) (zaa zad zaf)) zan) (zay zih zad (g_v 0 rfl (zce (k:=.local) (by decide +kernel) rfl) rfl zbc))))))
 (zac (zd0 (zbT (zi4 hr) (zam 11 Fk.t11 (fun _=>rfl) hr Tp.d11.m Tp.d11.f.kp Tp.d11.b zaE (zae zb2) (zaa (g_v 0 rfl (zae za7) rfl zab) (zaa zad zaf)) zan) zad) (zac (zaV 3 sc18.nd rfl (zae za0) rfl (zbm (defScope (top 26)) N18 ["_law_name"] [] [] rfl rfl rfl (by decide +kernel) (by decide +kernel) (za1 0) (by decide +kernel) (zcM (g_v 3 rfl (zae za0) rfl zb0)) (fun _ _ _ _ _ _=>(zhy 0 (by decide +kernel) rfl (by decide +kernel))) (fun _ _ _ _ _ _=>zhw) (fun _ _ _ _ _ _=>(zay za6 (zay zjw zad zad) (g_v 0 rfl (zce (k:=.local) (by decide +kernel) rfl) rfl zd6)))))
 zak) zak)
 (zac (zaV 4 sc18.nd rfl (zae zcK) rfl (zam 11 Fk.t11 (fun _=>rfl) hr Tp.d11.m Tp.d11.f.kp Tp.d11.b zaE (zae zb2) (zaa (g_v 0 rfl (zae za7) rfl zab) (zaa zad zaf)) zan))
 (zac (zaD (zdu Tp.z_tuple (zae zhk) (zaa (zbm (defScope (top 26)) N18 ["_law_one"] ["_law_names","_law_row","_law_turned"] [3,2,4] rfl rfl rfl (by decide +kernel) (by decide +kernel) (za1 0) (by decide +kernel) (zcM (g_v 2 rfl (zae zco) rfl zag)) (fun _ _ _ _ _ _=>(zhy 0 (by decide +kernel) rfl (by decide +kernel))) (fun _ _ _ _ _ _=>zhw) (fun _ _ _ _ _ _=>(zbx (zeg 1 rfl (by decide +kernel) zb0) (zbx (za4 (zaa (g_v 0 rfl (zce (k:=.local) (by decide +kernel) rfl) rfl zaH) (zaa (zay zhC (zlY rfl Tp.z_max (zce (k:=.globalImplicit) (by decide +kernel) rfl) (zaa (zeg 2 rfl (by decide +kernel) zag) zaf)) (g_v 0 rfl (zce (k:=.local) (by decide +kernel) rfl) rfl zaH)) zaf))) (zeg 3 rfl (by decide +kernel) zcX))))) zaf)))
 zak)))))
theorem znD (Tp:Top K mg) (Fk:Fs P w K mg base k):JT P w K mg base k true "_law_bent_row" 27 N19 b19:=fun cdv A outer s H E hr=>
 (zac (zaV 3 sc19.nd rfl (zae zaU) rfl (zam 11 Fk.t11 (fun _=>rfl) hr Tp.d11.m Tp.d11.f.kp Tp.d11.b zaE (zae zaP) (zaa (g_v 0 rfl (zae zaA) rfl zab) (zaa (zay za6 (zf3 Tp.z_len (zae zjN) (zaa (g_v 1 rfl (zae zax) rfl zag) zaf)) zad) zaf)) zan))
 (zac (zaV 4 sc19.nd rfl (zae zbb) rfl (zbx (za4 (zaa zeO (zaa zeO (zaa zgL (zaa (zcH zad) (zaa (g_v 2 rfl (zae zdd) rfl zbS) (zaa zhG (zaa (zaR (zaa zad zaf)) (zaa (zam 11 Fk.t11 (fun _=>rfl) hr Tp.d11.m Tp.d11.f.kp Tp.d11.b zaE (zae zaP) (zaa (g_v 0 rfl (zae zaA) rfl zab) (zaa (g_v 2 rfl (zae zdd) rfl zbS) zaf)) zan) zaf))))))))) (zam 11 Fk.t11 (fun _=>rfl) hr Tp.d11.m Tp.d11.f.kp Tp.d11.b zaE (zae zaP) (zaa (g_v 0 rfl (zae zaA) rfl zab) (zaa zad zaf)) zan)))
 (zac (zaV 5 sc19.nd rfl (zae zbX) rfl (za4 (zaa (zay za6 (zay za6 (zjS (g_v 1 rfl (zae zax) rfl zag) zkr (zep (g_v 3 rfl (zae zaU) rfl zbc))) (zaR (zaa (g_v 4 rfl (zae zbb) rfl zcu) zaf))) (zjS (g_v 1 rfl (zae zax) rfl zag) (zep (zay za6 (g_v 3 rfl (zae zaU) rfl zbc) zad)) zkr)) (zaa (zay za6 (zjS (g_v 1 rfl (zae zax) rfl zag) zkr (zep (g_v 3 rfl (zae zaU) rfl zbc))) (zjS (g_v 1 rfl (zae zax) rfl zag) (zep (zay za6 (g_v 3 rfl (zae zaU) rfl zbc) zad)) zkr)) (zaa (zay za6 (g_v 1 rfl (zae zax) rfl zag) (zaR (zaa zad zaf))) (zaa (zkA Tp.z_list (zae ziy) (zaa (g_v 1 rfl (zae zax) rfl zag) zaf)) (zaa zgL (zaa (zaR (zaa (g_v 1 rfl (zae zax) rfl zag) zaf)) zaf))))))))
 (zac (zaD (zbx (g_v 5 rfl (zae zbX) rfl zdR) (zbx (za4 (zaa zad (zaa zad (zaa zad (zaa zad (zaa zad (zaa zad (zaa zad (zaa zad (zaa zad zaf)))))))))) (zam 11 Fk.t11 (fun _=>rfl) hr Tp.d11.m Tp.d11.f.kp Tp.d11.b zaE (zae zaP) (zaa (g_v 0 rfl (zae zaA) rfl zab) (zaa zad zaf)) zan))))
 zak))))
theorem znC (Tp:Top K mg) (Fk:Fs P w K mg base k):JT P w K mg base k true "_law_right" 28 N20 b20:=fun cdv A outer s H E hr=>
 (zac (zaV 2 sc20.nd rfl (zae zbN) rfl (ziV hr Tp.z_repr (zae zfx) (zaa (g_v 1 rfl (zae zaL) rfl zai) zaf)))
 (zac (zaV 3 sc20.nd rfl (zae zcq) rfl (zam 16 Fk.t16 (fun _=>rfl) hr Tp.d16.m Tp.d16.f.kp Tp.d16.b zaE (zae zc0) (zaa (g_v 0 rfl (zae za8) rfl zah) (zaa (g_v 1 rfl (zae zaL) rfl zai) zaf)) zdl))
 (zac (zf2 zeQ rfl rfl (zhq Tp.z_range (zae zhc) zad) (zc8 4 sc20.nd rfl (zae zdA) rfl) (zac (zaV 5 sc20.nd rfl (zae za2) rfl (zam 8 Fk.t8 (fun _=>rfl) hr Tp.d8.m Tp.d8.f.kp Tp.d8.b zaE (zae zc1) (zaa (g_v 0 rfl (zae za8) rfl zah) (zaa (g_v 1 rfl (zae zaL) rfl zai) zaf)) zdj))
 (zac (zd0 (t_w (zlW (zcc (zb7 (zeb Tp.cs Tp.z_isinstance (zae zcZ) (g_v 5 rfl (zae za2) rfl zbh) (ziM rfl Tp.z_bool zeV (zae zhJ) zeP)))) (ziD (zbT (zkq hr) (g_v 5 rfl (zae za2) rfl zbh) (g_v 3 rfl (zae zcq) rfl zeR))))) (zac (zaD zeO)
 zak) zak)
 zak)))
 (zac (zaD (zdq (zi4 hr) (ziV hr Tp.z_repr (zae zfx) (zaa (g_v 1 rfl (zae zaL) rfl zai) zaf)) (g_v 2 rfl (zae zbN) rfl zet)))
 zak))))
theorem znB (Tp:Top K mg) (Fk:Fs P w K mg base k):JT P w K mg base k true "law" 29 N21 b21:=fun cdv A outer s H E hr=>
 (zac (zf2 zeQ rfl rfl (zcM (za4 (zaa (zaR (zaa zad (zaa zad zaf))) (zaa (zaR (zaa zad (zaa zad zaf))) (zaa (zaR (zaa zad (zaa zeO zaf))) (zaa (zaR (zaa zad (zaa (zcH zad) zaf))) (zaa (za4 (zaa zad (zaa zad zaf))) (zaa zgL (zaa (zaR (zaa zad zaf)) (zaa (zaR (zaa zad (zaa zad zaf))) zaf)))))))))) (zc8 1 sc21.nd rfl (zae zaM) rfl) (zac (zd0 (zcc (zb7 (zam 20 Fk.t20 (fun _=>rfl) hr Tp.d20.m Tp.d20.f.kp Tp.d20.b zaE (zae zbB) (zaa (zaR (zaa zad (zaa (zaR (zaa (zaR (zaa zad (zaa zad zaf))) zaf)) zaf))) (zaa (g_v 1 rfl (zae zaM) rfl zai) zaf)) zbQ))) (zac (zaD zeO)
 zak) zak)
 zak))
 (zac (zf2 zeQ rfl rfl (zcM (zay za6 (za4 (zaa (zam 9 Fk.t9 (fun _=>rfl) hr Tp.d9.m Tp.d9.f.kp Tp.d9.b zaE (zae zdD) (zaa (g_v 0 rfl (zae zbt) rfl zaK) (zaa zad zaf)) zdS) zaf)) (zjS (g_v 0 rfl (zae zbt) rfl zaK) (zep zad) (zep zad)))) (zc8 2 sc21.nd rfl (zae zaY) rfl) (zac (zaV 3 sc21.nd rfl (zae zaw) rfl (zam 10 Fk.t10 (fun _=>rfl) hr Tp.d10.m Tp.d10.f.kp Tp.d10.b zaE (zae zd2) (zaa (g_v 2 rfl (zae zaY) rfl zaI) zaf) ze5))
 (zac (zaV 4 sc21.nd rfl (zae zaB) rfl (zam 15 Fk.t15 (fun _=>rfl) hr Tp.d15.m Tp.d15.f.kp Tp.d15.b zaE (zae zeu) (zaa (g_v 3 rfl (zae zaw) rfl zab) (zaa (zam 14 Fk.t14 (fun _=>rfl) hr Tp.d14.m Tp.d14.f.kp Tp.d14.b zaE (zae zdk) (zaa (g_v 3 rfl (zae zaw) rfl zab) zaf) zeE) zaf)) zeM))
 (zac (zaV 5 sc21.nd rfl (zae zaT) rfl (zam 18 Fk.t18 (fun _=>rfl) hr Tp.d18.m Tp.d18.f.kp Tp.d18.b zaE (zae zbG) (zaa (g_v 3 rfl (zae zaw) rfl zab) (zaa (g_v 4 rfl (zae zaB) rfl zah) zaf)) zbO))
 (zac (zaV 6 sc21.nd rfl (zae zbE) rfl (zdu Tp.z_tuple (zae zgJ) (zaa (zbm (defScope (top 29)) N21 ["_law_place"] ["_law_pen_here"] [3] rfl rfl rfl (by decide +kernel) (by decide +kernel) (za1 0) (by decide +kernel) (zhq Tp.z_range (zae zem) (zbx (g_v 4 rfl (zae zaB) rfl zah) zad)) (fun _ _ _ _ _ _=>(zhy 0 (by decide +kernel) rfl (by decide +kernel))) (fun _ _ _ _ _ _=>zhw) (fun _ _ _ _ _ _=>(zam 11 Fk.t11 (fun _=>rfl) hr Tp.d11.m Tp.d11.f.kp Tp.d11.b zjO (zce (k:=.globalImplicit) (by decide +kernel) rfl) (zaa (zeg 1 rfl (by decide +kernel) zab) (zaa zad zaf)) zan))) zaf)))
 (zac (zf2 zeQ rfl rfl (zcM (zay za6 (za4 (zaa (g_v 5 rfl (zae zaT) rfl zaW) (zaa (g_v 6 rfl (zae zbE) rfl zdQ) (zaa (zam 13 Fk.t13 (fun _=>rfl) hr Tp.d13.m Tp.d13.f.kp Tp.d13.b zaE (zae zdW) (zaa (g_v 3 rfl (zae zaw) rfl zab) zaf) zeJ) zaf)))) (zbm (defScope (top 29)) N21 ["_law_turn"] ["_law_pen_here","_law_plain_here"] [3,5] rfl rfl rfl (by decide +kernel) (by decide +kernel) (za1 0) (by decide +kernel) (zhq Tp.z_range (zae zem) zad) (fun _ _ _ _ _ _=>(zhy 0 (by decide +kernel) rfl (by decide +kernel))) (fun _ _ _ _ _ _=>zhw) (fun _ _ _ _ _ _=>(zam 19 Fk.t19 (fun _=>rfl) hr Tp.d19.m Tp.d19.f.kp Tp.d19.b zjO (zce (k:=.globalImplicit) (by decide +kernel) rfl) (zaa (zeg 1 rfl (by decide +kernel) zab) (zaa (zeg 2 rfl (by decide +kernel) zaW) (zaa zad zaf))) zct))))) (zc8 1 sc21.nd rfl (zae zaM) rfl) (zac (zd0 (zcc (zb7 (zam 20 Fk.t20 (fun _=>rfl) hr Tp.d20.m Tp.d20.f.kp Tp.d20.b zaE (zae zbB) (zaa (g_v 4 rfl (zae zaB) rfl zah) (zaa (g_v 1 rfl (zae zaM) rfl zai) zaf)) zbQ))) (zac (zaD zeO)
 zak) zak)
 zak))
 zak))))))
 (zac (zaD zeO)
 zak)))
theorem zkg (Tp:Top K mg) (Fk:Fs P w K mg base k):Fs P w K mg base (k + 1) where
 t0:=zaC Tp.d0.f sc0 T_0 rfl rfl (t_0 Tp Fk)
 t1:=zaC Tp.d1.f sc1 T_1 rfl rfl (t_1 Tp Fk)
 t2:=zaC Tp.d2.f sc2 T_2 rfl rfl (t_2 Tp Fk)
 t3:=zaC Tp.d3.f sc3 T_3 rfl rfl (t_3 Tp Fk)
 t4:=zaC Tp.d4.f sc4 T_4 rfl rfl (t_4 Tp Fk)
 t5:=zaC Tp.d5.f sc5 T_5 rfl rfl (t_5 Tp Fk)
 t6:=zaC Tp.d6.f sc6 T_6 rfl rfl (t_6 Tp Fk)
 t7:=zaC Tp.d7.f sc7 T_7 rfl rfl (t_7 Tp Fk)
 t8:=zaC Tp.d8.f sc8 T_8 rfl rfl (t_8 Tp Fk)
 t9:=zaC Tp.d9.f sc9 T_9 rfl rfl (t_9 Tp Fk)
 t10:=zaC Tp.d10.f sc10 znn rfl rfl (znE Tp Fk)
 t11:=zaC Tp.d11.f sc11 znh rfl rfl (znI Tp Fk)
 t12:=zaC Tp.d12.f sc12 znJ rfl rfl (znF Tp Fk)
 t13:=zaC Tp.d13.f sc13 znm rfl rfl (znw Tp Fk)
 t14:=zaC Tp.d14.f sc14 zng rfl rfl (znx Tp Fk)
 t15:=zaC Tp.d15.f sc15 zne rfl rfl (zny Tp Fk)
 t16:=zaC Tp.d16.f sc16 znq rfl rfl (znA Tp Fk)
 t17:=zaC Tp.d17.f sc17 zno rfl rfl (znH Tp Fk)
 t18:=zaC Tp.d18.f sc18 znp rfl rfl (znv Tp Fk)
 t19:=zaC Tp.d19.f sc19 znr rfl rfl (znD Tp Fk)
 t20:=zaC Tp.d20.f sc20 zns rfl rfl (znC Tp Fk)
 t21:=zaC Tp.d21.f sc21 znj rfl rfl (znB Tp Fk)
theorem ziW (Tp:Top K mg):∀ k,Fs P w K mg base k
 | 0=>⟨zat,zat,zat,zat,zat,zat,zat,zat,zat,zat,zat,zat,zat,zat,zat,zat,zat,zat,zat,zat,zat,zat⟩
 | k + 1=>zkg Tp (ziW Tp k)
end
theorem all_mk {l:PySem.W.OpenLaw} {w:World} {K:PySem.W.Frag} {h:Heap} {mg:Str->Option Value} {fa:Addr} (hm:∀ ns:List Int,ns.length<=63->∃ s',call sub T 60 true 21 [.d (.fl (ns.map D.int))] [] = some (.ok (.d (.bl true)),s'))
  (S:SaysI fs ms xs lk K) (X:K.In h) (G:h.Ns mainGlobals mg) (hfa:mg "law" = some (.ref fa)) :
  ∃ fd:FuncData,(∀ (s:Shared) (u:Value),BindsTo s fd ⟨[u],[]⟩ [("_law_script",u)])/\∀ base:Heap,K.In base->base.Ns mainGlobals mg->FnOk l.prog w K mg base (CXe l.prog w) true 60 fa fd ["_law_script"] (spLaw K):=by
 have Tp:Top K mg:=zlO S X G
 have e:=hfa.symm.trans Tp.d21.m
 cases e
 exact ⟨_,bindsL Tp.d21.f (fun _ _ _ _ _ _ _=>rfl),fun base _ _=>(ziW Tp 60).t21.imp (zi8 hm)⟩
end G42
set_option Elab.async false
set_option linter.all false
set_option maxRecDepth 100000
set_option maxHeartbeats 400000
namespace G42
open PySem Mi
noncomputable def Pen (o:SO):Prop:=∃ a b:Int,o = .lst [.int a,.int b]/\0<=a/\(b = 0\/b = 1)
theorem ziF {k:Nat} {o:SO} {m:Int} (ho:Pen o) (hm:0 < m) (hm2:m < 1073741824):W (call sub T (k + 1) true 11 [.l 0,.d (.int m)]) [o] fun v s=>∃ d o',v = .d d/\s = [o']/\(∃ r:Int,d = .int r/\0<=r/\r < m)/\Pen o':=by
 obtain ⟨a,b,rfl,ha,hb⟩:=ho
 refine W.call znh rfl ?_
 unfold b11
 rcases hb with rfl | rfl
 ·refine run ?_
  exact ⟨_,_,rfl,rfl,⟨_,rfl,Int.emod_nonneg _ (by omega),Int.emod_lt_of_pos _ hm⟩,⟨_,_,rfl,Int.emod_nonneg _ (by decide),.inl rfl⟩⟩
 ·refine run ?_
  exact ⟨_,_,rfl,rfl,⟨_,rfl,Int.emod_nonneg _ (by omega),Int.emod_lt_of_pos _ hm⟩,⟨_,_,rfl,Int.ediv_nonneg ha (by omega),.inr rfl⟩⟩
theorem zm4 {k:Nat} {n:Int}:W (call sub T (k + 1) true 10 [.d (.int n)]) [] fun v s=>∃ i o,v = .l i/\s[i]? = some o/\Pen o:=by
 refine W.call znn rfl ?_
 unfold b10
 refine run ?_
 refine ⟨0,_,rfl,rfl,⟨_,_,rfl,?_,?_⟩⟩
 ·split <;> omega
 ·have:∀ c:Bool,(if c = true then (1:Int) else 0) = 0\/(if c = true then (1:Int) else 0) = 1:=by intro c; cases c <;> simp
  exact this _
theorem W.draw {k:Nat} {o:SO} {m:Int} {P:Xv->S->Prop} (ho:Pen o) (hm:0 < m) (hm2:m < 1073741824) (h:∀ (r:Nat) o',(r:Int) < m->Pen o'->P (.d (.int r)) [o']):W (callW (call sub T (k + 1) true 11) [.l 0,.d (.int m)]) [o] P:=by
 refine W.call1 (n:=0) (o:=o) rfl rfl ((ziF ho hm hm2).imp fun v s=>?_)
 rintro ⟨d,o',rfl,rfl,⟨r,rfl,h0,h1⟩,hp⟩
 obtain ⟨n,rfl⟩:=Int.eq_ofNat_of_zero_le h0
 exact ⟨_,_,rfl,rfl,h n o' h1 hp⟩
theorem zlX {k:Nat} {ns:List Int}:W (call sub T (k + 1) true 9 [.d (.fl (ns.map D.int)),.d (.int 0)]) [] fun v _=>∃ n,v = .d (.int n):=by
 refine W.call T_9 rfl ?_
 unfold b9
 cases ns with
 | nil=>
  refine run ?_
  exact ⟨_,rfl⟩
 | cons n r=>
  refine run ?_
  refine WS.ite (fun _=>?_) (fun _=>?_)
  ·refine run ?_
   refine W.outD (zh1 (i:=0) (x:=.int n) rfl) ?_
   refine run ?_
   exact ⟨_,rfl⟩
  ·refine run ?_
   exact ⟨_,rfl⟩
end G42
set_option Elab.async false
set_option linter.all false
set_option maxRecDepth 100000
set_option maxHeartbeats 400000
namespace G42
open PySem Mi
theorem zk0 {k:Nat} {o:SO} (ho:Pen o):W (call sub T (k + 2) true 14 [.l 0]) [o] fun v s=>∃ (n:Nat) (o':SO),v = .d (.int n)/\s = [o']/\(1<=n/\n<=8)/\Pen o':=by
 refine W.call zng rfl ?_
 unfold b14
 refine run ?_
 refine W.draw ho (by decide) (by decide) fun r o' hr hp=>?_
 refine run ?_
 have hr':r < 12:=by omega
 refine W.outD (zh1 (x:=.int (([1,2,3,4,5,6,4,5,3,6,7,8]:List Nat)[r]'hr':Nat)) ?_) ?_
 ·revert hr'; revert r; intro r _ hr'; exact match r,hr' with
  | 0,_=>rfl | 1,_=>rfl | 2,_=>rfl | 3,_=>rfl | 4,_=>rfl | 5,_=>rfl | 6,_=>rfl | 7,_=>rfl | 8,_=>rfl | 9,_=>rfl | 10,_=>rfl | 11,_=>rfl
  | n + 12,h=>absurd h (by omega)
 ·refine run ?_
  refine ⟨_,_,rfl,rfl,?_,hp⟩
  have key:∀ n ∈ ([1,2,3,4,5,6,4,5,3,6,7,8]:List Nat),1<=n/\n<=8:=by decide
  exact key _ (List.getElem_mem _)
end G42
set_option Elab.async false
set_option linter.all false
set_option maxRecDepth 100000
set_option maxHeartbeats 400000
namespace G42
open PySem Mi
theorem whole_w {k:Nat} {i:Int}:W (call sub T (k + 1) true 0 [.d (.int i)]) [] fun v s=>v = .d (.bl true):=W.eq (a:=.d (.bl true)) (s':=[]) rfl rfl
theorem row_w {k:Nat} {a b:D}:W (call sub T (k + 1) true 2 [.d (.tup [a,b]),.d (.int 2)]) [] fun v s=>v = .d (.bl true):=W.eq (a:=.d (.bl true)) (s':=[]) rfl rfl
theorem within_w {k:Nat} {i a b:Int}:W (call sub T (k + 2) true 1 [.d (.int i),.d (.int a),.d (.int b)]) [] fun v s=>v = .d (.bl (decide (a<=i/\i<=b))):=by
 refine W.call T_1 rfl ?_
 unfold b1
 refine go ?_
 refine W.call0 rfl (whole_w.imp fun v s e=>⟨_,e,?_⟩)
 refine go ?_
 refine W.ite (fun h1=>?_) (fun h1=>?_)
 ·refine go ?_
  have:=of_decide_eq_true h1
  simp [this]
 ·refine go ?_
  simp at h1
  have:¬ (a<=i/\i<=b):=by omega
  simp [this]
theorem zlF {k:Nat} {i:Int} (h1:1<=i) (h2:i<=8):W (call sub T (k + 3) true 4 [.d (.int i)]) [] fun v s=>v = .d (.bl true):=by
 refine W.call T_4 rfl ?_
 unfold b4
 refine go ?_
 exact W.call0 rfl (within_w.imp fun v s e=>⟨_,e,by rw [decide_eq_true (And.intro h1 h2)]⟩)
theorem place_w {k:Nat} {n i:Int}:W (call sub T (k + 3) true 5 [.d (.int n),.d (.int i)]) [] fun v s=>v = .d (.bl (decide (0<=i/\i < n))):=by
 refine W.call T_5 rfl ?_
 unfold b5
 refine go ?_
 exact W.call0 rfl (within_w.imp fun v s e=>⟨_,e,by rw [decide_eq_decide.mpr (show 0<=i/\i<=n - 1 ↔ 0<=i/\i < n by omega)]⟩)
theorem zmN {k:Nat} {n:Int} {p:Int × Int} (h:0<=p.1/\p.1 < p.2/\p.2 < n):W (call sub T (k + 4) true 6 [.d (.int n),.d (prD p)]) [] fun v s=>v = .d (.bl true):=by
 obtain ⟨a,b⟩:=p
 obtain ⟨h1,h2,h3⟩:=h
 unfold prD
 dsimp only at h1 h2 h3 ⊢
 refine W.call T_6 rfl ?_
 unfold b6
 refine go ?_
 refine W.call0 rfl (row_w.imp fun v s e=>⟨_,e,?_⟩)
 refine go ?_
 refine W.call0 rfl (place_w.imp fun v s e=>⟨_,e,?_⟩)
 rw [decide_eq_true (show 0<=a/\a < n by omega)]
 refine go ?_
 refine W.call0 rfl (place_w.imp fun v s e=>⟨_,e,?_⟩)
 rw [decide_eq_true (show 0<=b/\b < n by omega)]
 refine go ?_
 rw [decide_eq_true h2]
end G42
set_option Elab.async false
set_option linter.all false
set_option maxRecDepth 100000
set_option maxHeartbeats 400000
namespace G42
open PySem Mi
theorem zkd {k:Nat} {n:Int} {ps:List (Int × Int)} (h:Web n ps):W (call sub T (k + 5) true 3 [.d (webD n ps)]) [] fun v s=>v = .d (.bl true):=by
 refine W.call T_3 rfl ?_
 unfold b3 webD
 have hl:(ps.map prD).length<=100:=by rw [List.length_map]; have:=h.len; have:=h.h8; omega
 have hs:(100:Nat)<=sizeLine:=by decide
 refine go ?_
 refine W.call0 rfl (row_w.imp fun v s e=>⟨_,e,?_⟩)
 refine go ?_
 refine W.call0 rfl ((zlF h.h1 h.h8).imp fun v s e=>⟨_,e,?_⟩)
 refine go ?_
 refine W.compM (c:=ps.map prD) (fun _=>.bl true) (by omega) ?_ (fun x hx=>?_) ?_
 ·refine go ?_
  exact ⟨rfl,rfl⟩
 ·obtain ⟨p,hp,rfl⟩:=List.mem_map.mp hx
  refine go ?_
  exact W.call0 rfl ((zmN (h.tie p hp)).imp fun v s e=>⟨_,e,rfl,rfl⟩)
 ·refine go ?_
  refine W.outD (ziQ ?_) ?_
  ·intro x hx
   obtain ⟨_,_,e⟩:=List.mem_map.mp hx
   exact e.symm
  refine go ?_
  refine W.compM (c:=List.zipWith (fun (p q:D)=>D.tup [p,q]) (ps.map prD) ((ps.map prD).drop 1)) (fun _=>.bl true) (by rw [List.length_zipWith]; omega) ?_ (fun x hx=>?_) ?_
  ·refine go ?_
   rw [cut1]
   exact ⟨rfl,rfl⟩
  ·obtain ⟨p,q,rfl,hpq⟩:=zi1 h.inc x hx
   refine go ?_
   rw [zmB hpq]
   exact ⟨rfl,rfl⟩
  ·refine go ?_
   refine W.outD (ziQ ?_) ?_
   ·intro x hx
    obtain ⟨_,_,e⟩:=List.mem_map.mp hx
    exact e.symm
   rfl
end G42
set_option Elab.async false
set_option linter.all false
set_option maxRecDepth 100000
set_option maxHeartbeats 400000
namespace G42
open PySem Mi
theorem zii {k:Nat} {n:Int} {ps:List (Int × Int)} (h:Web n ps):W (call sub T (k + 6) true 7 [.d (webD n ps)]) [] fun v s=>∃ d,v = .d d:=by
 refine W.call T_7 rfl ?_
 unfold b7
 refine go ?_
 refine W.call0 rfl ((zkd h).imp fun v s e=>⟨_,e,?_⟩)
 refine go ?_
 exact ⟨_,rfl⟩
end G42
set_option Elab.async false
set_option linter.all false
set_option maxRecDepth 100000
set_option maxHeartbeats 400000
namespace G42
open PySem Mi
theorem zhV {k:Nat} {o:SO} {n:Int} (ho:Pen o) (h1:1<=n) (h8:n<=8):W (call sub T (k + 2) true 15 [.l 0,.d (.int n)]) [o] fun v s=>∃ ps o',v = .d (webD n ps)/\s = [o']/\Web n ps/\Pen o':=by
 refine W.call zne rfl ?_
 unfold b15
 have hs:(100:Nat)<=sizeLine:=by decide
 refine go ?_
 refine W.draw ho (by decide) (by decide) fun r o' hr hp=>?_
 refine go ?_
 have hr':r < 3:=by omega
 refine W.outD (zh1 (x:=.int (([2,4,6]:List Int)[r]'hr')) ?_) ?_
 ·revert hr'; revert r; intro r _ hr'; exact match r,hr' with
  | 0,_=>rfl | 1,_=>rfl | 2,_=>rfl
  | n + 3,h=>absurd h (by omega)
 generalize ([2,4,6]:List Int)[r] = often
 refine go ?_
 refine ⟨by rw [zbD (by omega) (by omega),zbD (by omega) (by omega)]; rfl,?_⟩
 refine WS.for (fun (i:Nat) τ s=>∃ (ps:List (Int × Int)) (a:Option Xv) (o':SO),τ = [some (.l 0),some (.d (.int n)),some (.d (.int often)),some (.d (.fl (ps.map prD))),a]/\s = [o']/\Pen o'/\(∀ p ∈ ps,0<=p.1/\p.1 < (i:Int)/\p.1 < p.2/\p.2 < n)/\ps.Pairwise lx/\ps.length<=7 * i)
  ⟨[],_,_,rfl,rfl,hp,by simp,by simp,by simp⟩ (fun i x τ s e hI=>?_) (fun τ s hI=>?_)
 ·obtain ⟨ps,a,o',rfl,rfl,hp,ht,hinc,hlen⟩:=hI
  obtain ⟨rfl,hi⟩:=zf1 e
  have hi8:i < 8:=by omega
  refine go ?_
  refine W.compI (c:=rgL (0 + (i:Int) + 1) n) (fun (j:Nat) acc s=>∃ (es:List Int) (o':SO),acc = es.map (fun e=>prD (0 + (i:Int),e))/\es.Pairwise (· < ·)/\(∀ e ∈ es,(i:Int) < e/\e < (i:Int) + 1 + j)/\s = [o']/\Pen o') ?_ (fun j x acc s e hJ=>?_) (fun acc s hJ=>?_)
  ·refine go ?_
   refine ⟨by rw [zbD (by omega) (by omega),zbD (by omega) (by omega)]; rfl,?_⟩
   exact ⟨rfl,[],_,rfl,by simp,by simp,rfl,hp⟩
  ·obtain ⟨es,o',rfl,hes,heb,rfl,hp⟩:=hJ
   obtain ⟨rfl,hj⟩:=zf1 e
   have hel:(es.length:Int)<=(i:Int) + 1 + j - ((i:Int) + 1):=ze0 hes (fun e he=>by have:=heb e he; omega) (by omega)
   refine go ?_
   refine W.draw hp (by decide) (by decide) fun r o' hr hp=>?_
   refine go ?_
   refine ⟨fun hb=>?_,fun hb=>?_⟩
   ·refine go ?_
    refine ⟨_,rfl,by rw [List.length_map]; omega,es ++ [0 + (i:Int) + 1 + j],o',?_,?_,?_,rfl,hp⟩
    ·rw [List.map_append]; rfl
    ·rw [List.pairwise_append]
     refine ⟨hes,by simp,fun a ha b hb=>?_⟩
     simp at hb
     have:=heb a ha
     omega
    ·intro e he
     rcases List.mem_append.mp he with he | he
     ·have:=heb e he; omega
     ·simp at he; omega
   ·exact ⟨es,o',rfl,hes,fun e he=>by have:=heb e he; omega,rfl,hp⟩
  ·obtain ⟨es,o',rfl,hes,heb,rfl,hp⟩:=hJ
   rw [zda] at heb
   have hel:(es.length:Int)<=n - ((i:Int) + 1):=ze0 hes (fun e he=>by have:=heb e he; omega) (by omega)
   refine go ?_
   refine W.outL (zgf ?_) ?_
   ·rw [List.length_map,List.length_map]; omega
   refine go ?_
   refine ⟨_,rfl,ps ++ es.map (fun e=>(0 + (i:Int),e)),some (.d (.int (0 + (i:Int)))),o',?_,rfl,hp,?_,?_,?_⟩
   ·rw [List.map_append,List.map_map]; rfl
   ·intro p hp
    rcases List.mem_append.mp hp with hp | hp
    ·have:=ht p hp; omega
    ·obtain ⟨e,he,rfl⟩:=List.mem_map.mp hp
     have:=heb e he
     dsimp only
     omega
   ·rw [List.pairwise_append,List.pairwise_map]
    refine ⟨hinc,hes.imp fun h=>.inr ⟨rfl,h⟩,fun p hp q hq=>?_⟩
    obtain ⟨e,he,rfl⟩:=List.mem_map.mp hq
    have:=ht p hp
    exact .inl (by dsimp only; omega)
   ·rw [List.length_append,List.length_map]; omega
 ·obtain ⟨ps,a,o',rfl,rfl,hp,ht,hinc,hlen⟩:=hI
  rw [zda] at ht hlen
  refine go ?_
  refine ⟨ps,o',rfl,rfl,⟨h1,h8,fun p hp=>?_,hinc,by omega⟩,hp⟩
  have:=ht p hp
  omega
end G42
set_option Elab.async false
set_option linter.all false
set_option maxRecDepth 100000
set_option maxHeartbeats 400000
namespace G42
open PySem Mi
noncomputable def odds:List D:=[.non,.bl true,.bl false,.int (-1),.str "1",.str "",.tup [],.fl [],.tup [.int 0],.fl [.int 0],.fd [.str "a"] [.int 1],.tup [.int 0,.int 1],.int 1000000000000000000000000000000,.tup [.int 0,.tup []],.tup [.str "ab"],.tup [.int 1,.tup [.tup [.int 0,.int 0]]]]
theorem zmT {k:Nat} {o:SO} (ho:Pen o):W (call sub T (k + 2) true 13 [.l 0]) [o] fun v s=>∃ d o',v = .d d/\s = [o']/\d ∈ odds/\Pen o':=by
 refine W.call znm rfl ?_
 unfold b13
 refine run ?_
 refine W.draw ho (by decide) (by decide) fun r o' hr hp=>?_
 refine run ?_
 have hr':r < odds.length:=by show r < 16; omega
 refine W.outD (zh1 (x:=odds[r]) (List.getElem?_eq_getElem (l:=odds) hr')) ?_
 refine run ?_
 exact ⟨_,_,rfl,rfl,List.getElem_mem _,hp⟩
theorem W.drawL {k:Nat} {s:S} {o:SO} {m:Int} {P:Xv->S->Prop} (ho:Pen o) (hm:0 < m) (hm2:m < 1073741824) (h:∀ (r:Nat) o',(r:Int) < m->Pen o'->P (.d (.int r)) (s ++ [o'])):W (callW (call sub T (k + 1) true 11) [.l s.length,.d (.int m)]) (s ++ [o]) P:=by
 refine W.callL rfl ((ziF ho hm hm2).imp fun v s1=>?_)
 rintro ⟨d,o',rfl,rfl,⟨r,rfl,h0,h1⟩,hp⟩
 obtain ⟨n,rfl⟩:=Int.eq_ofNat_of_zero_le h0
 exact ⟨_,_,rfl,rfl,h n o' h1 hp⟩
end G42
set_option Elab.async false
set_option linter.all false
set_option maxRecDepth 100000
set_option maxHeartbeats 400000
namespace G42
open PySem Mi
theorem zhZ {k:Nat} {d:D} (h:okE d = true):W (call sub T (k + 1) true 0 [.d d]) [] fun v s=>v = .d (.bl (whB d)):=by
 cases d with
 | exc _ _=>cases h
 | ob _ _=>cases h
 | _=>exact W.eq (a:=_) (s':=[]) rfl rfl
theorem zgB {k:Nat} {d:D} (h:okE d = true):W (call sub T (k + 1) true 12 [.d d]) [] fun v s=>v = .d (.bl (whB d)):=by
 cases d with
 | exc _ _=>cases h
 | ob _ _=>cases h
 | _=>exact W.eq (a:=_) (s':=[]) rfl rfl
theorem zkD {k:Nat} {d:D} {n:Int} (h:okT d = true) (hd:∀ xs,d ≠ .tup xs):W (call sub T (k + 1) true 2 [.d d,.d (.int n)]) [] fun v s=>v = .d (.bl false):=by
 cases d with
 | exc _ _=>cases h
 | ob _ _=>cases h
 | tup xs=>exact absurd rfl (hd xs)
 | _=>exact W.eq (a:=_) (s':=[]) rfl rfl
theorem rowL_w {k:Nat} {xs:List D} {n:Int}:W (call sub T (k + 1) true 2 [.d (.tup xs),.d (.int n)]) [] fun v s=>v = .d (.bl (decide ((xs.length:Int) = n))):=by
 refine W.call T_2 rfl ?_
 unfold b2
 refine go ?_
 show Xv.d (D.bl (id (((xs.length:Nat):Int) == n))) = _
 congr 2
section
variable {n:Int} {ps:List (Int × Int)}
theorem zeL {k':Nat} {d:D} (h:Web n ps) (hd:okT d = true) (hl:∀ xs,d = .tup xs->xs.length<=100):W (call sub T (k' + 7) true 8 [.d (webD n ps),.d d]) [] fun v s=>v = .d (.bl (plD n ps d)):=by
 refine W.call T_8 rfl ?_
 unfold b8
 have hs1:(100:Nat)<=sizeLine:=by decide
 have hlen:=h.len
 have h8:=h.h8
 have ew:webD n ps = .tup [.int n,.tup (ps.map prD)]:=rfl
 refine go ?_
 refine W.call0 rfl ((zii h).imp fun v s ⟨d',e⟩=>⟨_,e,?_⟩)
 unfold webD
 refine go ?_
 by_cases ht:∃ xs,d = .tup xs
 ·obtain ⟨xs,rfl⟩:=ht
  have hx:∀ x ∈ xs,okE x = true:=List.all_eq_true.mp hd
  have hxl:=hl xs rfl
  refine W.call0 rfl (rowL_w.imp fun v s e=>⟨_,e,?_⟩)
  by_cases hn:(xs.length:Int) = n
  ·rw [decide_eq_true hn]
   refine go ?_
   refine W.compT (l:=xs) (f:=fun x=>x) (fun x=>some (.bl (nnB x))) (by omega) ?_ (fun x hxm=>?_) ?_
   ·refine go ?_
    rw [List.map_id']
    exact ⟨rfl,rfl⟩
   ·refine go ?_
    refine ⟨rfl,fun _=>?_,fun hb=>by cases hb⟩
    refine go ?_
    refine W.call0 rfl ((zhZ (hx x hxm)).imp fun v s e=>⟨_,e,?_⟩)
    cases x with
    | int i=>
     refine go ?_
     exact ⟨rfl,_,rfl,rfl⟩
    | _=>
     refine go ?_
     exact ⟨rfl,_,rfl,rfl⟩
   ·rw [zee]
    refine go ?_
    refine W.outD zhr ?_
    cases ha:xs.all nnB
    ·refine go ?_
     cases hw:xs.all whB
     ·show Xv.d (.bl false) = .d (.bl (match allInt xs with | some is=>plI n ps is | none=>false))
      rw [zbj hw]
     ·obtain ⟨is,rfl⟩:=zcT hw
      rw [zbZ]
      have:is.all (fun i=>decide (0<=i)) = false:=by
       rw [<- ha,List.all_map]
       rfl
      unfold plI
      rw [this]
      simp
    ·obtain ⟨is,rfl,hi⟩:=zgE ha
     rw [zbZ]
     rw [List.length_map] at hn
     refine go ?_
     refine W.compT (l:=ps) (f:=prD) (fun p=>some (.bl (decide (at' is p.1 ≠ at' is p.2)))) (by omega) ?_ (fun p hp=>?_) ?_
     ·refine go ?_
      exact ⟨rfl,rfl⟩
     ·have htie:=h.tie p hp
      obtain ⟨a,b⟩:=p
      dsimp only at htie
      refine go ?_
      refine ⟨rfl,fun _=>?_,fun hb=>by cases hb⟩
      refine go ?_
      refine W.outD (zfm (by omega) (by omega)) ?_
      refine go ?_
      refine W.outD (zfm (by omega) (by omega)) ?_
      refine go ?_
      refine ⟨rfl,_,rfl,?_⟩
      congr 2
      by_cases e:at' is a = at' is b
      ·simp [e]
      ·simp [e]
     ·rw [zee]
      refine go ?_
      refine W.outD zhr ?_
      refine go ?_
      unfold plI
      rw [decide_eq_true hn,show is.all (fun i=>decide (0<=i)) = true from List.all_eq_true.mpr fun i him=>decide_eq_true (hi i him)]
      rfl
  ·rw [decide_eq_false hn]
   refine go ?_
   cases hw:xs.all whB
   ·show Xv.d (.bl false) = .d (.bl (match allInt xs with | some is=>plI n ps is | none=>false))
    rw [zbj hw]
   ·obtain ⟨is,rfl⟩:=zcT hw
    rw [zbZ]
    rw [List.length_map] at hn
    unfold plI
    rw [decide_eq_false hn]
    rfl
 ·have ht':∀ xs,d ≠ .tup xs:=fun xs e=>ht ⟨xs,e⟩
  refine W.call0 rfl ((zkD hd ht').imp fun v s e=>⟨_,e,?_⟩)
  refine go ?_
  cases d with
  | tup xs=>exact absurd rfl (ht' xs)
  | _=>rfl
theorem zhR {k':Nat} {d:D} (h:Web n ps) (hd:okT d = true) (hl:∀ xs,d = .tup xs->xs.length<=100):W (call sub T (k' + 2) true 16 [.d (webD n ps),.d d]) [] fun v s=>v = .d (.bl (plD n ps d)):=by
 refine W.call znq rfl ?_
 unfold b16 webD
 have hs1:(100:Nat)<=sizeLine:=by decide
 have hlen:=h.len
 have h1:=h.h1
 have h8:=h.h8
 by_cases ht:∃ xs,d = .tup xs
 ·obtain ⟨xs,rfl⟩:=ht
  have hx:∀ x ∈ xs,okE x = true:=List.all_eq_true.mp hd
  have hxl:=hl xs rfl
  refine go ?_
  by_cases hn:(xs.length:Int) = n
  ·refine W.ifN (by simp [hn]) ?_
   refine go ?_
   refine W.compT (l:=xs) (f:=fun x=>x) (fun x=>some (.bl (whB x))) (by omega) ?_ (fun x hxm=>?_) ?_
   ·refine go ?_
    rw [List.map_id']
    exact ⟨rfl,rfl⟩
   ·refine go ?_
    refine ⟨rfl,fun _=>?_,fun hb=>by cases hb⟩
    refine go ?_
    refine W.call0 rfl ((zgB (hx x hxm)).imp fun v s e=>⟨_,e,?_⟩)
    exact ⟨rfl,_,rfl,rfl⟩
   ·rw [zee]
    refine go ?_
    refine W.outD zhr ?_
    cases ha:xs.all whB
    ·refine go ?_
     show Xv.d (.bl false) = .d (.bl (match allInt xs with | some is=>plI n ps is | none=>false))
     rw [zbj ha]
    ·obtain ⟨is,rfl⟩:=zcT ha
     rw [zbZ]
     rw [List.length_map] at hn
     have hne:is ≠ []:=by rintro rfl; simp at hn; omega
     obtain ⟨r,er,hr,hmin⟩:=zlw hne
     refine go ?_
     refine W.outD er ?_
     refine go ?_
     by_cases h0:0<=r
     ·rw [decide_eq_true h0]
      refine go ?_
      refine W.compT (l:=ps) (f:=prD) (fun p=>if at' is p.1 = at' is p.2 then some (prD p) else none) (by omega) ?_ (fun p hp=>?_) ?_
      ·refine go ?_
       exact ⟨rfl,rfl⟩
      ·have htie:=h.tie p hp
       obtain ⟨a,b⟩:=p
       dsimp only at htie
       refine go ?_
       refine W.outD (zfm (by omega) (by omega)) ?_
       refine go ?_
       refine W.outD (zfm (by omega) (by omega)) ?_
       refine go ?_
       refine ⟨rfl,fun hb=>?_,fun hb=>?_⟩
       ·refine go ?_
        exact ⟨rfl,_,rfl,by rw [if_pos (by simpa using hb)]⟩
       ·rw [if_neg (by simpa using hb)]
      ·refine go ?_
       refine W.outD (zhK (f:=id)) ?_
       show Xv.d (D.bl (decide _)) = _
       congr 2
       unfold plI
       rw [decide_eq_true hn,show is.all (fun i=>decide (0<=i)) = true from List.all_eq_true.mpr fun i him=>decide_eq_true (by have:=hmin i him; omega)]
       rw [Bool.eq_iff_iff,decide_eq_true_iff,List.filterMap_eq_nil_iff]
       simp only [Bool.true_and,List.all_eq_true,decide_eq_true_iff]
       constructor
       ·intro q p hp e
        have:=q p hp
        rw [if_pos e] at this
        cases this
       ·intro q p hp
        rw [if_neg (q p hp)]
     ·rw [decide_eq_false h0]
      refine go ?_
      unfold plI
      rw [show is.all (fun i=>decide (0<=i)) = false from by
       rw [List.all_eq_false]
       exact ⟨r,hr,by simp; omega⟩]
      simp
  ·refine W.ifY (by simp [hn]) ?_
   refine go ?_
   cases hw:xs.all whB
   ·show Xv.d (.bl false) = .d (.bl (match allInt xs with | some is=>plI n ps is | none=>false))
    rw [zbj hw]
   ·obtain ⟨is,rfl⟩:=zcT hw
    rw [zbZ]
    rw [List.length_map] at hn
    unfold plI
    rw [decide_eq_false hn]
    rfl
 ·cases d with
  | tup xs=>exact absurd ⟨xs,rfl⟩ ht
  | exc _ _=>cases hd
  | ob _ _=>cases hd
  | _=>
   refine go ?_
   rfl
end
end G42
set_option Elab.async false
set_option linter.all false
set_option maxRecDepth 100000
set_option maxHeartbeats 1000000
namespace G42
open PySem Mi
theorem zeo {k':Nat} {n:Int} {ps:List (Int × Int)} (h:Web n ps) (hn6:n<=8):W (call sub T (k' + 1) true 17 [.d (webD n ps)]) [] fun v s=>∃ row:List Int,v = .d (.tup (row.map .int))/\(row.length:Int) = n/\∀ z ∈ row,0<=z/\z < n:=by
 refine W.call zno rfl ?_
 unfold b17
 have hs1:(1000:Nat)<=sizeLine:=by decide
 have h1:=h.h1
 have hlen:=h.len
 have hwk:wFuel = 1000000000000:=rfl
 have ew:webD n ps = .tup [.int n,.tup (ps.map prD)]:=rfl
 refine go ?_
 refine ⟨by rw [zbD (by omega) (by omega),zbD (by omega) (by omega)]; rfl,?_⟩
 refine WS.forQ (fun i τ s=>(∃ (a b c:Option Xv),τ = [some (.d (webD n ps)),a,b,c])/\(∀ m:Int,1<=m->m<=i->∀ h,¬ GoodP n m ps h)) ⟨⟨_,_,_,rfl⟩,fun m a b=>by omega⟩ (fun i x τ s e hI=>?_) (fun τ s hI=>?_)
 ·obtain ⟨⟨a,b,c,rfl⟩,hprev⟩:=hI
  obtain ⟨rfl,him⟩:=zf1 e
  have hm1:1<=1 + (i:Int):=by omega
  have hmn:1 + (i:Int)<=n:=by omega
  have hmi:∀ m:Int,1<=m->m<=((i + 1:Nat):Int)->(m<=i\/m = 1 + (i:Int)):=fun m _ _=>by omega
  generalize 1 + (i:Int) = m at hm1 hmn hmi
  have hB:=bnd7 hn6 (show m<=8 by omega)
  refine go ?_
  have hB0:left' (m.toNat + 1) (n + 1).toNat [0]<=((n + 1).toNat + 1) * (m.toNat + 1) ^ (n + 1).toNat + (n + 1).toNat:=by
   unfold left'
   have:=Nat.mul_le_mul_left ((n + 1).toNat + 1) (Nat.sub_le ((m.toNat + 1) ^ (n + 1).toNat) (val (m.toNat + 1) [0] (n + 1).toNat))
   omega
  refine WS.wh (fun q τ s'=>(∃ a3:Option Xv,τ = [some (.d (webD n ps)),some (.d (.int m)),some (.l s.length),a3])/\((s' = s ++ [.lst []]/\(∀ h,¬ GoodP n m ps h)/\q = 0)\/∃ (r:List Int) (x:Int),s' = s ++ [.lst (r.map .int ++ [.int x])]/\PSt n m ps r x/\q = left' (m.toNat + 1) (n + 1).toNat (r ++ [x]))) (m:=left' (m.toNat + 1) (n + 1).toNat [0]) (by omega) ⟨⟨_,rfl⟩,.inr ⟨[],0,rfl,pst0 h1 hm1,rfl⟩⟩ fun q τ s' hI=>?_
  obtain ⟨⟨a3,rfl⟩,hI⟩:=hI
  rcases hI with ⟨rfl,hno,rfl⟩ | ⟨r,x,rfl,St,rfl⟩
  ·-- nothing is left
   refine go ?_
   refine ⟨?_,fun _=>?_⟩
   ·intro hb
    cases hb
   refine go ?_
   exact .inl ⟨_,rfl,⟨_,_,_,rfl⟩,fun m' c1 c2=>by
    rcases hmi m' c1 c2 with z | z
    ·exact hprev m' c1 z
    ·rw [z]; exact hno⟩
  ·have g1:=St.len
   have g2:=St.x0
   have g3:=St.xm
   have hdig:∀ z ∈ r,z < ((m.toNat + 1:Nat):Int):=fun z hz=>by have:=St.lo z hz; omega
   have hlr:(((r.map D.int ++ [D.int x]).length:Nat):Int) = (r.length:Int) + 1:=by simp
   refine go ?_
   refine W.outD (zhK (f:=not)) ?_
   rw [decide_eq_false (by simp)]
   refine go ?_
   rw [hlr]
   refine ⟨fun hb=>?_,fun hb=>?_⟩
   ·have hb:=of_decide_eq_true hb
    have hln:(r.length:Int) < n:=by omega
    refine go ?_
    refine W.compT (l:=ps) (f:=prD) (fun p=>if p.2 = (r.length:Int) then some (.int (at' (r ++ [x]) p.1)) else none) (by omega) ?_ (fun p hp=>?_) ?_
    ·refine go ?_
     exact ⟨rfl,rfl⟩
    ·have ht:=h.tie p hp
     obtain ⟨a,b⟩:=p
     dsimp only at ht
     refine go ?_
     rw [hlr,show (r.length:Int) + 1 - 1 = (r.length:Int) by omega]
     refine ⟨rfl,fun hb=>?_,fun hb=>?_⟩
     ·have hb:b = (r.length:Int):=by simpa using hb
      refine go ?_
      refine W.outD (zmt (by omega) (by omega)) ?_
      exact ⟨rfl,_,rfl,by rw [if_pos hb]⟩
     ·rw [if_neg (by simpa using hb)]
    ·have ef:ps.filterMap (fun p=>if p.2 = (r.length:Int) then some (D.int (at' (r ++ [x]) p.1)) else none) = ((ps.filter fun p=>decide (p.2 = (r.length:Int))).map fun p=>at' (r ++ [x]) p.1).map .int:=by
      rw [zmW (f:=fun (p:Int × Int)=>D.int (at' (r ++ [x]) p.1)) (q:=fun (p:Int × Int)=>p.2 = (r.length:Int)),List.map_map]
      rfl
     rw [ef]
     refine go ?_
     refine W.outD zhO ?_
     refine go ?_
     by_cases cA:x = m
     ·subst cA
      refine WS.ifY (by simp) ?_
      refine WS.cons (WS.sEx ?_)
      refine W.pop (n:=s.length) (xs:=r.map .int) (x:=.int x) ?_
      refine go ?_
      refine ⟨rfl,zdL,?_⟩
      rw [zcw]
      by_cases hne:r = []
      ·subst hne
       refine go ?_
       refine .inl ⟨_,0,rfl,?_,⟨_,rfl⟩,.inl ⟨rfl,fun h g=>ziH St hln g (fun i hi=>absurd hi (Nat.not_lt_zero _)),rfl⟩⟩
       unfold left'
       simp
       omega
      ·obtain ⟨r',y,rfl⟩ : ∃ r' y,r = r' ++ [y]:=⟨r.dropLast,r.getLast hne,(List.dropLast_concat_getLast hne).symm⟩
       have hy:=St.lo y (by simp)
       have hl2:(r'.length:Int) + 1 < n:=by rw [List.length_append] at hln; simpa using hln
       rw [List.map_append]
       show WS _ (s ++ [.lst (r'.map D.int ++ [D.int y])]) _
       refine go ?_
       refine W.outD (zhK (f:=not)) ?_
       rw [decide_eq_false (by simp)]
       refine go ?_
       refine W.outD zhO ?_
       refine go ?_
       refine ExT.mk (a:=r'.length) ?_ ?_
       ·rw [List.length_append,List.length_map]
        exact zdz
       rw [zcw]
       refine go ?_
       refine .inl ⟨_,left' (x.toNat + 1) (n + 1).toNat (r' ++ [y + 1]),rfl,?_,⟨_,rfl⟩,.inr ⟨r',y + 1,?_,zjo St hln,rfl⟩⟩
       ·exact zh2 hy.1 (by omega) g2 (by omega) (fun z hz=>hdig z (List.mem_append_left _ hz)) (by omega)
       ·have:(r'.map D.int ++ [D.int y]).set r'.length (.int (y + 1)) = r'.map .int ++ [.int (y + 1)]:=by
         rw [List.set_append_right _ _ (by simp)]
         simp
        show s ++ [SO.lst ((r'.map D.int ++ [D.int y]).set r'.length (.int (y + 1)))] = _
        rw [this]
     ·refine WS.ifN (by simp; exact cA) ?_
      refine go ?_
      refine W.outD zhO ?_
      refine go ?_
      refine W.outD (zm5 (f:=id)) ?_
      by_cases cN:∃ p ∈ ps,p.2 = (r.length:Int)/\at' (r ++ [x]) p.1 = x
      ·rw [decide_eq_true (by
        obtain ⟨p,hp,e1,e2⟩:=cN
        exact List.mem_map.mpr ⟨p,List.mem_filter.mpr ⟨hp,decide_eq_true e1⟩,e2⟩)]
       refine go ?_
       refine W.outD zhO ?_
       refine go ?_
       refine ExT.mk (a:=r.length) ?_ ?_
       ·rw [List.length_append,List.length_map]
        exact zdz
       rw [zcw]
       refine go ?_
       refine .inl ⟨_,left' (m.toNat + 1) (n + 1).toNat (r ++ [x + 1]),rfl,?_,⟨_,rfl⟩,.inr ⟨r,x + 1,?_,zj3 h St cA cN,rfl⟩⟩
       ·exact zik g2 (by omega) hdig (by omega)
       ·have:(r.map D.int ++ [D.int x]).set r.length (.int (x + 1)) = r.map .int ++ [.int (x + 1)]:=by
         rw [List.set_append_right _ _ (by simp)]
         simp
        show s ++ [SO.lst ((r.map D.int ++ [D.int x]).set r.length (.int (x + 1)))] = _
        rw [this]
      ·rw [decide_eq_false (fun z=>by
        obtain ⟨p,hp,e2⟩:=List.mem_map.mp z
        obtain ⟨hp1,hp2⟩:=List.mem_filter.mp hp
        exact cN ⟨p,hp1,of_decide_eq_true hp2,e2⟩)]
       refine go ?_
       refine ⟨by rw [List.length_append,List.length_map]; simp; omega,?_⟩
       rw [zcw]
       refine go ?_
       refine .inl ⟨_,left' (m.toNat + 1) (n + 1).toNat (r ++ [x] ++ [0]),rfl,zgX (by rw [List.length_append]; simp; omega),⟨_,rfl⟩,.inr ⟨r ++ [x],0,?_,zil St hm1 cA hln,rfl⟩⟩
       rw [List.map_append]
       rfl
   ·have hb:=of_decide_eq_false hb
    refine go ?_
    refine W.outD (zhK (f:=not)) ?_
    rw [decide_eq_false (by simp)]
    refine go ?_
    rw [cutM1]
    refine go ?_
    exact .inr ⟨_,rfl,r,rfl,by omega,fun z hz=>by have:=St.lo z hz; omega⟩
 ·obtain ⟨⟨a,b,c,rfl⟩,hprev⟩:=hI
  rw [zda] at hprev
  exact absurd (ziq h) (hprev n h1 (by omega) _)
end G42
set_option Elab.async false
set_option linter.all false
set_option maxRecDepth 100000
set_option maxHeartbeats 400000
namespace G42
open PySem Mi
theorem ziU {xs:List D} {r:Nat} (hr:r < xs.length):∃ x,prim .ix [.fl xs,.int r] = some (.dat x)/\x ∈ xs:=⟨xs[r],zh1 (List.getElem?_eq_getElem hr),List.getElem_mem _⟩
theorem zjP {xs:List D} {z:Int} (h0:0<=z) (hz:z < xs.length):∃ x,prim .ix [.fl xs,.int z] = some (.dat x)/\x ∈ xs:=by
 obtain ⟨r,rfl⟩:=Int.eq_ofNat_of_zero_le h0
 exact ziU (by omega)
theorem zle {xs:List Int} {r:Nat} {q:Int->Prop} (hb:∀ z ∈ xs,q z) (hr:r < xs.length):∃ z:Int,prim .ix [.fl (xs.map .int),.int r] = some (.dat (.int z))/\q z:=
 ⟨xs[r],zh1 (by rw [List.getElem?_map,List.getElem?_eq_getElem hr]; rfl),hb _ (List.getElem_mem _)⟩
noncomputable def thOk (d:D):Prop:=okT d = true/\(∀ xs,d = .tup xs->xs.length<=100)/\Rp d
noncomputable def elOk (x:D):Prop:=okE x = true/\rpN 39 x
theorem zbK {xs:List D} (h:∀ x ∈ xs,elOk x) (hl:xs.length<=100):thOk (.tup xs):=⟨List.all_eq_true.mpr fun x hx=>(h x hx).1,fun ys e=>by cases e; exact hl,zlN (fun x hx=>(h x hx).2) hl⟩
theorem zbL {i:Int} (h:i.natAbs < 2 ^ 100):elOk (.int i):=⟨rfl,zgS (Nat.lt_trans h (by decide))⟩
theorem zcy {is:List Int} (h:∀ i ∈ is,i.natAbs < 2 ^ 100) {x:D} (hx:x ∈ is.map .int):elOk x:=by
 obtain ⟨i,hi,rfl⟩:=List.mem_map.mp hx
 exact zbL (h i hi)
theorem zex {is:List Int} (h:∀ i ∈ is,i.natAbs < 2 ^ 100) (hl:is.length<=100):thOk (.tup (is.map .int)):=zbK (fun x hx=>zcy h hx) (by rw [List.length_map]; exact hl)
theorem zgY {k':Nat} {o:SO} {row:List Int} {kk:Int} (ho:Pen o) (hl:row.length<=8) (hrb:∀ i ∈ row,i.natAbs < 2 ^ 100) (hk:1<=kk) (hk2:kk<=1000):W (call sub T (k' + 2) true 19 [.l 0,.d (.tup (row.map .int)),.d (.int kk)]) [o] fun v s=>∃ (d:D) (o':SO),v = .d d/\s = [o']/\thOk d/\Pen o':=by
 refine W.call znr rfl ?_
 unfold b19
 have hs1:(100:Nat)<=sizeLine:=by decide
 have hml:(row.map D.int).length = row.length:=List.length_map ..
 refine go ?_
 refine W.draw ho (by omega) (by omega) fun r o1 hr hp=>?_
 refine go ?_
 refine W.draw hp (by omega) (by omega) fun r2 o2 hr2 hp=>?_
 refine go ?_
 refine W.draw hp (by decide) (by decide) fun r3 o3 hr3 hp=>?_
 refine go ?_
 obtain ⟨x,ex,hx⟩:=ziU (xs:=[.bl true,.bl false,.non,.int (-1),.int kk,.str "0",.tup [.int 0],.int r2]) (r:=r3) (by show r3 < 8; omega)
 have hxo:elOk x:=by
  simp only [List.mem_cons,List.not_mem_nil,or_false] at hx
  rcases hx with rfl | rfl | rfl | rfl | rfl | rfl | rfl | rfl
  ·exact ⟨rfl,_,rfl,rfl,rfl,by decide⟩
  ·exact ⟨rfl,_,rfl,rfl,rfl,by decide⟩
  ·exact ⟨rfl,_,rfl,rfl,rfl,by decide⟩
  ·exact zbL (by decide)
  ·exact zbL (Nat.lt_of_le_of_lt (show _<=1000 by omega) (by decide))
  ·exact ⟨rfl,_,rfl,rfl,by decide,by decide⟩
  ·exact ⟨rfl,_,rfl,by decide,by decide,by decide⟩
  ·exact zbL (Nat.lt_of_le_of_lt (show _<=1000 by omega) (by decide))
 refine W.outD ex ?_
 clear ex hx
 have l1:=zgH (xs:=row.map D.int) (lo:=none) (hi:=some (r:Int))
 have l2:=zgH (xs:=row.map D.int) (lo:=some ((r:Int) + 1)) (hi:=none)
 have m1:∀ y ∈ cut (row.map D.int) none (some (r:Int)),elOk y:=fun y hy=>zcy hrb (zhu hy)
 have m2:∀ y ∈ cut (row.map D.int) (some ((r:Int) + 1)) none,elOk y:=fun y hy=>zcy hrb (zhu hy)
 refine go ?_
 refine W.outD (zfq (by show _ + 1<=_; omega)) ?_
 refine go ?_
 refine W.outD (zfq (by rw [List.length_append]; show _ + 1 + _<=_; omega)) ?_
 refine go ?_
 refine W.outD (zfq (by omega)) ?_
 refine go ?_
 refine W.outD (zfq (by show _ + 1<=_; omega)) ?_
 refine go ?_
 refine W.draw hp (by decide) (by decide) fun r4 o4 hr4 hp=>?_
 refine go ?_
 obtain ⟨z,ez,hz⟩:=zle (xs:=[0,0,0,0,1,2,3,4,5]) (r:=r4) (q:=fun z=>0<=z/\z < 6) (by decide) (by show r4 < 9; omega)
 refine W.outD ez ?_
 refine go ?_
 obtain ⟨y,ey,hy⟩:=zjP (xs:=[.tup (cut (row.map D.int) none (some (r:Int)) ++ [x] ++ cut (row.map D.int) (some ((r:Int) + 1)) none),.tup (cut (row.map D.int) none (some (r:Int)) ++ cut (row.map D.int) (some ((r:Int) + 1)) none),.tup (row.map .int ++ [.int 0]),.fl (row.map .int),.non,.tup [.tup (row.map .int)]]) hz.1 (by show z < 6; exact hz.2)
 refine W.outD ey ?_
 refine go ?_
 refine ⟨_,_,rfl,rfl,?_,hp⟩
 have mi:∀ y ∈ row.map D.int,elOk y:=fun y hy=>zcy hrb hy
 simp only [List.mem_cons,List.not_mem_nil,or_false] at hy
 rcases hy with rfl | rfl | rfl | rfl | rfl | rfl
 ·refine zbK (fun y hy=>?_) (by rw [List.length_append,List.length_append]; show _ + 1 + _<=_; omega)
  rcases List.mem_append.mp hy with hy | hy
  ·rcases List.mem_append.mp hy with hy | hy
   ·exact m1 y hy
   ·have:y = x:=by simpa using hy
    rw [this]; exact hxo
  ·exact m2 y hy
 ·refine zbK (fun y hy=>?_) (by rw [List.length_append]; omega)
  rcases List.mem_append.mp hy with hy | hy
  ·exact m1 y hy
  ·exact m2 y hy
 ·refine zbK (fun y hy=>?_) (by rw [List.length_append]; show _ + 1<=_; omega)
  rcases List.mem_append.mp hy with hy | hy
  ·exact mi y hy
  ·have:y = .int 0:=by simpa using hy
   rw [this]; exact zbL (by decide)
 ·exact ⟨rfl,fun xs e=>(by cases e),zmE (fun x hx=>(mi x hx).2) (by rw [List.length_map]; omega)⟩
 ·exact ⟨rfl,fun xs e=>(by cases e),zg4 rfl rfl rfl (by decide)⟩
 ·exact zbK (fun y hy=>by rw [show y = .tup (row.map .int) by simpa using hy]; exact ⟨rfl,zja hl hrb⟩) (by simp)
theorem zla {x:D} (hx:x ∈ odds):thOk x:=by
 simp only [odds,List.mem_cons,List.not_mem_nil,or_false] at hx
 rcases hx with rfl | rfl | rfl | rfl | rfl | rfl | rfl | rfl | rfl | rfl | rfl | rfl | rfl | rfl | rfl | rfl
 all_goals exact ⟨rfl,fun xs e=>by cases e <;> decide,zg4 rfl (by decide +kernel) (by decide +kernel) (by decide +kernel)⟩
theorem ze4 {k':Nat} {o:SO} {n:Int} {ps:List (Int × Int)} (ho:Pen o) (h:Web n ps) (hn6:n<=8):W (call sub T (k' + 2) true 18 [.l 0,.d (webD n ps)]) [o] fun v s=>∃ (ys:List Int) (o':SO),v = .d (.tup (ys.map .int))/\s = [o']/\(ys.length:Int) = n/\(∀ y ∈ ys,y.natAbs < 2 ^ 100)/\Pen o':=by
 refine W.call znp rfl ?_
 unfold b18
 have hs1:(100:Nat)<=sizeLine:=by decide
 have h1:=h.h1
 have ew:webD n ps = .tup [.int n,.tup (ps.map prD)]:=rfl
 refine go ?_
 refine W.call0 rfl ((zeo h hn6).imp fun v s hv=>?_)
 obtain ⟨row,rfl,hrl,hrow⟩:=hv
 refine ⟨_,rfl,?_⟩
 have hne:row ≠ []:=by rintro rfl; simp at hrl; omega
 refine go ?_
 refine W.compI (c:=rgL 0 (n + 1)) (fun j acc s'=>∃ (zs:List Int) (o':SO),acc = zs.map .int/\zs.length = j/\(∀ z ∈ zs,0<=z/\z < 1000)/\s' = [o']/\Pen o') ?_ (fun j x acc s' e hJ=>?_) (fun acc s' hJ=>?_)
 ·refine go ?_
  refine ⟨by rw [zbD (by omega) (by omega),zbD (by omega) (by omega)]; rfl,?_⟩
  exact ⟨rfl,[],_,rfl,rfl,by simp,rfl,ho⟩
 ·obtain ⟨zs,o',rfl,hzl,hzb,rfl,hp⟩:=hJ
  obtain ⟨rfl,hj⟩:=zf1 e
  refine go ?_
  refine ⟨fun _=>?_,fun hb=>by cases hb⟩
  refine go ?_
  refine W.draw hp (by decide) (by decide) fun r o2 hr hp=>?_
  refine go ?_
  exact ⟨_,rfl,by rw [List.length_map]; omega,zs ++ [(r:Int) + 4 * (0 + (j:Int))],o2,by rw [List.map_append]; rfl,by simp [hzl],fun z hz=>by
   rcases List.mem_append.mp hz with hz | hz
   ·exact hzb z hz
   ·have:z = (r:Int) + 4 * (0 + (j:Int)):=by simpa using hz
    omega,rfl,hp⟩
 ·obtain ⟨zs,o',rfl,hzl,hzb,rfl,hp⟩:=hJ
  rw [zda] at hzl
  refine go ?_
  refine W.draw hp (by decide) (by decide) fun r o2 hr hp=>?_
  refine go ?_
  have fin:∀ {zs:List Int} {o2:SO} {a4:Option Xv},zs.length = (n + 1 - 0).toNat->(∀ z ∈ zs,0<=z/\z < 100000000000000001000)->Pen o2->WS (exs sub true (fun c=>call sub T (k' + 1) c) (.cons (.asg (.nm 4) (.call 11 (.cons (.v 0) (.cons (.c (.int 2)) .nil)))) (.cons (.ret (.pr true .tuple (.cons (.comp true (.pr true .ix (.cons (.v 1) (.cons (.pr true .ix (.cons (.lst true (.cons (.v 0) (.cons (.pr true .sub (.cons (.pr true .maxL (.cons (.v 2) .nil)) (.cons (.v 0) .nil))) .nil))) (.cons (.v 3) .nil))) .nil))) [0] (.seq (.v 2)) [3,2,4] 1 .no) .nil))) .nil)) [some (.l 0),some (.d (webD n ps)),some (.d (.tup (row.map .int))),some (.d (.fl (zs.map .int))),a4]) [o2] fun o s'=>match o with | .nx _=>∃ (ys:List Int) (o':SO),Xv.d .non = .d (.tup (ys.map .int))/\s' = [o']/\(ys.length:Int) = n/\(∀ y ∈ ys,y.natAbs < 2 ^ 100)/\Pen o' | .rt v=>∃ (ys:List Int) (o':SO),v = .d (.tup (ys.map .int))/\s' = [o']/\(ys.length:Int) = n/\(∀ y ∈ ys,y.natAbs < 2 ^ 100)/\Pen o' | _=>False:=by
   intro zs o2 a4 hzl hzb hp
   refine go ?_
   refine W.draw hp (by decide) (by decide) fun r o3 hr hp=>?_
   refine go ?_
   have hr2:r = 0\/r = 1:=by omega
   refine W.compT (l:=row) (f:=D.int) (fun y=>some (.int (at' zs (if r = 0 then y else mxL row - y)))) (by omega) ?_ (fun y hy=>?_) ?_
   ·refine go ?_
    exact ⟨rfl,rfl⟩
   ·have hyb:=hrow y hy
    have hmx:=hrow _ (zk1 hne)
    have hle:=zmM hy
    refine go ?_
    refine ⟨rfl,fun _=>?_,fun hb=>by cases hb⟩
    refine go ?_
    refine W.outD (zl9 hne) ?_
    refine go ?_
    rcases hr2 with rfl | rfl
    ·refine W.outD (zh1 (i:=0) (x:=.int y) rfl) ?_
     refine go ?_
     refine W.outD (zi5 (by omega) (by omega)) ?_
     exact ⟨rfl,_,rfl,rfl⟩
    ·refine W.outD (zh1 (i:=1) (x:=.int (mxL row - y)) rfl) ?_
     refine go ?_
     refine W.outD (zi5 (by omega) (by omega)) ?_
     exact ⟨rfl,_,rfl,rfl⟩
   ·rw [zee]
    refine go ?_
    refine ⟨row.map fun y=>at' zs (if r = 0 then y else mxL row - y),_,by rw [List.map_map]; rfl,rfl,by rw [List.length_map]; exact hrl,fun y hy=>by
     obtain ⟨x,hx,rfl⟩:=List.mem_map.mp hy
     have hm:=at'_mem (zs:=zs) (i:=if r = 0 then x else mxL row - x)
     have:(2:Nat) ^ 100 > 200000000000000000000:=by decide
     rcases hm with hm | hm
     ·have:=hzb _ hm; omega
     ·rw [hm]; decide,hp⟩
  refine WS.ite (fun _=>?_) (fun _=>?_)
  ·refine go ?_
   refine W.compT (l:=zs) (f:=D.int) (fun y=>some (.int (100000000000000000000 + y))) (by omega) ?_ (fun y hy=>?_) ?_
   ·refine go ?_
    exact ⟨rfl,rfl⟩
   ·refine go ?_
    refine ⟨rfl,fun _=>?_,fun hb=>by cases hb⟩
    refine go ?_
    exact ⟨rfl,_,rfl,rfl⟩
   ·rw [zee]
    refine W.newT ?_
    refine WS.nil ?_
    have e2:zs.map (fun y=>D.int (100000000000000000000 + y)) = (zs.map fun y=>100000000000000000000 + y).map .int:=by rw [List.map_map]; rfl
    rw [e2]
    exact fin (by rw [List.length_map]; exact hzl) (fun z hz=>by
     obtain ⟨y,hy,rfl⟩:=List.mem_map.mp hz
     have:=hzb y hy
     omega) hp
  ·refine WS.nil ?_
   exact fin hzl (fun z hz=>by have:=hzb z hz; omega) hp
end G42
set_option Elab.async false
set_option linter.all false
set_option maxRecDepth 100000
set_option maxHeartbeats 400000
namespace G42
open PySem Mi
theorem zg3 {k':Nat} {n:Int} {ps:List (Int × Int)} {d:D} (h:Web n ps) (hd:thOk d):W (call sub T (k' + 8) true 20 [.d (webD n ps),.d d]) [] fun v s=>v = .d (.bl true):=by
 refine W.call zns rfl ?_
 unfold b20
 obtain ⟨t,et⟩:=hd.2.2
 have hpl:∀ {d},plD n ps d = plD n ps d:=fun {_}=>rfl
 refine go ?_
 refine W.outD et ?_
 refine go ?_
 refine W.call0 rfl ((zhR (k':=k' + 5) h hd.1 hd.2.1).imp fun v s e=>⟨_,e,?_⟩)
 refine go ?_
 refine ⟨rfl,?_⟩
 refine WS.for (fun _ τ s=>s = []/\∃ (a b:Option Xv),τ = [some (.d (webD n ps)),some (.d d),some (.d (.str t)),some (.d (.bl (plD n ps d))),a,b]) ⟨rfl,_,_,rfl⟩ (fun i x τ s hx hτ=>?_) (fun τ s hτ=>?_)
 ·obtain ⟨rfl,a,b,rfl⟩:=hτ
  refine go ?_
  refine W.call0 rfl ((zeL (k':=k') h hd.1 hd.2.1).imp fun v s e=>⟨_,e,?_⟩)
  generalize plD n ps d = q
  cases q
  ·refine go ?_
   exact ⟨_,rfl,rfl,_,_,rfl⟩
  ·refine go ?_
   exact ⟨_,rfl,rfl,_,_,rfl⟩
 ·obtain ⟨rfl,a,b,rfl⟩:=hτ
  refine go ?_
  refine W.outD et ?_
  refine go ?_
  show Xv.d (D.bl (t == t)) = _
  rw [beq_self_eq_true]
theorem law_true (ns:List Int) (hn:ns.length<=63):∃ s',call sub T 60 true 21 [.d (.fl (ns.map D.int))] [] = some (.ok (.d (.bl true)),s'):=by
 suffices h:W (call sub T 60 true 21 [.d (.fl (ns.map D.int))]) [] fun v _=>v = .d (.bl true) by
  obtain ⟨v,s',e,rfl⟩:=h
  exact ⟨s',e⟩
 have hs:(100:Nat)<=sizeLine:=by decide
 refine W.call (k:=59) znj rfl ?_
 unfold b21
 refine go ?_
 refine WS.for (fun _ τ s=>∃ (a b c d e f:Option Xv),s = []/\τ = [some (.d (.fl (ns.map D.int))),a,b,c,d,e,f]) ⟨_,_,_,_,_,_,rfl,rfl⟩ (fun i x τ s hx hτ=>?_) (fun τ s hτ=>?_)
 ·obtain ⟨a,b,c,d,e,f,rfl,rfl⟩:=hτ
  have hok:thOk x:=by
   have:=List.mem_of_getElem? hx
   simp only [List.mem_cons,List.not_mem_nil,or_false] at this
   rcases this with rfl | rfl | rfl | rfl | rfl | rfl | rfl | rfl
   all_goals exact ⟨rfl,fun xs e=>by cases e <;> decide,zg4 rfl (by decide +kernel) (by decide +kernel) (by decide +kernel)⟩
  refine go ?_
  refine W.call0 rfl ((zg3 (k':=51) (n:=2) (ps:=[(0,1)]) ⟨by omega,by omega,by simp,by simp,by simp⟩ hok).imp fun v s e=>⟨_,e,?_⟩)
  refine go ?_
  exact ⟨_,rfl,_,_,_,_,_,_,rfl,rfl⟩
 obtain ⟨a,b,c,d,e,f,rfl,rfl⟩:=hτ
 refine go ?_
 refine W.call0 rfl ((zlX (k:=58)).imp fun v _=>?_)
 rintro ⟨n0,rfl⟩
 refine ⟨_,rfl,?_⟩
 refine go ?_
 refine W.outL (zgf ?_) ?_
 ·have:=zjR (ns:=ns) (lo:=some 1) (hi:=some 5)
  show 1 + _<=_
  omega
 refine go ?_
 refine WS.for (fun _ τ s=>∃ (a b c d e f:Option Xv),τ = [some (.d (.fl (ns.map D.int))),a,b,c,d,e,f]) ⟨_,_,_,_,_,_,rfl⟩ (fun i x τ s hx hτ=>?_) (fun τ s hτ=>?_)
 ·obtain ⟨m,rfl⟩ : ∃ m,x = .int m:=by
   rcases List.mem_append.mp (List.mem_of_getElem? hx) with z | z
   ·rcases List.mem_cons.mp z with rfl | z
    ·exact ⟨_,rfl⟩
    ·cases z
   ·exact zjB z
  obtain ⟨a,b,c,d,e,f,rfl⟩:=hτ
  refine go ?_
  refine W.call0l rfl ((zm4 (k:=58)).imp fun v s1=>?_)
  rintro ⟨j,o,rfl,hj,hp⟩
  refine ⟨j,o,rfl,hj,?_⟩
  refine go ?_
  refine W.callL rfl ((zk0 (k:=57) hp).imp fun v s1=>?_)
  rintro ⟨z,o1,rfl,rfl,⟨hz1,hz8⟩,hp⟩
  refine ⟨_,_,rfl,rfl,?_⟩
  refine go ?_
  refine W.callL rfl ((zhV (k:=57) hp (n:=z) (by omega) (by omega)).imp fun v s1=>?_)
  rintro ⟨ps,o2,rfl,rfl,hw,hp⟩
  refine ⟨_,_,rfl,rfl,?_⟩
  refine go ?_
  refine W.callL rfl ((ze4 (k':=57) hp hw (by omega)).imp fun v s1=>?_)
  rintro ⟨ys,o6,rfl,rfl,hyl,hyb,hp⟩
  refine ⟨_,_,rfl,rfl,?_⟩
  have hyl8:ys.length<=8:=by omega
  refine go ?_
  refine W.compI (c:=rgL 0 z) (fun j acc s'=>∃ (zs:List Int) (o':SO),acc = zs.map .int/\zs.length = j/\(∀ y ∈ zs,y.natAbs < 2 ^ 100)/\s' = s ++ [o']/\Pen o') ?_ (fun j x acc s' e hJ=>?_) (fun acc s' hJ=>?_)
  ·refine go ?_
   refine ⟨by rw [zbD (by omega) (by omega),zbD (by omega) (by omega)]; rfl,?_⟩
   exact ⟨rfl,[],_,rfl,rfl,by simp,rfl,hp⟩
  ·obtain ⟨zs,o',rfl,hzl,hzb,rfl,hp⟩:=hJ
   obtain ⟨rfl,hjz⟩:=zf1 e
   refine go ?_
   refine ⟨fun _=>?_,fun hb=>by cases hb⟩
   refine go ?_
   refine W.drawL hp (by decide) (by decide) fun r o2 hr hp=>?_
   refine go ?_
   exact ⟨_,rfl,by rw [List.length_map]; omega,zs ++ [(r:Int)],o2,by rw [List.map_append]; rfl,by simp [hzl],fun y hy=>by
    rcases List.mem_append.mp hy with hy | hy
    ·exact hzb y hy
    ·have:y = (r:Int):=by simpa using hy
     exact Nat.lt_of_le_of_lt (show _<=1000 by omega) (by decide),rfl,hp⟩
  obtain ⟨zs,o7,rfl,hzl,hzb,rfl,hp⟩:=hJ
  rw [zda] at hzl
  refine go ?_
  refine W.callL rfl ((zmT (k:=57) hp).imp fun v s1=>?_)
  rintro ⟨od,o8,rfl,rfl,hod,hp⟩
  refine ⟨_,_,rfl,rfl,?_⟩
  refine go ?_
  refine W.compI (c:=rgL 0 4) (fun j acc s'=>∃ (o':SO),(∀ y ∈ acc,thOk y)/\acc.length = j/\s' = s ++ [o']/\Pen o') ?_ (fun j x acc s' e hJ=>?_) (fun acc s' hJ=>?_)
  ·refine go ?_
   exact ⟨rfl,rfl,_,by simp,rfl,rfl,hp⟩
  ·obtain ⟨o',hacc,hal,rfl,hp⟩:=hJ
   obtain ⟨rfl,hj4⟩:=zf1 e
   refine go ?_
   refine ⟨fun _=>?_,fun hb=>by cases hb⟩
   refine go ?_
   refine W.callL rfl ((zgY (k':=57) (kk:=9) hp (row:=ys) (by omega) hyb (by omega) (by omega)).imp fun v s1=>?_)
   rintro ⟨bd,o9,rfl,rfl,hbd,hp⟩
   refine ⟨_,_,rfl,rfl,?_⟩
   refine go ?_
   refine ⟨_,rfl,by omega,_,fun y hy=>?_,by simp [hal],rfl,hp⟩
   rcases List.mem_append.mp hy with hy | hy
   ·exact hacc y hy
   ·rw [show y = bd by simpa using hy]; exact hbd
  obtain ⟨o9,hacc,hal,rfl,hp⟩:=hJ
  refine go ?_
  refine W.outL (zgf ?_) ?_
  ·rw [hal,zda]
   show 3 + _<=_
   omega
  refine go ?_
  refine WS.for (fun _ τ s=>∃ (a b c d e:Option Xv),τ = [some (.d (.fl (ns.map D.int))),a,b,c,some (.d (webD z ps)),d,e]) ⟨_,_,_,_,_,rfl⟩ (fun i x τ s hx hτ=>?_) (fun τ s hτ=>?_)
  ·obtain ⟨a,b,c,d,e,rfl⟩:=hτ
   have hok:thOk x:=by
    rcases List.mem_append.mp (List.mem_of_getElem? hx) with hm | hm
    ·simp only [List.mem_cons,List.not_mem_nil,or_false] at hm
     rcases hm with rfl | rfl | rfl
     ·exact zex hyb (by omega)
     ·exact zex hzb (by omega)
     ·exact zla hod
    ·exact hacc x hm
   refine go ?_
   refine W.call0 rfl ((zg3 (k':=51) hw hok).imp fun v s e=>⟨_,e,?_⟩)
   refine go ?_
   exact ⟨_,rfl,_,_,_,_,_,rfl⟩
  ·obtain ⟨a,b,c,d,e,rfl⟩:=hτ
   refine go ?_
   exact ⟨_,rfl,_,_,_,_,_,_,rfl⟩
 ·obtain ⟨a,b,c,d,e,f,rfl⟩:=hτ
  exact go trivial
end G42
open PySem PySem.W PyProof.Rows
set_option Elab.async false
set_option maxRecDepth 100000 in
set_option maxHeartbeats 0 in
theorem PySem.Challenge.cw_ringhues_k42_plain_hues_by_anybody_holds : PySem.Challenge.rw_ringhues_k42_plain_hues_by_anybody.Holds := by
 w_on; o_law
 refine holds_open (q:=G42.qv) (loose:=G42.loose) (Xt:=fun s=>xlAt G42.qv [] s && recOk [] s) (XP:=XL G42.qv []) (Yf:=(Mi.hookI G42.fs G42.ms G42.xs G42.lk).obs) (Ya:=(Mi.hookI G42.fs G42.ms G42.xs G42.lk).val) (YP:=(Mi.hookI G42.fs G42.ms G42.xs G42.lk).says) (N:=20000) G42.left (Mi.hookI G42.fs G42.ms G42.xs G42.lk).of (Mi.hookI G42.fs G42.ms G42.xs G42.lk).keeps (fun s e=>xl_of s (Bool.and_eq_true_iff.mp e).1) XL.keeps (by rfl) (by rfl) (by rfl) (fun s e=>recFacts_of (Bool.and_eq_true_iff.mp e).2) (by rfl) (by first | assumption | decide +kernel) (by decide +kernel) ⟨rfl,rfl,rfl,rfl,rfl,by decide +kernel⟩ ?hw ?hc
 case hw=>w_witness2
 case hc=>exact Mi.walkI (l:=PySem.Challenge.rw_ringhues_k42_plain_hues_by_anybody) (x:="_law_script") (k:=60) rfl rfl ⟨by decide,by decide,rfl⟩ (fun w K mg fa h S X G hfa=>G42.all_mk G42.law_true S X G hfa)
