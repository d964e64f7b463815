import PyProof.Rows.All
import Wide.All
import KE.KIsAll
import KE.KSortTup
import KE.KEqDict
import KE.KTryDeep
import KE.KIntText
import KE.KFromBytes
import KE.KDictOf
import Wide.FinOn
import PySem.Challenge.RW_ringhues_k73_webs_written_and_read
set_option compiler.extract_closed false
set_option Elab.async false
set_option linter.all false
set_option maxRecDepth 100000
set_option maxHeartbeats 4000000
set_option hygiene false
open Lean in
def cv:Nat->Syntax->MacroM (TSyntax `rcasesPat)
 |n+1,s=>match s with
  |`(⟨$xs,*⟩)=>do
   let p<-xs.getElems.mapM λx=>do `(Parser.Tactic.rcasesPatLo|$(<-cv n x):rcasesPat)
   `(rcasesPat|⟨$p,*⟩)
  |`(_)=>`(rcasesPat|_)
  |`($i:ident)=>`(rcasesPat|$i:ident)
  |_=>Macro.throwUnsupported
 |_,_=>Macro.throwUnsupported
local macro_rules(kind:=Lean.Parser.Tactic.tacticLet__)
 |s=>do
  let d:=s[2][0]
  if d.isOfKind `Lean.Parser.Term.letPatDecl then `(tactic|obtain $(<-cv 9 d[0]):rcasesPat:=$(⟨d[4]⟩)) else return s.setKind `Lean.Parser.Tactic.tacticHave__
local macro_rules|`(tactic|show $t)=>`(tactic|refine $t)
local macro_rules|`(tactic|ext)=>`(tactic|refine Y ?_)
def Lq.cg:Nat->Lean.Syntax->Lean.Syntax
 |n+1,.node _ k a=>.node .none k (a.map (Lq.cg n))
 |_,.atom _ v=>.atom .none v
 |_,.ident _ r v p=>.ident .none r v p
 |_,x=>x
local macro_rules(kind:=Lean.Parser.Command.declaration)
 |s=>do
  let d:=s[1]
  if s.getPos?.isNone then Lean.Macro.throwUnsupported
  if d.isOfKind `Lean.Parser.Command.definition&&s[0].getArgs.all (·.getNumArgs==0) then
   if d[3][1].isOfKind `Lean.Parser.Term.byTactic then return Lq.cg 9999 (s.setArg 1 (.node .none `Lean.Parser.Command.theorem #[Lean.mkAtom "theorem",d[1],.node .none `Lean.Parser.Command.declSig #[d[2][0],d[2][1][0]],d[3]]))
   let m<-`(command|noncomputable def a:=0)
   return Lq.cg 9999 (s.setArg 0 m.raw[0])
  return Lq.cg 9999 s
open Array renaming getElem?_eq_getElem→xR,getElem?_eq_some_iff→FT,length_toList→Hq,size_append→Ht,getElem?_toList→Rj
open Bool renaming and_eq_true→b_,false_eq_true→jt,not_true→xY,not_eq_true'→Nm,false_ne_true→Rr,and_false→NT
open Int renaming toNat_natCast→Gh,eq_ofNat_of_zero_le→M7,natCast_add→NQ
open List renaming length_map→bY,getElem?_eq_getElem→fV,mem_cons_of_mem→dI,size_toArray→dR,getElem?_eq_some_iff→jr,mem_cons_self→fK,length_cons→eN,mem_cons→cX,all_eq_true→fB,length_append→gP,getD_eq_getElem?_getD→mJ,mem_of_getElem?→jL,mem_append→gA,getElem?_eq_none_iff→pA,getElem?_append_right→pO,mem_range→gZ,getElem?_append_left→qL,getElem?_map→lD,getElem?_set_ne→oE,mem_map→gM,mem_append_right→pP,length_set→lE,pairwise_iff_getElem→t_,map_cons→jw,map_append→lG,not_mem_nil→mK,lookup_cons→nJ,mem_append_left→uc,mem_map_of_mem→ud,getElem?_set_self→wD,length_nil→pQ,all_cons→oG,getElem_mem→sy,map_map→nM,nodup_iff_pairwise_ne→Bw,nodup_cons→sE,pairwise_map→wG,mem_iff_getElem→zO,pairwise_cons→xV,zip_cons_cons→zP,getElem?_cons_succ→FW,pairwise_append→BJ,getElem?_eq_none→FZ,getElem?_toArray→Ga,mem_singleton→BL,length_take→zQ,append_assoc→BR,mem_filter→zU,filterMap_cons→Gd,append_nil→zV,drop_eq_getElem_cons→MP,getElem?_replicate→M5,getElem_of_mem→Hr,length_replicate→M9,forIn_cons→Gj,nodup_nil→Gm,length_drop→Hv,map_congr_left→Nh,mem_filterMap→Ni,find?_eq_none→Nk,range_succ_eq_map→Rf,reverse_cons→Nq,nodup_append→Nr,take_append_drop→Ri,take_length→Nu,filter_cons→Nv,of_mem_zip→Nz,mem_range'→NP,zip_nil_right→Rq,map_nil→Hy,contains_cons→Rt,forIn_nil→NZ,zip_nil_left→Ru,getElem?_inj→Rw
open Nat renaming le_refl→bK,lt_of_lt_of_le→gG,ne_of_lt→cR,le_trans→jx,lt_irrefl→oF,lt_succ_of_lt→ug,zero_le→lH,ne_of_gt→uL,le_of_lt→zX,le_of_not_lt→Hw,le_of_ble_eq_true→Rh,lt_or_ge→Gp,lt_trichotomy→Rx,not_lt→HB
open Option renaming map_eq_some_iff→jR,bind_eq_some_iff→qM,isSome_iff_exists→M4
open Option.some renaming inj→dD
open PyProof.Rows renaming slot_tuple_getitem→xQ,callWith_type1→FQ
open PyProof.Rows.F renaming plain_set_update_loop→QX,entry_set_update_loop→YC
open PySem renaming wpAny_bind→au,wpAny_pure→aH,wpAny_holding→iJ,wpAny_newObj_type→pB,wpAny_field→j9,wpAny_mono→jy,wpAny_callSpecial?_slot→xT,wpAny_truthy_bool→uf,wpAny_call_entry→uh,wpAny_setState_of→xX,wpAny_standAt→uK,wpAny_seqItems→wH,wpAny_loadPart_at→BP,mem_of_lookup→Ge,wpAny_setField_rec→Gf,sizeLine_eq→uM,wpAny_setField→zW,wpAny_loadName_local→Ho,wpAny_Call_Name_kw→Hs,wpAny_loadPart'→M_,wpAny_typeOf→zY,codeAny_builtin→Gk,wpAny_attempt→BW,wpAny_forIn_list→Hu,wpAny_isSubtype_exc→Ng,wpAny_passesOwn→Hx,wpAny_pyNext_list_item→Q_,wpAny_call→z_,wpAny_of_eq→BX,wpAny_pyIter_list→Np,wpAny_formatField_int→Rm,wpAny_isInstance→Nt,codeAny_call_builtin→Rn,wpAny_updateSeq_pair→Ro,wpAny_Name→BZ,call_meets→B_,wpAny_execs_nil→Ny,codeAny_mono→Hz,wpAny_rule→Gq
open PySem.Around renaming under_plainId→Rp
open PySem.AutoSeq1 renaming wpAny_loadPart'→Q5
open PySem.Code renaming quiet_builtin→Nj
open PySem.F renaming slot_tuple_iterator_next→MN,slot_str_split→M8,called_set→zZ,excBase_ValueError→QZ,args_tuple_add_2→Q0,args_str_split_2→Q6,entry_tuple_add→Q7,plainAttrs_list→Q8,entry_str_split→Q9,slot_tuple_add→Rb,plainAttrs_str→Rg,slot_zip_next→NK
open PySem.Heap renaming get?_push_of_some→bM,lt_size→bJ,get?_push_size→fW,get?_update_self→uJ,get?_update_other→wF,size_push→sG,get?_none_of_le→Gb
open PySem.Heap.SameBut renaming update→BK
open PySem.Obj renaming data_mapFields→xU,isFreed_of_fields→Nb
open PySem.Value renaming isInt_shape→Gg
open PySem.W renaming cellsFrom_some→Ra,looks_findIn→Gn
set_option bootstrap.genMatcherCode false
namespace Lake
theorem gV{p:Prop}(h:p:=by lia):p:=h
theorem Bd{p:Prop}(h:p:=by omega):p:=h
theorem J0{p:Prop}(h:p:=by decide +kernel):p:=h
theorem W9{p:Prop}(h:p:=by decide):p:=h
theorem Zaa{p:Prop}(h:p:=by simp):p:=h
abbrev cH:=@decide_eq_true
abbrev eO:=@decide_eq_false
abbrev ju:=@of_decide_eq_true
abbrev iK:=@beq_iff_eq
abbrev iR:=@if_false
abbrev xW:=@decide_eq_true_eq
abbrev zR:=@beq_self_eq_true
abbrev zT:=@decide_eq_decide
abbrev lR:=@or_false
abbrev nO:=@congrArg
abbrev Gi:=@bne_self_eq_false
abbrev M6:=@decide_eq_false_iff_not
abbrev Nf:=@beq_eq_false_iff_ne
namespace L2
open PySem PySem.Spec PyProof.Rows PySem.W
def subIn(K:W.Frag)(C D:Addr):Bool:=PySem.W.ktsIn K C "BaseException"&&PySem.W.ktsIn K D "BaseException"&&match K.lookup C with
 |some ⟨_,_,.cls cd,_⟩=>cd.mro.contains (.ref D)|_=>false
def sH:List Value:=[.type "ValueError",.type "Exception",.type "BaseException",.type "object"]
def bF:List Value->Bool
 |.ref _::r=>bF r|l=>l==sH
def YD:Value->Option String
 |.type n=>some n|_=>none
def HD:Value->Option Addr
 |.ref a=>some a|_=>none
def xZ:Value->Option String
 |.builtin n=>some n|_=>none
def YF:Data->Option ClassData
 |.cls cd=>some cd|_=>none
def YG:List Value->Option (Value×List Value)
 |[]=>none|v::r=>some (v,r)
def yc(K:Frag)(C:Addr)(bmB:List Value)(newId:String)(ini:Option Value):Bool:=(K.lookup C).any λo=>YD o.cls==some "type"&&(YF o.data).any λcd=>(YG cd.mro).any λp=>
 HD p.1==some C&&o.slots.size==6&&(o.slots[4]?.join).bind xZ==some newId && !cd.hasDel&&tailIn K bmB p.2&&nsOkIn K cd.ns&&nsIn K cd.ns "__init__"==some ini
def mL(K:Frag)(C fI:Addr):Bool:=yc K C sH "ValueError.__new__" (some (.ref fI))
def bA(s:Stmt):Arguments:=match s with
 |.FunctionDef _ a _ _ _ _ _ _ _ _=>a|_=>{posonlyargs:=[],args:=[],vararg:=none,kwonlyargs:=[],kw_defaults:=[],kwarg:=none,defaults:=[]}
def aN(s:Stmt):List Stmt:=match s with
 |.FunctionDef _ _ b _ _ _ _ _ _ _=>b|_=>[]
def aA(s:Stmt):Scope:=match s with
 |.FunctionDef _ _ _ _ _ _ sc _ _ _=>sc|_=>{kind:=.function,names:=[],isGenerator:=false,isCoroutine:=false}
end L2
namespace Mi
open PySem PySem.Spec PyProof.Rows L2 PySem.W
def pC(n c:Nat):Nat:=if c<n then c else 0
def j_(n c e:Nat):Bool:=pC n e==0||pC n c==pC n e
def eE(L:List Addr)(c:Nat):Addr:=L.getD (pC L.length c) 0
def N5(K:W.Frag)(C:Addr):Bool:=
 PySem.W.findIn K (.ref C) "__getattribute__"==some (some (.builtin "BaseException.__getattribute__"))&&PySem.W.findIn K (.ref C) "__getattr__"==some none&&PySem.W.findIn K (.ref C) "__class__"==some (some (.builtin "object.__class__")) &&
 PySem.W.mroIn K C (.type "BaseException")==some true&&PySem.W.mroIn K C (.type "object")==some true&&(PySem.W.clsIn K C).isSome &&
 PySem.W.specialIn K (.builtin "object.__class__") "__get__"==some (some (.builtin "getset_descriptor.__get__"))&&PySem.W.takesIn K (.builtin "object.__class__")==some true
def qN(K:W.Frag)(L:List Addr):Bool:=(List.range L.length).all λc=>N5 K (L.getD c 0)&&PySem.W.kitOne K (.ref (L.getD c 0)) (.type "ValueError")==some true &&
 (List.range L.length).all λe=>PySem.W.kitOne K (.ref (L.getD c 0)) (.ref (L.getD e 0))==some (j_ L.length c e)
def subB(K:W.Frag)(L:List Addr)(d:Nat):Bool:=(List.range L.length).all λc=>!(j_ L.length c d)||L2.subIn K (L.getD c 0) (eE L d)
def uo(fd:FuncData):FuncData:={fd with kwdefaults:=.none,doc:=.none,pyModule:=.none,annotations:=none,code:=.none,closureTuple:=.none}
def wI(x:Str)(st:Stmt):FuncData:=fnOf x x (bA st) (aN st) (aA st) .none .none .none .none none .none .none
def Cd(K:Frag)(x:Str):Option (Addr×FuncData):=match nsIn K mainGlobals x with
 |some (some (.ref f))=>(match K.lookup f with
  |some ⟨_,_,.func fd,_⟩=>(match codeIn K fd.code x&&keepIn K (.ref f) with
   |true=>some (f,fd)|false=>none)
  |_=>none)
 |_=>none
def Ce(K:Frag)(x:Str):Addr:=match nsIn K mainGlobals x with
 |some (some (.ref C))=>C|_=>0
def yd(K:Frag)(x:Str):Bool:=match nsIn K mainGlobals x with
 |some (some (.ref _))=>true|_=>false
def mO(K:Frag)(p:Str×Int):Bool:=match nsIn K mainGlobals p.1 with
 |some (some (.int i _))=>decide (i=p.2)|_=>false
def uN(K:Frag)(p:Str×Str):Bool:=match nsIn K mainGlobals p.1 with
 |some (some (.str x _))=>decide (x=p.2)|_=>false
def qO(K:Frag)(x:Str):Bool:=match nsIn K mainGlobals x with
 |some none=>true|_=>false
def HF(K:Frag)(C:Addr):Bool:=yc K C [.type "ValueError",.type "Exception",.type "BaseException",.type "object"] "ValueError.__new__" none
structure Lk where
 HJ:List Str
 Cg:List (Str×Int)
 YH:List Str
 YJ:List Nat
 YK:List Nat
 YL:List (Str×Str)
def Lk.L(l:Lk)(K:Frag):List Addr:=l.HJ.map (Ce K)
def Lk.good(l:Lk)(K:Frag):Bool:=
 l.HJ.all (yd K)&&(l.HJ.isEmpty||qN K (l.L K))&&l.YJ.all (λk=>HF K (eE (l.L K) k))&&l.YK.all (λk=>subB K (l.L K) k)&&l.Cg.all (mO K)&&l.YH.all (qO K)&&l.YL.all (uN K)
def qP(h:Heap):List Addr->Frag
 |[]=>[]|a::r=>match h.get? a with
  |some o=>(a,o)::qP h r|none=>qP h r
def qQ(s:Stmt):List Stmt:=match s with
 |.ClassDef _ _ _ b _ _ _ _ _ _ _=>b|_=>[]
def Cj(q:Str)(st:Stmt):FuncData:=fnOf "__init__" q (bA st) (aN st) (aA st) .none .none .none .none none .none .none
def HN(K:Frag)(C:Addr):Option FuncData:=match clsIn K C with
 |some cd=>(match nsIn K cd.ns "__init__" with
  |some (some (.ref f))=>(match K.lookup f with
   |some ⟨.type "function",_,.func fd,_⟩=>(match codeIn K fd.code fd.qualname&&mL K C f&&bF cd.mro&&cd.hasDict with
    |true=>some fd|false=>none)
   |_=>none)
  |_=>none)
 |none=>none
def setB(K:Frag)(C:Addr)(fs:List Str):Bool:=findIn K (.ref C) "__setattr__"==some (some (.builtin "object.__setattr__"))&&fs.all (λf=>findIn K (.ref C) f==some none)
def N6(K:Frag)(C:Addr)(f:Str):Bool:=findIn K (.ref C) "__getattribute__"==some (some (.builtin "BaseException.__getattribute__"))&&findIn K (.ref C) "__getattr__"==some none&&mroIn K C (.type "BaseException")==some true&&findIn K (.ref C) f==some none&&hasDictIn K C
structure yg where
 c:Nat
 q:Str
 st:Stmt
 fs:List Str
def HS:Nat->List Obj->Frag
 |_,[]=>[]|i,o::r=>match o.isFreed with
  |true=>HS (i+1) r|false=>(i,o)::HS (i+1) r
def cB(h:Heap):Frag:=qP h [mainGlobals]++(HS 0 h.objs.toList).reverse
def sJ(fs:List (Str×Stmt))(ms:List yg)(xs:List (Nat×Str))(l:Lk)(s:Shared):List (Option FuncData)×List (Option FuncData)×Bool:=
 (fs.map (λp=>(Cd (cB s.heap) p.1).map (λq=>uo q.2)),ms.map (λm=>(HN (cB s.heap) (eE (l.L (cB s.heap)) m.c)).map uo),
  l.good (cB s.heap)&&ms.all (λm=>setB (cB s.heap) (eE (l.L (cB s.heap)) m.c) m.fs)&&xs.all (λx=>N6 (cB s.heap) (eE (l.L (cB s.heap)) x.1) x.2))
def uO(fs:List (Str×Stmt))(ms:List yg)(w:World):List (Option FuncData)×List (Option FuncData)×Bool:=(fs.map (λp=>some (wI p.1 p.2)),ms.map (λm=>some (Cj m.q m.st)),true)
def N7(fs:List (Str×Stmt))(s:Shared):List (Option FuncData):=fs.map (λp=>(Cd (cB s.heap) p.1).map (λq=>uo q.2))
def YM(ms:List yg)(xs:List (Nat×Str))(l:Lk)(s:Shared):List (Option FuncData)×Bool:=(ms.map (λm=>(HN (cB s.heap) (eE (l.L (cB s.heap)) m.c)).map uo),
  l.good (cB s.heap)&&ms.all (λm=>setB (cB s.heap) (eE (l.L (cB s.heap)) m.c) m.fs)&&xs.all (λx=>N6 (cB s.heap) (eE (l.L (cB s.heap)) x.1) x.2))
def zfz{p q:Program}{loose:List Str}{Xt:Shared->Bool}{N:Nat}{fs1 sO:List (Str×Stmt)}{ms:List yg}{xs:List (Nat×Str)}{l:Lk}
  (a:∀w,(openEnds treeTable p w N).map (λs=>openSeen q loose (importedModules p.main.body) Xt true s)=some (openGood q loose))
  (b1:∀w,(openEnds treeTable p w N).map (N7 fs1)=some (fs1.map λp=>some (wI p.1 p.2)))
  (b2:∀w,(openEnds treeTable p w N).map (N7 sO)=some (sO.map λp=>some (wI p.1 p.2)))
  (c:∀w,(openEnds treeTable p w N).map (YM ms xs l)=some (ms.map (λm=>some (Cj m.q m.st)),true)):LeftO p q loose Xt (sJ (fs1++sO) ms xs l) (uO (fs1++sO) ms) N:=by
 intro w;let a:=a w;let b1:=b1 w;let b2:=b2 w;let c:=c w;cases e:openEnds treeTable p w N with
 |none=>rw[e]at a;cases a|some s=>
  rw[e]at a b1 b2 c;let a:openSeen q loose (importedModules p.main.body) Xt true s=openGood q loose:=dD a;let b1:=dD b1;let b2:=dD b2;let c:=dD c;let c1:=nO Prod.fst c;let c2:=nO Prod.snd c;change some (_,sJ (fs1++sO) ms xs l s)=_;rw[a];let:sJ (fs1++sO) ms xs l s=uO (fs1++sO) ms w:=by
   unfold sJ uO;rw[lG,lG];let b1:List.map _ fs1=List.map _ fs1:=b1;let b2:List.map _ sO=List.map _ sO:=b2;rw[b1,b2];show Prod.ext rfl (Prod.ext c1 c2)
  rw[this]
end Mi
namespace fZ
open PySem PySem.Spec PyProof.Rows PySem.W L2 Mi
def top(i:Nat):Stmt:=PySem.Challenge.pw_ringhues_k73_webs_written_and_read.main.body.getD i (.Pass ⟨0,0,0,0⟩)
def fs1:List (Str×Stmt):=("is_whole",top 14)::("is_within",top 15)::("is_row",top 16)::("is_web",top 19)::("is_many",top 20)::("is_place",top 21)::("is_tie",top 22)::("check_web",top 23)::("web_shown",top 25)::("web_read",top 26)::("check_text",top 27)::("number_by",top 28)::("pair_by",top 29)::("many_by",top 30)::("_law_cell",top 32)::("_law_pen",top 33)::[]
def sO:List (Str×Stmt):=("_law_draw",top 34)::("_law_whole",top 35)::("_law_odd",top 36)::("_law_kind",top 37)::("_law_size",top 38)::("_law_web",top 39)::("_law_is_web",top 40)::("_law_web_is",top 41)::("_law_bent_web",top 42)::("_law_text",top 43)::("_law_read",top 44)::("_law_told",top 45)::("_law_right",top 46)::("_law_spoilt",top 47)::("_law_refused",top 48)::("law",top 49)::[]
noncomputable abbrev fs:List (Str×Stmt):=fs1++sO
def lk:Lk:=⟨["HueError","NoRing","NoHues","NoPlace","NoArrows","NoMap","NoPaper","Apart","NoRow","NoWeb","NoText","TooGreat"],[("MOST_PLACES",8)],["ValueError","all","bool","divmod","enumerate","int","isinstance","len","list","max","range","set","sorted","str","tuple","zip"],[],[0],[]⟩
def pR:Stmt:=(qQ (top 10)).getD 0 (.Pass ⟨0,0,0,0⟩)
def kh:Stmt:=(qQ (top 11)).getD 0 (.Pass ⟨0,0,0,0⟩)
def ms:List yg:=[⟨9,"NoWeb.__init__",pR,["at"]⟩,⟨10,"NoText.__init__",kh,["at"]⟩]
def xs:List (Nat×Str):=[(9,"at"),(10,"at")]
noncomputable abbrev pv:Program:=PySem.Challenge.pw_ringhues_k73_webs_written_and_read
def qv:Program:={pv with main:={pv.main with body:=[pv.main.body.getD 49 (.Pass ⟨0,0,0,0⟩)]}}
def loose:List Str:=(["HueError","NoRing","NoHues","NoPlace","NoArrows","NoMap","NoPaper","Apart","NoRow","NoWeb","NoText","TooGreat","is_whole","is_within","is_row","MOST_PLACES","is_web","is_many","is_place","is_tie","check_web","web_shown","web_read","check_text","number_by","pair_by","many_by","_law_cell","_law_pen","_law_draw","_law_whole","_law_odd","_law_kind","_law_size","_law_web","_law_is_web","_law_web_is","_law_bent_web","_law_text","_law_read","_law_told","_law_right","_law_spoilt","_law_refused"]:List String).map Str.ofString
def zlC(w:World):(openEnds treeTable pv w 20000).map (λs=>openSeen qv loose (importedModules pv.main.body) (λs=>xlAt qv [] s&&recOk [] s) true s)=some (openGood qv loose):=by
 kernel_rfl
def znX(w:World):(openEnds treeTable pv w 20000).map (N7 fs1)=some (fs1.map λp=>some (wI p.1 p.2)):=by
 kernel_rfl
def znf(w:World):(openEnds treeTable pv w 20000).map (N7 sO)=some (sO.map λp=>some (wI p.1 p.2)):=by
 kernel_rfl
def zmd(w:World):(openEnds treeTable pv w 20000).map (YM ms xs lk)=some (ms.map (λm=>some (Cj m.q m.st)),true):=by
 kernel_rfl
def ws:PySem.Challenge.rw_ringhues_k73_webs_written_and_read.wellSaid=true:=by
 kernel_rfl
def wt:PySem.Challenge.rw_ringhues_k73_webs_written_and_read.row.prog.tablesWhole=true:=by
 decide +kernel
def wc:(chainsOk qv&&opensWell PySem.Challenge.rw_ringhues_k73_webs_written_and_read.row.prog&&(frees PySem.Challenge.rw_ringhues_k73_webs_written_and_read.row.toRowW&&PySem.Challenge.rw_ringhues_k73_webs_written_and_read.row.within.isEmpty))=true:=by
 decide +kernel
theorem left:LeftO pv qv loose (λs=>xlAt qv [] s&&recOk [] s) (sJ fs ms xs lk) (uO fs ms) 20000:=zfz zlC znX znf zmd
end fZ
namespace L2
open PySem PySem.Spec PyProof.Rows
def eU{α:Sort u}{β:Sort v}{A B C:α->β->Prop}{P:Prop}(h:∃x y,A x y/\B x y/\C x y)(k:∀x y,A x y->B x y->C x y->P):P:=by
 let⟨x,y,a,b,c⟩:=h;show k x y a b c
def Aa{α:Sort u}{β:Sort v}{γ:Sort w}{A B:α->β->Prop}{C D:α->β->γ->Prop}{P:Prop}(h:∃x y,A x y/\B x y/\∃z,C x y z/\D x y z)(k:∀x y,A x y->B x y->∀z,C x y z->D x y z->P):P:=by
 let⟨x,y,a,b,z,c,d⟩:=h;show k x y a b z c d
def yh{α:Sort u}{A B:α->Prop}{P:Prop}(h:∃x,A x/\B x)(k:∀x,A x->B x->P):P:=by
 let⟨x,a,b⟩:=h;show k x a b
noncomputable abbrev Key:=Sum Int Str
def lU:Key->Value->Bool
 |.inl k,v=>Value.isInt k v|.inr x,v=>Value.isStrOf x v
def Ry(w:World):Key->Int
 |.inl k=>hashInt k|.inr x=>hashStr w x
theorem yj:∀{k:Key} {v:Value},lU k v=true->(∃i t,k=Sum.inl i/\v=Value.int i t)\/(∃x t,k=Sum.inr x/\v=Value.str x t)
 |.inl i,v,h=>by
  let⟨t,e⟩:=Gg (k:=i) (v:=v) h;show .inl ⟨i,t,rfl,e⟩
 |.inr x,v,h=>by
  let⟨t,e⟩:=Value.isStrOf_shape (x:=x) (v:=v) h;show .inr ⟨x,t,rfl,e⟩
def zhF(i:Int)(t:Tok):lU (.inl i) (.int i t)=true:=by simp[lU,Value.isInt]
def zhE(x:Str)(t:Tok):lU (.inr x) (.str x t)=true:=by simp[lU,Value.isStrOf]
def zm6(a b:Int):decide ((Sum.inl a:Key)=Sum.inl b)=(a==b):=by
 by_cases e:a=b
 .subst e;simp
 .let h:¬(Sum.inl a:Key)=Sum.inl b:=λq=>e (Sum.inl.inj q);rw[eO h];show(Nf.mpr e).symm
def znL(a b:Str):decide ((Sum.inr a:Key)=Sum.inr b)=decide (a=b):=by
 by_cases e:a=b
 .subst e;simp
 .let h:¬(Sum.inr a:Key)=Sum.inr b:=λq=>e (Sum.inr.inj q);rw[eO h,eO e]
theorem zn3(a:Int)(b:Str):decide ((Sum.inl a:Key)=Sum.inr b)=false:=eO (λq=>nomatch q)
theorem znJ(a:Str)(b:Int):decide ((Sum.inr a:Key)=Sum.inl b)=false:=eO (λq=>nomatch q)
def cL(prog:Program)(w:World):PySem.KeyKind prog w Key where
 is:=lU
 hash:=Ry w
 inj:=λv a b ha hb=>by
  rcases yj ha with ⟨i,t,rfl,rfl⟩|⟨x,t,rfl,rfl⟩
  .rcases yj hb with ⟨j,u,rfl,e⟩|⟨y,u,rfl,e⟩
   .injection e with e1 _;rw[e1]
   .exact nomatch e
  .rcases yj hb with ⟨j,u,rfl,e⟩|⟨y,u,rfl,e⟩
   .exact nomatch e
   .injection e with e1 _;rw[e1]
 byValue:=λk v h=>by
  rcases yj h with ⟨i,t,rfl,rfl⟩|⟨x,t,rfl,rfl⟩<;>rfl
 pyHash:=λhv h=>by
  rcases yj hv with ⟨i,t,rfl,rfl⟩|⟨x,t,rfl,rfl⟩
  .exact wpAny_pyHash_int h
  .exact wpAny_pyHash_str h
 eqBool:=λhu hv h=>by
  rcases yj hu with ⟨i,t,rfl,rfl⟩|⟨x,t,rfl,rfl⟩
  .rcases yj hv with ⟨j,u,rfl,rfl⟩|⟨y,u,rfl,rfl⟩
   .rw[zm6]at h;show wpAny_eqBool_int h
   .rw[zn3]at h;show SeqAt.EqAt.int_str i t y u _ _ _ _ h
  .rcases yj hv with ⟨j,u,rfl,rfl⟩|⟨y,u,rfl,rfl⟩
   .rw[znJ]at h;show SeqAt.EqAt.str_int x t j u _ _ _ _ h
   .rw[znL]at h;show wpAny_eqBool_str h
 «strs»:=λk x t v h=>by
  rcases yj h with ⟨i,u,rfl,e⟩|⟨y,u,rfl,e⟩
  .exact nomatch e
  .injection e with e1 _;subst e1;cases v<;>rfl
theorem zeA(prog:Program)(w:World)(i:Int)(t:Tok):(cL prog w).is (.inl i) (.int i t)=true:=zhF i t
theorem zee(prog:Program)(w:World)(x:Str)(t:Tok):(cL prog w).is (.inr x) (.str x t)=true:=zhE x t
inductive V where
 |non|bl (b:Bool)|int (i:Int)|str (x:Str)|HW (b:Array UInt8)|flt (b:UInt64)|ref (a:Addr)|ty (n:String)
 deriving DecidableEq
def RelV:V->Value->Prop
 |.non,u=>u=Value.none|.bl b,u=>u=Value.bool b|.int i,u=>∃t,u=Value.int i t|.str x,u=>∃t,u=Value.str x t|.HW b,u=>∃t,u=Value.bytes b t|.flt b,u=>∃t,u=Value.float b t|.ref a,u=>u=Value.ref a|.ty n,u=>u=Value.type n
noncomputable abbrev Vals:List V->List Value->Prop:=Paired RelV
theorem Vals.length{xs:List V}{us:List Value}(r:Vals xs us):xs.length=us.length:=Paired.length r
theorem Vals.get:∀{xs:List V} {us:List Value} {i:Nat} {x:V},Vals xs us->xs[i]?=some x->∃u,us[i]?=some u/\RelV x u
 |_,_,_,_,.nil,e=>by simp at e|_,_,0,_,.cons r _,e=>by simp at e;subst e;show⟨_,rfl,r⟩|_,_,i+1,x,.cons _ t,e=>by
  let⟨u,h1,h2⟩:=Vals.get (i:=i) (x:=x) t (by simpa using e);show⟨u,by simpa using h1,h2⟩
theorem Vals.set{x:V}{u:Value}(r:RelV x u):∀{xs:List V} {us:List Value} (i:Nat),Vals xs us->Vals (xs.set i x) (us.set i u)
 |_,_,_,.nil=>.nil|_,_,0,.cons _ t=>.cons r t|_,_,i+1,.cons q t=>.cons q (Vals.set r i t)
def Vals.append{xs ys:List V}{us ws:List Value}(h:Vals xs us)(s:Vals ys ws):Vals (xs++ys) (us++ws):=by
 induction h with
 |nil=>show s|cons r _ ih=>show .cons r ih
theorem Vals.take:∀{xs:List V} {us:List Value} (n:Nat),Vals xs us->Vals (xs.take n) (us.take n)
 |_,_,0,_=>.nil|_,_,_+1,.nil=>.nil|_,_,n+1,.cons r t=>.cons r (Vals.take n t)
theorem Vals.drop:∀{xs:List V} {us:List Value} (n:Nat),Vals xs us->Vals (xs.drop n) (us.drop n)
 |_,_,0,r=>r|_,_,_+1,.nil=>.nil|_,_,n+1,.cons _ t=>Vals.drop n t
def Cm:Option V->Option Value->Prop
 |some v,some u=>RelV v u|none,none=>True|_,_=>False
def KV{κ:Type}:List (κ×V)->List (κ×Value)->Prop:=Paired λ(p:κ×V) (q:κ×Value)=>p.1=q.1/\RelV p.2 q.2
def kV:Key->V
 |.inl i=>.int i|.inr x=>.str x
inductive HO where
 |lst (xs:List V)
 |tup (xs:List V)
 |dK (kvs:List (Key×V))|dT (kvs:List (List Key×V))
 |set (S:Int->Bool) (n:Nat)
 |ins (C dx:Addr) (fs:List (Str×V))
 |own (x:Addr)
 |xd (fs:List (Str×V))
 |met (f x:Addr)
 |rng (lo hi:Int)
 |uP (o:Obj) (u:HO)
 |Ab (ps:Array Value)
 |ext (U:Heap->Prop)
noncomputable abbrev Hp:=Addr->Option HO
def upd(H:Hp)(a:Addr)(o:HO):Hp:=λb=>if b=a then some o else H b
def iU{H:Hp}{a:Addr}{o:HO}:upd H a o a=some o:=by unfold upd;rw[if_pos rfl]
def dB{H:Hp}{a b:Addr}{o:HO}(h:b≠a):upd H a o b=H b:=by unfold upd;rw[if_neg h]
def YQ{H:Hp}{a:Addr}{o u:HO}:upd (upd H a o) a u=upd H a u:=by
 funext b;unfold upd;split<;>rfl
def Cp{H:Hp}{a b:Addr}{o:HO}(h:H a=some o)(h':H b=none):a≠b:=by
 intro e;subst e;rw[h]at h';cases h'
def iV(h:Heap)(a:Addr)(items:Array Value):Prop:=∃o,h.get? a=some o/\o.cls=.type "tuple"/\∃n,o.data=.seq items n/\o.dict=none
def iV.tup{h:Heap}{a:Addr}{items:Array Value}(x:iV h a items):IsTup h a items:=by
 let⟨o,h1,h2,n,h3,_⟩:=x;show⟨o,h1,h2,n,h3⟩
theorem iV.lt{h:Heap}{a:Addr}{items:Array Value}(x:iV h a items):a<h.objs.size:=x.tup.lt
theorem iV.new(h:Heap)(xs:Array Value):iV (h.push {cls:=.type "tuple",data:=.seq xs}) h.objs.size xs:=⟨_,fW h rfl,rfl,_,rfl,rfl⟩
section
variable (P:Program)(w:World)
def aW(H:Hp)(h:Heap)(a:Addr):HO->Prop
 |.lst xs=>xs.length<=sizeLine/\∃(its:List Value) (n:Nat),Vals xs its/\h.get? a=some {cls:=.type "list",data:=.seq its.toArray n}|.tup xs=>xs.length<=sizeLine/\∃its:List Value,Vals xs its/\iV h a its.toArray|.dK kvs=>kvs.length<=sizeLine/\(a==sysModules)=false/\∃vs,KV kvs vs/\h.DictOf (cL P w) a vs|.dT kvs=>kvs.length<=sizeLine/\(a==sysModules)=false/\∃xs:List (List Key×Addr×Value),
   Paired (λ(p:List Key×V) (q:List Key×Addr×Value)=>p.1=q.1/\H q.2.1=some (.tup (p.1.map kV))/\RelV p.2 q.2.2) kvs xs /\
   ∃o es ep,h.get? a=some o/\o.ExactDict/\o.data=.dict es ep/\es.toList=xs.map (entryOfKey (tupleKind (cL P w)))/\(xs.map (·.1)).Nodup
 |.set S n=>h.SetOf (intKind P w) a S n|.ins C dx fs=>H dx=some (.own a)/\fs.length<=1000/\dx≠a/\h.get? a=some (PySem.W.instObj C dx) /\
   ∃mA,h.Ns1 dx mA/\(∀f,Cm (fs.lookup f) (mA f))/\PySem.Within mA (fs.map (·.1))
 |.own _=>∃o,h.get? a=some o|.xd fs=>∃mA,h.Ns1 a mA/\∀f,Cm (fs.lookup f) (mA f)|.rng lo hi=>∃t u v,h.get? a=some {cls:=.type "range",data:=.fields #[.int lo t,.int hi u,.int 1 v]}|.uP o u=>h.get? a=some o/\aW H h a u|.Ab ps=>h.get? a=some {cls:=.none,data:=.fields ps}|.met f x=>h.get? a=some (PySem.W.methodObj (.ref f) (.ref x))|.ext U=>U h/\(∃o,h.get? a=some o)/\∀h1 h2:Heap,U h1->(∀o,h1.get? a=some o->h2.get? a=some o)->U h2
def g8(H:Hp)(h:Heap):Prop:=∀a o,H a=some o->aW P w H h a o
end
section
variable {P:Program}{w:World}{H H':Hp}{h h':Heap}{a:Addr}{o:HO}
def aW.lt(x:aW P w H h a o):a<h.objs.size:=by
 cases o with
 |lst xs=>let⟨_,_,_,_,e⟩:=x;show bJ e|tup xs=>let⟨_,_,_,p⟩:=x;show p.lt|dK kvs=>let⟨_,_,_,_,o,_,_,e,_⟩:=x;show bJ e|dT kvs=>let⟨_,_,_,_,o,_,_,e,_⟩:=x;show bJ e|set S n=>let⟨o,_,_,_,e,_⟩:=x;show bJ e|ins C dx fs=>let⟨_,_,_,e,_⟩:=x;show bJ e|own y=>let⟨_,e⟩:=x;show bJ e|xd fs=>let⟨_,⟨_,_,_,e,_⟩,_⟩:=x;show bJ e|rng lo hi=>let⟨_,_,_,e⟩:=x;show bJ e|uP ob u=>let⟨e,_⟩:=x;show bJ e|Ab ps=>show bJ (show h.get? a=some _ from x)|met f y=>show bJ (show h.get? a=some _ from x)|ext U=>let⟨_,⟨_,e⟩,_⟩:=x;show bJ e
theorem YS{α β:Type}{F G:α->β->Prop}:∀{l₁:List α} {l₂:List β},Paired F l₁ l₂->(∀a b,F a b->G a b)->Paired G l₁ l₂
 |_,_,.nil,_=>.nil|_,_,.cons r t,f=>.cons (f _ _ r) (YS t f)
def aW.stay(x:aW P w H h a o)(k:∀b u,(b=a\/H b=some (.own a))->h.get? b=some u->h'.get? b=some u)
  (ho:∀b,H b=some (.own a)->H' b=some (.own a)) (ht:∀b xs,H b=some (.tup xs)->H' b=some (.tup xs)):aW P w H' h' a o:=by
 induction o with
 |lst xs=>let⟨z,its,n,r,e⟩:=x;show⟨z,its,n,r,k _ _ (.inl rfl) e⟩|tup xs=>let⟨z,its,r,ob,e,c⟩:=x;show⟨z,its,r,ob,k _ _ (.inl rfl) e,c⟩|dK kvs=>let⟨z,y,vs,r,ob,es,ep,e,c⟩:=x;show⟨z,y,vs,r,ob,es,ep,k _ _ (.inl rfl) e,c⟩|dT kvs=>
  let⟨z,y,xs,r,ob,es,ep,e,c⟩:=x;show⟨z,y,xs,YS r λp q z=>⟨z.1,ht _ _ z.2.1,z.2.2⟩,ob,es,ep,k _ _ (.inl rfl) e,c⟩
 |set S n=>let⟨ob,es,ep,t,e,c⟩:=x;show⟨ob,es,ep,t,k _ _ (.inl rfl) e,c⟩|ins C dx fs=>
  let⟨d,z,ne,e,mA,⟨od,es,ep,e2,c⟩,r⟩:=x;show⟨ho _ d,z,ne,k _ _ (.inl rfl) e,mA,⟨od,es,ep,k _ _ (.inr d) e2,c⟩,r⟩
 |own y=>let⟨ob,e⟩:=x;show⟨ob,k _ _ (.inl rfl) e⟩|xd fs=>let⟨mA,⟨od,es,ep,e,c⟩,r⟩:=x;show⟨mA,⟨od,es,ep,k _ _ (.inl rfl) e,c⟩,r⟩|rng lo hi=>let⟨t,u,v,e⟩:=x;show⟨t,u,v,k _ _ (.inl rfl) e⟩|uP ob u ih=>let⟨e,q⟩:=x;show⟨k _ _ (.inl rfl) e,ih q⟩|Ab ps=>
  let e:h.get? a=some {cls:=.none,data:=.fields ps}:=x;change h'.get? a=some {cls:=.none,data:=.fields ps};show k a _ (.inl rfl) e
 |met f y=>
  let e:h.get? a=some (PySem.W.methodObj (.ref f) (.ref y)):=x;change h'.get? a=some (PySem.W.methodObj (.ref f) (.ref y));show k a _ (.inl rfl) e
 |ext U=>let⟨p,⟨o,e⟩,st⟩:=x;show⟨st _ _ p λo q=>k _ _ (.inl rfl) q,⟨o,k _ _ (.inl rfl) e⟩,st⟩
theorem g8.lt(x:g8 P w H h)(e:H a=some o):a<h.objs.size:=(x a o e).lt
def g8.fresh(x:g8 P w H h)(e:h.objs.size<=a):H a=none:=by
 cases q:H a with
 |none=>rfl|some u=>show absurd (gG (x.lt q) e) (oF _)
theorem g8.kept(x:g8 P w H h)(k:∀b u,h.get? b=some u->h'.get? b=some u):g8 P w H h':=λa o e=>
 (x a o e).stay (λb u _ q=>k b u q) (λ_ q=>q) λ_ _ q=>q
theorem g8.laid(x:g8 P w H h)(k:∀b u,h.get? b=some u->h'.get? b=some u)(hp:h.objs.size<=a)(new:aW P w (upd H a o) h' a o):g8 P w (upd H a o) h':=λb u e=>by
 let hn:=x.fresh hp;by_cases hb:b=a
 .subst hb;rw[iU]at e;cases e;show new
 .rw[dB hb]at e;show(x b u e).stay (λc v _ q=>k c v q) (λc q=>by rw[dB (Cp q hn)];show q) λc xs q=>by rw[dB (Cp q hn)];show q
end
def Rd(H:Hp)(a:Addr)(u:HO):Prop:=H a=some u\/∃o,H a=some (.uP o u)
def Rd.ok{P:Program}{w:World}{H:Hp}{h:Heap}{a:Addr}{u:HO}(r:Rd H a u)(x:g8 P w H h):aW P w H h a u:=by
 rcases r with r|⟨o,r⟩
 .exact x a u r
 .obtain⟨_,q⟩:=x a _ r;show q
def HX:Option HO->Prop
 |some (.lst _)=>True|some (.dK _)=>True|some (.dT _)=>True|some (.set _ _)=>True|some (.ins _ _ _)=>True|some (.ext _)=>True|_=>False
section
variable {P:Program}{w:World}{H:Hp}{h h':Heap}{x e:Addr}{o':HO}
theorem g8.write(ok:g8 P w H h)(mu:HX (H x))(he:e=x\/H e=some (.own x))(k:∀b u,b≠e->h.get? b=some u->h'.get? b=some u)(Gs:∃u,h'.get? e=some u)
  (new:aW P w (upd H x o') h' x o'):g8 P w (upd H x o') h':=λb u q=>by
 let HY:∀c y,H c=some (.own y)->c≠x:=λc y r z=>by subst z;rw[r]at mu;show mu
 let RB:∀c xs,H c=some (.tup xs)->c≠x:=λc xs r z=>by subst z;rw[r]at mu;show mu
 by_cases hb:b=x
 .subst hb;rw[iU]at q;cases q;show new
 .rw[dB hb]at q;by_cases Cq:b=e
  .let q':H b=some (.own x):=by
    rcases he with z|z
    .exact absurd (Cq.trans z) hb
    .rw[Cq];show z
   rw[q]at q';cases q';let⟨v,hv⟩:=Gs;show⟨v,by rw[Cq];show hv⟩
  .refine(ok b u q).stay (λc v hc r=>k c v ?_ r) (λc r=>by rw[dB (HY c b r)];show r) λc xs r=>by rw[dB (RB c xs r)];show r
   rcases hc with rfl|hc
   .exact Cq
   .rintro rfl;rcases he with z|z
    .exact HY c b hc z
    .rw[hc]at z;cases z;show hb rfl
end
structure Un(fs ex:List Addr)(H H':Hp)(h h':Heap):Prop where
 keep:∀b o,h.get? b=some o->H b=none->b∉fs->b∉ex->h'.get? b=some o
 slot:∀b o,h.get? b=some o->H b=none->b∈fs->b∉ex->∃sl,h'.get? b=some {o with slots:=sl}
 free:∀b o,h.get? b=some o->H b=none->b∉ex->H' b=none
 there:∀b o,h.get? b=some o->b∉ex->∃o',h'.get? b=some o'
 tups:∀b xs,H b=some (.tup xs)->H' b=some (.tup xs)
 jM:∀b o u,H b=some (.uP o u)->H' b=some (.uP o u)
 kj:∀b ps,H b=some (.Ab ps)->∃more,H' b=some (.Ab (ps++more))
section
variable {fs fs' ex ex':List Addr}{H H1 H2:Hp}{h h1 h2 h':Heap}{a x e:Addr}{o:HO}
def Un.any(u:Un fs ex H H1 h h1){b:Addr}{ob:Obj}(q:h.get? b=some ob)(n:H b=none)(hx:b∉ex):∃sl,h1.get? b=some {ob with slots:=sl}:=by
 by_cases hb:b∈fs
 .exact u.slot b ob q n hb hx
 .exact⟨ob.slots,u.keep b ob q n hb hx⟩
theorem Un.kept(k:∀b u,h.get? b=some u->h'.get? b=some u):Un fs ex H H h h':=
 ⟨λb ob q _ _ _=>k b ob q,λb ob q _ _ _=>⟨ob.slots,k b ob q⟩,λ_ _ _ n _=>n,λb ob q _=>⟨ob,k b ob q⟩,λ_ _ q=>q,λ_ _ _ q=>q,λ_ ps q=>⟨#[],by rw[q];simp⟩⟩
theorem Un.refl:Un fs ex H H h h:=Un.kept λ_ _ q=>q
theorem Un.laid(k:∀b u,h.get? b=some u->h'.get? b=some u)(hp:h.objs.size<=a)(hn:H a=none):Un fs ex H (upd H a o) h h' where
 keep:=λb u q _ _ _=>k b u q
 slot:=λb u q _ _ _=>⟨u.slots,k b u q⟩
 free:=λb u q n _=>by rw[dB (cR (gG (bJ q) hp))];show n
 there:=λb u q _=>⟨u,k b u q⟩
 tups:=λb xs q=>by rw[dB (Cp q hn)];show q
 jM:=λb u xs q=>by rw[dB (Cp q hn)];show q
 kj:=λb ps q=>⟨#[],by rw[dB (Cp q hn),q];simp⟩
def Un.write(mu:HX (H x))(he:e=x\/H e=some (.own x))(k:∀b u,b≠e->h.get? b=some u->h'.get? b=some u)(Gs:∃u,h'.get? e=some u):Un fs ex H (upd H x o) h h':=by
 let hx:∀b,H b=none->b≠x:=λb n z=>by subst z;rw[n]at mu;show mu
 let hb:∀b,H b=none->b≠e:=λb n z=>by
  subst z;rcases he with r|r
  .exact hx b n r
  .rw[n]at r;cases r
 let hm:∀b u,H b=some u->¬HX (some u)->b≠x:=λb u q nm z=>by subst z;rw[q]at mu;show nm mu
 show⟨λb u q n _ _=>k b u (hb b n) q,λb u q n _ _=>⟨u.slots,k b u (hb b n) q⟩,λb u q n _=>by rw[dB (hx b n)];show n,λb u q _=>?_,
  λb xs q=>by rw[dB (hm b _ q λz=>z)];show q,λb u xs q=>by rw[dB (hm b _ q λz=>z)];show q,λb ps q=>⟨#[],by rw[dB (hm b _ q λz=>z),q];simp⟩⟩
 by_cases Cq:b=e
 .subst Cq;show Gs
 .exact⟨u,k b u Cq q⟩
end
def N_(h:Heap)(H:Hp):List Addr:=(List.range h.objs.size).filter λa=>(H a).isSome
def mQ(h:Heap)(H:Hp):Heap:=PySem.W.hideAll h (N_ h H)
theorem zgg(h:Heap)(H:Hp):(mQ h H).objs.size=h.objs.size:=PySem.W.hideAll_size _ _
theorem ziD{h:Heap}{H:Hp}{b:Addr}{o:Obj}(e:h.get? b=some o)(n:H b=none):(mQ h H).get? b=some o:=
 PySem.W.hideAll_get _ e λhm=>by
  let q:(H b).isSome=true:=(zU.mp hm).2;rw[n]at q;simp at q
def zjr{h:Heap}{H:Hp}{b:Addr}{o:Obj}(e:(mQ h H).get? b=some o):h.get? b=some o/\H b=none:=by
 let e':h.get? b=some o:=PySem.W.of_hideAll (N_ h H) e;show⟨e',?_⟩;cases q:H b with
 |none=>rfl|some x=>
  let hm:b∈N_ h H:=zU.mpr ⟨gZ.mpr (bJ e'),by simp[q]⟩;let z:(mQ h H).get? b=none:=PySem.W.hideAll_none (N_ h H) hm;rw[z]at e;cases e
structure Mod(K:W.Frag)(mg:Str->Option Value)(base:Heap):Prop where
 Cg:K.In base
 glob:base.Ns mainGlobals mg
 blt:∃mb,base.Ns builtinsNs mb/\∀x:Str,x≠"__name__"->mb x=bootBuiltins x
 nolimit:base.NoLimit
structure Cx where
 prog:Program
 w:World
 K:W.Frag
 mg:Str->Option Value
 base:Heap
 A:Around
 N:List Str
 s₀:Shared
 H₀:Hp
 env:Env
 outer:List Env
 stack:List Env
 ex:List Addr
 fn:Str->Bool
 aj:Bool
 pn:List (Addr×Obj)
 xe:Value->Shared->Prop
def frs(l:List Env):List Addr:=l.filterMap (·.frame)
noncomputable abbrev Cx.fs(X:Cx):List Addr:=frs X.outer
def RD(sc:Scope)(x:Str):Prop:=sc.names.lookup x=some .local\/sc.names.lookup x=some .cell\/sc.names.lookup x=some .free
def Loc(sc:Scope)(x:Str):Prop:=sc.names.lookup x=some .local\/sc.names.lookup x=some .cell
def Look(env:Env)(h:Heap)(m:Str->Option Value)(x:Str)(u:Value):Prop:=
 (env.kindOf x=some .local/\m x=some u)\/((env.kindOf x=some .cell\/env.kindOf x=some .free)/\∃c,env.cells.lookup x=some c/\h.IsCell c (some u))
structure Cx.Ok(X:Cx):Prop where
 mod:Mod X.K X.mg X.base
 kind:X.env.scope.kind=.function
 glob:X.env.globals=mainGlobals
 blt:X.env.builtins=builtinsNs
 above:X.s₀.heap.objs.size<=X.env.locals
 inj:∀x y c,X.env.cells.lookup x=some c->X.env.cells.lookup y=some c->x=y
 has:∀x,(X.env.kindOf x=some .cell\/X.env.kindOf x=some .free)->∃c,X.env.cells.lookup x=some c
 cab:∀x c,X.fn x=true->X.env.cells.lookup x=some c->X.s₀.heap.objs.size<=c
 hd:X.aj=true->X.A.handled=none
 frames:X.A.frames=some X.stack
 stk:X.stack=X.outer\/(X.stack=X.env::X.outer/\X.env.frame=some X.env.locals)
 YT:∀b∈X.ex,b≠X.env.locals/\∀x c,X.env.cells.lookup x=some c->c≠b
 bs:∀b o,X.base.get? b=some o->X.s₀.heap.get? b=some o/\X.H₀ b=none
 Ac:X.base.objs.size<=X.s₀.heap.objs.size
 uQ:∀b o,X.base.get? b=some o->b∉X.ex
 yp:∀b∈X.ex,b∉X.fs
 kE:X.s₀.heap.FunFrames X.base X.outer
 Gu:∀b∈X.fs,X.H₀ b=none
structure Inv(X:Cx)(ak:List (Addr×Obj))(Z:List (Option V))(H:Hp)(s:Shared):Prop where
 ok:X.Ok
 os:s.os=X.s₀.os
 bare:AllBare s.gens
 base:Un X.fs X.ex X.H₀ H X.s₀.heap s.heap
 loc:∃m,s.heap.Ns X.env.locals m/\∀(i:Nat) (x:Str) (v:V),X.N[i]?=some x->Z[i]?=some (some v)->RD X.env.scope x->∃u,RelV v u/\Look X.env s.heap m x u
 cell:∀x c,X.env.cells.lookup x=some c->∃v,s.heap.IsCell c v
 free:H X.env.locals=none
 fC:∀x c,X.env.cells.lookup x=some c->H c=none
 pin:∀p∈X.pn++ak,s.heap.get? p.1=some p.2/\H p.1=none/\p.1≠X.env.locals/\p.1∉X.fs/\∀v,p.2.data≠.cell v
 hok:g8 X.prog X.w H s.heap
 len:Z.length=X.N.length
section
variable {X:Cx}{ak:List (Addr×Obj)}{Z:List (Option V)}{H H':Hp}{s:Shared}{h':Heap}
theorem Cx.Ok.RG(ok:X.Ok){b:Addr}{o:Obj}(e:X.base.get? b=some o):b∉X.fs:=λhb=>by
 let:=(ok.kE.mem hb).1;rw[e]at this;cases this
theorem Inv.bs(I:Inv X ak Z H s):∀b o,X.base.get? b=some o->s.heap.get? b=some o/\H b=none:=λb o e=>
 ⟨I.base.keep b o (I.ok.bs b o e).1 (I.ok.bs b o e).2 (I.ok.RG e) (I.ok.uQ b o e),I.base.free b o (I.ok.bs b o e).1 (I.ok.bs b o e).2 (I.ok.uQ b o e)⟩
theorem Inv.bk(I:Inv X ak Z H s):∀b o,X.base.get? b=some o->s.heap.get? b=some o:=λb o e=>(I.bs b o e).1
theorem Inv.mod(I:Inv X ak Z H s):Mod X.K X.mg X.base:=I.ok.mod
theorem Inv.sS(I:Inv X ak Z H s):X.K.In s.heap:=I.ok.mod.Cg.keeps I.bk
theorem Inv.nolimit(I:Inv X ak Z H s):s.heap.NoLimit:=I.ok.mod.nolimit.keeps I.bk
theorem Inv.lt(I:Inv X ak Z H s):X.env.locals<s.heap.objs.size:=let ⟨_,hn,_⟩:=I.loc;hn.lt
theorem Inv.sz(I:Inv X ak Z H s):X.s₀.heap.objs.size<=s.heap.objs.size:=jx I.ok.above (zX I.lt)
theorem Inv.RJ(I:Inv X ak Z H s){a:Addr}(h:s.heap.objs.size<=a):a∉X.fs:=λhb=>by
 let⟨_,o,ho,_⟩:=I.ok.kE.mem hb;show absurd (gG (bJ ho) (jx I.sz h)) (oF _)
theorem Inv.yq(I:Inv X ak Z H s):∀x c,X.env.cells.lookup x=some c->c≠X.env.locals:=λx c e z=>by
 let⟨v,o,ho,hd⟩:=I.cell x c e;let⟨m,⟨o',es,ep,kI,Cr,_⟩,_⟩:=I.loc;rw[z,kI]at ho;cases ho;rw[Cr]at hd;cases hd
def Inv.kE(I:Inv X ak Z H s):s.heap.FunFrames X.base X.outer:=by
 let all:∀(l:List Env),(∀b∈frs l,b∈X.fs)->X.s₀.heap.FunFrames X.base l->s.heap.FunFrames X.base l:=by
  intro l
  induction l with
  |nil=>intro _ _;trivial|cons env r ih=>
   intro hs hl;let⟨hk,⟨L,o,hf,hn,ho,hd⟩,hr⟩:=hl;let hL:L∈X.fs:=hs L (by unfold frs;rw[Gd,hf];show fK);let⟨sl,e⟩:=I.base.slot L o ho (I.ok.Gu L hL) hL λz=>I.ok.yp L z hL;show⟨hk,⟨L,_,hf,hn,e,hd⟩,ih (λb hb=>hs b (by unfold frs;rw[Gd,hf];show dI _ hb)) hr⟩
 show all X.outer (λ_ hb=>hb) I.ok.kE
def Inv.stack(I:Inv X ak Z H s):s.heap.FunFrames X.base X.stack:=by
 rcases I.ok.stk with e|⟨e,hf⟩
 .rw[e];show I.kE
 .rw[e];let⟨m,hn,_⟩:=I.loc;show .cons (by rw[I.ok.kind];decide) hf hn ?_ I.kE;show Gb (jx I.ok.Ac I.ok.above)
theorem Inv.mR(I:Inv X ak Z H s):∀b∈frs X.stack,b∈X.env.locals::X.fs:=λb hb=>by
 rcases I.ok.stk with e|⟨e,hf⟩
 .rw[e]at hb;show dI _ hb
 .rw[e]at hb;unfold frs at hb;rw[Gd,hf]at hb;show hb
theorem Inv.jT(I:Inv X ak Z H s):∀b∈frs X.stack,H b=none:=λb hb=>by
 rcases cX.mp (I.mR b hb) with e|hb
 .rw[e];show I.free
 .obtain⟨_,o,ho,_⟩:=I.ok.kE.mem hb;show I.base.free b o ho (I.ok.Gu b hb) λz=>I.ok.yp b z hb
def Inv.step{g':Array GenState}{t':Nat}{d':Drawn}{ch:List Addr}(I:Inv X ak Z H s)
  (wJ:∀b∈ch,(b∈X.ex\/X.s₀.heap.get? b=none)/\b≠X.env.locals/\(∀x c,X.env.cells.lookup x=some c->c≠b)/\∀p∈X.pn++ak,p.1≠b)
  (keep:∀b o,b≠X.env.locals->b∉X.fs->b∉ch->s.heap.get? b=some o->H b=none->h'.get? b=some o)
  (slot:∀b o,b≠X.env.locals->b∈X.fs->b∉ch->s.heap.get? b=some o->H b=none->∃sl,h'.get? b=some {o with slots:=sl}) (free:∀b o,b∉ch->s.heap.get? b=some o->H b=none->H' b=none)
  (there:∀b o,b∉ch->s.heap.get? b=some o->∃o',h'.get? b=some o')
  (tups:∀b xs,H b=some (.tup xs)->H' b=some (.tup xs)) (jM:∀b o u,H b=some (.uP o u)->H' b=some (.uP o u)) (kj:∀b ps,H b=some (.Ab ps)->∃more,H' b=some (.Ab (ps++more)))
  (ns:∀m,s.heap.Ns X.env.locals m->h'.Ns X.env.locals m) (hok:g8 X.prog X.w H' h') (hg:AllBare g') :
  Inv X ak Z H' {s with heap:=h',gens:=g',drawn:=d',toks:=t'}:=by
 let YW:∀b o,X.s₀.heap.get? b=some o->b≠X.env.locals:=λb o e=>cR (gG (bJ e) I.ok.above);let Oa:∀b o,X.s₀.heap.get? b=some o->b∉X.ex->b∉ch:=λb o e hx hb=>by
  rcases(wJ b hb).1 with z|z
  .exact hx z
  .rw[e]at z;cases z
 let cellK:∀x c,X.env.cells.lookup x=some c->∀v,s.heap.IsCell c v->h'.IsCell c v:=λx c e v hx=>yh hx λo ho hd=>by
  let H_:c∉ch:=λz=>(wJ c z).2.2.1 x c e rfl;by_cases hc:c∈X.fs
  .obtain⟨sl,q⟩:=slot c o (I.yq x c e) hc H_ ho (I.fC x c e);show⟨_,q,hd⟩
  .exact⟨o,keep c o (I.yq x c e) hc H_ ho (I.fC x c e),hd⟩
 show⟨I.ok,I.os,hg,⟨λb o e n hb hx=>?_,λb o e n hb hx=>?_,λb o e n hx=>?_,λb o e hx=>?_,λb xs e=>tups b xs (I.base.tups b xs e),λb o xs e=>jM b o xs (I.base.jM b o xs e),λb ps e=>?_⟩,?_,λx c e=>?_,?_,λx c e=>?_,λp hp=>?_,hok,I.len⟩
 .exact keep b o (YW b o e) hb (Oa b o e hx) (I.base.keep b o e n hb hx) (I.base.free b o e n hx)
 .obtain⟨sl,e1⟩:=I.base.slot b o e n hb hx;let⟨sl',e2⟩:=slot b _ (YW b o e) hb (Oa b o e hx) e1 (I.base.free b o e n hx);show⟨sl',e2⟩
 .obtain⟨o',e1⟩:=I.base.there b o e hx;show free b o' (Oa b o e hx) e1 (I.base.free b o e n hx)
 .obtain⟨o',e1⟩:=I.base.there b o e hx;show there b o' (Oa b o e hx) e1
 .obtain⟨m1,e1⟩:=I.base.kj b ps e;let⟨m2,e2⟩:=kj b _ e1;show⟨m1++m2,by rw[e2,Array.append_assoc]⟩
 .obtain⟨m,hn,hl⟩:=I.loc;show⟨m,ns m hn,λi x v e1 e2 e3=>?_⟩;let⟨u,r,l⟩:=hl i x v e1 e2 e3;show⟨u,r,?_⟩;rcases l with l|⟨k,c,e,z⟩
  .exact .inl l
  .exact .inr ⟨k,c,e,cellK x c e _ z⟩
 .obtain⟨v,z⟩:=I.cell x c e;show⟨v,cellK x c e v z⟩
 .obtain⟨m,⟨o,_,_,ho,_⟩,_⟩:=I.loc;show free _ o (λz=>(wJ _ z).2.1 rfl) ho I.free
 .obtain⟨v,o,ho,hd⟩:=I.cell x c e;show free c o (λz=>(wJ c z).2.2.1 x c e rfl) ho (I.fC x c e)
 .obtain⟨e,n,ne,nf,d⟩:=I.pin p hp;let H_:p.1∉ch:=λz=>(wJ p.1 z).2.2.2 p hp rfl;show⟨keep p.1 p.2 ne nf H_ e n,free p.1 p.2 H_ e n,ne,nf,d⟩
def Inv.un{t':Nat}(I:Inv X ak Z H s)(u:Un X.fs [] H H' s.heap h')(hok:g8 X.prog X.w H' h'):Inv X ak Z H' {s with heap:=h',toks:=t'}:=by
 let⟨m,⟨o,es,ep,ho,r⟩,_⟩:=id I.loc;let⟨sl,hL⟩:=u.any ho I.free Zaa;show I.step (g':=s.gens) (d':=s.drawn) (ch:=[]) (λ_ z=>nomatch z) (λb o _ hb _ e n=>u.keep b o e n hb Zaa) (λb o _ hb _ e n=>u.slot b o e n hb Zaa) (λb o _ e n=>u.free b o e n Zaa) (λb o _ e=>u.there b o e Zaa) u.tups u.jM u.kj (λm' hm=>by
  let⟨o',es',ep',kI,r'⟩:=hm;rw[ho]at kI;cases kI;show⟨_,es',ep',hL,r'⟩) hok I.bare
def Inv.call{g':Array GenState}{t':Nat}{d':Drawn}{ch:List Addr}(I:Inv X ak Z H s)(u:Un (frs X.stack) ch H H' s.heap h')(hok:g8 X.prog X.w H' h')(hg:AllBare g')
  (wJ:∀b∈ch,(b∈X.ex\/X.s₀.heap.get? b=none)/\b≠X.env.locals/\(∀x c,X.env.cells.lookup x=some c->c≠b)/\∀p∈X.pn++ak,p.1≠b) :
  Inv X ak Z H' {s with heap:=h',gens:=g',drawn:=d',toks:=t'}:=by
 let⟨m,⟨o,es,ep,ho,r⟩,_⟩:=id I.loc;let⟨sl,hL⟩:=u.any ho I.free λz=>(wJ _ z).2.1 rfl;show I.step (ch:=ch) wJ (λb o hL hb hc e n=>u.keep b o e n (λz=>(cX.mp (I.mR b z)).elim hL hb) hc) (λb o _ _ hc e n=>u.any e n hc) (λb o hc e n=>u.free b o e n hc) (λb o hc e=>u.there b o e hc) u.tups u.jM u.kj (λm' hm=>by
  let⟨o',es',ep',kI,r'⟩:=hm;rw[ho]at kI;cases kI;show⟨_,es',ep',hL,r'⟩) hok hg
def Inv.turned{t':Nat}{it:Addr}(I:Inv X ak Z H s)(k:∀b o,b≠it->s.heap.get? b=some o->h'.get? b=some o)(hn:H it=none)(hL:it≠X.env.locals)
  (h1:it∈X.ex\/X.s₀.heap.objs.size<=it) (h2:∀x c,X.env.cells.lookup x=some c->c≠it) (h3:∀p∈X.pn++ak,p.1≠it):Inv X ak Z H {s with heap:=h',toks:=t'}:=by
 let Ad:∀b u,H b=some u->b≠it:=λb u e z=>by rw[z,hn]at e;cases e
 show I.step (g':=s.gens) (d':=s.drawn) (ch:=[it]) (λb hb=>?_) (λb o _ _ hc e _=>k b o (λz=>hc (by simp[z])) e) (λb o _ _ hc e _=>⟨o.slots,k b o (λz=>hc (by simp[z])) e⟩) (λ_ _ _ _ n=>n)
  (λb o hc e=>⟨o,k b o (λz=>hc (by simp[z])) e⟩) (λ_ _ e=>e) (λ_ _ _ e=>e) (λb ps e=>⟨#[],by rw[e];simp⟩) (λm hm=>?_) (λb u e=>?_) I.bare
 .let e:b=it:=by simpa using hb
  subst e;show⟨h1.imp id λz=>Gb z,hL,h2,h3⟩
 .obtain⟨o,es,ep,ho,r⟩:=hm;show⟨o,es,ep,k _ o (Ne.symm hL) ho,r⟩
 .refine(I.hok b u e).stay (λc v hc q=>k c v ?_ q) (λ_ q=>q) λ_ _ q=>q;rcases hc with z|z
  .rw[z];show Ad b u e
  .exact Ad c _ z
theorem Inv.tok(I:Inv X ak Z H s)(t:Nat):Inv X ak Z H {s with toks:=t}:=I.un (h':=s.heap) (t':=t) Un.refl I.hok
theorem Inv.kept{t':Nat}(I:Inv X ak Z H s)(k:∀b u,s.heap.get? b=some u->h'.get? b=some u):Inv X ak Z H {s with heap:=h',toks:=t'}:=I.un (Un.kept k) (I.hok.kept k)
theorem Inv.laid{a:Addr}{o:HO}{t':Nat}(I:Inv X ak Z H s)(k:∀b u,s.heap.get? b=some u->h'.get? b=some u)(hp:s.heap.objs.size<=a)(new:aW X.prog X.w (upd H a o) h' a o) :
  Inv X ak Z (upd H a o) {s with heap:=h',toks:=t'}:=I.un (Un.laid k hp (I.hok.fresh hp)) (I.hok.laid k hp new)
theorem Inv.write{x e:Addr}{o:HO}{t':Nat}(I:Inv X ak Z H s)(mu:HX (H x))(he:e=x\/H e=some (.own x))(k:∀b u,b≠e->s.heap.get? b=some u->h'.get? b=some u)(Gs:∃u,h'.get? e=some u)
  (new:aW X.prog X.w (upd H x o) h' x o):Inv X ak Z (upd H x o) {s with heap:=h',toks:=t'}:=I.un (Un.write mu he k Gs) (I.hok.write mu he k Gs new)
theorem Inv.mU{uR:List (Addr×Obj)}(I:Inv X ak Z H s)(h:∀p∈uR,s.heap.get? p.1=some p.2/\H p.1=none/\p.1≠X.env.locals/\p.1∉X.fs/\∀v,p.2.data≠.cell v):Inv X uR Z H s:=
 ⟨I.ok,I.os,I.bare,I.base,I.loc,I.cell,I.free,I.fC,λp hp=>(gA.mp hp).elim (λz=>I.pin p (uc _ z)) (h p),I.hok,I.len⟩
def RK{N:List Str}(hN:N.Nodup){i j:Nat}{x:Str}(a:N[i]?=some x)(b:N[j]?=some x):i=j:=by
 let⟨h1,e1⟩:=jr.mp a;let⟨h2,e2⟩:=jr.mp b;show(List.getElem_inj hN).mp (e1.trans e2.symm)
def zg0{M:Model}{A:Around}{E:Value->Shared->Prop}{i:Nat}{x:Str}{v:V}{u:Value}{Q:Unit->Shared->Prop}(I:Inv X ak Z H s)(hN:X.N.Nodup)(hi:X.N[i]?=some x)(hx:Loc X.env.scope x)(r:RelV v u)
  (h:∀s',Inv X ak (Z.set i (some v)) H s'->(∃a,Heap.SameBut a s.heap s'.heap/\(a=X.env.locals\/X.env.cells.lookup x=some a))->Q () s') (hf:X.fn x=true\/X.env.scope.names.lookup x=some .local:=by first|exact .inl rfl|exact .inr rfl|assumption):wpAny M A (storeName X.env x u) Q E s:=by
 let⟨m,hn,hl⟩:=id I.loc;let Cu:(X.env.scope.kind==.class||(X.env.scope.kind==.module&&X.env.locals != X.env.globals))=false:=by rw[I.ok.kind];rfl
 let YX:i<Z.length:=by rw[I.len];show(jr.mp hi).1
 let yq:=I.yq;let tracked:∀{a:Addr} {h':Heap},(∃o,s.heap.get? a=some o/\H a=none)->Heap.SameBut a s.heap h'->g8 X.prog X.w H h':=λ{a h'} ha hs b ob e=>by
  let⟨_,_,qR⟩:=ha;show(I.hok b ob e).stay (λc w' hc q=>(hs.2 c ?_).trans q) (λ_ q=>q) λ_ _ q=>q;rintro rfl;rcases hc with rfl|hc
  .rw[qR]at e;cases e
  .rw[qR]at hc;cases hc
 rcases hx with hk|hk
 .refine wpAny_storeName_local hk hn (λh' yr hs=>?_) Cu;let⟨oL,_,_,Ia,_⟩:=id hn;show h _ ⟨I.ok,I.os,I.bare,⟨λb o e n hb hx=>?_,λb o e n hb hx=>?_,I.base.free,λb o e hx=>?_,I.base.tups,I.base.jM,I.base.kj⟩,⟨_,yr,λj y v' e1 e2 e3=>?_⟩,λy c e=>?_,I.free,I.fC,λp hp=>?_,tracked ⟨oL,Ia,I.free⟩ hs,by simpa using I.len⟩ ⟨_,hs,.inl rfl⟩
  .exact(hs.2 b (cR (gG (bJ e) I.ok.above))).trans (I.base.keep b o e n hb hx)
  .obtain⟨sl,e1⟩:=I.base.slot b o e n hb hx;show⟨sl,(hs.2 b (cR (gG (bJ e) I.ok.above))).trans e1⟩
  .obtain⟨o',e1⟩:=I.base.there b o e hx;show⟨o',(hs.2 b (cR (gG (bJ e) I.ok.above))).trans e1⟩
  .by_cases hj:j=i
   .subst hj;rw[hi]at e1;cases e1;rw[wD YX]at e2;cases e2;show⟨u,r,.inl ⟨hk,by simp⟩⟩
   .rw[oE (Ne.symm hj)]at e2;let⟨u',r',q⟩:=hl j y v' e1 e2 e3;show⟨u',r',?_⟩;rcases q with ⟨k,e⟩|⟨k,c,e,z⟩
    .refine .inl ⟨k,?_⟩;let:y≠x:=λe=>hj (RK hN e1 (e▸hi));simp[this,e]
    .exact .inr ⟨k,c,e,z.sameBut hs (yq y c e)⟩
  .obtain⟨w',z⟩:=I.cell y c e;show⟨w',z.sameBut hs (yq y c e)⟩
  .obtain⟨e,n,ne,nf,d⟩:=I.pin p hp;show⟨(hs.2 p.1 ne).trans e,n,ne,nf,d⟩
 .let RL:X.fn x=true:=by
   rcases hf with z|z
   .exact z
   .rw[z]at hk;cases hk
  let⟨c,hc⟩:=I.ok.has x (.inl hk);let⟨w',z⟩:=I.cell x c hc;show wpAny_storeName_cell I.ok.kind hk hc z (λh' lJ hs=>?_);let⟨oc,YZ,RM⟩:=id z;show h {s with heap:=h'} ⟨I.ok,I.os,I.bare,⟨λb o e n hb hx=>?_,λb o e n hb hx=>?_,I.base.free,λb o e hx=>?_,I.base.tups,I.base.jM,I.base.kj⟩,⟨m,hn.sameBut hs (Ne.symm (yq x c hc)),λj y v' e1 e2 e3=>?_⟩,λy c' e=>?_,I.free,I.fC,λp hp=>?_,tracked ⟨oc,YZ,I.fC x c hc⟩ hs,by simpa using I.len⟩ ⟨c,hs,.inr hc⟩
  .exact(hs.2 b (cR (gG (bJ e) (I.ok.cab x c RL hc)))).trans (I.base.keep b o e n hb hx)
  .obtain⟨sl,e1⟩:=I.base.slot b o e n hb hx;show⟨sl,(hs.2 b (cR (gG (bJ e) (I.ok.cab x c RL hc)))).trans e1⟩
  .obtain⟨o',e1⟩:=I.base.there b o e hx;show⟨o',(hs.2 b (cR (gG (bJ e) (I.ok.cab x c RL hc)))).trans e1⟩
  .by_cases hj:j=i
   .subst hj;rw[hi]at e1;cases e1;rw[wD YX]at e2;cases e2;show⟨u,r,.inr ⟨.inl hk,c,hc,lJ⟩⟩
   .rw[oE (Ne.symm hj)]at e2;let⟨u',r',q⟩:=hl j y v' e1 e2 e3;show⟨u',r',?_⟩;rcases q with q|⟨k,c',e,z'⟩
    .exact .inl q
    .refine .inr ⟨k,c',e,z'.sameBut hs ?_⟩;rintro rfl;show hj (RK hN e1 (I.ok.inj _ _ _ e hc▸hi))
  .by_cases Y0:c'=c
   .subst Y0;show⟨_,lJ⟩
   .obtain⟨w2,z2⟩:=I.cell y c' e;show⟨w2,z2.sameBut hs Y0⟩
  .obtain⟨e,n,ne,nf,d⟩:=I.pin p hp;show⟨(hs.2 p.1 ?_).trans e,n,ne,nf,d⟩;intro q;rw[q,YZ]at e;let q':oc=p.2:=dD e;show d w' (by rw[<-q'];show RM)
theorem Ib{M:Model}{A:Around}{E:Value->Shared->Prop}{i:Nat}{x:Str}{v:V}{u:Value}{Q:Unit->Shared->Prop}(I:Inv X ak Z H s)(hN:X.N.Nodup)(hi:X.N[i]?=some x)(hx:Loc X.env.scope x)(r:RelV v u)
  (h:∀s',Inv X ak (Z.set i (some v)) H s'->Q () s') (hf:X.fn x=true\/X.env.scope.names.lookup x=some .local:=by first|exact .inl rfl|exact .inr rfl|assumption):wpAny M A (storeName X.env x u) Q E s:=
 zg0 I hN hi hx r (λs' I' _=>h s' I') hf
def Inv.call'{s':Shared}{ch:List Addr}(I:Inv X ak Z H s)(ho:s'.os=s.os)(u:Un (frs X.stack) ch H H' s.heap s'.heap)(hok:g8 X.prog X.w H' s'.heap)(hg:AllBare s'.gens)
  (wJ:∀b∈ch,(b∈X.ex\/X.s₀.heap.get? b=none)/\b≠X.env.locals/\(∀x c,X.env.cells.lookup x=some c->c≠b)/\∀p∈X.pn++ak,p.1≠b):Inv X ak Z H' s':=by
 let⟨h',g',d',t',o'⟩:=s';let e:o'=s.os:=ho;subst e;show I.call (g':=g') (t':=t') (d':=d') u hok hg wJ
end
noncomputable abbrev XK:=Value->Option Addr->Hp->Prop
noncomputable abbrev St:=List (Option V)
noncomputable abbrev VK:=V->Hp->Prop
noncomputable abbrev TE:=St->Hp->VK->Prop
noncomputable abbrev TT:=St->Hp->(Bool->Hp->Prop)->Prop
noncomputable abbrev TA:=St->Hp->(List V->Hp->Prop)->Prop
structure Ends where
 nx:St->Hp->Prop
 rt:VK
 bk:St->Hp->Prop:=λ_ _=>False
 ct:St->Hp->Prop:=λ_ _=>False
noncomputable abbrev TS:=Ends->St->Hp->Prop
def EP(X:Cx)(ak:List (Addr×Obj))(Z:St)(Q:VK)(u:Value)(s':Shared):Prop:=∃v H',Inv X ak Z H' s'/\RelV v u/\Q v H'
def TP(X:Cx)(ak:List (Addr×Obj))(Z:St)(Q:Bool->Hp->Prop)(b:Bool)(s':Shared):Prop:=∃H',Inv X ak Z H' s'/\Q b H'
def AP(X:Cx)(ak:List (Addr×Obj))(Z:St)(Q:List V->Hp->Prop)(us:List Value)(s':Shared):Prop:=∃vs H',Inv X ak Z H' s'/\Vals vs us/\Q vs H'
def SP(X:Cx)(ak:List (Addr×Obj))(D:Ends)(f:Flow)(s':Shared):Prop:=
 match f with
 |.next=>∃Z' H',Inv X ak Z' H' s'/\D.nx Z' H'|.brk=>∃Z' H',Inv X ak Z' H' s'/\D.bk Z' H'|.cont=>∃Z' H',Inv X ak Z' H' s'/\D.ct Z' H'|.ret u=>∃v Z' H',Inv X ak Z' H' s'/\RelV v u/\D.rt v H'
def PE(X:Cx)(e:Expr)(t:TE):Prop:=
 ∀(ak:List (Addr×Obj)) (s:Shared) (Z:St) (H:Hp) (Q:VK),Inv X ak Z H s->t Z H Q->wpAny (model X.prog X.w) X.A (eval e X.env) (EP X ak Z Q) X.xe s
def PT(X:Cx)(e:Expr)(t:TT):Prop:=
 ∀(ak:List (Addr×Obj)) (s:Shared) (Z:St) (H:Hp) (Q:Bool->Hp->Prop),Inv X ak Z H s->t Z H Q->wpAny (model X.prog X.w) X.A (isTrue e X.env (eval e X.env)) (TP X ak Z Q) X.xe s
def PW(X:Cx)(e:Expr)(t:TT):Prop:=
 ∀(whole:Sem Value) (ak:List (Addr×Obj)) (s:Shared) (Z:St) (H:Hp) (Q:Bool->Hp->Prop),Inv X ak Z H s->t Z H Q->wpAny (model X.prog X.w) X.A (isTrue e X.env whole) (TP X ak Z Q) X.xe s
theorem Kab{X:Cx}{e:Expr}{t:TT}(h:PW X e t):PT X e t:=h _
def PA(X:Cx)(es:List Expr)(t:TA):Prop:=
 ∀(pos:Pos) (ak:List (Addr×Obj)) (s:Shared) (Z:St) (H:Hp) (Q:List V->Hp->Prop),Inv X ak Z H s->t Z H Q->wpAny (model X.prog X.w) X.A (spliced (backTo pos (starEach es X.env))) (AP X ak Z Q) X.xe s
def PS(X:Cx)(st:Stmt)(t:TS):Prop:=
 ∀(ak:List (Addr×Obj)) (s:Shared) (Z:St) (H:Hp) (D:Ends),Inv X ak Z H s->t D Z H->wpAny (model X.prog X.w) X.A (exec st X.env) (SP X ak D) X.xe s
def pD(X:Cx)(st:List Stmt)(t:TS):Prop:=
 ∀(ak:List (Addr×Obj)) (s:Shared) (Z:St) (H:Hp) (D:Ends),Inv X ak Z H s->t D Z H->wpAny (model X.prog X.w) X.A (execs st X.env) (SP X ak D) X.xe s
theorem bf{α:Type}{t:Sem α}{Q Q':α->Shared->Prop}{M:Model}{A:Around}{E:Value->Shared->Prop}{s:Shared}(h:wpAny M A t Q E s)(hQ:∀a s,Q a s->Q' a s):wpAny M A t Q' E s:=jy h hQ λ_ _ x=>x
section
variable {X:Cx}
def yt(i:Nat):TE:=λZ H Q=>∃v,Z[i]?=some (some v)/\Q v H
def tC(v:V):TE:=λ_ H Q=>Q v H
def Y4{i:Nat}{x:Str}{pos:Pos}(hN:X.N[i]?=some x)(hv:RD X.env.scope x)(hd:(x==("__debug__" : Str))=false:=by decide)(nP:(x==("__classdict__" : Str))=false:=by decide):PE X (.Name x pos) (yt i):=by
 intro ak s Z H Q I h;let⟨v,e,h⟩:=h;let⟨m,hn,hl⟩:=I.loc;let⟨u,r,l⟩:=hl i x v hN e hv;let fin:EP X ak Z Q u s:=⟨v,H,I,r,h⟩;rcases l with ⟨hk,hm⟩|⟨hk,c,hc,Ae⟩
 .exact BZ (Ho I.ok.kind hk hn hm fin) hd
 .rcases hk with hk|hk
  .exact BZ (wpAny_loadName_cell I.ok.kind hk hc Ae fin) hd
  .exact BZ (wpAny_loadName_free I.ok.kind hk hc Ae fin nP) hd
theorem RN{i j pos}:PE X (.Constant (.int i) j pos) (tC (.int i)):=λ_ _ _ H _ I h=>wpAny_Constant_int ⟨.int i,H,I.tok _,⟨_,rfl⟩,h⟩
theorem zoK{b j pos}:PE X (.Constant (.bool b) j pos) (tC (.bl b)):=λ_ _ _ H _ I h=>Constant_bool ⟨.bl b,H,I,rfl,h⟩
theorem zl6{j pos}:PE X (.Constant .none j pos) (tC .non):=λ_ _ _ H _ I h=>Constant_none ⟨.non,H,I,rfl,h⟩
theorem Ob{x j pos}:PE X (.Constant (.str x) j pos) (tC (.str x)):=λ_ _ _ H _ I h=>Calls.Constant_str ⟨.str x,H,I.tok _,⟨_,rfl⟩,h⟩
def Gl(X:Cx)(x:Str):Prop:=X.env.kindOf x=some .globalImplicit
theorem Oc{E:Value->Shared->Prop}{ak:List (Addr×Obj)}{s:Shared}{Z:St}{H:Hp}{x:Str}{u:Value}{pos:Pos}{Q:Value->Shared->Prop}(I:Inv X ak Z H s)(hg:Gl X x)(hm:X.mg x=some u)(h:Q u s)
  (hd:(x==("__debug__" : Str))=false:=by decide):wpAny (model X.prog X.w) X.A (eval (.Name x pos) X.env) Q E s:=
 Calls.Name_function_global I.ok.kind hg (Calls.loadGlobal_global (by rw[I.ok.glob];show I.mod.glob.keeps I.bk) hm h) hd
def yu{E:Value->Shared->Prop}{ak:List (Addr×Obj)}{s:Shared}{Z:St}{H:Hp}{x:Str}{u:Value}{pos:Pos}{Q:Value->Shared->Prop}(I:Inv X ak Z H s)(hg:Gl X x)(hm:X.mg x=none)(hv:bootBuiltins x=some u)(h:Q u s)
  (hn:x≠"__name__":=by decide) (hd:(x==("__debug__" : Str))=false:=by decide):wpAny (model X.prog X.w) X.A (eval (.Name x pos) X.env) Q E s:=by
 let⟨mb,h1,h2⟩:=I.mod.blt;show Calls.Name_function_global I.ok.kind hg (Calls.loadGlobal_builtin (by rw[I.ok.glob];show I.mod.glob.keeps I.bk) hm (by rw[I.ok.blt];show h1.keeps I.bk) ((h2 x hn).trans hv) h) hd
theorem Y5{x:Str}{v:V}{u:Value}{pos:Pos}(hg:Gl X x)(hm:X.mg x=some u)(r:RelV v u)(hd:(x==("__debug__" : Str))=false:=by decide):PE X (.Name x pos) (tC v):=
 λ_ _ _ H _ I h=>Oc I hg hm ⟨v,H,I,r,h⟩ hd
variable {a b:Expr}{ta tb:TE}{pos:Pos}
def PC(X:Cx)(op:CmpOp)(a b:Expr)(t:TE):Prop:=
 ∀(ak:List (Addr×Obj)) (s:Shared) (Z:St) (H:Hp) (Q:VK),Inv X ak Z H s->t Z H Q->
  wpAny (model X.prog X.w) X.A (eval a X.env) (λv s₁=>wpAny (model X.prog X.w) X.A (eval b X.env) (λu s₂=>wpAny (model X.prog X.w) X.A (compareOp op v u) (EP X ak Z Q) X.xe s₂) X.xe s₁) X.xe s
def uU(b:Expr){op:CmpOp}(h:op≠.In)(h2:op≠.NotIn):behindInMarks op b=false:=by
 let e1:(op==CmpOp.In)=false:=by cases op<;>first|rfl|exact absurd rfl h
 let e2:(op==CmpOp.NotIn)=false:=by cases op<;>first|rfl|exact absurd rfl h2
 cases b with
 |Set elts k _=>
  change (k==0&&(op==.In||op==.NotIn)&&_)=false;rw[e1,e2];cases k==0<;>rfl
 |_=>rfl
def RP(ta:TE):TE:=λZ H Q=>ta Z H λx H1=>Q (.bl (decide (x=.non))) H1
def RelV.uV{x:V}{v:Value}(r:RelV x v):(v==Value.none)=decide (x=.non):=by
 cases x with
 |non=>cases r;rfl|bl _=>cases r;rfl|int _=>let⟨t,rfl⟩:=r;rfl|str _=>let⟨t,rfl⟩:=r;rfl|HW _=>let⟨t,rfl⟩:=r;rfl|flt _=>let⟨t,rfl⟩:=r;rfl|ref _=>cases r;rfl|ty _=>cases r;rfl
def zm0{j pos'}(ha:PE X a ta):PC X .Is a (.Constant .none j pos') (RP ta):=by
 intro ak s Z H Q I h;show bf (ha ak s Z H _ I h) λv s1 hx=>eU hx λx H1 I1 r1 q1=>?_;show Constant_none (is_none_gen ⟨.bl _,H1,I1,by rw[r1.uV];rfl,q1⟩)
def tB(t:TE):TT:=λZ H Q=>t Z H λx H1=>∃c,x=.bl c/\Q c H1
def zl1{op:CmpOp}{t:TE}(h:PC X op a b t)(h1:behindInMarks op b=false:=by first|exact uU _ W9 W9|rfl):PT X (.Compare a [op] [b] pos) (tB t):=by
 intro ak s Z H Q I hw;show wpAny_isTrue_Compare1 (bf (h ak s Z H _ I hw) λv s1 h1=>bf h1 λu s2 h2=>bf h2 λc s3 hx=>eU hx λx H1 I1 r1 q1=>?_) h1;let⟨d,rfl,q⟩:=q1;cases r1;show uf ⟨H1,I1,q⟩
def znu{e:Expr}{t:TE}(h:PE X e t)(he:∀whole,isTrue e X.env whole=(do let v <-whole;standAt e.pos;holding [v] (truthy v)):=by intro _;rfl):PT X e (tB t):=by
 intro ak s Z H Q I hw;show isTrue_plain (bf (h ak s Z H _ I hw) λv s1 hx=>eU hx λx H1 I1 r1 q1=>?_) (he _);let⟨d,rfl,q⟩:=q1;cases r1;show uf ⟨H1,I1,q⟩
variable {tA Od:TT}{rest:List Expr}
def RQ(t u:TT):TT:=λZ H Q=>t Z H λc H1=>if c=true then u Z H1 Q else Q false H1
def tOr(t u:TT):TT:=λZ H Q=>t Z H λc H1=>if c=true then Q true H1 else u Z H1 Q
def RT(t:TT):TT:=λZ H Q=>t Z H λc H1=>Q (!c) H1
def zk0(ha:PT X a tA):PW X (.BoolOp .And [a] pos) tA:=by
 intro wh ak s Z H Q I h;show isTrue_and (bf (ha ak s Z H Q I h) λc s1 e=>?_);cases c with
 |true=>show isTrue_and_nil e|false=>show e
def zl5(ha:PT X a tA):PW X (.BoolOp .Or [a] pos) tA:=by
 intro wh ak s Z H Q I h;show isTrue_or (bf (ha ak s Z H Q I h) λc s1 e=>?_);cases c with
 |false=>show isTrue_or_nil e|true=>show e
def zmr(ha:PT X a tA)(hb:PW X (.BoolOp .And (b::rest) pos) Od):PW X (.BoolOp .And (a::b::rest) pos) (RQ tA Od):=by
 intro wh ak s Z H Q I h;show isTrue_and (bf (ha ak s Z H _ I h) λc s1 hx=>yh hx λH1 I1 q1=>?_);cases c with
 |true=>show hb wh ak s1 Z H1 Q I1 q1|false=>show⟨H1,I1,q1⟩
def zo4(ha:PT X a tA)(hb:PW X (.BoolOp .Or (b::rest) pos) Od):PW X (.BoolOp .Or (a::b::rest) pos) (tOr tA Od):=by
 intro wh ak s Z H Q I h;show isTrue_or (bf (ha ak s Z H _ I h) λc s1 hx=>yh hx λH1 I1 q1=>?_);cases c with
 |true=>show⟨H1,I1,q1⟩|false=>show hb wh ak s1 Z H1 Q I1 q1
def zmY(ha:PT X a tA):PT X (.UnaryOp .Not a pos) (RT tA):=by
 intro ak s Z H Q I h;show isTrue_not (ha ak s Z H (λc H1=>Q (!c) H1) I h)
def Ie(ta tb:TE):TE:=λZ H Q=>ta Z H λx H1=>∃c,x=.bl c/\if c=true then tb Z H1 Q else Q (.bl false) H1
def Ig(ta:TE):TE:=λZ H Q=>ta Z H λx H1=>∃c,x=.bl c/\Q (.bl (!c)) H1
theorem znK{op}{t:TE}(h:PE X a t):PE X (.BoolOp op [a] pos) t:=λak s Z H Q I hw=>BoolOp_one (h ak s Z H Q I hw)
def zna(ha:PE X a ta)(hb:PE X (.BoolOp .And (b::rest) pos) tb):PE X (.BoolOp .And (a::b::rest) pos) (Ie ta tb):=by
 intro ak s Z H Q I h;show BoolOp_and (bf (ha ak s Z H _ I h) λv s1 hx=>eU hx λx H1 I1 r1 q1=>?_);let⟨c,rfl,q1⟩:=q1;cases r1;show uf ?_;cases c with
 |true=>show hb ak s1 Z H1 Q I1 q1|false=>show⟨.bl false,H1,I1,rfl,q1⟩
def zmf(ha:PE X a ta):PE X (.UnaryOp .Not a pos) (Ig ta):=by
 intro ak s Z H Q I h;show UnaryOp_ (bf (ha ak s Z H _ I h) λv s1 hx=>eU hx λx H1 I1 r1 q1=>?_);let⟨c,rfl,q1⟩:=q1;cases r1;show not_of (uf ⟨.bl (!c),H1,I1,rfl,q1⟩)
def tIf(t:TT)(ta tb:TE):TE:=λZ H Q=>t Z H λc H1=>if c=true then ta Z H1 Q else tb Z H1 Q
def ziM{c:Expr}(hc:PT X c tA)(ha:PE X a ta)(hb:PE X b tb):PE X (.IfExp c a b pos) (tIf tA ta tb):=by
 intro ak s Z H Q I h;show wpAny_IfExp (bf (hc ak s Z H _ I h) λd s1 hx=>yh hx λH1 I1 q1=>?_);cases d with
 |true=>show ha ak s1 Z H1 Q I1 q1|false=>show hb ak s1 Z H1 Q I1 q1
end
def dF(K:W.Frag)(H:Hp)(a:Addr)(xs:List V):Prop:=
 Rd H a (.lst xs) \/
  ∃(o:Obj) (its:Array Value) (n:Nat),K.lookup a=some o/\o.cls=.type "list"/\o.dict=none/\o.data=.seq its n/\its.size<=sizeLine/\Vals xs its.toList
def fL(K:W.Frag)(H:Hp)(a:Addr)(xs:List V):Prop:=
 Rd H a (.tup xs) \/
  ∃(o:Obj) (its:Array Value) (n:Nat),K.lookup a=some o/\o.cls=.type "tuple"/\o.dict=none/\o.data=.seq its n/\its.size<=sizeLine/\Vals xs its.toList
def RV:Value->Option V
 |.none=>some .non|.bool b=>some (.bl b)|.int i _=>some (.int i)|.str x _=>some (.str x)|.bytes b _=>some (.HW b)|.float b _=>some (.flt b)|.ref a=>some (.ref a)|.type n=>some (.ty n)|_=>none
def RelV.abs{x:V}{u:Value}(r:RelV x u):RV u=some x:=by
 cases x with
 |non=>cases r;rfl|bl _=>cases r;rfl|int _=>let⟨t,rfl⟩:=r;rfl|str _=>let⟨t,rfl⟩:=r;rfl|HW _=>let⟨t,rfl⟩:=r;rfl|flt _=>let⟨t,rfl⟩:=r;rfl|ref _=>cases r;rfl|ty _=>cases r;rfl
theorem RelV.inj{x y:V}{u:Value}(r:RelV x u)(q:RelV y u):x=y:=dD (r.abs.symm.trans q.abs)
def Vals.inj{xs ys:List V}{us:List Value}(h:Vals xs us)(h':Vals ys us):xs=ys:=by
 induction h generalizing ys with
 |nil=>cases h';rfl|cons r _ ih=>
  cases h' with
  |cons r' t'=>rw[r.inj r',ih t']
section
variable {X:Cx}{ak:List (Addr×Obj)}{Z:St}{H:Hp}{s:Shared}{a:Addr}{xs ys:List V}
theorem dF.of{K:W.Frag}(h:H a=some (.lst xs)):dF K H a xs:=.inl (.inl h)
theorem fL.of{K:W.Frag}(h:H a=some (.tup xs)):fL K H a xs:=.inl (.inl h)
def Inv.list(I:Inv X ak Z H s)(h:dF X.K H a xs):∃its:List Value,Vals xs its/\PlainL s.heap a its.toArray/\xs.length<=sizeLine:=by
 rcases h with h|⟨o,its,n,hk,hc,hd,hs,hz,r⟩
 .obtain⟨z,its,n,r,e⟩:=h.ok I.hok;show⟨its,r,⟨_,n,e,rfl,rfl,rfl⟩,z⟩
 .refine⟨its.toList,r,⟨o,n,I.sS a o hk,hc,hd,by simpa using hs⟩,?_⟩;let e:=r.length;simp only[Hq]at e
  lia
def Inv.tuple(I:Inv X ak Z H s)(h:fL X.K H a xs):∃its:List Value,Vals xs its/\IsTup s.heap a its.toArray/\xs.length<=sizeLine:=by
 rcases h with h|⟨o,its,n,hk,hc,_,hs,hz,r⟩
 .obtain⟨z,its,r,p⟩:=h.ok I.hok;show⟨its,r,p.tup,z⟩
 .refine⟨its.toList,r,⟨o,I.sS a o hk,hc,n,by simpa using hs⟩,?_⟩;let e:=r.length;simp only[Hq]at e
  lia
def Inv.RW(I:Inv X ak Z H s)(h:fL X.K H a xs):∃o,s.heap.get? a=some o/\o.cls=.type "tuple"/\o.dict=none:=by
 rcases h with h|⟨o,its,n,hk,hc,hd,_⟩
 .obtain⟨_,_,_,o,h1,h2,_,_,h3⟩:=h.ok I.hok;show⟨o,h1,h2,h3⟩
 .exact⟨o,I.sS a o hk,hc,hd⟩
def Inv.oH(I:Inv X ak Z H s)(h:dF X.K H a xs)(h':dF X.K H a ys):xs=ys:=by
 let⟨its,r,⟨o,n,e,_,_,d⟩,_⟩:=I.list h;let⟨its',r',⟨o',n',e',_,_,d'⟩,_⟩:=I.list h';rw[e]at e';cases e';rw[d]at d';injection d' with d1 _;let:its=its':=by simpa using nO Array.toList d1
 subst this;show r.inj r'
def Inv.lV(I:Inv X ak Z H s)(h:fL X.K H a xs)(h':fL X.K H a ys):xs=ys:=by
 let⟨its,r,⟨o,e,_,n,d⟩,_⟩:=I.tuple h;let⟨its',r',⟨o',e',_,n',d'⟩,_⟩:=I.tuple h';rw[e]at e';cases e';rw[d]at d';injection d' with d1 _;let:its=its':=by simpa using nO Array.toList d1
 subst this;show r.inj r'
end
section
variable {X:Cx}{st:Stmt}{rest:List Stmt}{t u:TS}{e:Expr}{te:TE}{pos:Pos}
def Ih:TS:=λD Z H=>D.nx Z H
def RX(t u:TS):TS:=λD Z H=>t {D with nx:=u D} Z H
theorem zj7:pD X [] Ih:=λ_ _ Z H _ I h=>Ny ⟨Z,H,I,h⟩
def RZ(h1:PS X st t)(h2:pD X rest u):pD X (st::rest) (RX t u):=by
 intro ak s Z H D I h;show wpAny_execs_cons (bf (h1 ak s Z H {D with nx:=u D} I h) λf s1 q=>?_);cases f with
 |next=>
  let⟨Z',H',I',q⟩:=q;show h2 ak s1 Z' H' D I' q
 |ret v=>show q|brk=>show q|cont=>show q
def Inv.quiet{ak:List (Addr×Obj)}{Z:St}{H:Hp}{s:Shared}(I:Inv X ak Z H s):interactive X.env=false:=by simp[interactive,I.ok.kind]
def Ii(te:TE):TS:=λD Z H=>te Z H λ_ H1=>D.nx Z H1
def zjF(he:PE X e te)(hs:swapsWith e none pos.line X.env=pure false:=by rfl):PS X (.Expr e pos) (Ii te):=by
 intro ak s Z H D I h;show wpAny_Expr_any (bf (he ak s Z H _ I h) λv s1 hx=>eU hx λx H1 I1 r1 q1=>⟨Z,H1,I1,q1⟩) I.quiet hs
def R0(te:TE):TS:=λD Z H=>te Z H D.rt
def znp(he:PE X e te):PS X (.Return (some e) pos) (R0 te):=by
 intro ak s Z H D I h;show wpAny_Return_some (bf (he ak s Z H _ I h) λv s1 hx=>eU hx λx H1 I1 r1 q1=>⟨x,Z,H1,I1,r1,q1⟩)
def R3(c:TT)(t u:TS):TS:=λD Z H=>c Z H λb H1=>if b=true then t D Z H1 else u D Z H1
def zoS{c:Expr}{a b:List Stmt}{tc:TT}(hc:PT X c tc)(ha:pD X a t)(hb:pD X b u):PS X (.If c a b pos) (R3 tc t u):=by
 intro ak s Z H D I h;show wpAny_If (bf (hc ak s Z H _ I h) λd s1 hx=>yh hx λH1 I1 q1=>?_);cases d with
 |true=>show ha ak s1 Z H1 D I1 q1|false=>show hb ak s1 Z H1 D I1 q1
end
noncomputable abbrev TG:=V->St->Hp->(St->Hp->Prop)->Prop
noncomputable abbrev Cv:=List V->St->Hp->(St->Hp->Prop)->Prop
def PG(X:Cx)(target:Expr)(t:TG):Prop:=
 ∀(ak:List (Addr×Obj)) (s:Shared) (Z:St) (H:Hp) (v:V) (u:Value) (Q:St->Hp->Prop),Inv X ak Z H s->RelV v u->t v Z H Q->
  wpAny (model X.prog X.w) X.A (assign target X.env u) (λ_ s'=>∃Z' H',Inv X ak Z' H' s'/\Q Z' H') X.xe s
def Oe(X:Cx)(ts:List Expr)(t:Cv):Prop:=
 ∀(ak:List (Addr×Obj)) (s:Shared) (Z:St) (H:Hp) (vs:List V) (us:List Value) (Q:St->Hp->Prop),Inv X ak Z H s->Vals vs us->t vs Z H Q->
  wpAny (model X.prog X.w) X.A (assignInOrder ((assignEach ts X.env).map (·.2)) us) (λ_ s'=>∃Z' H',Inv X ak Z' H' s'/\Q Z' H') X.xe s
noncomputable abbrev Cw:=V->V->V->Hp->(Hp->Prop)->Prop
def Ij(X:Cx)(t:Cw):Prop:=
 ∀(ak:List (Addr×Obj)) (s:Shared) (Z:St) (H:Hp) (o i v:V) (ov iv u:Value) (Q:Hp->Prop),Inv X ak Z H s->RelV o ov->RelV i iv->RelV v u->t o i v H Q->
  wpAny (model X.prog X.w) X.A (setItem ov iv u) (λ_ s'=>∃H',Inv X ak Z H' s'/\Q H') X.xe s
section
variable {X:Cx}{pos:Pos}
def cY(i:Nat):TG:=λv Z H Q=>Q (Z.set i (some v)) H
def yw{i:Nat}{x:Str}(hN:X.N.Nodup)(hi:X.N[i]?=some x)(hx:Loc X.env.scope x)(hf:X.fn x=true\/X.env.scope.names.lookup x=some .local:=by first|exact .inl rfl|exact .inr rfl|assumption):PG X (.Name x pos) (cY i):=by
 intro ak s Z H v u Q I r h;show wpAny_assign_Name (Ib I hN hi hx r (λs' I'=>⟨_,H,I',h⟩) hf)
def pU:Cv:=λvs Z H Q=>vs=[]/\Q Z H
def dJ(t:TG)(u:Cv):Cv:=λvs Z H Q=>∃v r,vs=v::r/\t v Z H λZ' H'=>u r Z' H' Q
def Og:Oe X [] pU:=by
 intro ak s Z H vs us Q I r h;let⟨e,h⟩:=h;subst e;cases r;show assignInOrder_nil ⟨Z,H,I,h⟩
def yx{e:Expr}{es:List Expr}{t:TG}{u:Cv}(h1:PG X e t)(h2:Oe X es u)
  (hs:(assignEach (e::es) X.env).map (·.2)=assign e X.env::(assignEach es X.env).map (·.2):=by rfl):Oe X (e::es) (dJ t u):=by
 intro ak s Z H vs us Q I r h;let⟨v,vr,e1,h⟩:=h;subst e1;cases r with
 |cons r rr=>
  rw[hs];show assignInOrder_cons (bf (h1 ak s Z H _ _ _ I r h) λ_ s1 hz=>?_);let⟨Z1,H1,I1,q1⟩:=hz;show h2 ak s1 Z1 H1 _ _ Q I1 rr q1
def pW(K:W.Frag)(n:Nat)(t:Cv):TG:=λv Z H Q=>∃a xs,v=.ref a/\fL K H a xs/\xs.length=n/\t xs Z H Q
def R4{es:List Expr}{k:Nat}{t:Cv}{n:Nat}(hc:X.aj=true)(h:Oe X es t)
  (hn:(assignEach es X.env).length=n:=by rfl) (pF:(assignEach es X.env).findIdx? (·.1)=none:=by rfl):PG X (.Tuple es k pos) (pW X.K n t):=by
 intro ak s Z H v u Q I r hw;let⟨a,xs,e1,hq,hl,hw⟩:=hw;subst e1;cases r;let⟨its,rv,ht,hz⟩:=I.tuple hq;show assign_Tuple_tuple (I.ok.hd hc) ht (by simp[hn,<-hl,rv.length]) pF λh' hx=>?_;let I1:Inv X ak Z H {s with heap:=h'}:=I.kept (t':=s.toks) λb o e=>hx b o (cR (bJ e)) e;show h ak _ Z H xs _ Q I1 (by simpa using rv) hw
def Cy(to ti:TE)(t:Cw):TG:=λv Z H Q=>to Z H λo H1=>ti Z H1 λi H2=>t o i v H2 λH3=>Q Z H3
def R5{o i:Expr}{to ti:TE}{t:Cw}(ho:PE X o to)(hi:PE X i ti)(hs:Ij X t)
  (ha:∀v,assign (.Subscript o i pos) X.env v=(do
   let ov <-holding [v] (eval o X.env)
   let iv <-holding [v,ov] (eval i X.env)
   standAt pos
   holding [v,ov,iv] (setItem ov iv v)
   release [v,ov,iv] []):=by intro _;rfl):PG X (.Subscript o i pos) (Cy to ti t):=by
 intro ak s Z H v u Q I r h;rw[ha];show au (iJ (bf (ho ak s Z H _ I h) λov s1 hx=>eU hx λx H1 I1 r1 q1=>?_));show au (iJ (bf (hi ak s1 Z H1 _ I1 q1) λiv s2 hx=>eU hx λy H2 I2 r2 q2=>?_));show au (uK (au (iJ (bf (hs ak s2 Z H2 x y v ov iv u _ I2 r1 r2 r q2) λ_ s3 hx=>yh hx λH3 I3 q3=>?_))));show wpAny_release ⟨Z,H3,I3,q3⟩
def yC(te:TE)(g:TG):TS:=λD Z H=>te Z H λx H1=>g x Z H1 D.nx
def Ik{tg e:Expr}{te:TE}{g:TG}(he:PE X e te)(hg:PG X tg g)(hs:swapsWithSole [tg] e pos.line X.env=pure false:=by rfl)(hw:swappedStores [tg] e X.env=pure none:=by rfl)
  (h1:(assignEach [tg] X.env).map (·.2)=[assign tg X.env]:=by rfl):PS X (.Assign [tg] e pos) (yC te g):=by
 intro ak s Z H D I h;show wpAny_Assign_stores (bf (he ak s Z H _ I h) λv s1 hx=>eU hx λx H1 I1 r1 q1=>?_) hs hw;rw[h1];show bf (hg ak s1 Z H1 x v _ I1 r1 q1) λ_ s2 q=>q
def Y6{i:Nat}{x:Str}{e:Expr}{te:TE}{pos':Pos}(hN:X.N.Nodup)(hi:X.N[i]?=some x)(hx:Loc X.env.scope x)(he:PE X e te)(hs:swapsWith e (some (.Name x pos')) pos.line X.env=pure false:=by rfl)(hf:X.fn x=true\/X.env.scope.names.lookup x=some .local:=by first|exact .inl rfl|exact .inr rfl|assumption) :
  PS X (.Assign [.Name x pos'] e pos) (yC te (cY i)):=by
 intro ak s Z H D I h;show wpAny_Assign_Name (bf (he ak s Z H _ I h) λv s1 hz=>?_) hs;let⟨y,H1,I1,r1,q1⟩:=hz;show Ib I1 hN hi hx r1 (λs2 I2=>⟨_,H1,I2,q1⟩) hf
def R6(i j:Nat)(ta:TA):TS:=λD Z H=>ta Z H λvs H1=>∃v w,vs=[v,w]/\D.nx ((Z.set i (some v)).set j (some w)) H1
def zoa{i j:Nat}{x y:Str}{a b:Expr}{ta:TA}{px py pt:Pos}{kt k2 nQ}(hc:X.aj=true)(hN:X.N.Nodup)(hi:X.N[i]?=some x)(hj:X.N[j]?=some y)(lW:i≠j)
  (hx:X.env.scope.names.lookup x=some .local) (hy:X.env.scope.names.lookup y=some .local) (ha:PA X [a,b] ta)
  (hw:swappedStores [.Tuple [.Name x px,.Name y py] kt pt] (.Tuple [a,b] k2 nQ) X.env=pure (some [x,y]))
  (hs:swapsWithSole [.Tuple [.Name x px,.Name y py] kt pt] (.Tuple [a,b] k2 nQ) pos.line X.env=pure false:=by rfl) :
  PS X (.Assign [.Tuple [.Name x px,.Name y py] kt pt] (.Tuple [a,b] k2 nQ) pos) (R6 i j ta):=by
 intro ak s Z H D I h;rw[exec_Assign_arm];show au (uK ?_);rw[hs];show au (aH ?_);rw[if_neg W9];show au (Tuple_ (bf (ha _ ak s Z H _ I h) λus s1 hz=>?_));let⟨vs,H1,I1,r1,q1⟩:=hz;let⟨v,w,e1,q1⟩:=q1;subst e1;obtain⟨u1,u2,rfl,rv,mV⟩ : ∃u1 u2,us=[u1,u2]/\RelV v u1/\RelV w u2:=by
  cases r1 with
  |cons p q=>
   cases q with
   |cons p' q'=>
    cases q';show⟨_,_,rfl,p,p'⟩
 show pB ?_ (by change 2<=sizeLine;decide);let I2:Inv X ak Z H1 {s1 with heap:=s1.heap.push {cls:=.type "tuple",data:=.seq [u1,u2].toArray}}:=I1.kept (t':=s1.toks) λb o e=>bM _ e;rw[hw];show au (aH ?_);change wpAny (model X.prog X.w) X.A (do rule "assign.swapped-stores";let items <-unpackItems (.ref s1.heap.objs.size) 2 none;assignInOrder [λv=>bindName X.env y v,λv=>bindName X.env x v] items.reverse;pure Flow.next) _ _ _;show au (Gq (au (unpackItems_tuple (items:=#[u1,u2]) (I.ok.hd hc) (IsTup.new s1.heap _) λh' Il=>?_)));let I3:=I2.kept (h':=h') (t':=s1.toks) λb o e=>Il b o (cR (bJ e)) e;change wpAny _ _ (assignInOrder [λv=>bindName X.env y v,λv=>bindName X.env x v] [u2,u1] >>= λ_=>pure Flow.next) _ _ _;show au (assignInOrder_cons (wpAny_bindName (Ib I3 hN hj (.inl hy) mV (λs2 I4=>?_) (.inr hy))));show assignInOrder_cons (wpAny_bindName (Ib I4 hN hi (.inl hx) rv (λs3 I5=>assignInOrder_nil (aH ?_)) (.inr hx)));rw[List.set_comm _ _ (Ne.symm lW)]at I5;show⟨_,H1,I5,q1⟩
end
structure It where
 go:Nat->Hp->Prop
 Cz:Nat->Hp->V->Hp->Prop
 stop:Nat->Hp->Prop
def iW(X:Cx)(ak:List (Addr×Obj))(H:Hp)(b:Addr):Prop:=
 H b=none/\b≠X.env.locals/\b∉X.fs/\(b∈X.ex\/X.s₀.heap.objs.size<=b)/\(∀x c,X.env.cells.lookup x=some c->c≠b)/\∀p∈X.pn++ak,p.1≠b
def Inv.uW{X:Cx}{ak:List (Addr×Obj)}{Z:St}{H H':Hp}{s:Shared}{b:Addr}(I:Inv X ak Z H s)(hb:s.heap.objs.size<=b)(hn:H' b=none):iW X ak H' b:=by
 show⟨hn,uL (gG I.lt hb),I.RJ hb,.inr (jx I.sz hb),λx c e z=>?_,λp hp z=>?_⟩
 .obtain⟨v,q⟩:=I.cell x c e;show absurd (gG q.lt (by rw[z];show hb)) (oF _)
 .exact absurd (gG (bJ (I.pin p hp).1) (by rw[z];show hb)) (oF _)
structure Turn(P:Program)(w:World)(K:W.Frag)(tg:Expr)(cj:It)(fp:List Addr)(it:Addr)(tn:Nat->Heap->Prop):Prop where
 mem:it∈fp
 obj:∀i h,tn i h->∀b∈fp,∃o,h.get? b=some o/\∀v,o.data≠.cell v
 keep:∀i h h',tn i h->(∀b∈fp,∀o,h.get? b=some o->h'.get? b=some o)->tn i h'
 item:∀(X:Cx),X.prog=P->X.w=w->X.K=K->X.aj=true->∀(i:Nat) (ak:List (Addr×Obj)) (s:Shared) (Z:St) (H:Hp) (E:Value->Shared->Prop),Inv X ak Z H s->(∀b∈fp,iW X ak H b)->tn i s.heap->cj.go i H->
  wpAny (model P w) X.A (pyNext (.ref it)) (λr s1=>∃u,r=some u /\
   wpAny (model P w) X.A (letOwnedTupleGo tg (.ref it) u) (λ_ s2=>∃x H',Inv X ak Z H' s2/\RelV x u/\cj.Cz i H x H'/\tn (i+1) s2.heap/\∀b∈fp,H' b=none) E s1) E s
 done:∀(X:Cx),X.prog=P->X.w=w->X.K=K->X.aj=true->∀(i:Nat) (ak:List (Addr×Obj)) (s:Shared) (Z:St) (H:Hp) (E:Value->Shared->Prop),Inv X ak Z H s->(∀b∈fp,iW X ak H b)->tn i s.heap->cj.stop i H->
  wpAny (model P w) X.A (pyNext (.ref it)) (λr s1=>r=none/\Inv X ak Z H s1) E s
 self:∀(A:Around) (i:Nat) (s:Shared) (Q:Value->Shared->Prop) (E:Value->Shared->Prop),tn i s.heap->Q (.ref it) s->wpAny (model P w) A (pyIter (.ref it)) Q E s
noncomputable abbrev TI:=St->Hp->(It->Hp->Prop)->Prop
def PIE(X:Cx)(ak:List (Addr×Obj))(Z:St)(tg:Expr)(R:It->Hp->Prop)(itv:Value)(s2:Shared):Prop:=
 ∃(it:Addr) (fp:List Addr) (tn:Nat->Heap->Prop) (cj:It) (H':Hp),itv=.ref it/\Inv X ak Z H' s2/\Turn X.prog X.w X.K tg cj fp it tn/\tn 0 s2.heap/\(∀b∈fp,iW X ak H' b)/\R cj H'
def PI(X:Cx)(tg iter:Expr)(wi:TI):Prop:=
 ∀(ak:List (Addr×Obj)) (s:Shared) (Z:St) (H:Hp) (R:It->Hp->Prop),Inv X ak Z H s->wi Z H R->
  wpAny (model X.prog X.w) X.A (eval iter X.env) (λv s1=>wpAny (model X.prog X.w) X.A (pyIter v) (PIE X ak Z tg R) X.xe s1) X.xe s
def R7{M:Model}{A:Around}{E:Value->Shared->Prop}{s:Shared}{tg:Expr}{it:Addr}{u:Value}{o:Obj}{n:String}{vs:Array Value}{Q:Unit->Shared->Prop}(ho:s.heap.get? it=some o)(hc:o.cls=.type n)(hd:o.data=.fields vs)
  (hn:["enumerate","zip","dict_itemiterator","dict_reverseitemiterator","odict_iterator","itertools.zip_longest","itertools.pairwise"].contains n=false) (hQ:Q () s):wpAny M A (letOwnedTupleGo tg (.ref it) u) Q E s:=by
 unfold letOwnedTupleGo;cases tg<;>first
  |exact aH hQ
  | (cases u<;>first
    |exact aH hQ
    | (show au (wpAny_load ho ?_)
       rw[hc,hd];change wpAny M A (if (["enumerate","zip","dict_itemiterator","dict_reverseitemiterator","odict_iterator","itertools.zip_longest","itertools.pairwise"].contains n&&vs[0]?==some (rawInt _))=true then _ else _) Q E s;rw[if_neg (by intro h;rw[hn,Bool.false_and]at h;cases h)];show aH hQ))
def Oh(K:W.Frag)(a:Addr):It:=
 ⟨λi H=>∃xs x,dF K H a xs/\xs[i]?=some x,λi H x H'=>H'=H/\∀xs,dF K H a xs->xs[i]?=some x,λi H=>∃xs,dF K H a xs/\xs.length<=i⟩
def R8(K:W.Frag)(a:Addr):It:=
 ⟨λi H=>∃xs x,fL K H a xs/\xs[i]?=some x,λi H x H'=>H'=H/\∀xs,fL K H a xs->xs[i]?=some x,λi H=>∃xs,fL K H a xs/\xs.length<=i⟩
def Im(lo:Int)(n:Nat):It:=⟨λi _=>i<n,λi H x H'=>H'=H/\x=.int (lo+i),λi _=>n<=i⟩
def zg4{P:Program}{w:World}{K:W.Frag}{tg:Expr}(a it:Addr):Turn P w K tg (Oh K a) [it] it (λi h=>h.IsListIter it a i) where
 mem:=by simp
 obj:=λi h st b hb=>by
  let e:b=it:=by simpa using hb
  subst e;let⟨o,e,c,d⟩:=st;show⟨o,e,λv z=>by rw[d]at z;cases z⟩
 keep:=λi h h' st k=>st.at λo e=>k it Zaa o e
 item:=by
  intro X hP hw hK hc i ak s Z H E I hf st hg;subst hP hw hK;let⟨xs,x,hq,hx⟩:=hg;let⟨its,rv,p,hz⟩:=I.list hq;let⟨u,hu,ru⟩:=rv.get hx;let⟨f0,f1,f2,f3,f4,f5⟩:=hf it Zaa;show Q_ st p.isList (x:=u) (by simpa using hu) λh' st' sb=>?_;let I1:Inv X ak Z H {s with heap:=h'}:=I.turned (t':=s.toks) (λb o hb e=>(sb.2 b hb).trans e) f0 f1 f3 f4 f5;let⟨o,e,c,d⟩:=id st';show⟨u,rfl,R7 (s:={s with heap:=h'}) e c d W9 ⟨x,H,I1,ru,⟨rfl,λys hy=>by rw[I.oH hy hq];show hx⟩,st',λb hb=>(hf b hb).1⟩⟩
 done:=by
  intro X hP hw hK hc i ak s Z H E I hf st hg;subst hP hw hK;let⟨xs,hq,hx⟩:=hg;let⟨its,rv,p,hz⟩:=I.list hq;let⟨f0,f1,f2,f3,f4,f5⟩:=hf it Zaa;let hl:=rv.length;show wpAny_pyNext_list_end (I.ok.hd hc) st p.isList (by simp;lia) λh' eb=>⟨rfl,I.turned (t':=s.toks) (λb o hb e=>eb b o hb e) f0 f1 f3 f4 f5⟩
 self:=λ_ _ _ _ _ st h=>wpAny_pyIter_listiter st h
def zfQ{P:Program}{w:World}{K:W.Frag}{tg:Expr}(a it:Addr):Turn P w K tg (R8 K a) [it] it (λi h=>h.IsTupleIter it a i) where
 mem:=by simp
 obj:=λi h st b hb=>by
  let e:b=it:=by simpa using hb
  subst e;let⟨o,e,c,d⟩:=st;show⟨o,e,λv z=>by rw[d]at z;cases z⟩
 keep:=λi h h' st k=>st.at λo e=>k it Zaa o e
 item:=by
  intro X hP hw hK hc i ak s Z H E I hf st hg;subst hP hw hK;let⟨xs,x,hq,hx⟩:=hg;let⟨its,rv,p,hz⟩:=I.tuple hq;let⟨u,hu,ru⟩:=rv.get hx;let⟨f0,f1,f2,f3,f4,f5⟩:=hf it Zaa;show wpAny_pyNext_tuple_item st (show s.heap.IsTuple a its.toArray from p) (x:=u) (by simpa using hu) λh' st' sb=>?_;let I1:Inv X ak Z H {s with heap:=h'}:=I.turned (t':=s.toks) (λb o hb e=>(sb.2 b hb).trans e) f0 f1 f3 f4 f5;let⟨o,e,c,d⟩:=id st';show⟨u,rfl,R7 (s:={s with heap:=h'}) e c d W9 ⟨x,H,I1,ru,⟨rfl,λys hy=>by rw[I.lV hy hq];show hx⟩,st',λb hb=>(hf b hb).1⟩⟩
 done:=by
  intro X hP hw hK hc i ak s Z H E I hf st hg;subst hP hw hK;let⟨xs,hq,hx⟩:=hg;let⟨its,rv,p,hz⟩:=I.tuple hq;let⟨f0,f1,f2,f3,f4,f5⟩:=hf it Zaa;let hl:=rv.length;show wpAny_pyNext_tuple_end (I.ok.hd hc) st (show s.heap.IsTuple a its.toArray from p) (by simp;lia) λh' eb=>⟨rfl,I.turned (t':=s.toks) (λb o hb e=>eb b o hb e) f0 f1 f3 f4 f5⟩
 self:=λ_ _ _ _ _ st h=>wpAny_pyIter_tupleiter st h
def zfU{P:Program}{w:World}{K:W.Frag}{tg:Expr}(it:Addr)(lo:Int)(n:Nat):Turn P w K tg (Im lo n) [it] it (λi h=>IsRangeIter h it (lo+(i:Nat)*1) ((n:Int)-(i:Nat)) 1) where
 mem:=by simp
 obj:=λi h st b hb=>by
  let e:b=it:=by simpa using hb
  subst e;show⟨_,st,λv z=>by
   let z':Data.fields _=Data.cell v:=z;cases z'⟩
 keep:=λi h h' st k=>k it Zaa _ st
 item:=by
  intro X hP hw hK hc i ak s Z H E I hf st hg;subst hP hw hK;let⟨f0,f1,f2,f3,f4,f5⟩:=hf it Zaa;let W:=Walks.range (prog:=X.prog) (w:=X.w) (I.ok.hd hc) it lo 1 n;show W.item i s _ _ hg st λv h' tk hv st' kk=>?_;let⟨t,rfl⟩:=hv;let I1:Inv X ak Z H {s with heap:=h',toks:=tk}:=I.turned (λb o hb e=>kk b o (by simpa using hb) e) f0 f1 f3 f4 f5;show⟨_,rfl,R7 (s:={s with heap:=h',toks:=tk}) (n:="range_iterator") st' rfl rfl W9 ⟨.int (lo+i),H,I1,⟨t,?_⟩,⟨rfl,rfl⟩,st',λb hb=>(hf b hb).1⟩⟩;rw[Int.mul_one]
 done:=by
  intro X hP hw hK hc i ak s Z H E I hf st hg;subst hP hw hK;let⟨f0,f1,f2,f3,f4,f5⟩:=hf it Zaa;show wpAny_pyNext_range_end (I.ok.hd hc) st (by let:n<=i:=hg;lia) λh' eb=>⟨rfl,I.turned (t':=s.toks) (λb o hb e=>eb b o hb e) f0 f1 f3 f4 f5⟩
 self:=λ_ _ _ _ _ st h=>wpAny_pyIter_rangeiter st h
section
variable {X:Cx}{tg:Expr}
def Y7{ak:List (Addr×Obj)}{Z:St}{H:Hp}{s:Shared}{R:It->Hp->Prop}{E:Value->Shared->Prop}{lo hi:Int}{t u v:Tok}{tk:Nat}(I:Inv X ak Z H s)(h1 : -(2^62)<=lo)(h2:lo<2^62)(h3 : -(2^62)<=hi)(h4:hi<2^62)
  (q:R (Im lo (hi-lo).toNat) H):wpAny (model X.prog X.w) X.A (pyIter (.ref s.heap.objs.size)) (PIE X ak Z tg R) E {s with heap:=s.heap.push {cls:=.type "range",data:=.fields #[.int lo t,.int hi u,.int 1 v]},toks:=tk}:=by
 show wpAny_pyIter_range (IsRange.new ..) (small_one h1 h2 h3 h4) ?_;let I1:Inv X ak Z H {s with heap:=s.heap.push {cls:=.type "range",data:=.fields #[.int lo t,.int hi u,.int 1 v]},toks:=tk}:=I.kept λb o e=>bM _ e;show⟨(s.heap.push {cls:=.type "range",data:=.fields #[.int lo t,.int hi u,.int 1 v]}).objs.size,[(s.heap.push {cls:=.type "range",data:=.fields #[.int lo t,.int hi u,.int 1 v]}).objs.size],_,_,H,rfl,
  I1.kept (t':=tk) λb o e=>bM _ e,zfU _ lo (hi-lo).toNat,?_,λb hb=>?_,q⟩
 .let e1:lo+((0:Nat):Int)*1=lo:=by simp
  let e2:(((hi-lo).toNat:Nat):Int)-((0:Nat):Int)=Builtin.Range.rangeSize lo hi 1:=by rw[rangeSize_one];split<;>lia
  change IsRangeIter _ _ (lo+((0:Nat):Int)*1) ((((hi-lo).toNat:Nat):Int)-((0:Nat):Int)) 1;rw[e1,e2];show fW _ rfl
 .let e:b=(s.heap.push {cls:=.type "range",data:=.fields #[.int lo t,.int hi u,.int 1 v]}).objs.size:=by simpa using hb
  subst e;show I1.uW (bK _) (I1.hok.fresh (bK _))
def Io(ta:TA):TI:=λZ H R=>ta Z H λvs H1=>∃j:Int,vs=[.int j]/\-(2^62)<=j/\j<2^62/\R (Im 0 j.toNat) H1
def Ip(ta:TA):TI:=λZ H R=>ta Z H λvs H1=>∃i j:Int,vs=[.int i,.int j]/\(-(2^62)<=i/\i<2^62/\-(2^62)<=j/\j<2^62)/\R (Im i (j-i).toNat) H1
def zgo{a:Expr}{ta:TA}{p pos:Pos}(hg:Gl X "range")(hm:X.mg "range"=none)(ha:PA X [a] ta)(hs:starEach [a] X.env=[(false,eval a X.env)]:=by rfl):PI X tg (.Call (.Name "range" p) [a] [] pos) (Io ta):=by
 intro ak s Z H R I h;show Call_ (yu I hg hm boot_range (FQ (bf (ha pos ak s Z H _ I h) λus s1 hx=>eU hx λvs H1 I1 r1 q1=>?_) hs rfl));let⟨j,e,q1,q2,q⟩:=q1;subst e;cases r1 with
 |cons r rr=>
  cases rr;let⟨t,rfl⟩:=r;show call_range_1 (Y7 I1 gV gV q1 q2 (by simpa using q))
def zgu{a b:Expr}{ta:TA}{p pos:Pos}(hg:Gl X "range")(hm:X.mg "range"=none)(ha:PA X [a,b] ta)(hs:starEach [a,b] X.env=[(false,eval a X.env),(false,eval b X.env)]:=by rfl)(Ir:starEach [b] X.env=[(false,eval b X.env)]:=by rfl) :
  PI X tg (.Call (.Name "range" p) [a,b] [] pos) (Ip ta):=by
 intro ak s Z H R I h;show Call_ (yu I hg hm boot_range (FQ (bf (ha pos ak s Z H _ I h) λus s1 hx=>eU hx λvs H1 I1 r1 q1=>?_) (by rw[hs,Ir]) (by rw[Ir];rfl)));let⟨i,j,e,⟨q1,q2,q3,q4⟩,q⟩:=q1;subst e;cases r1 with
 |cons r rr=>
  cases rr with
  |cons r' rr=>
   cases rr;let⟨t,rfl⟩:=r;let⟨t',rfl⟩:=r';show call_range_2 (Y7 I1 q1 q2 q3 q4 q)
def R9(wi:TI)(g:TG)(tb:TS):TS:=λD Z H=>wi Z H λcj H1=>∃W:Nat->Nat->St->Hp->Prop,(∃m,W 0 m Z H1)/\∀i m Z H,W i m Z H->
 (cj.stop i H/\D.nx Z H)\/(cj.go i H/\∃N:St->Hp->Prop,(∀Z' H',N Z' H'->∃m',m'<m/\W (i+1) m' Z' H')/\∀x H',cj.Cz i H x H'->g x Z H' λZ2 H2=>tb {D with nx:=N,ct:=N,bk:=D.nx} Z2 H2)
def kJ(fp:List Addr)(h:Heap):List (Addr×Obj):=fp.filterMap λb=>(h.get? b).map λo=>(b,o)
theorem Oi{fp:List Addr}{h:Heap}{b:Addr}{o:Obj}(hb:b∈fp)(e:h.get? b=some o):(b,o)∈kJ fp h:=Ni.mpr ⟨b,hb,by rw[e];rfl⟩
def zgR{fp:List Addr}{h:Heap}{p:Addr×Obj}(hp:p∈kJ fp h):p.1∈fp/\h.get? p.1=some p.2:=by
 let⟨b,hb,e⟩:=Ni.mp hp;cases q:h.get? b with
 |none=>rw[q]at e;cases e|some o=>
  rw[q]at e;let e':(b,o)=p:=dD e;subst e';show⟨hb,q⟩
theorem Inv.pinned{ak:List (Addr×Obj)}{Z:St}{H:Hp}{s:Shared}{fp:List Addr}(I:Inv X ak Z H s)(hf:∀b∈fp,iW X ak H b)(ho:∀b∈fp,∃o,s.heap.get? b=some o/\∀v,o.data≠.cell v):Inv X (ak++kJ fp s.heap) Z H s:=
 I.mU λp hp=>(gA.mp hp).elim (λz=>I.pin p (pP _ z)) λz=>by
  let⟨hb,e⟩:=zgR z;let⟨f0,f1,f2,_⟩:=hf p.1 hb;let⟨o,e',d⟩:=ho p.1 hb;rw[e]at e';cases e';show⟨e,f0,f1,f2,d⟩
theorem Inv.iu{ak pl:List (Addr×Obj)}{Z:St}{H:Hp}{s:Shared}(I:Inv X (ak++pl) Z H s):Inv X ak Z H s:=I.mU λp hp=>I.pin p (pP _ (uc _ hp))
def zma{iter:Expr}{body:List Stmt}{wi:TI}{g:TG}{tb:TS}{pos:Pos}(hp:PassesOwn (model X.prog X.w) X.A X.env X.xe)(hc:X.aj=true)(hi:PI X tg iter wi)(hg:PG X tg g)(hb:pD X body tb)
  (hs:∀x,foldedSetIterable iter X.env x=pure x:=by intro _;rfl):PS X (.For tg iter body [] pos) (R9 wi g tb):=by
 intro ak s Z H D I h;show wpAny_For (bf (hi ak s Z H _ I h) λv s1 h1=>bf h1 λitv s2 h2=>?_) hs;let⟨it,fp,tn,cj,H2,e,I2,T,st2,f2,W,⟨m0,w0⟩,turn⟩:=h2;subst e;let stat:∀{H':Hp},(∀b∈fp,H' b=none)->∀b∈fp,iW X ak H' b:=λhn b hb=>⟨hn b hb,(f2 b hb).2⟩;show codeAny_forLoop_any (λn s'=>∃i Z' H',Inv X ak Z' H' s'/\tn i s'.heap/\(∀b∈fp,H' b=none)/\W i n Z' H') ?_ m0 ⟨0,Z,H2,I2,st2,λb hb=>(f2 b hb).1,w0⟩;rintro n s3 ⟨i,Z3,H3,I3,st3,Y8,w3⟩;rcases turn i n Z3 H3 w3 with ⟨stop,qn⟩|⟨go,N,hN,step⟩
 .refine Hx hp (bf (T.done X rfl rfl rfl hc i ak s3 Z3 H3 X.xe I3 (stat Y8) st3 stop) λr s4 ⟨hr,I4⟩=>?_);subst hr;show Ny ⟨Z3,H3,I4,qn⟩
 .refine Hx hp (bf (T.item X rfl rfl rfl hc i ak s3 Z3 H3 X.xe I3 (stat Y8) st3 go) λr s4 hx=>yh hx λu hr h4=>?_);subst hr;show Hx hp (bf h4 λ_ s5 hz=>?_);let⟨x,H5,I5,r5,y5,Gv,Oj⟩:=hz;let I5':=I5.pinned (stat Oj) (T.obj _ _ Gv);show Hx hp (bf (hg _ s5 Z3 H5 x u _ I5' r5 (step x H5 y5)) λ_ s6 hz=>?_);let⟨Z6,H6,I6,q6⟩:=hz;show Hx hp (bf (hb _ s6 Z6 H6 _ I6 q6) λf s7 q7=>?_);let again:∀{Z7:St} {H7:Hp},Inv X (ak++kJ fp s5.heap) Z7 H7 s7->N Z7 H7->∃m,m<n/\∃i Z' H',Inv X ak Z' H' s7/\tn i s7.heap/\(∀b∈fp,H' b=none)/\W i m Z' H':=λ{Z7 H7} I7 n7=>by
   let⟨m',hm,w7⟩:=hN Z7 H7 n7;show⟨m',hm,i+1,Z7,H7,I7.iu,T.keep _ _ _ Gv λb hb o e=>(I7.pin (b,o) (pP _ (pP _ (Oi hb e)))).1,λb hb=>?_,w7⟩;let⟨o,e,d⟩:=T.obj _ _ Gv b hb;show(I7.pin (b,o) (pP _ (pP _ (Oi hb e)))).2.1
  cases f with
  |next=>let⟨Z7,H7,I7,n7⟩:=q7;show again I7 n7|cont=>let⟨Z7,H7,I7,n7⟩:=q7;show again I7 n7|brk=>let⟨Z7,H7,I7,q7⟩:=q7;show⟨Z7,H7,I7.iu,q7⟩|ret v=>let⟨x7,Z7,H7,I7,r7,q7⟩:=q7;show⟨x7,Z7,H7,I7.iu,r7,q7⟩
end
noncomputable abbrev R2:=V->V->Hp->VK->Prop
def dj(X:Cx)(f:Value->Value->Sem Value)(r:R2):Prop:=
 ∀(ak:List (Addr×Obj)) (s:Shared) (Z:St) (H:Hp) (x y:V) (v u:Value) (Q:VK),Inv X ak Z H s->RelV x v->RelV y u->r x y H Q->
  wpAny (model X.prog X.w) X.A (f v u) (EP X ak Z Q) X.xe s
def Ol(X:Cx)(f:Value->Sem Value)(r:V->Hp->VK->Prop):Prop:=
 ∀(ak:List (Addr×Obj)) (s:Shared) (Z:St) (H:Hp) (x:V) (v:Value) (Q:VK),Inv X ak Z H s->RelV x v->r x H Q->
  wpAny (model X.prog X.w) X.A (f v) (EP X ak Z Q) X.xe s
def dG(X:Cx)(f:Value)(r:List V->Hp->VK->Prop):Prop:=
 ∀(ak:List (Addr×Obj)) (s:Shared) (Z:St) (H:Hp) (xs:List V) (us:List Value) (Q:VK),Inv X ak Z H s->Vals xs us->r xs H Q->
  wpAny (model X.prog X.w) X.A (call f us) (EP X ak Z Q) X.xe s
def Om(r:R2)(ta tb:TE):TE:=λZ H Q=>ta Z H λx H1=>tb Z H1 λy H2=>r x y H2 Q
def tUn(r:V->Hp->VK->Prop)(ta:TE):TE:=λZ H Q=>ta Z H λx H1=>r x H1 Q
def rI(C:Int->Int->Prop)(g:Int->Int->V):R2:=λx y H Q=>∃i j,x=.int i/\y=.int j/\C i j/\Q (g i j) H
def pX(g:Int->Int->V):R2:=λx y H Q=>∃i j,x=.int i/\y=.int j/\Q (g i j) H
def rU(g:Int->V):V->Hp->VK->Prop:=λx H Q=>∃i,x=.int i/\Q (g i) H
section
variable {X:Cx}{a b c:Expr}{ta tb tc:TE}{pos:Pos}
def CG(ha:PE X a ta)(hb:PE X b tb){ak:List (Addr×Obj)}{s:Shared}{Z:St}{H:Hp}{R:V->V->Hp->Prop}(I:Inv X ak Z H s)
  (h:ta Z H λx H1=>tb Z H1 λy H2=>R x y H2) {Q:Value->Shared->Prop} {f:Value->Value->Sem Value}
  (hf:∀v u s2 x y H2,Inv X ak Z H2 s2->RelV x v->RelV y u->R x y H2->wpAny (model X.prog X.w) X.A (f v u) Q X.xe s2) :
  wpAny (model X.prog X.w) X.A (eval a X.env) (λv s₁=>wpAny (model X.prog X.w) X.A (eval b X.env) (λu s₂=>wpAny (model X.prog X.w) X.A (f v u) Q X.xe s₂) X.xe s₁) X.xe s:=by
 show bf (ha ak s Z H _ I h) λv s1 hx=>eU hx λx H1 I1 r1 q1=>?_;show bf (hb ak s1 Z H1 _ I1 q1) λu s2 hx=>eU hx λy H2 I2 r2 q2=>?_;show hf v u s2 x y H2 I2 r1 r2 q2
def zou{op:Operator}{r:R2}(ho:dj X (binaryOp op) r)(ha:PE X a ta)(hb:PE X b tb):PE X (.BinOp a op b pos) (Om r ta tb):=by
 intro ak s Z H Q I h;show wpAny_BinOp (CG ha hb I h λv u s2 x y H2 I2 rx ry q=>ho ak s2 Z H2 x y v u Q I2 rx ry q)
def Y9{op:UnaryOp}{r:V->Hp->VK->Prop}(ho:Ol X (unaryOp op) r)(ha:PE X a ta):PE X (.UnaryOp op a pos) (tUn r ta):=by
 intro ak s Z H Q I h;show UnaryOp_ (bf (ha ak s Z H _ I h) λv s1 hx=>eU hx λx H1 I1 r1 q1=>ho ak s1 Z H1 x v Q I1 r1 q1)
def Oo{f:Value->Value->Sem Value}{C:Int->Int->Prop}{g:Int->Int->Int}
  (rule:∀(i j:Int) (t u:Tok) (s:Shared) (Q:Value->Shared->Prop) (E:Value->Shared->Prop),C i j->Q (.int (g i j) s.toks) {s with toks:=s.toks+1}->wpAny (model X.prog X.w) X.A (f (.int i t) (.int j u)) Q E s) :
  dj X f (rI C λi j=>.int (g i j)):=by
 intro ak s Z H x y v u Q I rx ry h;let⟨i,j,rfl,rfl,hc,q⟩:=h;let⟨t,rfl⟩:=rx;let⟨t',rfl⟩:=ry;show rule i j t t' s _ _ hc ⟨.int (g i j),H,I.tok _,⟨_,rfl⟩,q⟩
def Iu{f:Value->Value->Sem Value}{g:Int->Int->Int}
  (rule:∀(i j:Int) (t u:Tok) (s:Shared) (Q:Value->Shared->Prop) (E:Value->Shared->Prop),Q (.int (g i j) s.toks) {s with toks:=s.toks+1}->wpAny (model X.prog X.w) X.A (f (.int i t) (.int j u)) Q E s) :
  dj X f (pX λi j=>.int (g i j)):=by
 intro ak s Z H x y v u Q I rx ry h;let⟨i,j,rfl,rfl,q⟩:=h;let⟨t,rfl⟩:=rx;let⟨t',rfl⟩:=ry;show rule i j t t' s _ _ ⟨.int (g i j),H,I.tok _,⟨_,rfl⟩,q⟩
def yD{f:Value->Value->Sem Value}{g:Int->Int->Bool}
  (rule:∀(i j:Int) (t u:Tok) (s:Shared) (Q:Value->Shared->Prop) (E:Value->Shared->Prop),Q (.bool (g i j)) s->wpAny (model X.prog X.w) X.A (f (.int i t) (.int j u)) Q E s) :
  dj X f (pX λi j=>.bl (g i j)):=by
 intro ak s Z H x y v u Q I rx ry h;let⟨i,j,rfl,rfl,q⟩:=h;let⟨t,rfl⟩:=rx;let⟨t',rfl⟩:=ry;show rule i j t t' s _ _ ⟨.bl (g i j),H,I,rfl,q⟩
def yE(i j:Int):Prop:=0<j/\j<1073741824
def Iv(i j:Int):Prop:=0<=j/\j<=1000000/\i.natAbs<2^64
def yF(i j:Int):Prop:=(-(2^64)<i/\i<2^64)\/(-(2^64)<j/\j<2^64)
def yF.ok{i j:Int}(h:yF i j):IntMulOk i j:=by
 rcases h with ⟨h1,h2⟩|⟨h1,h2⟩
 .exact .of_left (intBits_le_64 h1 h2)
 .exact .of_right (intBits_le_64 h1 h2)
theorem CJ:dj X (binaryOp .Add) (pX λi j=>.int (i+j)):=Iu λ_ _ _ _ _ _ _ q=>add_int q
theorem zmo:dj X (binaryOp .Sub) (pX λi j=>.int (i-j)):=Iu λ_ _ _ _ _ _ _ q=>sub_int q
theorem zlx:dj X (binaryOp .Mult) (rI yF λi j=>.int (i*j)):=Oo λ_ _ _ _ _ _ _ hc q=>mul_int q hc.ok
theorem zkP:dj X (binaryOp .FloorDiv) (rI yE λi j=>.int (i/j)):=Oo λi j _ _ _ _ _ hc q=>by
 let h1:(0:Int)<j:=hc.1;let h2:j<1073741824:=hc.2;show floordiv_int gV (by rw[Int.fdiv_eq_ediv_of_nonneg i gV];show q) (.inl (PyProof.noPylong_small Bd))
theorem znb:dj X (binaryOp .Mod) (rI (λ_ j=>0<j) λi j=>.int (i%j)):=Oo λi j _ _ _ _ _ hc q=>by
 let h1:(0:Int)<j:=hc;show mod_int' gV (by rw[Int.fmod_eq_emod_of_nonneg i gV];show q)
theorem zmX:dj X (binaryOp .Pow) (rI Iv λi j=>.int (i^j.toNat)):=Oo λ_ _ _ _ _ _ _ hc q=>pow_int_small hc.1 hc.2.1 hc.2.2 q
def unI{f:Value->Sem Value}{g:Int->Int}
  (rule:∀(i:Int) (t:Tok) (s:Shared) (Q:Value->Shared->Prop) (E:Value->Shared->Prop),Q (.int (g i) s.toks) {s with toks:=s.toks+1}->wpAny (model X.prog X.w) X.A (f (.int i t)) Q E s) :
  Ol X f (rU λi=>.int (g i)):=by
 intro ak s Z H x v Q I rx h;let⟨i,rfl,q⟩:=h;let⟨t,rfl⟩:=rx;show rule i t s _ _ ⟨.int (g i),H,I.tok _,⟨_,rfl⟩,q⟩
theorem Y_:Ol X (unaryOp .USub) (rU λi=>.int (-i)):=unI λ_ _ _ _ _ q=>neg_int q
end
section
variable {X:Cx}{a b c:Expr}{ta tb tc:TE}{pos:Pos}
theorem Iw:dj X (compareOp .Lt) (pX λi j=>.bl (decide (i<j))):=yD λ_ _ _ _ _ _ _ q=>lt_int q
theorem zoD:dj X (compareOp .LtE) (pX λi j=>.bl (decide (i<=j))):=yD λ_ _ _ _ _ _ _ q=>le_int q
theorem zoP:dj X (compareOp .Gt) (pX λi j=>.bl (decide (j<i))):=yD λ_ _ _ _ _ _ _ q=>gt_int q
theorem zov:dj X (compareOp .GtE) (pX λi j=>.bl (decide (j<=i))):=yD λ_ _ _ _ _ _ _ q=>ge_int q
def dj.or{f:Value->Value->Sem Value}{r r':R2}(h:dj X f r)(h':dj X f r'):dj X f (λx y H Q=>r x y H Q\/r' x y H Q):=by
 intro ak s Z H x y v u Q I rx ry q;rcases q with q|q
 .exact h ak s Z H x y v u Q I rx ry q
 .exact h' ak s Z H x y v u Q I rx ry q
def zkD{op:CmpOp}{r:R2}(ho:dj X (compareOp op) r)(ha:PE X a ta)(hb:PE X b tb)(hm:behindInMarks op b=false):PE X (.Compare a [op] [b] pos) (Om r ta tb):=by
 intro ak s Z H Q I h;show wpAny_Compare1 (CG ha hb I h λv u s2 x y H2 I2 rx ry q=>ho ak s2 Z H2 x y v u Q I2 rx ry q) hm
def Af(t:TE):TT:=λZ H Q=>t Z H λx H'=>∃k,x=.bl k/\Q k H'
def zkk{op:CmpOp}{r:R2}(ho:dj X (compareOp op) r)(ha:PE X a ta)(hb:PE X b tb)(hm:behindInMarks op b=false):PT X (.Compare a [op] [b] pos) (Af (Om r ta tb)):=by
 intro ak s Z H Q I h;show wpAny_isTrue_Compare1 (bf (ha ak s Z H _ I h) λv s1 hx=>eU hx λx H1 I1 r1 q1=>bf (hb ak s1 Z H1 _ I1 q1) λu s2 hx=>eU hx λy H2 I2 r2 q2=>
  bf (ho ak s2 Z H2 x y v u _ I2 r1 r2 q2) λc s3 hx=>Aa hx λz H3 I3 r3 k e q3=>?_) hm
 subst e;cases r3;show uf ⟨H3,I3,q3⟩
def uX(r r':R2)(ta tb tc:TE):TE:=λZ H Q=>ta Z H λx H1=>tb Z H1 λy H2=>r x y H2 λz H3=>∃k,z=.bl k /\
 (if k=true then tc Z H3 λw' H4=>r' y w' H4 Q else Q (.bl false) H3)
def zh5{op op':CmpOp}{r r':R2}(ho:dj X (compareOp op) r)(kI:dj X (compareOp op') r')(ha:PE X a ta)(hb:PE X b tb)(hc:PE X c tc)
  (hm:lastMarks [op,op'] [b,c]=false:=by with_unfolding_all rfl):PE X (.Compare a [op,op'] [b,c] pos) (uX r r' ta tb tc):=by
 intro ak s Z H Q I h;show Compare_chain (bf (ha ak s Z H _ I h) λv s1 hx=>eU hx λx H1 I1 r1 q1=>chain_link (bf (hb ak s1 Z H1 _ I1 q1) λu s2 hx=>eU hx λy H2 I2 r2 q2=>
  bf (ho ak s2 Z H2 x y v u _ I2 r1 r2 q2) λd s3 hx=>Aa hx λz H3 I3 r3 k e q3=>?_)) hm
 subst e;cases r3;show uf ?_;cases k with
 |false=>show ite_ff ⟨.bl false,H3,I3,rfl,q3⟩|true=>show ite_tt (chain_last (bf (hc ak s3 Z H3 _ I3 q3) λw' s4 hx=>eU hx λz' H4 I4 r4 q4=>kI ak s4 Z H4 y z' u w' Q I4 r2 r4 q4))
def zhY{op op':CmpOp}{r r':R2}(ho:dj X (compareOp op) r)(kI:dj X (compareOp op') r')(ha:PE X a ta)(hb:PE X b tb)(hc:PE X c tc)
  (hm:lastMarks [op,op'] [b,c]=false:=by with_unfolding_all rfl):PT X (.Compare a [op,op'] [b,c] pos) (Af (uX r r' ta tb tc)):=by
 intro ak s Z H Q I h;show isTrue_chain (bf (ha ak s Z H _ I h) λv s1 hx=>eU hx λx H1 I1 r1 q1=>test_link (bf (hb ak s1 Z H1 _ I1 q1) λu s2 hx=>eU hx λy H2 I2 r2 q2=>
  bf (ho ak s2 Z H2 x y v u _ I2 r1 r2 q2) λd s3 hx=>Aa hx λz H3 I3 r3 k e q3=>?_)) hm
 subst e;cases r3;show uf ?_;cases k with
 |false=>
  let⟨k',e',q'⟩:=q3;cases e';show ite_ff ⟨H3,I3,q'⟩
 |true=>
  show ite_tt (test_last (bf (hc ak s3 Z H3 _ I3 q3) λw' s4 hx=>eU hx λz' H4 I4 r4 q4=>bf (kI ak s4 Z H4 y z' u w' _ I4 r2 r4 q4) λd' s5 hx=>Aa hx λz2 H5 I5 r5 k2 e2 q5=>?_));subst e2;cases r5;show uf ⟨H5,I5,q5⟩
def iY:(sizeLine:Nat)<2^63:=by rw[uM];decide
def zfS:dj X (binaryOp .Add) (λx y H Q=>∃i j,x=.str i/\y=.str j/\i.length+j.length<=sizeLine/\Q (.str (i++j)) H):=by
 intro ak s Z H x y v u Q I rx ry h;let⟨i,j,rfl,rfl,hz,q⟩:=h;let⟨t,rfl⟩:=rx;let⟨t',rfl⟩:=ry;show add_str (λt' tk=>⟨.str (i++j),H,I.tok _,⟨_,rfl⟩,q⟩) hz
def vals1{x:V}{us:List Value}(r:Vals [x] us):∃u,us=[u]/\RelV x u:=by
 cases r with
 |cons r1 r2=>cases r2;show⟨_,rfl,r1⟩
def vals2{x y:V}{us:List Value}(r:Vals [x,y] us):∃u w',us=[u,w']/\RelV x u/\RelV y w':=by
 cases r with
 |cons r1 r2=>
  cases r2 with
  |cons r3 r4=>cases r4;show⟨_,_,rfl,r1,r3⟩
def zf8(hc:X.aj=true):dG X (.builtin "max") (λxs H Q=>∃i j,xs=[.int i,.int j]/\Q (.int (if j>i then j else i)) H):=by
 intro ak s Z H xs us Q I r h;let⟨i,j,rfl,q⟩:=h;let⟨u,w',rfl,⟨t,rfl⟩,⟨t',rfl⟩⟩:=vals2 r;show max_two_ints (I.ok.hd hc) λh' tk k=>⟨_,H,I.kept k,?_,q⟩;by_cases hj:j>i
 .rw[if_pos hj,if_pos hj];show⟨_,rfl⟩
 .rw[if_neg hj,if_neg hj];show⟨_,rfl⟩
def zg3:dG X (.type "int") (λxs H Q=>(∃i,xs=[.int i]/\Q (.int i) H)\/∃k,xs=[.bl k]/\Q (.int (if k then 1 else 0)) H):=by
 intro ak s Z H xs us Q I r h;rcases h with ⟨i,rfl,q⟩|⟨k,rfl,q⟩
 .obtain⟨u,rfl,t,rfl⟩:=vals1 r;show call_int_int ⟨.int i,H,I,⟨_,rfl⟩,q⟩
 .obtain⟨u,rfl,r1⟩:=vals1 r;cases r1;show call_int_bool ⟨.int (if k then 1 else 0),H,I.tok _,⟨_,rfl⟩,q⟩
def zey:dG X (.builtin "divmod") (λxs H Q=>∃i j,xs=[.int i,.int j]/\yE i j/\∀p,H p=none->Q (.ref p) (upd H p (.tup [.int (i/j),.int (i%j)]))):=by
 intro ak s Z H xs us Q I r h;let⟨i,j,rfl,⟨h1,h2⟩,q⟩:=h;let⟨u,w',rfl,⟨t,rfl⟩,⟨t',rfl⟩⟩:=vals2 r;show divmod_int gV ?_ (.inl (PyProof.noPylong_small Bd));rw[Int.fdiv_eq_ediv_of_nonneg i gV,Int.fmod_eq_emod_of_nonneg i gV];let hn:H s.heap.objs.size=none:=I.hok.fresh (bK _);show⟨.ref s.heap.objs.size,_,?_,rfl,q _ hn⟩;show I.laid (λb o e=>bM _ e) (bK _) ⟨by simp only[eN,pQ];rw[uM];decide,[.int (i/j) s.toks,.int (i%j) (s.toks+1)],.cons ⟨_,rfl⟩ (.cons ⟨_,rfl⟩ .nil),?_⟩;show⟨_,fW s.heap rfl,rfl,0,rfl,rfl⟩
end
section
variable {X:Cx}{ak:List (Addr×Obj)}{Z:St}{H:Hp}{s:Shared}{a C dx:Addr}{fs:List (Str×V)}{f:Str}{v:V}{A:Around}{E:Value->Shared->Prop}
theorem zkE{prog:Program}{w:World}{env:Env}{e:Expr}{f:Str}{pos:Pos}{s:Shared}{Q:Value->Shared->Prop}(hb:attributeBase e f env (eval e env)=eval e env)
  (h:wpAny (model prog w) A (eval e env) (λo s₁=>wpAny (model prog w) A (getAttr o f true) Q E s₁) E s):wpAny (model prog w) A (eval (.Attribute e f pos) env) Q E s:=
 Attribute_any_ h (by rw[arm_eval_Attribute,hb])
end
structure bT(k:Nat)(A:Around):Prop where
 dp:A.depth+3*k+5<recursionLimit
 un:A.units+16*k+200<cLine
 gd:A.guards=some []
theorem bT.deeper{k:Nat}{A:Around}(r:bT (k+1) A)(env:Env):bT k (A.deeper env):=
 ⟨by let:=r.dp;change A.depth+1+3*k+5<_;lia,by let:=r.un;change A.units+3+16*k+200<_;lia,r.gd⟩
def bT.depth{k:Nat}{A:Around}(r:bT k A):A.depth<recursionLimit:=by let:=r.dp;lia
def CK:TA:=λ_ H Q=>Q [] H
def qT(ta:TE)(tr:TA):TA:=λZ H Q=>ta Z H λx H1=>tr Z H1 λxs H2=>Q (x::xs) H2
section
variable {X:Cx}{e:Expr}{es:List Expr}{te:TE}{t:TA}{pos:Pos}
theorem wK:PA X [] CK:=λ_ _ _ _ H Q I h=>Calls.spliced_nil ⟨[],H,I,.nil,h⟩
def pY(ha:PE X e te)(hr:PA X es t)(hs:starEach (e::es) X.env=(false,eval e X.env)::starEach es X.env:=by rfl):PA X (e::es) (qT te t):=by
 intro pos ak s Z H Q I h;rw[hs];change wpAny _ _ (spliced ((false,eval e X.env)::backTo pos (starEach es X.env))) _ _ s;show Calls.spliced_cons (bf (ha ak s Z H _ I h) λu s1 hx=>eU hx λx H1 I1 r1 q1=>?_);show bf (hr pos ak s1 Z H1 _ I1 q1) λus s2 hx=>eU hx λxs H2 I2 r2 q2=>⟨x::xs,H2,I2,.cons r1 r2,q2⟩
def Iz(t:TA):TE:=λZ H Q=>t Z H λxs H1=>xs.length<=sizeLine/\∀p,H1 p=none->Q (.ref p) (upd H1 p (.tup xs))
def R_(t:TA):TE:=λZ H Q=>t Z H λxs H1=>xs.length<=sizeLine/\∀p,H1 p=none->Q (.ref p) (upd H1 p (.lst xs))
def Za{x1}(h:PA X es t):PE X (.Tuple es x1 pos) (Iz t):=by
 intro ak s Z H Q I hq;show wpAny_Tuple_spliced (bf (h pos ak s Z H _ I hq) λus s1 ⟨xs,H1,I1,r,z,q⟩=>⟨by rw[<-r.length];show z,?_⟩);let hf:H1 s1.heap.objs.size=none:=I1.hok.fresh (bK _);show⟨.ref s1.heap.objs.size,upd H1 s1.heap.objs.size (.tup xs),I1.laid (t':=s1.toks) (λb u e=>bM _ e) (bK _) ?_,rfl,q _ hf⟩;show⟨z,us,r,⟨_,fW _ rfl,rfl,_,rfl,rfl⟩⟩
def zlO(h:PA X es t):PE X (.List es pos) (R_ t):=by
 intro ak s Z H Q I hq;show wpAny_List_spliced (bf (h pos ak s Z H _ I hq) λus s1 ⟨xs,H1,I1,r,z,q⟩=>⟨by rw[<-r.length];show z,?_⟩);let hf:H1 s1.heap.objs.size=none:=I1.hok.fresh (bK _);show⟨.ref s1.heap.objs.size,upd H1 s1.heap.objs.size (.lst xs),I1.laid (t':=s1.toks) (λb u e=>bM _ e) (bK _) ?_,rfl,q _ hf⟩;show⟨z,us,0,r,fW _ rfl⟩
end
noncomputable abbrev Sp:=List V->Hp->VK->XK->Prop
noncomputable abbrev uq:=List Env->Hp->Shared->XK->Value->Shared->Prop
structure yG(P:Program)(w:World)(K:W.Frag)(mg:Str->Option Value)(base:Heap)(A:Around)(outer:List Env)(s:Shared)(H:Hp):Prop where
 frames:A.frames=some outer
 mod:Mod K mg base
 bs:∀b o,base.get? b=some o->s.heap.get? b=some o/\H b=none
 Ac:base.objs.size<=s.heap.objs.size
 kE:s.heap.FunFrames base outer
 Gu:∀b∈frs outer,H b=none
 hok:g8 P w H s.heap
 bare:AllBare s.gens
def CE(outer:List Env)(P:Program)(w:World)(H:Hp)(s:Shared)(Q:VK)(u:Value)(s':Shared):Prop:=
 ∃v H',s'.os=s.os/\AllBare s'.gens/\Un (frs outer) [] H H' s.heap s'.heap/\g8 P w H' s'.heap/\RelV v u/\Q v H'
def CR(CX:uq)(outer:List Env)(P:Program)(w:World)(H:Hp)(s:Shared)(Q:VK)(E:XK)(r:Result)(s':Shared):Prop:=
 match r with
 |.ok (.ret u)=>CE outer P w H s Q u s'|.ok _=>False|.error e=>CX outer H s E e s'
structure fM(P:Program)(w:World)(K:W.Frag)(mg:Str->Option Value)(base:Heap)(CX:uq)(cm:Bool)(k:Nat)(f:Addr)(fd:FuncData)(ps:List Str)(sp:Sp):Prop where
 len:∀vs H Q E,sp vs H Q E->vs.length=ps.length
 run:∀(A:Around) (outer:List Env) (s:Shared) (H:Hp) (args:Args) (us:List Value) (vs:List V) (Q:VK) (E:XK),(cm=true->A.handled=none)->bT k A->yG P w K mg base A outer s H->BindsTo s fd args (ps.zip us)->Vals vs us->sp vs H Q E->
  codeAny (model P w) A (.call (.ref f) args) (CR CX outer P w H s Q E) s
theorem fM.imp{P:Program}{w:World}{K:W.Frag}{mg:Str->Option Value}{base:Heap}{CX:uq}{cm:Bool}{k:Nat}{f:Addr}{fd:FuncData}{ps:List Str}{sp Zb:Sp}(F:fM P w K mg base CX cm k f fd ps sp)
  (h:∀vs H Q E,Zb vs H Q E->sp vs H Q E):fM P w K mg base CX cm k f fd ps Zb:=
 ⟨λvs H Q E q=>F.len vs H Q E (h _ _ _ _ q),λA outer s H args us vs Q E sU hr he hb hv hs=>F.run A outer s H args us vs Q E sU hr he hb hv (h _ _ _ _ hs)⟩
section
variable {X:Cx}{ak:List (Addr×Obj)}{Z:St}{H:Hp}{s s':Shared}
theorem Inv.env0(I:Inv X ak Z H s):yG X.prog X.w X.K X.mg X.base X.A X.stack s H:=
 ⟨I.ok.frames,I.ok.mod,I.bs,jx I.ok.Ac I.sz,I.stack,I.jT,I.hok,I.bare⟩
def Inv.after{Q:VK}{u:Value}(I:Inv X ak Z H s)(h:CE X.stack X.prog X.w H s Q u s'):EP X ak Z Q u s':=by
 let⟨v,H',os,bare,un,hok,r,q⟩:=h;let⟨hh,g,d,t,os'⟩:=s';obtain rfl:os'=s.os:=os;show⟨v,H',I.call (h':=hh) (g':=g) (d':=d) (t':=t) (ch:=[]) un hok bare (λb z=>absurd z Zaa),r,q⟩
end
def Binds(K:W.Frag)(fd:FuncData)(ps:List Str)(ds:List Value):Prop:=
 ∀(s:Shared) (us:List Value),K.In s.heap->(us++ds).length=ps.length->BindsTo s fd ⟨us,[]⟩ (ps.zip (us++ds))
theorem Binds.all{K:W.Frag}{fd:FuncData}{ps:List Str}(h:∀us:List Value,us.length=ps.length->bindArgs fd ⟨us,[]⟩=pure (ps.zip us)):Binds K fd ps []:=λs us _ hl=>by
 rw[zV]at hl ⊢;show .of_eq (h us hl)
structure gB(N P:List Str)(sc:Scope):Prop where
 kind:sc.kind=.function
 co:sc.isCoroutine=false
 gen:sc.isGenerator=false
 nd:N.Nodup
 pre:N.take P.length=P
 par:∀x∈P,sc.names.lookup x=some .local\/sc.names.lookup x=some .cell
 CP:∀y∈sc.names,y.2≠.free
theorem Zc{kindOf:Str->Option NameKind}{x:Str}:∀{binds:List (Str×Value)} {m:Str->Option Value},(∀v,(x,v)∉binds)->bindL kindOf binds m x=m x
 |[],_,_=>rfl|(n,v)::r,m,h=>by
  unfold bindL;rw[Zc λw hw=>h w (dI _ hw)]
  split
  .let:x≠n:=by rintro rfl;show h v fK
   simp[this]
  .rfl
theorem Zd{kindOf:Str->Option NameKind}{x:Str}:∀{binds:List (Str×Value)} {m:Str->Option Value},(∀v,(x,v)∉binds)->bindC kindOf binds m x=m x
 |[],_,_=>rfl|(n,v)::r,m,h=>by
  unfold bindC;rw[Zd λw hw=>h w (dI _ hw)]
  split
  .rfl
  .let:x≠n:=by rintro rfl;show h v fK
   simp[this]
theorem Ze{kindOf:Str->Option NameKind}{x:Str}{v:Value}:∀{P:List Str} {vs:List Value} {i:Nat} {m:Str->Option Value},P.Nodup->P[i]?=some x->vs[i]?=some v->kindOf x=some .local->
  bindL kindOf (P.zip vs) m x=some v
 |[],_,_,_,_,h,_,_=>by simp at h|_::_,[],_,_,_,_,h,_=>by simp at h|p::P,w::vs,0,m,nd,h1,h2,hk=>by
  simp at h1 h2;subst h1;subst h2;change bindL kindOf ((p,w)::P.zip vs) m p=_;unfold bindL;rw[Zc λv hv=>(sE.mp nd).1 (Nz hv).1,if_pos hk];simp
 |p::P,w::vs,i+1,m,nd,h1,h2,hk=>by
  change bindL kindOf ((p,w)::P.zip vs) m x=_;unfold bindL;show Ze (i:=i) (sE.mp nd).2 (by simpa using h1) (by simpa using h2) hk
theorem Zf{kindOf:Str->Option NameKind}{x:Str}{v:Value}:∀{P:List Str} {vs:List Value} {i:Nat} {m:Str->Option Value},P.Nodup->P[i]?=some x->vs[i]?=some v->kindOf x≠some .local->
  bindC kindOf (P.zip vs) m x=some v
 |[],_,_,_,_,h,_,_=>by simp at h|_::_,[],_,_,_,_,h,_=>by simp at h|p::P,w::vs,0,m,nd,h1,h2,hk=>by
  simp at h1 h2;subst h1;subst h2;change bindC kindOf ((p,w)::P.zip vs) m p=_;unfold bindC;rw[Zd λv hv=>(sE.mp nd).1 (Nz hv).1,if_neg hk];simp
 |p::P,w::vs,i+1,m,nd,h1,h2,hk=>by
  change bindC kindOf ((p,w)::P.zip vs) m x=_;unfold bindC;show Zf (i:=i) (sE.mp nd).2 (by simpa using h1) (by simpa using h2) hk
def start(N:List Str)(vs:List V):St:=vs.map some++List.replicate (N.length-vs.length) none
def iZ(CX:uq)(P:Program)(w:World)(K:W.Frag)(mg:Str->Option Value)(base:Heap)(N:List Str)(qual:Str)(scope:Scope)(f:Addr)(cd:Value)(A:Around)(outer:List Env)(s:Shared)(H:Hp)(E:XK)(cm:Bool):Cx where
 prog:=P
 w:=w
 K:=K
 mg:=mg
 base:=base
 A:=A.deeper (envOfC qual scope s.heap.objs.size f cd)
 N:=N
 s₀:=s
 H₀:=H
 env:=envOfC qual scope s.heap.objs.size f cd
 outer:=outer
 stack:=envOfC qual scope s.heap.objs.size f cd::outer
 ex:=[]
 aj:=cm
 fn:=λ_=>true
 pn:=[]
 xe:=λe s'=>wpAny (model P w) (A.deeper (envOfC qual scope s.heap.objs.size f cd)) (leaving (envOfC qual scope s.heap.objs.size f cd) e) (λ_ s''=>CX outer H s E e s'') (λe' s''=>CX outer H s E e' s'') s'
def Zg{sc:Scope}{n:Nat}{x:Str}(h:sc.names.lookup x=some .cell):∃c,(cellsFrom n sc.names []).lookup x=some c:=by
 let q:=Ra sc.names n [] (.inl h);show M4.mp q
def zgc{CX:uq}{P:Program}{w:World}{K:W.Frag}{mg:Str->Option Value}{base:Heap}{N ps:List Str}{qual:Str}{scope:Scope}{f:Addr}{cd:Value}{A:Around}{outer:List Env}{s s1:Shared}{H:Hp}{E:XK}{us:List Value}{vs:List V}
  {cm:Bool} (S:gB N ps scope) (hd:cm=true->A.handled=none) (e0:yG P w K mg base A outer s H) (hl:vs.length=ps.length) (r:Vals vs us)
  (x:InCallC s s.heap.objs.size (bindL (envOfC qual scope s.heap.objs.size f cd).kindOf (ps.zip us) λ_=>none) (cellsFrom (s.heap.objs.size+1) scope.names []) (bindC (envOfC qual scope s.heap.objs.size f cd).kindOf (ps.zip us) λ_=>none) s1) :
  Inv (iZ CX P w K mg base N qual scope f cd A outer s H E cm) [] (start N vs) H s1:=by
 let hpl:ps.length<=N.length:=by let:=nO List.length S.pre;rw[zQ]at this;lia
 let⟨h1,tk,rfl,hk⟩:=x.done;let IK:∀b:Addr,b∉(iZ CX P w K mg base N qual scope f cd A outer s H E cm).ex:=λb z=>absurd (show b∈([]:List Addr) from z) Zaa;show⟨⟨e0.mod,S.kind,rfl,rfl,bK _,λy z c h1 h2=>?_,λy hy=>?_,λy c _ h=>?_,hd,Around.frames_deeper e0.frames,.inr ⟨rfl,rfl⟩,λb z=>absurd z (IK b),e0.bs,e0.Ac,λb _ _=>IK b,λb z=>absurd z (IK b),e0.kE,e0.Gu⟩,
  rfl,e0.bare,Un.kept hk,⟨_,x.toInCall.ns,λi y v h1 h2 h3=>?_⟩,λy c h=>⟨_,x.cell y c h⟩,e0.hok.fresh (bK _),λy c h=>?_,λp hp=>absurd (show p∈([]:List (Addr×Obj)) from hp) Zaa,e0.hok.kept hk,?_⟩
 .exact name_of_addr x.apart (Ge h1) (Ge h2)
 .let hy:scope.names.lookup y=some .cell\/scope.names.lookup y=some .free:=hy;rcases hy with hy|hy
  .exact Zg hy
  .exact absurd rfl (S.CP _ (Ge hy))
 .exact zX (x.above y c (Ge h))
 .let hi:i<vs.length:=by
   unfold start at h2;by_cases hi:i<vs.length
   .exact hi
   .rw[pO (by simpa using hi)]at h2;rw[M5]at h2;split at h2<;>cases h2
  let ha:vs[i]?=some v:=by
   unfold start at h2;rw[qL (by simpa using hi),lD]at h2;cases e:vs[i]? with
   |none=>rw[e]at h2;cases h2|some a=>rw[e]at h2;cases h2;rfl
  let⟨u,hu,rv⟩:=r.get ha;let hp:ps[i]?=some y:=by
   rw[<-S.pre,List.getElem?_take_of_lt gV];show h1
  let Zh:ps.Nodup:=by rw[<-S.pre];show S.nd.sublist (List.take_sublist _ _)
  show⟨u,rv,?_⟩;rcases S.par y (jL hp) with k|k
  .exact .inl ⟨k,Ze Zh hp hu k⟩
  .obtain⟨c,e⟩:=Zg (n:=s.heap.objs.size+1) k;show .inr ⟨.inl k,c,e,?_⟩;let q:=x.cell y c e;rw[Zf Zh hp hu (by change scope.names.lookup y≠_;rw[k];decide)]at q;show q
 .exact e0.hok.fresh (zX (x.above y c (Ge h)))
 .unfold start;change _=N.length;rw[gP,bY,M9]
  lia
def zoO{CX:uq}{cm:Bool}{P:Program}{w:World}{K:W.Frag}{mg:Str->Option Value}{base:Heap}{k:Nat}{f:Addr}{name qual:Str}{params:Arguments}{body:List Stmt}{scope:Scope}{dV kV doc pm cdv ct oc:Value}{an od:Option Addr}
  {osl:Array (Option Value)} {N ps:List Str} {sp:Sp} (lk:K.lookup f=some ⟨oc,od,.func (PySem.W.fnOf name qual params body scope dV kV doc pm an cdv ct),osl⟩) (nP:PySem.W.codeIn K cdv qual=true) (S:gB N ps scope)
  (len:∀vs H Q E,sp vs H Q E->vs.length=ps.length)
  (IV:∀(A:Around) (outer:List Env) (s:Shared) (H:Hp) (vs:List V) (Q:VK) (E:XK),bT (k+1) A->sp vs H Q E->
   ∃t,pD (iZ CX P w K mg base N qual scope f cdv A outer s H E cm) body t/\t {nx:=λ_ H'=>Q .non H',rt:=Q} (start N vs) H) :
  fM P w K mg base CX cm (k+1) f (PySem.W.fnOf name qual params body scope dV kV doc pm an cdv ct) ps sp:=by
 show⟨len,λA outer s H args us vs Q E sU hr e0 hb r Oq=>?_⟩;let hl:=len _ _ _ _ Oq;let KX:K.In s.heap:=e0.mod.Cg.keeps λb o e=>(e0.bs b o e).1;let lim:s.heap.NoLimit:=e0.mod.nolimit.keeps λb o e=>(e0.bs b o e).1;let IW:∀y∈ps.zip us,scope.names.lookup y.1=some .local\/(scope.names.lookup y.1=some .cell/\((cellsFrom (s.heap.objs.size+1) scope.names []).lookup y.1).isSome=true):=λ⟨n,v⟩ hy=>by
  rcases S.par n (Nz hy).1 with q|q
  .exact .inl q
  .exact .inr ⟨q,Ra _ _ _ (.inl q)⟩
 show codeAny_call_function hr.depth (KX _ _ lk) rfl S.co S.gen rfl (PySem.W.codeRec_of KX nP) (hb _ _ _ _ ?_);show wpAny_newFunctionEnv_cells S.kind IW λenv he s1 x=>?_;subst he;show⟨lim.keeps x.toInCall.keep,codeAny_func ?_⟩;let⟨t,ht,hq⟩:=IV A outer s H vs Q E hr Oq;let I:Inv (iZ CX P w K mg base N qual scope f cdv A outer s H E cm) [] (start N vs) H s1:=zgc S sU e0 hl r x;show jy (ht [] s1 (start N vs) H _ I hq) (λfl s' hs=>?_) λe s' hs=>hs;let fin:∀{Z':St} {H':Hp} {v:V} {u:Value},Inv (iZ CX P w K mg base N qual scope f cdv A outer s H E cm) [] Z' H' s'->RelV v u->Q v H'->CE outer P w H s Q u s':=
  λ{Z' H' v u} cj rv q=>⟨v,H',cj.os,cj.bare,cj.base,cj.hok,rv,q⟩
 cases fl with
 |ret u=>
  let⟨v,Z',H',cj,rv,q⟩:=hs;show fin cj rv q
 |next=>
  let⟨Z',H',cj,q⟩:=hs;show fin (v:=V.non) (u:=Value.none) cj rfl q
 |brk=>
  let⟨_,_,_,q⟩:=hs;show False.elim q
 |cont=>
  let⟨_,_,_,q⟩:=hs;show False.elim q
section
variable {X:Cx}{x:Str}{p pos:Pos}{e:Expr}{es:List Expr}{t:TA}{id T:String}{r:List V->Hp->VK->Prop}
def Ot(r:List V->Hp->VK->Prop)(t:TA):TE:=λZ H Q=>t Z H λvs H1=>r vs H1 Q
def Zi(hc:dG X (.builtin id) r)(hg:Gl X x)(hm:X.mg x=none)(hv:bootBuiltins x=some (.builtin id))(ha:PA X (e::es) t)(hn:x≠"__name__":=by decide)(mW:(x==("__debug__" : Str))=false:=by decide)
  (he:starEach (e::es) X.env=(false,eval e X.env)::starEach es X.env:=by rfl) (hpl:(backTo pos (starEach es X.env)).any (·.1)=false:=by rfl):PE X (.Call (.Name x p) (e::es) [] pos) (Ot r t):=by
 intro ak s Z H Q I h;show Hs (yu I hg hm hv ?_ hn mW);show PyProof.Rows.callWith_builtin1 (bf (ha pos ak s Z H _ I h) λus s1 hx=>eU hx λvs H1 I1 r1 q1=>hc ak s1 Z H1 vs us Q I1 r1 q1) he hpl
def Zj(hc:dG X (.type T) r)(hg:Gl X x)(hm:X.mg x=none)(hv:bootBuiltins x=some (.type T))(ha:PA X (e::es) t)(hn:x≠"__name__":=by decide)(mW:(x==("__debug__" : Str))=false:=by decide)
  (he:starEach (e::es) X.env=(false,eval e X.env)::starEach es X.env:=by rfl) (hpl:(backTo pos (starEach es X.env)).any (·.1)=false:=by rfl):PE X (.Call (.Name x p) (e::es) [] pos) (Ot r t):=by
 intro ak s Z H Q I h;show Hs (yu I hg hm hv ?_ hn mW);show FQ (bf (ha pos ak s Z H _ I h) λus s1 hx=>eU hx λvs H1 I1 r1 q1=>hc ak s1 Z H1 vs us Q I1 r1 q1) he hpl
end
end L2
namespace HT
open PySem PyProof.Rows
def lexLt:List Int->List Int->Bool
 |[],[]=>false|[],_::_=>true|_::_,[]=>false|x::xs,y::ys=>if x=y then lexLt xs ys else decide (x<y)
theorem gQ(x y:Int)(xs ys:List Int):lexLt (x::xs) (y::ys)=if x=y then lexLt xs ys else decide (x<y):=rfl
theorem zdh:lexLt [] []=false:=rfl
theorem zcm(y:Int)(ys:List Int):lexLt [] (y::ys)=true:=rfl
theorem zcf(x:Int)(xs:List Int):lexLt (x::xs) []=false:=rfl
theorem Zk(A:Around)(s:Shared)(a:Int)(t:Tok)(c:Int)(u:Tok):∃e,SeqAt.EqAt A s (.int a t) (.int c u) e/\(e=true↔a=c):=
 ⟨(a==c),SeqAt.EqAt.int_int a t c u,by simp⟩
theorem zhP(A:Around)(s:Shared)(a:Int)(t:Tok)(c:Int)(u:Tok)(prog:Program)(w:World)(E:Value->Shared->Prop)(Q:Value->Shared->Prop)(h:Q (.bool (decide (a<c))) s) :
  wpAny (model prog w) A (richCompare .Lt (.int a t) (.int c u)) Q E s:=
 (PyProof.Rows.lt_int h:wpAny (model prog w) A (compareOp .Lt (.int a t) (.int c u)) Q E s)
section
open PySem.SeqAt
open PySem.AutoSeq1 (wpAny_loadPart')
open PySem.MeetsSeq PySem.MeetsSeq2 PySem.MeetsSeq3
theorem zcZ(l b:Addr)(items items2:Array Value)(n n2:Nat)(dd dd2:Option Addr)(sl sl2:Array (Option Value))(ns ms:List Int)(hi:IntsAre items.toList ns)(hj:IntsAre items2.toList ms) :
  Meets (Builtin.«tuple.__lt__» ⟨[.ref l,.ref b],[]⟩)
   (λ_ R s=>s.heap.get? l=some {cls:=.type "tuple",dict:=dd,data:=.seq items n,slots:=sl}/\s.heap.get? b=some {cls:=.type "tuple",dict:=dd2,data:=.seq items2 n2,slots:=sl2} /\
    R (.ok (.ret (.bool (lexLt ns ms)))) s):=
 .of_wp λprog w A R s h=>by
  let⟨hp,g,d,tk,os⟩:=s;let⟨hl,hb,h⟩:=h;let f2:=AutoSeq1.sub_tuple_tuple;let z1:items.size=ns.length:=by rw[<-hi.length];simp
  let z2:items2.size=ms.length:=by rw[<-hj.length];simp
  wp_walk using M_ hl,M_ hb,Hu _ (λrest b s'=>b.1=none/\s'=⟨hp,g,d,tk,os⟩/\∃(vs ws:List Value) (ns' sV:List Int),rest=vs.zip ws /\
   IntsAre vs ns'/\IntsAre ws sV/\ns'.length+items2.size=sV.length+items.size/\R (.ok (.ret (.bool (lexLt ns' sV)))) ⟨hp,g,d,tk,os⟩) _
  case turn=>
   rintro⟨y,x⟩ rest b s' ⟨hb',rfl,vs,ws,ns',sV,hz,CQ,hwi,hlen,hR⟩;cases CQ with
   |nil=>rw[Ru]at hz;cases hz|cons a t CT=>
    cases hwi with
    |nil=>rw[Rq]at hz;cases hz|cons c u CV=>
     rw[zP]at hz;injection hz with Sd hrest;injection Sd with hy hx;subst hy hx;rw[gQ]at hR;simp only[eN]at hlen;let⟨e,he,uY⟩:=Zk A.in1 ⟨hp,g,d,tk,os⟩ a t c u;show au (he prog w _ _ ?_);cases e with
     |true=>
      rw[if_pos (uY.mp rfl)]at hR
      wp_walk
      show⟨rfl,rfl,_,_,_,_,hrest,CT,CV,by lia,hR⟩
     |false=>
      rw[if_neg (λq=>absurd (uY.mpr q) Rr)]at hR;let Sg:=zhP A.in1 ⟨hp,g,d,tk,os⟩ a t c u prog w
      wp_walk using Sg
      show⟨_,rfl,by simpa using hR⟩
  case fin=>
   rintro⟨b1,b2⟩ s' ⟨hb',rfl,vs,ws,ns',sV,hz,CQ,hwi,hlen,hR⟩;simp only at hb';subst hb';let hv:lexLt ns' sV=decide (items.size<items2.size):=by
    cases CQ with
    |nil=>
     cases hwi with
     |nil=>
      simp only[pQ]at hlen;rw[zdh];show(eO gV).symm
     |cons c u hw=>
      simp only[pQ,eN]at hlen;rw[zcm];show(cH gV).symm
    |cons a t hv=>
     cases hwi with
     |nil=>
      simp only[pQ,eN]at hlen;rw[zcf];show(eO gV).symm
     |cons c u hw=>
      rw[zP]at hz;cases hz
   rw[hv]at hR
   wp_walk
   show⟨_,rfl,by simpa [Builtin.Tuple.tupleCompareSizes] using hR⟩
  case h=>
   show⟨rfl,rfl,items.toList,items2.toList,ns,ms,rfl,hi,hj,by lia,h⟩
end
section
variable {prog:Program}{w:World}{A:Around}{E:Value->Shared->Prop}{s:Shared}
def pZ{l b:Addr}{items items2:Array Value}{ns ms:List Int}{Q:Value->Shared->Prop}(hl:IsTup s.heap l items)(hb:IsTup s.heap b items2)(hi:IntsAre items.toList ns)(hj:IntsAre items2.toList ms)
  (hu:A.units<cLine) (h:Q (.bool (lexLt ns ms)) s):wpAny (model prog w) A (compareOp .Lt (.ref l) (.ref b)) Q E s:=by
 let⟨⟨cls,dd,data,sl⟩,ho,hc,n,hd⟩:=id hl;let⟨⟨cls2,dd2,data2,sl2⟩,nR,qU,n2,hd2⟩:=id hb;simp only at hc hd qU hd2;subst hc hd qU hd2;show richCompare_meets_room (op:=.Lt) ⟨_,ho,rfl⟩ ⟨_,nR,rfl⟩ PySem.F.slot_tuple_lt PySem.F.entry_tuple_lt (PySem.F.args_tuple_lt_2 _ _) (zcZ l b items items2 n n2 dd dd2 sl sl2 ns ms hi hj)
  ⟨ho,nR,show Value.bool (lexLt ns ms)≠Value.notImplemented/\Q (.bool (lexLt ns ms)) s from ⟨(λx=>nomatch x),h⟩⟩ hu
def yH{t b:Addr}{vs ws:List Value}{Q:Value->Shared->Prop}(ht:IsTup s.heap t vs.toArray)(hb:IsTup s.heap b ws.toArray)(hv:vs≠[])
  (h1:ws=[]->Q (.ref t) s) (h2:ws≠[]->Q (.ref s.heap.objs.size) {s with heap:=s.heap.push {cls:=.type "tuple",data:=.seq (vs++ws).toArray}})
  (lF:vs.length+ws.length<=sizeLine):wpAny (model prog w) A (binaryOp .Add (.ref t) (.ref b)) Q E s:=by
 let⟨⟨cls,dd,data,sl⟩,ho,hc,n,hd⟩:=id ht;let⟨⟨cls2,dd2,data2,sl2⟩,nR,qU,n2,hd2⟩:=id hb;simp only at hc hd qU hd2;subst hc hd qU hd2;let e:vs.toArray++ws.toArray=(vs++ws).toArray:=by simp
 by_cases hw:ws=[]
 .exact concat_meets ⟨_,ho,rfl⟩ ⟨_,nR,rfl⟩ noFill_tuple_add seq_tuple_add Rb Q7 (Q0 _ _)
   (tuple_addW1 t b vs.toArray ws.toArray n n2 dd dd2 sl sl2 (by simpa using hv) (by simp[hw])) ⟨ho,nR,h1 hw⟩
 .refine concat_meets ⟨_,ho,rfl⟩ ⟨_,nR,rfl⟩ noFill_tuple_add seq_tuple_add Rb Q7 (Q0 _ _)
   (tuple_addW2 t b vs.toArray ws.toArray n n2 dd dd2 sl sl2 (by simpa using hv) (by simpa using hw) (by rw[dR,dR];show lF)) ⟨ho,nR,?_⟩
  rw[e];show h2 hw
def bL(n d:Nat):Option Int->Nat
 |none=>d|some v=>if v<0 then (v+(n:Int)).toNat else min v.toNat n
theorem uZ(n d:Nat):bL n d none=d:=rfl
def yI(n d k:Nat):bL n d (some (k:Int))=min k n:=by
 change (if (k:Int)<0 then ((k:Int)+(n:Int)).toNat else min (k:Int).toNat n)=min k n;rw[if_neg gV,Gh]
def zmu(n d:Nat)(hd:d<=n)(o:Option Int):bL n d o<=n:=by
 cases o with
 |none=>show hd|some v=>
  change (if v<0 then (v+(n:Int)).toNat else min v.toNat n)<=n;by_cases hv:v<0
  .rw[if_pos hv];lia
  .rw[if_neg hv];show Nat.min_le_right _ _
def Zm(v:Int)(n d:Nat):(if v<0 then max (v+(n:Int)) 0 else min v (n:Int))=((bL n d (some v):Nat):Int):=by
 change (if v<0 then max (v+(n:Int)) 0 else min v (n:Int))=(((if v<0 then (v+(n:Int)).toNat else min v.toNat n):Nat):Int);by_cases hv:v<0
 .simp only[if_pos hv];lia
 .simp only[if_neg hv];lia
def zfC(lo hi:Option Int)(n:Nat):Builtin.Slice.sliceAdjust lo hi 1 (n:Int)=(((bL n 0 lo:Nat):Int),((bL n n hi:Nat):Int)):=by
 let h1:¬((1:Int)<0):=by lia
 unfold Builtin.Slice.sliceAdjust;simp only[h1,iR];show Prod.ext ?_ ?_
 .cases lo with
  |none=>rfl|some v=>show Zm v n 0
 .cases hi with
  |none=>rfl|some v=>show Zm v n n
def zfP(i j:Nat):Builtin.Slice.slicePlaces (i:Int) (j:Int) 1=j-i:=by
 unfold Builtin.Slice.slicePlaces;let h1:(1:Int)>0:=by lia
 simp only[h1,if_true,Int.ediv_one]
 split<;>lia
def Sh{v:Value}{o:Option Int}{Q:Option Int->Shared->Prop}(p:IsPart v o)(h:Q o s):wpAny (model prog w) A (Builtin.Slice.slicePartIndex v) Q E s:=by
 cases p with
 |none=>show slicePart_none h|int i t=>show slicePart_int h
def Zn{sl:Addr}{vl vu:Value}{lo hi:Option Int}{n:Nat}{Q:Int×Int×Nat->Shared->Prop}(hs:s.heap.IsSliceOf sl vl vu .none)(pl:IsPart vl lo)(pu:IsPart vu hi)
  (h:Q (((bL n 0 lo:Nat):Int),1,bL n n hi-bL n 0 lo) s):wpAny (model prog w) A (Builtin.Slice.sliceApplied (.ref sl) (pure (n:Int))) Q E s:=by
 let⟨os,sW,CW,wL⟩:=id hs;unfold Builtin.Slice.sliceApplied Builtin.Slice.sliceFields;show au (au (j9 sW wL (x:=vl) rfl (au (j9 sW wL (x:=vu) rfl (au (j9 sW wL (x:=.none) rfl (aH ?_)))))));show au (slicePart_none ?_);change wpAny _ _ (if ((1:Int)==0)=true then _ else _) _ _ s;rw[if_neg W9];show au (Sh pl (au (Sh pu (au (aH ?_)))));change wpAny _ _ (match Builtin.Slice.sliceAdjust lo hi 1 (n:Int) with|(lo,hi)=>pure (lo,(1:Int),Builtin.Slice.slicePlaces lo hi 1)) _ _ s;rw[zfC lo hi n];change wpAny _ _ (pure (((bL n 0 lo:Nat):Int),(1:Int),Builtin.Slice.slicePlaces ((bL n 0 lo:Nat):Int) ((bL n n hi:Nat):Int) 1)) _ _ s;rw[zfP];show aH h
def ziP(xs:Array Value)(i k:Nat):((List.range k).filterMap λ(m:Nat)=>xs[((i:Int)+(m:Int)*1).toNat]?).toArray=((xs.toList.drop i).take k).toArray:=by
 let e:(λ(m:Nat)=>xs[((i:Int)+(m:Int)*1).toNat]?)=λm=>xs[i+m]?:=by
  funext m
  let:((i:Int)+(m:Int)*1).toNat=i+m:=by lia
  rw[this]
 rw[e];let:=pick_run xs i k;rw[List.filterMap_map]at this;let e2:((λx=>xs[x]?)∘λx=>i+x)=λm=>xs[i+m]?:=rfl;rw[e2]at this;rw[this]
def iw{t sl:Addr}{items:Array Value}{vl vu:Value}{lo hi:Option Int}{Q:Value->Shared->Prop}(ht:IsTup s.heap t items)(hs:s.heap.IsSliceOf sl vl vu .none)(pl:IsPart vl lo)(pu:IsPart vu hi)
  (hw:¬(bL items.size 0 lo=0/\bL items.size items.size hi=items.size))
  (h:Q (.ref s.heap.objs.size) {s with heap:=s.heap.push {cls:=.type "tuple",data:=.seq ((items.toList.drop (bL items.size 0 lo)).take (bL items.size items.size hi-bL items.size 0 lo)).toArray}})
  (lF:items.size<=sizeLine):wpAny (model prog w) A (getItem (.ref t) (.ref sl)) Q E s:=by
 let iy:sizeOk (.seq ((items.toList.drop (bL items.size 0 lo)).take (bL items.size items.size hi-bL items.size 0 lo)).toArray):=by
  change ((items.toList.drop (bL items.size 0 lo)).take (bL items.size items.size hi-bL items.size 0 lo)).toArray.size<=sizeLine;rw[dR,zQ,Hv,Hq];omega
 let hj:bL items.size items.size hi<=items.size:=zmu _ _ (bK _) hi;let⟨os,sW,CW,wL⟩:=id hs;let I8:s.TypeIs (.ref sl) "slice":=⟨os,sW,CW⟩;unfold getItem
 try with_reducible show iJ ?_
 first|refine au (aH ?_)|skip
 show au (wpAny_sequenceKey ht.typeIs W9 ?_);show au (xT (name:=Str.ofString "__getitem__") ht.typeIs xQ
  (uh xQ ht.typeIs entry_tuple_getitem ?_ (args_tuple_getitem _ _)))
 change wpAny _ _ (Builtin.Tuple.tupleItemsOf (.ref t) >>= _) _ _ s;show au (tupleItemsOf_ ht ?_);show au (zY I8 ?_);rw[if_pos W9];show au (Zn hs pl pu ?_);let Sq:¬((((bL items.size 0 lo:Nat):Int)==0&&(1:Int)==1&&(bL items.size items.size hi-bL items.size 0 lo)==items.size)=true):=by
  intro q;rw[b_,b_]at q;let q1:((bL items.size 0 lo:Nat):Int)=0:=eq_of_beq q.1.1;let q2:bL items.size items.size hi-bL items.size 0 lo=items.size:=eq_of_beq q.2;show hw ⟨by lia,by lia⟩
 change wpAny _ _ (if (((bL items.size 0 lo:Nat):Int)==0&&(1:Int)==1&&(bL items.size items.size hi-bL items.size 0 lo)==items.size)=true then _ else _) _ _ s;rw[if_neg Sq,ziP]
 first
  |exact au (m:=Builtin.Tuple.tupleExact _) (pB (aH ⟨_,rfl,aH h⟩) iy)
  |exact au (m:=Builtin.Tuple.tupleExact _) (pB (au (aH (aH ⟨_,rfl,aH h⟩))) iy)
  |exact au (au (m:=Builtin.Tuple.tupleExact _) (pB (aH (aH ⟨_,rfl,aH h⟩)) iy))
  |exact au (au (m:=Builtin.Tuple.tupleExact _) (pB (aH ⟨_,rfl,aH h⟩) iy))
end
end HT
namespace L2
open PySem PySem.Spec PyProof.Rows
noncomputable abbrev TO:=St->Hp->(Option Int->Hp->Prop)->Prop
def PO(X:Cx)(e:Option Expr)(t:TO):Prop:=
 ∀(ak:List (Addr×Obj)) (s:Shared) (Z:St) (H:Hp) (Q:Option Int->Hp->Prop),Inv X ak Z H s->t Z H Q->
  wpAny (model X.prog X.w) X.A (evalPart e X.env) (λu s'=>∃o H',Inv X ak Z H' s'/\IsPart u o/\Q o H') X.xe s
def yJ:TO:=λ_ H Q=>Q none H
def I9(t:TE):TO:=λZ H Q=>t Z H λx H1=>∃i,x=.int i/\Q (some i) H1
def Ou{ns:List Int}:∀{us:List Value},Vals (ns.map V.int) us->IntsAre us ns:=by
 induction ns with
 |nil=>intro us r;rw[Hy]at r;cases r;show .nil|cons n ns ih=>
  intro us r;rw[jw]at r;cases r with
  |cons r1 r2=>
   let⟨t,e⟩:=r1;subst e;show .cons n t (ih r2)
section
variable {X:Cx}{e:Expr}{te:TE}{lo hi:Option Expr}{tl th:TO}{pos p2:Pos}
def zj0:PO X none yJ:=by
 intro ak s Z H Q I h;rw[evalPart_none];show aH ⟨none,H,I,.none,h⟩
def zjv(h:PE X e te):PO X (some e) (I9 te):=by
 intro ak s Z H Q I hw;rw[evalPart_some];show bf (h ak s Z H _ I hw) λu s1 hx=>eU hx λx H1 I1 r1 q1=>?_;let⟨i,rfl,q⟩:=q1;let⟨t,rfl⟩:=r1;show⟨some i,H1,I1,.int i t,q⟩
def yK(X:Cx)(r:V->Option Int->Option Int->Hp->VK->Prop):Prop:=
 ∀(ak:List (Addr×Obj)) (s:Shared) (Z:St) (H:Hp) (x:V) (v vl vu:Value) (lo hi:Option Int) (sl:Addr) (Q:VK),Inv X ak Z H s->RelV x v->s.heap.IsSliceOf sl vl vu .none->IsPart vl lo->IsPart vu hi->r x lo hi H Q->
  ∃T id,typeLookup (.type T) "__getitem__"=pure (some (.builtin id))/\s.TypeIs v T/\wpAny (model X.prog X.w) X.A (getItem v (.ref sl)) (EP X ak Z Q) X.xe s
def yK.or{r r':V->Option Int->Option Int->Hp->VK->Prop}(h:yK X r)(h':yK X r'):yK X (λx lo hi H Q=>r x lo hi H Q\/r' x lo hi H Q):=by
 intro ak s Z H x v vl vu lo hi sl Q I rx hs pl pu q;rcases q with q|q
 .exact h ak s Z H x v vl vu lo hi sl Q I rx hs pl pu q
 .exact h' ak s Z H x v vl vu lo hi sl Q I rx hs pl pu q
def tSl(r:V->Option Int->Option Int->Hp->VK->Prop)(te:TE)(tl th:TO):TE:=λZ H Q=>te Z H λx H1=>tl Z H1 λl H2=>th Z H2 λu H3=>r x l u H3 Q
def ziy{r:V->Option Int->Option Int->Hp->VK->Prop}(hr:yK X r)(he:PE X e te)(hl:PO X lo tl)(hu:PO X hi th):PE X (.Subscript e (.Slice lo hi none p2) pos) (tSl r te tl th):=by
 intro ak s Z H Q I h;show Subscript_ (bf (he ak s Z H _ I h) λv s1 hx=>eU hx λx H1 I1 r1 q1=>?_);show wpAny_Slice (bf (hl ak s1 Z H1 _ I1 q1) λvl s2 hx=>eU hx λl H2 I2 pl q2=>bf (hu ak s2 Z H2 _ I2 q2) λvu s3 hx=>eU hx λu H3 I3 pu q3=>?_);rw[evalPart_none];show aH ?_;let I4:Inv X ak Z H3 {s3 with heap:=s3.heap.push {cls:=.type "slice",data:=.fields #[vl,vu,.none]}}:=I3.kept (t':=s3.toks) λb ob q=>bM _ q;let⟨T,id,hT,ht,hg⟩:=hr ak {s3 with heap:=s3.heap.push {cls:=.type "slice",data:=.fields #[vl,vu,.none]}} Z H3 x v vl vu l u s3.heap.objs.size Q I4 r1 (Heap.IsSliceOf.new ..) pl pu q3;change wpAny (model X.prog X.w) X.A (subscriptTail e (.Slice lo hi none p2) v (.ref s3.heap.objs.size)) (EP X ak Z Q) X.xe {s3 with heap:=s3.heap.push {cls:=.type "slice",data:=.fields #[vl,vu,.none]}};show tail_any (ops:=[.ref s3.heap.objs.size,v]) ht hT hg (by with_unfolding_all rfl)
def mX(xs:List V)(lo hi:Option Int):List V:=(xs.drop (HT.bL xs.length 0 lo)).take (HT.bL xs.length xs.length hi-HT.bL xs.length 0 lo)
def Zo(xs:List V)(lo hi:Option Int):(mX xs lo hi).length<=xs.length:=by
 unfold mX;rw[zQ,Hv]
 lia
def Ss(K:W.Frag):V->Option Int->Option Int->Hp->VK->Prop:=λx lo hi H Q=>∃a xs,x=.ref a/\fL K H a xs /\
 ¬(HT.bL xs.length 0 lo=0/\HT.bL xs.length xs.length hi=xs.length)/\∀p,H p=none->Q (.ref p) (upd H p (.tup (mX xs lo hi)))
def zmg:yK X (Ss X.K):=by
 intro ak s Z H x v vl vu lo hi sl Q I rx hs pl pu h;let⟨a,xs,rfl,hx,hw,q⟩:=h;cases rx;let⟨its,r,ht,hz⟩:=I.tuple hx;let hlen:its.toArray.size=xs.length:=by rw[dR];show r.length.symm
 show⟨"tuple",_,xQ.lookup,ht.typeIs,?_⟩;show HT.iw ht hs pl pu (by rw[hlen];show hw) ?_ (by rw[hlen];show hz);rw[hlen];show⟨.ref s.heap.objs.size,_,I.laid (t':=s.toks) (o:=.tup (mX xs lo hi)) (λb ob q=>bM _ q) (bK _) ?_,rfl,q _ (I.hok.fresh (bK _))⟩;show⟨jx (Zo xs lo hi) hz,_,(r.drop (HT.bL xs.length 0 lo)).take (HT.bL xs.length xs.length hi-HT.bL xs.length 0 lo),iV.new _ _⟩
def I_(K:W.Frag):R2:=λx y H Q=>∃a b ns ms,x=.ref a/\y=.ref b/\fL K H a (ns.map V.int)/\fL K H b (ms.map V.int)/\Q (.bl (HT.lexLt ns ms)) H
def zl4(hu:X.A.units<cLine):dj X (compareOp .Lt) (I_ X.K):=by
 intro ak s Z H x y v u Q I rx ry h;let⟨a,b,ns,ms,rfl,rfl,ha,hb,q⟩:=h;cases rx;cases ry;let⟨its,r1,p1,_⟩:=I.tuple ha;let⟨its2,r2,p2,_⟩:=I.tuple hb;let i1:IntsAre its.toArray.toList ns:=Ou r1;let i2:IntsAre its2.toArray.toList ms:=Ou r2;show HT.pZ p1 p2 i1 i2 hu ⟨.bl (HT.lexLt ns ms),H,I,rfl,q⟩
def Vals.mY{xs:List V}{us:List Value}(r:Vals xs us):us=[]↔xs=[]:=by
 cases r with
 |nil=>simp|cons _ _=>simp
end
def lX(n:Nat)(i:Int):Option Nat:=if 0<=i then (if i<n then some i.toNat else none) else if -(n:Int)<=i then some (i+n).toNat else none
def qW{α:Type}(xs:List α)(i:Int):Option α:=(lX xs.length i).bind λj=>xs[j]?
def Zq{n:Nat}{i:Int}{j:Nat}(h:lX n i=some j):seqIndex? i n=some j/\j<n/\-(n:Int)<=i/\i<n:=by
 unfold lX at h;by_cases h0:0<=i
 .rw[if_pos h0]at h;by_cases h1:i<n
  .rw[if_pos h1]at h;let e:i.toNat=j:=dD h;show⟨by rw[seqIndex_of h0 h1,e],by lia,by lia,h1⟩
  .rw[if_neg h1]at h;cases h
 .rw[if_neg h0]at h;by_cases h1 : -(n:Int)<=i
  .rw[if_pos h1]at h;let e:(i+n).toNat=j:=dD h;show⟨by rw[seqIndex_neg gV h1,e],by lia,h1,by lia⟩
  .rw[if_neg h1]at h;cases h
def Sv{α:Type}{xs:List α}{i:Int}{v:α}(h:qW xs i=some v):∃j,seqIndex? i xs.length=some j/\xs[j]?=some v/\j<xs.length/\-(xs.length:Int)<=i/\i<xs.length:=by
 unfold qW at h;cases e:lX xs.length i with
 |none=>rw[e]at h;cases h|some j=>
  rw[e]at h;let⟨h1,h2,h3,h4⟩:=Zq e;show⟨j,h1,h,h2,h3,h4⟩
def qX(b:Expr):Prop:=∀o i,subscripted b false o i=operate [o,i] (getItem o i)
def wM(X:Cx)(r:R2):Prop:=
 ∀(value slice:Expr) (ak:List (Addr×Obj)) (s:Shared) (Z:St) (H:Hp) (x y:V) (v u:Value) (Q:VK),Inv X ak Z H s->RelV x v->RelV y u->r x y H Q->
  subscripted slice false v u=operate [v,u] (getItem v u)->wpAny (model X.prog X.w) X.A (subscriptTail value slice v u) (EP X ak Z Q) X.xe s
def CZ(X:Cx)(id:String)(r:V->List V->Hp->VK->Prop):Prop:=
 ∀(ak:List (Addr×Obj)) (s:Shared) (Z:St) (H:Hp) (x:V) (xs:List V) (v:Value) (us:List Value) (Q:VK),Inv X ak Z H s->RelV x v->Vals xs us->r x xs H Q->
  wpAny (model X.prog X.w) X.A (call (.builtin id) (v::us)) (EP X ak Z Q) X.xe s
section
variable {X:Cx}{a b:Expr}{ta tb:TE}{pos:Pos}
def wM.or{r r':R2}(h:wM X r)(h':wM X r'):wM X (λx y H Q=>r x y H Q\/r' x y H Q):=by
 intro value slice ak s Z H x y v u Q I rx ry q hs;rcases q with q|q
 .exact h value slice ak s Z H x y v u Q I rx ry q hs
 .exact h' value slice ak s Z H x y v u Q I rx ry q hs
def Zr{r:R2}(hr:wM X r)(ha:PE X a ta)(hb:PE X b tb)(hs:qX b):PE X (.Subscript a b pos) (Om r ta tb):=by
 intro ak s Z H Q I h;show Subscript_ (CG ha hb I h λv u s2 x y H2 I2 rx ry q=>hr a b ak s2 Z H2 x y v u Q I2 rx ry q (hs _ _))
def Ja(K:W.Frag):R2:=λx y H Q=>∃p xs i v,x=.ref p/\y=.int i/\dF K H p xs/\qW xs i=some v/\Q v H
def Jc(K:W.Frag):R2:=λx y H Q=>∃p xs i v,x=.ref p/\y=.int i/\fL K H p xs/\qW xs i=some v/\Q v H
def Jd:R2:=λx y H Q=>∃z i c,x=.str z/\y=.int i/\z.length<=sizeLine/\qW z.cps.toList i=some c/\Q (.str ⟨#[c]⟩) H
def yL:wM X (Ja X.K):=by
 intro value slice ak s Z H x y v u Q I rx ry h hs;let⟨p,xs,i,z,rfl,rfl,hq,he,q⟩:=h;cases rx;let⟨t,rfl⟩:=ry;let⟨its,r,pl,hz⟩:=I.list hq;let⟨j,h1,h2,h3,h4,h5⟩:=Sv he;let⟨w,ew,mV⟩:=r.get h2;let hl:=r.length;let hn:=iY;let fin:EP X ak Z Q w s:=⟨z,H,I,mV,q⟩;by_cases h0:0<=i
 .let hj:i.toNat=j:=by
   rw[seqIndex_of h0 h5]at h1;show dD h1
  show item_listR pl.isList h0 gV (by rw[hj];simpa using ew) fin hs
 .let hj:(i+(its.toArray.size:Int)).toNat=j:=by
   rw[seqIndex_neg gV h4]at h1;rw[dR,<-hl];show dD h1
  show subscriptTail_builtinR (x:=w) pl.isList.typeIs slot_list_getitem.lookup
   (wpAny_getItem_list_neg (Q:=λr s'=>r=w/\EP X ak Z Q r s') pl.isList gV (by rw[dR]<;>lia) gV (by rw[hj];simpa using ew) ⟨rfl,fin⟩) hs
def C_:wM X (Jc X.K):=by
 intro value slice ak s Z H x y v u Q I rx ry h hs;let⟨p,xs,i,z,rfl,rfl,hq,he,q⟩:=h;cases rx;let⟨t,rfl⟩:=ry;let⟨its,r,pl,hz⟩:=I.tuple hq;let⟨j,h1,h2,h3,h4,h5⟩:=Sv he;let⟨w,ew,mV⟩:=r.get h2;let hl:=r.length;let hn:=iY;let fin:EP X ak Z Q w s:=⟨z,H,I,mV,q⟩;show subscriptTail_builtinR (x:=w) pl.typeIs slot_tuple_getitem.lookup
  (getItem_tuple (j:=j) (Q:=λr s'=>r=w/\EP X ak Z Q r s') pl gV gV (by rw[dR,<-hl];show h1) (by simpa using ew) ⟨rfl,fin⟩) hs
def zm1:wM X Jd:=by
 intro value slice ak s Z H x y v u Q I rx ry h hs;let⟨z,i,c,rfl,rfl,hz,he,q⟩:=h;let⟨t,rfl⟩:=rx;let⟨t',rfl⟩:=ry;let⟨j,h1,h2,h3,h4,h5⟩:=Sv he;let hl:z.cps.toList.length=z.length:=by simp[Str.length]
 rw[hl]at h1 h4 h5;let hn:=iY;show tail_any (typeIs_str s z t) slot_str_getitem.lookup (getItem_str (c:=c) (by
  let e1:decide (i < -(2^63:Int))=false:=eO gV;let e2:decide (i>=2^63)=false:=eO gV;rw[e1,e2,Bool.or_false]) (by rw[h1];simpa using h2) ⟨.str ⟨#[c]⟩,H,I.tok _,⟨_,rfl⟩,q⟩) hs
def Sw(K:W.Frag):R2:=λx y H Q=>Ja K x y H Q\/Jc K x y H Q\/Jd x y H Q
theorem zm9:wM X (Sw X.K):=yL.or (C_.or zm1)
def zfA(its:List Value)(n j:Nat)(u:Value):Obj.mapSeq (·.setIfInBounds j u) {cls:=.type "list",data:=.seq its.toArray n}={cls:=.type "list",data:=.seq (its.set j u).toArray n}:=by
 simp[Obj.mapSeq]
def Inv.lst{ak:List (Addr×Obj)}{Z:St}{H:Hp}{s:Shared}{p:Addr}{xs:List V}(I:Inv X ak Z H s)(h:H p=some (.lst xs)) :
  ∃(its:List Value) (n:Nat),Vals xs its/\s.heap.get? p=some {cls:=.type "list",data:=.seq its.toArray n}/\xs.length<=sizeLine:=by
 let⟨z,its,n,r,e⟩:=I.hok p _ h;show⟨its,n,r,e,z⟩
def Inv.Dg{ak:List (Addr×Obj)}{Z:St}{H:Hp}{s:Shared}{p:Addr}{xs ys:List V}{its its':List Value}{n n':Nat}{f:Obj->Obj}(I:Inv X ak Z H s)(h:H p=some (.lst xs))
  (ho:s.heap.get? p=some {cls:=.type "list",data:=.seq its.toArray n}) (hf:f {cls:=.type "list",data:=.seq its.toArray n}={cls:=.type "list",data:=.seq its'.toArray n'}) (r:Vals ys its') (hz:ys.length<=sizeLine) (t:Nat) :
  Inv X ak Z (upd H p (.lst ys)) {s with heap:=s.heap.update p f,toks:=t}:=by
 let e:(s.heap.update p f).get? p=some {cls:=.type "list",data:=.seq its'.toArray n'}:=by
  rw[uJ f ho (by rw[hf]<;>rfl),hf]
 show I.write (x:=p) (e:=p) (by rw[h];trivial) (.inl rfl) (λb u hb q=>(wF _ _ (Ne.symm hb)).trans q) ⟨_,e⟩ ?_;show⟨hz,its',n',r,e⟩
def u5:V->V->V->Hp->(Hp->Prop)->Prop:=λo i v H Q=>∃p xs k j,o=.ref p/\i=.int k/\H p=some (.lst xs)/\lX xs.length k=some j/\Q (upd H p (.lst (xs.set j v)))
def Sx:Ij X u5:=by
 intro ak s Z H o i v ov iv u Q I ro ri rv h;let⟨p,xs,k,j,rfl,rfl,hp,hj,q⟩:=h;cases ro;let⟨t,rfl⟩:=ri;let⟨its,n,r,ho,hz⟩:=I.lst hp;let⟨h1,h2,h3,h4⟩:=Zq hj;let hl:=r.length;let hn:=iY;let I':Inv X ak Z (upd H p (.lst (xs.set j v))) {s with heap:=s.heap.update p (Obj.mapSeq (·.setIfInBounds j u))}:=
  I.Dg hp ho (zfA its n j u) (r.set rv j) (by rw[lE];show hz) s.toks
 by_cases h0:0<=k
 .let hk:k.toNat=j:=by
   rw[seqIndex_of h0 h4]at h1;show dD h1
  show PySem.W.ki_setAt ho h0 gV (by rw[dR,<-hl];show h4) (by rw[hk];show⟨_,I',q⟩)
 .let hk:(k+(its.toArray.size:Int)).toNat=j:=by
   rw[seqIndex_neg gV h3]at h1;rw[dR,<-hl];show dD h1
  show PySem.W.ki_setBack ho gV (by rw[dR,<-hl];show h3) gV (by rw[hk];show⟨_,I',q⟩)
def zd5(lo hi:Option Int)(n:Nat):(sliceBounds lo hi none n).1=((HT.bL n 0 lo:Nat):Int)/\(sliceBounds lo hi none n).2.1=((HT.bL n n hi:Nat):Int)/\(sliceBounds lo hi none n).2.2=1:=by
 show⟨?_,?_,rfl⟩
 .cases lo with
  |none=>simp[sliceBounds,HT.bL]|some i=>
   simp only[sliceBounds,HT.bL,Option.getD_none,show (1:Int)>0 by decide,if_true];by_cases h:i<0
   .simp only[h,if_true]<;>lia
   .simp only[h,iR]<;>lia
 .cases hi with
  |none=>simp[sliceBounds,HT.bL]|some i=>
   simp only[sliceBounds,HT.bL,Option.getD_none,show (1:Int)>0 by decide,if_true];by_cases h:i<0
   .simp only[h,if_true]<;>lia
   .simp only[h,iR]<;>lia
def zc4(its:List Value)(lo hi:Option Int):slicePick its.toArray lo hi none=((its.drop (HT.bL its.length 0 lo)).take (HT.bL its.length its.length hi-HT.bL its.length 0 lo)).toArray:=by
 let⟨h1,h2,h3⟩:=zd5 lo hi its.toArray.size;unfold slicePick;rw[h1,h2,h3];simp only[sliceRange_one,pick_run,dR]<;>rfl
def Je(K:W.Frag):V->Option Int->Option Int->Hp->VK->Prop:=λx lo hi H Q=>∃a xs,x=.ref a/\dF K H a xs/\∀p,H p=none->Q (.ref p) (upd H p (.lst (mX xs lo hi)))
def yM:yK X (Je X.K):=by
 intro ak s Z H x v vl vu lo hi sl Q I rx hs pl pu h;let⟨a,xs,rfl,hx,q⟩:=h;cases rx;let⟨its,r,ht,hz⟩:=I.list hx;let hlen:=r.length;show⟨"list",_,slot_list_getitem.lookup,ht.isList.typeIs,?_⟩;show wpAny_getItem_list_slice ht.isList hs pl pu .none Zaa ?_ (by rw[dR]<;>lia);rw[zc4,<-hlen];show⟨.ref s.heap.objs.size,_,I.laid (t':=s.toks) (o:=.lst (mX xs lo hi)) (λb ob q=>bM _ q) (bK _) ?_,rfl,q _ (I.hok.fresh (bK _))⟩;show⟨jx (Zo xs lo hi) hz,_,0,(r.drop (HT.bL xs.length 0 lo)).take (HT.bL xs.length xs.length hi-HT.bL xs.length 0 lo),fW _ rfl⟩
def zdu:dG X (.builtin "len") (λxs H Q=>∃p ys,xs=[.ref p]/\(dF X.K H p ys\/fL X.K H p ys)/\Q (.int ys.length) H):=by
 intro ak s Z H xs us Q I r h;let⟨p,ys,rfl,hq,q⟩:=h;let⟨u,rfl,rx⟩:=vals1 r;cases rx;let hn:=iY;rcases hq with hq|hq
 .obtain⟨its,r',pl,hz⟩:=I.list hq;let hlen:=r'.length;show Calls.call_len_list pl.isList (by simp only[dR]<;>lia) ⟨.int ys.length,H,I.tok _,⟨s.toks+1,by rw[dR,hlen]⟩,q⟩
 .obtain⟨its,r',pl,hz⟩:=I.tuple hq;let hlen:=r'.length;show len_tuple pl (by simp only[dR]<;>lia) ⟨.int ys.length,H,I.tok _,⟨s.toks+1,by rw[dR,hlen]⟩,q⟩
def zdC:dG X (.builtin "len") (λxs H Q=>∃z,xs=[.str z]/\z.length<=sizeLine/\Q (.int z.length) H):=by
 intro ak s Z H xs us Q I r h;let⟨z,rfl,hz,q⟩:=h;let⟨u,rfl,t,rfl⟩:=vals1 r;let hn:=iY;show len_str gV ⟨.int z.length,H,I.tok _,⟨_,rfl⟩,q⟩
def Zu:dG X (.type "list") (λxs H Q=>∃p ys,xs=[.ref p]/\(dF X.K H p ys\/fL X.K H p ys)/\∀l,H l=none->Q (.ref l) (upd H l (.lst ys))):=by
 intro ak s Z H xs us Q I r h;let⟨p,ys,rfl,hq,q⟩:=h;let⟨u,rfl,rx⟩:=vals1 r;cases rx;let fin:∀(its:List Value),Vals ys its->ys.length<=sizeLine->∀(h':Heap) (c':Nat),(∀b o',s.heap.get? b=some o'->h'.get? b=some o')->
   h'.get? s.heap.objs.size=some {cls:=.type "list",dict:=none,data:=.seq its.toArray c',slots:=#[]}->EP X ak Z Q (.ref s.heap.objs.size) {s with heap:=h'}:=λits r' hz h' c' kp e=>
  ⟨.ref s.heap.objs.size,_,I.laid (t':=s.toks) kp (bK _) (show aW X.prog X.w _ h' _ (.lst ys) from ⟨hz,its,c',r',e⟩),rfl,q _ (I.hok.fresh (bK _))⟩
 rcases hq with hq|hq
 .obtain⟨its,r',pl,hz⟩:=I.list hq;let hlen:=r'.length;let⟨o,ho,hc,n,hd⟩:=pl.isList;show call_list_seq p (.inl rfl) ho hc hd (λh' c' kp e=>fin its r' hz h' c' kp e) (by simp only[dR]<;>lia)
 .obtain⟨its,r',pl,hz⟩:=I.tuple hq;let hlen:=r'.length;let⟨o,ho,hc,n,hd⟩:=pl;show call_list_seq p (.inr rfl) ho hc hd (λh' c' kp e=>fin its r' hz h' c' kp e) (by simp only[dR]<;>lia)
def zcG:dG X (.type "tuple") (λxs H Q=>∃p ys,xs=[.ref p]/\((dF X.K H p ys/\∀l,H l=none->Q (.ref l) (upd H l (.tup ys)))\/(fL X.K H p ys/\Q (.ref p) H))):=by
 intro ak s Z H xs us Q I r h;let⟨p,ys,rfl,h⟩:=h;let⟨u,rfl,rx⟩:=vals1 r;cases rx;rcases h with ⟨hq,q⟩|⟨hq,q⟩
 .obtain⟨its,r',pl,hz⟩:=I.list hq;let hlen:=r'.length;show call_tuple_list pl.isList (λh' kp=>?_) (by simp only[dR]<;>lia);let I1:Inv X ak Z H {s with heap:=h'}:=I.kept (t':=s.toks) kp;let I2:Inv X ak Z (upd H h'.objs.size (.tup ys)) {s with heap:=h'.push {cls:=.type "tuple",data:=.seq its.toArray}}:=
   I1.laid (t':=s.toks) (λb o e=>bM _ e) (bK _) (show aW X.prog X.w _ _ _ (.tup ys) from ⟨hz,its,r',iV.new _ _⟩)
  show⟨.ref h'.objs.size,_,I2,rfl,q _ (I1.hok.fresh (bK _))⟩
 .obtain⟨its,r',pl,hz⟩:=I.tuple hq;show call_tuple_same pl ⟨.ref p,H,I,rfl,q⟩
def Sy(K:W.Frag)(T:String)(x:V)(H:Hp):Prop:=match x with
 |.str _=>T="str"|.int _=>T="int"|.ref p=>(T="list"/\∃xs,dF K H p xs)\/(T="tuple"/\∃xs,fL K H p xs) \/
   (T="dict"/\((∃kvs,H p=some (.dK kvs))\/∃kvs,H p=some (.dT kvs)))\/(T="set"/\∃S n,H p=some (.set S n))
 |_=>False
def zm7{ak:List (Addr×Obj)}{Z:St}{H:Hp}{s:Shared}{T:String}{x:V}{v:Value}(I:Inv X ak Z H s)(r:RelV x v)(ty:Sy X.K T x H) :
  s.TypeIs v T/\∀a,v=.ref a->∃ob,s.heap.get? a=some ob/\ob.dict=none:=by
 cases x with
 |str z=>
  let⟨t,rfl⟩:=r;cases (show T="str" from ty);show⟨typeIs_str s z t,λ_ e=>nomatch e⟩
 |int i=>
  let⟨t,rfl⟩:=r;cases (show T="int" from ty);show⟨typeIs_int s i t,λ_ e=>nomatch e⟩
 |ref p=>
  cases r;rcases ty with ⟨rfl,xs,hq⟩|⟨rfl,xs,hq⟩|⟨rfl,hk⟩|⟨rfl,S,n,hk⟩
  .obtain⟨its,_,pl,_⟩:=I.list hq;show⟨pl.isList.typeIs,λa e=>?_⟩;cases e;let⟨o,n,e,c,hd,_⟩:=pl;show⟨o,e,hd⟩
  .obtain⟨o,h1,h2,h3⟩:=I.RW hq;show⟨⟨o,h1,h2⟩,λa e=>?_⟩;cases e;show⟨o,h1,h3⟩
  .let z:∃o,s.heap.get? p=some o/\o.ExactDict:=by
    rcases hk with ⟨kvs,hk⟩|⟨kvs,hk⟩
    .obtain⟨_,_,_,_,o,_,_,e,ex,_⟩:=I.hok p _ hk;show⟨o,e,ex⟩
    .obtain⟨_,_,_,_,o,_,_,e,ex,_⟩:=I.hok p _ hk;show⟨o,e,ex⟩
   let⟨o,e,ex⟩:=z;show⟨⟨o,e,ex.1⟩,λa e2=>?_⟩;cases e2;show⟨o,e,ex.2.1⟩
  .obtain⟨o,_,_,_,e,ex,_⟩:=I.hok p _ hk;show⟨⟨o,e,ex.1⟩,λa e2=>?_⟩;cases e2;show⟨o,e,ex.2.1⟩
 |_=>show False.elim ty
def tBM(K:W.Frag)(T:String)(r:V->List V->Hp->VK->Prop)(to:TE)(t:TA):TE:=λZ H Q=>to Z H λx H1=>Sy K T x H1/\t Z H1 λxs H2=>r x xs H2 Q
variable {o e:Expr}{es:List Expr}{to:TE}{t:TA}{name:Str}{apos cpos:Pos}{T id:String}{r:V->List V->Hp->VK->Prop}
def Zv(pa:PlainAttrs T)(slot:Slot T name id)(SJ:typeOf (.builtin id)=pure (.type "method_descriptor"))(hm:CZ X id r)(ho:PE X o to)(ha:PA X (e::es) t)
  (bN:attributeBase o name X.env (eval o X.env)=eval o X.env:=by rfl)
  (gR:((backTo cpos (starEach (e::es) X.env)).all (λx=>!x.1)&&(backToKw cpos (keywordEach [] X.env)).all (λx=>x.1.isSome)
  &&decide ((e::es).length+([]:List Keyword).length+(if ([]:List Keyword).isEmpty then 0 else 1)<30))=true:=by rfl)
  (cO:(apos.endLine==cpos.line)=true:=by rfl) (hs:starEach (e::es) X.env=(false,eval e X.env)::starEach es X.env:=by rfl) (bC:(backTo cpos (starEach es X.env)).any (·.1)=false:=by rfl) :
  PE X (.Call (.Attribute o name apos) (e::es) [] cpos) (tBM X.K T r to t):=by
 intro ak s Z H Q I h;show wpAny_Call_method_late bN gR cO rfl (bf (ho ak s Z H _ I h) λv s1 hz=>?_);let⟨x,H1,I1,r1,ty,q1⟩:=hz;let⟨h1,h2⟩:=zm7 I1 r1 ty;show⟨T,id,pa,slot,SJ,h1,h2,?_⟩;let hA:=ha cpos ak s1 Z H1 _ I1 q1;rw[hs]at hA ⊢;show Calls.callWith_builtin (by change (false||(backTo cpos (starEach es X.env)).any (·.1))=false;rw[bC]<;>rfl) (Calls.evalArgs_plain ?_);show bf hA λus s2 hx=>eU hx λvs H2 I2 r2 q2=>hm ak s2 Z H2 x vs v us Q I2 r1 r2 q2
end
def MtM(X:Cx)(id:String)(r:V->List V->Hp->VK->Prop):Prop:=
 ∀(ak:List (Addr×Obj)) (s:Shared) (Z:St) (H:Hp) (x:V) (xs:List V) (v:Value) (us:List Value) (Q:VK),Inv X ak Z H s->RelV x v->Vals xs us->r x xs H Q->
  wpAny (model X.prog X.w) X.A (call (.builtin id) (v::us)) (EP X ak Z Q) X.xe s
def Vals.one{x:V}{us:List Value}(h:Vals [x] us):∃u,us=[u]/\RelV x u:=by
 cases h with
 |cons r t=>cases t;show⟨_,rfl,r⟩
def Vals.two{x y:V}{us:List Value}(h:Vals [x,y] us):∃u v,us=[u,v]/\RelV x u/\RelV y v:=by
 cases h with
 |cons r t=>
  let⟨v,rfl,q⟩:=Vals.one t;show⟨_,_,rfl,r,q⟩
section
variable {X:Cx}{ak:List (Addr×Obj)}{Z:St}{H:Hp}{s:Shared}{l b:Addr}{xs ys zs:List V}
def Inv.SM{its its':List Value}{n:Nat}{f:Array Value->Array Value}{t':Nat}(I:Inv X ak Z H s)(hH:H l=some (.lst xs))
  (e:s.heap.get? l=some {cls:=.type "list",data:=.seq its.toArray n}) (hf:f its.toArray=its'.toArray) (hv:Vals ys its') (hz:ys.length<=sizeLine) :
  Inv X ak Z (upd H l (.lst ys)) {s with heap:=s.heap.update l (Obj.mapSeq f),toks:=t'}:=by
 let q:=PySem.IsL.update e f;rw[hf]at q;show I.write (x:=l) (e:=l) (by rw[hH];show trivial) (.inl rfl) (λb' u hb hu=>(wF s.heap (Obj.mapSeq f) (Ne.symm hb)).trans hu) ⟨_,q⟩ ?_;show⟨hz,its',_,hv,q⟩
theorem Inv.SN{its:List Value}{t':Nat}(I:Inv X ak Z H s)(hv:Vals ys its)(hz:ys.length<=sizeLine) :
  Inv X ak Z (upd H s.heap.objs.size (.lst ys)) {s with heap:=s.heap.push {cls:=.type "list",data:=.seq its.toArray},toks:=t'}:=
 I.laid (λ_ _ q=>bM _ q) (bK _) ⟨hz,its,0,hv,fW _ rfl⟩
theorem Inv.fresh(I:Inv X ak Z H s):H s.heap.objs.size=none:=I.hok.fresh (bK _)
def Inv.SQ(I:Inv X ak Z H s)(hH:H l=some (.lst xs)):xs.length<=sizeLine/\∃(its:List Value) (n:Nat),Vals xs its/\xs.length=its.length/\s.heap.get? l=some {cls:=.type "list",data:=.seq its.toArray n}:=by
 let⟨z,its,n,r,e⟩:=I.hok l _ hH;show⟨z,its,n,r,r.length,e⟩
end
section
variable {X:Cx}
def yN:V->List V->Hp->VK->Prop:=λx vs H Q=>∃l xs y,x=.ref l/\vs=[y]/\H l=some (.lst xs)/\xs.length<sizeLine/\Q .non (upd H l (.lst (xs++[y])))
def Zw:MtM X "list.append" yN:=by
 intro ak s Z H x vs v us Q I rx rv h;let⟨l,xs,y,rfl,rfl,hH,hz,q⟩:=h;cases rx;let⟨u,rfl,ru⟩:=rv.one;let⟨z,its,n,r,hl,e⟩:=I.SQ hH;show B_ F.slot_list_append ⟨_,e,rfl⟩ F.entry_list_append (F.args_list_append_2 _ _) (PySem.list_append l its.toArray n u (by rw[dR];lia)) ⟨e,?_⟩;show⟨.non,_,I.SM (its':=its++[u]) hH e Zaa (r.append (.cons ru .nil)) ?_,rfl,q⟩;rw[gP,List.length_singleton]
 lia
end
section
variable {prog:Program}{w:World}{A:Around}{E:Value->Shared->Prop}{s:Shared}
set_option maxRecDepth 100000 in
end
end L2
namespace Zx
open PySem PySem.W PySem.Calls PyProof.Rows
def zbY{P:Params}{h:Heap}:∀(ns:List Int) (vs:List Value),WellAll P h vs (ns.map WData.int)->IntsAre vs ns:=by
 intro ns
 induction ns with
 |nil=>
  intro vs w;rw[Hy]at w;cases w;show .nil
 |cons n ns ih=>
  intro vs w;rw[jw]at w;cases w with
  |cons a b=>
   cases a;show .cons _ _ (ih _ b)
def zhv{l:OpenLaw}{n:Nat}(hn:l.most=some n){P:Params}{h:Heap}{args:List WData}{vals:List Value}
  (hpre:l.row.toRowW.claim.pre args=true) (Jf:WellAll P h vals args) :
  ∃a vs ns,vals=[Value.ref a]/\args=[WData.list (ns.map WData.int)]/\h.get? a=some {cls:=.type "list",data:=.seq vs.toArray}/\IntsAre vs ns/\ns.length<=n:=by
 let hsh:WShape.hasAll [] args [.list .int]=true:=(pre_splitW hpre).1;let hc:l.pre.holds [] {args:=args}=true:=(pre_splitW hpre).2;let⟨d,r,rfl,h1,h2⟩:=hasAllW_cons hsh;obtain rfl:=hasAllW_nil h2;let⟨xs,rfl,h3⟩:=hasW_list h1;let⟨ns,rfl⟩:=items_int h3;let hlen:ns.length<=n:=by
  unfold OpenLaw.pre at hc;let h4:(WTm.not (.lt (.lit (.int (n:Int))) (.len (.arg 0)))).holds [] {args:=[.list (ns.map .int)]}=true:=by
   let h4:=(holds_andW hc).1;rw[hn]at h4;show h4
  let h5:=condW_of h4 (w_not (w_lt w_lit (w_len_list (w_arg rfl))));rw[bY]at h5;show Hw λq=>?_;let q':(n:Int)<((ns.length:Nat):Int):=by lia
  first
   |(rw[cH q']at h5;show absurd h5 W9)
   |(simp at h5;lia)
 cases Jf with
 |cons w1 w2=>
  cases w2;cases w1 with
  |list ho lK=>show⟨_,_,ns,rfl,rfl,ho,zbY ns _ lK,hlen⟩
theorem zgt(l:OpenLaw)(args:List WData):l.row.toRowW.claim.post args (.bool true) args=true:=
 postW_of (r:=l.row.toRowW) (X:=(true==true))
  (show WShape.has [] (.bool true) .bool=true by first|rfl|decide|simp[WShape.has,WShape.arms,WShape.armsAll])
  (show (WTm.eq .res (.lit (.bool true))).value [] {args:=args,res:=some (.bool true),after:=args}=some (.bool (true==true)) from w_eq_bool (w_res rfl) w_lit) rfl
def oJ{l:OpenLaw}{n:Nat}{q:Program}{loose:List Str}{XP:(Str->Option Value)->Heap->Prop}{YP:World->Heap->Prop}{d:DefRec}
  (hn:l.most=some n) (SX:d.params.defaults=[])
  (call:∀(w:World) (s₀ s₁:Shared) (mg mb:Str->Option Value) (fa:Addr) (o:Obj) (pm cd doc:Value) (a:Addr) (vs:List Value) (ns:List Int),
   Ground q loose [] XP w s₀ mg mb s₁.heap->YP w s₁.heap->
   s₁.heap.get? fa=some o->o.data=.func (docDef d.name d.params d.body d.scope pm cd doc)->s₁.heap.CodeRec cd d.name->mg d.name=some (.ref fa)->
   s₁.heap.get? a=some {cls:=.type "list",data:=.seq vs.toArray}->IntsAre vs ns->ns.length<=n->s₁.gens=#[]->
   codeAny (model l.prog w) callerA (.call (.ref fa) ⟨[.ref a],[]⟩) (λr s'=>r=.ok (.ret (.bool true))/\OldK s₁.heap s'.heap/\s'.os=s₁.os/\AllBare s'.gens) s₁) :
  WalkO q loose XP YP l.row.toRowW d [] (λf vs=>PySem.call f vs):=by
 intro w s₀ s₁ mg mb G Y fa o pm cd doc dV kV ho hd nP hD hmg hg args vals as hpre aac hrd Jf hlo;obtain rfl:dV=.none:=Dflts.none hD SX;obtain rfl:kV=.none:=Dflts.noKw hD;let⟨a,vs,ns,rfl,rfl,Dh,hints,hlen⟩:=zhv hn hpre Jf;show enter_call (Hz (call w s₀ s₁ mg mb fa o pm cd doc a vs ns G Y ho (fd_plain hd) nP hmg Dh hints hlen hg) λr s' hq=>?_);let⟨rfl,h2,h3,h4⟩:=hq;show⟨.inl ⟨.bool true,.bool true,[],rfl,λ_=>rfl,.bool true,zgt l _,λ_=>⟨List.Pairwise.nil,λ_ hm=>(nomatch hm)⟩⟩,h2,h3,h4⟩
end Zx
namespace L2
open PySem PySem.Spec PyProof.Rows
theorem Zy:∀{vs:List Value} {ns:List Int},IntsAre vs ns->Vals (ns.map V.int) vs
 |_,_,.nil=>.nil|_,_,.cons n t h=>.cons ⟨t,rfl⟩ (Zy h)
def Only(H:Hp):Prop:=∀b,H b=none\/∃o xs,H b=some (.uP o (.lst xs))
def zid{P:Program}{w:World}{K:W.Frag}{mg mb:Str->Option Value}{CX:uq}{k:Nat}{fa a:Addr}{fd:FuncData}{x:Str}{sp:Sp}{s₁:Shared}{vs:List Value}{ns:List Int}
  (KX:K.In s₁.heap) (Jg:s₁.heap.Ns mainGlobals mg) (hb:s₁.heap.Ns builtinsNs mb) (hbb:∀x:Str,x≠"__name__"->mb x=bootBuiltins x) (S5:s₁.heap.NoLimit) (hg:s₁.gens=#[])
  (ha:s₁.heap.get? a=some {cls:=.type "list",data:=.seq vs.toArray}) (hi:IntsAre vs ns) (hl:ns.length<=sizeLine) (hr:bT k callerA)
  (F:∀base:Heap,K.In base->base.Ns mainGlobals mg->fM P w K mg base CX true k fa fd [x] sp) (u6:∀(s:Shared) (u:Value),BindsTo s fd ⟨[u],[]⟩ [(x,u)])
  (Oq:∀H:Hp,Only H->dF K H a (ns.map V.int)->sp [.ref a] H (λv _=>v=.bl true) λ_ _ _=>False)
  (hCX:∀H e s',CX [] H s₁ (λ_ _ _=>False) e s'->False) :
  codeAny (model P w) callerA (.call (.ref fa) ⟨[.ref a],[]⟩) (λr s'=>r=.ok (.ret (.bool true))/\OldK s₁.heap s'.heap/\s'.os=s₁.os/\AllBare s'.gens) s₁:=by
 let rv:=Zy hi;let lenV:=hi.length;let core:∀H:Hp,Only H->dF K H a (ns.map V.int)->g8 P w H s₁.heap->(∀b,H b≠none->b=a)->(H a≠none->K.lookup a=none)->
   codeAny (model P w) callerA (.call (.ref fa) ⟨[.ref a],[]⟩) (λr s'=>r=.ok (.ret (.bool true))/\OldK s₁.heap s'.heap/\s'.os=s₁.os/\AllBare s'.gens) s₁:=by
  intro H hO hS hok hA hK;let qY:∀{b:Addr} {o:Obj},s₁.heap.get? b=some o->H b=none->(mQ s₁.heap H).get? b=some o:=λe n=>ziD e n;let IK:∀{b:Addr} {o:Obj} {es:Array DictEntry} {ep:Nat},s₁.heap.get? b=some o->o.data=.dict es ep->H b=none:=λ{b o es ep} e d=>by
   cases q:H b with
   |none=>rfl|some u=>
    let e':b=a:=hA b (by rw[q];simp);subst e';rw[ha]at e;cases e;let d':Data.seq vs.toArray _=Data.dict es ep:=d;cases d'
  let Ov:∀{b:Addr} {m:Str->Option Value},s₁.heap.Ns b m->(mQ s₁.heap H).Ns b m:=λ{b m} ⟨o,es,ep,e,d,r⟩=>⟨o,es,ep,qY e (IK e d),d,r⟩;let Zz:K.In (mQ s₁.heap H):=λb o e=>qY (KX b o e) (by
   cases q:H b with
   |none=>rfl|some u=>
    let e':b=a:=hA b (by rw[q];simp);subst e';rw[hK (by rw[q];simp)]at e;cases e)
  let hM:Mod K mg (mQ s₁.heap H):=⟨Zz,Ov Jg,⟨mb,Ov hb,hbb⟩,let ⟨mc,h1,h2⟩:=S5;⟨mc,Ov h1,h2⟩⟩;let e0:yG P w K mg (mQ s₁.heap H) callerA [] s₁ H:=⟨rfl,hM,λb o e=>zjr e,Nat.le_of_eq (zgg _ _),trivial,λb hb=>absurd (show b∈([]:List Addr) from hb) Zaa,hok,.of_eq hg⟩;show Hz ((F _ Zz (Ov Jg)).run callerA [] s₁ H ⟨[.ref a],[]⟩ [.ref a] [.ref a] _ _ (λ_=>rfl) hr e0 (u6 s₁ (.ref a)) (.cons rfl .nil) (Oq H hO hS)) λr s' h=>?_;cases r with
  |error e=>show(hCX H e s' h).elim|ok fl=>
   cases fl with
   |next=>show False.elim h|brk=>show False.elim h|cont=>show False.elim h|ret u=>
    let⟨v,H',os,bare,un,S6,r',q⟩:=h;let q':v=.bl true:=q;subst q';obtain rfl:u=Value.bool true:=r';show⟨rfl,OldK.of_keep λb o e=>?_,os,bare⟩;cases q:H b with
    |none=>show un.keep b o e q (by intro z;show absurd (show b∈([]:List Addr) from z) Zaa) Zaa|some u=>
     rcases hO b with z|⟨ob,xs,z⟩
     .rw[q]at z;cases z
     .let z2:=un.jM b ob _ z;let⟨e1,_⟩:=hok b _ z;let⟨e2,_⟩:=S6 b _ z2;rw[e]at e1;cases e1;show e2
 cases hk:K.lookup a with
 |some o=>
  let e:=KX a o hk;rw[ha]at e;cases e;show core (λ_=>none) (λ_=>.inl rfl) (.inr ⟨_,vs.toArray,_,hk,rfl,rfl,rfl,by rw[dR,lenV];show hl,by simpa using rv⟩) (λb u z=>by let z':(none:Option HO)=some u:=z;cases z') (λb z=>absurd rfl z) λz=>absurd rfl z
 |none=>
  show core (λb=>if b=a then some (.uP {cls:=.type "list",data:=.seq vs.toArray} (.lst (ns.map V.int))) else none) (λb=>?_) (.inl (.inr ⟨{cls:=.type "list",data:=.seq vs.toArray},if_pos rfl⟩)) (λb u z=>?_) (λb z=>?_) λ_=>hk
  .by_cases hb:b=a
   .exact .inr ⟨_,_,if_pos hb⟩
   .exact .inl (if_neg hb)
  .by_cases hb:b=a
   .let z':=(if_pos hb).symm.trans z;cases z';subst hb;show⟨ha,by rw[bY];show hl,vs,_,rv,ha⟩
   .let z':=(if_neg hb).symm.trans z;cases z'
  .by_cases hb:b=a
   .exact hb
   .exact absurd (if_neg hb) z
def S7(h0:Heap)(H:Hp)(h:Heap)(e:Addr)(hd:Value):Prop:=
 hd=.none\/∃T oT ts,hd=.ref T/\h0.get? T=none/\H T=none/\T≠e/\h.get? T=some oT/\oT.data=.fields ts/\ts[3]?=some .none
structure Exc(h0:Heap)(H:Hp)(h:Heap)(e C:Addr)(dx:Option Addr):Prop where
 new:h0.get? e=none
 un:H e=none
 ob:∃oe vs hd,h.get? e=some oe/\oe.cls=.ref C/\oe.dict=dx/\oe.data=.fields vs/\vs[1]?=some hd/\S7 h0 H h e hd
structure Jh(h0:Heap)(H:Hp)(fr:List Addr)(h h':Heap)(ch:List Addr):Prop where
 rec_:∀b∈ch,h0.get? b=none/\H b=none/\∃o vs,h.get? b=some o/\o.data=.fields vs
 keep:∀b o,h.get? b=some o->b∉fr->b∉ch->h'.get? b=some o
 slot:∀b o,h.get? b=some o->b∈fr->∃sl,h'.get? b=some {o with slots:=sl}
 there:∀b o,h.get? b=some o->∃o',h'.get? b=some o'
def u9(head:Value)(L:Addr)(pl:List Value):Obj:=
 {cls:=.type "traceback",dict:=none,data:=.fields ([head,.ref L,.none,rawInt L,.none]++(if pl.isEmpty then List.replicate 6 Value.none else pl)).toArray}
def ZC(o:Obj)(f:Array Value->Array Value):(o.mapFields f).dict=o.dict:=by
 let⟨c,d,dt,sl⟩:=o;cases dt<;>rfl
def ZD(o:Obj)(f:Array Value->Array Value):(o.mapFields f).cls=o.cls:=by
 let⟨c,d,dt,sl⟩:=o;cases dt<;>rfl
section
variable {M:Model}{A:Around}{E:Value->Shared->Prop}{s:Shared}{base h0:Heap}{env:Env}{outer:List Env}{L e C:Addr}{dx:Option Addr}{H:Hp}{Q:Unit->Shared->Prop}
def ZF(hfr:A.frames=some (env::outer))(hl:s.heap.FunFrames base (env::outer))(hf:env.frame=some L)
  (he:s.heap.get? e=some oe) (hd:oe.data=.fields vs) (lF:1<vs.size)
  (k:∀h' T oT ts,s.heap.objs.size<=T->(∀b o,s.heap.get? b=some o->b∉frs (env::outer)->b≠e->h'.get? b=some o)->(∀b o,s.heap.get? b=some o->b∈frs (env::outer)->∃sl,h'.get? b=some {o with slots:=sl})->
   h'.get? e=some (oe.mapFields (·.setIfInBounds 1 (.ref T)))->h'.get? T=some oT->oT.data=.fields ts->3<ts.size->ts[3]?=some (rawInt L)->Q () {s with heap:=h'}) :
  wpAny M A (do let a <-frameOf env;let pl <-entryPlaceOf L hn;let b <-EntryCells.newEntry head a .none (rawInt L) .none pl;setField (.ref e) 1 b) Q E s:=by
 let Ji:e∉frs (env::outer):=λhm=>by
  let⟨_,o,ho,hx⟩:=hl.mem hm;rw[he]at ho;cases ho;show hx vs hd
 show au (wpAny_frameOf_fun hfr hl hf λh₁ sl₁=>?_);show au (wpAny_entryPlaceOf λpl hpl=>?_);unfold EntryCells.newEntry newFields;show au (pB ?_ (hpl.sizeOk5 _ _ _ _ _));let e1:h₁.get? e=some oe:=(sl₁.2.1 e Ji).trans he;let e2:(h₁.push (u9 head L pl)).get? e=some oe:=bM _ e1;show zW e2 hd lF ?_;let ne:h₁.objs.size≠e:=uL (bJ e1);let d3:=xU hd (·.setIfInBounds 1 (Value.ref h₁.objs.size));let kp:∀b o,h₁.get? b=some o->b≠e->((h₁.push (u9 head L pl)).update e (Obj.mapFields (·.setIfInBounds 1 (Value.ref h₁.objs.size)))).get? b=some o:=λb o q n=>by
  rw[wF _ _ n.symm];show bM _ q
 show k _ h₁.objs.size (u9 head L pl) _ (by rw[sl₁.1];show bK _) (λb o q n1 n2=>kp b o ((sl₁.2.1 b n1).trans q) n2) (λb o q m=>?_) (uJ _ e2 (Nb d3)) ?_ rfl ?_ ?_
 .obtain⟨sl,z⟩:=sl₁.2.2 b o q;show⟨sl,kp b _ z λy=>Ji (y▸m)⟩
 .rw[wF _ _ ne.symm];show fW _ rfl
 .simp only[dR,gP,eN,pQ]<;>lia
 .first
   |(simp;done)
   |(rcases hpl with rfl|⟨_,_,_,_,_,_,_,rfl⟩<;>simp)
def ziq(hfr:A.frames=some (env::outer))(hl:s.heap.FunFrames base (env::outer))(hf:env.frame=some L)(x:Exc h0 H s.heap e C dx)
  (k:∀h' T oT oe ts vs ch,Jh h0 H (frs (env::outer)) s.heap h' ch->s.heap.objs.size<=T->h'.get? e=some oe->oe.cls=.ref C->oe.dict=dx->oe.data=.fields vs->vs[1]?=some (.ref T)->h'.get? T=some oT->oT.data=.fields ts->
   3<ts.size->ts[3]?=some (rawInt L)->Q () {s with heap:=h'}):wpAny M A (noteFrame (.ref e) env) Q E s:=by
 let⟨oe,vs,hd,he,hc,Ag,qZ,h1,tb⟩:=x.ob;let lF:1<vs.size:=(FT.mp h1).1;let Ji:∀b o ws,s.heap.get? b=some o->o.data=.fields ws->b∉frs (env::outer):=λb o ws q d hm=>by
  let⟨_,o',ho,hx⟩:=hl.mem hm;rw[q]at ho;cases ho;show hx ws d
 unfold noteFrame;simp only[hf];show au (j9 he qZ h1 ?_);rcases tb with rfl|⟨T,oT,ts,rfl,nT,uT,neT,gT,dT,h3⟩
 .rw[if_neg W9];show ZF hfr hl hf he qZ lF λh' T oT ts lt kp sl ge gT dT z3 z4=>?_;show k h' T oT _ ts _ [e] ⟨λb hb=>?_,λb o q n1 n2=>kp b o q n1 λz=>n2 (by rw[z];show .head _),sl,λb o q=>?_⟩ lt ge ((ZD _ _).trans hc) ((ZC _ _).trans Ag) (xU qZ _) (by simp[lF]) gT dT z3 z4
  .obtain rfl:b=e:=by simpa using hb
   show⟨x.new,x.un,oe,vs,he,qZ⟩
  .by_cases z:b=e
   .subst z;show⟨_,ge⟩
   .by_cases m:b∈frs (env::outer)
    .obtain⟨w,q'⟩:=sl b o q m;show⟨_,q'⟩
    .exact⟨o,kp b o q m z⟩
 .rw[if_pos (show (Value.ref T != Value.none)=true from by simp)];show au (j9 gT dT h3 ?_);rw[if_neg (show ¬((Value.none==rawInt L)=true) from by simp[rawInt])];let z3:3<ts.size:=(FT.mp h3).1;show au (zW gT dT z3 ?_);let oth:∀b,b≠T->(s.heap.update T (Obj.mapFields (·.setIfInBounds 3 Value.none))).get? b=s.heap.get? b:=λb n=>wF _ _ n.symm;let hl':(s.heap.update T (Obj.mapFields (·.setIfInBounds 3 Value.none))).FunFrames base (env::outer):=hl.of_keeps λb o q nd=>⟨o,(oth b λz=>by subst z;rw[gT]at q;cases q;show nd ts dT).trans q,rfl⟩;let sT:(s.heap.update T (Obj.mapFields (·.setIfInBounds 3 Value.none))).get? T=some (oT.mapFields (·.setIfInBounds 3 Value.none)):=uJ _ gT (Nb (xU dT _));show ZF hfr hl' hf ((oth e neT.symm).trans he) qZ lF λh' T' oT' ts' lt kp sl ge gT' dT' z3' z4'=>?_;let lt':s.heap.objs.size<=T':=by
   let:=lt;simp only[Heap.size_after_update]at this;show this
  show k h' T' oT' _ ts' _ [e,T] ⟨λb hb=>?_,λb o q n1 n2=>kp b o ((oth b λz=>n2 (by simp[z])).trans q) n1 λz=>n2 (by simp[z]),λb o q m=>?_,λb o q=>?_⟩ lt' ge ((ZD _ _).trans hc) ((ZC _ _).trans Ag) (xU qZ _) (by simp[lF]) gT' dT' z3' z4'
  .let hb':b=e\/b=T:=by simpa using hb
   rcases hb' with rfl|rfl
   .exact⟨x.new,x.un,oe,vs,he,qZ⟩
   .exact⟨nT,uT,oT,ts,gT,dT⟩
  .exact sl b o ((oth b λz=>by subst z;show Ji b o ts q (by rw[gT]at q;cases q;show dT) m).trans q) m
  .by_cases z:b=e
   .subst z;show⟨_,ge⟩
   .by_cases y:b=T
    .subst y;show⟨_,kp b _ sT (Ji b oT ts gT dT) z⟩
    .by_cases m:b∈frs (env::outer)
     .obtain⟨w,q'⟩:=sl b o ((oth b y).trans q) m;show⟨_,q'⟩
     .exact⟨o,kp b o ((oth b y).trans q) m z⟩
def ZG(he:s.heap.get? e=some oe)(hd:oe.data=.fields vs)(h1:vs[1]?=some (.ref T))(gT:s.heap.get? T=some oT)(dT:oT.data=.fields ts)(z3:3<ts.size)
  (k:∀h',(∀b o,b≠T->s.heap.get? b=some o->h'.get? b=some o)->h'.get? T=some (oT.mapFields (·.setIfInBounds 3 Value.none))->Q () {s with heap:=h'}):wpAny M A (setFlight (.ref e) none) Q E s:=by
 unfold setFlight;show au (j9 he hd h1 ?_);rw[if_pos (show (Value.ref T != Value.none)=true from by simp)];show zW gT dT z3 (k _ (λb o n q=>(wF _ _ n.symm).trans q) (uJ _ gT (Nb (xU dT _))))
def ZJ(hfr:A.frames=some (env::outer))(hl:s.heap.FunFrames base (env::outer))(hf:env.frame=some L)(x:Exc h0 H s.heap e C dx)
  (qR:∀b,s.heap.objs.size<=b->H b=none) (h0s:∀b o,h0.get? b=some o->∃o',s.heap.get? b=some o')
  (k:∀h' ch,Jh h0 H (frs (env::outer)) s.heap h' ch->Exc h0 H h' e C dx->Q () {s with heap:=h'}) :
  wpAny M A (noteFrame (.ref e) env) (λ_ s₁=>wpAny M A (setFlight (.ref e) none) Q E s₁) E s:=by
 let ele:∃o,s.heap.get? e=some o:=let ⟨oe,_,_,he,_⟩:=x.ob;⟨oe,he⟩;show ziq hfr hl hf x λh' T oT oe ts vs ch t lt ge hc Ag qZ h1 gT dT z3 z4=>?_;let neT:T≠e:=λz=>by
  let⟨o,q⟩:=ele;show absurd (gG (bJ q) (z▸lt)) (oF _)
 show ZG (s:={s with heap:=h'}) ge qZ h1 gT dT z3 λh2 kp gT2=>?_;let nT:∀b o,s.heap.get? b=some o->b≠T:=λb o q z=>absurd (gG (bJ q) (z▸lt)) (oF _);show k h2 ch ⟨t.rec_,λb o q n1 n2=>kp b o (nT b o q) (t.keep b o q n1 n2),λb o q m=>?_,λb o q=>?_⟩ ⟨x.new,x.un,oe,vs,.ref T,kp e oe neT.symm ge,hc,Ag,qZ,h1,.inr ⟨T,_,_,rfl,?_,qR T lt,neT,gT2,xU dT _,by simp[z3]⟩⟩
 .obtain⟨sl,q'⟩:=t.slot b o q m;show⟨sl,kp b _ (nT b o q) q'⟩
 .obtain⟨o',q'⟩:=t.there b o q;show⟨o',kp b o' (nT b o q) q'⟩
 .cases z:h0.get? T with
  |none=>rfl|some o=>
   let⟨o',q⟩:=h0s T o z;show absurd rfl (nT T o' q)
end
noncomputable abbrev XS:=St->Value->Option Addr->Hp->Prop
def Sub(h0 h:Heap):Prop:=∀b o,h0.get? b=some o->∃o',h.get? b=some o'
def Sub.none{h0 h:Heap}(x:Sub h0 h){b:Addr}(e:h.get? b=none):h0.get? b=none:=by
 cases q:h0.get? b with
 |none=>rfl|some o=>
  let⟨o',z⟩:=x b o q;rw[e]at z;cases z
def Exc.older{h0 h1:Heap}{H:Hp}{h:Heap}{e C:Addr}{dx:Option Addr}(x:Exc h1 H h e C dx)(y:Sub h0 h1):Exc h0 H h e C dx:=by
 let⟨oe,vs,hd,a,b,c,d,f,tb⟩:=x.ob;show⟨y.none x.new,x.un,oe,vs,hd,a,b,c,d,f,?_⟩;rcases tb with z|⟨T,oT,ts,z1,z2,z3⟩
 .exact .inl z
 .exact .inr ⟨T,oT,ts,z1,y.none z2,z3⟩
section
variable {X:Cx}{ak:List (Addr×Obj)}{Z:St}{H:Hp}{s:Shared}{h0 h':Heap}{ch fr:List Addr}
theorem g8.Jj{P:Program}{w:World}{h:Heap}(x:g8 P w H h)(t:Jh h0 H fr h h' ch)(hf:∀b∈fr,H b=none):g8 P w H h':=λa o e=>by
 let st:∀b u,(b=a\/H b=some (.own a))->h.get? b=some u->h'.get? b=some u:=λb u z q=>by
  let nb:H b≠none:=by
   rcases z with z|z
   .rw[z,e];simp
   .rw[z];simp
  show t.keep b u q (λm=>nb (hf b m)) λm=>nb (t.rec_ b m).2.1
 show(x a o e).stay st (λ_ z=>z) λ_ _ z=>z
def Inv.Jj(I:Inv X ak Z H s)(t:Jh h0 H (frs X.stack) s.heap h' ch)(hs:∀b o,X.s₀.heap.get? b=some o->b∉X.ex->∃o',h0.get? b=some o')(hp:∀p∈X.pn++ak,∃o,h0.get? p.1=some o):Inv X ak Z H {s with heap:=h'}:=by
 show I.call (g':=s.gens) (d':=s.drawn) (t':=s.toks) (ch:=ch) ⟨λb o q _ n1 n2=>t.keep b o q n1 n2,λb o q _ m _=>t.slot b o q m,λ_ _ _ n _=>n,λb o q _=>t.there b o q,λ_ _ q=>q,λ_ _ _ q=>q,λ_ ps q=>⟨#[],by rw[q];simp⟩⟩ (I.hok.Jj t I.jT) I.bare λb hb=>?_;let⟨n0,_,o,vs,q,d⟩:=t.rec_ b hb;show⟨?_,λz=>?_,λx c e z=>?_,λp hq z=>?_⟩
 .by_cases m:b∈X.ex
  .exact .inl m
  .refine .inr ?_;cases z:X.s₀.heap.get? b with
   |none=>rfl|some u=>
    let⟨o',z'⟩:=hs b u z m;rw[n0]at z';cases z'
 .subst z;let⟨m,⟨ol,es,ep,e1,e2,_⟩,_⟩:=I.loc;rw[q]at e1;cases e1;rw[d]at e2;cases e2
 .subst z;let⟨v,oc,e1,e2⟩:=I.cell x c e;rw[q]at e1;cases e1;rw[d]at e2;cases e2
 .obtain⟨u,e1⟩:=hp p hq;rw[z,n0]at e1;cases e1
end
def Raises(X:Cx)(EX:XS):Prop:=
 ∀(ak:List (Addr×Obj)) (Z:St) (H:Hp) (s:Shared) (h0:Heap) (e C:Addr) (dx:Option Addr),Inv X ak Z H s->(∀b o,X.s₀.heap.get? b=some o->b∉X.ex->∃o',h0.get? b=some o')->
  (∀p∈X.pn++ak,∃o,h0.get? p.1=some o)->Sub h0 s.heap->Exc h0 H s.heap e C dx->EX Z (.ref C) dx H->X.xe (.ref e) s
def lM(P:Program)(w:World):uq:=λouter H s E e s'=>
 ∃(a C:Addr) (dx:Option Addr) (H':Hp),e=.ref a/\s'.os=s.os/\AllBare s'.gens/\Un (frs outer) [] H H' s.heap s'.heap/\g8 P w H' s'.heap/\Exc s.heap H' s'.heap a C dx/\E (.ref C) dx H'
def zfT{P:Program}{w:World}{K:W.Frag}{mg:Str->Option Value}{base:Heap}{N:List Str}{qual:Str}{scope:Scope}{f:Addr}{cd:Value}{A:Around}{outer:List Env}{s:Shared}{H:Hp}{E:XK}{cm:Bool} :
  Raises (iZ (lM P w) P w K mg base N qual scope f cd A outer s H E cm) (λ_ C dx H'=>E C dx H'):=by
 intro ak Z H1 s1 h0 e C dx I hs hp h01 x ex;let I0:Inv (iZ (lM P w) P w K mg base N qual scope f cd A outer s H E cm) [] Z H1 s1:=I.mU λp z=>absurd z Zaa;change wpAny (model P w) (A.deeper (envOfC qual scope s.heap.objs.size f cd)) (leaving (envOfC qual scope s.heap.objs.size f cd) (.ref e)) _ _ s1;unfold leaving;let hsub:Sub s.heap h0:=λb o q=>hs b o q (by change b∉([]:List Addr);simp);show au (ZJ (base:=base) (outer:=outer) (L:=s.heap.objs.size) I0.ok.frames I0.stack rfl x (λb z=>I0.hok.fresh z) h01 λh' ch t x'=>?_);let fin:∀b o,s.heap.get? b=some o->b∉ch:=λb o q m=>by
  let z:=hsub.none (t.rec_ b m).1;rw[q]at z;cases z
 let nL:∀b o,s.heap.get? b=some o->b∉frs outer->b∉frs (envOfC qual scope s.heap.objs.size f cd::outer):=λb o q n m=>by
  let m':b∈s.heap.objs.size::frs outer:=m;rcases cX.mp m' with z|z
  .exact absurd (bJ q) (by rw[z];show oF _)
  .exact n z
 show⟨e,C,dx,H1,rfl,I0.os,I0.bare,⟨λb o q n hb _=>?_,λb o q n hb _=>?_,λb o q n _=>I0.base.free b o q n (by change b∉([]:List Addr);simp),λb o q _=>?_,I0.base.tups,I0.base.jM,I0.base.kj⟩,I0.hok.Jj t I0.jT,x'.older hsub,ex⟩
 .exact t.keep b o (I0.base.keep b o q n hb (by change b∉([]:List Addr);simp)) (nL b o q hb) (fin b o q)
 .obtain⟨sl,q1⟩:=I0.base.slot b o q n hb (by change b∉([]:List Addr);simp);let⟨sl',q2⟩:=t.slot b _ q1 (show b∈s.heap.objs.size::frs outer from dI _ hb);show⟨sl',q2⟩
 .obtain⟨o',q1⟩:=I0.base.there b o q (by change b∉([]:List Addr);simp);show t.there b o' q1
section
variable {X:Cx}{cm:Bool}{k:Nat}{f C:Addr}{fd:FuncData}{ps:List Str}{sp:Sp}{EX:XS}{x m:Str}{p pos apos:Pos}{e o:Expr}{es:List Expr}{ta:TE}{t:TA}
def Raises.pass(R:Raises X EX)(I:Inv X ak Z H s)(h:lM X.prog X.w X.stack H s (EX Z) v s'):X.xe v s':=by
 let⟨a,C,dx,H',rfl,os,bare,un,hok,x,q⟩:=h;let ao:Sub s.heap s'.heap:=λb o z=>un.there b o z Zaa;show R ak Z H' s' s.heap a C dx (I.call' os un hok bare λb z=>absurd z Zaa) (λb o z n=>I.base.there b o z n) (λp hp=>?_) ao x q;show⟨p.2,(I.pin p hp).1⟩
def Di(sp:Sp)(EX:XS)(t:TA):TE:=λZ H Q=>t Z H λvs H1=>sp vs H1 Q (EX Z)
def zkn(F:fM X.prog X.w X.K X.mg X.base (lM X.prog X.w) cm k f fd ps sp)(sU:cm=true->X.aj=true)(hr:bT k X.A)(hb:Binds X.K fd ps [])(R:Raises X EX)
  (I:Inv X ak Z H s) (r:Vals vs us) (h:sp vs H Q (EX Z)):wpAny (model X.prog X.w) X.A (call (.ref f) us) (EP X ak Z Q) X.xe s:=by
 let hl:us.length=ps.length:=by rw[<-r.length];show F.len _ _ _ _ h
 let hb':=hb s us I.sS (by rw[zV];show hl);rw[zV]at hb';show z_ (Hz (F.run X.A X.stack s H ⟨us,[]⟩ us vs Q (EX Z) (λz=>I.ok.hd (sU z)) hr I.env0 hb' r h) λr s' hq=>?_);cases r with
 |error v=>show R.pass I hq|ok fl=>
  cases fl with
  |ret u=>show I.after hq|next=>show False.elim hq|brk=>show False.elim hq|cont=>show False.elim hq
def zi1(F:fM X.prog X.w X.K X.mg X.base (lM X.prog X.w) cm k f fd ps sp)(sU:cm=true->X.aj=true)(hr:bT k X.A)(hg:Gl X x)(hm:X.mg x=some (.ref f))(hk:PySem.W.keepIn X.K (.ref f)=true)(hb:Binds X.K fd ps [])(R:Raises X EX)
  (ha:PA X (e::es) t) (mW:(x==("__debug__" : Str))=false:=by decide) (he:starEach (e::es) X.env=(false,eval e X.env)::starEach es X.env:=by rfl) (hpl:(backTo pos (starEach es X.env)).any (·.1)=false:=by rfl) :
  PE X (.Call (.Name x p) (e::es) [] pos) (Di sp EX t):=by
 intro ak s Z H Q I h;show Hs (Oc I hg hm ?_ mW);show PySem.W.callWith_K (h₀:=X.base) I.ok.mod.Cg hk (bf (ha pos ak s Z H _ I h) λus s1 ⟨vs,H1,I1,r,q⟩=>⟨I1.sS,zkn F sU hr hb R I1 r q⟩) he hpl
def znP{v:Value}{n:String}(h:YD v=some n):v=.type n:=by cases v<;>first|(cases h;rfl)|cases h
def zkb{v:Value}{n:Addr}(h:HD v=some n):v=.ref n:=by cases v<;>first|(cases h;rfl)|cases h
def zkX{v:Value}{n:String}(h:xZ v=some n):v=.builtin n:=by cases v<;>first|(cases h;rfl)|cases h
def zlY{v:Data}{n:ClassData}(h:YF v=some n):v=.cls n:=by cases v<;>first|(cases h;rfl)|cases h
def znA{l:List Value}{p:Value×List Value}(h:YG l=some p):l=p.1::p.2:=by
 cases l with
 |nil=>cases h|cons a r=>cases h;rfl
def S8{α:Type}{o:Option α}{p:α->Bool}(h:o.any p=true):∃a,o=some a/\p a=true:=by
 cases o with
 |none=>cases h|some a=>show⟨a,rfl,h⟩
def zjJ{K:W.Frag}{C:Addr}{bmB:List Value}{newId:String}{ini:Option Value}(q:yc K C bmB newId ini=true) :
  ∃o cd bm,K.lookup C=some o/\o.cls=.type "type"/\o.data=.cls cd/\cd.mro=.ref C::bm/\o.slots.size=6/\(o.slots[4]?.join).bind xZ=some newId/\cd.hasDel=false/\PySem.W.tailIn K bmB bm=true/\PySem.W.nsOkIn K cd.ns=true/\PySem.W.nsIn K cd.ns "__init__"=some ini:=by
 let⟨o,lk,q⟩:=S8 q;let⟨q1,q⟩:=(b_ _ _).mp q;let⟨cd,ec,q⟩:=S8 q;let⟨v,ev,q⟩:=S8 q;simp only[b_,iK,Nm]at q1 q;let⟨⟨⟨⟨⟨⟨q2,q3⟩,q4⟩,q5⟩,q6⟩,q7⟩,q8⟩:=q;show⟨o,cd,v.2,lk,znP q1,zlY ec,by rw[znA ev,zkb q2],q3,q4,q5,q6,q7,q8⟩
def S9{sl:Array (Option Value)}{n:String}(h:sl.size=6)(h4:(sl[4]?.join).bind xZ=some n):∃k0 k1 k2 k3 k5,sl=#[k0,k1,k2,k3,some (.builtin n),k5]:=by
 let⟨v,e,e2⟩:=qM.mp h4;cases zkX e2;show⟨sl[0],sl[1],sl[2],sl[3],sl[5],Array.ext (by simp[h]) λi h1 h2=>?_⟩;let e:sl[4]=some (.builtin n):=by
  rw[xR (show 4<sl.size by lia)]at e;show e
 let:i<6:=by simpa using h2
 rcases i with _|_|_|_|_|_|i
 .rfl
 .rfl
 .rfl
 .rfl
 .exact e
 .rfl
 .lia
def znE{o:Obj}{cd:ClassData}{C:Addr}{bm:List Value}{k0 k1 k2 k3 k5:Option Value}{n:String}(h1:o.cls=.type "type")(h2:o.data=.cls cd)(h3:cd.mro=.ref C::bm)(h4:o.slots=#[k0,k1,k2,k3,some (.builtin n),k5])(h5:cd.hasDel=false) :
  o=excClassObj cd.name cd.qualname C cd.ns cd.bases bm cd.hasDict cd.slotNames cd.subclasses cd.abstract cd.collection o.dict k0 k1 k2 k3 k5 n:=by
 let⟨cls,dd,data,sl⟩:=o;let⟨nm,bs,mro,ns,qn,hd,sn,ao,ab,col,del⟩:=cd;dsimp only at h1 h2 h3 h4 h5;subst h1 h2 h3 h4 h5;rfl
def ziV{K:W.Frag}{h:Heap}{C:Addr}{bmB:List Value}{newId:String}{ini:Option Value}(XI:K.In h)(q:yc K C bmB newId ini=true) :
  ∃bm N nm qn bs hdct sn ao ab col dd k0 k1 k2 k3 k5,h.get? C=some (excClassObj nm qn C N bs bm hdct sn ao ab col dd k0 k1 k2 k3 k5 newId)/\PySem.W.nsOkIn K N=true/\PySem.W.nsIn K N "__init__"=some ini/\OwnTail h bmB bm:=by
 let⟨o,cd,bm,lk,h1,h2,h3,h4,h5,h6,h7,h8,h9⟩:=zjJ q;let⟨k0,k1,k2,k3,k5,e⟩:=S9 h4 h5;show⟨bm,_,_,_,_,_,_,_,_,_,_,k0,k1,k2,k3,k5,(XI _ _ lk).trans (nO some (znE h1 h2 h3 e h6)),h8,h9,PySem.W.tail_of_in XI h7⟩
end
def i_(a C:Addr)(dx:Option Addr):HO:=.ext λh=>∃oe vs,h.get? a=some oe/\oe.cls=.ref C/\oe.dict=dx/\oe.data=.fields vs
def zkx(x:Exc h0 H0 h a C dx):aW P w H h a (i_ a C dx):=by
 let⟨oe,vs,hd,q,c,d,f,_⟩:=x.ob;show⟨⟨oe,vs,q,c,d,f⟩,⟨oe,q⟩,λh1 h2 ⟨o1,v1,q1,c1,d1,f1⟩ k=>⟨o1,v1,k o1 q1,c1,d1,f1⟩⟩
section
variable {X:Cx}{ak:List (Addr×Obj)}{Z:St}{H:Hp}{s:Shared}{e:Addr}{o:HO}
def Inv.track(I:Inv X ak Z H s)(hn:X.s₀.heap.get? e=none)(un:H e=none)(hp:∀p∈X.pn++ak,p.1≠e)(hL:e≠X.env.locals)(hc:∀x c,X.env.cells.lookup x=some c->c≠e)
  (new:aW X.prog X.w (upd H e o) s.heap e o):Inv X ak Z (upd H e o) s:=by
 let ne:∀b u,H b=some u->b≠e:=λb u q z=>by rw[z,un]at q;cases q
 let n0:∀b u,X.s₀.heap.get? b=some u->b≠e:=λb u q z=>by rw[z,hn]at q;cases q
 show⟨I.ok,I.os,I.bare,⟨I.base.keep,I.base.slot,λb u q n hx=>?_,I.base.there,λb xs q=>?_,λb u v q=>?_,λb ps q=>?_⟩,I.loc,I.cell,?_,λx c q=>?_,λp q=>?_,λb u q=>?_,I.len⟩
 .rw[dB (n0 b u q)];show I.base.free b u q n hx
 .let z:=I.base.tups b xs q;rw[dB (ne b _ z)];show z
 .let z:=I.base.jM b u v q;rw[dB (ne b _ z)];show z
 .obtain⟨m,z⟩:=I.base.kj b ps q;show⟨m,by rw[dB (ne b _ z)];show z⟩
 .rw[dB hL.symm];show I.free
 .rw[dB (hc x c q)];show I.fC x c q
 .obtain⟨a1,a2,a3⟩:=I.pin p q;show⟨a1,by rw[dB (hp p q)];show a2,a3⟩
 .by_cases z:b=e
  .subst z;rw[iU]at q;cases q;show new
  .rw[dB z]at q;show(I.hok b u q).stay (λ_ _ _ r=>r) (λc r=>by rw[dB (ne c _ r)];show r) λc xs r=>by rw[dB (ne c _ r)];show r
def Cx.seen(X:Cx)(A:Around)(aj:Bool)(pn:List (Addr×Obj))(E:Value->Shared->Prop):Cx:={X with A:=A,aj:=aj,pn:=pn,xe:=E}
theorem Inv.seen(I:Inv X ak Z H s)(hA:A.frames=X.A.frames)(hc:c=true->A.handled=none)(hp:∀p∈pn++ps,p∈X.pn++ak):Inv (X.seen A c pn E) ps Z H s:=
 ⟨⟨I.ok.mod,I.ok.kind,I.ok.glob,I.ok.blt,I.ok.above,I.ok.inj,I.ok.has,I.ok.cab,hc,hA.trans I.ok.frames,I.ok.stk,I.ok.YT,I.ok.bs,I.ok.Ac,I.ok.uQ,I.ok.yp,I.ok.kE,I.ok.Gu⟩,I.os,I.bare,I.base,I.loc,I.cell,I.free,I.fC,λp z=>I.pin p (hp p z),I.hok,I.len⟩
theorem Inv.f9(I:Inv (X.seen A c pn E) ps Z H s)(hA:X.A.frames=A.frames)(hc:X.aj=true->X.A.handled=none)(hp:∀p∈X.pn++ak,p∈pn++ps):Inv X ak Z H s:=
 ⟨⟨I.ok.mod,I.ok.kind,I.ok.glob,I.ok.blt,I.ok.above,I.ok.inj,I.ok.has,I.ok.cab,hc,hA.trans I.ok.frames,I.ok.stk,I.ok.YT,I.ok.bs,I.ok.Ac,I.ok.uQ,I.ok.yp,I.ok.kE,I.ok.Gu⟩,I.os,I.bare,I.base,I.loc,I.cell,I.free,I.fC,λp z=>I.pin p (hp p z),I.hok,I.len⟩
def SP.f9(h:SP (X.seen A c pn E) ps D f s)(hA:X.A.frames=A.frames)(hc:X.aj=true->X.A.handled=none)(hp:∀p∈X.pn++ak,p∈pn++ps):SP X ak D f s:=by
 cases f with
 |next=>let⟨a,b,cj,q⟩:=h;show⟨a,b,cj.f9 hA hc hp,q⟩|brk=>let⟨a,b,cj,q⟩:=h;show⟨a,b,cj.f9 hA hc hp,q⟩|cont=>let⟨a,b,cj,q⟩:=h;show⟨a,b,cj.f9 hA hc hp,q⟩|ret u=>let⟨v,a,b,cj,r,q⟩:=h;show⟨v,a,b,cj.f9 hA hc hp,r,q⟩
def Inv.gone(I:Inv X ak Z H s)(hN:X.N.Nodup)(hi:X.N[i]?=some n)(hl:X.env.kindOf n=some .local)(hm:s.heap.Ns X.env.locals m)
  (hn:h'.Ns X.env.locals (λx=>if x=n then v else m x)) (sb:Heap.SameBut X.env.locals s.heap h'):Inv X ak (Z.set i none) H {s with heap:=h',toks:=t'}:=by
 let kp:∀b u,b≠X.env.locals->s.heap.get? b=some u->h'.get? b=some u:=λb u z q=>(sb.2 b z).trans q;let n0:∀b u,X.s₀.heap.get? b=some u->b≠X.env.locals:=λb u q=>cR (gG (bJ q) I.ok.above);let nH:∀b u,H b=some u->b≠X.env.locals:=λb u q z=>by rw[z,I.free]at q;cases q
 show⟨I.ok,I.os,I.bare,⟨λb u q n hb hx=>kp b u (n0 b u q) (I.base.keep b u q n hb hx),λb u q n hb hx=>?_,I.base.free,λb u q hx=>?_,I.base.tups,I.base.jM,I.base.kj⟩,⟨_,hn,λj x w e1 e2 e3=>?_⟩,λx c q=>?_,I.free,I.fC,λp q=>?_,λb u q=>?_,by rw[lE];show I.len⟩
 .obtain⟨sl,z⟩:=I.base.slot b u q n hb hx;show⟨sl,kp b _ (n0 b u q) z⟩
 .obtain⟨u',z⟩:=I.base.there b u q hx;show⟨u',kp b u' (n0 b u q) z⟩
 .let ZK:i≠j:=λz=>by
   subst z;by_cases hl:i<Z.length
   .rw[wD hl]at e2;cases e2
   .rw[FZ (by rw[lE];lia)]at e2;cases e2
  rw[oE ZK]at e2;let⟨m2,Ow,u_⟩:=I.loc;let⟨u,r,l⟩:=u_ j x w e1 e2 e3;show⟨u,r,?_⟩;rcases l with ⟨k1,k2⟩|⟨k1,c,k2,oc,k3,k4⟩
  .refine .inl ⟨k1,?_⟩;let nx:x≠n:=λz=>ZK (RK hN (by rw[z]at e1;show hi) (z▸e1));let em:m=m2:=by
    let⟨o1,es1,ep1,g1,d1,t1,f1⟩:=hm;let⟨o2,es2,ep2,g2,d2,t2,f2⟩:=Ow;rw[g1]at g2;cases g2;rw[d1]at d2;cases d2
    funext y
    rw[<-f1,<-f2]
   change (if x=n then v else m x)=some u;rw[if_neg nx,em];show k2
  .exact .inr ⟨k1,c,k2,oc,kp c oc (I.yq x c k2) k3,k4⟩
 .obtain⟨u,oc,k3,k4⟩:=I.cell x c q;show⟨u,oc,kp c oc (I.yq x c q) k3,k4⟩
 .obtain⟨a1,a2,a3,a4⟩:=I.pin p q;show⟨kp _ _ a3 a1,a2,a3,a4⟩
 .exact(I.hok b u q).stay (λc w z r=>kp c w (z.elim (λy=>y▸nH b u q) λy=>nH c _ y) r) (λ_ r=>r) λ_ _ r=>r
end
def zit(x:Exc h0 H s.heap e C dx)(hf:∀b∈fr,∀o vs,s.heap.get? b=some o->o.data≠.fields vs)
  (k:∀h' ch,Jh h0 H fr s.heap h' ch->Exc h0 H h' e C dx->Q () {s with heap:=h'}):wpAny M A (setFlight (.ref e) none) Q E s:=by
 let⟨oe,vs,hd,he,hc,Ag,qZ,h1,tb⟩:=x.ob;rcases tb with rfl|⟨T,oT,ts,rfl,nT,uT,neT,gT,dT,h3⟩
 .unfold setFlight;show au (j9 he qZ h1 ?_);rw[if_neg W9];show aH (k s.heap [] {rec_:=(λ_ z=>nomatch z),keep:=(λb o q _ _=>q),slot:=(λb o q _=>⟨o.slots,q⟩),there:=(λb o q=>⟨o,q⟩)} x)
 .refine ZG he qZ h1 gT dT (FT.mp h3).1 λh' kp g'=>?_;let z3:3<ts.size:=(FT.mp h3).1;show k h' [T] ⟨λb z=>?_,λb o q _ n=>kp b o (λz=>n (by simp[z])) q,λb o q m=>?_,λb o q=>?_⟩ ⟨x.new,x.un,oe,vs,.ref T,kp e oe neT.symm he,hc,Ag,qZ,h1,.inr ⟨T,_,_,rfl,nT,uT,neT,g',xU dT _,by simp[z3]⟩⟩
  .obtain rfl:b=T:=by simpa using z
   show⟨nT,uT,oT,ts,gT,dT⟩
  .refine⟨o.slots,kp b o (λz=>?_) q⟩;subst z;rw[gT]at q;cases q;show hf b m _ ts gT dT
  .by_cases z:b=T
   .subst z;show⟨_,g'⟩
   .exact⟨o,kp b o z q⟩
def zch{M:Model}{A:Around}{E:Value->Shared->Prop}{K:W.Frag}{h:Heap}{g:Array GenState}{d:Drawn}{t:Nat}{os:OsState}{e C D:Addr}{oe:Obj}{Q:Bool->Shared->Prop}(KI:K.In h)(q:subIn K C D=true)
  (he:h.get? e=some oe) (Cu:oe.cls=.ref C) (hq:Q true ⟨h,g,d,t,os⟩):wpAny M A (excMatches (.ref e) (.ref D)) Q E ⟨h,g,d,t,os⟩:=by
 unfold subIn at q;simp only[b_]at q;let⟨⟨q1,q2⟩,q3⟩:=q;let⟨nm,qn,N,bs,bm,hdct,sn,ao,ab,col,dd,k0,k1,k2,k3,k5,newId,hC,_,_⟩:=PySem.W.kts_cls KI q1;let⟨nm',qn',N',bs',bm',ZL,sn',sub',ab',col',S_,k0',k1',k2',k3',k5',newId',hD,hb',_⟩:=PySem.W.kts_cls KI q2;let m1:(Value.ref C::bm).contains (.ref D)=true:=by
  split at q3
  .rename_i c0 d0 cd sl lk;let z:=KI _ _ lk;rw[hC]at z;cases z;show q3
  .cases q3
 let m2:(Value.ref D::bm').contains (.type "BaseException")=true:=by rw[Rt,hb',Bool.or_true]
 let f:=tc_notTuple;unfold excMatches
 repeat (first|(with_reducible show BP he ?_;rw[Cu])|with_reducible show BP hD ?_|(with_reducible show Ng hD ?_;rw[m2])|(with_reducible show Ng hC ?_;rw[m1])|wp_step)
 show hq
def vd(D:Ends)(i:Nat):Ends:={nx:=λZ H=>D.nx (Z.set i none) H,rt:=D.rt,bk:=λZ H=>D.bk (Z.set i none) H,ct:=λZ H=>D.ct (Z.set i none) H}
def Jk(K:W.Frag)(Dc:Addr)(i:Nat)(th:TS)(D:Ends):XS:=λZ C dx H=>∃Ca,C=.ref Ca/\subIn K Ca Dc=true/\∀a,H a=none->th (vd D i) (Z.set i (some (.ref a))) (upd H a (i_ a Ca dx))
section
variable {X:Cx}{x n:Str}{np vf pos:Pos}{b₀:Stmt}{body suite:List Stmt}{Dc:Addr}{i:Nat}{tb:XS->TS}{th:TS}
def zmQ(hex:X.ex=[])(pF:X.stack=X.env::X.outer/\X.env.frame=some X.env.locals)(hg:Gl X x)(hm:X.mg x=some (.ref Dc))(hN:X.N.Nodup)(hi:X.N[i]?=some n)(hl:X.env.scope.names.lookup n=some .local)
  (hb:∀(pn:List (Addr×Obj)) (E':Value->Shared->Prop) (uw:XS),Raises (X.seen X.A X.aj pn E') uw->PassesOwn (model X.prog X.w) X.A X.env E'->pD (X.seen X.A X.aj pn E') body (tb uw))
  (hh:∀e:Value,pD (X.seen (X.A.mark (some e)) false X.pn (λ_ _=>False)) (b₀::suite) th) (mW:(x==("__debug__" : Str))=false:=by decide) :
  PS X (.Try body [.ExceptHandler (some (.Name x np)) (some n) (b₀::suite) vf] [] [] pos) (λD Z H=>tb (Jk X.K Dc i th D) D Z H):=by
 intro ak s Z H D I h;show wpAny_Try_except ?_;let B:=hb (X.pn++ak) (λe s₁=>wpAny (model X.prog X.w) X.A (noteFrame e X.env) (λ_ s₂=>wpAny (model X.prog X.w) X.A (setFlight e none) (λ_ s₃=>wpAny (model X.prog X.w) X.A (handleBy e X.env [.ExceptHandler (some (.Name x np)) (some n) (b₀::suite) vf]) (SP X ak D) X.xe s₃) X.xe s₂) X.xe s₁) (Jk X.K Dc i th D) ?R PassesOwn.looking [] s Z H D (I.seen rfl I.ok.hd (by intro p z;simpa using z)) h
 case R=>
  intro uR Z' H' s' h0 e C dx cj hs hp ao xc ⟨Ca,eC,sI,k⟩;cases eC;let I1:Inv X ak Z' H' s':=cj.f9 rfl I.ok.hd (λp z=>uc _ z);let Tc:∀p∈X.pn++ak,∃o,h0.get? p.1=some o:=λp z=>hp p (uc _ z);change wpAny (model X.prog X.w) X.A (noteFrame (.ref e) X.env) _ X.xe s';show ZJ (base:=X.base) (outer:=X.outer) (L:=X.env.locals) (I1.ok.frames.trans (nO some pF.1)) (pF.1▸I1.stack) pF.2 xc (λb z=>I1.hok.fresh z) ao λh1 ch1 t1 x1=>?_;let I2:=I1.Jj (pF.1▸t1) hs Tc;show wpAny_handleBy_cons (codeAny_handlers_test ?_) (by intro z;cases z);let I2h:Inv (X.seen (X.A.mark (some (.ref e))) false X.pn (λ_ _=>False)) ak Z' H' {s' with heap:=h1}:=I2.seen rfl (λz=>by cases z) (λp z=>z);show Oc (E:=_) I2h hg hm ?_ mW;let⟨oe,vs,hd,g1,c1,d1,f1,_⟩:=x1.ob;show zch I2.sS sI g1 c1 ?_;show codeAny_handlers_suite_as ?_;let Td:∀b∈frs X.stack,∀o vs,h1.get? b=some o->o.data≠.fields vs:=λb hb o vs q d=>by
   let⟨_,o',q',nd⟩:=I2.stack.mem hb;let q'':h1.get? b=some o':=q';rw[q]at q'';cases q'';show nd vs d
  show zit (s:={s' with heap:=h1}) (fr:=frs X.stack) x1 Td λh2 ux t2 x2=>?_;let I3:Inv X ak Z' H' {s' with heap:=h2}:=I2.Jj t2 hs Tc;let⟨oe2,vs2,hd2,g2,c2,d2,f2,_⟩:=x2.ob;let ns0:X.s₀.heap.get? e=none:=by
   cases z:X.s₀.heap.get? e with
   |none=>rfl|some u=>
    let⟨u',z'⟩:=hs e u z (by change e∉X.ex;rw[hex];simp);rw[x2.new]at z';cases z'
  let nL:e≠X.env.locals:=λz=>by
   let⟨m,⟨ol,es,ep,e1,e2,_⟩,_⟩:=I3.loc;let e1':h2.get? X.env.locals=some ol:=e1;rw[<-z,g2]at e1';cases e1';rw[f2]at e2;cases e2
  let nC:∀y c,X.env.cells.lookup y=some c->c≠e:=λy c q z=>by
   let⟨v,oc,e1,e2⟩:=I3.cell y c q;let e1':h2.get? c=some oc:=e1;rw[z,g2]at e1';cases e1';rw[f2]at e2;cases e2
  let I4:=I3.track (o:=i_ e C dx) ns0 x2.un (λp z y=>by
   let⟨u,q⟩:=Tc p z;rw[y,x2.new]at q;cases q) nL nC (zkx x2)
  let I4h:Inv (X.seen (X.A.mark (some (.ref e))) false X.pn (λ_ _=>False)) ak Z' (upd H' e (i_ e C dx)) {s' with heap:=h2}:=I4.seen rfl (λz=>by cases z) (λp z=>z);show Ib (X:=X.seen (X.A.mark (some (.ref e))) false X.pn (λ_ _=>False)) (v:=.ref e) I4h hN hi (.inl hl) rfl (λs5 I5=>?_) (.inr hl);show jy (hh (.ref e) ak s5 _ _ (vd D i) I5 (k e x2.un)) (λf s6 q6=>?_) (λ_ _ z=>z.elim);let hkd:(X.env.scope.kind==.class||(X.env.scope.kind==.module&&X.env.locals != X.env.globals))=false:=by rw[I.ok.kind];rfl
  let fin:∀{Z6:St} {H6:Hp} {Q:Shared->Prop},Inv (X.seen (X.A.mark (some (.ref e))) false X.pn (λ_ _=>False)) ak Z6 H6 s6->(∀s7,Inv X ak (Z6.set i none) H6 s7->Q s7)->
    wpAny (model X.prog X.w) X.A (do bindName X.env n .none;unbindBehindTheSuite X.env n vf) (λ_ s7=>Q s7) X.xe s6:=λ{Z6 H6 Q} jd kq=>by
   let cj:Inv X ak Z6 H6 s6:=jd.f9 rfl I.ok.hd (λp z=>z);let⟨m,ZM,_⟩:=id cj.loc;show wpAny_nameGoes_keeps hl ZM hkd λh' v yr sb=>kq _ (cj.gone hN hi hl ZM yr sb)
  cases f with
  |next=>let⟨Z6,H6,jd,q⟩:=q6;show fin jd λs7 mZ=>⟨_,_,mZ,q⟩|brk=>let⟨Z6,H6,jd,q⟩:=q6;show fin jd λs7 mZ=>⟨_,_,mZ,q⟩|cont=>let⟨Z6,H6,jd,q⟩:=q6;show fin jd λs7 mZ=>⟨_,_,mZ,q⟩|ret u=>let⟨v,Z6,H6,jd,r,q⟩:=q6;show fin jd λs7 mZ=>⟨v,_,_,mZ,r,q⟩
 show jy B (λf s1 q=>?_) λ_ _ z=>z;let q':SP X ak D f s1:=SP.f9 q rfl I.ok.hd (by intro p z;simpa using z);cases f with
 |next=>show Ny q'|brk=>show q'|cont=>show q'|ret u=>show q'
end
end L2
namespace L2
open PySem PySem.Spec PyProof.Rows PySem.W Builtin.ObjectAttr
section
variable {prog:Program}{w:World}{A:Around}{E:Value->Shared->Prop}{s:Shared}{K:Frag}{x C:Addr}{ox:Obj}{od:Option Obj}{name:Str}{tk:Tok}
def zjz(XI:K.In s.heap)(I:InstAt s.heap x ox C od)(hf:findObj K C od name=some r)
  (h:match r with|.value v=>Q (.done (.ret v)) s|.bind g a=>wpAny (model prog w) A (call g [a,.ref x,.ref C]) (λv s'=>Q (.done (.ret v)) s') E s|.missing=>False) :
  wpAny (model prog w) A (Builtin.«object.__getattribute__» ⟨[.ref x,.str name tk],[]⟩) Q E s:=by
 let⟨hh,g,d,t,os⟩:=s;let L0:=I.type (M:=model prog w);let L1:=looks_find (M:=model prog w) XI I hf;unfold Builtin.«object.__getattribute__»;show au (BX (a:=(Value.ref x,[Value.str name tk])) (by rfl) ?_);show au (BX (a:=name) (by rfl) ?_);show au (L0.at (au (L1.at ?_)));cases r with
 |value v=>show aH h|bind g a=>
  change wpAny _ _ (holding [a] (call g [a,.ref x,.ref C]) >>= ret) _ _ _;show au (iJ (jy h (λv s' z=>aH z) λ_ _ z=>z))
 |missing=>show h.elim
def ZP(XI:K.In s.heap)(I:InstAt s.heap x ox C od)(hb:mroIn K C (.type "BaseException")=some true)(hf:findObj K C od name=some r)
  (h:match r with|.value v=>R (.ok (.ret v)) s|.bind g a=>wpAny (model prog w) A.in1 (call g [a,.ref x,.ref C]) (λv s'=>R (.ok (.ret v)) s') (λe s'=>R (.error e) s') s|.missing=>False) :
  codeAny (model prog w) A (.call (.builtin "BaseException.__getattribute__") ⟨[.ref x,.str name tk],[]⟩) R s:=by
 let hk:builtinKind "BaseException.__getattribute__"=some .slot:=by decide +kernel
 let Dj:splitId "BaseException.__getattribute__"=some ("BaseException","__getattribute__"):=by decide +kernel
 let ha:=F.args_bexc_ga (.ref x) (.str name tk);show Rn F.attr_ValueError.ga.plain F.entry_bexc_ga ?_;let fin:wpAny (model prog w) A.in1 (Builtin.«object.__getattribute__» ⟨[.ref x,.str name tk],[]⟩) (λfin s'=>match fin with|.done f=>R (.ok f) s'|.again c'=>c'.quiet=true/\codeAny (model prog w) A c' R s') (λe s'=>R (.error e) s') s:=by
  show zjz XI I hf ?_;cases r with
  |value v=>show h|bind g a=>show h|missing=>show h.elim
 let chk:∀Q:Unit->Shared->Prop,Q () s->wpAny (model prog w) A.in1 (checkBuiltinCall "BaseException.__getattribute__" ⟨[.ref x,.str name tk],[]⟩) Q (λe s'=>R (.error e) s') s:=λQ hq=>by
  let⟨hh,g,d,t,os⟩:=s;let L0:=I.type (M:=model prog w);let L1:=looks_mroIn (M:=model prog w) XI hb;let LI:Looks (model prog w) hh (isInstance (.ref x) (.type "BaseException")) true:=L0.andThen L1;simp only[checkBuiltinCall,hk,Dj];show au ?_
  repeat (first|with_reducible show hq|with_reducible show LI.at ?_|wp_step)
 show chk _ fin
def bexc_get?(XI:K.In s.heap)(I:InstAt s.heap x ox C od)(hb:mroIn K C (.type "BaseException")=some true)(Te:findIn K (.ref C) "__getattribute__"=some (some (.builtin "BaseException.__getattribute__")))
  (Tf:findIn K (.ref C) "__getattr__"=some none) (hf:findObj K C od name=some r)
  (h:match r with|.value v=>wpAny (model prog w) A (handedOut v) (λu s'=>Q (some u) s') (λ_ _=>False) {s with toks:=s.toks+1}|.bind g a=>wpAny (model prog w) A.in1 (call g [a,.ref x,.ref C]) (λv s'=>wpAny (model prog w) A (handedOut v) (λu s''=>Q (some u) s'') (λ_ _=>False) s') (λ_ _=>False) {s with toks:=s.toks+1}|.missing=>False) :
  wpAny (model prog w) A (getAttr? (.ref x) name) Q E s:=by
 let⟨hh,g,d,t,os⟩:=s;let L0:=I.type (M:=model prog w);let L1:=Gn (M:=model prog w) XI Te;let L2:=Gn (M:=model prog w) XI Tf;let yO:(Value.builtin "BaseException.__getattribute__"==Value.builtin "object.__getattribute__")=false:=by decide +kernel
 unfold getAttr? getAttrBy? getAttrBy;show au (wpAny_mkText (au (BW (iJ (au (L0.at (au (L1.at ?_))))))));change wpAny _ _ (if (onTheHeap (.ref C)&&(Value.builtin "BaseException.__getattribute__"==Value.builtin "object.__getattribute__"))=true then _ else getAttrByItsOwn _ _ _ _ _ _) _ _ _;rw[yO,NT,if_neg W9];unfold getAttrByItsOwn hookBefore callGetattribute boundAndCalled;show au (L2.at ?_);show au (BW (iJ (au (BX (F.attr_ValueError.ga.bind (.ref x)) ?_))));show z_ (ZP XI I hb hf ?_);cases r with
 |value v=>show jy h (λv s'' hv=>aH hv) (λ_ _ z=>z.elim)|bind g a=>show jy h (λv s' hv=>jy hv (λu s'' z=>aH z) λ_ _ z=>z.elim) (λ_ _ z=>z.elim)|missing=>show h.elim
end
structure XC(K:Frag)(C:Addr):Prop where
 ga:findIn K (.ref C) "__getattribute__"=some (some (.builtin "BaseException.__getattribute__"))
 gn:findIn K (.ref C) "__getattr__"=some none
 cl:findIn K (.ref C) "__class__"=some (some (.builtin "object.__class__"))
 mb:mroIn K C (.type "BaseException")=some true
 mo:mroIn K C (.type "object")=some true
 cd:(clsIn K C).isSome=true
 dg:specialIn K (.builtin "object.__class__") "__get__"=some (some (.builtin "getset_descriptor.__get__"))
 dt:takesIn K (.builtin "object.__class__")=some true
def zgx{K:Frag}{C:Addr}{od:Option Obj}{name:Str}{a g:Value}(hc:(clsIn K C).isSome=true)(ha:findIn K (.ref C) name=some (some a))(hg:specialIn K a "__get__"=some (some g))(ht:takesIn K a=some true):findObj K C od name=some (.bind g a):=by
 let⟨cd,z⟩:=M4.mp hc;simp only[findObj,z,ha,hg,ht,Option.bind_some]
theorem ZQ{K:Frag}{e C:Addr}(c:XC K C):KitX K (.ref e) (.ref C) (λh=>∃ox od,InstAt h e ox C od) where
 ty:=λ_ _ _ ⟨_,_,I⟩=>I.type
 it:=λ_ _ XI _=>by
  let q:=c.cd;unfold clsIn at q;split at q
  .rename_i c' d' cd' sl' lk;intro A' Q' E' s' k z;unfold isType loadHead;show au (wpAny_loadPart (k _ _ (XI _ _ lk)) (aH z))
  .cases q
 ne:=λh tp dd its n sl XI htp=>by
  show Bool.eq_false_iff.mpr λz=>?_;let ee:C=tp:=Value.ref.inj (iK.mp z);subst ee;let q:=c.cd;unfold clsIn at q;split at q
  .rename_i c' d' cd' sl' lk;let y:=(XI _ _ lk).symm.trans htp;cases y
  .cases q
 ca:=λ{prog w A E Q s} XI ⟨ox,od,I⟩ k=>by
  let hf:findObj K C od "__class__"=some (.bind (.builtin "getset_descriptor.__get__") (.builtin "object.__class__")):=zgx c.cd c.cl c.dg c.dt;show bexc_get? XI I c.mb c.ga c.gn hf ?_;show z_ (class_get (s:={s with toks:=s.toks+1}) (ox:=ox) (od:=od) XI I c.mo (handed_on rfl k))
end L2
namespace L2
open PySem PySem.Spec PyProof.Rows
def zfY:∀(names:List (Str×NameKind)) (cs:List (Str×Addr)),(∀x∈names,x.2=.free->∃c,env.cells.lookup x.1=some c)->(∀x c,cs.lookup x=some c->env.cells.lookup x=some c)->
  ∃cl,(forIn names cs λx r=>(do
    if x.2==.free then
     let a <-cellOf env x.1
     pure (ForInStep.yield ((x.1,a)::r))
    else pure (ForInStep.yield r)):Sem (List (Str×Addr)))=pure cl/\(∀x c,cl.lookup x=some c->env.cells.lookup x=some c)/\(∀x c,cs.lookup x=some c->cl.lookup x=some c)/\∀x∈names,x.2=.free->∃c,cl.lookup x.1=some c:=by
 intro names
 induction names with
 |nil=>intro cs _ h;show⟨cs,rfl,h,λ_ _ q=>q,λx z=>nomatch z⟩
 |cons y r ih=>
  intro cs h1 h2;let⟨n,k⟩:=y;by_cases hk:k=.free
  .subst hk;let⟨c,hc⟩:=h1 (n,.free) fK rfl;let hc:env.cells.lookup n=some c:=hc;let h3:∀x d,((n,c)::cs).lookup x=some d->env.cells.lookup x=some d:=λx d q=>by
    rw[nJ]at q;by_cases z:x=n
    .subst z;simp at q;subst q;show hc
    .let z':(x==n)=false:=by simpa using z
     rw[z']at q;show h2 x d q
   let⟨cl,e,a,b,d⟩:=ih ((n,c)::cs) (λx z=>h1 x (dI _ z)) h3;let hco:cellOf env n=pure c:=by
    unfold cellOf;rw[hc]
   show⟨cl,?_,a,λx q z=>?_,λx z q=>?_⟩
   .rw[Gj];simp only[zR,if_true,hco];show e
   .by_cases y:x=n
    .subst y;let z1:=h2 x q z;rw[hc]at z1;cases z1;show b x c Zaa
    .let y':(x==n)=false:=by simpa using y
     show b x q (by rw[nJ,y'];show z)
   .rcases cX.mp z with z|z
    .subst z;show⟨c,b n c Zaa⟩
    .exact d x z q
  .let hb:(k==NameKind.free)=false:=by simpa using hk
   let⟨cl,e,a,b,d⟩:=ih cs (λx z=>h1 x (dI _ z)) h2;show⟨cl,?_,a,b,λx z q=>?_⟩
   .rw[Gj];simp only[hb,jt,iR];show e
   .rcases cX.mp z with z|z
    .subst z;show absurd q hk
    .exact d x z q
def zfV(h:∀x∈scope.names,x.2=.free->∃c,env.cells.lookup x.1=some c):∃cl,closureFor scope env=pure cl/\(∀x c,cl.lookup x=some c->env.cells.lookup x=some c)/\∀x∈scope.names,x.2=.free->∃c,cl.lookup x.1=some c:=by
 let⟨cl,e,a,_,d⟩:=zfY scope.names [] h (λx c q=>by cases q);show⟨cl,?_,a,d⟩;unfold closureFor;let e':=e;simp only[pure_bind,bind_pure]at e' ⊢;show e'
theorem Ti{env:Env}{k:NameKind}:∀{names:List (Str×NameKind)} {x:Str},(names.map λ(n,k)=>if (k==NameKind.free&&env.scope.kind==.function&&env.kindOf n==some .cell) then (n,NameKind.cell) else (n,k)).lookup x=some k->
  names.lookup x=some k\/(k=.cell/\names.lookup x=some .free)
 |[],x,h=>by simp at h|(n,q)::r,x,h=>by
  rw[jw,nJ]at h;rw[nJ];let hd:∀c:Bool,(if c=true then (n,NameKind.cell) else (n,q)).1=n:=λc=>by cases c<;>rfl
  rw[hd]at h;by_cases z:x=n
  .subst z;simp only[zR]at h ⊢;split at h
   .rename_i y;simp only[b_,iK]at y;cases h;show .inr ⟨rfl,by rw[y.1.1]⟩
   .cases h;show .inl rfl
  .let z':(x==n)=false:=by simpa using z
   simp only[z']at h ⊢;show Ti h
theorem Tj{env:Env}:∀{names:List (Str×NameKind)} {x:Str},names.lookup x=some .free->
  (names.map λ(n,k)=>if (k==NameKind.free&&env.scope.kind==.function&&env.kindOf n==some .cell) then (n,NameKind.cell) else (n,k)).lookup x=some .cell \/
  (names.map λ(n,k)=>if (k==NameKind.free&&env.scope.kind==.function&&env.kindOf n==some .cell) then (n,NameKind.cell) else (n,k)).lookup x=some .free
 |[],x,h=>by simp at h|(n,q)::r,x,h=>by
  rw[nJ]at h;rw[jw,nJ];let hd:∀c:Bool,(if c=true then (n,NameKind.cell) else (n,q)).1=n:=λc=>by cases c<;>rfl
  rw[hd];by_cases z:x=n
  .subst z;simp only[zR]at h ⊢;cases h
   split
   .exact .inl rfl
   .exact .inr rfl
  .let z':(x==n)=false:=by simpa using z
   simp only[z']at h ⊢;show Tj h
structure oK(n:Nat)(h1:Heap)(names:List (Str×NameKind))(cl jU:List (Str×Addr)):Prop where
 d1:∀x c,jU.lookup x=some c->(cl.lookup x=some c/\(x,NameKind.cell)∉names)\/((x,NameKind.cell)∈names/\n<c/\h1.IsCell c none)
 d2:∀x y c,n<c->jU.lookup x=some c->jU.lookup y=some c->x=y
 d3:∀x,names.lookup x=some .cell->∃c,jU.lookup x=some c
 d4:∀x c,(x,NameKind.cell)∉names->cl.lookup x=some c->jU.lookup x=some c
def cc:(NameKind.cell==NameKind.cell)=true:=by decide
theorem Jl:∀(names:List (Str×NameKind)) (h:Heap) (b:Addr) (o:Obj),h.get? b=some o->(pushCells h names).get? b=some o
 |[],h,b,o,e=>e|(x,k)::r,h,b,o,e=>by
  rw[pushCells]
  split
  .exact Jl r _ b o (bM _ e)
  .exact Jl r h b o e
theorem Tn:∀(names:List (Str×NameKind)) (h:Heap) (acc:List (Str×Addr)) (x:Str) (c:Addr),(cellsFrom h.objs.size names acc).lookup x=some c->
  (acc.lookup x=some c/\(x,NameKind.cell)∉names)\/((x,NameKind.cell)∈names/\h.objs.size<=c/\(pushCells h names).IsCell c none)
 |[],h,acc,x,c,e=>.inl ⟨e,by simp⟩|(y,k)::r,h,acc,x,c,e=>by
  rw[cellsFrom]at e;rw[pushCells];by_cases hk:k=.cell
  .subst hk;rw[if_pos cc]at e ⊢;let sz:(h.push {cls:=Value.type "cell",data:=Data.cell none}).objs.size=h.objs.size+1:=by unfold Heap.push;simp
   rw[<-sz]at e;rcases Tn r _ _ x c e with ⟨a,b⟩|⟨a,b,d⟩
   .rw[nJ]at a;by_cases z:x=y
    .subst z;simp at a;subst a;show .inr ⟨fK,bK _,_,Jl r _ _ _ (fW _ rfl),rfl⟩
    .let z':(x==y)=false:=by simpa using z
     rw[z']at a;show .inl ⟨a,by simp[z,b]⟩
   .exact .inr ⟨dI _ a,by lia,d⟩
  .let hb:(k==NameKind.cell)=false:=by simpa using hk
   rw[if_neg (by rw[hb];decide)]at e ⊢;rcases Tn r _ _ x c e with ⟨a,b⟩|⟨a,b,d⟩
   .exact .inl ⟨a,by simp[b];intro _ q;show hk q.symm⟩
   .exact .inr ⟨dI _ a,b,d⟩
theorem Tq:∀(names:List (Str×NameKind)) (n:Nat) (acc:List (Str×Addr)) (x y:Str) (c:Addr),(∀u v,acc.lookup u=some c->acc.lookup v=some c->u=v)->(∀u a,acc.lookup u=some a->a<n\/a≠c)->(cellsFrom n names acc).lookup x=some c->(cellsFrom n names acc).lookup y=some c->x=y
 |[],n,acc,x,y,c,h,_,e1,e2=>h x y e1 e2|(z,k)::r,n,acc,x,y,c,h,hl,e1,e2=>by
  rw[cellsFrom]at e1 e2;by_cases hk:k=.cell
  .subst hk;rw[if_pos cc]at e1 e2;show Tq r (n+1) _ x y c (λu v a b=>?_) (λu a q=>?_) e1 e2
   .rw[nJ]at a b;by_cases u1:u=z
    .by_cases v1:v=z
     .rw[u1,v1]
     .let v':(v==z)=false:=by simpa using v1
      subst u1;simp at a;rw[v']at b;subst a;let b:acc.lookup v=some n:=b;rcases hl v n b with q|q
      .exact absurd q (oF _)
      .exact absurd rfl q
    .let u':(u==z)=false:=by simpa using u1
     rw[u']at a;let a:acc.lookup u=some c:=a;by_cases v1:v=z
     .subst v1;simp at b;subst b;rcases hl u n a with q|q
      .exact absurd q (oF _)
      .exact absurd rfl q
     .let v':(v==z)=false:=by simpa using v1
      rw[v']at b;show h u v a b
   .rw[nJ]at q;by_cases u1:u=z
    .subst u1;simp at q;subst q;show .inl (Nat.lt_succ_self _)
    .let u':(u==z)=false:=by simpa using u1
     rw[u']at q;show(hl u a q).imp (λq=>ug q) id
  .let hb:(k==NameKind.cell)=false:=by simpa using hk
   rw[if_neg (by rw[hb];decide)]at e1 e2;show Tq r n acc x y c h hl e1 e2
theorem Tr:∀(names:List (Str×NameKind)) (n:Nat) (acc:List (Str×Addr)) (x:Str) (c:Addr),(x,NameKind.cell)∉names->acc.lookup x=some c->(cellsFrom n names acc).lookup x=some c
 |[],n,acc,x,c,_,e=>e|(z,k)::r,n,acc,x,c,h,e=>by
  rw[cellsFrom];let hr:(x,NameKind.cell)∉r:=λq=>h (dI _ q);by_cases hk:k=.cell
  .subst hk;rw[if_pos cc];show Tr r (n+1) _ x c hr ?_;let:x≠z:=λq=>h (by rw[q];show fK);let z':(x==z)=false:=by simpa using this
   rw[nJ,z'];show e
  .let hb:(k==NameKind.cell)=false:=by simpa using hk
   rw[if_neg (by rw[hb];decide)];show Tr r n acc x c hr e
theorem Tt:∀(names:List (Str×NameKind)) (acc:List (Str×Addr)) (s:Shared) (Q:List (Str×Addr)->Shared->Prop),
  Q (cellsFrom s.heap.objs.size names acc) {s with heap:=pushCells s.heap names}->
  wpAny M A (forIn names acc λx (cells:List (Str×Addr))=>match x with
   |(name,kind)=>if (kind==NameKind.cell)=true then do
     let a <-alloc {cls:=Value.type "cell",data:=Data.cell none}
     pure (ForInStep.yield ((name,a)::cells))
    else pure (ForInStep.yield cells)) Q E s
 |[],acc,s,Q,h=>by
  rw[NZ];show aH h
 |(z,k)::r,acc,s,Q,h=>by
  rw[Gj];rw[cellsFrom,pushCells]at h;by_cases hk:k=.cell
  .subst hk;rw[if_pos cc,if_pos cc]at h;show au ?_;dsimp only;rw[if_pos cc];show au (wpAny_alloc (aH ?_));show Tt r _ _ Q ?_;let sz:(s.heap.push {cls:=Value.type "cell",data:=Data.cell none}).objs.size=s.heap.objs.size+1:=by unfold Heap.push;simp
   rw[sz];show h
  .let hb:(k==NameKind.cell)=false:=by simpa using hk
   rw[if_neg (by rw[hb];decide),if_neg (by rw[hb];decide)]at h;show au ?_;dsimp only;rw[if_neg (by rw[hb];decide)];show aH (Tt r _ _ Q h)
def zgh(old:∀x c,cl.lookup x=some c->c<s.heap.objs.size)(inj:∀x y c,cl.lookup x=some c->cl.lookup y=some c->x=y)
  (h:∀h1 jU,h1.Ns s.heap.objs.size (λ_=>none)->(∀b o,s.heap.get? b=some o->h1.get? b=some o)->oK s.heap.objs.size h1 scope.names cl jU->Q {scope:=scope,locals:=s.heap.objs.size,globals:=globals,cells:=jU,qual:=qual,func:=none,code:=env.code,frame:=env.frame,builtins:=env.builtins} {s with heap:=h1}) :
  wpAny M A (newFunctionEnv scope globals cl [] qual none .none (some env)) Q E s:=by
 unfold newFunctionEnv;show au (wpAny_alloc ?_);show au ?_;show Tt scope.names cl _ _ ?_;dsimp only;rw[NZ];show au (aH (aH ?_));let sz:(s.heap.push {cls:=Value.type (if (some env).isSome=true then "dict" else "frame"),data:=Data.dict #[]}).objs.size=s.heap.objs.size+1:=by unfold Heap.push;simp
 show h _ _ ?_ (λb o e=>Jl _ _ _ _ (bM _ e)) ⟨λx c e=>?_,λx y c hc e1 e2=>?_,λx e=>?_,λx c hx e=>Tr _ _ _ x c hx e⟩
 .refine⟨_,#[],_,Jl _ _ _ _ (fW _ rfl),rfl,?_,λ_=>rfl⟩;intro e he;simp at he
 .rcases Tn _ _ _ x c e with ⟨a,b⟩|⟨a,b,d⟩
  .exact .inl ⟨a,b⟩
  .rw[sz]at b;show .inr ⟨a,by lia,d⟩
 .exact Tq _ _ _ x y c (λu v a b=>inj u v c a b) (λu a q=>.inl (by rw[sz];show ug (old u a q))) e1 e2
 .let:=Ra scope.names (s.heap.push {cls:=Value.type (if (some env).isSome=true then "dict" else "frame"),data:=Data.dict #[]}).objs.size cl (.inl e);show M4.mp this
def Cx.blk(X:Cx)(scope:Scope)(cl:List (Str×Addr))(N:List Str)(C:Addr)(s3:Shared)(H3:Hp)(fp:List Addr)(ak:List (Addr×Obj)):Cx where
 prog:=X.prog
 w:=X.w
 K:=X.K
 mg:=X.mg
 base:=X.base
 A:=X.A
 N:=N
 s₀:=s3
 H₀:=H3
 env:=compEnvC scope cl C X.env
 outer:=X.stack
 stack:=X.stack
 ex:=fp
 fn:=λx=>scope.names.lookup x==some .cell
 aj:=X.aj
 pn:=X.pn++ak
 xe:=λ_ _=>False
structure jz(sc scope:Scope):Prop where
 kind:scope.kind=.function
 cel:∀y∈scope.names,y.2=.cell->scope.names.lookup y.1=some .cell
 free:∀y∈scope.names,y.2=.free->sc.names.lookup y.1=some .cell\/sc.names.lookup y.1=some .free
 loc:∀y∈scope.names,y.2=.local->scope.names.lookup y.1=some .local
section
variable {X:Cx}{ak:List (Addr×Obj)}{Z:St}{H:Hp}{s:Shared}{scope:Scope}{cl:List (Str×Addr)}{N:List Str}{fp:List Addr}{ZY:St}
def zjN{h1:Heap}{t:Nat}{jU:List (Str×Addr)}(I:Inv X ak Z H s)(B:jz X.env.scope scope)(c1:∀x c,cl.lookup x=some c->X.env.cells.lookup x=some c)(c2:∀x∈scope.names,x.2=.free->∃c,cl.lookup x.1=some c)
  (f:∀b∈fp,iW X ak H b) (fo:∀b∈fp,∃o,s.heap.get? b=some o) (hn:h1.Ns s.heap.objs.size (λ_=>none)) (kp:∀b o,s.heap.get? b=some o->h1.get? b=some o) (CN:oK s.heap.objs.size h1 scope.names cl jU)
  (hl:ZY.length=N.length) (hZ:∀(i:Nat) (x:Str) (v:V),N[i]?=some x->ZY[i]?=some (some v)->scope.names.lookup x=some .free/\∃j:Nat,X.N[j]?=some x/\Z[j]?=some (some v)) :
  Inv (X.blk scope jU N s.heap.objs.size s H fp ak) [] ZY H {s with heap:=h1,toks:=t}:=by
 let lt:∀b o,s.heap.get? b=some o->b≠s.heap.objs.size:=λb o q=>cR (bJ q);let ZR:∀b,b≠X.env.locals->b∉X.fs->b∉frs X.stack:=λb a c z=>(cX.mp (I.mR b z)).elim a c;let mem_of:∀x k,scope.names.lookup x=some k->(x,k)∈scope.names:=λx k q=>Ge q;let old:∀x c,cl.lookup x=some c->c<s.heap.objs.size:=λx c q=>by
  let⟨v,o,q1,q2⟩:=I.cell x c (c1 x c q);show bJ q1
 let ZS:∀x,scope.names.lookup x=some .free->(x,NameKind.cell)∉scope.names:=λx q z=>by
  let:=B.cel _ z rfl;let this:scope.names.lookup x=some .cell:=this;rw[q]at this;cases this
 show⟨⟨I.ok.mod,B.kind,I.ok.glob,I.ok.blt,bK _,λx y c a b=>?_,λx hx=>?_,λx c z q=>?_,I.ok.hd,I.ok.frames,.inl rfl,λb hb=>?_,I.bs,jx I.ok.Ac I.sz,λb o q hb=>?_,λb hb=>ZR b (f b hb).2.1 (f b hb).2.2.1,I.stack,I.jT⟩,
  rfl,I.bare,Un.kept kp,⟨_,hn,λi x v e1 e2 e3=>?_⟩,λx c q=>?_,I.hok.fresh (bK _),λx c q=>?_,λp hp=>?_,I.hok.kept kp,hl⟩
 .by_cases hc:s.heap.objs.size<c
  .exact CN.d2 x y c hc a b
  .rcases CN.d1 x c a with ⟨a1,_⟩|⟨_,a1,_⟩
   .rcases CN.d1 y c b with ⟨b1,_⟩|⟨_,b1,_⟩
    .exact I.ok.inj x y c (c1 x c a1) (c1 y c b1)
    .exact absurd b1 hc
   .exact absurd a1 hc
 .let hx:(relabel scope X.env).names.lookup x=some .cell\/(relabel scope X.env).names.lookup x=some .free:=hx;let fr:scope.names.lookup x=some .cell\/scope.names.lookup x=some .free:=by
   rcases hx with hx|hx
   .rcases Ti hx with z|⟨_,z⟩
    .exact .inl z
    .exact .inr z
   .rcases Ti hx with z|⟨z,_⟩
    .exact .inr z
    .cases z
  rcases fr with fr|fr
  .exact CN.d3 x fr
  .obtain⟨c,hc⟩:=c2 (x,.free) (mem_of x _ fr) rfl;show⟨c,CN.d4 x c (ZS x fr) hc⟩
 .rcases CN.d1 x c q with ⟨_,q1⟩|⟨_,q1,_⟩
  .let z:(scope.names.lookup x==some NameKind.cell)=true:=z;show absurd (mem_of x _ (by simpa using z)) q1
  .exact zX q1
 .obtain⟨o,q⟩:=fo b hb;show⟨lt b o q,λx c z=>?_⟩;rcases CN.d1 x c z with ⟨q1,_⟩|⟨_,q1,_⟩
  .exact(f b hb).2.2.2.2.1 x c (c1 x c q1)
  .exact λe=>absurd (bJ q) (by rw[<-e];show HB.mpr (zX q1))
 .obtain⟨_,_,_,z,_⟩:=f b hb;rcases z with z|z
  .exact I.ok.uQ b o q z
  .exact absurd (gG (bJ q) (jx I.ok.Ac z)) (oF _)
 .obtain⟨fr,j,hj,hv⟩:=hZ i x v e1 e2;let hk:=B.free (x,.free) (mem_of x _ fr) rfl;let⟨m,hm,Tv⟩:=I.loc;let⟨u,r,l⟩:=Tv j x v hj hv (hk.elim (λz=>.inr (.inl z)) λz=>.inr (.inr z));let⟨c',lJ⟩:=c2 (x,.free) (mem_of x _ fr) rfl;let lJ:cl.lookup x=some c':=lJ;show⟨u,r,.inr ⟨Tj fr,c',CN.d4 x c' (ZS x fr) lJ,?_⟩⟩;rcases l with ⟨k1,_⟩|⟨_,c,k2,oc,k3,k4⟩
  .let k1:X.env.scope.names.lookup x=some .local:=k1;rcases hk with hk|hk
   .let hk:X.env.scope.names.lookup x=some .cell:=hk;rw[k1]at hk;cases hk
   .let hk:X.env.scope.names.lookup x=some .free:=hk;rw[k1]at hk;cases hk
  .let e:=c1 x c' lJ;rw[k2]at e;cases e;show⟨oc,kp _ oc k3,k4⟩
 .rcases CN.d1 x c q with ⟨q1,_⟩|⟨_,_,q1⟩
  .obtain⟨v,o,q1,q2⟩:=I.cell x c (c1 x c q1);show⟨v,o,kp c o q1,q2⟩
  .exact⟨none,q1⟩
 .rcases CN.d1 x c q with ⟨q1,_⟩|⟨_,q1,_⟩
  .exact I.fC x c (c1 x c q1)
  .exact I.hok.fresh (zX q1)
 .let hp:p∈X.pn++ak:=by
   let z:p∈(X.pn++ak)++[]:=hp;simpa using z
  let⟨a1,a2,a3,a4,a5⟩:=I.pin p hp;show⟨kp _ _ a1,a2,lt _ _ a1,ZR _ a3 a4,a5⟩
theorem zej(I:Inv X ak Z H s)(f:∀b∈fp,iW X ak H b)(cj:Inv (X.blk scope cl N s.heap.objs.size s H fp ak) [] Z' H' s'):Inv X ak Z H' s':=
 I.call' (ch:=fp) cj.os cj.base cj.hok cj.bare λb hb=>by
  let⟨_,a2,_,a4,a5,a6⟩:=f b hb;show⟨a4.imp id λz=>Gb z,a2,a5,a6⟩
theorem zdJ{Z':St}{H':Hp}{s':Shared}{h2:Heap}{C:Addr}(cj:Inv X ak Z H' s')(hC:X.s₀.heap.objs.size<=C)(n1:H' C=none)(n2:C≠X.env.locals)(n3:∀x c,X.env.cells.lookup x=some c->c≠C)(n4:∀p∈X.pn++ak,p.1≠C)
  (sb:Heap.SameBut C s'.heap h2):Inv X ak Z H' {s' with heap:=h2}:=
 cj.turned (t':=s'.toks) (λb o z q=>(sb.2 b z).trans q) n1 n2 (.inr hC) n3 n4
end
noncomputable abbrev q_(ifs:List Expr)(env:Env):Sem Bool:=forIn ifs true λc r=>if r=true then do let ok <-isTrue c env (eval c env);pure (ForInStep.yield ok) else pure (ForInStep.yield r)
def zgr{prog:Program}{w:World}{A:Around}{R:Result->Shared->Prop}{s:Shared}{elt target iter:Expr}{ifs:List Expr}{scope:Scope}{pos:Pos}{it acc:Value}{env:Env}(V:Nat->Shared->Prop)
  (turn:∀n s,V n s->wpAny (model prog w) A (pyNext it) (λr s₁=>match r with
   |none=>R (.ok .next) s₁|some v=>wpAny (model prog w) A (letOwnedTupleGo target it v) (λ_ s₂=>wpAny (model prog w) A (assign target env v) (λ_ s₃=>
     wpAny (model prog w) A (q_ ifs env) (λok s₄=>
      if ok=true then wpAny (model prog w) A (eval elt env) (λx s₅=>wpAny (model prog w) A (call (.builtin "list.append") [acc,x]) (λ_ s₆=>∃m,m<n/\V m s₆) (λ_ _=>False) s₅) (λ_ _=>False) s₄
      else ∃m,m<n/\V m s₄) (λ_ _=>False) s₃) (λ_ _=>False) s₂) (λ_ _=>False) s₁) (λ_ _=>False) s)
  (n:Nat) (h:V n s):codeAny (model prog w) A (.compLoop (.ListComp elt [⟨target,iter,ifs,0⟩] scope pos) 0 it acc env) R s:=by
 show codeAny_loop rfl V (λn s hV=>?_) n h;change wpAny _ A ((compTurn (.ListComp elt [⟨target,iter,ifs,0⟩] scope pos) 0 it acc env).onRaise (λx=>do noteFrame x env;theTreesLotGoes x)) _ _ s;show wpAny_noted ?_;rw[compTurn_list];show au (uK (au (jy (turn n s hV) (λr s₁ h₁=>?_) λ_ _ z=>z.elim)));cases r with
 |none=>show aH h₁|some v=>
  show au (jy h₁ (λ_ s₂ h₂=>?_) λ_ _ z=>z.elim);show au (jy h₂ (λ_ s₃ h₃=>au (jy h₃ (λok s₄ h₄=>?_) λ_ _ z=>z.elim)) λ_ _ z=>z.elim);cases ok with
  |true=>
   simp only[if_true]at h₄ ⊢;show au (au (jy h₄ (λx s₅ h₅=>au (jy h₅ (λ_ s₆ h₆=>aH (aH ⟨rfl,h₆⟩)) λ_ _ z=>z.elim)) λ_ _ z=>z.elim))
  |false=>
   simp only[jt,iR]at h₄ ⊢;show aH ⟨rfl,h₄⟩
def Ox(X:Cx)(ifs:List Expr)(t:TT):Prop:=
 ∀(ak:List (Addr×Obj)) (s:Shared) (Z:St) (H:Hp) (Q:Bool->Hp->Prop),Inv X ak Z H s->t Z H Q->wpAny (model X.prog X.w) X.A (q_ ifs X.env) (TP X ak Z Q) X.xe s
def Tz:TT:=λ_ H Q=>Q true H
theorem zkC:Ox X [] Tz:=λ_ _ _ H _ I h=>wpAny_tests_nil ⟨H,I,h⟩
theorem zkT(h:PT X c t):Ox X [c] t:=λak s Z H Q I hq=>wpAny_tests_one (h ak s Z H Q I hq)
def Jm(ZY:St->St)(g:TG)(tt:TT)(te:TE)(cj:It)(Z:St)(H:Hp)(Q:VK):Prop:=∀D,H D=none->∃W:Nat->Nat->St->Hp->Prop,(∃m,W 0 m (ZY Z) (upd H D (.lst [])))/\∀i m Z' H',W i m Z' H'->
 (cj.stop i H'/\Q (.ref D) H')\/(cj.go i H'/\∃N:St->Hp->Prop,(∀Z2 H2,N Z2 H2->∃m',m'<m/\W (i+1) m' Z2 H2)/\∀x H2,cj.Cz i H' x H2->g x Z' H2 λZ3 H3=>tt Z3 H3 λok H4=>
  if ok=true then te Z3 H4 λy H5=>∃ys,H5 D=some (.lst ys)/\ys.length<sizeLine/\N Z3 (upd H5 D (.lst (ys++[y]))) else N Z3 H4)
section
variable {X:Cx}{elt tg iter:Expr}{ifs:List Expr}{scope:Scope}{pos:Pos}{N:List Str}{ZY:St->St}{wi:TI}{g:TG}{tt:TT}{te:TE}
structure Parts(X:Cx)(elt tg:Expr)(ifs:List Expr)(scope:Scope)(N:List Str)(g:TG)(tt:TT)(te:TE):Prop where
 tgt:∀cl C s3 H3 fp ak,PG (X.blk scope cl N C s3 H3 fp ak) tg g
 tst:∀cl C s3 H3 fp ak,Ox (X.blk scope cl N C s3 H3 fp ak) ifs tt
 el:∀cl C s3 H3 fp ak,PE (X.blk scope cl N C s3 H3 fp ak) elt te
def zgw(hc:X.aj=true)(B:jz X.env.scope scope)(P:Parts X elt tg ifs scope N g tt te)(hl:∀Z,(ZY Z).length=N.length)
  (hZ:∀(Z:St) (i:Nat) (x:Str) (v:V),N[i]?=some x->(ZY Z)[i]?=some (some v)->scope.names.lookup x=some .free/\∃j:Nat,X.N[j]?=some x/\Z[j]?=some (some v))
  {ak:List (Addr×Obj)} {s:Shared} {Z:St} {H:Hp} {Q:VK} {it:Addr} {fp:List Addr} {tn:Nat->Heap->Prop} {cj:It} (I:Inv X ak Z H s) (T:Turn X.prog X.w X.K tg cj fp it tn) (st:tn 0 s.heap) (f:∀b∈fp,iW X ak H b) (h:Jm ZY g tt te cj Z H Q)
  {cl:List (Str×Addr)} (c1:∀x c,cl.lookup x=some c->X.env.cells.lookup x=some c) (c2:∀x∈scope.names,x.2=.free->∃c,cl.lookup x.1=some c) {R:Value->Addr->Result->Shared->Prop} {E:Value->Shared->Prop}
  (k:∀D C s' H',Inv X ak Z H' s'->X.s₀.heap.objs.size<=C->H' C=none->C≠X.env.locals->(∀x c,X.env.cells.lookup x=some c->c≠C)->(∀p∈X.pn++ak,p.1≠C)->(∃m,s'.heap.Ns C m)->Q (.ref D) H'->R (.ref D) C (.ok .next) s') :
  wpAny (model X.prog X.w) X.A (newList []) (λacc s₃=>wpAny (model X.prog X.w) X.A (newFunctionEnv scope X.env.globals cl [] X.env.qual none .none (some X.env)) (λcenv s₄=>
   codeAny (model X.prog X.w) X.A (.compStart (.ListComp elt [⟨tg,iter,ifs,0⟩] scope pos) 0 (.ref it) acc {cenv with scope:=relabel scope X.env}) (R acc cenv.locals) s₄) E s₃) E s:=by
 show pB ?_;let hD:H s.heap.objs.size=none:=I.hok.fresh (bK _);let I3:Inv X ak Z (upd H s.heap.objs.size (.lst [])) {s with heap:=s.heap.push {cls:=.type "list",dict:=none,data:=.seq ([]:List Value).toArray}}:=
  I.laid (t':=s.toks) (λb u q=>bM _ q) (bK _) ⟨lH _,[],0,.nil,fW _ rfl⟩
 let f3:∀b∈fp,iW X ak (upd H s.heap.objs.size (.lst [])) b:=λb hb=>by
  let⟨a1,a2⟩:=f b hb;let⟨o,q,_⟩:=T.obj 0 _ st b hb;show⟨by rw[dB (cR (bJ q))];show a1,a2⟩
 let st3:tn 0 (s.heap.push {cls:=.type "list",dict:=none,data:=.seq ([]:List Value).toArray}):=T.keep _ _ _ st λb hb o q=>bM _ q;let⟨W,⟨m0,w0⟩,turn⟩:=h s.heap.objs.size hD;generalize hs3:({s with heap:=s.heap.push {cls:=.type "list",dict:=none,data:=.seq ([]:List Value).toArray}}:Shared)=s3 at *;let Dk:tn 0 s3.heap:=by rw[<-hs3];show st3
 generalize hH3:upd H s.heap.objs.size (.lst [])=H3 at *;show zgh (λx c q=>by let⟨v,o,q1,_⟩:=I3.cell x c (c1 x c q);show bJ q1) (λx y c a b=>I3.ok.inj x y c (c1 x c a) (c1 y c b)) λh1 jU hn kp CN=>?_;let TF:Inv (X.blk scope jU N s3.heap.objs.size s3 H3 fp ak) [] (ZY Z) H3 {s3 with heap:=h1}:=
  zjN (t:=s3.toks) I3 B c1 c2 f3 (λb hb=>let ⟨o,q,_⟩:=T.obj 0 _ Dk b hb;⟨o,q⟩) hn kp CN (hl Z) (hZ Z)
 let ZV:tn 0 h1:=T.keep _ _ _ Dk λb hb o q=>kp b o q;let fY:∀{H':Hp},(∀b∈fp,H' b=none)->∀b∈fp,iW (X.blk scope jU N s3.heap.objs.size s3 H3 fp ak) [] H' b:=λ{H'} z b hb=>by
  let⟨a1,a2,a3,a4,a5,a6⟩:=f3 b hb;let⟨o,q,_⟩:=T.obj 0 _ Dk b hb;show⟨z b hb,cR (bJ q),λy=>(cX.mp (I3.mR b y)).elim a2 a3,.inl hb,λx c y=>?_,λp hp=>a6 p ?_⟩
  .rcases CN.d1 x c y with ⟨q1,_⟩|⟨_,q1,_⟩
   .exact a5 x c (c1 x c q1)
   .exact λe=>absurd (bJ q) (by rw[<-e];show HB.mpr (zX q1))
  let y:p∈(X.pn++ak)++[]:=hp;simpa using y
 let loop:codeAny (model X.prog X.w) X.A (.compLoop (.ListComp elt [⟨tg,iter,ifs,0⟩] scope pos) 0 (.ref it) (.ref s.heap.objs.size) (compEnvC scope jU s3.heap.objs.size X.env)) (R (.ref s.heap.objs.size) s3.heap.objs.size) {s3 with heap:=h1}:=by
  show zgr (λn s'=>∃i Z' H',Inv (X.blk scope jU N s3.heap.objs.size s3 H3 fp ak) [] Z' H' s'/\tn i s'.heap/\(∀b∈fp,H' b=none)/\W i n Z' H') ?_ m0 ⟨0,ZY Z,H3,TF,ZV,λb hb=>(f3 b hb).1,w0⟩;rintro n s5 ⟨i,Z5,H5,Jo,Gv,Oj,w5⟩;rcases turn i n Z5 H5 w5 with ⟨stop,q⟩|⟨go,Nx,hN,step⟩
  .refine bf (T.done (X.blk scope jU N s3.heap.objs.size s3 H3 fp ak) rfl rfl rfl hc i [] s5 Z5 H5 _ Jo (fY Oj) Gv stop) λr s6 ⟨hr,jd⟩=>?_;subst hr;let JX:=zej I3 f3 jd;show k s.heap.objs.size s3.heap.objs.size s6 H5 JX I3.sz jd.free (uL I3.lt) (λx c y z=>?_) (λp hp z=>?_) ?_ q
   .obtain⟨v,qc⟩:=I3.cell x c y;show absurd qc.lt (by rw[z];show oF _)
   .exact absurd (bJ (I3.pin p hp).1) (by rw[z];show oF _)
   .obtain⟨m,hm,_⟩:=jd.loc;show⟨m,hm⟩
  .refine bf (T.item (X.blk scope jU N s3.heap.objs.size s3 H3 fp ak) rfl rfl rfl hc i [] s5 Z5 H5 _ Jo (fY Oj) Gv go) λr s6 hx=>yh hx λu hr h6=>?_;subst hr;show bf h6 λ_ s7 hz=>?_;let⟨x,H7,mZ,r7,y7,TJ,fr7⟩:=hz;let Jp:=mZ.pinned (fY fr7) (T.obj _ _ TJ);show bf (P.tgt jU s3.heap.objs.size s3 H3 fp ak _ s7 Z5 H7 x u _ Jp r7 (step x H7 y7)) λ_ s8 hz=>?_;let⟨Z8,H8,TQ,q8⟩:=hz;show bf (P.tst jU s3.heap.objs.size s3 H3 fp ak _ s8 Z8 H8 _ TQ q8) λok s9 hx=>yh hx λH9 Jq q9=>?_;let again:∀{H':Hp} {s':Shared},Inv (X.blk scope jU N s3.heap.objs.size s3 H3 fp ak) ([]++kJ fp s7.heap) Z8 H' s'->Nx Z8 H'->∃m,m<n/\∃i Z' H',Inv (X.blk scope jU N s3.heap.objs.size s3 H3 fp ak) [] Z' H' s'/\tn i s'.heap/\(∀b∈fp,H' b=none)/\W i m Z' H':=λ{H' s'} vg n'=>by
    let⟨m',hm,w'⟩:=hN Z8 H' n';show⟨m',hm,i+1,Z8,H',vg.iu,T.keep _ _ _ TJ λb hb o e=>(vg.pin (b,o) (pP _ (pP _ (Oi hb e)))).1,λb hb=>?_,w'⟩;let⟨o,e,d⟩:=T.obj _ _ TJ b hb;show(vg.pin (b,o) (pP _ (pP _ (Oi hb e)))).2.1
   cases ok with
   |false=>
    rw[if_neg W9]at q9 ⊢;show again Jq q9
   |true=>
    rw[if_pos rfl]at q9 ⊢;show bf (P.el jU s3.heap.objs.size s3 H3 fp ak _ s9 Z8 H9 _ Jq q9) λv s10 hz=>?_;let⟨y,H10,Jr,r10,ys,TX,hz,q10⟩:=hz;show bf (Zw (X:=(X.blk scope jU N s3.heap.objs.size s3 H3 fp ak)) _ s10 Z8 H10 (.ref s.heap.objs.size) [y] (.ref s.heap.objs.size) [v] (λ_ H'=>Nx Z8 H') Jr rfl (.cons r10 .nil) ⟨s.heap.objs.size,ys,y,rfl,rfl,TX,hz,q10⟩) λ_ s11 hx=>eU hx λ_ H11 Js _ q11=>again Js q11
 show codeAny_compStart_list loop (T.self _ 0 _ _ _ ZV loop)
end
def Ah(wi:TI)(ZY:St->St)(g:TG)(tt:TT)(te:TE):TE:=λZ H Q=>wi Z H λcj H1=>Jm ZY g tt te cj Z H1 Q
section
variable {X:Cx}{elt tg iter:Expr}{ifs:List Expr}{scope:Scope}{pos spos py:Pos}{N:List Str}{ZY:St->St}{wi:TI}{g:TG}{tt:TT}{te:TE}{i:Nat}{y:Str}
theorem zj1(I:Inv X ak Z H s)(B:jz X.env.scope scope):∃cl,closureFor scope X.env=pure cl/\(∀x c,cl.lookup x=some c->X.env.cells.lookup x=some c)/\∀x∈scope.names,x.2=.free->∃c,cl.lookup x.1=some c:=
 zfV λx hx hf=>I.ok.has x.1 (B.free x hx hf)
def zla(hc:X.aj=true)(B:jz X.env.scope scope)(hi:PI X tg iter wi)(P:Parts X elt tg ifs scope N g tt te)(hl:∀Z,(ZY Z).length=N.length)
  (hZ:∀(Z:St) (i:Nat) (x:Str) (v:V),N[i]?=some x->(ZY Z)[i]?=some (some v)->scope.names.lookup x=some .free/\∃j:Nat,X.N[j]?=some x/\Z[j]?=some (some v))
  (hs:∀x,foldedSetIterable iter X.env x=pure x:=by intro _;rfl):PE X (.ListComp elt [⟨tg,iter,ifs,0⟩] scope pos) (Ah wi ZY g tt te):=by
 intro ak s Z H Q I h;let⟨cl,kO,c1,c2⟩:=zj1 I B;rw[eval_ListComp];show wpAny_comprehension_free (use:=none) rfl hs kO B.kind B.loc (bf (hi ak s Z H _ I h) λxv s1 h1=>bf h1 λitv s2 h2=>?_);let⟨it,fp,tn,cj,H2,e,I2,T,st2,f2,hq⟩:=h2;subst e;show zgw hc B P hl hZ I2 T st2 f2 hq c1 c2 (R:=λacc C=>compPost (model X.prog X.w) X.A X.xe none (EP X ak Z Q) acc C) λD C s' H' vg a b c d e ⟨m,hm⟩ q=>⟨m,hm,λh' sb=>⟨.ref D,H',zdJ (Z':=Z) vg a b c d e sb,rfl,q⟩⟩
end
end L2
namespace L2
open PySem PySem.Spec PyProof.Rows PySem.W
def bZ{α:Type}(lt:Nat->Nat->Option Bool):KasT α->Option α
 |.ret a=>some a|.ask i j k=>match lt i j with
  |some b=>bZ lt (k b)|none=>none
theorem ZW{α:Type}{lt:Nat->Nat->Option Bool}{cmp:Nat->Nat->(Bool->Shared->Prop)->Shared->Prop}{Q:α->Shared->Prop}{s:Shared}(hc:∀i j b C,lt i j=some b->C b s->cmp i j C s){a:α}(q:Q a s):∀{t:KasT α},bZ lt t=some a->t.kasWp cmp Q s
 |.ret a',h=>by
  unfold bZ at h;cases h;show q
 |.ask i j k,h=>by
  unfold bZ at h;cases e:lt i j with
  |none=>rw[e]at h;cases h|some b=>
   rw[e]at h;show hc i j b _ e (ZW hc q h)
def lN(vs:List Value)(p:Array Nat):Array Value:=if vs.length<2 then vs.toArray else List.toArray (p.toList.map λi=>vs.getD i Value.none)
section
variable {prog:Program}{w:World}{A:Around}{E:Value->Shared->Prop}{s:Shared}{κ:SortKind}{lt:Nat->Nat->Option Bool}{p:Array Nat}
def zdl{a:Addr}{vs:List Value}{n:Nat}{P:PySem.Fin->Shared->Prop}(ho:s.heap.get? a=some (seqObj "list" vs.toArray n))(TY:vs.length<64)
  (hk:2<=vs.length->∀(s':Shared) (Q:SortKind->Shared->Prop),(∀b o,b≠a->s.heap.get? b=some o->s'.heap.get? b=some o)->Q κ s'->wpAny (model prog w) A (keyKind' vs.toArray) Q E s')
  (hlt:2<=vs.length->∀(s':Shared) i j b C,(∀b o,b≠a->s.heap.get? b=some o->s'.heap.get? b=some o)->lt i j=some b->C b s'->kas_ask prog w A κ vs i j C s') (hr:2<=vs.length->bZ lt (kas_sort vs.length)=some p) (T3:2<=vs.length->p.size=vs.length)
  (h:P (.done (.ret .none)) {s with heap:=sortedHeap s.heap a vs (lN vs p)}) :
  wpAny (model prog w) A (Builtin.«list.sort» ⟨[.ref a],[]⟩) P E s:=by
 rw[list_sort_plain];let ha:a<s.heap.objs.size:=bJ ho;show au (listItems_at ho rfl ?_);show au (listUpdate_at ho rfl ?_ (by rw[dR,uM];lia) (lH _));obtain⟨e1,Oz⟩ : ∃e1,(s.heap.update a (Obj.mapSeq λ_=>#[])).get? a=some (seqObj "list" #[] e1):=⟨_,get?_update_seq ho (λ_=>#[])⟩;show au (seqEpoch_at Oz rfl ?_);show au (wpAny_newTuple ?_ (by change vs.length<=_;rw[uM];lia));show au (wpAny_newList ?_ (lH _));show iJ ?_;let keep:∀b o,b≠a->s.heap.get? b=some o->(((s.heap.update a (Obj.mapSeq λ_=>(#[]:Array Value))).push (seqObj "tuple" vs.toArray 0)).push (seqObj "list" #[] 0)).get? b=some o:=λb o nb e=>
  bM _ (bM _ ((Heap.get?_update_ne _ _ _ _ nb).trans e))
 let OD:(((s.heap.update a (Obj.mapSeq λ_=>(#[]:Array Value))).push (seqObj "tuple" vs.toArray 0)).push (seqObj "list" #[] 0)).get? a=some (seqObj "list" #[] e1):=by
  rw[Heap.get?_push_ne _ _ _ (by rw[size_push',Heap.size_update];show cR (ug ha)),Heap.get?_push_ne _ _ _ (by rw[Heap.size_update];show cR ha)];show Oz
 change wpAny (model prog w) A _ P E {s with heap:=((s.heap.update a (Obj.mapSeq λ_=>#[])).push (seqObj "tuple" vs.toArray 0)).push (seqObj "list" #[] 0)};dsimp only;let lF:vs.toArray.size=vs.length:=by simp
 by_cases h2:vs.toArray.size<2
 .rw[if_pos h2,if_pos h2];show au (aH ?_);rw[StateT.run_pure];show au (aH ?_);dsimp only;show au (seqEpoch_at OD rfl ?_);show au (listUpdate_at OD rfl ?_ (lH _) (by rw[Array.size_map];change (pairsOf vs).size<=_;rw[pairsOf_size,uM];lia));simp only[Gi,jt,iR];let e:((vs.toArray.zip vs.toArray).map (·.2))=lN vs p:=by
   unfold lN;rw[if_pos (by rw[lF]at h2;show h2)];apply Array.toList_inj.mp;simp[List.map_snd_zip]
  show aH ?_;let h':=h;rw[<-e]at h';show h'
 .rw[if_neg h2,if_neg h2];let h2':2<=vs.length:=by lia
  show au (hk h2' _ _ keep ?_);show au (jy (kat_run (κ:=κ) (ks:=vs) (vs:=vs) (G:=λp' s'=>p'=p/\s'={s with heap:=((s.heap.update a (Obj.mapSeq λ_=>#[])).push (seqObj "tuple" vs.toArray 0)).push (seqObj "list" #[] 0)})
   (Q:=λst' s'=>arrOf st'=p.map (kas_item (vs.toArray.zip vs.toArray))/\failedOf st'=none/\s'={s with heap:=((s.heap.update a (Obj.mapSeq λ_=>#[])).push (seqObj "tuple" vs.toArray 0)).push (seqObj "list" #[] 0)})
   rfl h2' TY (λp' st' s' a1 a2 a3 a4=>⟨by rw[a2,a4.1],a3,a4.2⟩) (ZW (λi j b C hl hC=>hlt h2' _ i j b C keep hl hC) ⟨rfl,rfl⟩ (hr h2'))) ?_ λ_ _ e=>e)
  rintro⟨⟨⟩,st'⟩ s' ⟨OJ,hf,rfl⟩;dsimp only;let hout:=kat_snds (ks:=vs) (vs:=vs) rfl OJ;let e:List.toArray (p.toList.map λi=>vs.getD i Value.none)=lN vs p:=by
   unfold lN;rw[if_neg Bd]
  rw[hout,e];let hso:(lN vs p).size=vs.length:=by rw[<-e,dR,bY,Hq,T3 h2']
  show au (seqEpoch_at OD rfl ?_);show au (listUpdate_at OD rfl ?_ (lH _) (by rw[hso,uM];lia));rw[hf];simp only[Gi,jt,iR];show aH h
end
def p7:List V->List V->Option Bool
 |[],ys=>some (decide (0<ys.length))|_::_,[]=>some false|.int x::xs,.int y::ys=>if x=y then p7 xs ys else some (decide (x<y))|_::_,_::_=>none
def zlp{prog:Program}{w:World}{A:Around}{s:Shared}{fin:Bool}{C:Bool->Shared->Prop}{b:Bool}:∀{us ws:List V} {its jts:List Value} {i:Nat},Vals us its->Vals ws jts->p7 us ws=some b->fin=decide (us.length<ws.length)->C b s->KatLex prog w A true fin C (its.zip jts) i s:=by
 intro us ws its jts i r1
 induction r1 generalizing ws jts i with
 |nil=>
  intro _ h hf hc;rw[Ru];unfold p7 at h;cases h;rw[hf];show kat_nil hc
 |@cons x u us its rx ri ih=>
  intro r2 h hf hc;cases r2 with
  |nil=>
   rw[Rq];unfold p7 at h;cases h;rw[hf];show kat_nil (by simpa using hc)
  |@cons y v ws jts ry rj=>
   rw[zP];cases x with
   |int a=>
    cases y with
    |int c=>
     let⟨t,rfl⟩:=rx;let⟨t',rfl⟩:=ry;unfold p7 at h;show kat_cons (wpAny_eqBool_int ?_);by_cases e:a=c
     .rw[if_pos e]at h;subst e;rw[zR];show kat_yes (ih rj h (by rw[hf];simp) hc)
     .rw[if_neg e]at h;cases h;rw[show (a==c)=false by simpa using e];show kat_no ?_;by_cases hi:i=0
      .subst hi;show oneLt_int hc
      .rw[show (true&&i==0)=false by simpa using hi];show kat_one _ _ (wpAny_lt_int hc)
    |_=>cases h
   |_=>cases y<;>cases h
theorem ZX(r:Vals ys its):∀l:List Nat,Vals (l.map λi=>ys.getD i .non) (l.map λi=>its.getD i Value.none)
 |[]=>.nil|i::l=>by
  show .cons ?_ (ZX r l);cases e:ys[i]? with
  |some y=>
   let⟨u,e1,e2⟩:=r.get e;change RelV (ys.getD i .non) (its.getD i Value.none);rw[mJ,mJ,e,e1];show e2
  |none=>
   let e1:its[i]?=none:=by rw[pA]at e ⊢;rw[<-r.length];show e
   change RelV (ys.getD i .non) (its.getD i Value.none);rw[mJ,mJ,e,e1];rfl
section
variable {X:Cx}
theorem zhA{prog:Program}{w:World}{A:Around}{E:Value->Shared->Prop}{s:Shared}{its fs:List Value}{Q:SortKind->Shared->Prop}(h2:2<=its.length)(hl:fs.length=its.length)(hi:∀u∈fs,∃i t,u=Value.int i t)(kt:KatTups s.heap its fs)(q:Q (tuples' true) s):wpAny (model prog w) A (keyKind' its.toArray) Q E s:=
 kat_kind (T:=.type "int") kt gV (λv hv=>by let⟨i,t,rfl⟩:=hi v hv;show .of_pure rfl) W9 q
def T4{its:List Value}{i:Nat}{u:Value}(h:its[i]?=some u):its.getD i Value.none=u:=by rw[mJ,h];rfl
end
end L2
namespace L2
open PySem PySem.Spec PyProof.Rows PySem.W PySem.Calls PySem.Builtin PySem.Builtin.ObjectAttr
theorem Z0(self:Value):∀{l:List Value},bF l=true->refuseLoop self "__setattr__" l=pure ()
 |.ref c::r,e=>by rw[refuseLoop_ref];show Z0 self (by unfold bF at e;show e)|[],e=>by cases e|.type n::r,e=>by
  let e':(Value.type n::r)=sH:=by unfold bF at e;show iK.mp e
  rw[e'];show PySem.F.store_ValueError.passes self
 |.none::r,e=>by unfold bF at e;cases (iK.mp e)|.bool _::r,e=>by unfold bF at e;cases (iK.mp e)|.int _ _::r,e=>by unfold bF at e;cases (iK.mp e)|.str _ _::r,e=>by unfold bF at e;cases (iK.mp e)|.bytes _ _::r,e=>by unfold bF at e;cases (iK.mp e)|.float _ _::r,e=>by unfold bF at e;cases (iK.mp e)|.builtin _::r,e=>by unfold bF at e;cases (iK.mp e)
theorem Z9:∀{l:List Value},bF l=true->l.contains (.type "object")=true
 |.ref c::r,e=>by rw[Rt,Z9 (l:=r) (by unfold bF at e;show e),Bool.or_true]|[],e=>by cases e|.type n::r,e=>by
  let e':(Value.type n::r)=sH:=by unfold bF at e;show iK.mp e
  rw[e']
  decide
 |.none::r,e=>by unfold bF at e;cases (iK.mp e)|.bool _::r,e=>by unfold bF at e;cases (iK.mp e)|.int _ _::r,e=>by unfold bF at e;cases (iK.mp e)|.str _ _::r,e=>by unfold bF at e;cases (iK.mp e)|.bytes _ _::r,e=>by unfold bF at e;cases (iK.mp e)|.float _ _::r,e=>by unfold bF at e;cases (iK.mp e)|.builtin _::r,e=>by unfold bF at e;cases (iK.mp e)
section
variable {prog:Program}{w:World}{A:Around}{R:Result->Shared->Prop}{E:Value->Shared->Prop}{s:Shared}{K:W.Frag}{x C:Addr}{ox:Obj}{cd:ClassData}{name:Str}{v:Value}{mA:Str->Option Value}{ns:List Str}
def Ai(hx:h.get? x=some ox)(hc:ox.cls=.ref C):Looks M h (typeOf (.ref x)) (.ref C):=by
 rw[<-hc];show(Looks.ld hx).andThen .now
def T5(X:K.In s.heap)(hx:s.heap.get? x=some ox)(hc:ox.cls=.ref C)(vh:∀c,ox.data≠.cls c)(kO:clsIn K C=some cd)(hm:bF cd.mro=true)(vm:cd.hasDict=true)(ht:findIn K (.ref C) name=some none)
  (hd:(ox.dict=none/\∀n,mA n=none)\/∃dx,ox.dict=some dx/\dx≠x/\s.heap.Ns1 dx mA) (hw:Within mA ns) (lF:ns.length<=1000)
  (hq:∀h' tk' d,h'.get? x=some {ox with dict:=some d}->d≠x->h'.Ns1 d (λy=>if y=name then some v else mA y)->((ox.dict=none/\s.heap.objs.size<=d)\/ox.dict=some d)->(∀b o,b≠x->b≠d->s.heap.get? b=some o->h'.get? b=some o)->R (.ok (.ret .none)) {s with heap:=h',toks:=tk'}) :
  codeAny (model prog w) A (.call (.builtin "object.__setattr__") ⟨[.ref x,.str name tk,v],[]⟩) R s:=by
 let SF:=PySem.F.store_object;let ne:cd.mro.isEmpty=false:=by cases q:cd.mro with|nil=>rw[q]at hm;cases hm|cons _ _=>rfl
 let I:Looks (model prog w) s.heap (typeOf (.ref x)) (.ref C):=Ai hx hc;let ao:Looks (model prog w) s.heap (isInstance (.ref x) (.type "object")) true:=I.andThen (looks_mroIn X (by unfold mroIn;rw[kO,Option.bind_some,if_neg (by rw[ne];decide),Z9 hm]));show Rn SF.slot.plain SF.entry (@check_slot (model prog w) _ _ s "object.__setattr__" "object" "__setattr__" (.ref x) [.str name tk,v] [] _ SF.kind SF.split ao (SF.args (.ref x) (.str name tk) v) ?_);let yP:Looks (model prog w) s.heap (mroOf (.ref C)) cd.mro:=(looks_clsIn X kO).andThen .now;rw[osa_eq,refuse_eq];show au (au (I.here (au (yP.here ?_))));rw[Z0 _ hm];show aH (au (I.here (au ((Gn X ht).here (au (aH ?_))))));let⟨oc,odi,oda,osl⟩:=ox;dsimp only at hc hd hq vh;subst hc;show au (aH (au (au (wpAny_loadPart hx (au ((looks_clsIn X kO).here ?_))))));rw[vm];rcases hd with ⟨rfl,hn⟩|⟨dx,rfl,nx,n1⟩
 .let hfr:=(Heap.get?_some_iff.mp hx).2;let hx₁:(s.heap.push {cls:=.type "dict",data:=.dict #[]}).get? x=some ⟨.ref C,none,oda,osl⟩:=bM _ hx;let T6:x≠s.heap.objs.size:=cR (bJ hx);let key:wpAny (model prog w) A.in1 (do
    let d <-alloc {cls:=Value.type "dict",data:=Data.dict #[]}
    update x λo=>{cls:=o.cls,dict:=some d,data:=o.data,slots:=o.slots}
    dictMade (Value.ref C) x d) (λa s'=>wpAny (model prog w) A.in1 (match a with
    |some d=>storeInDict d (Value.str name tk) name v|none=>noDictFor (Value.ref x) (Value.ref C) name (Option.isSome (none:Option Value)))
    (λfin s'=>match fin with
     |Fin.done f=>R (Except.ok f) s'|Fin.again c'=>c'.quiet=true/\codeAny (model prog w) A c' R s')
    (λe s'=>R (Except.error e) s') s') (λe s'=>R (Except.error e) s') s:=by
   show au (wpAny_alloc' ?_);show au (wpAny_update' hx₁ ?_);show aH (a:=some s.heap.objs.size) ?_;let hgd:((s.heap.push {cls:=.type "dict",data:=.dict #[]}).update x λo=>{cls:=o.cls,dict:=some s.heap.objs.size,data:=o.data,slots:=o.slots}).get? s.heap.objs.size
    =some {cls:=.type "dict",data:=.dict #[]}:=
    (Heap.get?_update_ne _ _ _ _ T6.symm).trans (Heap.get?_push_at rfl rfl)
   let wN:((s.heap.push {cls:=.type "dict",data:=.dict #[]}).update x λo=>{cls:=o.cls,dict:=some s.heap.objs.size,data:=o.data,slots:=o.slots}).Ns s.heap.objs.size (λ_=>none):=
    ⟨_,#[],_,hgd,rfl,λe he=>absurd he Zaa,λ_=>rfl⟩
   change wpAny _ _ (storeInDict s.heap.objs.size (.str name tk) name v) _ _ _;unfold storeInDict newKeyGuard;show au (aH (au (wpAny_nsSet1 (Heap.Ns1.of_empty wN) λh' yr hs=>?_)));let⟨oD,esD,epD,T7,T8,T9⟩:=yr.count (Within.cons name v Within.nil);show au (wpAny_lookBehind T7 (by rw[T8];show pastItsLine_dict (jx T9 (by rw[eN,pQ,uM];lia))) ?_);show aH (hq h' _ s.heap.objs.size ?_ T6.symm ?_ (.inl ⟨rfl,bK _⟩) λb ob hbx _ hb=>?_)
   .refine(hs.2 x T6).trans (uJ _ hx₁ ?_);cases oda<;>first|rfl|exact hfr
   .obtain⟨o',es,ep,e1,e2,e3,eu,e4⟩:=yr;show⟨o',es,ep,e1,e2,e3,eu,λy=>by rw[e4 y];by_cases hy:y=name<;>simp[hy,hn]⟩
   .exact(hs.2 b (cR (bJ hb))).trans ((Heap.get?_update_ne _ _ _ _ hbx).trans (bM _ hb))
  cases oda<;>first|exact key|exact absurd rfl (vh _)
 .refine aH (a:=some dx) ?_;change wpAny _ _ (storeInDict dx (.str name tk) name v) _ _ _;unfold storeInDict newKeyGuard;show au (aH (au (wpAny_nsSet1 n1 λh' yr hs=>?_)));let⟨oD,esD,epD,T7,T8,T9⟩:=yr.count (Within.cons name v hw);show au (wpAny_lookBehind T7 (by rw[T8];show pastItsLine_dict (jx T9 (by rw[eN,uM];lia))) ?_);show aH (hq h' _ dx ((hs.2 x nx.symm).trans hx) nx yr (.inr rfl) λb o _ nb e=>(hs.2 b nb).trans e)
def Jt(X:K.In s.heap)(hx:s.heap.get? x=some ox)(hc:ox.cls=.ref C)(vh:∀c,ox.data≠.cls c)(hs:findIn K (.ref C) "__setattr__"=some (some (.builtin "object.__setattr__")))(kO:clsIn K C=some cd)(hm:bF cd.mro=true)(vm:cd.hasDict=true)(ht:findIn K (.ref C) name=some none)
  (hd:(ox.dict=none/\∀n,mA n=none)\/∃dx,ox.dict=some dx/\dx≠x/\s.heap.Ns1 dx mA) (hw:Within mA ns) (lF:ns.length<=1000)
  (hq:∀h' tk' d,h'.get? x=some {ox with dict:=some d}->d≠x->h'.Ns1 d (λy=>if y=name then some v else mA y)->((ox.dict=none/\s.heap.objs.size<=d)\/ox.dict=some d)->(∀b o,b≠x->b≠d->s.heap.get? b=some o->h'.get? b=some o)->Q () {s with heap:=h',toks:=tk'}) :
  wpAny (model prog w) A (setAttr (.ref x) name v) Q E s:=by
 show au (wpAny_mkText (au (au (au (Ai hx hc _ _ _ _ (λ_ _ e=>e) (Gn X hs _ _ _ _ (λ_ _ e=>e) (iJ ?_)))))));rw[PySem.F.store_object.slot.bind];show au (aH (au (z_ (T5 (s:={s with toks:=s.toks+1}) X hx hc vh kO hm vm ht hd hw lF λh' tk' d a1 a2 a3 a4 a5=>?_))));show aH (aH (hq h' tk' d a1 a2 a3 a4 a5))
end
end L2
namespace L2
open PySem PySem.Spec PyProof.Rows PySem.W PySem.Calls
def nmE:Expr->Option Str
 |.Name a _=>some a|_=>none
def Z_:Expr->Option (Expr×Str)
 |.Attribute o x _=>some (o,x)|_=>none
def asE:Stmt->Option (List Expr×Expr)
 |.Assign ts v _=>some (ts,v)|_=>none
def Ju:List Expr->Option Expr
 |[]=>none|t::r=>if r.isEmpty then some t else none
def Dl(st:Stmt):Option (Str×Str×Str):=(asE st).bind λp=>(Ju p.1).bind λt=>(Z_ t).bind λq=>(nmE q.1).bind λa=>(nmE p.2).map λy=>(a,q.2,y)
def zjb{e:Expr}{a:Str}(h:nmE e=some a):∃p,e=.Name a p:=by cases e<;>first|(cases h;show⟨_,rfl⟩)|cases h
def zmH{e:Expr}{a:Expr×Str}(h:Z_ e=some a):∃p,e=.Attribute a.1 a.2 p:=by cases e<;>first|(cases h;show⟨_,rfl⟩)|cases h
def zmj{e:Stmt}{a:List Expr×Expr}(h:asE e=some a):∃p,e=.Assign a.1 a.2 p:=by cases e<;>first|(cases h;show⟨_,rfl⟩)|cases h
def zj6{e:List Expr}{a:Expr}(h:Ju e=some a):e=[a]:=by
 cases e with
 |nil=>cases h|cons t r=>cases r with
  |nil=>cases h;rfl|cons _ _=>cases h
def zln{st:Stmt}{t:Str×Str×Str}(h:Dl st=some t):∃p1 p2 p3 p4,st=.Assign [.Attribute (.Name t.1 p1) t.2.1 p2] (.Name t.2.2 p3) p4:=by
 let⟨b,e1,h⟩:=qM.mp h;let⟨u,e2,h⟩:=qM.mp h;let⟨o,e3,h⟩:=qM.mp h;let⟨a,e4,h⟩:=qM.mp h;let⟨y,e5,h6⟩:=jR.mp h;let⟨p1,e1⟩:=zmj e1;let⟨p2,e3⟩:=zmH e3;let⟨p3,e4⟩:=zjb e4;let⟨p4,e5⟩:=zjb e5;show⟨p3,p2,p4,p1,by rw[<-h6,e1,zj6 e2,e3,e4,e5]⟩
def iz(sf:Str):List Stmt->List Str->Bool
 |[],fs=>fs.isEmpty|st::rest,fs=>match fs with
  |[]=>false|f::fs=>Dl st==some (sf,f,f)&&iz sf rest fs
def zcA{sf f:Str}{fs:List Str}{body:List Stmt}(h:iz sf body (f::fs)=true):∃p1 p2 p3 p4 rest,body=.Assign [.Attribute (.Name sf p1) f p2] (.Name f p3) p4::rest/\iz sf rest fs=true:=by
 cases body with
 |nil=>cases h|cons st rest=>
  let h:(Dl st==some (sf,f,f)&&iz sf rest fs)=true:=h;let⟨h1,h2⟩:=(b_ _ _).mp h;let⟨p1,p2,p3,p4,e⟩:=zln (eq_of_beq h1);show⟨p1,p2,p3,p4,rest,by rw[e],h2⟩
def kW:List (Str×Value)->(Str->Option Value)->Str->Option Value
 |[],m=>m|(f,u)::r,m=>kW r (λy=>if y=f then some u else m y)
section
variable {prog:Program}{w:World}{K:W.Frag}{C e:Addr}{cd:ClassData}{env:Env}{m:Str->Option Value}{A:Around}{E:Value->Shared->Prop}{sf:Str}
theorem zcC(hk:env.scope.kind=.function)(oM:m sf=some (.ref e))(m6:env.scope.names.lookup sf=some .local)(Jv:(sf==("__debug__" : Str))=false)(vo:findIn K (.ref C) "__setattr__"=some (some (.builtin "object.__setattr__")))(kO:clsIn K C=some cd)(hm:bF cd.mro=true)(vm:cd.hasDict=true)
  (Jw:∀b o,K.lookup b=some o->b≠e) (hL:env.locals≠e):∀(fs:List Str) (us:List Value) (body:List Stmt) (ox:Obj) (mA:Str->Option Value) (ns:List Str) (s:Shared) (Q:Flow->Shared->Prop),iz sf body fs=true->fs.length=us.length->
  (∀(i:Nat) f u,fs[i]?=some f->us[i]?=some u->m f=some u)->(∀f∈fs,env.scope.names.lookup f=some .local/\(f==("__debug__" : Str))=false/\findIn K (.ref C) f=some none)->
  K.In s.heap->s.heap.Ns env.locals m->s.heap.get? e=some ox->ox.cls=.ref C->(∀c,ox.data≠.cls c)->(∃dx,ox.dict=some dx/\dx≠e/\s.heap.Ns1 dx mA/\dx≠env.locals/\∀b o,K.lookup b=some o->b≠dx)->Within mA ns->ns.length+fs.length<=1000->
  (∀h' tk',h'.get? e=some ox->(∀dx,ox.dict=some dx->h'.Ns1 dx (kW (fs.zip us) mA))->(∀b o,b≠e->(∀dx,ox.dict=some dx->b≠dx)->s.heap.get? b=some o->h'.get? b=some o)->Q .next {s with heap:=h',toks:=tk'})->
  wpAny (model prog w) A (execs body env) Q E s
 |[],us,[],ox,mA,ns,s,Q,hb,hl,hv,hf,X,hN,he,hc,vh,⟨dx,h1,h2,h3,h4,h5⟩,hw,hz,q=>by
  cases us with
  |cons _ _=>cases hl|nil=>show Ny (q s.heap s.toks he (λd hd=>by rw[h1]at hd;cases hd;show h3) λb o _ _ e=>e)
 |[],us,st::rest,ox,mA,ns,s,Q,hb,_,_,_,_,_,_,_,_,_,_,_,_=>by
  cases hb
 |f::fs,[],body,ox,mA,ns,s,Q,hb,hl,_,_,_,_,_,_,_,_,_,_,_=>by cases hl|f::fs,u::us,body,ox,mA,ns,s,Q,hb,hl,hv,hf,X,hN,he,hc,vh,⟨dx,h1,h2,h3,h4,h5⟩,hw,hz,q=>by
  let⟨p1,p2,p3,p4,rest,rfl,Gw⟩:=zcA hb;let⟨k1,k2,k3⟩:=hf _ fK;let hu:=hv 0 _ _ rfl rfl;show wpAny_execs_cons ?_;show plainObj_wpAny_Assign_Attribute ?_ rfl;show BZ (Ho hk k1 hN hu ?_) k2;show BZ (Ho hk m6 hN oM ?_) Jv;show Jt (ns:=ns) X he hc vh vo kO hm vm k3 (.inr ⟨dx,h1,h2,h3⟩) hw gV λh' tk' d a1 a2 a3 a4 a5=>?_;let ed:d=dx:=by
   rcases a4 with ⟨z,_⟩|z
   .rw[h1]at z;cases z
   .rw[h1]at z;cases z;rfl
  subst ed;let eo:({ox with dict:=some d}:Obj)=ox:=by rw[<-h1]
  rw[eo]at a1;let X':K.In h':=λb o z=>a5 b o (Jw b o z) (h5 b o z) (X b o z);let T_:h'.Ns env.locals m:=let ⟨o,es,ep,e1,r⟩:=hN;⟨o,es,ep,a5 _ _ hL h4.symm e1,r⟩;show zcC hk oM m6 Jv vo kO hm vm Jw hL fs us rest ox _ (f::ns) {s with heap:=h',toks:=tk'} Q Gw (by simpa using hl) (λi f u e1 e2=>hv (i+1) f u (by simpa using e1) (by simpa using e2)) (λf hf'=>hf f (dI _ hf')) X' T_ a1 hc vh ⟨d,h1,h2,a3,h4,h5⟩ (Within.cons f u hw) (by simp at hz ⊢;lia) λh2' tk2 b1 b2 b3=>q h2' tk2 b1 (λdx' Cr=>?_) λb o nb nd e'=>b3 b o nb nd (a5 b o nb (nd d h1) e');show b2 dx' Cr
def zek(hk:env.scope.kind=.function)(oM:m sf=some (.ref e))(m6:env.scope.names.lookup sf=some .local)(Jv:(sf==("__debug__" : Str))=false)(vo:findIn K (.ref C) "__setattr__"=some (some (.builtin "object.__setattr__")))(kO:clsIn K C=some cd)(hm:bF cd.mro=true)(vm:cd.hasDict=true)
  (Jw:∀b o,K.lookup b=some o->b≠e) (hL:env.locals≠e) {f:Str} {fs:List Str} {u:Value} {us:List Value} {body:List Stmt} {ox:Obj} {s:Shared} {Q:Flow->Shared->Prop} (hb:iz sf body (f::fs)=true) (hl:fs.length=us.length) (hz:fs.length<=900)
  (hv:∀(i:Nat) g v,(f::fs)[i]?=some g->(u::us)[i]?=some v->m g=some v) (hf:∀g∈f::fs,env.scope.names.lookup g=some .local/\(g==("__debug__" : Str))=false/\findIn K (.ref C) g=some none)
  (X:K.In s.heap) (hN:s.heap.Ns env.locals m) (he:s.heap.get? e=some ox) (hc:ox.cls=.ref C) (vh:∀c,ox.data≠.cls c) (hd:ox.dict=none)
  (q:∀h' tk' d,s.heap.objs.size<=d->h'.get? e=some {ox with dict:=some d}->h'.Ns1 d (kW ((f::fs).zip (u::us)) λ_=>none)->(∀b o,b≠e->b≠d->s.heap.get? b=some o->h'.get? b=some o)->Q .next {s with heap:=h',toks:=tk'}) :
  wpAny (model prog w) A (execs body env) Q E s:=by
 let⟨p1,p2,p3,p4,rest,rfl,Gw⟩:=zcA hb;let⟨k1,k2,k3⟩:=hf _ fK;let hu:=hv 0 _ _ rfl rfl;show wpAny_execs_cons ?_;show plainObj_wpAny_Assign_Attribute ?_ rfl;show BZ (Ho hk k1 hN hu ?_) k2;show BZ (Ho hk m6 hN oM ?_) Jv;show Jt (ns:=[]) (mA:=λ_=>none) X he hc vh vo kO hm vm k3 (.inl ⟨hd,λ_=>rfl⟩) Within.nil (lH _) λh' tk' d a1 a2 a3 a4 a5=>?_;let fd:s.heap.objs.size<=d:=by
  rcases a4 with ⟨_,z⟩|z
  .exact z
  .rw[hd]at z;cases z
 let nd:∀b o,s.heap.get? b=some o->b≠d:=λb o z=>cR (gG (bJ z) fd);let X':K.In h':=λb o z=>a5 b o (Jw b o z) (nd b o (X b o z)) (X b o z);let T_:h'.Ns env.locals m:=let ⟨o,es,ep,e1,r⟩:=hN;⟨o,es,ep,a5 _ _ hL (nd _ _ e1) e1,r⟩;let nL:d≠env.locals:=let ⟨o,es,ep,e1,r⟩:=hN;(nd _ _ e1).symm;show zcC hk oM m6 Jv vo kO hm vm Jw hL fs us rest {ox with dict:=some d} _ [f] {s with heap:=h',toks:=tk'} Q Gw hl (λi g v e1 e2=>hv (i+1) g v (by simpa using e1) (by simpa using e2)) (λg hg=>hf g (dI _ hg)) X' T_ a1 hc vh ⟨d,rfl,a2,a3,nL,λb o z=>nd b o (X b o z)⟩ (Within.cons f u Within.nil) (by simp;lia) λh2 tk2 b1 b2 b3=>q h2 tk2 d fd b1 (b2 d rfl) λb o n1 n2 z=>b3 b o n1 (λdx hx=>by cases hx;show n2) (a5 b o n1 n2 z)
end
end L2
end Lake
namespace PySem
open Lake
open Sem (wp)
section
variable {prog:Program}{w:World}{A:Around}{E:Value->Shared->Prop}{h:Heap}{g:Array GenState}{d:Drawn}{t:Nat}{os:OsState}
variable {nm q:Str}{C N:Addr}{bs bm bmB:List Value}{hdct:Bool}{sn:List Str}{ao:List Value}{ab:Bool}{col:Option Bool}{dd:Option Addr}{k0 k1 k2 k3 k5:Option Value}{B Bn newId nid initId inN:String}{bmN:List Value}
def zaL(Fn:ExcBaseFacts Bn newId inN bmN)(Gx:bmB.contains (.type Bn)=true)(F:ExcBaseFacts B nid initId bmB)(T:OwnTail h bmB bm)
  (hC:h.get? C=some (excClassObj nm q C N bs bm hdct sn ao ab col dd k0 k1 k2 k3 k5 newId)) (hn:h.Ns N mN) (hi:mN "__init__"=some (.ref fI))
  (Dm:h.get? fI=some oI) (Jx:oI.cls=.type "function")
  (hq:wpAny (model prog w) A (call (.ref fI) (.ref (h.objs.size+1)::rest)) (λr s'=>r=.none/\Q (.done (.ret (.ref (h.objs.size+1)))) s') E
   ⟨(h.push {cls:=.type "tuple",data:=.seq rest.toArray}).push {cls:=.ref C,data:=.fields #[.ref h.objs.size,.none,.none,.none,.bool false,.none]},g,d,t,os⟩) (hrest:rest.length<=sizeLine:=by size_fits) :
  wpAny (model prog w) A (Builtin.«type.__call__» ⟨.ref C::rest,[]⟩) Q E ⟨h,g,d,t,os⟩:=by
 repeat (first|with_reducible show BP hC ?_|with_reducible show wpAny_madeBy_exc hC ?_|wp_step)
 show codeAny_call_builtin_code (Nj _ Fn.quiet) (wpAny_check_new_subU Fn Gx T hC ?_);show codeAny_exc_new_subU Fn Gx F T hC ?_ hrest;change wpAny _ _ _ _ _ _;let hC₁:=bM {cls:=.ref C,data:=.fields #[.ref h.objs.size,.none,.none,.none,.bool false,.none]}
  (bM {cls:=.type "tuple",data:=.seq rest.toArray} hC)
 let Dm₁:=bM {cls:=.ref C,data:=.fields #[.ref h.objs.size,.none,.none,.none,.bool false,.none]}
  (bM {cls:=.type "tuple",data:=.seq rest.toArray} Dm)
 let hn₁:((h.push {cls:=.type "tuple",data:=.seq rest.toArray}).push {cls:=.ref C,data:=.fields #[.ref h.objs.size,.none,.none,.none,.bool false,.none]}).Ns N mN:=
  let ⟨o,es,ep,e,r⟩:=hn;⟨o,es,ep,bM _ (bM _ e),r⟩
 let sX:((h.push {cls:=.type "tuple",data:=.seq rest.toArray}).push
   {cls:=.ref C,data:=.fields #[.ref h.objs.size,.none,.none,.none,.bool false,.none]}).get? (h.objs.size+1)=some
   {cls:=.ref C,data:=.fields #[.ref h.objs.size,.none,.none,.none,.bool false,.none]}:=by heap_get
 let hcC:(Value.ref C::bm).contains (.ref C)=true:=by simp
 let T₁:=T.keeps (h':=(h.push {cls:=.type "tuple",data:=.seq rest.toArray}).push {cls:=.ref C,data:=.fields #[.ref h.objs.size,.none,.none,.none,.bool false,.none]})
  λb o e=>bM _ (bM _ e)
 unfold isInstance
 repeat (first|with_reducible show BP sX ?_|(with_reducible show Ng hC₁ ?_;rw[hcC])|wp_step)
 change wpAny _ _ (typeLookup (.ref C) _) _ _ _;show wpAny_typeLookup_tail hC₁ hn₁ T₁ F.mroIs F.init.lookup ?_;rw[hi];show iJ (au ?_);unfold bindSpecial;show au (zY (T:="function") ⟨_,Dm₁,Jx⟩ ?_);rw[if_pos W9];show aH (au (jy hq (λr s' hr=>?_) λ_ _ x=>x));let⟨rfl,hQ⟩:=hr
 wp_walk
 show hQ
def za7(Fn:ExcBaseFacts Bn newId inN bmN)(Gx:bmB.contains (.type Bn)=true)(F:ExcBaseFacts B nid initId bmB)(T:OwnTail h bmB bm)
  (hC:h.get? C=some (excClassObj nm q C N bs bm hdct sn ao ab col dd k0 k1 k2 k3 k5 newId)) (hn:h.Ns N mN) (hi:mN "__init__"=some (.ref fI))
  (Dm:h.get? fI=some oI) (Jx:oI.cls=.type "function")
  (hq:wpAny (model prog w) (A.under (.builtin "type.__call__" ⟨.ref C::rest,[]⟩)) (call (.ref fI) (.ref (h.objs.size+1)::rest)) (λr s'=>r=.none/\Q (.ref (h.objs.size+1)) s') E
   ⟨(h.push {cls:=.type "tuple",data:=.seq rest.toArray}).push {cls:=.ref C,data:=.fields #[.ref h.objs.size,.none,.none,.none,.bool false,.none]},g,d,t,os⟩) (hrest:rest.length<=sizeLine:=by size_fits) :
  wpAny (model prog w) A (call (.ref C) rest) Q E ⟨h,g,d,t,os⟩:=by
 let f1:=tc_lookup;let f2:=tc_bind (.ref C);let hT:(⟨h,g,d,t,os⟩ : Shared).TypeIs (.ref C) "type":=⟨_,hC,rfl⟩;show z_ (codeAny_of_tree ?_);change wpAny _ _ (callAny (.ref C) _) _ _ _
 repeat (any_goals (first|assumption|with_reducible show BP hC ?_|wp_step))
 show⟨rfl,?_⟩;show codeAny_call_builtin_at (Nj _ J0) entry_typeCall (wpAny_check_type_call_sub hC (zaL (hrest:=hrest) Fn Gx F T hC hn hi Dm Jx ?_));show hq
end
section
variable {prog:Program}{w:World}{A:Around}{E:Value->Shared->Prop}{s:Shared}{env:Env}
variable {nm q:Str}{C N:Addr}{bs bm bmB:List Value}{hdct:Bool}{sn:List Str}{ao:List Value}{ab:Bool}{col:Option Bool}{dd:Option Addr}{k0 k1 k2 k3 k5:Option Value}{B Bn newId nid initId inN:String}{bmN:List Value}
def Ua(bN:bm.contains (.type "BaseException")=true)(hh:A.handled=none)
  (h:wpAny M A x (λv s₁=>∃e t dx,v=.ref e/\s₁.heap.get? C=some (excClassObj nm q C N bs bm hdct sn ao ab col dd k0 k1 k2 k3 k5 newId) /\
   s₁.heap.get? e=some {cls:=.ref C,dict:=dx,data:=.fields #[.ref t,.none,.none,.none,.bool false,.none]}/\E (.ref e) s₁) E s) :
  wpAny M A (raiseStmt env (some x) none) Q E s:=by
 let hcB:(Value.ref C::bm).contains (.type "BaseException")=true:=by rw[Rt,bN,Bool.or_true]
 unfold raiseStmt;show au (jy h (λv s₁ h₁=>?_) λ_ _ x=>x);let⟨e,t,dx,rfl,hC,he,hE⟩:=h₁;let⟨hp,g,d,tk,os⟩:=s₁
 repeat (first|with_reducible show BP he ?_|with_reducible show BP hC ?_|(with_reducible show Ng hC ?_;rw[hcB])|wp_step)
 show wpAny_raiseNew_none hh hE
def zaX(Fn:ExcBaseFacts Bn newId inN bmN)(Gx:bmB.contains (.type Bn)=true)(F:ExcBaseFacts B nid initId bmB){mN:Str->Option Value}{fI:Addr}{oI:Obj}{x:Str}{np cpos pos:Pos}{args:List Expr}{Q:Flow->Shared->Prop}
  (bN:bm.contains (.type "BaseException")=true) (hh:A.handled=none) (bC:(backTo cpos (starEach args env)).any (·.1)=false) (hi:mN "__init__"=some (.ref fI)) (Jx:oI.cls=.type "function")
  (h:wpAny (model prog w) A (eval (.Name x np) env) (λf s₁=>f=.ref C/\wpAny (model prog w) A (evalArgs (.ref C) true (backTo cpos (starEach args env)) [])
   (λa s₂=>a.kw=[]/\a.pos.length<=sizeLine/\s₂.heap.get? C=some (excClassObj nm q C N bs bm hdct sn ao ab col dd k0 k1 k2 k3 k5 newId)/\s₂.heap.Ns N mN/\OwnTail s₂.heap bmB bm/\s₂.heap.get? fI=some oI /\
    wpAny (model prog w) (A.under (.builtin "type.__call__" ⟨.ref C::a.pos,[]⟩)) (call (.ref fI) (.ref (s₂.heap.objs.size+1)::a.pos)) (λr s'=>r=.none/\(∃dx t0,s'.heap.get? (s₂.heap.objs.size+1)=some {cls:=.ref C,dict:=dx,data:=.fields #[.ref t0,.none,.none,.none,.bool false,.none]})/\s'.heap.get? C=some (excClassObj nm q C N bs bm hdct sn ao ab col dd k0 k1 k2 k3 k5 newId)/\E (.ref (s₂.heap.objs.size+1)) s') E
     {s₂ with heap:=(s₂.heap.push {cls:=.type "tuple",data:=.seq a.pos.toArray}).push {cls:=.ref C,data:=.fields #[.ref s₂.heap.objs.size,.none,.none,.none,.bool false,.none]}}) E s₁) E s) :
  wpAny (model prog w) A (exec (.Raise (some (.Call (.Name x np) args [] cpos)) none pos) env) Q E s:=by
 rw[arm_exec_Raise]
 first
  |refine au (uK (Ua (C:=C) (nm:=nm) (q:=q) (N:=N) (bs:=bs) (bm:=bm) (hdct:=hdct) (sn:=sn) (ao:=ao) (ab:=ab) (col:=col) (dd:=dd) (k0:=k0) (k1:=k1) (k2:=k2) (k3:=k3) (k5:=k5) (newId:=newId) bN hh (au (jy (wpAny_Call_ofName (jy h (λf s₁ h₁=>?_) λ_ _ x=>x)) (λv s₃ h₃=>au (uK (aH h₃))) λ_ _ x=>x))))|(simp only[evalOpt,Option.map];show au (uK (Ua (C:=C) (nm:=nm) (q:=q) (N:=N) (bs:=bs) (bm:=bm) (hdct:=hdct) (sn:=sn) (ao:=ao) (ab:=ab) (col:=col) (dd:=dd) (k0:=k0) (k1:=k1) (k2:=k2) (k3:=k3) (k5:=k5) (newId:=newId) bN hh (au (jy (wpAny_Call_ofName (jy h (λf s₁ h₁=>?_) λ_ _ x=>x)) (λv s₃ h₃=>au (uK (aH h₃))) λ_ _ x=>x)))))|(show au (uK (Ua (C:=C) (nm:=nm) (q:=q) (N:=N) (bs:=bs) (bm:=bm) (hdct:=hdct) (sn:=sn) (ao:=ao) (ab:=ab) (col:=col) (dd:=dd) (k0:=k0) (k1:=k1) (k2:=k2) (k3:=k3) (k5:=k5) (newId:=newId) bN hh ?_));show au (jy (wpAny_Call_ofName (jy h (λf s₁ h₁=>?_) λ_ _ x=>x)) (λv s₃ h₃=>au (uK (aH h₃))) λ_ _ x=>x))
 let⟨rfl,h₁⟩:=h₁;unfold callWith;show au (iJ (jy h₁ (λa s₂ h₂=>au (uK ?_)) λ_ _ x=>x));let⟨apos,akw⟩:=a;let⟨hkw,hlen,hC,hn,T,Dm,h₂⟩:=h₂;obtain rfl:akw=[]:=hkw;let⟨hp,g,d,tk,os⟩:=s₂;simp only[bC];show au (wpAny_keeperOf_exc hC ?_);show au (za7 (hrest:=hlen) Fn Gx F T hC hn hi Dm Jx (jy h₂ (λr s' hr=>?_) λ_ _ x=>x));let⟨rfl,⟨dx,t0,ht⟩,hC',hE⟩:=hr;show⟨rfl,au (iJ (wpAny_point (aH ⟨_,t0,dx,rfl,hC',ht,hE⟩)))⟩
end
end PySem
namespace Lake
namespace L2
open PySem PySem.Spec PyProof.Rows PySem.W PySem.Calls
theorem Ub{α:Type}:∀{l:List (Str×α)} {f:Str} {u:α},(l.map (·.1)).Nodup->(f,u)∈l->l.lookup f=some u
 |(g,v)::r,f,u,hn,hm=>by
  rw[jw,sE]at hn;rw[nJ];rcases cX.mp hm with e|hm
  .cases e;simp
  .let:f≠g:=λz=>hn.1 (by rw[<-z];show gM.mpr ⟨(f,u),hm,rfl⟩);rw[show (f==g)=false by simpa using this];show Ub hn.2 hm
def zg2{α:Type}{fs:List Str}{us:List α}{i:Nat}{f:Str}{u:α}(h1:fs[i]?=some f)(h2:us[i]?=some u):(f,u)∈fs.zip us:=by
 show jL (i:=i) ?_;show(List.getElem?_zip_eq_some (z:=(f,u))).mpr ⟨h1,h2⟩
def ze5{α:Type}{fs:List Str}{us:List α}(h:fs.length=us.length):(fs.zip us).map (·.1)=fs:=by
 rw[List.map_fst_zip]
 lia
def zfO{α:Type}{fs:List Str}{us:List α}(hn:fs.Nodup)(hl:fs.length=us.length){i:Nat}{f:Str}{u:α}(h1:fs[i]?=some f)(h2:us[i]?=some u):(fs.zip us).reverse.lookup f=some u:=by
 show Ub ?_ (List.mem_reverse.mpr (zg2 h1 h2));rw[List.map_reverse,ze5 hl,List.Nodup,List.pairwise_reverse];show List.Pairwise.imp (λh=>h.symm) hn
theorem zdG:∀{l:List (Str×Value)} {m:Str->Option Value} {f:Str},(l.map (·.1)).Nodup->kW l m f=match l.lookup f with|some u=>some u|none=>m f
 |[],m,f,_=>rfl|(g,v)::r,m,f,hn=>by
  rw[jw,sE]at hn;unfold kW;rw[zdG hn.2,nJ];by_cases e:f=g
  .subst e;let:r.lookup f=none:=by
    cases z:r.lookup f with
    |none=>rfl|some u=>
     exfalso
     apply hn.1;clear hn
     induction r with
     |nil=>cases z|cons p r ih=>
      rw[nJ]at z;by_cases e:f=p.1
      .rw[e];show fK
      .rw[show (f==p.1)=false by simpa using e]at z;show dI _ (ih z)
   rw[this];simp
  .rw[show (f==g)=false by simpa using e,if_neg e]
def zh6{fs:List Str}:∀{vs:List V} {us:List Value},Vals vs us->∀f,Cm ((fs.zip vs).lookup f) ((fs.zip us).lookup f):=by
 induction fs with
 |nil=>intro vs us _ f;show trivial|cons g r ih=>
  intro vs us h f;cases h with
  |nil=>show trivial|cons h t=>
   rw[zP,zP,nJ,nJ];by_cases e:f=g
   .rw[show (f==g)=true by simpa using e];show h
   .rw[show (f==g)=false by simpa using e];show ih t f
def ziZ{K:Frag}{h:Heap}{C fI:Addr}(XI:K.In h)(q:mL K C fI=true) :
  ∃bm N nm qn bs hdct sn ao ab col dd k0 k1 k2 k3 k5 mN,h.get? C=some (excClassObj nm qn C N bs bm hdct sn ao ab col dd k0 k1 k2 k3 k5 "ValueError.__new__")/\h.Ns N mN/\mN "__init__"=some (.ref fI)/\OwnTail h sH bm:=by
 let⟨bm,N,nm,qn,bs,hdct,sn,ao,ab,col,dd,k0,k1,k2,k3,k5,hc,nok,noi,tl⟩:=ziV XI q;let hNs:h.Ns N (h.nsMap N):=.of_isNs (isNs_of_in XI nok);show⟨bm,N,nm,qn,bs,hdct,sn,ao,ab,col,dd,k0,k1,k2,k3,k5,_,hc,hNs,p8 XI hNs noi,tl⟩
where
 p8 {K:Frag} {h:Heap} {N:Addr} {x:Str} {v:Value} {m:Str->Option Value} (X:K.In h) (G:h.Ns N m) (e:nsIn K N x=some (some v)):m x=some v:=by
  let⟨o,es,ep,ho,hd,_,hf⟩:=G;unfold nsIn at e;split at e
  .rename_i c d es' n' sl q;let:=X _ _ q;rw[ho]at this;cases this;cases hd;rw[<-hf x];split at e
   .rename_i z;cases e;unfold nsFind findBy;rw[<-Array.find?_toList,z];rfl
   .split at e<;>cases e
  .cases e
structure je(K:Frag)(C:Addr)(ar:Arguments)(bd:List Stmt)(sc:Scope)(fs:List Str):Prop where
 ex:∃(fI:Addr) (od:Option Addr) (kV doc pm:Value) (an:Option Addr) (cdv ct:Value) (osl:Array (Option Value)) (qual:Str) (cd:ClassData),
  K.lookup fI=some ⟨.type "function",od,.func (fnOf "__init__" qual ar bd sc .none kV doc pm an cdv ct),osl⟩/\codeIn K cdv qual=true/\mL K C fI=true/\clsIn K C=some cd/\bF cd.mro=true/\cd.hasDict=true /\
  (∀us:List Value,us.length=fs.length+1->bindArgs (fnOf "__init__" qual ar bd sc .none kV doc pm an cdv ct) ⟨us,[]⟩=pure ((("self" : Str)::fs).zip us))
 set:findIn K (.ref C) "__setattr__"=some (some (.builtin "object.__setattr__"))
 nd:("self"::fs:List Str).Nodup
 ne:fs≠[]
 few:fs.length<=900
 body:iz "self" bd fs=true
 qb:∀x∈sc.names,x.2≠.cell
 loc:∀f∈("self"::fs:List Str),sc.names.lookup f=some .local/\(f==("__debug__" : Str))=false
 fld:∀f∈fs,findIn K (.ref C) f=some none
 co:sc.isCoroutine=false
 gen:sc.isGenerator=false
 kind:sc.kind=.function
section
variable {X:Cx}{EX:XS}{C:Addr}{ar:Arguments}{bd:List Stmt}{sc:Scope}{fs:List Str}{t:TA}{x:Str}{p apos pos:Pos}{e:Expr}{es:List Expr}
def yQ(EX:XS)(C:Addr)(fs:List Str)(t:TA):TS:=λ_ Z H=>t Z H λvs H1=>vs.length=fs.length/\vs.length<=sizeLine/\∀d,H1 d=none->EX Z (.ref C) (some d) (upd H1 d (.xd (fs.zip vs)))
def zg6{k:Nat}(hr:bT k X.A)(hc:X.aj=true)(IO:je X.K C ar bd sc fs)(hg:Gl X x)(hm:X.mg x=some (.ref C))
  (R:Raises X EX) (ha:PA X (e::es) t) (mW:(x==("__debug__" : Str))=false:=by decide) (he:starEach (e::es) X.env=(false,eval e X.env)::starEach es X.env:=by rfl) (hpl:(backTo apos (starEach es X.env)).any (·.1)=false:=by rfl) :
  PS X (.Raise (some (.Call (.Name x p) (e::es) [] apos)) none pos) (yQ EX C fs t):=by
 intro ak s Z H D I h;let⟨fI,od,kV,doc,pm,an,cdv,ct,osl,qual,cd,lk,nP,hX,kO,Jy,vm,u6⟩:=IO.ex;let⟨bm,N,nm,qn,bs,hdct,sn,ao,ab,col,dd,k0,k1,k2,k3,k5,mN,hC,hN,Jz,T⟩:=ziZ I.mod.Cg hX;show zaX (C:=C) (nm:=nm) (q:=qn) (N:=N) (bs:=bs) (bm:=bm) (hdct:=hdct) (sn:=sn) (ao:=ao) (ab:=ab) (col:=col) (dd:=dd) (k0:=k0) (k1:=k1) (k2:=k2) (k3:=k3) (k5:=k5) (bmB:=sH)
  QZ J0 QZ (mN:=mN) (fI:=fI) (T.hasType QZ.hasBase) (I.ok.hd hc) (by rw[he];change (false||(backTo apos (starEach es X.env)).any (·.1))=false;rw[hpl];rfl) Jz (oI:=⟨.type "function",od,.func (fnOf "__init__" qual ar bd sc .none kV doc pm an cdv ct),osl⟩) rfl (Oc I hg hm ⟨rfl,?_⟩ mW)
 let h2:=ha apos ak s Z H _ I h;rw[he]at h2 ⊢;show Calls.evalArgs_plain (bf h2 λus s2 ⟨vs,H2,I2,r,hl,z,q⟩=>⟨rfl,by rw[<-r.length];show z,I2.bk _ _ hC,hN.keeps I2.bk,T.keeps I2.bk,I2.sS _ _ lk,?_⟩);let Gy:us.length=fs.length:=by rw[<-r.length];show hl
 dsimp only;generalize hS:({s2 with heap:=(s2.heap.push {cls:=.type "tuple",data:=.seq us.toArray}).push {cls:=.ref C,data:=.fields #[.ref s2.heap.objs.size,.none,.none,.none,.bool false,.none]}}:Shared)=s3;let JD:s3.heap.objs.size=s2.heap.objs.size+2:=by rw[<-hS];simp[sG]
 let vp:∀b o,s2.heap.get? b=some o->s3.heap.get? b=some o:=λb o q=>by rw[<-hS];show bM _ (bM _ q)
 let he3:s3.heap.get? (s2.heap.objs.size+1)=some {cls:=.ref C,data:=.fields #[.ref s2.heap.objs.size,.none,.none,.none,.bool false,.none]}:=by
  rw[<-hS];let:=fW (s2.heap.push {cls:=.type "tuple",data:=.seq us.toArray}) (o:={cls:=.ref C,data:=.fields #[.ref s2.heap.objs.size,.none,.none,.none,.bool false,.none]}) rfl;rw[sG]at this;show this
 let Uc:X.K.In s3.heap:=I2.sS.keeps vp;let Ud:s3.heap.NoLimit:=I2.nolimit.keeps vp;let nK:∀b o,X.K.lookup b=some o->b≠s2.heap.objs.size+1:=λb o q=>cR (ug (bJ (I2.sS b o q)));let hlen:("self"::fs:List Str).length=(Value.ref (s2.heap.objs.size+1)::us).length:=by simp[Gy]
 show z_ (codeAny_call_def (fd:=fnOf "__init__" qual ar bd sc .none kV doc pm an cdv ct) (binds:=(("self" : Str)::fs).zip (Value.ref (s2.heap.objs.size+1)::us)) (by let:=hr.dp;change X.A.depth+(Code.builtin "type.__call__" {pos:=Value.ref C::us}).weight<recursionLimit;let w:(Code.builtin "type.__call__" {pos:=Value.ref C::us}).weight<=1:=(by change (Code.builtin "type.__call__" {pos:=Value.ref C::us}).weight<=1;first|exact bK _|exact lH _|exact Rh (by kernel_rfl)|(simp[Code.weight,Code.frames,Code.isGuard,Code.isCaller]));lia) (Uc _ _ lk) rfl Ud (codeRec_of Uc nP) rfl
  (.of_eq (u6 _ (by simp[Gy]))) IO.qb (λy hy=>(IO.loc y.1 (Nz hy).1).1) (λh₀ Jg Ue=>?_) IO.co IO.gen IO.kind)
 obtain⟨f0,fr,rfl⟩ : ∃f0 fr,fs=f0::fr:=by
  cases hfs:fs with
  |nil=>show absurd hfs IO.ne|cons a b=>show⟨a,b,rfl⟩
 obtain⟨u0,ur,rfl⟩ : ∃u0 ur,us=u0::ur:=by
  cases hus:us with
  |nil=>rw[hus]at Gy;cases Gy|cons a b=>show⟨a,b,rfl⟩
 let get:∀(i:Nat) g v,("self"::f0::fr:List Str)[i]?=some g->(Value.ref (s2.heap.objs.size+1)::u0::ur)[i]?=some v->((("self" : Str)::f0::fr).zip (Value.ref (s2.heap.objs.size+1)::u0::ur)).reverse.lookup g=some v:=λi g v e1 e2=>zfO IO.nd hlen e1 e2;show zek (K:=X.K) (C:=C) (cd:=cd) (sf:="self") (e:=s2.heap.objs.size+1) (m:=λx=>((("self" : Str)::f0::fr).zip (Value.ref (s2.heap.objs.size+1)::u0::ur)).reverse.lookup x) (fs:=fr) (us:=ur) (ox:={cls:=.ref C,data:=.fields #[.ref s2.heap.objs.size,.none,.none,.none,.bool false,.none]})
  IO.kind (get 0 _ _ rfl rfl) (IO.loc _ fK).1 (IO.loc _ fK).2 IO.set kO Jy vm nK (uL (by change _<s3.heap.objs.size;rw[JD];lia)) IO.body (by simpa using Gy.symm) (by let:=IO.few;simp at this;lia)
  (λi g v e1 e2=>get (i+1) g v (by simpa using e1) (by simpa using e2)) (λg hg=>⟨(IO.loc g (dI _ hg)).1,(IO.loc g (dI _ hg)).2,IO.fld g hg⟩)
  (Uc.keeps Ue) Jg (Ue _ _ he3) rfl (λc z=>by cases z) rfl λh' tk' d hd a1 a2 a3=>?_
 let hd3:s3.heap.objs.size<=d:=by
  show jx ?_ hd;by_cases z:h₀.objs.size<s3.heap.objs.size
  .exfalso
   let e1:=Jg.lt;show absurd (Nat.lt_trans e1 z) (oF _)
  .exact Hw z
 let m7:∀b o,s2.heap.get? b=some o->h'.get? b=some o:=λb o q=>a3 b o (cR (ug (bJ q))) (cR (gG (bJ q) (by rw[JD]at hd3;lia))) (Ue _ _ (vp _ _ q));let hne:d≠s2.heap.objs.size+1:=by lia
 let und:H2 d=none:=I2.hok.fresh gV;show⟨rfl,⟨some d,_,a1⟩,m7 _ _ (I2.bk _ _ hC),?_⟩;let new:aW X.prog X.w (upd H2 d (.xd ((f0::fr).zip vs))) h' d (.xd ((f0::fr).zip vs)):=⟨_,a2,λf=>by
  rw[zdG (by rw[ze5 Gy.symm];show(sE.mp IO.nd).2)];let:=zh6 (fs:=f0::fr) r f
  revert this
  cases ((f0::fr).zip (u0::ur)).lookup f<;>show id⟩
 let I3:Inv X ak Z (upd H2 d (.xd ((f0::fr).zip vs))) {s3 with heap:=h',toks:=tk'}:=by
  let:=I2.laid (t':=tk') m7 gV new;rw[<-hS];show this
 let une:upd H2 d (.xd ((f0::fr).zip vs)) (s2.heap.objs.size+1)=none:=by
  rw[dB (Ne.symm hne)];show I2.hok.fresh (Nat.le_succ _)
 show R ak Z _ _ s2.heap (s2.heap.objs.size+1) C (some d) I3 (λb ob z n=>I2.base.there b ob z n) (λq hq=>⟨q.2,(I2.pin q hq).1⟩) (λb ob z=>⟨ob,m7 b ob z⟩) ⟨Gb (Nat.le_succ _),une,_,_,_,a1,rfl,rfl,rfl,rfl,.inl rfl⟩ (q d und)
end
section
variable {prog:Program}{w:World}{A:Around}{E:Value->Shared->Prop}{s:Shared}{K:Frag}{x C:Addr}{ox:Obj}{od:Option Obj}{name:Str}
def ziX{v:Value}{Q:Value->Shared->Prop}(XI:K.In s.heap)(I:InstAt s.heap x ox C od)(hb:mroIn K C (.type "BaseException")=some true)(Te:findIn K (.ref C) "__getattribute__"=some (some (.builtin "BaseException.__getattribute__")))
  (Tf:findIn K (.ref C) "__getattr__"=some none) (hf:findObj K C od name=some (.value v)) (h:wpAny (model prog w) A (handedOut v) Q E {s with toks:=s.toks+1}) :
  wpAny (model prog w) A (getAttr (.ref x) name true) Q E s:=by
 let⟨hh,g,d,t,os⟩:=s;let L0:=I.type (M:=model prog w);let L1:=Gn (M:=model prog w) XI Te;let L2:=Gn (M:=model prog w) XI Tf;let yO:(Value.builtin "BaseException.__getattribute__"==Value.builtin "object.__getattribute__")=false:=by decide +kernel
 unfold getAttr getAttrBy;show au (wpAny_mkText (iJ (au (L0.at (au (L1.at ?_))))));change wpAny _ _ (if (onTheHeap (.ref C)&&(Value.builtin "BaseException.__getattribute__"==Value.builtin "object.__getattribute__"))=true then _ else getAttrByItsOwn _ _ _ _ _ _) _ _ _;rw[yO,NT,if_neg W9];unfold getAttrByItsOwn hookBefore callGetattribute boundAndCalled;show au (L2.at ?_);show au (BW (iJ (au (BX (F.attr_ValueError.ga.bind (.ref x)) ?_))));show z_ (ZP XI I hb hf ?_);show h
end
structure XF(K:Frag)(C:Addr)(f:Str):Prop where
 ga:findIn K (.ref C) "__getattribute__"=some (some (.builtin "BaseException.__getattribute__"))
 gn:findIn K (.ref C) "__getattr__"=some none
 mb:mroIn K C (.type "BaseException")=some true
 no:findIn K (.ref C) f=some none
 hd:hasDictIn K C=true
def handed{M:Model}{A:Around}{E:Value->Shared->Prop}{s:Shared}{x:V}{u:Value}{Q:Value->Shared->Prop}(r:RelV x u)(h:Q u s):wpAny M A (handedOut u) Q E s:=by
 cases x with
 |non=>cases (show u=Value.none from r);show aH h|bl b=>cases (show u=Value.bool b from r);show aH h|int i=>let⟨t,rfl⟩:=r;show aH h|str i=>let⟨t,rfl⟩:=r;show aH h|HW i=>let⟨t,rfl⟩:=r;show aH h|flt i=>let⟨t,rfl⟩:=r;show aH h|ref a=>cases (show u=Value.ref a from r);show aH h|ty n=>cases (show u=Value.type n from r);show aH h
def zfI{h:Heap}{d:Addr}{mA:Str->Option Value}(n:h.Ns1 d mA):∃o,h.get? d=some o/\∀f v,mA f=some v->lookIn f o=some (some v):=by
 let⟨o,es,ep,ho,hd,hk,hu,hf⟩:=n;show⟨o,ho,λf v e=>?_⟩;unfold lookIn;rw[hd];dsimp only;let e':=(hf f).trans e;unfold nsFind findBy at e';rw[<-Array.find?_toList]at e';cases z:es.toList.find? (·.key.isStr f) with
 |none=>
  let e2:(List.find? (λx=>x.key.isStr f) es.toList).map (·.val)=some v:=e';rw[z]at e2;cases e2
 |some en=>
  let e2:(List.find? (λx=>x.key.isStr f) es.toList).map (·.val)=some v:=e';rw[z]at e2;cases e2;rfl
section
variable {X:Cx}{e:Expr}{f:Str}{pos:Pos}{ta:TE}
def tXf(K:Frag)(ta:TE)(f:Str):TE:=λZ H Q=>ta Z H λx H1=>∃a C dx fs v,x=.ref a/\H1 a=some (i_ a C (some dx))/\H1 dx=some (.xd fs)/\XF K C f/\fs.lookup f=some v/\Q v H1
def zol(he:PE X e ta)(hb:attributeBase e f X.env (eval e X.env)=eval e X.env):PE X (.Attribute e f pos) (tXf X.K ta f):=by
 intro ak s Z H Q I h;show zkE hb (bf (he ak s Z H _ I h) λu s1 hz=>?_);let⟨x,H1,I1,rx,a,C,dx,fs,v,ex,ea,ed,c,l,q⟩:=hz;subst ex;obtain rfl:u=Value.ref a:=rx;let⟨⟨oe,vs,q1,c1,d1,f1⟩,_,_⟩:=(show aW X.prog X.w H1 s1.heap a (i_ a C (some dx)) from I1.hok a _ ea);let⟨mA,n1,rl⟩:=(show aW X.prog X.w H1 s1.heap dx (.xd fs) from I1.hok dx _ ed);let rf:=rl f;rw[l]at rf;cases em:mA f with
 |none=>rw[em]at rf;show rf.elim|some uv=>
  rw[em]at rf;let⟨od,ho,Tv⟩:=zfI n1;let IA:InstAt s1.heap a oe C (some od):=⟨q1,c1,by let⟨_,_,_,_⟩:=oe;cases f1;rfl,by rw[d1];show ho⟩;show ziX I1.sS IA c.mb c.ga c.gn (findObj_own c.hd c.no rfl (Tv f uv em)) (handed rf ?_);show⟨v,H1,I1.kept (t':=s1.toks+1) λb o z=>z,rf,q⟩
end
end L2
namespace L2
open PySem PySem.Spec PyProof.Rows
section
variable {X:Cx}{ak:List (Addr×Obj)}{Z:St}{H:Hp}{s:Shared}{h':Heap}
def Inv.lY{t':Nat}{ch:List Addr}{a:Addr}{o:HO}(I:Inv X ak Z H s)(k:∀b u,b∉ch->s.heap.get? b=some u->h'.get? b=some u)(hf:∀b∈ch,iW X ak H b)(ha:s.heap.objs.size<=a)(new:aW X.prog X.w (upd H a o) h' a o) :
  Inv X ak Z (upd H a o) {s with heap:=h',toks:=t'}:=by
 let Ad:∀b u,H b=some u->b∉ch:=λb u e z=>by rw[(hf b z).1]at e;cases e
 let hn:H a=none:=I.hok.fresh ha;let na:∀b u,H b=some u->b≠a:=λb u e z=>by rw[z,hn]at e;cases e
 let la:∀b u,s.heap.get? b=some u->b≠a:=λb u e=>cR (gG (bJ e) ha);show I.step (g':=s.gens) (d':=s.drawn) (ch:=ch) (λb hb=>?_) (λb o _ _ hc e _=>k b o hc e) (λb o _ _ hc e _=>⟨o.slots,k b o hc e⟩) (λb o' _ e n=>by rw[dB (la b o' e)];show n)
  (λb o hc e=>⟨o,k b o hc e⟩) (λb xs e=>by rw[dB (na b _ e)];show e) (λb o u e=>by rw[dB (na b _ e)];show e) (λb ps e=>⟨#[],by rw[dB (na b _ e),e];simp⟩) (λm hm=>?_) (λb u e=>?_) I.bare
 .obtain⟨f0,f1,f2,f3,f4,f5⟩:=hf b hb;show⟨f3.imp id λz=>Gb z,f1,f4,f5⟩
 .obtain⟨o,es,ep,ho,r⟩:=hm;show⟨o,es,ep,k _ o (λz=>(hf _ z).2.1 rfl) ho,r⟩
 .by_cases z:b=a
  .subst z;rw[iU]at e;cases e;show new
  .rw[dB z]at e;show(I.hok b u e).stay (λc v hc q=>k c v ?_ q) (λc q=>by rw[dB (na c _ q)];show q) λc _ q=>by rw[dB (na c _ q)];show q
   rcases hc with y|y
   .rw[y];show Ad b u e
   .exact Ad c _ y
def Inv.rm{t':Nat}{ch:List Addr}(I:Inv X ak Z H s)(k:∀b u,b∉ch->s.heap.get? b=some u->h'.get? b=some u)(hf:∀b∈ch,iW X ak H b):Inv X ak Z H {s with heap:=h',toks:=t'}:=by
 let Ad:∀b u,H b=some u->b∉ch:=λb u e z=>by rw[(hf b z).1]at e;cases e
 show I.step (g':=s.gens) (d':=s.drawn) (ch:=ch) (λb hb=>?_) (λb o _ _ hc e _=>k b o hc e) (λb o _ _ hc e _=>⟨o.slots,k b o hc e⟩) (λ_ _ _ _ n=>n)
  (λb o hc e=>⟨o,k b o hc e⟩) (λ_ _ e=>e) (λ_ _ _ e=>e) (λb ps e=>⟨#[],by rw[e];simp⟩) (λm hm=>?_) (λb u e=>?_) I.bare
 .obtain⟨f0,f1,f2,f3,f4,f5⟩:=hf b hb;show⟨f3.imp id λz=>Gb z,f1,f4,f5⟩
 .obtain⟨o,es,ep,ho,r⟩:=hm;show⟨o,es,ep,k _ o (λz=>(hf _ z).2.1 rfl) ho,r⟩
 .refine(I.hok b u e).stay (λc v hc q=>k c v ?_ q) (λ_ q=>q) λ_ _ q=>q;rcases hc with y|y
  .rw[y];show Ad b u e
  .exact Ad c _ y
end
structure lZ(prog:Program)(w:World)(it src:Addr)(st:Nat->Heap->Prop)(its:Array Value):Prop where
 item:∀(A:Around) (E:Value->Shared->Prop) (s:Shared) (i:Nat) (x:Value) (Q:Value->Shared->Prop),st i s.heap->its[i]?=some x->(∀h',st (i+1) h'->Heap.SameBut it s.heap h'->Q x {s with heap:=h'})->wpAny (model prog w) A (Builtin.SmallTypes.nextOf (.ref it)) Q E s
 fin:∀(A:Around) (E:Value->Shared->Prop) (s:Shared) (i:Nat) (Q:Value->Shared->Prop),A.handled=none->st i s.heap->its[i]?=none->(∀h' e,Heap.ExtBut it s.heap h'->(∃o,h'.get? e=some o/\o.cls=.type "StopIteration")->E (.ref e) {s with heap:=h'})->wpAny (model prog w) A (Builtin.SmallTypes.nextOf (.ref it)) Q E s
 keep:∀i h h',st i h->(∀b o,b=it\/b=src->h.get? b=some o->h'.get? b=some o)->st i h'
theorem lZ.list(hne:l≠it):lZ prog w it l (λi h=>h.IsListIter it l i/\h.IsList l its) its where
 item:=λA E s i x Q ⟨h1,h2⟩ hx q=>wpAny_nextOf_list_item h1 h2 hx λh' a sb=>q h' ⟨a,h2.at λo e=>(sb.2 l hne).trans e⟩ sb
 fin:=λA E s i Q hh ⟨h1,h2⟩ hx q=>wpAny_nextOf_list_end hh h1 h2 hx q
 keep:=λi h h' ⟨h1,h2⟩ k=>⟨h1.at λo e=>k it o (.inl rfl) e,h2.at λo e=>k l o (.inr rfl) e⟩
theorem zeI(l:Addr):¬((Value.ref l==Value.none)=true):=λz=>by cases (show false=true from z)
def IsTupleIter.at'{h h':Heap}{it l:Addr}{i:Nat}(x:h.IsTupleIter it l i)(k:∀o,h.get? it=some o->h'.get? it=some o):h'.IsTupleIter it l i:=by
 let⟨o,e,r⟩:=x;show⟨o,k o e,r⟩
def IsTuple.at'{h h':Heap}{l:Addr}{xs:Array Value}(x:h.IsTuple l xs)(k:∀o,h.get? l=some o->h'.get? l=some o):h'.IsTuple l xs:=by
 let⟨o,e,r⟩:=x;show⟨o,k o e,r⟩
section
variable {prog:Program}{w:World}{A:Around}{E:Value->Shared->Prop}{s:Shared}{it l:Addr}{i:Nat}{its:Array Value}
def zfF{x:Value}{Q:Value->Shared->Prop}(hi:s.heap.IsTupleIter it l i)(hl:s.heap.IsTuple l its)(hx:its[i]?=some x)(q:∀h',h'.IsTupleIter it l (i+1)->Heap.SameBut it s.heap h'->Q x {s with heap:=h'}) :
  wpAny (model prog w) A (Builtin.SmallTypes.nextOf (.ref it)) Q E s:=by
 let⟨oi,ei,ci,di⟩:=id hi;let⟨ol,el,_,nl,dl⟩:=hl;unfold Builtin.SmallTypes.nextOf;show au (xT (name:=Str.ofString "__next__") hi.typeIs MN (uh MN hi.typeIs F.entry_tuple_iterator_next ?_ (F.args_tuple_iterator_next_1 _)));change wpAny _ A.in1 (field (.ref it) 0 >>= _) _ E s;show au (j9 ei di (x:=.ref l) rfl ?_);change wpAny _ A.in1 (if (Value.ref l==Value.none)=true then _ else _) _ E s;rw[if_neg (zeI l)];change wpAny _ A.in1 (field (.ref it) 1 >>= _) _ E s;show au (j9 ei di (x:=.int i 0) rfl ?_);change wpAny _ A.in1 (seqItems? (.ref l) >>= _) _ E s;show au (wH el dl ?_);simp only[Gh,hx];show au (zW ei di Zaa (aH ⟨x,rfl,aH (q _ ⟨_,uJ _ ei (Nb (xU di _)),(Obj.cls_mapFields ..).trans ci,?_⟩ (BK ..))⟩));rw[xU di];simp[rawInt]
def zf7{Q:Value->Shared->Prop}(hh:A.handled=none)(hi:s.heap.IsTupleIter it l i)(hl:s.heap.IsTuple l its)(hx:its[i]?=none)(q:∀h' e,Heap.ExtBut it s.heap h'->(∃o,h'.get? e=some o/\o.cls=.type "StopIteration")->E (.ref e) {s with heap:=h'}) :
  wpAny (model prog w) A (Builtin.SmallTypes.nextOf (.ref it)) Q E s:=by
 let⟨oi,ei,ci,di⟩:=id hi;let⟨ol,el,_,nl,dl⟩:=hl;unfold Builtin.SmallTypes.nextOf;show au (xT (name:=Str.ofString "__next__") hi.typeIs MN (uh MN hi.typeIs F.entry_tuple_iterator_next ?_ (F.args_tuple_iterator_next_1 _)));change wpAny _ A.in1 (field (.ref it) 0 >>= _) _ E s;show au (j9 ei di (x:=.ref l) rfl ?_);change wpAny _ A.in1 (if (Value.ref l==Value.none)=true then _ else _) _ E s;rw[if_neg (zeI l)];change wpAny _ A.in1 (field (.ref it) 1 >>= _) _ E s;show au (j9 ei di (x:=.int i 0) rfl ?_);change wpAny _ A.in1 (seqItems? (.ref l) >>= _) _ E s;show au (wH el dl ?_);simp only[Gh,hx];show au (Gq (au (zW ei di Zaa ?_)));change wpAny _ A.in1 (newExc (.type "StopIteration") [] >>= _) _ E _;show au ?_;simp only[newExc,newTuple];show au (pB (au (m:=firstArgMember _ _) (BX (a:=Value.none) (by first|rfl|(simp only[firstArgMember];rfl)) (pB ?_ (by size_fits)))) (by size_fits));simp only[raiseNew];show au (wpAny_handled ?_);rw[show A.in1.handled=none from hh];show au (aH (wpAny_throw (q _ _ (((BK ..).extBut.push _).push _) ⟨_,fW _ rfl,rfl⟩)))
end
theorem lZ.tuple{prog:Program}{w:World}{it l:Addr}{its:Array Value}(hne:l≠it):lZ prog w it l (λi h=>h.IsTupleIter it l i/\h.IsTuple l its) its where
 item:=λA E s i x Q ⟨h1,h2⟩ hx q=>zfF h1 h2 hx λh' a sb=>q h' ⟨a,IsTuple.at' h2 λo e=>(sb.2 l hne).trans e⟩ sb
 fin:=λA E s i Q hh ⟨h1,h2⟩ hx q=>zf7 hh h1 h2 hx q
 keep:=λi h h' ⟨h1,h2⟩ k=>⟨IsTupleIter.at' h1 λo e=>k it o (.inl rfl) e,IsTuple.at' h2 λo e=>k l o (.inr rfl) e⟩
structure m8(z TI TO i1 i2 l1 l2:Addr):Prop where
 zs:z≠TI/\z≠TO/\z≠i1/\z≠i2/\z≠l1/\z≠l2
 os:TO≠TI/\TO≠i1/\TO≠i2/\TO≠l1/\TO≠l2
 is:TI≠i1/\TI≠i2/\i1≠i2/\i1≠l1/\i1≠l2/\i2≠l1/\i2≠l2
section
variable {prog:Program}{w:World}{A:Around}{E:Value->Shared->Prop}{s:Shared}{z TI TO i1 i2 l1 l2:Addr}{st1 st2:Nat->Heap->Prop}{xs ys:Array Value}{k:Nat}{a b:Value}
def ziK(N1:lZ prog w i1 l1 st1 xs)(N2:lZ prog w i2 l2 st2 ys)(D:m8 z TI TO i1 i2 l1 l2)(hz:IsZip s.heap z TI TO .none)(Ug:IsPair s.heap TI (.ref i1) (.ref i2))(Uh:IsPair s.heap TO a b)
  (h1:st1 k s.heap) (h2:st2 k s.heap) (hx:xs[k]?=some x) (hy:ys[k]?=some y)
  (q:∀h',IsZip h' z TI TO (rawInt s.heap.objs.size)->IsPair h' TO x y->st1 (k+1) h'->st2 (k+1) h'->IsPair h' s.heap.objs.size x y->h'.objs.size=s.heap.objs.size+1->(∀c o,c≠z->c≠TO->c≠i1->c≠i2->s.heap.get? c=some o->h'.get? c=some o)->Q (some (.ref s.heap.objs.size)) {s with heap:=h'}) :
  wpAny (model prog w) A (pyNext (.ref z)) Q E s:=by
 let⟨⟨z1,z2,z3,z4,z5,z6⟩,⟨t1,t2,t3,t4,t5⟩,⟨j1,j2,j3,j4,j5,j6,j7⟩⟩:=D;let hT:s.TypeIs (.ref z) "zip":=⟨_,hz,rfl⟩;unfold pyNext;show au (BW (xT (name:=Str.ofString "__next__") hT NK (uh NK hT F.entry_zip_next ?_ (F.args_zip_next_1 _))));change wpAny _ A.in1 (field (.ref z) 2 >>= _) _ _ s;show au (j9 hz rfl (x:=.bool false) rfl ?_);change wpAny _ A.in1 (field (.ref z) 3 >>= _) _ _ s;show au (j9 hz rfl (x:=.ref TI) rfl (au (wH Ug rfl ?_)));change wpAny _ A.in1 (Builtin.SmallTypes.ownedTupleIsFree (.ref z) >>= _) _ _ s;show au ?_;unfold Builtin.SmallTypes.ownedTupleIsFree;show au (j9 hz rfl (x:=.none) rfl (aH ?_));simp only[if_true];show au (Gq (au (j9 hz rfl (x:=.ref TO) rfl (au (Gf hz Zaa λha za sa=>au ?_)))))
 replace za:IsZip ha z TI TO .ellipsis:=za
 simp only[List.zipIdx_cons,List.zipIdx_nil,Gj,NZ];show au (au (wpAny_onRaise ?_));change wpAny _ A.in1 (Builtin.SmallTypes.nextOf (.ref i1) >>= _) _ _ _;show au (N1.item _ _ {s with heap:=ha} k x _ (N1.keep _ _ _ h1 λc o hc e=>sa.extBut c o (by rcases hc with rfl|rfl;show z3.symm;show z5.symm) e) hx λhb sb1 sb=>aH ?_);let tb:IsPair hb TO a b:=sb.extBut _ _ t2 (sa.extBut _ _ z2.symm Uh);show au (wH tb rfl (au (Ro tb λhc tc sc=>au (wpAny_letGo (aH ?_)))))
 replace tc:IsPair hc TO x b:=tc
 show au (au (wpAny_onRaise ?_));change wpAny _ A.in1 (Builtin.SmallTypes.nextOf (.ref i2) >>= _) _ _ _;let k2:st2 k hc:=N2.keep _ _ _ h2 λc o lJ e=>by
  rcases lJ with rfl|rfl
  .exact sc.extBut _ _ t3.symm (sb.extBut _ _ j3.symm (sa.extBut _ _ z4.symm e))
  .exact sc.extBut _ _ t5.symm (sb.extBut _ _ j5.symm (sa.extBut _ _ z6.symm e))
 let k1:st1 (k+1) hc:=N1.keep _ _ _ sb1 λc o lJ e=>by
  rcases lJ with rfl|rfl
  .exact sc.extBut _ _ t2.symm e
  .exact sc.extBut _ _ t4.symm e
 show au (N2.item _ _ {s with heap:=hc} k y _ k2 hy λhd sd2 sd=>aH ?_);let td:IsPair hd TO x b:=sd.extBut _ _ t3 tc;show au (wH td rfl (au (Ro td λhe te se=>au (wpAny_letGo (aH (aH ?_))))))
 replace te:IsPair he TO x y:=te
 show au (wH te rfl (au (wpAny_newTuple ?_)));let size:he.objs.size=s.heap.objs.size:=by rw[se.1,sd.1,sc.1,sb.1,sa.1]
 let ze:IsZip he z TI TO .ellipsis:=se.extBut _ _ z2 (sd.extBut _ _ z4 (sc.extBut _ _ z2 (sb.extBut _ _ z3 za)));let kept:∀c o,c≠z->c≠TO->c≠i1->c≠i2->s.heap.get? c=some o->he.get? c=some o:=λc o c1 c2 c3 c4 e=>se.extBut _ _ c2 (sd.extBut _ _ c4 (sc.extBut _ _ c2 (sb.extBut _ _ c3 (sa.extBut _ _ c1 e))));let e1:st1 (k+1) he:=N1.keep _ _ _ k1 λc o lJ e=>by
  rcases lJ with rfl|rfl
  .exact se.extBut _ _ t2.symm (sd.extBut _ _ j3 e)
  .exact se.extBut _ _ t4.symm (sd.extBut _ _ j6.symm e)
 let e2:st2 (k+1) he:=N2.keep _ _ _ sd2 λc o lJ e=>by
  rcases lJ with rfl|rfl
  .exact se.extBut _ _ t3.symm e
  .exact se.extBut _ _ t5.symm e
 change wpAny _ A.in1 (Builtin.SmallTypes.ownedTupleHandOut (.ref z) (.ref he.objs.size) >>= _) _ _ _;show au ?_;unfold Builtin.SmallTypes.ownedTupleHandOut;let zf:IsZip (he.push {cls:=.type "tuple",data:=.seq #[x,y]}) z TI TO .ellipsis:=bM _ ze;show au (Gf zf Zaa λhg zg sg=>Gf zg Zaa λhh zh sh=>aH ⟨_,rfl,aH ?_⟩)
 replace zh:IsZip hh z TI TO (rawInt he.objs.size):=zh
 let up:∀c o,c≠z->he.get? c=some o->hh.get? c=some o:=λc o c1 e=>sh.extBut _ _ c1 (sg.extBut _ _ c1 (bM _ e));let lz:z<he.objs.size:=bJ ze;let tn:IsPair hh he.objs.size x y:=sh.extBut _ _ (uL lz) (sg.extBut _ _ (uL lz) (fW _ rfl));let sz:hh.objs.size=he.objs.size+1:=by rw[sh.1,sg.1,sG]
 rw[size]at zh tn sz;change Q (some (.ref he.objs.size)) _;rw[size];show q hh zh (up _ _ z2.symm te) (N1.keep _ _ _ e1 λc o lJ e=>up c o (by rcases lJ with rfl|rfl;show z3.symm;show z5.symm) e) (N2.keep _ _ _ e2 λc o lJ e=>up c o (by rcases lJ with rfl|rfl;show z4.symm;show z6.symm) e) tn sz λc o c1 c2 c3 c4 e=>up c o c1 (kept c o c1 c2 c3 c4 e)
def zkf(hn:A.handled=none)(N1:lZ prog w i1 l1 st1 xs)(N2:lZ prog w i2 l2 st2 ys)(D:m8 z TI TO i1 i2 l1 l2)(hz:IsZip s.heap z TI TO .none)(Ug:IsPair s.heap TI (.ref i1) (.ref i2))(Uh:IsPair s.heap TO a b)
  (h1:st1 k s.heap) (h2:st2 k s.heap) (hx:xs[k]?=none\/ys[k]?=none) (q:∀h',(∀c o,c≠z->c≠TO->c≠i1->c≠i2->s.heap.get? c=some o->h'.get? c=some o)->Q none {s with heap:=h'}):wpAny (model prog w) A (pyNext (.ref z)) Q E s:=by
 let⟨⟨z1,z2,z3,z4,z5,z6⟩,⟨t1,t2,t3,t4,t5⟩,⟨j1,j2,j3,j4,j5,j6,j7⟩⟩:=D;let hT:s.TypeIs (.ref z) "zip":=⟨_,hz,rfl⟩;let stop:∀(h':Heap) (e:Addr),(∀c o,c≠z->c≠TO->c≠i1->c≠i2->s.heap.get? c=some o->h'.get? c=some o)->(∃o,h'.get? e=some o/\o.cls=.type "StopIteration")->
   wpAny (model prog w) A (do if <-isInstance (.ref e) (.type "StopIteration") then pure none else throw (.ref e):Sem (Option Value)) Q E {s with heap:=h'}:=λh' e kp ⟨o,ho,hc⟩=>
  au (Nt (T:="StopIteration") (b:=true) ⟨o,ho,hc⟩ isSubtype_stop (aH (q h' kp)))
 unfold pyNext;show au (BW (xT (name:=Str.ofString "__next__") hT NK (uh NK hT F.entry_zip_next ?_ (F.args_zip_next_1 _))));change wpAny _ A.in1 (field (.ref z) 2 >>= _) _ _ s;show au (j9 hz rfl (x:=.bool false) rfl ?_);change wpAny _ A.in1 (field (.ref z) 3 >>= _) _ _ s;show au (j9 hz rfl (x:=.ref TI) rfl (au (wH Ug rfl ?_)));change wpAny _ A.in1 (Builtin.SmallTypes.ownedTupleIsFree (.ref z) >>= _) _ _ s;show au ?_;unfold Builtin.SmallTypes.ownedTupleIsFree;show au (j9 hz rfl (x:=.none) rfl (aH ?_));simp only[if_true];show au (Gq (au (j9 hz rfl (x:=.ref TO) rfl (au (Gf hz Zaa λha za sa=>au ?_)))))
 replace za:IsZip ha z TI TO .ellipsis:=za
 simp only[List.zipIdx_cons,List.zipIdx_nil,Gj,NZ];show au (au (wpAny_onRaise ?_));change wpAny _ A.in1 (Builtin.SmallTypes.nextOf (.ref i1) >>= _) _ _ _;let ka:st1 k ha:=N1.keep _ _ _ h1 λc o hc e=>sa.extBut c o (by rcases hc with rfl|rfl;show z3.symm;show z5.symm) e;cases ex:xs[k]? with
 |none=>
  show au (N1.fin _ _ {s with heap:=ha} k _ hn ka ex λhb e sb se=>?_);let⟨oe,ho,hc⟩:=se;let zb:IsZip hb z TI TO .ellipsis:=sb _ _ z3 za;let ne:e≠z:=λy=>by subst y;rw[zb]at ho;cases ho;simp at hc
  show Gf zb Zaa λhd _ sd=>stop hd e (λc o c1 _ c3 _ y=>sd.extBut _ _ c1 (sb _ _ c3 (sa.extBut _ _ c1 y))) ⟨oe,sd.extBut _ _ ne ho,hc⟩
 |some x=>
  let ey:ys[k]?=none:=by
   rcases hx with y|y
   .rw[ex]at y;cases y
   .exact y
  show au (N1.item _ _ {s with heap:=ha} k x _ ka ex λhb sb1 sb=>aH ?_);let tb:IsPair hb TO a b:=sb.extBut _ _ t2 (sa.extBut _ _ z2.symm Uh);show au (wH tb rfl (au (Ro tb λhc tc sc=>au (wpAny_letGo (aH ?_)))));show au (au (wpAny_onRaise ?_));change wpAny _ A.in1 (Builtin.SmallTypes.nextOf (.ref i2) >>= _) _ _ _;let k2:st2 k hc:=N2.keep _ _ _ h2 λc o lJ e=>by
   rcases lJ with rfl|rfl
   .exact sc.extBut _ _ t3.symm (sb.extBut _ _ j3.symm (sa.extBut _ _ z4.symm e))
   .exact sc.extBut _ _ t5.symm (sb.extBut _ _ j5.symm (sa.extBut _ _ z6.symm e))
  show au (N2.fin _ _ {s with heap:=hc} k _ hn k2 ey λhd e sd se=>?_);let⟨oe,ho,kO⟩:=se;let zd:IsZip hd z TI TO .ellipsis:=sd _ _ z4 (sc.extBut _ _ z2 (sb.extBut _ _ z3 za));let ne:e≠z:=λy=>by subst y;rw[zd]at ho;cases ho;simp at kO
  show Gf zd Zaa λhf _ sf=>stop hf e (λc o c1 c2 c3 c4 y=>sf.extBut _ _ c1 (sd _ _ c4 (sc.extBut _ _ c2 (sb.extBut _ _ c3 (sa.extBut _ _ c1 y))))) ⟨oe,sf.extBut _ _ ne ho,kO⟩
end
def Ck:Bool->Heap->Addr->Array Value->Prop
 |true,h,l,xs=>h.IsList l xs|false,h,l,xs=>h.IsTuple l xs
def Rk:Bool->Addr->Addr->Nat->Heap->Prop
 |true,it,l,i,h=>h.IsListIter it l i|false,it,l,i,h=>h.IsTupleIter it l i
def Sk:Bool->W.Frag->Hp->Addr->List V->Prop
 |true,K,H,l,xs=>dF K H l xs|false,K,H,l,xs=>fL K H l xs
def gC:Bool->Addr->Obj
 |true,l=>{cls:=.type "list_iterator",data:=.fields #[.ref l,.int 0 0]}|false,l=>{cls:=.type "tuple_iterator",data:=.fields #[.ref l,.int 0 0]}
def lZ.of(kd:Bool)(hne:l≠it):lZ prog w it l (λi h=>Rk kd it l i h/\Ck kd h l its) its:=by
 cases kd
 .exact lZ.tuple hne
 .exact lZ.list hne
def Ck.keep(x:Ck kd h l xs)(k:∀o,h.get? l=some o->h'.get? l=some o):Ck kd h' l xs:=by
 cases kd
 .exact IsTuple.at' x k
 .exact Heap.IsList.at x k
def Rk.keep(x:Rk kd it l i h)(k:∀o,h.get? it=some o->h'.get? it=some o):Rk kd it l i h':=by
 cases kd
 .exact IsTupleIter.at' x k
 .exact Heap.IsListIter.at x k
def Rk.obj(x:Rk kd it l i h):∃o,h.get? it=some o/\∀v,o.data≠.cell v:=by
 cases kd
 .obtain⟨o,e,c,d⟩:=x;show⟨o,e,λv z=>by rw[d]at z;cases z⟩
 .obtain⟨o,e,c,d⟩:=x;show⟨o,e,λv z=>by rw[d]at z;cases z⟩
def Ck.lt(x:Ck kd h l xs):l<h.objs.size:=by
 cases kd
 .obtain⟨o,e,_⟩:=x;show bJ e
 .obtain⟨o,e,_⟩:=x;show bJ e
section
variable {prog:Program}{w:World}{A:Around}{E:Value->Shared->Prop}{s:Shared}
def O1(c:Ck kd s.heap l xs)(q:Q (.ref s.heap.objs.size) {s with heap:=s.heap.push (gC kd l)}):wpAny (model prog w) A (pyIter (.ref l)) Q E s:=by
 cases kd
 .exact wpAny_pyIter_tuple c q
 .exact Np c q
end
def zH(h:Heap)(k1 k2:Bool)(l1 l2:Addr):Heap:=((((h.push (gC k1 l1)).push (gC k2 l2)).push {cls:=.type "tuple",data:=.seq #[.ref h.objs.size,.ref (h.push (gC k1 l1)).objs.size]}).push {cls:=.type "tuple",data:=.seq #[.none,.none]}).push
 {cls:=.type "zip",data:=.fields #[.none,.bool false,.bool false,.ref ((h.push (gC k1 l1)).push (gC k2 l2)).objs.size,.ref (((h.push (gC k1 l1)).push (gC k2 l2)).push {cls:=.type "tuple",data:=.seq #[.ref h.objs.size,.ref (h.push (gC k1 l1)).objs.size]}).objs.size]}
theorem ziI(k1 k2:Bool)(l1 l2:Addr)(xs ys:Array Value):Meets (Builtin.«zip.__new__» ⟨[.type "zip",.ref l1,.ref l2],[]⟩) (λ_ R s=>Ck k1 s.heap l1 xs/\Ck k2 s.heap l2 ys /\
   R (.ok (.ret (.ref ((((s.heap.push (gC k1 l1)).push (gC k2 l2)).push {cls:=.type "tuple",data:=.seq #[.ref s.heap.objs.size,.ref (s.heap.push (gC k1 l1)).objs.size]}).push {cls:=.type "tuple",data:=.seq #[.none,.none]}).objs.size))) {s with heap:=zH s.heap k1 k2 l1 l2}):=
 .of_wp λprog w A R s h=>by
  let⟨hp,g,d,tk,os⟩:=s;let⟨c1,c2,h⟩:=h;let hsub:=sub_zip;let C1:Ck k1 (Shared.heap ⟨hp,g,d,tk,os⟩) l1 xs:=c1;let C2:Ck k2 (Shared.heap ⟨hp.push (gC k1 l1),g,d,tk,os⟩) l2 ys:=c2.keep λo e=>bM _ e
  wp_walk using O1 C1,O1 C2
  show⟨_,rfl,h⟩
section
variable {prog:Program}{w:World}{A:Around}{E:Value->Shared->Prop}{s:Shared}
def zj5(c1:Ck k1 s.heap l1 xs)(c2:Ck k2 s.heap l2 ys)
  (h:∀h',IsZip h' (s.heap.objs.size+4) (s.heap.objs.size+2) (s.heap.objs.size+3) .none->IsPair h' (s.heap.objs.size+2) (.ref s.heap.objs.size) (.ref (s.heap.objs.size+1))->IsPair h' (s.heap.objs.size+3) .none .none->
   Rk k1 s.heap.objs.size l1 0 h'->Rk k2 (s.heap.objs.size+1) l2 0 h'->(∀c o,s.heap.get? c=some o->h'.get? c=some o)->Q (.ref (s.heap.objs.size+4)) {s with heap:=h'}) :
  wpAny (model prog w) A (call (.type "zip") [.ref l1,.ref l2]) Q E s:=by
 show callType_new F.called_zip W9 (F.typeCall_zip_2 _ _) (F.newCall_zip_2 _ _) (λobj=>F.args_object_init_3 obj _ _) F.entry_zip_new (ziI k1 k2 l1 l2 xs ys) ⟨c1,c2,?_⟩;let n1:(s.heap.push (gC k1 l1)).objs.size=s.heap.objs.size+1:=sG ..;let n2:((s.heap.push (gC k1 l1)).push (gC k2 l2)).objs.size=s.heap.objs.size+2:=by rw[sG,n1]
 let fr:∀kd l,(gC kd l).isFreed=false:=λkd l=>by cases kd<;>rfl
 let rk:∀{h:Heap} {a:Addr} {kd:Bool} {l:Addr},h.get? a=some (gC kd l)->Rk kd a l 0 h:=λ{h a kd l} e=>by
  cases kd
  .exact⟨_,e,rfl,rfl⟩
  .exact⟨_,e,rfl,rfl⟩
 let o1:(s.heap.push (gC k1 l1)).get? s.heap.objs.size=some (gC k1 l1):=fW _ (fr _ _);let o2:((s.heap.push (gC k1 l1)).push (gC k2 l2)).get? (s.heap.objs.size+1)=some (gC k2 l2):=by
  let:=fW (s.heap.push (gC k1 l1)) (o:=gC k2 l2) (fr _ _);rw[n1]at this;show this
 generalize hA:(s.heap.push (gC k1 l1)).push (gC k2 l2)=O2 at *;let eH:zH s.heap k1 k2 l1 l2=((O2.push {cls:=.type "tuple",data:=.seq #[.ref s.heap.objs.size,.ref (s.heap.objs.size+1)]}).push {cls:=.type "tuple",data:=.seq #[.none,.none]}).push {cls:=.type "zip",data:=.fields #[.none,.bool false,.bool false,.ref (s.heap.objs.size+2),.ref (s.heap.objs.size+3)]}:=by
  unfold zH;rw[hA,n1,n2,sG,n2]
 let n3:(O2.push {cls:=.type "tuple",data:=.seq #[.ref s.heap.objs.size,.ref (s.heap.objs.size+1)]}).objs.size=s.heap.objs.size+3:=by rw[sG,n2]
 let n4:((O2.push {cls:=.type "tuple",data:=.seq #[.ref s.heap.objs.size,.ref (s.heap.objs.size+1)]}).push {cls:=.type "tuple",data:=.seq #[.none,.none]}).objs.size=s.heap.objs.size+4:=by rw[sG,n3]
 rw[n1,n4];let g5:(zH s.heap k1 k2 l1 l2).get? (s.heap.objs.size+4)=some {cls:=.type "zip",data:=.fields #[.none,.bool false,.bool false,.ref (s.heap.objs.size+2),.ref (s.heap.objs.size+3)]}:=by
  rw[eH,<-n4];show fW _ rfl
 let g4:(zH s.heap k1 k2 l1 l2).get? (s.heap.objs.size+3)=some {cls:=.type "tuple",data:=.seq #[.none,.none]}:=by
  rw[eH,<-n3];show bM _ (fW _ rfl)
 let g3:(zH s.heap k1 k2 l1 l2).get? (s.heap.objs.size+2)=some {cls:=.type "tuple",data:=.seq #[.ref s.heap.objs.size,.ref (s.heap.objs.size+1)]}:=by
  rw[eH,<-n2];show bM _ (bM _ (fW _ rfl))
 let up:∀c o,O2.get? c=some o->(zH s.heap k1 k2 l1 l2).get? c=some o:=λc o e=>by rw[eH];show bM _ (bM _ (bM _ e))
 show⟨⟨_,g5,rfl⟩,h _ g5 g3 g4 (rk (up _ _ ?_)) (rk (up _ _ o2)) λc o e=>up _ _ ?_⟩
 .rw[<-hA];show bM _ o1
 .rw[<-hA];show bM _ (bM _ e)
end
def Ui(K:W.Frag)(k1 k2:Bool)(l1 l2:Addr):It:=
 ⟨λi H=>∃xs ys x y,Sk k1 K H l1 xs/\Sk k2 K H l2 ys/\xs[i]?=some x/\ys[i]?=some y,
  λi H v H'=>∃a x y,H a=none/\v=.ref a/\H'=upd H a (.tup [x,y])/\(∀xs,Sk k1 K H l1 xs->xs[i]?=some x)/\∀ys,Sk k2 K H l2 ys->ys[i]?=some y,
  λi H=>∃xs ys,Sk k1 K H l1 xs/\Sk k2 K H l2 ys/\(xs.length<=i\/ys.length<=i)⟩
section
variable {X:Cx}{ak:List (Addr×Obj)}{Z:St}{H:Hp}{s:Shared}{kd:Bool}{l:Addr}{xs ys:List V}
def Inv.row(I:Inv X ak Z H s)(h:Sk kd X.K H l xs):∃its:List Value,Vals xs its/\Ck kd s.heap l its.toArray:=by
 cases kd
 .obtain⟨its,rv,p,hz⟩:=I.tuple h;show⟨its,rv,p⟩
 .obtain⟨its,rv,p,hz⟩:=I.list h;show⟨its,rv,p.isList⟩
def Inv.m9(I:Inv X ak Z H s)(h:Sk kd X.K H l xs)(h':Sk kd X.K H l ys):xs=ys:=by
 cases kd
 .exact I.lV h h'
 .exact I.oH h h'
end
def zh8{P:Program}{w:World}{K:W.Frag}{elts:List Expr}{kk:Nat}{pos:Pos}{k1 k2:Bool}{l1 l2 z TI TO i1 i2:Addr}(D:m8 z TI TO i1 i2 l1 l2) :
  Turn P w K (.Tuple elts kk pos) (Ui K k1 k2 l1 l2) [z,TI,TO,i1,i2] z (λi h=>IsZip h z TI TO .none/\IsPair h TI (.ref i1) (.ref i2)/\(∃a b,IsPair h TO a b)/\Rk k1 i1 l1 i h/\Rk k2 i2 l2 i h) where
 mem:=by simp
 obj:=λi h ⟨a1,a2,⟨p,q,a3⟩,a4,a5⟩ b hb=>by
  let:b=z\/b=TI\/b=TO\/b=i1\/b=i2:=by simpa using hb
  rcases this with rfl|rfl|rfl|rfl|rfl
  .exact⟨_,a1,λv y=>by cases y⟩
  .exact⟨_,a2,λv y=>by cases y⟩
  .exact⟨_,a3,λv y=>by cases y⟩
  .exact a4.obj
  .exact a5.obj
 keep:=λi h h' ⟨a1,a2,⟨p,q,a3⟩,a4,a5⟩ k=>⟨k z Zaa _ a1,k TI Zaa _ a2,⟨p,q,k TO Zaa _ a3⟩,a4.keep λo e=>k i1 Zaa o e,a5.keep λo e=>k i2 Zaa o e⟩
 item:=by
  rintro X hP hw hK hc i ak s Z H E I hf ⟨a1,a2,⟨p,q,a3⟩,a4,a5⟩ hg;subst hP hw hK;let⟨xs,ys,x,y,Gz,GC,hx,hy⟩:=hg;let⟨it1,O4,c1⟩:=I.row Gz;let⟨JF,O5,c2⟩:=I.row GC;let⟨u,hu,ru⟩:=O4.get hx;let⟨v,hv,rv⟩:=O5.get hy;let D':=D;let⟨⟨z1,z2,z3,z4,z5,z6⟩,⟨t1,t2,t3,t4,t5⟩,⟨j1,j2,j3,j4,j5,j6,j7⟩⟩:=D';show ziK (lZ.of k1 j4.symm) (lZ.of k2 j7.symm) D a1 a2 a3 ⟨a4,c1⟩ ⟨a5,c2⟩ (x:=u) (y:=v) (by simpa using hu) (by simpa using hv) λh1 b1 b2 b3 b4 b5 b6 kp=>?_;show⟨_,rfl,wpAny_letOwnedTupleGo_zip (s:={s with heap:=h1}) b1 λh2 e2 sb=>?_⟩;let Uj:IsPair h2 s.heap.objs.size u v:=(sb.2 _ (uL (bJ a1))).trans b5;let kk:∀b o,b∉[z,TI,TO,i1,i2]->s.heap.get? b=some o->h2.get? b=some o:=λb o hb e=>(sb.2 b λy=>hb (by simp[y])).trans (kp b o (λy=>hb (by simp[y])) (λy=>hb (by simp[y])) (λy=>hb (by simp[y])) (λy=>hb (by simp[y])) e);let I2:=I.lY (t':=s.toks) (a:=s.heap.objs.size) (o:=.tup [x,y]) kk (λb hb=>hf b hb) (bK _) (show aW X.prog X.w _ h2 _ (.tup [x,y]) from ⟨by change 2<=sizeLine;decide,[u,v],.cons ru (.cons rv .nil),⟨_,Uj,rfl,_,rfl,rfl⟩⟩);let hn:H s.heap.objs.size=none:=I.hok.fresh (bK _);show⟨.ref s.heap.objs.size,_,I2,rfl,⟨_,x,y,hn,rfl,rfl,λzs hz=>by rw[I.m9 hz Gz];show hx,λzs hz=>by rw[I.m9 hz GC];show hy⟩,⟨e2,(sb.2 _ z1.symm).trans (kp _ _ z1.symm t1.symm j1 j2 a2),⟨_,_,(sb.2 _ z2.symm).trans b2⟩,b3.1.keep λo e=>(sb.2 _ z3.symm).trans e,b4.1.keep λo e=>(sb.2 _ z4.symm).trans e⟩,λb hb=>?_⟩;let nb:b≠s.heap.objs.size:=by
   let:b=z\/b=TI\/b=TO\/b=i1\/b=i2:=by simpa using hb
   rcases this with rfl|rfl|rfl|rfl|rfl
   .exact cR (bJ a1)
   .exact cR (bJ a2)
   .exact cR (bJ a3)
   .obtain⟨o,e,_⟩:=a4.obj;show cR (bJ e)
   .obtain⟨o,e,_⟩:=a5.obj;show cR (bJ e)
  rw[dB nb];show(hf b hb).1
 done:=by
  rintro X hP hw hK hc i ak s Z H E I hf ⟨a1,a2,⟨p,q,a3⟩,a4,a5⟩ hg;subst hP hw hK;let⟨xs,ys,Gz,GC,hx⟩:=hg;let⟨it1,O4,c1⟩:=I.row Gz;let⟨JF,O5,c2⟩:=I.row GC;let n1:=O4.length;let n2:=O5.length;show zkf (I.ok.hd hc) (lZ.of k1 D.is.2.2.2.1.symm) (lZ.of k2 D.is.2.2.2.2.2.2.symm) D a1 a2 a3 ⟨a4,c1⟩ ⟨a5,c2⟩ ?_ λh' kp=>⟨rfl,I.rm (t':=s.toks) (ch:=[z,TI,TO,i1,i2]) (λb o hb e=>kp b o (λy=>hb (by simp[y])) (λy=>hb (by simp[y])) (λy=>hb (by simp[y])) (λy=>hb (by simp[y])) e) λb hb=>hf b hb⟩;rcases hx with y|y
  .exact .inl (by simp;lia)
  .exact .inr (by simp;lia)
 self:=λ_ _ _ _ _ ⟨a1,_⟩ h=>wpAny_pyIter_zip a1 h
section
variable {X:Cx}
def Uk(K:W.Frag)(ta:TA):TI:=λZ H R=>ta Z H λvs H1=>∃k1 k2 l1 l2 xs ys,vs=[.ref l1,.ref l2]/\Sk k1 K H1 l1 xs/\Sk k2 K H1 l2 ys/\R (Ui K k1 k2 l1 l2) H1
def zia:bootBuiltins "zip"=some (.type "zip"):=by decide +kernel
def zlI{a b:Expr}{ta:TA}{p pos tpos:Pos}{elts:List Expr}{kk:Nat}(hg:Gl X "zip")(hm:X.mg "zip"=none)(ha:PA X [a,b] ta)(hs:starEach [a,b] X.env=[(false,eval a X.env),(false,eval b X.env)]:=by rfl)(Ir:starEach [b] X.env=[(false,eval b X.env)]:=by rfl) :
  PI X (.Tuple elts kk tpos) (.Call (.Name "zip" p) [a,b] [] pos) (Uk X.K ta):=by
 intro ak s Z H R I h;show Call_ (yu I hg hm zia (FQ (bf (ha pos ak s Z H _ I h) λus s1 hz=>?_) (by rw[hs,Ir]) (by rw[Ir];rfl)));let⟨vs,H1,I1,r1,q1⟩:=hz;let⟨k1,k2,l1,l2,xs,ys,e,Gz,GC,q⟩:=q1;subst e;cases r1 with
 |cons r rr=>
  cases rr with
  |cons r' rr=>
   cases rr;cases r;cases r';let⟨it1,O4,c1⟩:=I1.row Gz;let⟨JF,O5,c2⟩:=I1.row GC;let m1:=c1.lt;let m2:=c2.lt;show zj5 c1 c2 λh' b1 b2 b3 b4 b5 kp=>?_;show wpAny_pyIter_zip b1 ?_;let ne:∀{u v:Nat},u<v->u≠v:=λh=>cR h;let D:m8 (s1.heap.objs.size+4) (s1.heap.objs.size+2) (s1.heap.objs.size+3) s1.heap.objs.size (s1.heap.objs.size+1) l1 l2:=
    ⟨⟨(ne gV).symm,(ne gV).symm,(ne gV).symm,(ne gV).symm,(ne (gG m1 gV)).symm,(ne (gG m2 gV)).symm⟩,
     ⟨(ne gV).symm,(ne gV).symm,(ne gV).symm,(ne (gG m1 gV)).symm,(ne (gG m2 gV)).symm⟩,
     ⟨(ne gV).symm,(ne gV).symm,ne gV,(ne m1).symm,(ne m2).symm,(ne (gG m1 gV)).symm,(ne (gG m2 gV)).symm⟩⟩
   show⟨s1.heap.objs.size+4,[s1.heap.objs.size+4,s1.heap.objs.size+2,s1.heap.objs.size+3,s1.heap.objs.size,s1.heap.objs.size+1],_,_,H1,rfl,I1.kept (t':=s1.toks) kp,zh8 D,⟨b1,b2,⟨_,_,b3⟩,b4,b5⟩,λb hb=>?_,q⟩;let:s1.heap.objs.size<=b:=by
    let:b=s1.heap.objs.size+4\/b=s1.heap.objs.size+2\/b=s1.heap.objs.size+3\/b=s1.heap.objs.size\/b=s1.heap.objs.size+1:=by simpa using hb
    rcases this with rfl|rfl|rfl|rfl|rfl<;>lia
   show I1.uW this (I1.hok.fresh this)
end
def Ite(K:W.Frag)(kd:Bool)(l:Addr):It:=
 ⟨λi H=>∃xs x,Sk kd K H l xs/\xs[i]?=some x,λi H v H'=>∃a x,H a=none/\v=.ref a/\H'=upd H a (.tup [.int i,x])/\∀xs,Sk kd K H l xs->xs[i]?=some x,λi H=>∃xs,Sk kd K H l xs/\xs.length<=i⟩
theorem Dp{prog:Program}{w:World}{A:Around}(hh:A.handled=none)(kd:Bool){it l:Addr}(hne:l≠it)(its:Array Value):Draws prog w A it [it,l] its.size (λi v=>its[i]?=some v) (λi h=>Rk kd it l i h/\Ck kd h l its) where
 live:=λ_ _ st=>let ⟨o,e,_⟩:=st.1.obj;⟨o,e⟩
 frame:=λ_ _ _ st k=>⟨st.1.keep λo e=>k it Zaa o e,st.2.keep λo e=>k l Zaa o e⟩
 item:=λi s Q E hi st q=>(lZ.of kd hne).item A E s i its[i] Q st (by simp[hi]) λh' a b=>q _ h' s.toks (by simp[hi]) a b
 done:=λs Q E st q=>(lZ.of kd hne).fin A E s its.size Q hh st Zaa q
theorem zij(kd:Bool)(l:Addr)(xs:Array Value):Meets (Builtin.«enumerate.__new__» ⟨[.type "enumerate",.ref l],[]⟩) (λ_ R s=>Ck kd s.heap l xs /\
   R (.ok (.ret (.ref (s.heap.push (gC kd l)).objs.size))) {s with heap:=(s.heap.push (gC kd l)).push {cls:=.type "enumerate",data:=.fields #[.none,.bool false,.ref s.heap.objs.size,rawInt 0,.none,.none]}}):=
 .of_wp λprog w A R s h=>by
  let⟨hp,g,d,tk,os⟩:=s;let⟨c1,h⟩:=h;let hsub:=sub_enumerate;let C1:Ck kd (Shared.heap ⟨hp,g,d,tk,os⟩) l xs:=c1;obtain⟨ol,el⟩ : ∃o,hp.get? l=some o:=by
   cases kd
   .obtain⟨o,e,_⟩:=c1;show⟨o,e⟩
   .obtain⟨o,e,_⟩:=c1;show⟨o,e⟩
  wp_walk using Q5 el
  show wpAny_stack_any λst=>aH ?_
  split
  .rename_i c _ _ _ _ _;cases (c==Value.type "enumerate")<;>(wp_walk using Q5 el,O1 C1;show⟨_,rfl,h⟩)
  .wp_walk using Q5 el,O1 C1
   show⟨_,rfl,h⟩
def ziz{prog:Program}{w:World}{A:Around}{E:Value->Shared->Prop}{s:Shared}{e it l:Addr}{its:Array Value}{st:Nat->Heap->Prop}{i:Nat}{old:Value}{Q:Option Value->Shared->Prop}(hh:A.handled=none)(N:lZ prog w it l st its)(he:IsEnum s.heap e it i old)(pF:st i s.heap)(hx:its[i]?=none)
  (q:∀h',Heap.ExtBut it s.heap h'->Q none {s with heap:=h'}):wpAny (model prog w) A (pyNext (.ref e)) Q E s:=by
 let ty:s.TypeIs (.ref e) "enumerate":=⟨_,he,rfl⟩;let body:∀{E':Value->Shared->Prop},(∀h' x,Heap.ExtBut it s.heap h'->(∃o,h'.get? x=some o/\o.cls=.type "StopIteration")->E' (.ref x) {s with heap:=h'})->wpAny (model prog w) A.in1 (Builtin.«enumerate.__next__» ⟨[.ref e],[]⟩) (λ_ _=>False) E' s:=λk=>by
  change wpAny _ A.in1 (field (.ref e) 2 >>= _) _ _ _;show au (j9 he rfl (x:=.ref it) rfl (au (N.fin A.in1 _ s i _ hh pF hx k)))
 unfold pyNext;show au (BW (xT (name:=Str.ofString "__next__") ty F.slot_enumerate_next (uh F.slot_enumerate_next ty F.entry_enumerate_next (jy (body λh' x a b=>?_) (λ_ _ z=>z.elim) λ_ _ z=>z) (F.args_enumerate_next_1 _))));let⟨o,a1,a2⟩:=b;show au (Nt (T:="StopIteration") (b:=true) ⟨o,a1,a2⟩ isSubtype_stop (aH (q h' a)))
def zgl{P:Program}{w:World}{K:W.Frag}{elts:List Expr}{kk:Nat}{pos:Pos}{kd:Bool}{l e it:Addr}(Ul:e≠it)(hli:l≠it)(hle:l≠e) :
  Turn P w K (.Tuple elts kk pos) (Ite K kd l) [e,it] e (λi h=>(∃old,IsEnum h e it i old)/\Rk kd it l i h) where
 mem:=by simp
 obj:=λi h ⟨⟨old,he⟩,st⟩ b hb=>by
  let:b=e\/b=it:=by simpa using hb
  rcases this with rfl|rfl
  .exact⟨_,he,λv z=>by cases z⟩
  .exact st.obj
 keep:=λi h h' ⟨⟨old,he⟩,st⟩ k=>⟨⟨old,k e Zaa _ he⟩,st.keep λo e=>k it Zaa o e⟩
 item:=by
  rintro X hP hw hK hc i ak s Z H E I hf ⟨⟨old,he⟩,st⟩ hg;subst hP hw hK;let⟨xs,x,hq,hx⟩:=hg;let⟨its,rv,p⟩:=I.row hq;let⟨u,hu,ru⟩:=rv.get hx;let hlt:i<its.toArray.size:=by simpa using (jr.mp hu).1
  show wpAny_pyNext_enum_itemD (Dp (A:=X.A.in1) (I.ok.hd hc) kd hli its.toArray) he ⟨st,p⟩ hlt Ul (by simp[Ul,hle.symm]) λu' h1 tk hP ho Um hT lF hk=>?_;let eu:u'=u:=by
   let:its[i]?=some u':=by simpa using hP
   rw[hu]at this;cases this;rfl
  subst eu;show⟨_,rfl,wpAny_letOwnedTupleGo_enum (s:={s with heap:=h1,toks:=tk+1}) ho λh2 he2 sb=>?_⟩;let Uj:h2.get? s.heap.objs.size=some {cls:=.type "tuple",data:=.seq #[.int i tk,u']}:=(sb.2 _ (uL (bJ he))).trans hT;let kk:∀b o,b∉[e,it]->s.heap.get? b=some o->h2.get? b=some o:=λb o hb q=>(sb.2 b λz=>hb (by simp[z])).trans (hk b o (λz=>hb (by simp[z])) (λz=>hb (by simp[z])) q);let I2:=I.lY (t':=tk+1) (a:=s.heap.objs.size) (o:=.tup [.int i,x]) kk (λb hb=>hf b hb) (bK _) (show aW X.prog X.w _ h2 _ (.tup [.int i,x]) from ⟨by change 2<=sizeLine;decide,[.int i tk,u'],.cons ⟨_,rfl⟩ (.cons ru .nil),⟨_,Uj,rfl,_,rfl,rfl⟩⟩);let hn:H s.heap.objs.size=none:=I.hok.fresh (bK _);show⟨.ref s.heap.objs.size,_,I2,rfl,⟨_,x,hn,rfl,rfl,λys hy=>by rw[I.m9 hy hq];show hx⟩,⟨⟨_,by simpa using he2⟩,Um.1.keep λo q=>(sb.2 it Ul.symm).trans q⟩,λb hb=>?_⟩;let nb:b≠s.heap.objs.size:=by
   let:b=e\/b=it:=by simpa using hb
   rcases this with rfl|rfl
   .exact cR (bJ he)
   .obtain⟨o,q,_⟩:=st.obj;show cR (bJ q)
  rw[dB nb];show(hf b hb).1
 done:=by
  rintro X hP hw hK hc i ak s Z H E I hf ⟨⟨old,he⟩,st⟩ hg;subst hP hw hK;let⟨xs,hq,hx⟩:=hg;let⟨its,rv,p⟩:=I.row hq;let hl:=rv.length;show ziz (I.ok.hd hc) (lZ.of kd hli) he ⟨st,p⟩ (by simp;lia) λh' eb=>⟨rfl,I.rm (t':=s.toks) (ch:=[e,it]) (λb o hb q=>eb b o (λz=>hb (by simp[z])) q) λb hb=>hf b hb⟩
 self:=λ_ _ _ _ _ ⟨⟨old,he⟩,_⟩ h=>wpAny_pyIter_enum he h
section
variable {X:Cx}
def JL(K:W.Frag)(ta:TA):TI:=λZ H R=>ta Z H λvs H1=>∃kd l xs,vs=[.ref l]/\Sk kd K H1 l xs/\R (Ite K kd l) H1
def zgP:bootBuiltins "enumerate"=some (.type "enumerate"):=by decide +kernel
def zk3{a:Expr}{ta:TA}{p pos tpos:Pos}{elts:List Expr}{kk:Nat}(hg:Gl X "enumerate")(hm:X.mg "enumerate"=none)(ha:PA X [a] ta)(hs:starEach [a] X.env=[(false,eval a X.env)]:=by rfl):PI X (.Tuple elts kk tpos) (.Call (.Name "enumerate" p) [a] [] pos) (JL X.K ta):=by
 intro ak s Z H R I h;show Call_ (yu I hg hm zgP (FQ (bf (ha pos ak s Z H _ I h) λus s1 hz=>?_) hs rfl));let⟨vs,H1,I1,r1,q1⟩:=hz;let⟨kd,l,xs,e,hq,q⟩:=q1;subst e;cases r1 with
 |cons r rr=>
  cases rr;cases r;let⟨its,rv,p⟩:=I1.row hq;let hl:l<s1.heap.objs.size:=p.lt;show callType_new F.called_enumerate W9 (F.typeCall_enumerate_1 _) (F.newCall_enumerate_1 _) (λobj=>F.args_object_init_2 obj _) F.entry_enumerate_new (zij kd l its.toArray) ⟨p,?_⟩;let n1:(s1.heap.push (gC kd l)).objs.size=s1.heap.objs.size+1:=sG ..;let he:IsEnum ((s1.heap.push (gC kd l)).push {cls:=.type "enumerate",data:=.fields #[.none,.bool false,.ref s1.heap.objs.size,rawInt 0,.none,.none]}) (s1.heap.objs.size+1) s1.heap.objs.size 0 .none:=by
   let:=fW (s1.heap.push (gC kd l)) (o:={cls:=.type "enumerate",data:=.fields #[.none,.bool false,.ref s1.heap.objs.size,rawInt 0,.none,.none]}) rfl;rw[n1]at this;show this
  change _/\_;rw[n1];show⟨⟨_,he,rfl⟩,wpAny_pyIter_enum (s:={s1 with heap:=(s1.heap.push (gC kd l)).push {cls:=.type "enumerate",data:=.fields #[.none,.bool false,.ref s1.heap.objs.size,rawInt 0,.none,.none]}}) he ?_⟩;let rk:Rk kd s1.heap.objs.size l 0 ((s1.heap.push (gC kd l)).push {cls:=.type "enumerate",data:=.fields #[.none,.bool false,.ref s1.heap.objs.size,rawInt 0,.none,.none]}):=by
   cases kd
   .exact⟨_,bM _ (fW _ rfl),rfl,rfl⟩
   .exact⟨_,bM _ (fW _ rfl),rfl,rfl⟩
  show⟨s1.heap.objs.size+1,[s1.heap.objs.size+1,s1.heap.objs.size],_,_,H1,rfl,I1.kept (t':=s1.toks) λb o x=>bM _ (bM _ x),zgl (kd:=kd) (l:=l) (Nat.succ_ne_self _) (cR hl) (cR (ug hl)),⟨⟨_,he⟩,rk⟩,λb hb=>?_,q⟩;let:s1.heap.objs.size<=b:=by
   let:b=s1.heap.objs.size+1\/b=s1.heap.objs.size:=by simpa using hb
   rcases this with rfl|rfl
   .exact Nat.le_succ _
   .exact bK _
  show I1.uW this (I1.hok.fresh this)
end
end L2
set_option genSizeOf false
set_option genInjectivity false
namespace Mi
open PySem
inductive D where
 |non|bl (b:Bool)|int (i:Int)|str (s:Str)|tup (xs:List D)|fl (xs:List D)|fd (ks vs:List D)|exc (c:Nat) (fs:List D)|ob (c:Nat) (fs:List D)|any
inductive Xv where
 |d (x:D)|l (n:Nat)
inductive Kx where
 |non|int (i:Int)|row (is:List Int)
deriving DecidableEq
inductive SO where
 |lst (xs:List D)
 |dct (kvs:List (List Kx×D))
noncomputable abbrev S:=List SO
inductive Rs (α:Type) where
 |ok (a:α)|er (c:Nat) (fs:List D)
noncomputable abbrev M(α:Type):=S->Option (Rs α×S)
def M.ret{α:Type}(a:α):M α:=λs=>some (.ok a,s)
def M.bd{α β:Type}(m:M α)(k:α->M β):M β:=λs=>match m s with
 |some (.ok a,s')=>k a s'|some (.er c f,s')=>some (.er c f,s')|none=>none
def M.qt{α:Type}(m:M α):M α:=λs=>match m s with
 |some (.ok a,s')=>some (.ok a,s')|_=>none
def M.no{α:Type}:M α:=λ_=>none
def M.opt{α:Type}:Option α->M α
 |some a=>M.ret a|none=>M.no
inductive Rz where
 |dat (d:D)|nw (xs:List D)
inductive Pr where
 |add|ao|mul|fdiv|mod|pow|neg|eq|ne|lt|le|gt|ge|nin|JM|len|max2|yR|divmod|all|list|tuple|eZ|str1|ix|rev|count|index|sY|qd|part|qe|sint|cat|vq|vA|oN
inductive Kd where
 |int|bool|str|tuple|list|dict|cls (c:Nat)|qg
mutual
inductive E where
 |c (d:D)
 |v (i:Nat)
 |pr (fz:Bool) (p:Pr) (xs:Es)
 |ux (p q:Pr) (a b c:E)
 |Dq (p q r:Pr) (a b c d:E)
 |and (a b:E)
 |or (a b:E)
 |not (a:E)
 |ite (c a b:E)
 |tup (xs:Es)
 |lst (fz:Bool) (xs:Es)
 |vB (k:Str) (i:Int)
 |call (f:Nat) (xs:Es)
 |eY (a:E) (k:Kd)
 |sl (fz:Bool) (a:E) (lo hi:Eo)
 |meth (fz:Bool) (p:Pr) (k:Kd) (o:E) (xs:Es)
 |push (o a:E)
 |pop (o:E)
 |comp (fz:Bool) (elt:E) (tg:List Nat) (it:Wk) (fr:List Nat) (many:Nat) (cond:Eo)
 |JV (fz:Bool) (elt:E) (tg:List Nat) (it:Wk) (tg2:List Nat) (JF:Wk) (fr:List Nat) (many:Nat) (cond:Eo)
 |fld (o:E) (cs:List Nat) (i:Nat)
 |of (o:E) (c i:Nat)
 |mk (c f:Nat) (xs:Es)
 |cm (c f:Nat) (o:E) (xs:Es)
 |Uo
 |din (b:Bool) (k d:E)
 |Uq (d k:E)
 |tru (a:E)
 |JZ (fz:Bool) (a:E) (b:E)
 |orv (a b:E)
 |ins (o i a:E)
 |dmk (a:E)
 |Ur (a:E)
 |J1 (kx vx:E) (tg:List Nat) (it:Wk) (fr:List Nat) (many:Nat) (cond:Eo)
 |no
inductive Wk where
 |seq (e:E)
 |rg (a b:E)
 |zip (a b:E)
 |Us (a b:E)
 |enum (a:E)
 |rrg (a:E)
inductive Es where
 |nil
 |cons (a:E) (r:Es)
inductive Eo where
 |no
 |yes (a:E)
end
noncomputable abbrev Ea(a:E):Es:=.cons a .nil
noncomputable abbrev Eb(a b:E):Es:=.cons a (.cons b .nil)
noncomputable abbrev Ec(a b c:E):Es:=.cons a (.cons b (.cons c .nil))
noncomputable abbrev Ei(a b:E):E:=.pr true .ix (.cons a (.cons b .nil))
noncomputable abbrev Ci(i:Int):E:=.c (.int i)
def Es.len:Es->Nat
 |.nil=>0|.cons _ r=>r.len+1
inductive Tg where
 |nm (i:Nat)
 |tp (is:List Nat)
 |ao (o i:E)
mutual
inductive St where
 |pass
 |ex (e:E)
 |asg (t:Tg) (e:E)
 |par (i j:Nat) (a b:E)
 |star (i j:Nat) (a:E)
 |GD (i:Nat) (w u v p q:E)
 |aug (i:Nat) (e:E)
 |ret (e:E)
 |rise (c:Nat) (kp:Bool) (xs:Es)
 |iff (c:E) (t e:cg)
 |wh (c:E) (b:cg)
 |fr (t:Tg) (w:Wk) (b:cg)
 |oO (b:cg) (d:Nat) (i:Nat) (h:cg)
 |dput (d k v:E)
 |no
inductive cg where
 |nil
 |cons (a:St) (r:cg)
end
def eF(eq:D->D->Option Bool):List D->List D->Option Bool
 |[],[]=>some true|[],_::_=>some false|_::_,[]=>some false|x::xs,y::ys=>match eq x y,eF eq xs ys with
  |some a,some b=>some (a&&b)|_,_=>none
def kq:D->Option Nat
 |.non=>some 0|.bl _=>some 1|.int _=>some 1|.str _=>some 2|.tup _=>some 3|.fl _=>some 4|_=>none
def cM:Nat->D->D->Option Bool
 |n+1,.tup xs,.tup ys=>eF (cM n) xs ys|n+1,.fl xs,.fl ys=>eF (cM n) xs ys|_,.non,.non=>some true|_,.bl a,.bl b=>some (a==b)|_,.int a,.int b=>some (a==b)|_,.str a,.str b=>some (a==b)|_,.bl a,.int b=>some ((if a then 1 else 0)==b)|_,.int a,.bl b=>some (a==(if b then 1 else 0))|_,a,b=>match kq a,kq b with
  |some i,some j=>if i=j then none else some false|_,_=>none
def fj:List D->Option (List Int)
 |[]=>some []|.int i::r=>(fj r).map (i::·)|_=>none
def ltI:List Int->List Int->Bool
 |_,[]=>false|[],_::_=>true|x::xs,y::ys=>if x=y then ltI xs ys else decide (x<y)
def fD:List D->Option (List Bool)
 |[]=>some []|.bl b::r=>(fD r).map (b::·)|_=>none
def cut{α:Type}(xs:List α)(lo hi:Option Int):List α:=(xs.drop (HT.bL xs.length 0 lo)).take (HT.bL xs.length xs.length hi-HT.bL xs.length 0 lo)
def qj:D->Option (List D)
 |.tup xs=>some xs|.fl xs=>some xs|_=>none
def cutD(x:D)(lo hi:Option Int):Option Rz:=match x with
 |.tup xs=>some (.dat (.tup (cut xs lo hi)))|.fl xs=>some (.nw (cut xs lo hi))|_=>none
def memD(d:D):List D->Option Bool
 |[]=>some false|x::r=>match cM 50 x d,memD d r with
  |some a,some b=>some (a||b)|_,_=>none
def sZ(d:D):List D->Nat
 |[]=>0|x::r=>sZ d r+(if cM 50 x d=some true then 1 else 0)
def m_:Kd->D->Bool
 |.list,.fl _=>true|.str,.str _=>true|.dict,.fd _ _=>true|.tuple,.tup _=>true|_,_=>false
def dM(f:Int->Int->Option D):List D->Option Rz
 |[.int i,.int j]=>(f i j).map .dat|_=>none
def Aj(f:Int->D):List D->Option Rz
 |[.int i]=>some (.dat (f i))|_=>none
def tu(f:List D->Option Rz):List D->Option Rz
 |[a]=>(qj a).bind f|_=>none
def vC:List D->Option Rz
 |[.int i,.int j]=>some (.dat (.int (i+j)))|[.tup xs,.tup ys]=>if xs.length+ys.length<=sizeLine then some (.dat (.tup (xs++ys))) else none|[.fl xs,.fl ys]=>if xs.length+ys.length<=sizeLine then some (.nw (xs++ys)) else none|[.str x,.str y]=>if x.length+y.length<=sizeLine then some (.dat (.str (x++y))) else none|_=>none
def J3:List D->Option Rz
 |[.int i,.int j]=>some (.dat (.bl (decide (i<j))))|[.tup xs,.tup ys]=>match fj xs,fj ys with
  |some a,some b=>some (.dat (.bl (ltI a b)))|_,_=>none
 |_=>none
def GF(f:Bool->Bool):List D->Option Rz
 |[a,b]=>(cM 50 a b).map λk=>.dat (.bl (f k))|_=>none
def O6(f:Bool->Bool):List D->Option Rz
 |[a,b]=>((qj b).bind (memD a)).map λk=>.dat (.bl (f k))|_=>none
def D.Ak:D->Bool
 |.non=>true|_=>false
def J5(f:Bool->Bool):List D->Option Rz
 |[a]=>some (.dat (.bl (f a.Ak)))|_=>none
def J6:List D->Option Rz
 |[.int i]=>some (.dat (.int i))|[.bl k]=>some (.dat (.int (if k then 1 else 0)))|_=>none
def Dr:List D->Option Rz
 |[.fl xs]=>(fD xs).map λbs=>.dat (.bl (bs.all id))|_=>none
def ql:List D->Option Rz
 |[a]=>(qj a).map λxs=>.dat (.tup xs)|_=>none
def Ut:List D->Option Rz
 |[a,.int i]=>((qj a).bind λxs=>L2.qW xs i).map .dat|_=>none
def J7(lt:Nat->Nat->Option Bool)(xs:List D):Option (List D):=if xs.length<2 then some xs else if xs.length<64 then (match L2.bZ lt (PySem.W.kas_sort xs.length) with
  |some p=>if p.size=xs.length then some (p.toList.map λi=>xs.getD i .non) else none|none=>none) else none
def ltK(ks:List Int)(i j:Nat):Option Bool:=match ks[i]?,ks[j]? with
 |some x,some y=>some (decide (x<y))|_,_=>none
def Ds:List D->Option Rz
 |[.tup xs]=>some (.dat (.tup xs.reverse))|_=>none
def qm:List D->Option Rz
 |[.fl xs,d]=>(memD d xs).map λ_=>.dat (.int (sZ d xs:Nat))|_=>none
def qp:List D->Option Rz
 |[.fl xs,.bl b]=>((fD xs).bind λbs=>bs.idxOf? b).map λ(i:Nat)=>.dat (.int i)|_=>none
def jf:List D->Option Rz
 |[.int i]=>if i.natAbs<2^62 then some (.dat (.str (Str.ofString (toString i)))) else none|_=>none
def iB:List (Int×Int):=[(0,1),(0,2),(0,3),(0,4),(0,5),(0,6),(0,7),(1,2),(1,3),(1,4),(1,5),(1,6),(1,7),(2,3),(2,4),(2,5),(2,6),(2,7),(3,4),(3,5),(3,6),(3,7),(4,5),(4,6),(4,7),(5,6),(5,7),(6,7)]
def ss(ts:List (Int×Int)):List (Int×Int):=iB.filter λt=>ts.contains t
def yS:D->Option (Int×Int)
 |.tup [.int a,.int b]=>if 0<=a/\a<b/\b<8 then some (a,b) else none|_=>none
def kY:List D->Option (List (Int×Int))
 |[]=>some []|x::r=>match yS x,kY r with
  |some a,some b=>some (a::b)|_,_=>none
def Uu:List D->Option Rz
 |[.tup xs]=>(kY xs).map λts=>.nw ((ss ts).map λp=>.tup [.int p.1,.int p.2])|_=>none
def J8(x:Int):Bool:=decide (-1<=x/\x<=34)||decide (100000000000000000000<=x/\x<=100000000000000000034)
def okI(is:List Int):Bool:=decide (is.length<=18)&&is.all J8
def J9(xs ys:List D):List D:=List.zipWith (λp q=>.tup [p,q]) xs ys
def D.Dt(b:Bool):D->Bool
 |.bl c=>b==c|_=>false
def rA(f:List Int->List Int->Bool):List D->Option Rz
 |[.tup xs,.tup ys]=>match fj xs,fj ys with
  |some a,some b=>some (.dat (.bl (f a b)))|_,_=>none
 |_=>none
def GJ(b:Bool)(x:Str):Option Rz:=match b with
 |true=>some (.dat (.str x))|false=>none
def fG(x:Str):Bool:=decide (x.length<=600)
def vD:List D->Option Rz
 |[.str x]=>match fG x with
  |true=>some (.dat (.int x.length))|false=>none
 |_=>none
def Du:List D->Option Rz
 |[.str x,.int j]=>if 0<=j/\j<1000 then (x.cps[j.toNat]?).map λc=>.dat (.str ⟨#[c]⟩) else none|_=>none
def fO(y:Str):Bool:=decide (y.length=1)&&decide (Builtin.Str.strKind y=1)
def Dv(p:Str×Str×Str):D:=.tup [.str p.1,.str p.2.1,.str p.2.2]
def vG:List D->Option Rz
 |[.str x,.str y]=>match fG x&&fO y with
  |true=>some (.dat (Dv (Txt.partition x y)))|false=>none
 |_=>none
def bG(x y:Str):List Str:=match decide (x.length<1)||(Builtin.Str.occurrences x y 0 x.length (x.length+1)).isEmpty with
 |true=>[x]|false=>Builtin.Str.partsBetween x (Builtin.Str.occurrences x y 0 x.length (x.length+1)) y.length
def jA:List D->Option (List Str)
 |[]=>some []|.str x::r=>(jA r).map (x::·)|_=>none
def kZ(y:Str)(ws:List Str):Str:=Builtin.Str.glued y ws
def J_(y:Str)(o:Option (List Str)):Option Rz:=match o with
 |some ws=>GJ (fG y&&ws.all fG&&decide (ws.length<=1000)) (kZ y ws)|none=>none
def Dw:List D->Option Rz
 |[.str y,.fl ds]=>J_ y (jA ds)|_=>none
def vH:List D->Option Rz
 |[.str x,.str y]=>match fG x&&fO y&&decide ((bG x y).length<=1000) with
  |true=>some (.nw ((bG x y).map .str))|false=>none
 |_=>none
def vI:List D->Option Rz
 |[.str a,.str b]=>some (.dat (.bl (Builtin.Str.occurrences b a 0 b.length 1).isEmpty))|_=>none
def vJ:List D->Option Rz
 |[.str x]=>match fG x with
  |true=>(intText? x).map λn=>.dat (.int n)|false=>none
 |_=>none
def yU:List D->Option Rz
 |[.str a,.str b,.str c]=>GJ (fG a&&fG b&&fG c) (Str.empty++a++b++c)|_=>none
def Ka:D->Option Bool
 |.non=>some false|.bl b=>some b|.int i=>some (i != 0)|.tup xs=>some (!xs.isEmpty)|.fl xs=>some (!xs.isEmpty)|_=>none
def prim:Pr->List D->Option Rz
 |.add=>vC|.ao=>dM λi j=>some (.int (i-j))|.mul=>dM λi j=>if (-(2^64)<i/\i<2^64)\/(-(2^64)<j/\j<2^64) then some (.int (i*j)) else none|.fdiv=>dM λi j=>if 0<j/\j<1073741824 then some (.int (i/j)) else none|.mod=>dM λi j=>if 0<j then some (.int (i%j)) else none|.pow=>dM λi j=>if 0<=j/\j<=1000000/\i.natAbs<2^64 then some (.int (i^j.toNat)) else none|.neg=>Aj λi=>.int (-i)|.eq=>GF id|.ne=>GF not|.lt=>J3|.le=>dM λi j=>some (.bl (decide (i<=j)))|.gt=>dM λi j=>some (.bl (decide (j<i)))|.ge=>dM λi j=>some (.bl (decide (j<=i)))|.nin=>O6 not|.JM=>J5 id|.len=>tu λxs=>some (.dat (.int xs.length))|.max2=>dM λi j=>some (.int (if j>i then j else i))|.yR=>J6|.divmod=>dM λi j=>if 0<j/\j<1073741824 then some (.tup [.int (i/j),.int (i%j)]) else none|.all=>Dr|.list=>tu λxs=>some (.nw xs)|.tuple=>ql|.ix=>Ut|.rev=>Ds|.eZ=>Uu|.count=>qm|.index=>qp|.str1=>jf|.sY=>vD|.qd=>Du|.part=>vG|.qe=>vH|.vA=>Dw|.oN=>vI|.sint=>vJ|.cat=>yU|.vq=>rA λa b=>!ltI b a
def jB(ao:Nat->Nat->Bool):D->Kd->Option Bool
 |.exc c _,.cls e=>some (ao c e)|.exc _ _,.qg=>some true|.exc _ _,_=>none|.ob _ _,_=>none|.any,_=>none|_,.cls _=>none|_,.qg=>none|.bl _,.bool=>some true|.bl _,.int=>some true|.bl _,_=>some false|.int _,.int=>some true|.int _,_=>some false|.non,_=>some false|.str _,.str=>some true|.str _,_=>some false|.tup _,.tuple=>some true|.tup _,_=>some false|.fl _,.list=>some true|.fl _,_=>some false|.fd _ _,.dict=>some true|.fd _ _,_=>some false
def rd(x:Xv):M D:=λs=>match x with
 |.d v=>some (.ok v,s)|.l n=>match s[n]? with
  |some (.lst xs)=>some (.ok (.fl xs),s)|_=>none
def dH:List Xv->M (List D)
 |[]=>M.ret []|x::r=>M.bd (rd x) λd=>M.bd (dH r) λds=>M.ret (d::ds)
def dat(x:Xv):M D:=match x with
 |.d v=>M.ret v|.l _=>M.no
def fP:List Xv->M (List D)
 |[]=>M.ret []|x::r=>M.bd (dat x) λd=>M.bd (fP r) λds=>M.ret (d::ds)
def bool(x:Xv):M Bool:=match x with
 |.d (.bl b)=>M.ret b|_=>M.no
def int(x:Xv):M Int:=match x with
 |.d (.int b)=>M.ret b|_=>M.no
def newL(fz:Bool)(xs:List D):M Xv:=match fz with
 |true=>M.ret (.d (.fl xs))|false=>λs=>some (.ok (.l s.length),s++[.lst xs])
def bw(fz:Bool)(o:Option Rz):M Xv:=match o with
 |some (.dat d)=>M.ret (.d d)|some (.nw xs)=>newL fz xs|none=>M.no
def cZ(x:Xv):M (Nat×List D):=λs=>match x with
 |.l n=>match s[n]? with
  |some (.lst xs)=>some (.ok (n,xs),s)|_=>none
 |_=>none
def putL(n:Nat)(xs:List D):M Unit:=λs=>some (.ok (),s.set n (.lst xs))
def Uv:D->Option Kx
 |.non=>some .non|.int i=>some (.int i)|.tup xs=>(fj xs).map .row|_=>none
def kxs:List D->Option (List Kx)
 |[]=>some []|x::r=>match Uv x,kxs r with
  |some a,some b=>some (a::b)|_,_=>none
def kOf:D->Option (List Kx)
 |.tup xs=>kxs xs|_=>none
noncomputable abbrev tD:=List (List Kx×D)
def yV(k:List Kx):tD->Option D
 |[]=>none|p::r=>if p.1=k then some p.2 else yV k r
def Dy(k:List Kx)(d:D)(r:tD):tD:=if (yV k r).isSome=true then r.map λp=>if p.1=k then (p.1,d) else p else r++[(k,d)]
def vK:List D->tD->Option tD
 |[],r=>some r|.tup [k,v]::t,r=>match kOf k with
  |some kx=>vK t (Dy kx v r)|none=>none
 |_::_,_=>none
def Dz:D->Option tD
 |.fl ds=>if ds.length<=sizeLine then vK ds [] else none|_=>none
def rB(x:Xv):M (Nat×tD):=λs=>match x with
 |.l n=>match s[n]? with
  |some (.dct kvs)=>some (.ok (n,kvs),s)|_=>none
 |_=>none
def putD(n:Nat)(kvs:tD):M Unit:=λs=>some (.ok (),s.set n (.dct kvs))
def key(x:Xv):M (List Kx):=match x with
 |.d v=>M.opt (kOf v)|.l _=>M.no
def enumFrom:Nat->List D->List D
 |_,[]=>[]|i,x::r=>.tup [.int i,x]::enumFrom (i+1) r
inductive Src where
 |fix (xs:List D)|live (n:Nat)|jC (n:Nat)|Al (n m:Nat)
def Src.at(c:Src)(i:Nat)(s:S):Option (Option D):=match c with
 |.fix xs=>some xs[i]?|.live n=>match s[n]? with
  |some (.lst xs)=>some xs[i]?|_=>none
 |.jC n=>match s[n]? with
  |some (.lst xs)=>some (xs[i]?.map λx=>.tup [.int i,x])|_=>none
 |.Al n m=>match s[n]?,s[m]? with
  |some (.lst xs),some (.lst ys)=>some (J9 xs ys)[i]?|_,_=>none
def Uw(x y:Xv):M (Src×Nat):=λs=>match x,y with
 |.l n,.l m=>match s[n]?,s[m]? with
  |some (.lst xs),some (.lst ys)=>some (.ok (.Al n m,(J9 xs ys).length),s)|_,_=>none
 |_,_=>none
def rC(x:Xv):M (Src×Nat):=λs=>match x with
 |.d (.tup xs)=>some (.ok (.fix (enumFrom 0 xs),(enumFrom 0 xs).length),s)|.d (.fl xs)=>some (.ok (.fix (enumFrom 0 xs),(enumFrom 0 xs).length),s)|.l n=>match s[n]? with
  |some (.lst xs)=>some (.ok (.jC n,xs.length),s)|_=>none
 |_=>none
def src(x:Xv):M (Src×Nat):=λs=>match x with
 |.d (.tup xs)=>some (.ok (.fix xs,xs.length),s)|.d (.fl xs)=>some (.ok (.fix xs,xs.length),s)|.l n=>match s[n]? with
  |some (.lst xs)=>some (.ok (.live n,xs.length),s)|_=>none
 |_=>none
def ni(x:Xv):M (List D):=match x with
 |.d (.tup xs)=>M.ret xs|.d (.fl xs)=>M.ret xs|_=>M.no
def gU(a b:Int):List D:=(List.range (b-a).toNat).map λ(i:Nat)=>.int (a+i)
def dU(a:Int):Bool:=decide (-(2^62)<a)&&decide (a<2^62)
def walk{γ:Type}(c:Src)(f:D->γ->M γ):Nat->Nat->γ->M γ
 |0,_,_=>M.no|k+1,i,acc=>λs=>match c.at i s with
  |none=>none|some none=>some (.ok acc,s)|some (some x)=>M.bd (f x acc) (λacc'=>walk c f k (i+1) acc') s
def Am(f:D->M Xv):List D->Option (List Int)
 |[]=>some []|x::r=>match f x [] with
  |some (.ok (.d (.int k)),[])=>(Am f r).map (k::·)|_=>none
noncomputable abbrev Vs:=List (Option Xv)
noncomputable abbrev Fn:=Nat->List Xv->M Xv
def locs:List Xv->List Nat
 |[]=>[]|.d _::r=>locs r|.l n::r=>n::locs r
def eG:Nat->List Xv->List Xv
 |_,[]=>[]|k,.d v::r=>.d v::eG k r|k,.l _::r=>.l k::eG (k+1) r
def jg(s:S):List Nat->Option S
 |[]=>some []|n::r=>match s[n]?,jg s r with
  |some o,some q=>some (o::q)|_,_=>none
def dh(s:S):List Nat->S->S
 |n::r,o::q=>dh (s.set n o) r q|_,_=>s
def cP(F:List Xv->M Xv)(xs:List Xv):M Xv:=λs=>
 if (locs xs).Nodup then match jg s (locs xs) with
  |none=>none|some s0=>match F (eG 0 xs) s0 with
   |none=>none|some (.er c fs,s1)=>some (.er c fs,dh s (locs xs) s1)|some (.ok (.d v),s1)=>some (.ok (.d v),dh s (locs xs) s1)|some (.ok (.l n),s1)=>match (locs xs)[n]? with
    |some m=>some (.ok (.l m),dh s (locs xs) s1)|none=>match s1[n]? with
     |some o=>some (.ok (.l s.length),dh s (locs xs) s1++[o])|none=>none
 else none
def mkW(F:List Xv->M Xv)(c:Nat)(vs:List Xv):M Xv:=λs=>
 if locs vs=[] then match F (.d .any::vs) [] with
  |some (.ok (.d (.tup ds)),_)=>some (.ok (.d (.ob c ds)),s)|_=>none
 else none
def Kc(c:Nat)(x:Xv):M (List D):=match x with
 |.d (.ob e fs)=>if e=c then M.ret fs else M.no|_=>M.no
def fu{α:Type}:List Nat->List α->List (Option α)->Option (List (Option α))
 |[],[],J=>some J|i::is,d::ds,J=>fu is ds (J.set i (some d))|_,_,_=>none
def jD:D->Option (List D)
 |.tup xs=>some xs|_=>none
def jE(tg:List Nat)(x:D)(J:Vs):Option Vs:=match tg with
 |[i]=>some (J.set i (some (.d x)))|is=>(jD x).bind λds=>fu is (ds.map .d) J
def blk(many:Nat)(fr:List Nat)(J:Vs):Vs:=List.replicate many none++fr.map λj=>J[j]?.join
section
variable (ao:Nat->Nat->Bool)(aj:Bool)(F:Fn)
mutual
noncomputable def ev:E->Vs->M Xv
 |.c d,_=>M.ret (.d d)|.v i,J=>M.opt (J[i]?.join)|.pr fz p xs,J=>M.bd (evs xs J) λvs=>M.bd (dH vs) λds=>bw fz (prim p ds)|.ux p q a b c,J=>M.bd (ev a J) λx=>M.bd (ev b J) λy=>M.bd (dH [x,y]) λds=>M.bd (bw true (prim p ds)) λt=>M.bd (bool t) λk=>
   if k=true then M.bd (ev c J) λz=>M.bd (dH [y,z]) λds=>bw true (prim q ds) else M.ret (.d (.bl false))
 |.Dq p q r a b c d,J=>M.bd (ev a J) λx=>M.bd (ev b J) λy=>M.bd (dH [x,y]) λds=>M.bd (bw true (prim p ds)) λt=>M.bd (bool t) λk=>
   if k=true then M.bd (ev c J) λz=>M.bd (dH [y,z]) λds=>M.bd (bw true (prim q ds)) λt=>M.bd (bool t) λk2=>
    if k2=true then M.bd (ev d J) λw=>M.bd (dH [z,w]) λds=>bw true (prim r ds) else M.ret (.d (.bl false))
   else M.ret (.d (.bl false))
 |.and a b,J=>M.bd (ev a J) λx=>M.bd (bool x) λk=>if k=true then ev b J else M.ret (.d (.bl false))|.or a b,J=>M.bd (ev a J) λx=>M.bd (bool x) λk=>if k=true then M.ret (.d (.bl true)) else ev b J|.not a,J=>M.bd (ev a J) λx=>M.bd (bool x) λk=>M.ret (.d (.bl (!k)))|.ite c a b,J=>M.bd (ev c J) λx=>M.bd (bool x) λk=>if k=true then ev a J else ev b J|.tup xs,J=>M.bd (evs xs J) λvs=>M.bd (fP vs) λds=>M.ret (.d (.tup ds))|.lst fz xs,J=>M.bd (evs xs J) λvs=>M.bd (fP vs) λds=>newL fz ds|.vB k i,_=>M.ret (.d (.fd [.str k] [.int i]))|.call f xs,J=>M.bd (evs xs J) λvs=>cP (F f) vs|.eY a k,J=>M.bd (ev a J) λx=>M.bd (rd x) λd=>M.bd (M.opt (jB ao d k)) λb=>M.ret (.d (.bl b))|.sl fz a lo hi,J=>M.bd (ev a J) λx=>M.bd (yW lo J) λl=>M.bd (yW hi J) λh=>M.bd (rd x) λd=>bw fz (cutD d l h)|.meth fz p k o xs,J=>M.bd (ev o J) λx=>M.bd (rd x) λd=>if m_ k d=true then M.bd (evs xs J) λys=>M.bd (dH (x::ys)) λds=>bw fz (prim p ds) else M.no|.push o a,J=>M.bd (ev o J) λx=>M.bd (cZ x) λ_=>M.bd (ev a J) λy=>M.bd (dat y) λd=>M.bd (cZ x) λnx=>if nx.2.length<sizeLine then M.bd (putL nx.1 (nx.2++[d])) λ_=>M.ret (.d .non) else M.no|.pop o,J=>M.bd (ev o J) λx=>M.bd (cZ x) λnx=>match nx.2.getLast? with
   |some d=>M.bd (putL nx.1 nx.2.dropLast) λ_=>M.ret (.d d)|none=>M.no
 |.comp fz elt tg it fr many cond,J=>if aj=true then M.bd (oR it J) λcn=>
   M.bd (walk cn.1 (λd acc=>M.bd (M.opt (jE tg d (blk many fr J))) λJ'=>M.bd (M.qt (uy cond J')) λok=>
    if ok=true then M.bd (M.qt (ev elt J')) λy=>M.bd (dat y) λe=>if acc.length<sizeLine then M.ret (acc++[e]) else M.no else M.ret acc) (cn.2+1) 0 []) λxs=>newL fz xs
  else M.no
 |.JV fz elt tg it tg2 JF fr many cond,J=>if aj=true then M.bd (oR it J) λcn=>
   M.bd (walk cn.1 (λd acc=>M.bd (M.opt (jE tg d (blk many fr J))) λJ'=>M.bd (M.qt (oR JF J')) λcn2=>
    walk cn2.1 (λd2 acc=>M.bd (M.opt (jE tg2 d2 J')) λJ''=>M.bd (M.qt (uy cond J'')) λok=>
     if ok=true then M.bd (M.qt (ev elt J'')) λy=>M.bd (dat y) λe=>if acc.length<sizeLine then M.ret (acc++[e]) else M.no else M.ret acc) (cn2.2+1) 0 acc) (cn.2+1) 0 []) λxs=>newL fz xs
  else M.no
 |.fld o cs i,J=>M.bd (ev o J) λx=>match x with
   |.d (.exc c fs)=>if cs.contains c=true then M.opt (fs[i]?.map .d) else M.no|_=>M.no
 |.of o c i,J=>M.bd (ev o J) λx=>M.bd (Kc c x) λfs=>M.opt (fs[i]?.map .d)|.mk c f xs,J=>M.bd (evs xs J) λvs=>mkW (F f) c vs|.cm c f o xs,J=>M.bd (ev o J) λx=>M.bd (Kc c x) λ_=>M.bd (evs xs J) λvs=>M.qt (cP (F f) (x::vs))|.Uo,_=>λs=>some (.ok (.l s.length),s++[.dct []])|.din b k d,J=>M.bd (ev k J) λx=>M.bd (ev d J) λy=>M.bd (key x) λkx=>M.bd (rB y) λnk=>M.ret (.d (.bl ((yV kx nk.2).isSome==b)))|.Uq d k,J=>M.bd (ev d J) λy=>M.bd (ev k J) λx=>M.bd (key x) λkx=>M.bd (rB y) λnk=>M.opt ((yV kx nk.2).map .d)|.tru a,J=>M.bd (ev a J) λx=>M.bd (rd x) λd=>M.bd (M.opt (Ka d)) λk=>M.ret (.d (.bl k))|.JZ fz a b,J=>if aj=true then M.bd (ev a J) λx=>match x with
   |.d (.fl xs)=>M.bd (M.opt (Am (λd=>ev b [some (.d d)]) xs)) λks=>M.bd (M.opt (J7 (ltK ks) xs)) λys=>newL fz ys|_=>M.no else M.no
 |.orv a b,J=>M.bd (ev a J) λx=>M.bd (rd x) λd=>M.bd (M.opt (Ka d)) λk=>if k=true then M.ret x else ev b J|.ins o i a,J=>M.bd (ev o J) λx=>M.bd (cZ x) λ_=>M.bd (ev i J) λz=>M.bd (int z) λj=>M.bd (ev a J) λy=>M.bd (dat y) λd=>M.bd (cZ x) λnx=>if 0<=j/\j<=nx.2.length/\nx.2.length<sizeLine then M.bd (putL nx.1 (nx.2.take j.toNat++d::nx.2.drop j.toNat)) λ_=>M.ret (.d .non) else M.no|.dmk a,J=>M.bd (ev a J) λx=>M.bd (dat x) λd=>M.bd (M.opt (Dz d)) λkvs=>λs=>some (.ok (.l s.length),s++[.dct kvs])|.Ur a,J=>M.bd (ev a J) λx=>M.bd (rB x) λnk=>M.ret (.d (.int nk.2.length))|.J1 kx vx tg it fr many cond,J=>if aj=true then M.bd (oR it J) λcn=>M.bd (walk cn.1 (λd acc=>M.bd (M.opt (jE tg d (blk many fr J))) λJ'=>M.bd (M.qt (uy cond J')) λok=>if ok=true then M.bd (M.qt (ev kx J')) λx=>M.bd (key x) λk=>M.bd (M.qt (ev vx J')) λy=>M.bd (dat y) λe=>if acc.length<sizeLine then M.ret (Dy k e acc) else M.no else M.ret acc) (cn.2+1) 0 []) λkvs=>λs=>some (.ok (.l s.length),s++[.dct kvs]) else M.no|.no,_=>M.no
noncomputable def oR:Wk->Vs->M (Src×Nat)
 |.seq e,J=>M.bd (ev e J) src|.rg a b,J=>M.bd (ev a J) λx=>M.bd (ev b J) λy=>M.bd (int x) λi=>M.bd (int y) λj=>if dU i&&dU j then M.ret (.fix (gU i j),(gU i j).length) else M.no|.zip a b,J=>M.bd (ev a J) λx=>M.bd (ev b J) λy=>M.bd (ni x) λxs=>M.bd (ni y) λys=>M.ret (.fix (List.zipWith (λp q=>.tup [p,q]) xs ys),(List.zipWith (λ(p q:D)=>D.tup [p,q]) xs ys).length)|.Us a b,J=>M.bd (ev a J) λx=>M.bd (ev b J) λy=>Uw x y|.enum a,J=>M.bd (ev a J) rC|.rrg a,J=>M.bd (ev a J) λx=>M.bd (int x) λi=>if dU i then M.ret (.fix (gU 0 i).reverse,(gU 0 i).length) else M.no
noncomputable def yW:Eo->Vs->M (Option Int)
 |.no,_=>M.ret none|.yes a,J=>M.bd (ev a J) λx=>M.bd (int x) λi=>M.ret (some i)
noncomputable def uy:Eo->Vs->M Bool
 |.no,_=>M.ret true|.yes a,J=>M.bd (ev a J) bool
noncomputable def evs:Es->Vs->M (List Xv)
 |.nil,_=>M.ret []|.cons a r,J=>M.bd (ev a J) λx=>M.bd (evs r J) λxs=>M.ret (x::xs)
end
end
inductive Out where
 |nx (J:Vs)|rt (x:Xv)|bk (J:Vs)|ct (J:Vs)|er (c:Nat) (fs:List D) (J:Vs)
noncomputable abbrev MS:=S->Option (Out×S)
def ofM{α:Type}(m:M α)(J:Vs)(k:α->MS):MS:=λs=>match m s with
 |some (.ok a,s')=>k a s'|some (.er c fs,s')=>some (.er c fs J,s')|none=>none
def bH(m:MS)(k:Vs->MS):MS:=λs=>match m s with
 |some (.nx J,s')=>k J s'|r=>r
section
variable (ao:Nat->Nat->Bool)
def store(aj:Bool)(F:Fn)(t:Tg)(x:Xv)(J:Vs):MS:=match t with
 |.nm i=>λs=>some (.nx (J.set i (some x)),s)|.tp is=>if aj=true then ofM (M.bd (dat x) λd=>M.opt ((jD d).bind λds=>fu is (ds.map .d) J)) J (λJ' s=>some (.nx J',s)) else λ_=>none|.ao o i=>ofM (M.bd (dat x) λd=>M.bd (ev ao aj F o J) λy=>M.bd (ev ao aj F i J) λz=>M.bd (int z) λj=>M.bd (cZ y) λnx=>
   match L2.lX nx.2.length j with
   |some q=>putL nx.1 (nx.2.set q d)|none=>M.no) J (λ_ s=>some (.nx J,s))
def qu(c:Vs->M Bool)(b:Vs->MS):Nat->Vs->MS
 |0,_=>λ_=>none|k+1,J=>ofM (c J) J λok=>if ok=true then λs=>match b J s with
   |some (.nx J',s')=>qu c b k J' s'|some (.ct J',s')=>qu c b k J' s'|some (.bk J',s')=>some (.nx J',s')|r=>r
  else λs=>some (.nx J,s)
def cI(c:Src)(b:D->Vs->MS):Nat->Nat->Vs->MS
 |0,_,_=>λ_=>none|k+1,i,J=>λs=>match c.at i s with
  |none=>none|some none=>some (.nx J,s)|some (some d)=>match b d J s with
   |some (.nx J',s')=>cI c b k (i+1) J' s'|some (.ct J',s')=>cI c b k (i+1) J' s'|some (.bk J',s')=>some (.nx J',s')|r=>r
def goes(i:Nat):Out->Out
 |.nx J=>.nx (J.set i none)|.bk J=>.bk (J.set i none)|.ct J=>.ct (J.set i none)|r=>r
def Ke:Nat:=1000000000000
mutual
noncomputable def ex(aj:Bool)(F:Bool->Fn):St->Vs->MS
 |.pass,J=>λs=>some (.nx J,s)|.ex e,J=>ofM (ev ao aj (F aj) e J) J λ_ s=>some (.nx J,s)|.asg t e,J=>ofM (ev ao aj (F aj) e J) J λx=>store ao aj (F aj) t x J|.par i j a b,J=>if aj=true then ofM (M.bd (ev ao aj (F aj) a J) λx=>M.bd (ev ao aj (F aj) b J) λy=>M.ret (x,y)) J λxy s=>some (.nx ((J.set i (some xy.1)).set j (some xy.2)),s) else λ_=>none|.star i j e,J=>if aj=true then ofM (ev ao aj (F aj) e J) J (λx s=>match x with
  |.d (.fl (a::r))=>some (.nx ((J.set i (some (.d a))).set j (some (.d (.fl r)))),s)|_=>none) else λ_=>none
 |.GD i w u v p q,J=>if (aj&&decide (i<J.length))=true then ofM (M.bd (ev ao aj (F aj) w J) λx=>M.bd (ni x) λxs=>M.bd (M.qt (ev ao aj (F aj) u (J.set i none))) λa=>M.bd (dat a) λa=>M.bd (M.qt (ev ao aj (F aj) v (J.set i none))) λb=>M.bd (dat b) λb=>M.bd (M.qt (ev ao aj (F aj) p (J.set i none))) λy=>M.bd (int y) λj=>M.bd (M.opt (L2.lX xs.length j)) λm=>M.bd (M.qt (ev ao aj (F aj) q (J.set i none))) λz=>M.bd (int z) λl=>M.bd (M.opt (L2.lX xs.length l)) λn=>M.ret ((xs.set m a).set n b)) J (λys s=>some (.nx (J.set i (some (.d (.fl ys)))),s)) else λ_=>none|.aug i e,J=>ofM (M.bd (M.opt (J[i]?.join)) λx=>M.bd (ev ao aj (F aj) e J) λy=>M.bd (int x) λp=>M.bd (int y) λq=>M.ret (p+q)) J λr s=>some (.nx (J.set i (some (.d (.int r)))),s)|.ret e,J=>ofM (ev ao aj (F aj) e J) J λx s=>some (.rt x,s)|.rise c kp xs,J=>if aj=true then ofM (M.bd (evs ao aj (F aj) xs J) fP) J λds s=>some (.er c (if kp=true then ds else []) J,s) else λ_=>none|.iff c t e,J=>ofM (M.bd (ev ao aj (F aj) c J) bool) J λb=>if b=true then exs aj F t J else exs aj F e J|.wh c b,J=>qu (λJ=>M.bd (ev ao aj (F aj) c J) bool) (λJ=>exs aj F b J) Ke J|.fr t w b,J=>if aj=true then ofM (oR ao aj (F aj) w J) J λcn=>cI cn.1 (λd J=>bH (store ao aj (F aj) t (.d d) J) λJ'=>exs aj F b J') (cn.2+1) 0 J else λ_=>none|.oO b d i h,J=>if aj=true then λs=>match exs aj F b J s with
   |some (.er c fs J',s')=>if ao c d=true then (match exs false F h (J'.set i (some (.d (.exc c fs)))) s' with
    |some (r,s'')=>(match r with
     |.er _ _ _=>none|r=>some (goes i r,s''))
    |none=>none) else none
   |r=>r
  else λ_=>none
 |.dput d k v,J=>ofM (M.bd (ev ao aj (F aj) v J) λz=>M.bd (dat z) λw=>M.bd (ev ao aj (F aj) d J) λy=>M.bd (ev ao aj (F aj) k J) λx=>M.bd (key x) λkx=>M.bd (rB y) λnk=>if nk.2.length<sizeLine then putD nk.1 (Dy kx w nk.2) else M.no) J (λ_ s=>some (.nx J,s))|.no,_=>λ_=>none
noncomputable def exs(aj:Bool)(F:Bool->Fn):cg->Vs->MS
 |.nil,J=>λs=>some (.nx J,s)|.cons a r,J=>bH (ex aj F a J) λJ'=>exs aj F r J'
end
structure Df where
 many:Nat
 iC:Nat
 body:cg
def call(T:Nat->Option Df):Nat->Bool->Fn
 |0,_,_,_=>M.no|k+1,aj,f,xs=>match T f with
  |none=>M.no|some d=>if xs.length=d.iC then λs=>match exs ao aj (λc=>call T k c) d.body (xs.map some++List.replicate (d.many-d.iC) none) s with
    |some (.nx _,s')=>some (.ok (.d .non),s')|some (.rt v,s')=>some (.ok v,s')|some (.er c fs _,s')=>some (.er c fs,s')|_=>none
   else M.no
end
end Mi
namespace Mi
open PySem L2
structure Ph where
 z:Addr->Prop
 l:List Addr
structure Cl where
 a:Nat->Addr
 f:Nat->List Str
 b:Nat->Addr
 g:Nat->List Str
section
variable (K:W.Frag)(cA:Cl)
def KT(a:Addr)(vs:List V):Prop:=fL K (λ_=>none) a vs
def KL(a:Addr)(vs:List V):Prop:=dF K (λ_=>none) a vs
def TupAt(U:Ph)(H:Hp)(a:Addr)(vs:List V):Prop:=(Rd H a (.tup vs)/\¬U.z a)\/KT K a vs
def LstAt(U:Ph)(H:Hp)(a:Addr)(vs:List V):Prop:=(Rd H a (.lst vs)/\¬U.z a)\/KL K a vs
def ExcAt(U:Ph)(H:Hp)(a:Addr)(c:Nat)(vs:List V):Prop:=¬U.z a/\((cA.f c=[]/\vs=[]/\H a=some (i_ a (cA.a c) none))\/∃dx,H a=some (i_ a (cA.a c) (some dx))/\¬U.z dx/\H dx=some (.xd ((cA.f c).zip vs))/\(cA.f c).length=vs.length)
def qw(U:Ph)(H:Hp)(a:Addr)(c:Nat)(vs:List V):Prop:=¬U.z a/\∃dx,H a=some (.ins (cA.b c) dx ((cA.g c).zip vs))/\(cA.g c).length=vs.length
mutual
inductive Rep (U:Ph) (H:Hp):D->V->Prop where
 |non:Rep U H .non .non
 |bl (b:Bool):Rep U H (.bl b) (.bl b)
 |int (i:Int):Rep U H (.int i) (.int i)
 |str (x:Str):Rep U H (.str x) (.str x)
 |tup {a:Addr} {xs:List D} {vs:List V} (h:TupAt K U H a vs) (r:aC U H xs vs):Rep U H (.tup xs) (.ref a)
 |fl {a:Addr} {xs:List D} {vs:List V} (h:LstAt K U H a vs) (r:aC U H xs vs):Rep U H (.fl xs) (.ref a)
 |fd {a:Addr} {k:Str} {i:Int} (h:H a=some (.dK [(.inr k,.int i)])) (n:¬U.z a):Rep U H (.fd [.str k] [.int i]) (.ref a)
 |exc {a:Addr} {c:Nat} {xs:List D} {vs:List V} (h:ExcAt cA U H a c vs) (r:aC U H xs vs):Rep U H (.exc c xs) (.ref a)
 |ob {a:Addr} {c:Nat} {xs:List D} {vs:List V} (h:qw cA U H a c vs) (r:aC U H xs vs):Rep U H (.ob c xs) (.ref a)
 |any (a:Addr):Rep U H .any (.ref a)
inductive aC (U:Ph) (H:Hp):List D->List V->Prop where
 |nil:aC U H [] []
 |cons {d:D} {v:V} {ds:List D} {vs:List V} (h:Rep U H d v) (r:aC U H ds vs):aC U H (d::ds) (v::vs)
end
inductive bB (U:Ph) (H:Hp):Xv->V->Prop where
 |d {x:D} {v:V} (h:Rep K cA U H x v):bB U H (.d x) v
 |l {n:Nat} {a:Addr} (h:U.l[n]?=some a):bB U H (.l n) (.ref a)
inductive cC (U:Ph) (H:Hp):List Xv->List V->Prop where
 |nil:cC U H [] []
 |cons {d:Xv} {v:V} {ds:List Xv} {vs:List V} (h:bB K cA U H d v) (r:cC U H ds vs):cC U H (d::ds) (v::vs)
def kxH:Kx->Int
 |.non=>reduceHash 0xFCA86420|.int i=>hashInt i|.row is=>reduceHash (Builtin.Tuple.tupleHashOf (is.map hashInt))
def Kf(k:List Kx):Int:=reduceHash (Builtin.Tuple.tupleHashOf (k.map kxH))
def kxD:Kx->D
 |.non=>.non|.int i=>.int i|.row is=>.tup (is.map .int)
def Ux(k:List Kx):D:=.tup (k.map kxD)
noncomputable abbrev tG:=List (List Kx×Addr×Value)
def DcO(a:Addr)(xs:tG):HO:=.ext λh=>(a==sysModules)=false/\xs.length<=sizeLine/\∃o es ep,h.get? a=some o/\o.ExactDict/\o.data=.dict es ep/\es.toList=xs.map (λx=>⟨Kf x.1,.ref x.2.1,x.2.2⟩)/\(xs.map (·.1)).Nodup
inductive DG (U:Ph) (H:Hp):tD->tG->Prop where
 |nil:DG U H [] []
 |cons {k:List Kx} {d:D} {ka:Addr} {u:Value} {v:V} {r:tD} {xs:tG} (hk:Rep K cA U H (Ux k) (.ref ka)) (hu:RelV v u) (hv:Rep K cA U H d v) (q:DG U H r xs):DG U H ((k,d)::r) ((k,ka,u)::xs)
def k_(U:Ph)(H:Hp)(a:Addr):SO->Prop
 |.lst xs=>∃vs,H a=some (.lst vs)/\aC K cA U H xs vs|.dct kvs=>∃xs,H a=some (DcO a xs)/\DG K cA U H kvs xs
structure aF(U:Ph)(H:Hp)(s:S):Prop where
 len:U.l.length=s.length
 obj:∀(n:Nat) o a,s[n]?=some o->U.l[n]?=some a->k_ K cA U H a o
 uniq:U.l.Nodup
 lz:∀a∈U.l,U.z a
 zt:∀a,U.z a->∃o,H a=some o
structure Ext(U:Ph)(H:Hp)(U':Ph)(H':Hp):Prop where
 more:∃r,U'.l=U.l++r/\∀b∈r,H b=none
 vL:∀a,U.z a->U'.z a
 nj:∀a,U'.z a->U.z a\/H a=none
 frame:∀a o,H a=some o->a∉U.l->H' a=some o
 stay:∀a o,H a=some o->∃o',H' a=some o'
def bx(U:Ph)(H:Hp)(Z:L2.St)(J:Vs):Prop:=Z.length=J.length/\∀(i:Nat) (x:Xv),J[i]?=some (some x)->∃v,Z[i]?=some (some v)/\bB K cA U H x v
end
section
variable {K:W.Frag}{cA:Cl}{U U' Uy:Ph}{H H' Uz:Hp}{s:S}{Z:L2.St}{J:Vs}
theorem Ext.refl:Ext U H U H:=⟨⟨[],by simp,by simp⟩,λ_ h=>h,λ_ h=>.inl h,λ_ _ h _=>h,λ_ o h=>⟨o,h⟩⟩
def Ext.mj(x:Ext U H U' H'){a:Addr}(h:H' a=none):H a=none:=by
 cases e:H a with
 |none=>rfl|some o=>let⟨o',q⟩:=x.stay a o e;rw[h]at q;cases q
def Ext.trans(x:Ext U H U' H')(y:Ext U' H' Uy Uz):Ext U H Uy Uz:=by
 let⟨r,e,hr⟩:=x.more;let⟨r',e',pG⟩:=y.more;show⟨⟨r++r',by rw[e',e,BR],λb hb=>?_⟩,λa h=>y.vL a (x.vL a h),λa h=>?_,λa o h n=>y.frame a o (x.frame a o h n) ?_,λa o h=>?_⟩
 .rcases gA.mp hb with z|z
  .exact hr b z
  .exact x.mj (pG b z)
 .rcases y.nj a h with z|z
  .exact x.nj a z
  .exact .inr (x.mj z)
 .rw[e];intro z;rcases gA.mp z with z|z
  .exact n z
  .rw[hr a z]at h;cases h
 .obtain⟨o',q⟩:=x.stay a o h;show y.stay a o' q
def Ext.get(x:Ext U H U' H'){n:Nat}{a:Addr}(h:U.l[n]?=some a):U'.l[n]?=some a:=by
 let⟨r,e,_⟩:=x.more;rw[e,qL (jr.mp h).1];show h
theorem Ext.out(x:Ext U H U' H')(hz:∀a∈U.l,U.z a){a:Addr}{o:HO}(h:H a=some o)(n:¬U.z a):H' a=some o/\¬U'.z a:=
 ⟨x.frame a o h λz=>n (hz a z),λz=>by
  rcases x.nj a z with y|y
  .exact n y
  .rw[h]at y;cases y⟩
def TupAt.mono(x:Ext U H U' H')(hz:∀a∈U.l,U.z a){a:Addr}{vs:List V}(h:TupAt K U H a vs):TupAt K U' H' a vs:=by
 rcases h with ⟨h|⟨o,h⟩,n⟩|h
 .obtain⟨p,q⟩:=x.out hz h n;show .inl ⟨.inl p,q⟩
 .obtain⟨p,q⟩:=x.out hz h n;show .inl ⟨.inr ⟨o,p⟩,q⟩
 .exact .inr h
def LstAt.mono(x:Ext U H U' H')(hz:∀a∈U.l,U.z a){a:Addr}{vs:List V}(h:LstAt K U H a vs):LstAt K U' H' a vs:=by
 rcases h with ⟨h|⟨o,h⟩,n⟩|h
 .obtain⟨p,q⟩:=x.out hz h n;show .inl ⟨.inl p,q⟩
 .obtain⟨p,q⟩:=x.out hz h n;show .inl ⟨.inr ⟨o,p⟩,q⟩
 .exact .inr h
def ExcAt.mono(x:Ext U H U' H')(hz:∀a∈U.l,U.z a){a:Addr}{c:Nat}{vs:List V}(h:ExcAt cA U H a c vs):ExcAt cA U' H' a c vs:=by
 obtain⟨n,⟨e1,e2,h⟩|⟨dx,h,n2,h2,h3⟩⟩:=h
 .obtain⟨p,q⟩:=x.out hz h n;show⟨q,.inl ⟨e1,e2,p⟩⟩
 .obtain⟨p,q⟩:=x.out hz h n;let⟨p2,q2⟩:=x.out hz h2 n2;show⟨q,.inr ⟨dx,p,q2,p2,h3⟩⟩
def qw.mono(x:Ext U H U' H')(hz:∀a∈U.l,U.z a){a:Addr}{c:Nat}{vs:List V}(h:qw cA U H a c vs):qw cA U' H' a c vs:=by
 let⟨n,dx,h,h3⟩:=h;let⟨p,q⟩:=x.out hz h n;show⟨q,dx,p,h3⟩
theorem Rep.mono(x:Ext U H U' H')(hz:∀a∈U.l,U.z a){d:D}{v:V}(h:Rep K cA U H d v):Rep K cA U' H' d v:=
 Rep.rec (motive_1:=λd v _=>Rep K cA U' H' d v) (motive_2:=λd v _=>aC K cA U' H' d v) .non .bl .int .str (λh _ i=>.tup (h.mono x hz) i) (λh _ i=>.fl (h.mono x hz) i) (λh n=>.fd (x.out hz h n).1 (x.out hz h n).2) (λh _ i=>.exc (h.mono x hz) i) (λh _ i=>.ob (h.mono x hz) i) .any .nil (λ_ _ i j=>.cons i j) h
theorem aC.mono(x:Ext U H U' H')(hz:∀a∈U.l,U.z a){d:List D}{v:List V}(h:aC K cA U H d v):aC K cA U' H' d v:=
 aC.rec (motive_1:=λd v _=>Rep K cA U' H' d v) (motive_2:=λd v _=>aC K cA U' H' d v) .non .bl .int .str (λh _ i=>.tup (h.mono x hz) i) (λh _ i=>.fl (h.mono x hz) i) (λh n=>.fd (x.out hz h n).1 (x.out hz h n).2) (λh _ i=>.exc (h.mono x hz) i) (λh _ i=>.ob (h.mono x hz) i) .any .nil (λ_ _ i j=>.cons i j) h
def aC.map(m:∀d v,Rep K cA U H d v->Rep K cA U' H' d v):∀{d:List D} {v:List V},aC K cA U H d v->aC K cA U' H' d v:=by
 intro d
 induction d with
 |nil=>intro v h;cases h;show .nil|cons a d ih=>intro v h;cases h with|cons h r=>show .cons (m _ _ h) (ih r)
def DG.map(m:∀d v,Rep K cA U H d v->Rep K cA U' H' d v){d:tD}{v:tG}(h:DG K cA U H d v):DG K cA U' H' d v:=by
 induction h with
 |nil=>show .nil|cons a b c _ ih=>show .cons (m _ _ a) b (m _ _ c) ih
def k_.map{a:Addr}{o:SO}(h:k_ K cA U H a o)(e:∀u,H a=some u->H' a=some u)(m:∀d v,Rep K cA U H d v->Rep K cA U' H' d v):k_ K cA U' H' a o:=by
 cases o with
 |lst xs=>let⟨vs,q,r⟩:=h;show⟨vs,e _ q,r.map m⟩|dct xs=>let⟨vs,q,r⟩:=h;show⟨vs,e _ q,r.map m⟩
def bB.mono(x:Ext U H U' H')(hz:∀a∈U.l,U.z a){d:Xv}{v:V}(h:bB K cA U H d v):bB K cA U' H' d v:=by
 cases h with
 |d h=>show .d (h.mono x hz)|l h=>show .l (x.get h)
theorem bx.mono(x:Ext U H U' H')(hz:∀a∈U.l,U.z a)(h:bx K cA U H Z J):bx K cA U' H' Z J:=⟨h.1,λi d e=>let ⟨v,a,b⟩:=h.2 i d e;⟨v,a,b.mono x hz⟩⟩
def aC.len{ds:List D}{vs:List V}(r:aC K cA U H ds vs):ds.length=vs.length:=by
 induction ds generalizing vs with
 |nil=>cases r;rfl|cons a d ih=>cases r with|cons _ r=>rw[eN,eN,ih r]
def cC.len{ds:List Xv}{vs:List V}(r:cC K cA U H ds vs):ds.length=vs.length:=by
 induction r with
 |nil=>rfl|cons _ _ ih=>rw[eN,eN,ih]
def aC.get{ds:List D}{vs:List V}{i:Nat}{d:D}(r:aC K cA U H ds vs)(e:ds[i]?=some d):∃v,vs[i]?=some v/\Rep K cA U H d v:=by
 induction ds generalizing vs i with
 |nil=>cases e|cons a ds ih=>
  cases r with
  |cons h r=>cases i with
   |zero=>cases e;show⟨_,rfl,h⟩|succ i=>let⟨w,p,q⟩:=ih r e;show⟨w,p,q⟩
def cC.get{ds:List Xv}{vs:List V}{i:Nat}{d:Xv}(r:cC K cA U H ds vs)(e:ds[i]?=some d):∃v,vs[i]?=some v/\bB K cA U H d v:=by
 induction r generalizing i with
 |nil=>cases e|cons h _ ih=>cases i with
  |zero=>cases e;show⟨_,rfl,h⟩|succ i=>let⟨w,p,q⟩:=ih e;show⟨w,p,q⟩
theorem aC.none:∀{ds:List D} {vs:List V} {i:Nat},aC K cA U H ds vs->ds[i]?=none->vs[i]?=none:=λ{ds vs i} r e=>by
 let:=r.len;let h2:ds.length<=i:=pA.mp e;show pA.mpr gV
def aC.app{ds es:List D}{vs us:List V}(h:aC K cA U H ds vs)(s:aC K cA U H es us):aC K cA U H (ds++es) (vs++us):=by
 induction ds generalizing vs with
 |nil=>cases h;show s|cons a d ih=>cases h with|cons h r=>show .cons h (ih r)
def aC.take{ds:List D}{vs:List V}(n:Nat)(r:aC K cA U H ds vs):aC K cA U H (ds.take n) (vs.take n):=by
 induction n generalizing ds vs with
 |zero=>show .nil|succ n ih=>cases r with
  |nil=>show .nil|cons h r=>show .cons h (ih r)
def aC.drop{ds:List D}{vs:List V}(n:Nat)(r:aC K cA U H ds vs):aC K cA U H (ds.drop n) (vs.drop n):=by
 induction n generalizing ds vs with
 |zero=>show r|succ n ih=>cases r with
  |nil=>show .nil|cons h r=>show ih r
def aC.set{d:D}{v:V}(h:Rep K cA U H d v){ds:List D}{vs:List V}(i:Nat)(r:aC K cA U H ds vs):aC K cA U H (ds.set i d) (vs.set i v):=by
 induction i generalizing ds vs with
 |zero=>cases r with
  |nil=>show .nil|cons _ r=>show .cons h r
 |succ i ih=>cases r with
  |nil=>show .nil|cons q r=>show .cons q (ih r)
def aC.rev{ds:List D}{vs:List V}(r:aC K cA U H ds vs):aC K cA U H ds.reverse vs.reverse:=by
 induction ds generalizing vs with
 |nil=>cases r;show .nil|cons a ds ih=>cases r with|cons h r=>rw[Nq,Nq];show(ih r).app (.cons h .nil)
def aC.cut{ds:List D}{vs:List V}{l h:Option Int}(r:aC K cA U H ds vs):aC K cA U H (Mi.cut ds l h) (mX vs l h):=by
 unfold Mi.cut mX;rw[<-r.len];show(r.drop _).take _
def bD(H H':Hp):Prop:=∀a o,H a=some o->H' a=some o
theorem bD.refl:bD H H:=λ_ _ h=>h
theorem bD.new{p:Addr}{o:HO}(hp:H p=none):bD H (upd H p o):=λa u h=>by rw[dB (Cp h hp)];show h
theorem bD.ext(g:bD H H'):Ext U H U H':=⟨⟨[],by simp,by simp⟩,λ_ h=>h,λ_ h=>.inl h,λa o h _=>g a o h,λa o h=>⟨o,g a o h⟩⟩
theorem k_.grow{a:Addr}{o:SO}(g:bD H H')(hz:∀a∈U.l,U.z a)(h:k_ K cA U H a o):k_ K cA U H' a o:=h.map (g _) λ_ _ r=>r.mono g.ext hz
theorem aF.grow(g:bD H H')(h:aF K cA U H s):aF K cA U H' s:=
 ⟨h.len,λn o a e1 e2=>(h.obj n o a e1 e2).grow g h.lz,h.uniq,h.lz,λa z=>let ⟨o,e⟩:=h.zt a z;⟨o,g _ _ e⟩⟩
theorem aF.nz(h:aF K cA U H s){p:Addr}(hp:H p=none):¬U.z p:=λz=>by let⟨o,e⟩:=h.zt p z;rw[hp]at e;cases e
def Ph.add(U:Ph)(p:Addr):Ph:=⟨λa=>U.z a\/a=p,U.l++[p]⟩
theorem Ext.add{p:Addr}{o:HO}(hp:H p=none):Ext U H (U.add p) (upd H p o):=
 ⟨⟨[p],rfl,by simpa using hp⟩,λ_ h=>.inl h,λa h=>h.imp id λe=>by rw[e];show hp,λa u h _=>bD.new hp a u h,λa u h=>⟨u,bD.new hp a u h⟩⟩
def aF.UG{p:Addr}{so:SO}{ho:HO}(h:aF K cA U H s)(hp:H p=none)(hr:k_ K cA (U.add p) (upd H p ho) p so):aF K cA (U.add p) (upd H p ho) (s++[so]):=by
 let pn:p∉U.l:=λz=>h.nz hp (h.lz p z);show⟨by change (U.l++[p]).length=_;rw[gP,gP,h.len];rfl,λn o a e1 e2=>?_,?_,λa ha=>?_,λa ha=>?_⟩
 .let e2:(U.l++[p])[n]?=some a:=e2;by_cases hn:n<s.length
  .rw[qL hn]at e1;rw[qL (by rw[h.len];show hn)]at e2;show(h.obj n o a e1 e2).map (bD.new hp _) λ_ _ r=>r.mono (Ext.add hp) h.lz
  .let hl:n=s.length:=by
    let z:=(jr.mp e1).1;rw[gP]at z;simp at z
    lia
   subst hl;rw[pO (bK _)]at e1;rw[pO (by rw[h.len];show bK _)]at e2;simp at e1;simp[h.len]at e2;subst e1 e2;show hr
 .show (U.l++[p]).Nodup;rw[Nr];show⟨h.uniq,by simp,λa ha b hb e=>?_⟩;simp at hb;subst hb e;show pn ha
 .let ha:a∈U.l++[p]:=ha;rcases gA.mp ha with z|z
  .exact .inl (h.lz a z)
  .simp at z;show .inr z
 .rcases ha with z|z
  .obtain⟨o,e⟩:=h.zt a z;show⟨o,bD.new hp _ _ e⟩
  .subst z;show⟨_,iU⟩
theorem aF.add{p:Addr}{xs:List D}{vs:List V}(h:aF K cA U H s)(hp:H p=none)(r:aC K cA U H xs vs):aF K cA (U.add p) (upd H p (.lst vs)) (s++[.lst xs]):=h.UG hp ⟨vs,iU,r.mono (Ext.add hp) h.lz⟩
def Ext.write{n:Nat}{p:Addr}{o:HO}(hp:U.l[n]?=some p)(hv:∃u,H p=some u):Ext U H U (upd H p o):=by
 let hm:p∈U.l:=jL hp;show⟨⟨[],by simp,by simp⟩,λ_ h=>h,λ_ h=>.inl h,λa u h n=>by
  let ne:a≠p:=λe=>n (by rw[e];show hm);rw[dB ne];show h,λa u h=>?_⟩
 by_cases e:a=p
 .subst e;show⟨o,iU⟩
 .exact⟨u,by rw[dB e];show h⟩
def aF.DK{n:Nat}{p:Addr}{so:SO}{ho:HO}(h:aF K cA U H s)(hl:n<s.length)(hp:U.l[n]?=some p)(hr:k_ K cA U (upd H p ho) p so):aF K cA U (upd H p ho) (s.set n so):=by
 let hv:=h.zt p (h.lz p (jL hp));let x:Ext U H U (upd H p ho):=Ext.write hp hv;show⟨by rw[lE];show h.len,λm o a e1 e2=>?_,h.uniq,h.lz,λa ha=>?_⟩
 .by_cases hm:n=m
  .subst hm;rw[wD hl]at e1;cases e1;rw[hp]at e2;cases e2;show hr
  .rw[oE hm]at e1;let ne:a≠p:=λy=>by
    subst y;show hm ((Rw (jr.mp hp).1 h.uniq).mp (hp.trans e2.symm))
   show(h.obj m o a e1 e2).map (λ_ q=>by rw[dB ne];show q) λ_ _ r=>r.mono x h.lz
 .obtain⟨o,e⟩:=h.zt a ha;let⟨o',e'⟩:=x.stay a o e;show⟨o',e'⟩
theorem aF.write{n:Nat}{p:Addr}{xs ys:List D}{us:List V}(h:aF K cA U H s)(hn:s[n]?=some (.lst xs))(hp:U.l[n]?=some p)(r:aC K cA U H ys us):aF K cA U (upd H p (.lst us)) (s.set n (.lst ys)):=
 h.DK (jr.mp hn).1 hp ⟨us,iU,r.mono (Ext.write hp (h.zt p (h.lz p (jL hp)))) h.lz⟩
def bx.set{i:Nat}{d:Xv}{v:V}(hL:bx K cA U H Z J)(r:bB K cA U H d v):bx K cA U H (Z.set i (some v)) (J.set i (some d)):=by
 show⟨by rw[lE,lE];show hL.1,λj e h=>?_⟩;by_cases lW:i=j
 .subst lW;by_cases hl:i<J.length
  .rw[wD hl]at h;cases h;show⟨v,by rw[wD (by rw[hL.1];show hl)],r⟩
  .rw[FZ (by rw[lE];lia)]at h;cases h
 .rw[oE lW]at h;let⟨u,a,b⟩:=hL.2 j e h;show⟨u,by rw[oE lW];show a,b⟩
def bx.unset{i:Nat}(hL:bx K cA U H Z J):bx K cA U H (Z.set i none) (J.set i none):=by
 show⟨by rw[lE,lE];show hL.1,λj e h=>?_⟩;by_cases lW:i=j
 .subst lW;by_cases hl:i<J.length
  .rw[wD hl]at h;cases h
  .rw[FZ (by rw[lE];lia)]at h;cases h
 .rw[oE lW]at h;let⟨u,a,b⟩:=hL.2 j e h;show⟨u,by rw[oE lW];show a,b⟩
def TupAt.iM{a:Addr}{vs:List V}(h:TupAt K U H a vs):fL K H a vs:=by
 rcases h with ⟨h,_⟩|(h|h)
 .exact .inl h
 .rcases h with h|⟨o,h⟩<;>cases h
 .exact .inr h
def LstAt.rD{a:Addr}{vs:List V}(h:LstAt K U H a vs):dF K H a vs:=by
 rcases h with ⟨h,_⟩|(h|h)
 .exact .inl h
 .rcases h with h|⟨o,h⟩<;>cases h
 .exact .inr h
theorem TupAt.new{p:Addr}{vs:List V}(hz:¬U.z p):TupAt K U (upd H p (.tup vs)) p vs:=.inl ⟨.inl iU,hz⟩
theorem LstAt.new{p:Addr}{vs:List V}(hz:¬U.z p):LstAt K U (upd H p (.lst vs)) p vs:=.inl ⟨.inl iU,hz⟩
end
end Mi
namespace Mi
open PySem PySem.Spec PyProof.Rows L2
def un{α β γ:Type}{A B C:α->β->γ->Prop}{R:Prop}(h:∃a b c,A a b c/\B a b c/\C a b c)(f:∀a b c,A a b c->B a b c->C a b c->R):R:=by
 let⟨a,b,c,x,y,z⟩:=h;show f a b c x y z
section
variable (K:W.Frag)(cA:Cl)
def Run{α:Type}(m:M α)(U:Ph)(H:Hp)(s:S)(P:α->S->Ph->Hp->Prop)(Ee:Nat->List D->S->Ph->Hp->Prop):Prop:=
 match m s with
 |some (.ok a,s')=>∀U' H',Ext U H U' H'->aF K cA U' H' s'->P a s' U' H'|some (.er c f,s')=>∀U' H',Ext U H U' H'->aF K cA U' H' s'->Ee c f s' U' H'|none=>False
def lq(U:Ph)(H:Hp)(c:Nat)(fs:List D)(dx:Option Addr):Prop:=
 (cA.f c=[]/\fs=[]/\dx=none)\/∃d vs,dx=some d/\¬U.z d/\H d=some (.xd ((cA.f c).zip vs))/\(cA.f c).length=vs.length/\aC K cA U H fs vs
def eX(EX:XS)(Z:L2.St):Nat->List D->S->Ph->Hp->Prop:=λc fs _ U' H'=>∀dx,lq K cA U' H' c fs dx->EX Z (.ref (cA.a c)) dx H'
def tE(EX:XS)(m:Vs->M Xv):TE:=λZ H Q=>∃U J s,bx K cA U H Z J/\aF K cA U H s/\Run K cA (m J) U H s (λd _ U' H'=>∀v,bB K cA U' H' d v->Q v H') (eX K cA EX Z)
def UJ(EX:XS)(m:Vs->M (List Xv)):TA:=λZ H Q=>∃U J s,bx K cA U H Z J/\aF K cA U H s/\Run K cA (m J) U H s (λd _ U' H'=>∀v,cC K cA U' H' d v->Q v H') (eX K cA EX Z)
def Ao(EX:XS)(m:Vs->M Bool):TT:=λZ H Q=>∃U J s,bx K cA U H Z J/\aF K cA U H s/\Run K cA (m J) U H s (λd _ U' H'=>Q d H') (eX K cA EX Z)
def Rv(U:Ph)(H:Hp)(d:D)(v:V):Prop:=match d with
 |.fl xs=>∃a vs,v=.ref a/\dF K H a vs/\aC K cA U H xs vs|d=>Rep K cA U H d v
inductive yX (U:Ph) (H:Hp):List D->List V->Prop where
 |nil:yX U H [] []
 |cons {d:D} {v:V} {ds:List D} {vs:List V} (h:Rv K cA U H d v) (r:yX U H ds vs):yX U H (d::ds) (v::vs)
def aX(U:Ph)(H:Hp)(o:Option Rz)(Q:VK):Prop:=match o with
 |none=>False|some (.dat d)=>∀H' v,bD H H'->Rep K cA U H' d v->Q v H'|some (.nw xs)=>∀p vs,H p=none->aC K cA U H xs vs->Q (.ref p) (upd H p (.lst vs))
structure Zt(U:Ph)(H:Hp):Prop where
 lz:∀a∈U.l,U.z a
 zt:∀a,U.z a->∃o,H a=some o
def aY(p:Pr)(r:List V->Hp->VK->Prop):Prop:=∀(U:Ph) (H:Hp) (ds:List D) (vs:List V) (Q:VK),Zt U H->yX K cA U H ds vs->aX K cA U H (prim p ds) Q->r vs H Q
end
section
variable {K:W.Frag}{cA:Cl}{U U':Ph}{H H':Hp}{s:S}{Z:L2.St}{J:Vs}{EX:XS}
theorem aF.zs(h:aF K cA U H s):Zt U H:=⟨h.lz,h.zt⟩
theorem Zt.nz(h:Zt U H)(hp:H p=none):¬U.z p:=λz=>by let⟨o,e⟩:=h.zt p z;rw[hp]at e;cases e
def Rep.rv{d:D}{v:V}(h:Rep K cA U H d v):Rv K cA U H d v:=by
 cases h with
 |fl h r=>show⟨_,_,rfl,h.rD,r⟩|non=>show .non|bl b=>show .bl b|int b=>show .int b|str b=>show .str b|tup h r=>show .tup h r|fd h n=>show .fd h n|exc h r=>show .exc h r|ob h r=>show .ob h r|any v=>show .any v
def Run.bd{α β:Type}{m:M α}{k:α->M β}{P:β->S->Ph->Hp->Prop}{Ee:Nat->List D->S->Ph->Hp->Prop}(h:Run K cA (M.bd m k) U H s P Ee):Run K cA m U H s (λa s1 U1 H1=>Ext U H U1 H1/\aF K cA U1 H1 s1/\Run K cA (k a) U1 H1 s1 P Ee) Ee:=by
 unfold Run M.bd at *;cases e:m s with
 |none=>rw[e]at h;show h|some r=>
  let⟨r,s1⟩:=r;rw[e]at h;cases r with
  |er c f=>show h|ok a=>
   intro U1 H1 x1 r1;show⟨x1,r1,?_⟩;dsimp only at h ⊢;cases e2:k a s1 with
   |none=>rw[e2]at h;show h|some q=>
    let⟨q,s2⟩:=q;rw[e2]at h;cases q with
    |ok b=>show λU2 H2 x2 r2=>h U2 H2 (x1.trans x2) r2|er c f=>show λU2 H2 x2 r2=>h U2 H2 (x1.trans x2) r2
def Run.imp{α:Type}{m:M α}{P P':α->S->Ph->Hp->Prop}{Ee:Nat->List D->S->Ph->Hp->Prop}(h:Run K cA m U H s P Ee)(f:∀a s' U' H',P a s' U' H'->P' a s' U' H'):Run K cA m U H s P' Ee:=by
 unfold Run at *;split at h
 .exact λU' H' x r=>f _ _ _ _ (h U' H' x r)
 .exact h
 .exact h
theorem Run.bO{α:Type}{a:α}{P:α->S->Ph->Hp->Prop}{Ee:Nat->List D->S->Ph->Hp->Prop}(r:aF K cA U H s)(h:Run K cA (M.ret a) U H s P Ee):P a s U H:=h U H Ext.refl r
def Run.opt{α:Type}{o:Option α}{P:α->S->Ph->Hp->Prop}{Ee:Nat->List D->S->Ph->Hp->Prop}(r:aF K cA U H s)(h:Run K cA (M.opt o) U H s P Ee):∃a,o=some a/\P a s U H:=by
 cases o with
 |none=>show h.elim|some a=>show⟨a,rfl,h U H Ext.refl r⟩
def O7(h:Run K cA (M.bd (M.opt o) k) U H s P Ee):∃a,o=some a/\Run K cA (k a) U H s P Ee:=by
 cases o with
 |none=>show h.elim|some a=>show⟨a,rfl,h⟩
def DN{β:Type}{x:Xv}{v:V}{k:Bool->M β}{P:β->S->Ph->Hp->Prop}{Ee:Nat->List D->S->Ph->Hp->Prop}(r:bB K cA U H x v)(h:Run K cA (M.bd (bool x) k) U H s P Ee):∃b,x=.d (.bl b)/\v=.bl b/\Run K cA (k b) U H s P Ee:=by
 cases r with
 |l _=>show h.elim|d r=>cases r with
  |bl b=>show⟨b,rfl,rfl,h⟩|_=>show h.elim
def Kg(r:bB K cA U H x v)(h:Run K cA (M.bd (int x) k) U H s P Ee):∃b,x=.d (.int b)/\v=.int b/\Run K cA (k b) U H s P Ee:=by
 cases r with
 |l _=>show h.elim|d r=>cases r with
  |int b=>show⟨b,rfl,rfl,h⟩|_=>show h.elim
def O8(r:bB K cA U H x v)(h:Run K cA (M.bd (dat x) k) U H s P Ee):∃d,x=.d d/\Rep K cA U H d v/\Run K cA (k d) U H s P Ee:=by
 cases r with
 |l _=>show h.elim|d r=>show⟨_,rfl,r,h⟩
def UL:∀{xs:List Xv} {vs:List V} {k:List D->M β} {P:β->S->Ph->Hp->Prop} {Ee:Nat->List D->S->Ph->Hp->Prop},cC K cA U H xs vs->Run K cA (M.bd (fP xs) k) U H s P Ee->∃ds,xs=ds.map .d/\aC K cA U H ds vs/\Run K cA (k ds) U H s P Ee:=by
 intro xs
 induction xs with
 |nil=>intro vs k P Ee r h;cases r;show⟨[],rfl,.nil,h⟩|cons x xs ih=>
  intro vs k P Ee r h;cases r with
  |cons a r=>
   cases a with
   |l _=>show h.elim|@d y v a=>
    let h2:Run K cA (M.bd (fP xs) λds=>k (y::ds)) U H s P Ee:=by
     unfold Run M.bd fP dat at h;unfold Run M.bd;simp only[M.bd,M.ret]at h;cases e:fP xs s with
     |none=>simp only[e]at h|some q=>
      let⟨q,s1⟩:=q;simp only[e]at h;cases q with
      |ok ds=>show h|er c f=>show h
    let⟨ds,e,rs,h3⟩:=ih r h2;show⟨y::ds,by rw[e];rfl,.cons a rs,h3⟩
def O9(hS:aF K cA U H s)(r:bB K cA U H x v)(h:Run K cA (M.bd (rd x) k) U H s P Ee):∃d,Rv K cA U H d v/\Run K cA (k d) U H s P Ee:=by
 cases r with
 |d r=>show⟨_,r.rv,h⟩|@l n a hl=>
  unfold Run M.bd rd at h;dsimp only at h;cases e:s[n]? with
  |none=>rw[e]at h;show h.elim|some o=>
   rw[e]at h;cases o with
   |lst xs=>
    let⟨vs,q1,q2⟩:=hS.obj n _ _ e hl;show⟨.fl xs,⟨a,vs,rfl,dF.of q1,q2⟩,h⟩
   |_=>show h.elim
def iD{α β γ:Type}(m:M α)(f:α->M β)(g:β->M γ):M.bd (M.bd m f) g=M.bd m λx=>M.bd (f x) g:=by
 funext s
 unfold M.bd;cases m s with
 |none=>rfl|some r=>
  let⟨r,s1⟩:=r;cases r<;>rfl
def nU{β:Type}:∀{xs:List Xv} {vs:List V} {k:List D->M β} {P:β->S->Ph->Hp->Prop} {Ee:Nat->List D->S->Ph->Hp->Prop},aF K cA U H s->cC K cA U H xs vs->Run K cA (M.bd (dH xs) k) U H s P Ee->∃ds,yX K cA U H ds vs/\Run K cA (k ds) U H s P Ee:=by
 intro xs
 induction xs with
 |nil=>intro vs k P Ee hS r h;cases r;show⟨[],.nil,h⟩|cons x xs ih=>
  intro vs k P Ee hS r h;cases r with
  |cons a r=>
   let h2:Run K cA (M.bd (rd x) λd=>M.bd (dH xs) λds=>k (d::ds)) U H s P Ee:=by
    let e:M.bd (dH (x::xs)) k=M.bd (rd x) λd=>M.bd (dH xs) λds=>k (d::ds):=by
     change M.bd (M.bd (rd x) λd=>M.bd (dH xs) λds=>M.ret (d::ds)) k=_;rw[iD]
     congr 1
     funext d
     rw[iD];rfl
    rw[e]at h;show h
   let⟨d,rd,h3⟩:=O9 hS a h2;let⟨ds,rs,h4⟩:=ih hS r h3;show⟨d::ds,.cons rd rs,h4⟩
def nW{fz:Bool}{o:Option Rz}{Q:VK}{Ee:Nat->List D->S->Ph->Hp->Prop}(hS:aF K cA U H s)(h:Run K cA (bw fz o) U H s (λx _ U' H'=>∀v,bB K cA U' H' x v->Q v H') Ee):aX K cA U H o Q:=by
 cases o with
 |none=>show h.elim|some z=>
  cases z with
  |dat d=>show λH' v g r=>h U H' g.ext (hS.grow g) v (.d r)|nw xs=>
   intro p vs hp r;cases fz with
   |true=>show h U _ (bD.new hp).ext (hS.grow (bD.new hp)) _ (.d (.fl (LstAt.new (hS.nz hp)) (r.mono (bD.new hp).ext hS.lz)))|false=>show h (U.add p) _ (Ext.add hp) (hS.add hp r) _ (.l (by change (U.l++[p])[s.length]?=_;rw[<-hS.len];simp))
theorem zih{fz:Bool}{xs:List D}{Q:VK}{Ee:Nat->List D->S->Ph->Hp->Prop}(hS:aF K cA U H s)(h:Run K cA (newL fz xs) U H s (λx _ U' H'=>∀v,bB K cA U' H' x v->Q v H') Ee):∀p vs,H p=none->aC K cA U H xs vs->Q (.ref p) (upd H p (.lst vs)):=
 nW (o:=some (.nw xs)) hS h
theorem aZ{β:Type}{ma:Vs->M Xv}{k:Xv->M β}{P:β->S->Ph->Hp->Prop}(hL:bx K cA U H Z J)(hS:aF K cA U H s)(h:Run K cA (M.bd (ma J) k) U H s P (eX K cA EX Z)){Q:VK}
  (f:∀x H1 U1 d s1,Ext U H U1 H1->bx K cA U1 H1 Z J->aF K cA U1 H1 s1->bB K cA U1 H1 d x->Run K cA (k d) U1 H1 s1 P (eX K cA EX Z)->Q x H1):tE K cA EX ma Z H Q:=
 ⟨U,J,s,hL,hS,h.bd.imp λd s1 U1 H1 ⟨x1,r1,h1⟩ v rv=>f v H1 U1 d s1 x1 (hL.mono x1 hS.lz) r1 rv h1⟩
theorem tH{β:Type}{ma:Vs->M (List Xv)}{k:List Xv->M β}{P:β->S->Ph->Hp->Prop}(hL:bx K cA U H Z J)(hS:aF K cA U H s)(h:Run K cA (M.bd (ma J) k) U H s P (eX K cA EX Z)){Q:List V->Hp->Prop}
  (f:∀x H1 U1 d s1,Ext U H U1 H1->bx K cA U1 H1 Z J->aF K cA U1 H1 s1->cC K cA U1 H1 d x->Run K cA (k d) U1 H1 s1 P (eX K cA EX Z)->Q x H1):UJ K cA EX ma Z H Q:=
 ⟨U,J,s,hL,hS,h.bd.imp λd s1 U1 H1 ⟨x1,r1,h1⟩ v rv=>f v H1 U1 d s1 x1 (hL.mono x1 hS.lz) r1 rv h1⟩
theorem yZ(hL:bx K cA U H Z J)(hS:aF K cA U H s)(h:Run K cA (M.bd (ma J) k) U H s P (eX K cA EX Z))
  (f:∀b H1 U1 s1,Ext U H U1 H1->bx K cA U1 H1 Z J->aF K cA U1 H1 s1->Run K cA (k b) U1 H1 s1 P (eX K cA EX Z)->Q b H1):Ao K cA EX ma Z H Q:=
 ⟨U,J,s,hL,hS,h.bd.imp λd s1 U1 H1 ⟨x1,r1,h1⟩=>f d H1 U1 s1 x1 (hL.mono x1 hS.lz) r1 h1⟩
end
section
variable (X:Cx)(cA:Cl)(ao:Nat->Nat->Bool)(aj:Bool)(F:Fn)(EX:XS)
def SE(e:Expr)(m:E):Prop:=PE X e (tE X.K cA EX (ev ao aj F m))
def SA(es:List Expr)(m:Es):Prop:=PA X es (UJ X.K cA EX (evs ao aj F m))
def ST(e:Expr)(m:E):Prop:=PT X e (Ao X.K cA EX (λJ=>M.bd (ev ao aj F m J) bool))
def SW(e:Expr)(m:E):Prop:=PW X e (Ao X.K cA EX (λJ=>M.bd (ev ao aj F m J) bool))
end
section
variable {X:Cx}{cA:Cl}{ao:Nat->Nat->Bool}{aj:Bool}{F:Fn}{EX:XS}{a b c d e:Expr}{A B C Dd E':E}{pos:Pos}{es:List Expr}{Xs:Es}{fz:Bool}{p:Pr}
theorem PE.weak{t t':TE}(h:PE X e t)(f:∀Z H Q,t' Z H Q->t Z H Q):PE X e t':=λak s Z H Q I q=>h ak s Z H Q I (f Z H Q q)
theorem PT.weak{t t':TT}(h:PT X e t)(f:∀Z H Q,t' Z H Q->t Z H Q):PT X e t':=λak s Z H Q I q=>h ak s Z H Q I (f Z H Q q)
theorem PW.weak{t t':TT}(h:PW X e t)(f:∀Z H Q,t' Z H Q->t Z H Q):PW X e t':=λwh ak s Z H Q I q=>h wh ak s Z H Q I (f Z H Q q)
theorem PA.weak{t t':TA}(h:PA X es t)(f:∀Z H Q,t' Z H Q->t Z H Q):PA X es t':=λp ak s Z H Q I q=>h p ak s Z H Q I (f Z H Q q)
theorem zls{i j p}:SE X cA ao aj F EX (.Constant (.int i) j p) (.c (.int i)):=PE.weak RN λZ H Q hh=>un hh λU J s hL hS h=>h.bO hS _ (.d (.int i))
theorem zoE{i j p}:SE X cA ao aj F EX (.Constant (.bool i) j p) (.c (.bl i)):=PE.weak zoK λZ H Q hh=>un hh λU J s hL hS h=>h.bO hS _ (.d (.bl i))
theorem zl7{j p}:SE X cA ao aj F EX (.Constant .none j p) (.c .non):=PE.weak zl6 λZ H Q hh=>un hh λU J s hL hS h=>h.bO hS _ (.d .non)
theorem zlD{i j p}:SE X cA ao aj F EX (.Constant (.str i) j p) (.c (.str i)):=PE.weak Ob λZ H Q hh=>un hh λU J s hL hS h=>h.bO hS _ (.d (.str i))
def UW{α:Type}{o:Option (Option α)}{x:α}(h:o.join=some x):o=some (some x):=by
 cases o with
 |none=>cases h|some y=>cases y with
  |none=>cases h|some z=>cases h;rfl
theorem zpr(i:Nat){x:Str}(hN:X.N[i]?=some x:=by rfl)(hv:RD X.env.scope x:=by first|exact Or.inl rfl|exact Or.inr (Or.inl rfl)|exact Or.inr (Or.inr rfl))(hd:(x==("__debug__" : Str))=false:=by decide)
  (nP:(x==("__classdict__" : Str))=false:=by decide):SE X cA ao aj F EX (.Name x pos) (.v i):=PE.weak (Y4 hN hv hd nP) λZ H Q hh=>un hh λU J s hL hS h=>by
 let⟨dd,e1,q⟩:=Run.opt hS h;let⟨v,q1,q2⟩:=hL.2 i dd (UW e1);show⟨v,q1,q v q2⟩
theorem zkM{x:Str}{i:Int}{t:Tok}(hg:Gl X x)(hm:X.mg x=some (.int i t))(hd:(x==("__debug__" : Str))=false:=by decide):SE X cA ao aj F EX (.Name x pos) (.c (.int i)):=PE.weak (Y5 (v:=.int i) hg hm ⟨t,rfl⟩ hd) λZ H Q hh=>un hh λU J s hL hS h=>h.bO hS _ (.d (.int i))
theorem znD:SA X cA ao aj F EX [] .nil:=PA.weak wK λZ H Q hh=>un hh λU J s hL hS h=>h.bO hS _ .nil
theorem zkv(ha:SE X cA ao aj F EX a A)(hr:SA X cA ao aj F EX es Xs)(hs:starEach (a::es) X.env=(false,eval a X.env)::starEach es X.env:=by rfl):SA X cA ao aj F EX (a::es) (.cons A Xs):=PA.weak (pY ha hr hs) λZ H Q hh=>un hh λU J s hL hS h=>by
 show aZ hL hS h λx H1 U1 d1 s1 x1 hL1 aG r1 h1=>tH hL1 aG h1 λys H2 U2 d2 s2 x2 hL2 aP r2 h2=>h2.bO aP _ (.cons (r1.mono x2 aG.lz) r2)
def Kh{U U1 U2:Ph}{H1 H2:Hp}{s1 s2:S}{d1 d2:Xv}{x y:V}{Q:VK}{Ee:Nat->List D->S->Ph->Hp->Prop}(x2:Ext U1 H1 U2 H2)(aG:aF X.K cA U1 H1 s1)(aP:aF X.K cA U2 H2 s2)(r1:bB X.K cA U1 H1 d1 x)(r2:bB X.K cA U2 H2 d2 y)
  (h:Run X.K cA (M.bd (dH [d1,d2]) λds=>bw fz (prim p ds)) U2 H2 s2 (λx _ U' H'=>∀v,bB X.K cA U' H' x v->Q v H') Ee) {r:List V->Hp->VK->Prop} (hp:aY X.K cA p r):r [x,y] H2 Q:=by
 let⟨ds,rs,h2⟩:=nU aP (.cons (r1.mono x2 aG.lz) (.cons r2 .nil)) h;show hp U2 H2 ds _ Q aP.zs rs (nW aP h2)
def r2(r:R2):List V->Hp->VK->Prop:=λvs H Q=>∃x y,vs=[x,y]/\r x y H Q
def uz{r:R2}{x y:V}{H:Hp}{Q:VK}(h:r2 r [x,y] H Q):r x y H Q:=by
 let⟨_,_,e,q⟩:=h;cases e;show q
theorem zn1{op:Operator}{r:R2}(ho:dj X (binaryOp op) r)(hp:aY X.K cA p (r2 r))(ha:SE X cA ao aj F EX a A)(hb:SE X cA ao aj F EX b B):SE X cA ao aj F EX (.BinOp a op b pos) (.pr fz p (.cons A (.cons B .nil))):=PE.weak (zou ho ha hb) λZ H Q hh=>un hh λU J s hL hS h=>by
 let h:Run X.K cA (M.bd (M.bd (ev ao aj F A J) λx=>M.bd (M.bd (ev ao aj F B J) λy=>M.bd (M.ret []) λz=>M.ret (y::z)) λys=>M.ret (x::ys)) λvs=>M.bd (dH vs) λds=>bw fz (prim p ds)) U H s _ _:=h;simp only[iD]at h;show aZ hL hS h λx H1 U1 d1 s1 x1 hL1 aG r1 h1=>aZ hL1 aG h1 λy H2 U2 d2 s2 x2 hL2 aP r2' h2=>?_;show uz (Kh (fz:=fz) (U:=U) x2 aG aP r1 r2' h2 hp)
theorem znH{op:CmpOp}{r:R2}(ho:dj X (compareOp op) r)(hp:aY X.K cA p (r2 r))(ha:SE X cA ao aj F EX a A)(hb:SE X cA ao aj F EX b B)(hm:behindInMarks op b=false):SE X cA ao aj F EX (.Compare a [op] [b] pos) (.pr true p (.cons A (.cons B .nil))):=PE.weak (zkD ho ha hb hm) λZ H Q hh=>un hh λU J s hL hS h=>by
 let h:Run X.K cA (M.bd (M.bd (ev ao aj F A J) λx=>M.bd (M.bd (ev ao aj F B J) λy=>M.bd (M.ret []) λz=>M.ret (y::z)) λys=>M.ret (x::ys)) λvs=>M.bd (dH vs) λds=>bw true (prim p ds)) U H s _ _:=h;simp only[iD]at h;show aZ hL hS h λx H1 U1 d1 s1 x1 hL1 aG r1 h1=>aZ hL1 aG h1 λy H2 U2 d2 s2 x2 hL2 aP r2' h2=>?_;show uz (Kh (fz:=true) (U:=U) x2 aG aP r1 r2' h2 hp)
def iT{A B:Prop}(h:A):if true=true then A else B:=by rw[if_pos rfl];show h
def iF{A B:Prop}(h:B):if false=true then A else B:=by rw[if_neg Rr];show h
theorem zmF{op:CmpOp}{r:R2}(ho:dj X (compareOp op) r)(hp:aY X.K cA p (r2 r))(ha:SE X cA ao aj F EX a A)(hb:SE X cA ao aj F EX b B)(hm:behindInMarks op b=false):ST X cA ao aj F EX (.Compare a [op] [b] pos) (.pr true p (.cons A (.cons B .nil))):=PT.weak (zkk ho ha hb hm) λZ H Q hh=>un hh λU J s hL hS h=>by
 let h:Run X.K cA (M.bd (M.bd (M.bd (ev ao aj F A J) λx=>M.bd (M.bd (ev ao aj F B J) λy=>M.bd (M.ret []) λz=>M.ret (y::z)) λys=>M.ret (x::ys)) λvs=>M.bd (dH vs) λds=>bw true (prim p ds)) bool) U H s _ _:=h;simp only[iD]at h;show aZ hL hS h λx H1 U1 d1 s1 x1 hL1 aG r1 h1=>aZ hL1 aG h1 λy H2 U2 d2 s2 x2 hL2 aP r2' h2=>?_;let⟨ds,rs,h3⟩:=nU aP (.cons (r1.mono x2 aG.lz) (.cons r2' .nil)) h2;show uz (hp U2 H2 ds _ _ aP.zs rs (nW (Ee:=eX X.K cA EX Z) aP (h3.bd.imp λt s3 U3 H3 ⟨x3,iQ,h4⟩ v rv=>?_)));cases rv with
 |l _=>show h4.elim|d rv=>cases rv with
  |bl k=>show⟨k,rfl,h4 U3 H3 Ext.refl iQ⟩|_=>show h4.elim
theorem zlK{op op':CmpOp}{r r':R2}{q:Pr}(ho:dj X (compareOp op) r)(hp:aY X.K cA p (r2 r))(kI:dj X (compareOp op') r')(hp':aY X.K cA q (r2 r'))(ha:SE X cA ao aj F EX a A)(hb:SE X cA ao aj F EX b B)(hc:SE X cA ao aj F EX c C)(hm:lastMarks [op,op'] [b,c]=false:=by with_unfolding_all rfl) :
  SE X cA ao aj F EX (.Compare a [op,op'] [b,c] pos) (.ux p q A B C):=PE.weak (zh5 ho kI ha hb hc hm) λZ H Q hh=>un hh λU J s hL hS h=>by
 show aZ hL hS h λx H1 U1 d1 s1 x1 hL1 aG r1 h1=>aZ hL1 aG h1 λy H2 U2 d2 s2 x2 hL2 aP r2' h2=>?_;let⟨ds,rs,h3⟩:=nU aP (.cons (r1.mono x2 aG.lz) (.cons r2' .nil)) h2;show uz (hp U2 H2 ds _ _ aP.zs rs (nW (Ee:=eX X.K cA EX Z) aP (h3.bd.imp λt s3 U3 H3 ⟨x3,iQ,h4⟩ v rv=>?_)));let⟨k,_,e,h5⟩:=DN rv h4;show⟨k,e,?_⟩;cases k with
 |false=>show iF (h5.bO iQ _ (.d (.bl _)))|true=>
  let rE:=hL2.mono x3 aP.lz;show iT (aZ rE iQ h5 λz H4 U4 d4 s4 x4 Kl jV r4 h6=>?_);show uz (Kh (fz:=true) (U:=U) x4 iQ jV (r2'.mono x3 aP.lz) r4 h6 hp')
theorem znj(ha:SE X cA ao aj F EX a A):SE X cA ao aj F EX (.UnaryOp .Not a pos) (.not A):=PE.weak (zmf ha) λZ H Q hh=>un hh λU J s hL hS h=>by
 show aZ hL hS h λx H1 U1 d1 s1 x1 hL1 aG r1 h1=>?_;let⟨i,_,e,h3⟩:=DN r1 h1;show⟨i,e,h3.bO aG _ (.d (.bl _))⟩
theorem znO{op}(ha:SE X cA ao aj F EX a A):SE X cA ao aj F EX (.BoolOp op [a] pos) A:=znK ha
theorem znU{rest:List Expr}(ha:SE X cA ao aj F EX a A)(hb:SE X cA ao aj F EX (.BoolOp .And (b::rest) pos) B):SE X cA ao aj F EX (.BoolOp .And (a::b::rest) pos) (.and A B):=PE.weak (zna ha hb) λZ H Q hh=>un hh λU J s hL hS h=>by
 show aZ hL hS h λx H1 U1 d1 s1 x1 hL1 aG r1 h1=>?_;let⟨i,_,e,h3⟩:=DN r1 h1;show⟨i,e,?_⟩;cases i with
 |true=>show iT ⟨U1,J,s1,hL1,aG,h3⟩|false=>show iF (h3.bO aG _ (.d (.bl _)))
end
section
variable {X:Cx}{cA:Cl}{ao:Nat->Nat->Bool}{aj:Bool}{F:Fn}{EX:XS}{a b c d e o:Expr}{A B C Dd E' O:E}{pos pp p2 apos:Pos}{es:List Expr}{Xs:Es}{fz:Bool}{p:Pr}{x:Str}
theorem zmV(ha:SE X cA ao aj F EX a A)(he:∀whole,isTrue a X.env whole=(do let v <-whole;standAt a.pos;holding [v] (truthy v)):=by intro _;rfl):ST X cA ao aj F EX a A:=PT.weak (znu ha he) λZ H Q hh=>un hh λU J s hL hS h=>by
 show aZ hL hS h λx H1 U1 d1 s1 x1 hL1 aG r1 h1=>?_;let h1:Run X.K cA (M.bd (bool d1) M.ret) U1 H1 s1 (λd _ U' H'=>Q d H') (eX X.K cA EX Z):=by
  cases d1 with
  |l n=>show h1|d v=>cases v<;>show h1
 let⟨k,_,e,q⟩:=DN r1 h1;show⟨k,e,q.bO aG⟩
def ziN{m:M Xv}{g:Bool->Bool}:M.bd (M.bd m λx=>M.bd (bool x) λk=>M.ret (Xv.d (.bl (g k)))) bool=M.bd (M.bd m bool) λk=>M.ret (g k):=by
 rw[iD,iD]
 congr 1
 funext x
 rw[iD];rfl
theorem zn0(ha:ST X cA ao aj F EX a A):ST X cA ao aj F EX (.UnaryOp .Not a pos) (.not A):=PT.weak (zmY ha) λZ H Q hh=>un hh λU J s hL hS h=>by
 let h:Run X.K cA (M.bd (M.bd (ev ao aj F A J) λx=>M.bd (bool x) λk=>M.ret (Xv.d (.bl (!k)))) bool) U H s _ _:=h;rw[ziN (g:=λk=>!k)]at h;show yZ hL hS h λk H1 U1 s1 x1 hL1 aG h1=>h1.bO aG
theorem zj9(ha:ST X cA ao aj F EX a A):SW X cA ao aj F EX (.BoolOp .And [a] pos) A:=zk0 ha
theorem zm4(ha:ST X cA ao aj F EX a A):SW X cA ao aj F EX (.BoolOp .Or [a] pos) A:=zl5 ha
def zhG{m:M Xv}{k:Bool->M Xv}:M.bd (M.bd m λx=>M.bd (bool x) k) bool=M.bd (M.bd m bool) λb=>M.bd (k b) bool:=by
 rw[iD,iD]
 congr 1
 funext x
 rw[iD]
theorem znm{rest:List Expr}(ha:ST X cA ao aj F EX a A)(hb:SW X cA ao aj F EX (.BoolOp .And (b::rest) pos) B):SW X cA ao aj F EX (.BoolOp .And (a::b::rest) pos) (.and A B):=PW.weak (zmr ha hb) λZ H Q hh=>un hh λU J s hL hS h=>by
 let h:Run X.K cA (M.bd (M.bd (ev ao aj F A J) λx=>M.bd (bool x) λk=>if k=true then ev ao aj F B J else M.ret (Xv.d (.bl false))) bool) U H s _ _:=h;rw[zhG]at h;show yZ hL hS h λk H1 U1 s1 x1 hL1 aG h3=>?_;cases k with
 |true=>show iT ⟨U1,J,s1,hL1,aG,h3⟩|false=>show iF (Run.bO aG (a:=false) h3)
theorem zo6{rest:List Expr}(ha:ST X cA ao aj F EX a A)(hb:SW X cA ao aj F EX (.BoolOp .Or (b::rest) pos) B):SW X cA ao aj F EX (.BoolOp .Or (a::b::rest) pos) (.or A B):=PW.weak (zo4 ha hb) λZ H Q hh=>un hh λU J s hL hS h=>by
 let h:Run X.K cA (M.bd (M.bd (ev ao aj F A J) λx=>M.bd (bool x) λk=>if k=true then M.ret (Xv.d (.bl true)) else ev ao aj F B J) bool) U H s _ _:=h;rw[zhG]at h;show yZ hL hS h λk H1 U1 s1 x1 hL1 aG h3=>?_;cases k with
 |true=>show iT (Run.bO aG (a:=true) h3)|false=>show iF ⟨U1,J,s1,hL1,aG,h3⟩
theorem zpA(h:SW X cA ao aj F EX a A):ST X cA ao aj F EX a A:=Kab h
def zjP:(M.bd m λx=>M.bd (bool x) k)=M.bd (M.bd m bool) k:=by rw[iD]
theorem zmI(hc:ST X cA ao aj F EX c C)(ha:SE X cA ao aj F EX a A)(hb:SE X cA ao aj F EX b B):SE X cA ao aj F EX (.IfExp c a b pos) (.ite C A B):=PE.weak (ziM hc ha hb) λZ H Q hh=>un hh λU J s hL hS h=>by
 let h:Run X.K cA (M.bd (ev ao aj F C J) λx=>M.bd (bool x) λk=>if k=true then ev ao aj F A J else ev ao aj F B J) U H s _ _:=h;rw[zjP]at h;show yZ hL hS h λk H1 U1 s1 x1 hL1 aG h3=>?_;cases k with
 |true=>show iT ⟨U1,J,s1,hL1,aG,h3⟩|false=>show iF ⟨U1,J,s1,hL1,aG,h3⟩
theorem zgm:∀(Xs:Es) (J:Vs) (s:S) (ds:List Xv) (s':S),evs ao aj F Xs J s=some (.ok ds,s')->ds.length=Es.len Xs
 |.nil,J,s,ds,s',h=>by cases h;rfl|.cons a r,J,s,ds,s',h=>by
  let h:M.bd (ev ao aj F a J) (λx=>M.bd (evs ao aj F r J) λxs=>M.ret (x::xs)) s=some (.ok ds,s'):=h;unfold M.bd at h;cases e1:ev ao aj F a J s with
  |none=>rw[e1]at h;cases h|some q=>
   let⟨q,s1⟩:=q;rw[e1]at h;cases q with
   |er c f=>cases h|ok d=>
    dsimp only at h;cases e2:evs ao aj F r J s1 with
    |none=>rw[e2]at h;cases h|some q=>
     let⟨q,s2⟩:=q;rw[e2]at h;cases q with
     |er c f=>cases h|ok ds'=>
      cases h;rw[eN,zgm r J s1 ds' _ e2];rfl
def DP{β:Type}{K:W.Frag}{U:Ph}{H:Hp}{s:S}{Z:L2.St}{J:Vs}{k:List Xv->M β}{P:β->S->Ph->Hp->Prop}(hL:bx K cA U H Z J)(hS:aF K cA U H s)(h:Run K cA (M.bd (evs ao aj F Xs J) k) U H s P (eX K cA EX Z)){Q:List V->Hp->Prop}
  (f:∀x H1 U1 d s1,d.length=Es.len Xs->Ext U H U1 H1->bx K cA U1 H1 Z J->aF K cA U1 H1 s1->cC K cA U1 H1 d x->Run K cA (k d) U1 H1 s1 P (eX K cA EX Z)->Q x H1):UJ K cA EX (evs ao aj F Xs) Z H Q:=by
 show⟨U,J,s,hL,hS,?_⟩;let h2:=h.bd;unfold Run at h2 ⊢;cases e:evs ao aj F Xs J s with
 |none=>rw[e]at h2;show h2|some r=>
  let⟨r,s1⟩:=r;rw[e]at h2;cases r with
  |er c f=>show h2|ok ds=>
   intro U1 H1 x1 r1 v rv;let⟨_,_,h3⟩:=h2 U1 H1 x1 r1;show f v H1 U1 ds s1 (zgm Xs J s ds s1 e) x1 (hL.mono x1 hS.lz) r1 rv h3
theorem zmU{k}(ha:SA X cA ao aj F EX es Xs)(hz:Es.len Xs<=sizeLine):SE X cA ao aj F EX (.Tuple es k pos) (.tup Xs):=PE.weak (Za ha) λZ H Q hh=>un hh λU J s hL hS h=>by
 show DP hL hS h λvs H1 U1 xs s1 hl x1 hL1 aG rv h1=>?_;let⟨ds,e,rs,h2⟩:=UL rv h1;show⟨by rw[<-rv.len,hl];show hz,λp hp=>?_⟩;show h2 U1 (upd H1 p (.tup vs)) (bD.new hp).ext (aG.grow (bD.new hp)) _ (.d (.tup (TupAt.new (aG.nz hp)) (rs.mono (bD.new hp).ext aG.lz)))
theorem zmL(ha:SA X cA ao aj F EX es Xs)(hz:Es.len Xs<=sizeLine):SE X cA ao aj F EX (.List es pos) (.lst fz Xs):=PE.weak (zlO ha) λZ H Q hh=>un hh λU J s hL hS h=>by
 show DP hL hS h λvs H1 U1 xs s1 hl x1 hL1 aG rv h1=>?_;let⟨ds,e,rs,h2⟩:=UL rv h1;show⟨by rw[<-rv.len,hl];show hz,λp hp=>zih aG h2 p vs hp rs⟩
theorem Km{id:String}{r:List V->Hp->VK->Prop}(hc:dG X (.builtin id) r)(hp:aY X.K cA p r)
  (hg:Gl X x) (hm:X.mg x=none) (hv:bootBuiltins x=some (.builtin id)) (ha:SA X cA ao aj F EX (e::es) Xs) (hn:x≠"__name__":=by decide) (mW:(x==("__debug__" : Str))=false:=by decide)
  (he:starEach (e::es) X.env=(false,eval e X.env)::starEach es X.env:=by rfl) (hpl:(backTo pos (starEach es X.env)).any (·.1)=false:=by rfl):SE X cA ao aj F EX (.Call (.Name x pp) (e::es) [] pos) (.pr fz p Xs):=PE.weak (Zi hc hg hm hv ha hn mW he hpl) λZ H Q hh=>un hh λU J s hL hS h=>
 tH hL hS h λvs H1 U1 ds s1 x1 hL1 aG r1 h1=>by
  let⟨ds,rs,h3⟩:=nU aG r1 h1;show hp U1 H1 ds _ _ aG.zs rs (nW aG h3)
theorem Ko{id:String}{r:List V->Hp->VK->Prop}(hc:dG X (.type id) r)(hp:aY X.K cA p r)
  (hg:Gl X x) (hm:X.mg x=none) (hv:bootBuiltins x=some (.type id)) (ha:SA X cA ao aj F EX (e::es) Xs) (hn:x≠"__name__":=by decide) (mW:(x==("__debug__" : Str))=false:=by decide)
  (he:starEach (e::es) X.env=(false,eval e X.env)::starEach es X.env:=by rfl) (hpl:(backTo pos (starEach es X.env)).any (·.1)=false:=by rfl):SE X cA ao aj F EX (.Call (.Name x pp) (e::es) [] pos) (.pr fz p Xs):=PE.weak (Zj hc hg hm hv ha hn mW he hpl) λZ H Q hh=>un hh λU J s hL hS h=>
 tH hL hS h λvs H1 U1 ds s1 x1 hL1 aG r1 h1=>by
  let⟨ds,rs,h3⟩:=nU aG r1 h1;show hp U1 H1 ds _ _ aG.zs rs (nW aG h3)
theorem zoJ(hp:aY X.K cA p (r2 (Sw X.K)))(ha:SE X cA ao aj F EX a A)(hb:SE X cA ao aj F EX b B)(hs:qX b:=by intro _ _;rfl):SE X cA ao aj F EX (.Subscript a b pos) (.pr true p (.cons A (.cons B .nil))):=PE.weak (Zr zm9 ha hb hs) λZ H Q hh=>un hh λU J s hL hS h=>by
 let h:Run X.K cA (M.bd (M.bd (ev ao aj F A J) λx=>M.bd (M.bd (ev ao aj F B J) λy=>M.bd (M.ret []) λz=>M.ret (y::z)) λys=>M.ret (x::ys)) λvs=>M.bd (dH vs) λds=>bw true (prim p ds)) U H s _ _:=h;simp only[iD]at h;show aZ hL hS h λx H1 U1 d1 s1 x1 hL1 aG r1 h1=>aZ hL1 aG h1 λy H2 U2 d2 s2 x2 hL2 aP r2' h2=>?_;show uz (Kh (fz:=true) (U:=U) x2 aG aP r1 r2' h2 hp)
theorem zo8(ho:Ol X (unaryOp op) r)(hp:aY X.K cA p (λvs H Q=>∃x,vs=[x]/\r x H Q))(ha:SE X cA ao aj F EX a A):SE X cA ao aj F EX (.UnaryOp op a pos) (.pr true p (.cons A .nil)):=PE.weak (Y9 ho ha) λZ H Q hh=>un hh λU J s hL hS h=>by
 let h:Run X.K cA (M.bd (M.bd (ev ao aj F A J) λx=>M.bd (M.ret []) λz=>M.ret (x::z)) λvs=>M.bd (dH vs) λds=>bw true (prim p ds)) U H s _ _:=h;simp only[iD]at h;show aZ hL hS h λx H1 U1 d1 s1 x1 hL1 aG r1 h1=>?_;let⟨ds,rs,h3⟩:=nU aG (.cons r1 .nil) h1;let⟨_,e,q⟩:=hp U1 H1 ds _ _ aG.zs rs (nW aG h3);cases e;show q
theorem ziF(q:Pr)(hq:prim q=J5 f)(hh:Ao X.K cA EX (λJ=>M.bd (ev ao aj F (.pr true q (.cons A .nil)) J) bool) Z H Q):tE X.K cA EX (ev ao aj F A) Z H λx H1=>Q (f (decide (x=.non))) H1:=un hh λU J s hL hS h=>by
 let h:Run X.K cA (M.bd (M.bd (M.bd (ev ao aj F A J) λx=>M.bd (M.ret []) λz=>M.ret (x::z)) λvs=>M.bd (dH vs) λds=>bw true (prim q ds)) bool) U H s _ _:=h;simp only[iD]at h;show aZ hL hS h λx H1 U1 d1 s1 x1 hL1 aG r1 h1=>?_;let⟨ds,rs,h3⟩:=nU aG (.cons r1 .nil) h1;cases rs with
 |cons r rs=>cases rs with
  |nil=>
   rename_i d;rw[hq]at h3;let h4:Run X.K cA (M.bd (M.ret (Xv.d (.bl (f d.Ak)))) bool) U1 H1 s1 (λd _ U' H'=>Q d H') (eX X.K cA EX Z):=h3;let q:=h4 U1 H1 Ext.refl aG;cases d<;>first
    |(let⟨_,_,rfl,_,_⟩:=r;show q)
    |(cases (show Rep _ _ _ _ _ x from r)<;>show q)
theorem zl2{j p'}(ha:SE X cA ao aj F EX a A):ST X cA ao aj F EX (.Compare a [.Is] [.Constant .none j p'] pos) (.pr true .JM (.cons A .nil)):=PT.weak (zl1 (zm0 ha)) λZ H Q hh=>by
 let:=ziF .JM (f:=id) rfl hh;let⟨U,J,s,a,b,c⟩:=this;show⟨U,J,s,a,b,c.imp λd s' U' H' k v rv=>⟨_,rfl,k v rv⟩⟩
def zfh{K:W.Frag}{U:Ph}{H:Hp}{s:S}{x:Xv}{v:V}{Q:Bool->Hp->Prop}{Ee:Nat->List D->S->Ph->Hp->Prop}(hS:aF K cA U H s)(r:bB K cA U H x v)(h:Run K cA (bool x) U H s (λd _ U' H'=>Q d H') Ee):∃k,v=.bl k/\Q k H:=by
 cases r with
 |l _=>show h.elim|d rv=>cases rv with
  |bl k=>show⟨k,rfl,h U H Ext.refl hS⟩|_=>show h.elim
theorem U8{b:Bool}{K:W.Frag}{U:Ph}{H:Hp}{s:S}{Q:Bool->Hp->Prop}{Ee:Nat->List D->S->Ph->Hp->Prop}(hS:aF K cA U H s)(h:Run K cA (M.bd (M.ret (Xv.d (.bl b))) bool) U H s (λd _ U' H'=>Q d H') Ee):Q b H:=h U H Ext.refl hS
theorem zmM{op op':CmpOp}{r r':R2}{q:Pr}(ho:dj X (compareOp op) r)(hp:aY X.K cA p (r2 r))(kI:dj X (compareOp op') r')(hp':aY X.K cA q (r2 r'))(ha:SE X cA ao aj F EX a A)(hb:SE X cA ao aj F EX b B)(hc:SE X cA ao aj F EX c C)(hm:lastMarks [op,op'] [b,c]=false:=by with_unfolding_all rfl) :
  ST X cA ao aj F EX (.Compare a [op,op'] [b,c] pos) (.ux p q A B C):=PT.weak (zhY ho kI ha hb hc hm) λZ H Q hh=>un hh λU J s hL hS h=>by
 let h:Run X.K cA (M.bd (M.bd (ev ao aj F A J) λx=>M.bd (ev ao aj F B J) λy=>M.bd (dH [x,y]) λds=>M.bd (bw true (prim p ds)) λt=>M.bd (bool t) λk=>
   if k=true then M.bd (ev ao aj F C J) λz=>M.bd (dH [y,z]) λds=>bw true (prim q ds) else M.ret (.d (.bl false))) bool) U H s _ _:=h
 simp only[iD]at h;show aZ hL hS h λx H1 U1 d1 s1 x1 hL1 aG r1 h1=>aZ hL1 aG h1 λy H2 U2 d2 s2 x2 hL2 aP r2' h2=>?_;let⟨ds,rs,h3⟩:=nU aP (.cons (r1.mono x2 aG.lz) (.cons r2' .nil)) h2;show uz (hp U2 H2 ds _ _ aP.zs rs (nW (Ee:=eX X.K cA EX Z) aP (h3.bd.imp λt s3 U3 H3 ⟨x3,iQ,h4⟩ v rv=>?_)));let⟨k,_,e,h5⟩:=DN rv h4;show⟨k,e,?_⟩;cases k with
 |false=>show iF ⟨false,rfl,U8 iQ h5⟩|true=>
  let rE:=hL2.mono x3 aP.lz;rw[if_pos rfl]at h5;simp only[iD]at h5;show iT (aZ rE iQ h5 λz H4 U4 d4 s4 x4 Kl jV r4 h6=>?_);let⟨ds,rs,h7⟩:=nU jV (.cons ((r2'.mono x3 aP.lz).mono x4 iQ.lz) (.cons r4 .nil)) h6;show uz (hp' U4 H4 ds _ _ jV.zs rs (nW (Ee:=eX X.K cA EX Z) jV (h7.bd.imp λt s5 U5 H5 ⟨x5,tK,h8⟩ v rv=>?_)));show zfh tK rv h8
def zga{op op' nq:CmpOp}{r r' r'':R2}{ta tb tc td:TE}(h1:dj X (compareOp op) r)(h2:dj X (compareOp op') r')(h3:dj X (compareOp nq) r'')(ha:PE X a ta)(hb:PE X b tb)(hc:PE X c tc)(hd:PE X d td)
  (hm:lastMarks [op,op',nq] [b,c,d]=false:=by with_unfolding_all rfl):PT X (.Compare a [op,op',nq] [b,c,d] pos) (λZ H Q=>ta Z H λx H1=>tb Z H1 λy H2=>r x y H2 λz H3=>∃k,z=.bl k /\
   (if k=true then tc Z H3 λw' H4=>r' y w' H4 λz2 H5=>∃k2,z2=.bl k2/\(if k2=true then td Z H5 λw2 H6=>r'' w' w2 H6 λz3 H7=>∃k3,z3=.bl k3/\Q k3 H7 else Q false H5) else Q false H3)):=by
 intro ak s Z H Q I h;show isTrue_chain (bf (ha ak s Z H _ I h) λv s1 hx=>eU hx λx H1 I1 r1 q1=>test_link (bf (hb ak s1 Z H1 _ I1 q1) λu s2 hx=>eU hx λy H2 I2 r2 q2=>
  bf (h1 ak s2 Z H2 x y v u _ I2 r1 r2 q2) λd s3 hx=>Aa hx λz H3 I3 r3 k e q3=>?_)) hm
 subst e;cases r3;show uf ?_;cases k with
 |false=>show ite_ff ⟨H3,I3,q3⟩|true=>
  show ite_tt (test_link (bf (hc ak s3 Z H3 _ I3 q3) λw' s4 hx=>eU hx λz' H4 I4 r4 q4=>bf (h2 ak s4 Z H4 y z' u w' _ I4 r2 r4 q4) λd' s5 hx=>Aa hx λz2 H5 I5 r5 k2 e2 q5=>?_));subst e2;cases r5;show uf ?_;cases k2 with
  |false=>show ite_ff ⟨H5,I5,q5⟩|true=>
   show ite_tt (test_last (bf (hd ak s5 Z H5 _ I5 q5) λw2 s6 hx=>eU hx λz3 H6 I6 r6 q6=>bf (h3 ak s6 Z H6 z' z3 w' w2 _ I6 r4 r6 q6) λd'' s7 hx=>Aa hx λz4 H7 I7 r7 k3 e3 q7=>?_));subst e3;cases r7;show uf ⟨H7,I7,q7⟩
theorem zmv{op op' nq:CmpOp}{r r' r'':R2}{q u:Pr}(h1:dj X (compareOp op) r)(p1:aY X.K cA p (r2 r))(h2:dj X (compareOp op') r')(p2:aY X.K cA q (r2 r'))(h3:dj X (compareOp nq) r'')(p3:aY X.K cA u (r2 r''))(ha:SE X cA ao aj F EX a A)(hb:SE X cA ao aj F EX b B)(hc:SE X cA ao aj F EX c C)(hd:SE X cA ao aj F EX d Dd)
  (hm:lastMarks [op,op',nq] [b,c,d]=false:=by with_unfolding_all rfl):ST X cA ao aj F EX (.Compare a [op,op',nq] [b,c,d] pos) (.Dq p q u A B C Dd):=PT.weak (zga h1 h2 h3 ha hb hc hd hm) λZ H Q hh=>un hh λU J s hL hS h=>by
 let h:Run X.K cA (M.bd (M.bd (ev ao aj F A J) λx=>M.bd (ev ao aj F B J) λy=>M.bd (dH [x,y]) λds=>M.bd (bw true (prim p ds)) λt=>M.bd (bool t) λk=>
   if k=true then M.bd (ev ao aj F C J) λz=>M.bd (dH [y,z]) λds=>M.bd (bw true (prim q ds)) λt=>M.bd (bool t) λk2=>
    if k2=true then M.bd (ev ao aj F Dd J) λw=>M.bd (dH [z,w]) λds=>bw true (prim u ds) else M.ret (.d (.bl false))
   else M.ret (.d (.bl false))) bool) U H s _ _:=h
 simp only[iD]at h;show aZ hL hS h λx H1 U1 d1 s1 x1 hL1 aG r1 h1=>aZ hL1 aG h1 λy H2 U2 d2 s2 x2 hL2 aP r2' h2=>?_;let⟨ds,rs,h3⟩:=nU aP (.cons (r1.mono x2 aG.lz) (.cons r2' .nil)) h2;show uz (p1 U2 H2 ds _ _ aP.zs rs (nW (Ee:=eX X.K cA EX Z) aP (h3.bd.imp λt s3 U3 H3 ⟨x3,iQ,h4⟩ v rv=>?_)));let⟨k,_,e,h5⟩:=DN rv h4;show⟨k,e,?_⟩;cases k with
 |false=>show iF (U8 iQ h5)|true=>
  let rE:=hL2.mono x3 aP.lz;rw[if_pos rfl]at h5;simp only[iD]at h5;show iT (aZ rE iQ h5 λz H4 U4 d4 s4 x4 Kl jV r4 h6=>?_);let⟨ds,rs,h7⟩:=nU jV (.cons ((r2'.mono x3 aP.lz).mono x4 iQ.lz) (.cons r4 .nil)) h6;show uz (p2 U4 H4 ds _ _ jV.zs rs (nW (Ee:=eX X.K cA EX Z) jV (h7.bd.imp λt s5 U5 H5 ⟨x5,tK,h8⟩ v rv=>?_)));let⟨k2,_,e,h9⟩:=DN rv h8;show⟨k2,e,?_⟩;cases k2 with
  |false=>show iF (U8 tK h9)|true=>
   let O_:=Kl.mono x5 jV.lz;rw[if_pos rfl]at h9;simp only[iD]at h9;show iT (aZ O_ tK h9 λz H6 U6 d6 s6 x6 hL6 Kp r6 h10=>?_);let⟨ds,rs,h11⟩:=nU Kp (.cons ((r4.mono x5 jV.lz).mono x6 tK.lz) (.cons r6 .nil)) h10;show uz (p3 U6 H6 ds _ _ Kp.zs rs (nW (Ee:=eX X.K cA EX Z) Kp (h11.bd.imp λt s7 U7 H7 ⟨x7,GK,h12⟩ v rv=>?_)));show zfh GK rv h12
end
mutual
inductive Is (h:Heap):D->Value->Prop where
 |non:Is h .non .none
 |bl (b:Bool):Is h (.bl b) (.bool b)
 |int (i:Int) (t:Tok):Is h (.int i) (.int i t)
 |str (x:Str) (t:Tok):Is h (.str x) (.str x t)
 |tup {a:Addr} {xs:List D} {its:List Value} (p:h.IsTuple a its.toArray) (r:jN h xs its):Is h (.tup xs) (.ref a)
 |fl {a:Addr} {xs:List D} {its:List Value} (p:h.IsList a its.toArray) (r:jN h xs its):Is h (.fl xs) (.ref a)
 |oth {d:D} {u:Value} (k:kq d=none):Is h d u
inductive jN (h:Heap):List D->List Value->Prop where
 |nil:jN h [] []
 |cons {d:D} {u:Value} {ds:List D} {us:List Value} (a:Is h d u) (r:jN h ds us):jN h (d::ds) (u::us)
end
section
variable {X:Cx}{cA:Cl}{ak:List (Addr×Obj)}{Z:L2.St}{H:Hp}{s:Shared}{U:Ph}{h:Heap}
theorem U9(I:Inv X ak Z H s){ds:List D}{vs:List V}{us:List Value}(h:aC X.K cA U H ds vs)(r:Vals vs us):jN s.heap ds us:=
 aC.rec (motive_1:=λd v _=>∀{u:Value},RelV v u->Is s.heap d u) (motive_2:=λd v _=>∀{u:List Value},Vals v u->jN s.heap d u) (λr=>by cases r;show .non) (λb _ r=>by cases r;show .bl b) (λi _ r=>by let⟨t,rfl⟩:=r;show .int i t) (λi _ r=>by let⟨t,rfl⟩:=r;show .str i t)
 (λh _ ih _ r=>by
  cases r;let⟨its,rv,ht,_⟩:=I.tuple h.iM;show .tup ht (ih rv))
 (λh _ ih _ r=>by
  cases r;let⟨its,rv,ht,_⟩:=I.list h.rD;show .fl ht.isList (ih rv))
 (λ_ _ _ _=>.oth rfl) (λ_ _ _ _ _=>.oth rfl) (λ_ _ _ _ _=>.oth rfl) (λ_ _ _=>.oth rfl)
 (λr=>by cases r;show .nil)
 (λ_ _ i j _ r=>by
  cases r with
  |cons a b=>show .cons (i a) (j b)) h r
def zc(I:Inv X ak Z H s){d:D}{v:V}{u:Value}(h:Rep X.K cA U H d v)(r:RelV v u):Is s.heap d u:=by
 cases h with
 |non=>cases r;show .non|bl b=>cases r;show .bl b|int i=>let⟨t,rfl⟩:=r;show .int i t|str i=>let⟨t,rfl⟩:=r;show .str i t|tup h q=>
  cases r;let⟨its,rv,ht,_⟩:=I.tuple h.iM;show .tup ht (U9 I q rv)
 |fl h q=>
  cases r;let⟨its,rv,ht,_⟩:=I.list h.rD;show .fl ht.isList (U9 I q rv)
 |fd _ _=>show .oth rfl|exc _ _=>show .oth rfl|ob _ _=>show .oth rfl|any _=>show .oth rfl
def Aq(I:Inv X ak Z H s){d:D}{v:V}{u:Value}(q:Rv X.K cA U H d v)(r:RelV v u):Is s.heap d u:=by
 cases d with
 |fl xs=>
  let⟨a,vs,rfl,sq,rs⟩:=q;cases r;let⟨its,rv,ht,_⟩:=I.list sq;show .fl ht.isList (U9 I rs rv)
 |non=>show zc I q r|bl b=>show zc I q r|int b=>show zc I q r|str b=>show zc I q r|tup b=>show zc I q r|fd b c=>show zc I q r|exc b c=>show zc I q r|ob b c=>show zc I q r|any=>show zc I q r
def jN.len{ds:List D}{us:List Value}(r:jN h ds us):ds.length=us.length:=by
 induction ds generalizing us with
 |nil=>cases r;rfl|cons a d ih=>cases r with|cons _ r=>rw[eN,eN,ih r]
theorem jN.get:∀{ds:List D} {us:List Value} {i:Nat} {d:D},jN h ds us->ds[i]?=some d->∃u,us[i]?=some u/\Is h d u
 |_,_,_,_,.nil,e=>by simp at e|_,_,0,_,.cons h _,e=>by simp at e;subst e;show⟨_,rfl,h⟩|_,_,i+1,d,.cons _ r,e=>by
  let⟨v,a,b⟩:=jN.get (i:=i) (d:=d) r (by simpa using e);show⟨v,by simpa using a,b⟩
def zfg{a:Addr}{is js:Array Value}(p:h.IsTuple a is)(q:h.IsTuple a js):is=js:=by
 let⟨o,e,c,n,d⟩:=p;let⟨o',e',c',n',d'⟩:=q;rw[e]at e';cases e';rw[d]at d';cases d';rfl
def ze1{a:Addr}{is js:Array Value}(p:h.IsList a is)(q:h.IsList a js):is=js:=by
 let⟨o,e,c,n,d⟩:=p;let⟨o',e',c',n',d'⟩:=q;rw[e]at e';cases e';rw[d]at d';cases d';rfl
def GP{a:Addr}{is js:Array Value}(p:h.IsList a is)(q:h.IsTuple a js):False:=by
 let⟨o,e,c,n,d⟩:=p;let⟨o',e',c',n',d'⟩:=q;rw[e]at e';cases e';rw[c]at c';show absurd c' Zaa
theorem Kq{eq:D->D->Option Bool}:∀{xs ys:List D} {b:Bool},eF eq xs ys=some b->∃e:Nat->Bool,(∀(j:Nat) x y,xs[j]?=some x->ys[j]?=some y->eq x y=some (e j))/\b=((List.range (min xs.length ys.length)).all e&&xs.length==ys.length)
 |[],[],b,h=>by cases h;show⟨λ_=>true,λj x y q=>by simp at q,by simp⟩|[],y::ys,b,h=>by cases h;show⟨λ_=>true,λj x y q=>by simp at q,by simp⟩|x::xs,[],b,h=>by cases h;show⟨λ_=>true,λj x y q r=>by simp at r,by simp⟩|x::xs,y::ys,b,h=>by
  simp only[eF]at h;cases e1:eq x y with
  |none=>rw[e1]at h;cases h|some a=>
   cases e2:eF eq xs ys with
   |none=>rw[e1,e2]at h;cases h|some c=>
    rw[e1,e2]at h;cases h;let⟨e,h1,h2⟩:=Kq e2;show⟨λj=>match j with|0=>a|j+1=>e j,λj p q r1 r2=>?_,?_⟩
    .cases j with
     |zero=>
      simp at r1 r2;subst r1 r2;show e1
     |succ j=>show h1 j p q (by simpa using r1) (by simpa using r2)
    .rw[h2];simp only[eN,Nat.succ_min_succ,Rf,oG,List.all_map,Function.comp_def];rw[Bool.and_assoc]
     congr 2
     simp
def uD{n:Nat}{d e:D}(k:kq d=none):cM n d e=none:=by
 cases n<;>cases d<;>first|cases k;done|(cases e<;>rfl)
def g_{n:Nat}{d e:D}(k:kq e=none):cM n d e=none:=by
 cases n<;>cases e<;>first|cases k;done|(cases d<;>rfl)
def zeJ:∀(n:Nat) {d1 d2:D} {u:Value} {b:Bool},Is h d1 u->Is h d2 u->cM n d1 d2=some b->b=true:=by
 intro n;let rows:∀(n:Nat),(∀{d1 d2:D} {u:Value} {b:Bool},Is h d1 u->Is h d2 u->cM n d1 d2=some b->b=true)->∀{xs ys:List D} {is js:List Value} {b:Bool},jN h xs is->jN h ys js->is.toArray=js.toArray->eF (cM n) xs ys=some b->b=true:=by
  intro n ih xs ys is js b q1 q2 e hd;let e:is=js:=by simpa using e
  subst e;let⟨e,a1,a2⟩:=Kq (eq:=cM n) hd;rw[a2];let hl:_=_:=q1.len.trans q2.len.symm;rw[b_];show⟨fB.mpr λj hj=>?_,by rw[hl];simp⟩;let hj:=gZ.mp hj;obtain⟨x,hx⟩ : ∃x,_=some x:=⟨_,fV (gG hj (Nat.min_le_left _ _))⟩;obtain⟨y,hy⟩ : ∃y,_=some y:=⟨_,fV (gG hj (Nat.min_le_right _ _))⟩;let⟨v1,e1,p1⟩:=q1.get hx;let⟨v2,e2,p2⟩:=q2.get hy;rw[e1]at e2;cases e2;show ih p1 p2 (a1 j x y hx hy)
 induction n with
 |zero=>
  intro d1 d2 u b r1 r2 hd;cases r1 with
  |oth k=>rw[uD k]at hd;cases hd|non=>cases r2 with
   |oth k=>rw[g_ k]at hd;cases hd|non=>cases hd;rfl
  |bl x=>cases r2 with
   |oth k=>rw[g_ k]at hd;cases hd|bl y=>cases hd;simp
  |int x t=>cases r2 with
   |oth k=>rw[g_ k]at hd;cases hd|int y=>cases hd;simp
  |str x t=>cases r2 with
   |oth k=>rw[g_ k]at hd;cases hd|str y=>cases hd;simp
  |tup p q=>cases r2 with
   |oth k=>rw[g_ k]at hd;cases hd|tup p2 q2=>cases hd|fl p2 q2=>show(GP p2 p).elim
  |fl p q=>cases r2 with
   |oth k=>rw[g_ k]at hd;cases hd|fl p2 q2=>cases hd|tup p2 q2=>show(GP p p2).elim
 |succ n ih=>
  intro d1 d2 u b r1 r2 hd;cases r1 with
  |oth k=>rw[uD k]at hd;cases hd|non=>cases r2 with
   |oth k=>rw[g_ k]at hd;cases hd|non=>cases hd;rfl
  |bl x=>cases r2 with
   |oth k=>rw[g_ k]at hd;cases hd|bl y=>cases hd;simp
  |int x t=>cases r2 with
   |oth k=>rw[g_ k]at hd;cases hd|int y=>cases hd;simp
  |str x t=>cases r2 with
   |oth k=>rw[g_ k]at hd;cases hd|str y=>cases hd;simp
  |tup p q=>cases r2 with
   |oth k=>rw[g_ k]at hd;cases hd|tup p2 q2=>show rows n ih q q2 (zfg p p2) hd|fl p2 q2=>show(GP p2 p).elim
  |fl p q=>cases r2 with
   |oth k=>rw[g_ k]at hd;cases hd|fl p2 q2=>show rows n ih q q2 (ze1 p p2) hd|tup p2 q2=>show(GP p p2).elim
def parts{n:Nat}{A:Around}{xs ys:List D}{is js:List Value}{b:Bool}(r1:jN s.heap xs is)(r2:jN s.heap ys js)(hd:eF (cM n) xs ys=some b)
  (ih:∀{d1 d2:D} {u1 u2:Value} {b:Bool},Is s.heap d1 u1->Is s.heap d2 u2->cM n d1 d2=some b->SeqAt.EqAt A s u1 u2 b) :
  ∃e:Nat->Bool,(∀j (h1:j<is.toArray.size) (h2:j<js.toArray.size),SeqAt.EqAt A s is.toArray[j] js.toArray[j] (e j))/\b=((List.range (min is.toArray.size js.toArray.size)).all e&&is.toArray.size==js.toArray.size):=by
 let⟨e,a1,a2⟩:=Kq hd;let z1:=r1.len;let z2:=r2.len;show⟨e,λj h1 h2=>?_,by simp only[dR,<-z1,<-z2];show a2⟩;simp only[dR]at h1 h2;obtain⟨x,hx⟩ : ∃x,xs[j]?=some x:=⟨_,fV (by rw[z1];show h1)⟩;obtain⟨y,hy⟩ : ∃y,ys[j]?=some y:=⟨_,fV (by rw[z2];show h2)⟩;let⟨u,f1,g1⟩:=r1.get hx;let⟨u',f2,g2⟩:=r2.get hy;let k1:is.toArray[j]=u:=by
  let:=jr.mp f1;simpa using this.2
 let k2:js.toArray[j]=u':=by
  let:=jr.mp f2;simpa using this.2
 rw[k1,k2];show ih g1 g2 (a1 j x y hx hy)
def zfd{A:Around}{l m:Addr}{is js:Array Value}{e:Nat->Bool}{b:Bool}(p1:s.heap.IsList l is)(p2:s.heap.IsList m js)(hu:A.units<cLine)(he:∀j (h1:j<is.size) (h2:j<js.size),SeqAt.EqAt A.in1 s is[j] js[j] (e j))(hb:b=((List.range (min is.size js.size)).all e&&is.size==js.size)):SeqAt.RcAt A s (.ref l) (.ref m) b:=by
 by_cases hz:is.size=js.size
 .let:b=(List.range is.size).all e:=by rw[hb,hz];simp
  rw[this];show SeqAt.RcAt.lists p1 p2 hz hu he
 .let U_:(is.size != js.size)=true:=by simpa using hz
  let:b=false:=by rw[hb];simp[hz]
  rw[this];show SeqAt.RcAt.lists_lengths p1 p2 U_ hu
def zhe{A:Around}{l m:Addr}{is js:Array Value}{e:Nat->Bool}{b:Bool}(p1:s.heap.IsList l is)(p2:s.heap.IsList m js)(hu:A.units<cLine)(he:∀j (h1:j<is.size) (h2:j<js.size),SeqAt.EqAt A.in1 s is[j] js[j] (e j))(hb:b=((List.range (min is.size js.size)).all e&&is.size==js.size)):SeqAt.RcNeAt A s (.ref l) (.ref m) (!b):=by
 by_cases hz:is.size=js.size
 .let:b=(List.range is.size).all e:=by rw[hb,hz];simp
  rw[this];show SeqAt.RcNeAt.lists p1 p2 hz hu he
 .let U_:(is.size != js.size)=true:=by simpa using hz
  let:b=false:=by rw[hb];simp[hz]
  rw[this];show SeqAt.RcNeAt.lists_lengths p1 p2 U_ hu
open SeqAt in
def Kr:∀(n:Nat) {A:Around} {d1 d2:D} {u1 u2:Value} {b:Bool},A.units+n<cLine->Is s.heap d1 u1->Is s.heap d2 u2->cM n d1 d2=some b->SeqAt.EqAt A s u1 u2 b:=by
 intro n
 induction n with
 |zero=>
  intro A d1 d2 u1 u2 b hu r1 r2 hd;let hu:A.units<cLine:=by omega
  cases r1 with
  |oth k=>rw[uD k]at hd;cases hd|non=>cases r2 with
   |oth k=>rw[g_ k]at hd;cases hd|non=>cases hd;show EqAt.same _|bl y=>cases hd;show EqAt.none_bool _|int y t=>cases hd;show EqAt.none_int _ _|str y t=>cases hd;show EqAt.none_str _ _|tup p q=>cases hd;show EqAt.none_tuple p hu|fl p q=>cases hd;show EqAt.none_list p hu
  |bl x=>cases r2 with
   |oth k=>rw[g_ k]at hd;cases hd|non=>cases hd;show EqAt.bool_none _|bl y=>cases hd;show EqAt.bool_bool _ _|int y t=>cases hd;show EqAt.bool_int _ _ _|str y t=>cases hd;show EqAt.bool_str _ _ _|tup p q=>cases hd;show EqAt.bool_tuple _ p hu|fl p q=>cases hd;show EqAt.bool_list _ p hu
  |int x t=>cases r2 with
   |oth k=>rw[g_ k]at hd;cases hd|non=>cases hd;show EqAt.int_none _ _|bl y=>cases hd;show EqAt.int_bool _ _ _|int y t=>cases hd;show EqAt.int_int _ _ _ _|str y t=>cases hd;show EqAt.int_str _ _ _ _|tup p q=>cases hd;show EqAt.int_tuple _ _ p hu|fl p q=>cases hd;show EqAt.int_list _ _ p hu
  |str x t=>cases r2 with
   |oth k=>rw[g_ k]at hd;cases hd|non=>cases hd;show EqAt.str_none _ _|bl y=>cases hd;show EqAt.str_bool _ _ _|int y t=>cases hd;show EqAt.str_int _ _ _ _|str y t=>cases hd;show EqAt.str_str _ _ _ _|tup p q=>cases hd;show EqAt.str_tuple _ _ p hu|fl p q=>cases hd;show EqAt.str_list _ _ p hu
  |tup p q=>cases r2 with
   |oth k=>rw[g_ k]at hd;cases hd|non=>cases hd;show EqAt.tuple_none p hu|bl y=>cases hd;show EqAt.tuple_bool _ p hu|int y t=>cases hd;show EqAt.tuple_int _ _ p hu|str y t=>cases hd;show EqAt.tuple_str _ _ p hu|tup p2 q2=>cases hd|fl p2 q2=>cases hd;show EqAt.tuple_list p p2 hu
  |fl p q=>cases r2 with
   |oth k=>rw[g_ k]at hd;cases hd|non=>cases hd;show EqAt.list_none p hu|bl y=>cases hd;show EqAt.list_bool _ p hu|int y t=>cases hd;show EqAt.list_int _ _ p hu|str y t=>cases hd;show EqAt.list_str _ _ p hu|tup p2 q2=>cases hd;show EqAt.list_tuple p p2 hu|fl p2 q2=>cases hd
 |succ n ih=>
  intro A d1 d2 u1 u2 b hu0 r1 r2 hd;let hu:A.units<cLine:=by lia
  let jh:A.in1.units+n<cLine:=by change A.units+1+n<cLine;lia
  cases r1 with
  |oth k=>rw[uD k]at hd;cases hd|non=>cases r2 with
   |oth k=>rw[g_ k]at hd;cases hd|non=>cases hd;show EqAt.same _|bl y=>cases hd;show EqAt.none_bool _|int y t=>cases hd;show EqAt.none_int _ _|str y t=>cases hd;show EqAt.none_str _ _|tup p q=>cases hd;show EqAt.none_tuple p hu|fl p q=>cases hd;show EqAt.none_list p hu
  |bl x=>cases r2 with
   |oth k=>rw[g_ k]at hd;cases hd|non=>cases hd;show EqAt.bool_none _|bl y=>cases hd;show EqAt.bool_bool _ _|int y t=>cases hd;show EqAt.bool_int _ _ _|str y t=>cases hd;show EqAt.bool_str _ _ _|tup p q=>cases hd;show EqAt.bool_tuple _ p hu|fl p q=>cases hd;show EqAt.bool_list _ p hu
  |int x t=>cases r2 with
   |oth k=>rw[g_ k]at hd;cases hd|non=>cases hd;show EqAt.int_none _ _|bl y=>cases hd;show EqAt.int_bool _ _ _|int y t=>cases hd;show EqAt.int_int _ _ _ _|str y t=>cases hd;show EqAt.int_str _ _ _ _|tup p q=>cases hd;show EqAt.int_tuple _ _ p hu|fl p q=>cases hd;show EqAt.int_list _ _ p hu
  |str x t=>cases r2 with
   |oth k=>rw[g_ k]at hd;cases hd|non=>cases hd;show EqAt.str_none _ _|bl y=>cases hd;show EqAt.str_bool _ _ _|int y t=>cases hd;show EqAt.str_int _ _ _ _|str y t=>cases hd;show EqAt.str_str _ _ _ _|tup p q=>cases hd;show EqAt.str_tuple _ _ p hu|fl p q=>cases hd;show EqAt.str_list _ _ p hu
  |@tup a1 xs is p q=>cases r2 with
   |oth k=>rw[g_ k]at hd;cases hd|non=>cases hd;show EqAt.tuple_none p hu|bl y=>cases hd;show EqAt.tuple_bool _ p hu|int y t=>cases hd;show EqAt.tuple_int _ _ p hu|str y t=>cases hd;show EqAt.tuple_str _ _ p hu|@tup a2 ys js p2 q2=>
    by_cases ea:a1=a2
    .subst ea;let:=zeJ (n+1) (.tup p q) (.tup p2 q2) hd;subst this;show EqAt.same _
    .obtain⟨e,he,hb⟩:=parts (A:=A.in1) q q2 hd λa b c=>ih jh a b c;rw[hb];show EqAt.of_refs ea (RcAt.tuples p p2 hu he)
   |fl p2 q2=>cases hd;show EqAt.tuple_list p p2 hu
  |@fl a1 xs is p q=>cases r2 with
   |oth k=>rw[g_ k]at hd;cases hd|non=>cases hd;show EqAt.list_none p hu|bl y=>cases hd;show EqAt.list_bool _ p hu|int y t=>cases hd;show EqAt.list_int _ _ p hu|str y t=>cases hd;show EqAt.list_str _ _ p hu|tup p2 q2=>cases hd;show EqAt.list_tuple p p2 hu|@fl a2 ys js p2 q2=>
    by_cases ea:a1=a2
    .subst ea;let:=zeJ (n+1) (.fl p q) (.fl p2 q2) hd;subst this;show EqAt.same _
    .obtain⟨e,he,hb⟩:=parts (A:=A.in1) q q2 hd λa b c=>ih jh a b c;show EqAt.of_refs ea (zfd p p2 hu he hb)
end
section
variable {X:Cx}{cA:Cl}{ak:List (Addr×Obj)}{Z:L2.St}{H:Hp}{s:Shared}{U:Ph}{h:Heap}
open SeqAt in
def zgX(hu0:A.units+(n+1)<cLine)(r1:Is s.heap d1 u1)(r2:Is s.heap d2 u2)(hd:cM (n+1) d1 d2=some b):RcAt A s u1 u2 b/\RcNeAt A s u1 u2 (!b):=by
 let hu:A.units<cLine:=by lia
 let jh:A.in1.units+n<cLine:=by change A.units+1+n<cLine;lia
 cases r1 with
 |oth k=>rw[uD k]at hd;cases hd|non=>cases r2 with
  |oth k=>rw[g_ k]at hd;cases hd|non=>cases hd;show⟨RcAt.none_none,RcNeAt.none_none⟩|bl y=>cases hd;show⟨RcAt.none_bool _,RcNeAt.none_bool _⟩|int y t=>cases hd;show⟨RcAt.none_int _ _,RcNeAt.none_int _ _⟩|str y t=>cases hd;show⟨RcAt.none_str _ _,RcNeAt.none_str _ _⟩|tup p q=>cases hd;show⟨RcAt.none_tuple p hu,RcNeAt.none_tuple p hu⟩|fl p q=>cases hd;show⟨RcAt.none_list p hu,RcNeAt.none_list p hu⟩
 |bl x=>cases r2 with
  |oth k=>rw[g_ k]at hd;cases hd|non=>cases hd;show⟨RcAt.bool_none _,RcNeAt.bool_none _⟩|bl y=>cases hd;show⟨RcAt.bool_bool _ _,RcNeAt.bool_bool _ _⟩|int y t=>cases hd;show⟨RcAt.bool_int _ _ _,RcNeAt.bool_int _ _ _⟩|str y t=>cases hd;show⟨RcAt.bool_str _ _ _,RcNeAt.bool_str _ _ _⟩|tup p q=>cases hd;show⟨RcAt.bool_tuple _ p hu,RcNeAt.bool_tuple _ p hu⟩|fl p q=>cases hd;show⟨RcAt.bool_list _ p hu,RcNeAt.bool_list _ p hu⟩
 |int x t=>cases r2 with
  |oth k=>rw[g_ k]at hd;cases hd|non=>cases hd;show⟨RcAt.int_none _ _,RcNeAt.int_none _ _⟩|bl y=>cases hd;show⟨RcAt.int_bool _ _ _,RcNeAt.int_bool _ _ _⟩|int y t=>cases hd;show⟨RcAt.int_int _ _ _ _,RcNeAt.int_int _ _ _ _⟩|str y t=>cases hd;show⟨RcAt.int_str _ _ _ _,RcNeAt.int_str _ _ _ _⟩|tup p q=>cases hd;show⟨RcAt.int_tuple _ _ p hu,RcNeAt.int_tuple _ _ p hu⟩|fl p q=>cases hd;show⟨RcAt.int_list _ _ p hu,RcNeAt.int_list _ _ p hu⟩
 |str x t=>cases r2 with
  |oth k=>rw[g_ k]at hd;cases hd|non=>cases hd;show⟨RcAt.str_none _ _,RcNeAt.str_none _ _⟩|bl y=>cases hd;show⟨RcAt.str_bool _ _ _,RcNeAt.str_bool _ _ _⟩|int y t=>cases hd;show⟨RcAt.str_int _ _ _ _,RcNeAt.str_int _ _ _ _⟩|str y t=>cases hd;show⟨RcAt.str_str _ _ _ _,RcNeAt.str_str _ _ _ _⟩|tup p q=>cases hd;show⟨RcAt.str_tuple _ _ p hu,RcNeAt.str_tuple _ _ p hu⟩|fl p q=>cases hd;show⟨RcAt.str_list _ _ p hu,RcNeAt.str_list _ _ p hu⟩
 |@tup a1 xs is p q=>cases r2 with
  |oth k=>rw[g_ k]at hd;cases hd|non=>cases hd;show⟨RcAt.tuple_none p hu,RcNeAt.tuple_none p hu⟩|bl y=>cases hd;show⟨RcAt.tuple_bool _ p hu,RcNeAt.tuple_bool _ p hu⟩|int y t=>cases hd;show⟨RcAt.tuple_int _ _ p hu,RcNeAt.tuple_int _ _ p hu⟩|str y t=>cases hd;show⟨RcAt.tuple_str _ _ p hu,RcNeAt.tuple_str _ _ p hu⟩|@tup a2 ys js p2 q2=>
   let⟨e,he,hb⟩:=parts (A:=A.in1) q q2 hd λa b c=>Kr n jh a b c;rw[hb];show⟨RcAt.tuples p p2 hu he,RcNeAt.tuples p p2 hu he⟩
  |fl p2 q2=>cases hd;show⟨RcAt.tuple_list p p2 hu,RcNeAt.tuple_list p p2 hu⟩
 |@fl a1 xs is p q=>cases r2 with
  |oth k=>rw[g_ k]at hd;cases hd|non=>cases hd;show⟨RcAt.list_none p hu,RcNeAt.list_none p hu⟩|bl y=>cases hd;show⟨RcAt.list_bool _ p hu,RcNeAt.list_bool _ p hu⟩|int y t=>cases hd;show⟨RcAt.list_int _ _ p hu,RcNeAt.list_int _ _ p hu⟩|str y t=>cases hd;show⟨RcAt.list_str _ _ p hu,RcNeAt.list_str _ _ p hu⟩|tup p2 q2=>cases hd;show⟨RcAt.list_tuple p p2 hu,RcNeAt.list_tuple p p2 hu⟩|@fl a2 ys js p2 q2=>
   let⟨e,he,hb⟩:=parts (A:=A.in1) q q2 hd λa b c=>Kr n jh a b c;show⟨zfd p p2 hu he hb,zhe p p2 hu he hb⟩
def zj(K:W.Frag)(cA:Cl)(f:Bool->Bool):R2:=λx y H Q=>∃U d1 d2 b,Rv K cA U H d1 x/\Rv K cA U H d2 y/\cM 50 d1 d2=some b/\Q (.bl (f b)) H
def zlA(hu:X.A.units+60<cLine):dj X (compareOp .Eq) (zj X.K cA id):=by
 rintro ak s Z H x y v u Q I rx ry ⟨U,d1,d2,b,r1,r2,hd,q⟩;show(zgX (n:=49) gV (Aq I r1 rx) (Aq I r2 ry) hd).1 X.prog X.w X.xe _ ⟨.bl b,H,I,rfl,q⟩
def zng(hu:X.A.units+60<cLine):dj X (compareOp .NotEq) (zj X.K cA not):=by
 rintro ak s Z H x y v u Q I rx ry ⟨U,d1,d2,b,r1,r2,hd,q⟩;show(zgX (n:=49) gV (Aq I r1 rx) (Aq I r2 ry) hd).2 X.prog X.w X.xe _ ⟨.bl (!b),H,I,rfl,q⟩
def zgT:∀(n:Nat) {d d' x:D} {u:Value} {b b':Bool},Is h d u->Is h d' u->cM n d x=some b->cM n d' x=some b'->b=b':=by
 intro n;let tn:∀{n:Nat} {xs xs':List D} {x:D},(∀ys,x=.tup ys->False)->cM n (.tup xs) x=cM n (.tup xs') x:=λ{n xs xs' x} hx=>by
  cases n<;>cases x<;>first|rfl|exact(hx _ rfl).elim
 let ln:∀{n:Nat} {xs xs':List D} {x:D},(∀ys,x=.fl ys->False)->cM n (.fl xs) x=cM n (.fl xs') x:=λ{n xs xs' x} hx=>by
  cases n<;>cases x<;>first|rfl|exact(hx _ rfl).elim
 let main:∀{n:Nat},(∀{xs xs' ys:List D} {is js:List Value} {b b':Bool},jN h xs is->jN h xs' js->is.toArray=js.toArray->cM n (.tup xs) (.tup ys)=some b->cM n (.tup xs') (.tup ys)=some b'->b=b')->(∀{xs xs' ys:List D} {is js:List Value} {b b':Bool},jN h xs is->jN h xs' js->is.toArray=js.toArray->cM n (.fl xs) (.fl ys)=some b->cM n (.fl xs') (.fl ys)=some b'->b=b')->∀{d d' x:D} {u:Value} {b b':Bool},Is h d u->Is h d' u->cM n d x=some b->cM n d' x=some b'->b=b':=by
  intro n R L d d' x u b b' r1 r2 h1 h2;cases r1 with
  |oth k=>rw[uD k]at h1;cases h1|non=>cases r2 with
   |oth k=>rw[uD k]at h2;cases h2|non=>rw[h1]at h2;show dD h2
  |bl y=>cases r2 with
   |oth k=>rw[uD k]at h2;cases h2|bl=>rw[h1]at h2;show dD h2
  |int y=>cases r2 with
   |oth k=>rw[uD k]at h2;cases h2|int=>rw[h1]at h2;show dD h2
  |str y=>cases r2 with
   |oth k=>rw[uD k]at h2;cases h2|str=>rw[h1]at h2;show dD h2
  |tup p q=>cases r2 with
   |oth k=>rw[uD k]at h2;cases h2|tup p2 q2=>
    cases x with
    |tup ys=>show R q q2 (zfg p p2) h1 h2|_=>rw[tn (by intro ys z;cases z),h2]at h1;show(dD h1).symm
   |fl p2 q2=>show(GP p2 p).elim
  |fl p q=>cases r2 with
   |oth k=>rw[uD k]at h2;cases h2|fl p2 q2=>
    cases x with
    |fl ys=>show L q q2 (ze1 p p2) h1 h2|_=>rw[ln (by intro ys z;cases z),h2]at h1;show(dD h1).symm
   |tup p2 q2=>show(GP p p2).elim
 induction n with
 |zero=>
  intro d d' x u b b' r1 r2;show main (n:=0) (λ_ _ _ z=>by cases z) (λ_ _ _ z=>by cases z) r1 r2
 |succ n ih=>
  let rows:∀{xs xs' ys:List D} {is js:List Value} {b b':Bool},jN h xs is->jN h xs' js->is.toArray=js.toArray->eF (cM n) xs ys=some b->eF (cM n) xs' ys=some b'->b=b':=by
   intro xs xs' ys is js b b' q1 q2 e h1 h2;let e:is=js:=by simpa using e
   subst e;let⟨e1,a1,b1⟩:=Kq h1;let⟨e2,a2,b2⟩:=Kq h2;let hl:xs.length=xs'.length:=q1.len.trans q2.len.symm;rw[b1,b2,hl]
   congr 1
   rw[Bool.eq_iff_iff,fB,fB];let key:∀j∈List.range (min xs'.length ys.length),e1 j=e2 j:=λj hj=>by
    let hj:=gZ.mp hj;obtain⟨x1,GQ⟩ : ∃x,xs[j]?=some x:=⟨_,fV (by rw[hl];show gG hj (Nat.min_le_left _ _))⟩;obtain⟨x2,yO⟩ : ∃x,xs'[j]?=some x:=⟨_,fV (gG hj (Nat.min_le_left _ _))⟩;obtain⟨y,hy⟩ : ∃y,ys[j]?=some y:=⟨_,fV (gG hj (Nat.min_le_right _ _))⟩;let⟨v1,f1,p1⟩:=q1.get GQ;let⟨v2,f2,p2⟩:=q2.get yO;rw[f1]at f2;cases f2;show ih p1 p2 (a1 j x1 y GQ hy) (a2 j x2 y yO hy)
   show⟨λz j hj=>by rw[<-key j hj];show z j hj,λz j hj=>by rw[key j hj];show z j hj⟩
  intro d d' x u b b' r1 r2;show main (n:=n+1) rows rows r1 r2
theorem Va:∀{xs:List D} {b:Bool},memD x xs=some b->∀d∈xs,∃k,cM 50 d x=some k
 |[],_,_,d,hd=>by cases hd|y::xs,b,h,d,hd=>by
  unfold memD at h;cases e1:cM 50 y x with
  |none=>simp only[e1]at h;cases h|some a=>
   cases e2:memD x xs with
   |none=>simp only[e1,e2]at h;cases h|some c=>
    rcases cX.mp hd with rfl|hd
    .exact⟨a,e1⟩
    .exact Va e2 d hd
def Vb:∀{xs:List D} {us:List Value} {b:Bool},memD x xs=some b->jN h xs us->∃e:Value->Bool,(∀u∈us,∃d,Is h d u/\cM 50 d x=some (e u))/\us.any e=b:=by
 intro xs us b hm r;let ex:∀u∈us,∃d k,Is h d u/\cM 50 d x=some k:=by
  intro u hu;let⟨i,hi,e⟩:=Hr hu;let hl:=r.len;obtain⟨d,hd⟩ : ∃d,xs[i]?=some d:=⟨_,fV gV⟩;let⟨u',e1,q⟩:=r.get hd;rw[fV hi,e]at e1;cases e1;let⟨k,hk⟩:=Va hm d (jL hd);show⟨d,k,q,hk⟩
 show⟨λu=>by classical show if z:∃k,∃d,Is h d u/\cM 50 d x=some k then z.choose else false,λu hu=>?_,?_⟩
 .obtain⟨d,k,q,hk⟩:=ex u hu;let z:∃k,∃d,Is h d u/\cM 50 d x=some k:=⟨k,d,q,hk⟩;dsimp only;rw[dif_pos z];show z.choose_spec
 .clear ex;let key:∀(xs:List D) (us:List Value) (b:Bool),memD x xs=some b->jN h xs us->us.any (λu=>by classical show if z:∃k,∃d,Is h d u/\cM 50 d x=some k then z.choose else false)=b:=by
   intro xs
   induction xs with
   |nil=>intro us b hm r;cases r;cases hm;rfl|cons d ds ih=>
    intro us b hm r;cases r with
    |@cons _ u _ us a r=>
     unfold memD at hm;cases e1:cM 50 d x with
     |none=>simp only[e1]at hm;cases hm|some k=>
      cases e2:memD x ds with
      |none=>simp only[e1,e2]at hm;cases hm|some c=>
       simp only[e1,e2]at hm;cases hm;rw[List.any_cons];let z:∃k,∃d,Is h d u/\cM 50 d x=some k:=⟨k,d,a,e1⟩;let hk:z.choose=k:=by
        let⟨d',q,Cr⟩:=z.choose_spec;show zgT 50 q a Cr e1
       rw[dif_pos z,hk,ih us c e2 r]
  show key xs us b hm r
def Ks(K:W.Frag)(cA:Cl)(f:Bool->Bool):R2:=λx y H Q=>∃U d1 d2 xs b,Rv K cA U H d1 x/\Rv K cA U H d2 y/\qj d2=some xs/\memD d1 xs=some b/\Q (.bl (f b)) H
def zjy(hu:X.A.units+60<cLine):dj X (compareOp .NotIn) (Ks X.K cA not):=by
 rintro ak s Z H x y v u Q I rx ry ⟨U,d1,d2,xs,b,r1,r2,hq,hm,q⟩;let jh:X.A.in1.units+50<cLine:=by change X.A.units+1+50<cLine;lia
 let i1:=Aq I r1 rx;cases Aq I r2 ry with
 |tup p r=>
  cases hq;let⟨e,he,hb⟩:=Vb hm r;show SeqAt.notIn_tupleAt e p (λw hw=>?_) ⟨.bl (!b),H,I,by rw[<-hb];simp[L2.RelV],q⟩;let⟨d,q1,q2⟩:=he w (by simpa using hw);show Kr 50 jh q1 i1 q2
 |fl p r=>
  cases hq;let⟨e,he,hb⟩:=Vb hm r;show SeqAt.notIn_listAt e p (λw hw=>?_) ⟨.bl (!b),H,I,by rw[<-hb];simp[L2.RelV],q⟩;let⟨d,q1,q2⟩:=he w (by simpa using hw);show Kr 50 jh q1 i1 q2
 |oth k=>cases d2<;>cases hq<;>cases k|_=>cases hq
end
end Mi
namespace HT
open PySem PyProof.Rows
section
variable {prog:Program}{w:World}{A:Around}{E:Value->Shared->Prop}{s:Shared}
def vM{t b:Addr}{vs ws:List Value}{Q:Value->Shared->Prop}(ht:IsTup s.heap t vs.toArray)(hb:IsTup s.heap b ws.toArray)(hv:vs=[])
  (h1:Q (.ref b) s):wpAny (model prog w) A (binaryOp .Add (.ref t) (.ref b)) Q E s:=by
 let⟨⟨cls,dd,data,sl⟩,ho,hc,n,hd⟩:=id ht;let⟨⟨cls2,dd2,data2,sl2⟩,nR,qU,n2,hd2⟩:=id hb;simp only at hc hd qU hd2;subst hc hd qU hd2;show concat_meets ⟨_,ho,rfl⟩ ⟨_,nR,rfl⟩ noFill_tuple_add seq_tuple_add Rb Q7 (Q0 _ _)
   (tuple_addW0 t b vs.toArray ws.toArray n n2 dd dd2 sl sl2 (by simp[hv])) ⟨ho,nR,h1⟩
def gH{t sl:Addr}{items:Array Value}{vl vu:Value}{lo hi:Option Int}{Q:Value->Shared->Prop}(ht:IsTup s.heap t items)(hs:s.heap.IsSliceOf sl vl vu .none)(pl:IsPart vl lo)(pu:IsPart vu hi)
  (hw:bL items.size 0 lo=0/\bL items.size items.size hi=items.size) (h:Q (.ref t) s):wpAny (model prog w) A (getItem (.ref t) (.ref sl)) Q E s:=by
 let⟨os,sW,CW,wL⟩:=id hs;let I8:s.TypeIs (.ref sl) "slice":=⟨os,sW,CW⟩;unfold getItem
 try with_reducible show iJ ?_
 first|refine au (aH ?_)|skip
 show au (wpAny_sequenceKey ht.typeIs W9 ?_);show au (xT (name:=Str.ofString "__getitem__") ht.typeIs xQ
  (uh xQ ht.typeIs entry_tuple_getitem ?_ (args_tuple_getitem _ _)))
 change wpAny _ _ (Builtin.Tuple.tupleItemsOf (.ref t) >>= _) _ _ s;show au (tupleItemsOf_ ht ?_);show au (zY I8 ?_);rw[if_pos W9];show au (Zn hs pl pu ?_);let Vc:(((bL items.size 0 lo:Nat):Int)==0&&(1:Int)==1&&(bL items.size items.size hi-bL items.size 0 lo)==items.size)=true:=by
  rw[hw.1,hw.2];simp
 change wpAny _ _ (if (((bL items.size 0 lo:Nat):Int)==0&&(1:Int)==1&&(bL items.size items.size hi-bL items.size 0 lo)==items.size)=true then _ else _) _ _ s;rw[if_pos Vc];show au ?_;unfold Builtin.Tuple.tupleIsExact;show au (zY ht.typeIs ?_);show aH ?_;rw[if_pos W9];show au (Gq ?_);show aH ⟨_,rfl,aH h⟩
theorem zci{i:Int}{t:Tok}{Q:Option Int->Shared->Prop}(h:Q (some i) s):wpAny (model prog w) A (Builtin.Slice.slicePartIndex (.int i t)) Q E s:=Sh (.int i t) h
def zbB{sl:Addr}{t:Tok}{n:Nat}{Q:Int×Int×Nat->Shared->Prop}(hs:s.heap.IsSliceOf sl .none .none (.int (-1) t))
  (h:Q ((n:Int)-1,-1,n) s):wpAny (model prog w) A (Builtin.Slice.sliceApplied (.ref sl) (pure (n:Int))) Q E s:=by
 let⟨os,sW,CW,wL⟩:=id hs;unfold Builtin.Slice.sliceApplied Builtin.Slice.sliceFields;show au (au (j9 sW wL (x:=.none) rfl (au (j9 sW wL (x:=.none) rfl (au (j9 sW wL (x:=.int (-1) t) rfl (aH ?_)))))));show au (zci ?_);change wpAny _ _ (if ((-1:Int)==0)=true then _ else _) _ _ s;rw[if_neg W9];show au (slicePart_none (au (slicePart_none (au (aH ?_)))));change wpAny _ _ (pure ((n:Int)-1,(-1:Int),Builtin.Slice.slicePlaces ((n:Int)-1) (-1) (-1))) _ _ s;let e:Builtin.Slice.slicePlaces ((n:Int)-1) (-1) (-1)=n:=by
  unfold Builtin.Slice.slicePlaces;rw[if_neg W9];by_cases hn:n=0
  .subst hn;rfl
  .rw[if_pos gV];let:(-(-1:Int))=1:=rfl;rw[this,Int.ediv_one]
   lia
 rw[e];show aH h
def zh3(xs:Array Value):((List.range xs.size).filterMap λ(m:Nat)=>xs[(((xs.size:Int)-1)+(m:Int) * -1).toNat]?).toArray=xs.toList.reverse.toArray:=by
 let e:∀n,n<=xs.size->(List.range n).filterMap (λ(m:Nat)=>xs[(((xs.size:Int)-1)+(m:Int) * -1).toNat]?)=(xs.toList.reverse).take n:=by
  intro n
  induction n with
  |zero=>intro _;simp|succ n ih=>
   intro hn;let hlt:n<xs.toList.reverse.length:=by simp;lia
   rw[List.range_succ,List.filterMap_append,ih gV,List.take_succ_eq_append_getElem hlt]
   congr 1
   let:(((xs.size:Int)-1)+(n:Int) * -1).toNat=xs.size-1-n:=by lia
   simp only[Gd,List.filterMap_nil,this];rw[xR Bd];simp[List.getElem_reverse]
 rw[e xs.size (bK _),List.take_of_length_le Zaa]
def iG(ht:IsTup s.heap t items)(hs:s.heap.IsSliceOf sl .none .none (.int (-1) tk))
  (h:Q (.ref s.heap.objs.size) {s with heap:=s.heap.push {cls:=.type "tuple",data:=.seq items.toList.reverse.toArray}})
  (lF:items.size<=sizeLine):wpAny (model prog w) A (getItem (.ref t) (.ref sl)) Q E s:=by
 let iy:sizeOk (.seq items.toList.reverse.toArray):=by
  change items.toList.reverse.toArray.size<=sizeLine;simpa using lF
 let⟨os,sW,CW,wL⟩:=id hs;let I8:s.TypeIs (.ref sl) "slice":=⟨os,sW,CW⟩;unfold getItem
 try with_reducible show iJ ?_
 first|refine au (aH ?_)|skip
 show au (wpAny_sequenceKey ht.typeIs W9 ?_);show au (xT (name:=Str.ofString "__getitem__") ht.typeIs xQ
  (uh xQ ht.typeIs entry_tuple_getitem ?_ (args_tuple_getitem _ _)))
 change wpAny _ _ (Builtin.Tuple.tupleItemsOf (.ref t) >>= _) _ _ s;show au (tupleItemsOf_ ht ?_);show au (zY I8 ?_);rw[if_pos W9];show au (zbB hs ?_);change wpAny _ _ (if (((items.size:Int)-1)==0&&(-1:Int)==1&&items.size==items.size)=true then _ else _) _ _ s;rw[if_neg Zaa,zh3]
 first
  |exact au (m:=Builtin.Tuple.tupleExact _) (pB (aH ⟨_,rfl,aH h⟩) iy)
  |exact au (m:=Builtin.Tuple.tupleExact _) (pB (au (aH (aH ⟨_,rfl,aH h⟩))) iy)
  |exact au (au (m:=Builtin.Tuple.tupleExact _) (pB (aH (aH ⟨_,rfl,aH h⟩)) iy))
  |exact au (au (m:=Builtin.Tuple.tupleExact _) (pB (aH ⟨_,rfl,aH h⟩) iy))
end
end HT
namespace L2
open PySem PySem.Spec PyProof.Rows
section
variable {X:Cx}{e:Expr}{te:TE}{pos p2:Pos}
def vN(K:W.Frag):R2:=λx y H Q=>∃a b xs ys,x=.ref a/\y=.ref b/\fL K H a xs/\fL K H b ys/\xs.length+ys.length<=sizeLine /\
 (xs=[]->Q (.ref b) H)/\(ys=[]->Q (.ref a) H)/\∀p,H p=none->Q (.ref p) (upd H p (.tup (xs++ys)))
def vO:dj X (binaryOp .Add) (vN X.K):=by
 intro ak s Z H x y v u Q I rx ry h;let⟨a,b,xs,ys,rfl,rfl,ha,hb,hz,q0,q1,q2⟩:=h;cases rx;cases ry;let⟨its,r1,p1,_⟩:=I.tuple ha;let⟨its2,r2,p2,_⟩:=I.tuple hb;by_cases hx:xs=[]
 .exact HT.vM p1 p2 (r1.mY.mpr hx) ⟨.ref b,H,I,rfl,q0 hx⟩
 .refine HT.yH p1 p2 (λz=>hx (r1.mY.mp z)) (λz=>⟨.ref a,H,I,rfl,q1 (r2.mY.mp z)⟩) (λz=>?_) (by rw[<-r1.length,<-r2.length];show hz);show⟨.ref s.heap.objs.size,_,I.laid (t':=s.toks) (o:=.tup (xs++ys)) (λb ob q=>bM _ q) (bK _) ?_,rfl,q2 _ (I.hok.fresh (bK _))⟩;show⟨by rw[gP];show hz,_,r1.append r2,iV.new _ _⟩
def Ar(K:W.Frag):V->Option Int->Option Int->Hp->VK->Prop:=λx lo hi H Q=>∃a xs,x=.ref a/\fL K H a xs /\
 ((HT.bL xs.length 0 lo=0/\HT.bL xs.length xs.length hi=xs.length)->Q (.ref a) H)/\∀p,H p=none->Q (.ref p) (upd H p (.tup (mX xs lo hi)))
def zjL:yK X (Ar X.K):=by
 intro ak s Z H x v vl vu lo hi sl Q I rx hs pl pu h;let⟨a,xs,rfl,hx,hw,q⟩:=h;by_cases hz:HT.bL xs.length 0 lo=0/\HT.bL xs.length xs.length hi=xs.length
 .cases rx;let⟨its,r,ht,_⟩:=I.tuple hx;let hlen:its.toArray.size=xs.length:=by rw[dR];show r.length.symm
  show⟨"tuple",_,xQ.lookup,ht.typeIs,?_⟩;show HT.gH ht hs pl pu (by rw[hlen];show hz) ⟨.ref a,H,I,rfl,hw hz⟩
 .exact zmg ak s Z H (.ref a) v vl vu lo hi sl Q I rx hs pl pu ⟨a,xs,rfl,hx,hz,q⟩
def znz(he:PE X e te):PE X (.Subscript e (.Slice none none (some (.UnaryOp .USub (.Constant (.int 1) j p3) p4)) p2) pos) (λZ H Q=>te Z H λx H1=>∃a xs,x=.ref a/\fL X.K H1 a xs/\∀p,H1 p=none->Q (.ref p) (upd H1 p (.tup xs.reverse))):=by
 intro ak s Z H Q I h;show Subscript_ (bf (he ak s Z H _ I h) λv s1 hz=>?_);let⟨x,H1,I1,r1,a,xs,ex,hx,q⟩:=hz;subst ex;cases r1;show wpAny_Slice ?_;rw[evalPart_none];show aH (aH ?_);rw[evalPart_some];show bf (Y9 (r:=rU λi=>.int (-i)) Y_ RN ak s1 Z H1 (λv H'=>v=.int (-1)/\H'=H1) I1 ⟨1,rfl,rfl,rfl⟩) λu s2 hz=>?_;let⟨z,H2,I2,r2,ez,eH⟩:=hz;subst ez eH;let⟨t,rfl⟩:=r2;let⟨its,r,ht,hz⟩:=I2.tuple hx;let I4:Inv X ak Z H2 {s2 with heap:=s2.heap.push {cls:=.type "slice",data:=.fields #[.none,.none,.int (-1) t]}}:=I2.kept (t':=s2.toks) λb ob q=>bM _ q;let⟨its,r,ht,hz⟩:=I4.tuple hx;let hlen:its.toArray.size=xs.length:=by rw[dR];show r.length.symm
 change wpAny (model X.prog X.w) X.A (subscriptTail e (.Slice none none (some (.UnaryOp .USub (.Constant (.int 1) j p3) p4)) p2) (.ref a) (.ref s2.heap.objs.size)) (EP X ak Z Q) X.xe {s2 with heap:=s2.heap.push {cls:=.type "slice",data:=.fields #[.none,.none,.int (-1) t]}};show tail_any (ops:=[.ref a,.ref s2.heap.objs.size]) ht.typeIs xQ.lookup (HT.iG ht (Heap.IsSliceOf.new ..) ?_ (by rw[hlen];show hz)) (by with_unfolding_all rfl);show⟨.ref _,_,I4.laid (t':=s2.toks) (o:=.tup xs.reverse) (λb ob q=>bM _ q) (bK _) ?_,rfl,q _ (I4.hok.fresh (bK _))⟩;show⟨by rw[List.length_reverse];show hz,_,?_,iV.new _ _⟩;let rv:∀{xs:List V} {us:List Value},Vals xs us->Vals xs.reverse us.reverse:=λ{xs us} r=>by
  induction r with
  |nil=>show .nil|cons a b ih=>rw[Nq,Nq];show ih.append (.cons a .nil)
 simpa using rv r
end
section
variable {X:Cx}
def Av(K:W.Frag):R2:=λx y H Q=>∃l b xs zs,x=.ref l/\y=.ref b/\dF K H l xs/\dF K H b zs/\xs.length+zs.length<=sizeLine/\∀p,H p=none->Q (.ref p) (upd H p (.lst (xs++zs)))
def zm:dj X (binaryOp .Add) (Av X.K):=by
 intro ak s Z H x y v u Q I rx ry h;let⟨l,b,xs,zs,rfl,rfl,hH,hB,hz,q⟩:=h;cases rx;cases ry;let⟨its,r,pl,_⟩:=I.list hH;let⟨its2,r2,pl2,_⟩:=I.list hB;let⟨⟨cls,dd,data,sl⟩,ho,hc,n,hd⟩:=pl.isList;let⟨⟨cls2,dd2,data2,sl2⟩,nR,qU,n2,hd2⟩:=pl2.isList;simp only at hc hd qU hd2;subst hc hd qU hd2;show concat_meets ⟨_,ho,rfl⟩ ⟨_,nR,rfl⟩ noFill_list_add seq_list_add PySem.F.slot_list_add PySem.F.entry_list_add (PySem.F.args_list_add_2 _ _) (list_addW l b its.toArray its2.toArray n n2 dd dd2 sl sl2 (by rw[dR,dR,<-r.length,<-r2.length];show hz)) ⟨ho,nR,?_⟩;let ea:its.toArray++its2.toArray=(its++its2).toArray:=by simp
 rw[ea];show⟨.ref _,_,I.SN (t':=s.toks) (r.append r2) (by rw[gP];omega),rfl,q _ I.fresh⟩
def rF(K:W.Frag):R2:=λx y H Q=>pX (λi j=>.int (i+j)) x y H Q\/Av K x y H Q\/vN K x y H Q\/∃i j,x=.str i/\y=.str j/\i.length+j.length<=sizeLine/\Q (.str (i++j)) H
theorem zgJ:dj X (binaryOp .Add) (rF X.K):=CJ.or (zm.or (vO.or zfS))
end
end L2
namespace Mi
open PySem PySem.Spec PyProof.Rows L2
section
variable {K:W.Frag}{cA:Cl}{U:Ph}{H:Hp}{Q:VK}{p:Pr}
def aX.some'{o:Option Rz}(h:aX K cA U H o Q):∃z,o=some z:=by
 cases o with
 |none=>show h.elim|some z=>show⟨z,rfl⟩
theorem aX.of{o:Option Rz}{z:Rz}(h:aX K cA U H o Q)(e:o=some z):aX K cA U H (some z) Q:=e▸h
theorem aX.here{d:D}{v:V}(h:aX K cA U H (some (.dat d)) Q)(r:Rep K cA U H d v):Q v H:=h H v bD.refl r
theorem aX.tup{xs:List D}{vs:List V}{a:Addr}(h:aX K cA U H (some (.dat (.tup xs))) Q)(z:Zt U H)(r:aC K cA U H xs vs)(hp:H a=none):Q (.ref a) (upd H a (.tup vs)):=
 h _ _ (bD.new hp) (.tup (TupAt.new (z.nz hp)) (r.mono (bD.new hp).ext z.lz))
def yX.two{ds:List D}{vs:List V}{d d':D}(h:yX K cA U H [d,d'] vs):∃v v',vs=[v,v']/\Rv K cA U H d v/\Rv K cA U H d' v':=by
 cases h with
 |cons a r=>cases r with
  |cons b r=>cases r;show⟨_,_,rfl,a,b⟩
def yX.one(h:yX K cA U H [d] vs):∃v,vs=[v]/\Rv K cA U H d v:=by
 cases h with
 |cons a r=>cases r;show⟨_,rfl,a⟩
def Rv.int{i:Int}{v:V}(h:Rv K cA U H (.int i) v):v=.int i:=by cases (show Rep K cA U H (.int i) v from h);rfl
def Rv.bl{i:Bool}{v:V}(h:Rv K cA U H (.bl i) v):v=.bl i:=by cases (show Rep K cA U H (.bl i) v from h);rfl
def Rv.str{i:Str}{v:V}(h:Rv K cA U H (.str i) v):v=.str i:=by cases (show Rep K cA U H (.str i) v from h);rfl
def Rv.tup{xs:List D}{v:V}(h:Rv K cA U H (.tup xs) v):∃a vs,v=.ref a/\TupAt K U H a vs/\aC K cA U H xs vs:=by
 cases (show Rep K cA U H (.tup xs) v from h) with
 |tup a r=>show⟨_,_,rfl,a,r⟩
def Rv.sq{d:D}{xs:List D}{v:V}(h:Rv K cA U H d v)(e:qj d=some xs):∃a vs,v=.ref a/\(dF K H a vs\/fL K H a vs)/\aC K cA U H xs vs:=by
 cases d with
 |tup ys=>
  cases e;let⟨a,vs,e,t,r⟩:=Rv.tup h;show⟨a,vs,e,.inr t.iM,r⟩
 |fl ys=>
  cases e;let⟨a,vs,e,l,r⟩:=h;show⟨a,vs,e,.inl l,r⟩
 |_=>cases e
def zdr{f:Int->Int->Option D}{ds:List D}{z:Rz}(h:dM f ds=some z):∃i j d,ds=[.int i,.int j]/\f i j=some d/\z=.dat d:=by
 cases ds with
 |nil=>cases h|cons a t=>
 cases a with
 |int i=>
  cases t with
  |nil=>cases h|cons b t=>
  cases b with
  |int j=>
   cases t with
   |cons _ _=>cases h|nil=>
    let⟨d,e1,e2⟩:=jR.mp h;show⟨_,_,d,rfl,e1,e2.symm⟩
  |_=>cases h
 |_=>cases h
def Ku{f:Int->Int->Option D}(hp:prim p=dM f){C:Int->Int->Prop}{g:Int->Int->V}(hf:∀i j d,f i j=some d->C i j/\∀U H,Rep K cA U H d (g i j)):aY K cA p (r2 (rI C g)):=by
 intro U H ds vs Q zt rs o;rw[hp]at o;let⟨z,e⟩:=o.some';let⟨i,j,d,rfl,e1,rfl⟩:=zdr e;let⟨c,r⟩:=hf i j d e1;let⟨v,v',rfl,r1,r2⟩:=rs.two (ds:=[]);rw[r1.int,r2.int];show⟨_,_,rfl,i,j,rfl,rfl,c,(o.of e).here (r U H)⟩
def Kv{f:Int->Int->D}(hp:prim p=dM λi j=>some (f i j)){g:Int->Int->V}(hf:∀i j U H,Rep K cA U H (f i j) (g i j)):aY K cA p (r2 (pX g)):=by
 intro U H ds vs Q zt rs o;let⟨x,y,e,i,j,a,b,_,q⟩:=Ku (K:=K) (cA:=cA) (C:=λ_ _=>True) hp (λi j d e=>⟨trivial,λU H=>by cases e;show hf i j U H⟩) U H ds vs Q zt rs o;show⟨x,y,e,i,j,a,b,q⟩
def Kw{α:Type}{c:Prop}[Decidable c]{x y:α}(h:(if c then some x else none)=some y):c/\y=x:=by
 split at h
 .rename_i z;cases h;show⟨z,rfl⟩
 .cases h
theorem zlL:aY K cA .ao (r2 (pX λi j=>.int (i-j))):=Kv (f:=λi j=>.int (i-j)) rfl λi j _ _=>.int _
theorem zmq:aY K cA .mul (r2 (rI yF λi j=>.int (i*j))):=Ku rfl λi j d e=>by let⟨c,rfl⟩:=Kw e;show⟨c,λ_ _=>.int _⟩
theorem zkm:aY K cA .fdiv (r2 (rI yE λi j=>.int (i/j))):=Ku rfl λi j d e=>by let⟨c,rfl⟩:=Kw e;show⟨c,λ_ _=>.int _⟩
theorem znr:aY K cA .mod (r2 (rI (λ_ j=>0<j) λi j=>.int (i%j))):=Ku rfl λi j d e=>by let⟨c,rfl⟩:=Kw e;show⟨c,λ_ _=>.int _⟩
theorem znB:aY K cA .pow (r2 (rI Iv λi j=>.int (i^j.toNat))):=Ku rfl λi j d e=>by let⟨c,rfl⟩:=Kw e;show⟨c,λ_ _=>.int _⟩
theorem zo0:aY K cA .le (r2 (pX λi j=>.bl (decide (i<=j)))):=Kv (f:=λi j=>.bl (decide (i<=j))) rfl λi j _ _=>.bl _
theorem zoC:aY K cA .gt (r2 (pX λi j=>.bl (decide (j<i)))):=Kv (f:=λi j=>.bl (decide (j<i))) rfl λi j _ _=>.bl _
theorem zom:aY K cA .ge (r2 (pX λi j=>.bl (decide (j<=i)))):=Kv (f:=λi j=>.bl (decide (j<=i))) rfl λi j _ _=>.bl _
def zly:aY K cA .neg (λvs H Q=>∃x,vs=[x]/\rU (λi=>.int (-i)) x H Q):=by
 intro U H ds vs Q zt rs o;let⟨z,e⟩:=o.some';let e:Aj (λi=>.int (-i)) ds=some z:=e;cases ds with
 |nil=>cases e|cons a t=>
 cases a with
 |int i=>
  cases t with
  |cons _ _=>cases e|nil=>
   cases e;let⟨v,rfl,r1⟩:=rs.one;show⟨_,rfl,_,r1.int,aX.here (o.of rfl) (.int _)⟩
 |_=>cases e
def zoQ:aY K cA .eq (r2 (zj K cA id)):=by
 intro U H ds vs Q zt rs o;let⟨z,e⟩:=o.some';let e:GF id ds=some z:=e;unfold GF at e;split at e
 .obtain⟨b,e1,e2⟩:=jR.mp e;let⟨v,v',rfl,r1,r2⟩:=rs.two (ds:=[]);subst e2;show⟨_,_,rfl,U,_,_,b,r1,r2,e1,(o.of e).here (.bl _)⟩
 .cases e
def zoL:aY K cA .ne (r2 (zj K cA not)):=by
 intro U H ds vs Q zt rs o;let⟨z,e⟩:=o.some';let e:GF not ds=some z:=e;unfold GF at e;split at e
 .obtain⟨b,e1,e2⟩:=jR.mp e;let⟨v,v',rfl,r1,r2⟩:=rs.two (ds:=[]);subst e2;show⟨_,_,rfl,U,_,_,b,r1,r2,e1,(o.of e).here (.bl _)⟩
 .cases e
def zkI{f:Bool->Bool}{ds:List D}{z:Rz}(h:O6 f ds=some z):∃a b xs k,ds=[a,b]/\qj b=some xs/\memD a xs=some k/\z=.dat (.bl (f k)):=by
 unfold O6 at h;split at h
 .obtain⟨k,e1,e2⟩:=jR.mp h;let⟨xs,e3,e4⟩:=qM.mp e1;show⟨_,_,xs,k,rfl,e3,e4,e2.symm⟩
 .cases h
def znN:aY K cA .nin (r2 (Ks K cA not)):=by
 intro U H ds vs Q zt rs o;let⟨z,e⟩:=o.some';let⟨a,b,xs,k,rfl,e1,e2,rfl⟩:=zkI (show O6 not ds=some z from e);let⟨v,v',rfl,r1,r2⟩:=rs.two (ds:=[]);show⟨_,_,rfl,U,_,_,xs,k,r1,r2,e1,e2,(o.of e).here (.bl _)⟩
theorem Ky:∀{xs:List D} {ns:List Int} {vs:List V},fj xs=some ns->aC K cA U H xs vs->vs=ns.map V.int
 |[],ns,vs,h,r=>by cases h;cases r;rfl|d::xs,ns,vs,h,r=>by
  cases d with
  |int i=>
   simp only[fj,jR]at h;let⟨ns',h1,rfl⟩:=h;cases r with
   |cons a r=>cases a;rw[Ky h1 r];rfl
  |_=>simp[fj]at h
theorem Vd:∀(a b:List Int),ltI a b=HT.lexLt a b
 |_,[]=>by cases ‹List Int›<;>rfl|[],_::_=>rfl|x::xs,y::ys=>by
  unfold ltI;rw[Vd xs ys,HT.gQ]
def zoo:aY K cA .lt (r2 λx y H Q=>pX (λi j=>.bl (decide (i<j))) x y H Q\/I_ K x y H Q):=by
 intro U H ds vs Q zt rs o;let⟨z,e⟩:=o.some';let e:J3 ds=some z:=e;unfold J3 at e;split at e
 .cases e;let⟨v,v',rfl,r1,r2⟩:=rs.two (ds:=[]);show⟨_,_,rfl,.inl ⟨_,_,r1.int,r2.int,aX.here (o.of rfl) (.bl _)⟩⟩
 .split at e
  .rename_i a b h1 h2;cases e;let⟨v,v',rfl,r1,r2⟩:=rs.two (ds:=[]);let⟨p,us,rfl,t1,q1⟩:=r1.tup;let⟨p',us',rfl,t2,q2⟩:=r2.tup;let o2:aX K cA U H (some (.dat (.bl (ltI a b)))) Q:=by
    let o3:aX K cA U H (J3 [.tup _,.tup _]) Q:=o;unfold J3 at o3;simp only[h1,h2]at o3;show o3
   show⟨_,_,rfl,.inr ⟨p,p',a,b,rfl,rfl,by rw[<-Ky h1 q1];show t1.iM,by rw[<-Ky h2 q2];show t2.iM,?_⟩⟩;rw[<-Vd];show o2.here (.bl _)
  .cases e
 .cases e
def zny:aY K cA .add (r2 (rF K)):=by
 intro U H ds vs Q zt rs o;let o:aX K cA U H (vC ds) Q:=o;cases ds with
 |nil=>show False.elim o|cons a t=>
 cases a with
 |int i=>
  cases t with
  |nil=>show False.elim o|cons b t=>
  cases b with
  |int j=>
   cases t with
   |cons _ _=>show False.elim o|nil=>
    let⟨v,v',rfl,r1,r2⟩:=rs.two (ds:=[]);show⟨_,_,rfl,.inl ⟨_,_,r1.int,r2.int,aX.here o (.int _)⟩⟩
  |_=>show False.elim o
 |tup xs=>
  cases t with
  |nil=>show False.elim o|cons b t=>
  cases b with
  |tup ys=>
   cases t with
   |cons _ _=>show False.elim o|nil=>
    let⟨v,v',rfl,r1,r2⟩:=rs.two (ds:=[]);let⟨p,us,rfl,t1,q1⟩:=r1.tup;let⟨p',us',rfl,t2,q2⟩:=r2.tup;let o:aX K cA U H (if xs.length+ys.length<=sizeLine then some (.dat (.tup (xs++ys))) else none) Q:=o;by_cases hz:xs.length+ys.length<=sizeLine
    .rw[if_pos hz]at o;show⟨_,_,rfl,.inr (.inr (.inl ⟨p,p',us,us',rfl,rfl,t1.iM,t2.iM,by rw[<-q1.len,<-q2.len];show hz,λe=>?_,λe=>?_,λa ha=>o.tup zt (q1.app q2) ha⟩))⟩
     .subst e;cases q1;show o.here (.tup t2 q2)
     .subst e;cases q2;rw[zV]at o;show o.here (.tup t1 q1)
    .rw[if_neg hz]at o;show o.elim
  |_=>show False.elim o
 |fl xs=>
  cases t with
  |nil=>show False.elim o|cons b t=>
  cases b with
  |fl ys=>
   cases t with
   |cons _ _=>show False.elim o|nil=>
    let⟨v,v',rfl,⟨p,us,rfl,t1,q1⟩,⟨p',us',rfl,t2,q2⟩⟩:=rs.two (ds:=[]);let o:aX K cA U H (if xs.length+ys.length<=sizeLine then some (.nw (xs++ys)) else none) Q:=o;by_cases hz:xs.length+ys.length<=sizeLine
    .rw[if_pos hz]at o;show⟨_,_,rfl,.inr (.inl ⟨p,p',us,us',rfl,rfl,t1,t2,by rw[<-q1.len,<-q2.len];show hz,λa ha=>o a _ ha (q1.app q2)⟩)⟩
    .rw[if_neg hz]at o;show o.elim
  |_=>show False.elim o
 |str x=>
  cases t with
  |nil=>show False.elim o|cons b t=>
  cases b with
  |str y=>
   cases t with
   |cons _ _=>show False.elim o|nil=>
    let⟨v,v',rfl,r1,r2⟩:=rs.two (ds:=[]);let o:aX K cA U H (if x.length+y.length<=sizeLine then some (.dat (.str (x++y))) else none) Q:=o;by_cases hz:x.length+y.length<=sizeLine
    .rw[if_pos hz]at o;show⟨_,_,rfl,.inr (.inr (.inr ⟨_,_,r1.str,r2.str,hz,o.here (.str _)⟩))⟩
    .rw[if_neg hz]at o;show o.elim
  |_=>show False.elim o
 |_=>show False.elim o
def zmT:aY K cA .len (λxs H Q=>∃p ys,xs=[.ref p]/\(dF K H p ys\/fL K H p ys)/\Q (.int ys.length) H):=by
 intro U H ds vs Q zt rs o;let o:aX K cA U H (tu (λxs=>some (.dat (.int xs.length))) ds) Q:=o;unfold tu at o;split at o
 .obtain⟨v,rfl,r1⟩:=rs.one;let⟨z,e⟩:=o.some';let⟨xs,e1,e2⟩:=qM.mp e;let⟨a,us,rfl,sq,q⟩:=r1.sq e1;cases e2;show⟨a,us,rfl,sq,?_⟩;rw[<-q.len];show(o.of e).here (.int _)
 .exact o.elim
def zju:aY K cA .list (λxs H Q=>∃p ys,xs=[.ref p]/\(dF K H p ys\/fL K H p ys)/\∀l,H l=none->Q (.ref l) (upd H l (.lst ys))):=by
 intro U H ds vs Q zt rs o;let o:aX K cA U H (tu (λxs=>some (.nw xs)) ds) Q:=o;unfold tu at o;split at o
 .obtain⟨v,rfl,r1⟩:=rs.one;let⟨z,e⟩:=o.some';let⟨xs,e1,e2⟩:=qM.mp e;let⟨a,us,rfl,sq,q⟩:=r1.sq e1;cases e2;show⟨a,us,rfl,sq,λl hl=>(o.of e) l us hl q⟩
 .exact o.elim
def zix:aY K cA .tuple (λxs H Q=>∃p ys,xs=[.ref p]/\((dF K H p ys/\∀l,H l=none->Q (.ref l) (upd H l (.tup ys)))\/(fL K H p ys/\Q (.ref p) H))):=by
 intro U H ds vs Q zt rs o;let o:aX K cA U H (ql ds) Q:=o;unfold ql at o;split at o
 .rename_i d _;let⟨v,rfl,r1⟩:=rs.one;cases d with
  |tup xs=>
   let⟨a,us,rfl,t,q⟩:=r1.tup;show⟨a,us,rfl,.inr ⟨t.iM,aX.here o (.tup t q)⟩⟩
  |fl xs=>
   let⟨a,us,rfl,t,q⟩:=r1;show⟨a,us,rfl,.inl ⟨t,λl hl=>aX.tup o zt q hl⟩⟩
  |_=>show o.elim
 .exact o.elim
def zk6:aY K cA .yR (λxs H Q=>(∃i,xs=[.int i]/\Q (.int i) H)\/∃k,xs=[.bl k]/\Q (.int (if k then 1 else 0)) H):=by
 intro U H ds vs Q zt rs o;let o:aX K cA U H (J6 ds) Q:=o;cases ds with
 |nil=>show False.elim o|cons a t=>
 cases a with
 |int i=>
  cases t with
  |cons _ _=>show False.elim o|nil=>
   let⟨v,rfl,r1⟩:=rs.one;rw[r1.int];show .inl ⟨_,rfl,aX.here o (.int _)⟩
 |bl k=>
  cases t with
  |cons _ _=>show False.elim o|nil=>
   let⟨v,rfl,r1⟩:=rs.one;rw[r1.bl];show .inr ⟨_,rfl,aX.here o (.int _)⟩
 |_=>show False.elim o
def zk9:aY K cA .max2 (λxs H Q=>∃i j,xs=[.int i,.int j]/\Q (.int (if j>i then j else i)) H):=by
 intro U H ds vs Q zt rs o;let⟨x,y,e,i,j,rfl,rfl,q⟩:=Kv (K:=K) (cA:=cA) (p:=.max2) (f:=λi j=>.int (if j>i then j else i)) rfl (λi j _ _=>.int _) U H ds vs Q zt rs o;show⟨i,j,e,q⟩
def zhu:aY K cA .divmod (λxs H Q=>∃i j,xs=[.int i,.int j]/\yE i j/\∀p,H p=none->Q (.ref p) (upd H p (.tup [.int (i/j),.int (i%j)]))):=by
 intro U H ds vs Q zt rs o;let o:aX K cA U H (dM (λi j=>if 0<j/\j<1073741824 then some (.tup [.int (i/j),.int (i%j)]) else none) ds) Q:=o;let⟨z,e⟩:=o.some';let⟨i,j,d,rfl,e1,rfl⟩:=zdr e;let⟨c,rfl⟩:=Kw e1;let⟨v,v',rfl,r1,r2⟩:=rs.two (ds:=[]);rw[r1.int,r2.int];show⟨i,j,rfl,c,λp hp=>(o.of e).tup zt (.cons (.int _) (.cons (.int _) .nil)) hp⟩
theorem Ve:∀{xs:List D} {bs:List Bool} {vs:List V},fD xs=some bs->aC K cA U H xs vs->vs=bs.map V.bl
 |[],bs,vs,h,r=>by cases h;cases r;rfl|d::xs,bs,vs,h,r=>by
  cases d with
  |bl b=>
   simp only[fD,jR]at h;let⟨bs',h1,rfl⟩:=h;cases r with
   |cons q r=>cases q;rw[Ve h1 r];rfl
  |_=>simp[fD]at h
def zoi:aY K cA .ix (r2 (Sw K)):=by
 intro U H ds vs Q zt rs o;let o:aX K cA U H (Ut ds) Q:=o;unfold Ut at o;split at o
 .rename_i d i _;let⟨v,v',rfl,r1,r2⟩:=rs.two (ds:=[]);let⟨z,e⟩:=o.some';let⟨y,e1,e2⟩:=jR.mp e;let⟨xs,e3,e4⟩:=qM.mp e1;let⟨a,us,rfl,sq,q⟩:=r1.sq e3;let key:∃w,L2.qW us i=some w/\Rep K cA U H y w:=by
   unfold L2.qW at *;rw[<-q.len];let⟨j,h1,h2⟩:=qM.mp e4;let⟨w,h3,h4⟩:=q.get h2;show⟨w,by rw[h1];show h3,h4⟩
  let⟨w,hw,mV⟩:=key;subst e2;let q':=(o.of e).here mV;rcases sq with sq|sq
  .exact⟨_,_,rfl,.inl ⟨a,us,i,w,rfl,r2.int,sq,hw,q'⟩⟩
  .exact⟨_,_,rfl,.inr (.inl ⟨a,us,i,w,rfl,r2.int,sq,hw,q'⟩)⟩
 .exact o.elim
def rSl(K:W.Frag):V->Option Int->Option Int->Hp->VK->Prop:=λx lo hi H Q=>Je K x lo hi H Q\/Ar K x lo hi H Q
theorem zmN:yK X (rSl X.K):=yM.or zjL
def zjY{d:D}{lo hi:Option Int}{v:V}(zt:Zt U H)(r:Rv K cA U H d v)(o:aX K cA U H (cutD d lo hi) Q):rSl K v lo hi H Q:=by
 cases d with
 |tup xs=>
  let⟨a,us,rfl,t,q⟩:=r.tup;show .inr ⟨a,us,rfl,t.iM,λe=>?_,λp hp=>aX.tup o zt q.cut hp⟩;let hc:cut xs lo hi=xs:=by
   unfold cut;rw[q.len,e.1,e.2,List.drop_zero,Nat.sub_zero,<-q.len,Nu]
  let o:aX K cA U H (some (.dat (.tup (cut xs lo hi)))) Q:=o;rw[hc]at o;show o.here (.tup t q)
 |fl xs=>
  let⟨a,us,rfl,t,q⟩:=r;show .inl ⟨a,us,rfl,t,λp hp=>o p _ hp q.cut⟩
 |_=>show o.elim
end
end Mi
namespace L2
open PySem PySem.Spec PyProof.Rows
section
variable {κ:Type}[DecidableEq κ]
def putK(kvs:List (κ×V))(k:κ)(v:V):List (κ×V):=
 if (kvs.any λkv=>decide (kv.1=k))=true then kvs.map (λkv=>if kv.1=k then (kv.1,v) else kv) else kvs++[(k,v)]
def zer(kvs:List (κ×V))(k:κ)(v:V):(putK kvs k v).length<=kvs.length+1:=by
 unfold putK
 split
 .rw[bY];lia
 .rw[gP,eN,pQ];lia
def KV.any(r:KV kvs vs)(k:κ):(kvs.any λkv=>decide (kv.1=k))=vs.any λkv=>decide (kv.1=k):=by
 unfold KV at r
 induction r with
 |nil=>rfl|cons h t ih=>rw[List.any_cons,List.any_cons,ih,h.1]
def KV.repl(r:KV kvs vs)(k:κ)(ry:RelV y u) :
  KV (kvs.map λkv=>if kv.1=k then (kv.1,y) else kv) (vs.map λkv=>if kv.1=k then (kv.1,u) else kv):=by
 unfold KV at r ⊢
 induction r with
 |nil=>show .nil|@cons p q ps qs h t ih=>
  rw[jw,jw];show .cons ?_ ih;let⟨h1,h2⟩:=h;by_cases e:p.1=k
  .rw[if_pos e,if_pos (h1.symm.trans e)];show⟨h1,ry⟩
  .rw[if_neg e,if_neg (λz=>e (h1.trans z))];show⟨h1,h2⟩
def KV.put(r:KV kvs vs)(k:κ)(ry:RelV y u):KV (putK kvs k y) (stored vs k u):=by
 unfold putK stored;rw[r.any k];by_cases e:(vs.any λkv=>decide (kv.1=k))=true
 .rw[if_pos e,if_pos e];show r.repl k ry
 .rw[if_neg e,if_neg e];show Paired.snoc r ⟨rfl,ry⟩
end
def zoy(r:RelV (kV k) u):(cL P w).is k u=true:=by
 cases k with
 |inl i=>let⟨t,e⟩:=(show ∃t,u=Value.int i t from r);subst e;show zeA P w i t|inr x=>let⟨t,e⟩:=(show ∃t,u=Value.str x t from r);subst e;show zee P w x t
section
variable {P:Program}{w:World}{H:Hp}{h:Heap}{a:Addr}
theorem zoZ(ok:g8 P w H h)(e:Rd H a u):aW P w H h a u:=e.ok ok
theorem zoj(ok:g8 P w H h)(e:Rd H a (.dK kvs)):kvs.length<=sizeLine/\(a==sysModules)=false/\∃vs,KV kvs vs/\h.DictOf (cL P w) a vs:=
 show aW P w H h a (.dK kvs) from zoZ ok e
theorem zoh(ok:g8 P w H h)(e:H a=some (.dK kvs)):kvs.length<=sizeLine/\(a==sysModules)=false/\∃vs,KV kvs vs/\h.DictOf (cL P w) a vs:=zoj ok (.inl e)
end
section
variable {X:Cx}{ak:List (Addr×Obj)}{Z:St}{H:Hp}{s:Shared}{a:Addr}{y v:V}{u r:Value}{o:Option V}{A:Around}{E:Value->Shared->Prop}
def Inv.big(I:Inv X ak Z H s):sysModules<s.heap.objs.size:=by
 let h:mainGlobals<s.heap.objs.size:=(I.mod.glob.keeps I.bk).lt;show Nat.lt_trans W9 h
theorem zlj(I:Inv X ak Z H s)(mu:HX (H a))(hs:Heap.SameBut a s.heap h')(he:∃q,h'.get? a=some q)(new:aW X.prog X.w (upd H a ob) h' a ob) :
  Inv X ak Z (upd H a ob) {s with heap:=h',toks:=t'}:=
 I.write (x:=a) (e:=a) mu (.inl rfl) (λb q hb z=>(hs.2 b hb).trans z) he new
theorem znx(z:kvs.length<=sizeLine)(hd:(a==sysModules)=false)(rel:KV kvs vs)(dd:h'.DictOf (cL P w) a vs) :
  aW P w H' h' a (.dK kvs):=⟨z,hd,vs,rel,dd⟩
end
theorem zio(h:Heap)(hb:sysModules<h.objs.size):aW P w H (h.push {cls:=.type "dict",data:=.dict #[]}) h.objs.size (.dK []):=
 ⟨lH _,Nf.mpr (Ne.symm (cR hb)),[],.nil,Heap.DictOf.new h⟩
def qx:List (TE×TE)->St->Hp->(List (V×V)->Hp->Prop)->Prop
 |[],_,H,Q=>Q [] H|(tk,tv)::r,Z,H,Q=>tk Z H λx H1=>tv Z H1 λy H2=>qx r Z H2 λps H3=>Q ((x,y)::ps) H3
noncomputable abbrev VV:List (V×V)->List (Value×Value)->Prop:=Paired λp q=>RelV p.1 q.1/\RelV p.2 q.2
def Pa(X:Cx)(pos:Pos)(keys:List (Option Expr))(values:List Expr)(DQ:List (TE×TE)):Prop:=
 ∀(ak:List (Addr×Obj)) (s:Shared) (Z:St) (H:Hp) (Q:List (V×V)->Hp->Prop),Inv X ak Z H s->qx DQ Z H Q->
  wpAny (model X.prog X.w) X.A (evalPairs (pairTrees keys values X.env pos)) (λvs s'=>∃ps H',Inv X ak Z H' s'/\VV ps vs/\Q ps H') X.xe s
theorem zk8:Pa X pos [] [] []:=λak s Z H Q I h=>pairTrees_nil_walk ⟨[],H,I,.nil,h⟩
theorem zib(hk:PE X k tk)(hv:PE X v tv)(hr:Pa X pos ks vs DQ) :
  Pa X pos (some k::ks) (v::vs) ((tk,tv)::DQ):=λak s Z H Q I h=>
 pairTrees_cons_walk (bf (hk ak s Z H _ I h) λu s1 hx=>eU hx λx H1 I1 rx q1=>bf (hv ak s1 Z H1 _ I1 q1) λw2 s2 hx=>eU hx λy H2 I2 ry q2=>
  bf (hr ak s2 Z H2 _ I2 q2) λws s3 hx=>eU hx λps H3 I3 rel q3=>⟨(x,y)::ps,H3,I3,.cons ⟨rx,ry⟩ rel,q3⟩)
def lu(kvs more:List (Key×V)):List (Key×V):=more.foldl (λacc kv=>putK acc kv.1 kv.2) kvs
def KV.merge:∀{more:List (Key×V)} {rs:List (Key×Value)} {kvs:List (Key×V)} {vs:List (Key×Value)},KV more rs->KV kvs vs->KV (lu kvs more) (merged vs rs):=by
 intro more rs kvs vs r;unfold KV at r
 induction r generalizing kvs vs with
 |nil=>intro q;show q|@cons p q ps qs h t ih=>
  intro r0;let e:KV (putK kvs p.1 p.2) (stored vs q.1 q.2):=by
   let:=r0.put p.1 h.2;rw[<-h.1];show this
  show ih e
theorem zbj:∀(more kvs:List (Key×V)),(lu kvs more).length<=kvs.length+more.length
 |[],kvs=>by change kvs.length<=kvs.length+0;lia|p::r,kvs=>by
  let h1:=zbj r (putK kvs p.1 p.2);let h2:=zer kvs p.1 p.2;change (lu (putK kvs p.1 p.2) r).length<=_;rw[eN];lia
theorem zcr:∀{kvs:List (Key×V)} {ws:List (Value×Value)},VV (kvs.map λkv=>(kV kv.1,kv.2)) ws->∃rs,Carries (cL P w) ws rs/\KV kvs rs
 |[],_,r=>by rw[Hy]at r;cases r;show⟨[],True.intro,.nil⟩|p::kvs,_,r=>by
  rw[jw]at r;cases r with
  |@cons a b as bs h t=>
   let⟨rs,c,q⟩:=zcr (P:=P) (w:=w) t;let⟨b1,b2⟩:=b;show⟨(p.1,b2)::rs,⟨zoy h.1,rfl,c⟩,.cons ⟨rfl,h.2⟩ q⟩
def Kz(DQ:List (TE×TE)):TE:=λZ H Q=>∀p,H p=none->qx DQ Z (upd H p (.dK [])) λps H2=>H2 p=some (.dK [])/\∃kvs:List (Key×V),ps=kvs.map (λkv=>(kV kv.1,kv.2))/\kvs.length<=15/\Q (.ref p) (upd H2 p (.dK (lu [] kvs)))
def zjW(h:Pa X pos keys values DQ)(lK:keys.all (·.isSome)=true)(hl:keys.length=values.length)(h0:keys≠[])
  (h15:keys.length<=15):PE X (.Dict keys values pos) (Kz DQ):=by
 intro ak s Z H Q I q;let hn:=I.hok.fresh (bK s.heap.objs.size);let I1:=I.laid (a:=s.heap.objs.size) (o:=.dK []) (h':=s.heap.push {cls:=.type "dict",data:=.dict #[]}) (t':=s.toks) (λ_ _ q=>bM _ q) (bK _) (zio s.heap I.big);show wpAny_Dict_walk (knd:=cL X.prog X.w) lK hl h0 h15 (bf (h ak _ Z _ _ I1 (q _ hn)) λws s2 hz=>?_);let⟨ps,H2,I2,rel,e,kvs,ep,lk,q2⟩:=hz;subst ep;let⟨rs,c,rk⟩:=zcr (P:=X.prog) (w:=X.w) rel;let⟨z,hd,vs0,r0,dd⟩:=zoh I2.hok e;cases r0;show⟨rs,c,dd,λh' S_ hs=>⟨.ref s.heap.objs.size,_,?_,rfl,q2⟩⟩;let hz:(lu [] kvs).length<=sizeLine:=by
  let h1:=zbj kvs [];rw[pQ]at h1;rw[uM];lia
 let he:∃q,h'.get? s.heap.objs.size=some q:=let ⟨q,_,_,hq,_⟩:=S_;⟨q,hq⟩;show zlj I2 (by rw[e];show True.intro) hs he (znx hz hd (rk.merge .nil) S_)
end L2
namespace Mi
open PySem PySem.Spec PyProof.Rows L2
section
variable {X:Cx}{cA:Cl}{ao:Nat->Nat->Bool}{aj:Bool}{F:Fn}{EX:XS}{a b c d e o:Expr}{A B C Dd E' O:E}{pos pp p2 apos cpos:Pos}{es:List Expr}{Xs:Es}{fz:Bool}{p:Pr}{x:Str}{U:Ph}{H:Hp}{s:S}{lo hi:Option Expr}{Lo Hi:Eo}
def KC(X:Cx)(cA:Cl)(ao:Nat->Nat->Bool)(aj:Bool)(F:Fn)(EX:XS)(oe:Option Expr)(m:Eo):Prop:=
 PO X oe (λZ H Q=>∃U J s,bx X.K cA U H Z J/\aF X.K cA U H s/\Run X.K cA (yW ao aj F m J) U H s (λi _ U' H'=>Q i H') (eX X.K cA EX Z))
def PO.weak{oe:Option Expr}{t t':TO}(h:PO X oe t)(f:∀Z H Q,t' Z H Q->t Z H Q):PO X oe t':=by
 intro ak s Z H Q I q;show h ak s Z H Q I (f Z H Q q)
theorem zo7:KC X cA ao aj F EX none .no:=PO.weak zj0 λZ H Q hh=>un hh λU J s hL hS h=>h.bO hS
theorem znv(ha:SE X cA ao aj F EX a A):KC X cA ao aj F EX (some a) (.yes A):=PO.weak (zjv ha) λZ H Q hh=>un hh λU J s hL hS h=>by
 show aZ hL hS h λx H1 U1 d1 s1 x1 hL1 aG r1 h1=>?_;let⟨i,_,e,h3⟩:=Kg r1 h1;show⟨i,e,h3.bO aG⟩
theorem KD{β:Type}{Z:L2.St}{J:Vs}{m:Eo}{k:Option Int->M β}{P:β->S->Ph->Hp->Prop}(hL:bx X.K cA U H Z J)(hS:aF X.K cA U H s)(h:Run X.K cA (M.bd (yW ao aj F m J) k) U H s P (eX X.K cA EX Z)){Q:Option Int->Hp->Prop}
  (f:∀i H1 U1 s1,Ext U H U1 H1->bx X.K cA U1 H1 Z J->aF X.K cA U1 H1 s1->Run X.K cA (k i) U1 H1 s1 P (eX X.K cA EX Z)->Q i H1) :
  ∃U J s,bx X.K cA U H Z J/\aF X.K cA U H s/\Run X.K cA (yW ao aj F m J) U H s (λi _ U' H'=>Q i H') (eX X.K cA EX Z):=
 ⟨U,J,s,hL,hS,h.bd.imp λi s1 U1 H1 ⟨x1,r1,h1⟩=>f i H1 U1 s1 x1 (hL.mono x1 hS.lz) r1 h1⟩
theorem zon(ha:SE X cA ao aj F EX a A)(hl:KC X cA ao aj F EX lo Lo)(hh:KC X cA ao aj F EX hi Hi):SE X cA ao aj F EX (.Subscript a (.Slice lo hi none p2) pos) (.sl fz A Lo Hi):=PE.weak (ziy zmN ha hl hh) λZ H Q hh=>un hh λU J s hL hS h=>by
 show aZ hL hS h λx H1 U1 d1 s1 x1 hL1 aG r1 h1=>KD hL1 aG h1 λl H2 U2 s2 x2 hL2 aP h2=>KD hL2 aP h2 λu H3 U3 s3 x3 rE iQ h3=>?_;let⟨dd,rv,h4⟩:=O9 iQ ((r1.mono x2 aG.lz).mono x3 aP.lz) h3;show zjY iQ.zs rv (nW iQ h4)
theorem znw(ha:SE X cA ao aj F EX a A):SE X cA ao aj F EX (.Subscript a (.Slice none none (some (.UnaryOp .USub (.Constant (.int 1) j p3) p4)) p2) pos) (.pr true .rev (.cons A .nil)):=PE.weak (znz ha) λZ H Q hh=>un hh λU J s hL hS h=>by
 let h:Run X.K cA (M.bd (M.bd (ev ao aj F A J) λx=>M.bd (M.ret []) λz=>M.ret (x::z)) λvs=>M.bd (dH vs) λds=>bw true (prim .rev ds)) U H s _ _:=h;simp only[iD]at h;show aZ hL hS h λx H1 U1 d1 s1 x1 hL1 aG r1 h1=>?_;let⟨ds,rs,h3⟩:=nU aG (.cons r1 .nil) h1;let o:aX X.K cA U1 H1 (Ds ds) Q:=nW aG h3;unfold Ds at o;split at o
 .obtain⟨v,e,r⟩:=rs.one;cases e;let⟨ad,us,e2,t,q⟩:=r.tup;subst e2;show⟨ad,us,rfl,t.iM,λp hp=>aX.tup o aG.zs q.rev hp⟩
 .exact o.elim
theorem zdB:∀bs:List Bool,(List.range bs.length).all (λi=>(bs[i]?).getD false)=bs.all id
 |[]=>rfl|b::r=>by
  rw[eN,Rf,oG,List.all_map,oG];let:=zdB r;simp only[Function.comp_def,FW,List.getElem?_cons_zero,Option.getD_some,id];rw[this]
def zgq(hc:X.aj=true):dG X (.builtin "all") (λxs H Q=>∃(p:Addr) (bs:List Bool),xs=[.ref p]/\dF X.K H p (bs.map V.bl)/\Q (.bl (bs.all id)) H):=by
 rintro ak s Z H xs us Q I r ⟨p,bs,e,hp,q⟩;subst e;let⟨u,rfl,ru⟩:=Vals.one r;cases (show u=Value.ref p from ru);let⟨its,rv,pl,hz⟩:=I.list hp;let hl:s.heap.IsList p its.toArray:=pl.isList;let hpn:p≠s.heap.objs.size:=by
  let⟨o,hg,_⟩:=hl;show cR (bJ hg)
 show call_all_walk (Np hl ?_);show⟨_,_,_,_,_,_,λi=>(bs[i]?).getD false,rfl,Walks.list (A:=X.A.in1) (I.ok.hd hc) _ p hpn its.toArray,⟨⟨_,fW _ rfl,rfl,rfl⟩,hl.push _⟩,?_,λh' tk hk=>?_⟩
 .intro i v s' Q' E' hP hQ;let hi:its[i]?=some v:=by simpa using hP
  let hb:∃b,bs[i]?=some b:=by
   let hlt:i<its.length:=(jr.mp hi).1;let z:=rv.length;rw[bY]at z;show⟨_,fV gV⟩
  let⟨b,hb⟩:=hb;let⟨u,e1,e2⟩:=rv.get (i:=i) (x:=V.bl b) (by rw[lD,hb];rfl);rw[hi]at e1;cases e1;cases (show v=Value.bool b from e2);let hQ:Q' ((bs[i]?).getD false) s':=hQ;rw[hb]at hQ;show uf hQ
 .let ez:(List.range its.toArray.size).all (λi=>(bs[i]?).getD false)=bs.all id:=by
   let z:=rv.length;rw[bY]at z;rw[dR,<-z];show zdB bs
  rw[ez];show⟨.bl (bs.all id),H,I.kept (h':=h') (t':=tk) (old_kept hk),rfl,q⟩
def zn9{K:W.Frag}:aY K cA .all (λxs H Q=>∃(p:Addr) (bs:List Bool),xs=[.ref p]/\dF K H p (bs.map V.bl)/\Q (.bl (bs.all id)) H):=by
 intro U H ds vs Q zt rs o;let o:aX K cA U H (Dr ds) Q:=o;unfold Dr at o;split at o
 .obtain⟨v,rfl,⟨ad,us,rfl,l,q⟩⟩:=rs.one;let⟨z,e⟩:=o.some';let⟨bs,e1,e2⟩:=jR.mp e;subst e2;show⟨ad,bs,rfl,by rw[<-Ve e1 q];show l,(o.of e).here (.bl _)⟩
 .exact o.elim
def Dt(k:Bool):Value->Bool
 |.bool c=>c==k|_=>false
theorem zmB{A:Around}{sh:Shared}{k:Bool}{bs:List Bool}{its:List Value}(rv:Vals (bs.map V.bl) its):∀y,y∈its.toArray->SeqAt.EqAt A sh y (.bool k) (Dt k y):=λy hy=>by
 let hy:y∈its:=by simpa using hy
 let⟨i,hi,e⟩:=Hr hy;let hl:=rv.length;rw[bY]at hl;let⟨u,e1,e2⟩:=rv.get (i:=i) (x:=V.bl (bs[i]' gV)) (by rw[lD,fV gV];rfl);rw[fV hi,e]at e1;cases e1;cases e2;show SeqAt.EqAt.bool_bool _ _
def ziw{h:Heap}{x:D}{e:Value->Bool}:∀{xs:List D} {us:List Value},jN h xs us->(∀u∈us,∃d,Is h d u/\cM 50 d x=some (e u))->(∀d∈xs,∃k,cM 50 d x=some k)->us.countP e=sZ x xs:=by
 intro xs
 induction xs with
 |nil=>intro us r _ _;cases r;rfl|cons d ds ih=>
  intro us r he hk;cases r with
  |@cons _ u _ us a r=>
   rw[List.countP_cons,ih r (λu hu=>he u (dI _ hu)) λd hd=>hk d (dI _ hd)];let⟨d',q,Cr⟩:=he u fK;let⟨k,Aw⟩:=hk d fK;let:=zgT 50 q a Cr Aw;change _+_=sZ x ds+(if cM 50 d x=some true then 1 else 0);rw[Aw,this];cases k<;>rfl
def KH(K:W.Frag)(cA:Cl)(x:V)(xs:List V)(H:Hp)(Q:VK):Prop:=∃U ds d v b,xs=[v]/\Rv K cA U H (.fl ds) x/\Rv K cA U H d v/\memD d ds=some b/\Q (.int (sZ d ds:Nat)) H
def zgj(hu:X.A.units+60<cLine):CZ X "list.count" (KH X.K cA):=by
 rintro ak sh Z H x xs v us Q I rx r ⟨U,ds,d,y,b,e2,r1,r2,hm,q⟩;subst e2;let⟨u,rfl,ru⟩:=Vals.one r;let jh:X.A.in1.units+50<cLine:=by change X.A.units+1+50<cLine;lia
 let i1:=Aq I r2 ru;cases Aq I r1 rx with
 |@fl l _ its p rr=>
  let⟨e,he,_⟩:=Vb hm rr;let⟨⟨cls,dd,data,sl⟩,hg,hc,n,hd⟩:=p;simp only at hc hd;subst hc hd;show B_ PySem.F.slot_list_count ⟨_,hg,rfl⟩ PySem.F.entry_list_count (PySem.F.args_list_count_2 _ _) (SeqAt.list_countAt l _ n dd sl u e) ⟨hg,λw hw=>?_,?_⟩
  .obtain⟨d',q1,q2⟩:=he w (by simpa using hw);show Kr 50 jh q1 i1 q2
  .refine⟨.int (sZ d ds:Nat),H,I.tok _,?_,q⟩;rw[<-ziw rr he (Va hm)];show⟨_,rfl⟩
 |oth k=>cases k
theorem zg8:∀{bs:List Bool} {its:List Value} {j:Nat},Vals (bs.map V.bl) its->bs.idxOf? k=some j->∃hj:j<its.length,Dt k its[j]=true/\∀m (hm:m<its.length),m<j->Dt k its[m]=false
 |[],_,j,.nil,h=>by simp at h|b::bs,_,j,.cons r t,h=>by
  cases r;rw[List.idxOf?_cons]at h;by_cases hb:b=k
  .subst hb;simp at h;subst h;show⟨Nat.zero_lt_succ _,by simp[Dt],λm hm z=>absurd z (Nat.not_lt_zero _)⟩
  .let hb':(b==k)=false:=by simpa using hb
   rw[hb']at h;simp at h;let⟨j',h1,h2⟩:=h;subst h2;let⟨hj,a1,a2⟩:=zg8 t h1;show⟨by simpa using hj,by simpa using a1,λm hm z=>?_⟩;cases m with
   |zero=>simp[Dt,hb']|succ m=>simpa using a2 m (by simpa using hm) gV
def zgV:CZ X "list.index" (λx xs H Q=>∃(l:Addr) (bs:List Bool) (b:Bool) (j:Nat),x=.ref l/\xs=[.bl b]/\dF X.K H l (bs.map V.bl)/\bs.idxOf? b=some j/\Q (.int j) H):=by
 rintro ak sh Z H x xs v us Q I rx r ⟨l,bs,b,j,e1,e2,hl,hj,q⟩;subst e1 e2;cases (show v=Value.ref l from rx);let⟨u,rfl,ru⟩:=Vals.one r;cases (show u=Value.bool b from ru);let⟨its,rv,pl,hz⟩:=I.list hl;let⟨⟨cls,dd,data,sl⟩,hg,hc,n,hd⟩:=pl.isList;simp only at hc hd;subst hc hd;let⟨hlt,h1,h2⟩:=zg8 rv hj;let hs:(j:Int)<2^63-1:=by
  let z:=rv.length;rw[uM]at hz
  lia
 show B_ PySem.F.slot_list_index ⟨_,hg,rfl⟩ PySem.F.entry_list_index (PySem.F.args_list_index_2 _ _) (SeqAt.list_indexAt l its.toArray n dd sl (.bool b) (Dt b) j (by simpa using hlt) hs (by simpa using h1) (λm hm z=>by simpa using h2 m (by simpa using hm) z)) ⟨hg,zmB rv,?_⟩;show⟨.int j,H,I.tok _,⟨_,rfl⟩,q⟩
def GR(K:W.Frag)(cA:Cl)(p:Pr)(r:V->List V->Hp->VK->Prop):Prop:=aY K cA p (λvs H Q=>∃x xs,vs=x::xs/\r x xs H Q)
def zim{K:W.Frag}:GR K cA .count (KH K cA):=by
 intro U H ds vs Q zt rs o;let o:aX K cA U H (qm ds) Q:=o;unfold qm at o;split at o
 .obtain⟨v,v',rfl,r1,r2⟩:=rs.two (ds:=[]);let⟨z,e⟩:=o.some';let⟨b,e1,e2⟩:=jR.mp e;subst e2;show⟨_,_,rfl,U,_,_,_,b,rfl,r1,r2,e1,(o.of e).here (.int _)⟩
 .exact o.elim
def ziR{K:W.Frag}:GR K cA .index (λx xs H Q=>∃(l:Addr) (bs:List Bool) (b:Bool) (j:Nat),x=.ref l/\xs=[.bl b]/\dF K H l (bs.map V.bl)/\bs.idxOf? b=some j/\Q (.int j) H):=by
 intro U H ds vs Q zt rs o;let o:aX K cA U H (qp ds) Q:=o;unfold qp at o;split at o
 .obtain⟨v,v',rfl,⟨ad,us,rfl,l,q⟩,r2⟩:=rs.two (ds:=[]);let⟨z,e⟩:=o.some';let⟨j,e1,e2⟩:=jR.mp e;let⟨bs,e3,e4⟩:=qM.mp e1;subst e2;show⟨_,_,rfl,ad,bs,_,j,rfl,by rw[r2.bl],by rw[<-Ve e3 q];show l,e4,(o.of e).here (.int _)⟩
 .exact o.elim
def kdT:Kd->String
 |.list=>"list"|.str=>"str"|.tuple=>"tuple"|_=>"dict"
def zlh{K:W.Frag}{k:Kd}{dd:D}{v:V}(h:m_ k dd=true)(r:Rv K cA U H dd v):Sy K (kdT k) v H:=by
 cases k<;>cases dd<;>first
  |(cases h;done)
  |(let⟨a,vs,rfl,l,_⟩:=r;show .inl ⟨rfl,vs,l⟩)
  |(rw[r.str];show rfl)
  |(cases (show Rep K cA U H (.fd _ _) v from r) with|@fd _ _ _ q n=>show .inr (.inr (.inl ⟨rfl,.inl ⟨_,q⟩⟩)))|(cases (show Rep K cA U H (.tup _) v from r) with|tup l _=>show .inr (.inl ⟨rfl,_,l.iM⟩))
theorem KJ{k:Kd}{id:String}{name:Str}{r:V->List V->Hp->VK->Prop}(pa:PlainAttrs (kdT k))(slot:Slot (kdT k) name id)(SJ:typeOf (.builtin id)=pure (.type "method_descriptor"))(hm:CZ X id r)(hr:GR X.K cA p r)
  (ho:SE X cA ao aj F EX o O) (ha:SA X cA ao aj F EX (e::es) Xs)
  (bN:attributeBase o name X.env (eval o X.env)=eval o X.env:=by rfl)
  (gR:((backTo cpos (starEach (e::es) X.env)).all (λx=>!x.1)&&(backToKw cpos (keywordEach [] X.env)).all (λx=>x.1.isSome)
  &&decide ((e::es).length+([]:List Keyword).length+(if ([]:List Keyword).isEmpty then 0 else 1)<30))=true:=by rfl)
  (cO:(apos.endLine==cpos.line)=true:=by rfl) (hs:starEach (e::es) X.env=(false,eval e X.env)::starEach es X.env:=by rfl) (bC:(backTo cpos (starEach es X.env)).any (·.1)=false:=by rfl) :
  SE X cA ao aj F EX (.Call (.Attribute o name apos) (e::es) [] cpos) (.meth fz p k O Xs):=PE.weak (Zv pa slot SJ hm ho ha bN gR cO hs bC) λZ H Q hh=>un hh λU J s hL hS h=>by
 show aZ hL hS h λx H1 U1 d1 s1 x1 hL1 aG r1 h1=>?_;let⟨dd,rv,h2⟩:=O9 aG r1 h1;by_cases hk:m_ k dd=true
 .rw[if_pos hk]at h2;show⟨zlh hk rv,tH hL1 aG h2 λys H2 U2 ds s2 x2 hL2 aP r2 h3=>?_⟩;let⟨ds,rs,h4⟩:=nU aP (.cons (r1.mono x2 aG.lz) r2) h3;let⟨_,_,e,q⟩:=hr U2 H2 ds _ _ aP.zs rs (nW aP h4);cases e;show q
 .rw[if_neg hk]at h2;show h2.elim
def Pb:Kd->String->Bool
 |.int,"int"=>true|.int,"bool"=>true|.bool,"bool"=>true|.str,"str"=>true|.tuple,"tuple"=>true|.list,"list"=>true|.dict,"dict"=>true|_,_=>false
def wO:Kd->Option Value
 |.int=>some (.type "int")|.bool=>some (.type "bool")|.str=>some (.type "str")|.tuple=>some (.type "tuple")|.list=>some (.type "list")|.dict=>some (.type "dict")|_=>none
def znF{K:W.Frag}{k:Kd}{cu:Value}(h:wO k=some cu){T:String}(hT:T∈["NoneType","bool","int","str","tuple","list","dict"]):PySem.W.kitOne K (.type T) cu=some (Pb k T):=by
 simp only[cX,List.mem_nil_iff,lR]at hT;cases k<;>simp only[wO]at h<;>cases h<;>rcases hT with rfl|rfl|rfl|rfl|rfl|rfl|rfl<;>rfl
structure vP(K:W.Frag)(cA:Cl)(ao:Nat->Nat->Bool):Prop where
 xc:∀c,XC K (cA.a c)
 ao:∀c e,PySem.W.kitOne K (.ref (cA.a c)) (.ref (cA.a e))=some (ao c e)
 qg:∀c,PySem.W.kitOne K (.ref (cA.a c)) (.type "ValueError")=some true
def GX(cA:Cl):Kd->V
 |.cls e=>.ref (cA.a e)|.qg=>.ty "ValueError"|.int=>.ty "int"|.bool=>.ty "bool"|.str=>.ty "str"|.tuple=>.ty "tuple"|.list=>.ty "list"|.dict=>.ty "dict"
def ziW(Cs:wO k=none->vP X.K cA ao) :
  dG X (.builtin "isinstance") (λxs H Q=>∃U d v bb,xs=[v,GX cA k]/\Rv X.K cA U H d v/\jB ao d k=some bb/\Q (.bl bb) H):=by
 rintro ak sh Z H xs us Q I r ⟨U,d,v,bb,e,rd,hi,q⟩;subst e;let⟨u,w,rfl,ru,Vf⟩:=Vals.two r;let vQ:∀tk,EP X ak Z Q (.bool bb) {sh with toks:=tk}:=λtk=>⟨.bl bb,H,I.tok tk,rfl,q⟩;let bt:∀{T:String} {Hh:Heap->Prop},PySem.W.KitX X.K u (.type T) Hh->Hh sh.heap->T∈["NoneType","bool","int","str","tuple","list","dict"]->u≠Value.builtin "__main__.__loader__#opaque"->(∃cu,wO k=some cu/\w=cu/\Pb k T=bb)->wpAny (model X.prog X.w) X.A (PySem.call (.builtin "isinstance") [u,w]) (EP X ak Z Q) X.xe sh:=λ{T Hh} zzZ hh hT hx ⟨cu,h1,h2,h3⟩=>by
  subst h2 h3;show PySem.W.kia_one zzZ I.sS hh (znF h1 hT) hx vQ
 let wv:∀cu,wO k=some cu->w=cu:=λcu h=>by
  cases k<;>simp only[wO]at h<;>cases h<;>show Vf
 let fin:∀T,jB ao d k=(match wO k with|some _=>some (Pb k T)|none=>none)->∃cu,wO k=some cu/\w=cu/\Pb k T=bb:=λT h=>by
  rw[hi]at h;cases z:wO k with
  |none=>rw[z]at h;cases h|some cu=>rw[z]at h;cases h;show⟨cu,rfl,wv cu z,rfl⟩
 cases d with
 |non=>
  cases (show Rep X.K cA U H .non v from rd);cases (show u=Value.none from ru);show bt PySem.W.kitx_none trivial Zaa (λz=>nomatch z) (fin "NoneType" (by cases k<;>rfl))
 |bl b=>
  cases rd.bl;cases (show u=Value.bool b from ru);show bt PySem.W.kitx_bool trivial Zaa (λz=>nomatch z) (fin "bool" (by cases k<;>rfl))
 |int i=>
  cases rd.int;let⟨t,z⟩:=(show ∃t,u=Value.int i t from ru);cases z;show bt PySem.W.kitx_int trivial Zaa (λz=>nomatch z) (fin "int" (by cases k<;>rfl))
 |str y=>
  cases rd.str;let⟨t,z⟩:=(show ∃t,u=Value.str y t from ru);cases z;show bt PySem.W.kitx_str trivial Zaa (λz=>nomatch z) (fin "str" (by cases k<;>rfl))
 |tup xs=>
  let⟨ad,vs,rfl,h1,h2⟩:=rd.tup;cases (show u=Value.ref ad from ru);let⟨its,_,ht,_⟩:=I.tuple h1.iM;let⟨o,q1,q2,_⟩:=ht;show bt PySem.W.kitx_tuple ⟨o,q1,q2⟩ Zaa (λz=>nomatch z) (fin "tuple" (by cases k<;>rfl))
 |fl xs=>
  let⟨ad,vs,rfl,h1,h2⟩:=rd;cases (show u=Value.ref ad from ru);let⟨its,_,ht,_⟩:=I.list h1;let⟨o,q1,q2,_⟩:=ht.isList;show bt PySem.W.kitx_list ⟨o,q1,q2⟩ Zaa (λz=>nomatch z) (fin "list" (by cases k<;>rfl))
 |fd ks vs=>
  cases (show Rep X.K cA U H (.fd ks vs) v from rd) with
  |@fd ad kk ii q1 n=>
   cases (show u=Value.ref ad from ru);let⟨_,_,vs,_,o,es',ep,g1,g2,_⟩:=(show aW X.prog X.w H sh.heap ad (.dK [(.inr kk,.int ii)]) from I.hok ad _ q1);show bt PySem.W.kitx_dict ⟨o,g1,g2.1⟩ Zaa (λz=>nomatch z) (fin "dict" (by cases k<;>rfl))
 |ob c fs=>cases k<;>cases hi|any=>cases k<;>cases hi|exc c fs=>
  cases (show Rep X.K cA U H (.exc c fs) v from rd) with
  |@exc ad _ _ vs hx rs=>
   cases (show u=Value.ref ad from ru);let hI:∃ox od,PySem.W.InstAt sh.heap ad ox (cA.a c) od:=by
    obtain⟨_,⟨_,_,hx⟩|⟨dx,hx,_,hd,_⟩⟩:=hx
    .obtain⟨⟨oe,vs,g1,g2,g3,g4⟩,_⟩:=(show aW X.prog X.w H sh.heap ad (i_ ad (cA.a c) none) from I.hok ad _ hx);show⟨oe,none,g1,g2,by unfold PySem.W.notCls;rw[g4],by rw[g3];trivial⟩
    .obtain⟨⟨oe,vs,g1,g2,g3,g4⟩,_⟩:=(show aW X.prog X.w H sh.heap ad (i_ ad (cA.a c) (some dx)) from I.hok ad _ hx);let⟨mA,⟨od,es,ep,e1,c1⟩,_⟩:=(show aW X.prog X.w H sh.heap dx (.xd _) from I.hok dx _ hd);show⟨oe,some od,g1,g2,by unfold PySem.W.notCls;rw[g4],by rw[g3];show e1⟩
   cases k with
   |cls e=>
    cases (show w=Value.ref (cA.a e) from Vf);let z:some (ao c e)=some bb:=hi;cases z;show PySem.W.kia_one (ZQ ((Cs rfl).xc c)) I.sS hI ((Cs rfl).ao c e) (λz=>nomatch z) vQ
   |qg=>
    cases (show w=Value.type "ValueError" from Vf);let z:some true=some bb:=hi;cases z;show PySem.W.kia_one (ZQ ((Cs rfl).xc c)) I.sS hI ((Cs rfl).qg c) (λz=>nomatch z) vQ
   |_=>cases hi
theorem zlR(Cs:wO k=none->vP X.K cA ao)(hg:Gl X "isinstance")(hm:X.mg "isinstance"=none)(ha:SE X cA ao aj F EX a A)(hk:PE X kx (tC (GX cA k)))(h1:starEach [a,kx] X.env=(false,eval a X.env)::starEach [kx] X.env:=by rfl)(h2:starEach [kx] X.env=(false,eval kx X.env)::starEach [] X.env:=by rfl)
  (hpl:(backTo pos (starEach [kx] X.env)).any (·.1)=false:=by rfl):SE X cA ao aj F EX (.Call (.Name "isinstance" pp) [a,kx] [] pos) (.eY A k):=PE.weak (Zi (ziW (cA:=cA) (k:=k) Cs) hg hm PyProof.Rows.boot_isinstance (pY ha (pY hk wK h2) h1) W9 W9 h1 hpl) λZ H Q hh=>un hh λU J s hL hS h=>
 aZ hL hS h λv H1 U1 d s1 x1 hL1 aG r1 h1=>by
  change ∃U d' v' bb,[v,GX cA k]=[v',GX cA k]/\_;let⟨dd,rv,h2⟩:=O9 aG r1 h1;let⟨bb,e,h3⟩:=O7 h2;show⟨U1,dd,v,bb,rfl,rv,e,h3.bO aG _ (.d (.bl bb))⟩
theorem zko{j p1 j2 p3}:SE X cA ao aj F EX (.Dict [some (.Constant (.str k) j p1)] [.Constant (.int i) j2 p3] pos) (.vB k i):=PE.weak (zjW (zib Ob RN zk8) rfl rfl Zaa (Rh rfl)) λZ H Q hh=>un hh λU J s hL hS h=>by
 intro p hp;show⟨iU,[(.inr k,.int i)],rfl,Rh rfl,?_⟩;rw[YQ];show h U _ (bD.new hp).ext (hS.grow (bD.new hp)) _ (.d (.fd iU (hS.nz hp)))
end
section
variable {K:W.Frag}{cA:Cl}{U U':Ph}{H H':Hp}{s:S}
theorem TupAt.jW(e:∀a,U'.z a->U.z a){a:Addr}{vs:List V}(h:TupAt K U H a vs):TupAt K U' H a vs:=h.imp (λ⟨p,n⟩=>⟨p,λz=>n (e a z)⟩) id
theorem LstAt.jW(e:∀a,U'.z a->U.z a){a:Addr}{vs:List V}(h:LstAt K U H a vs):LstAt K U' H a vs:=h.imp (λ⟨p,n⟩=>⟨p,λz=>n (e a z)⟩) id
theorem ExcAt.jW(e:∀a,U'.z a->U.z a){a:Addr}{c:Nat}{vs:List V}(h:ExcAt cA U H a c vs):ExcAt cA U' H a c vs:=
 ⟨λz=>h.1 (e a z),h.2.imp id λ⟨dx,p,n,q,l⟩=>⟨dx,p,λz=>n (e dx z),q,l⟩⟩
theorem qw.jW(e:∀a,U'.z a->U.z a){a:Addr}{c:Nat}{vs:List V}(h:qw cA U H a c vs):qw cA U' H a c vs:=⟨λz=>h.1 (e a z),h.2⟩
theorem Rep.jW(e:∀a,U'.z a->U.z a){d:D}{v:V}(h:Rep K cA U H d v):Rep K cA U' H d v:=
 Rep.rec (motive_1:=λd v _=>Rep K cA U' H d v) (motive_2:=λd v _=>aC K cA U' H d v) .non .bl .int .str (λh _ i=>.tup (h.jW e) i) (λh _ i=>.fl (h.jW e) i) (λh n=>.fd h (λz=>n (e _ z))) (λh _ i=>.exc (h.jW e) i) (λh _ i=>.ob (h.jW e) i) .any .nil (λ_ _ i j=>.cons i j) h
theorem aC.jW(e:∀a,U'.z a->U.z a){d:List D}{v:List V}(h:aC K cA U H d v):aC K cA U' H d v:=
 aC.rec (motive_1:=λd v _=>Rep K cA U' H d v) (motive_2:=λd v _=>aC K cA U' H d v) .non .bl .int .str (λh _ i=>.tup (h.jW e) i) (λh _ i=>.fl (h.jW e) i) (λh n=>.fd h (λz=>n (e _ z))) (λh _ i=>.exc (h.jW e) i) (λh _ i=>.ob (h.jW e) i) .any .nil (λ_ _ i j=>.cons i j) h
theorem k_.jW(e:∀a,U'.z a->U.z a){a:Addr}{o:SO}(h:k_ K cA U H a o):k_ K cA U' H a o:=h.map (λ_ q=>q) λ_ _ r=>r.jW e
theorem Rep.zl{d:D}{v:V}(h:Rep K cA U H d v)(l:List Addr):Rep K cA ⟨U.z,l⟩ H d v:=Rep.jW (U:=U) (U':=⟨U.z,l⟩) (λ_ z=>z) h
theorem aC.zl{d:List D}{v:List V}(h:aC K cA U H d v)(l:List Addr):aC K cA ⟨U.z,l⟩ H d v:=aC.jW (U:=U) (U':=⟨U.z,l⟩) (λ_ z=>z) h
theorem k_.zl{a:Addr}{o:SO}(h:k_ K cA U H a o)(l:List Addr):k_ K cA ⟨U.z,l⟩ H a o:=k_.jW (U:=U) (U':=⟨U.z,l⟩) (λ_ z=>z) h
def adr(l:List Addr):List Nat->List Addr
 |[]=>[]|n::r=>match l[n]? with
  |some a=>a::adr l r|none=>adr l r
theorem GZ{l:List Addr}:∀{ns:List Nat} {a:Addr},a∈adr l ns->∃n∈ns,l[n]?=some a
 |[],a,h=>by cases h|n::r,a,h=>by
  unfold adr at h;cases e:l[n]? with
  |none=>
   simp only[e]at h;let⟨m,h1,h2⟩:=GZ h;show⟨m,dI _ h1,h2⟩
  |some b=>
   simp only[e]at h;rcases cX.mp h with rfl|h
   .exact⟨n,fK,e⟩
   .obtain⟨m,h1,h2⟩:=GZ h;show⟨m,dI _ h1,h2⟩
theorem zeW{s:S}:∀{ns:List Nat} {s0:S} {i n:Nat},jg s ns=some s0->ns[i]?=some n->s0[i]?=s[n]?/\∃o,s[n]?=some o
 |[],s0,i,n,h,e=>by simp at e|m::r,s0,i,n,h,e=>by
  unfold jg at h;cases e1:s[m]? with
  |none=>simp only[e1]at h;cases h|some o=>
   cases e2:jg s r with
   |none=>simp only[e1,e2]at h;cases h|some q=>
    simp only[e1,e2]at h;cases h;cases i with
    |zero=>simp at e;subst e;show⟨by simp[e1],o,e1⟩|succ i=>simpa using zeW e2 (by simpa using e)
theorem zfa{s:S}:∀{ns:List Nat} {s0:S},jg s ns=some s0->s0.length=ns.length
 |[],s0,h=>by cases h;rfl|m::r,s0,h=>by
  unfold jg at h;cases e1:s[m]? with
  |none=>simp only[e1]at h;cases h|some o=>
   cases e2:jg s r with
   |none=>simp only[e1,e2]at h;cases h|some q=>
    simp only[e1,e2]at h;cases h;rw[eN,eN,zfa e2]
theorem KN{l:List Addr}:∀{ns:List Nat} {i n:Nat},(∀n∈ns,∃a,l[n]?=some a)->ns[i]?=some n->(adr l ns)[i]?=l[n]?
 |[],i,n,_,e=>by simp at e|m::r,i,n,h,e=>by
  let⟨a,ha⟩:=h m fK;unfold adr;simp only[ha];cases i with
  |zero=>simp at e;subst e;simp[ha]|succ i=>simpa using KN (λn hn=>h n (dI _ hn)) (by simpa using e)
theorem KQ{l:List Addr}:∀{ns:List Nat},(∀n∈ns,∃a,l[n]?=some a)->(adr l ns).length=ns.length
 |[],_=>rfl|m::r,h=>by
  let⟨a,ha⟩:=h m fK;unfold adr;simp only[ha];rw[eN,eN,KQ (λn hn=>h n (dI _ hn))]
theorem zd9{l:List Addr}(hl:l.Nodup):∀{ns:List Nat},ns.Nodup->(∀n∈ns,∃a,l[n]?=some a)->(adr l ns).Nodup
 |[],_,_=>Gm|m::r,hn,h=>by
  let⟨a,ha⟩:=h m fK;unfold adr;simp only[ha];let⟨h1,h2⟩:=sE.mp hn;show sE.mpr ⟨λz=>?_,zd9 hl h2 (λn hn=>h n (dI _ hn))⟩;let⟨n,q1,q2⟩:=GZ z;let:m=n:=(Rw (jr.mp ha).1 hl).mp (ha.trans q2.symm);show h1 (this▸q1)
theorem G3{s:S}:∀{ns:List Nat} {s1:S},(dh s ns s1).length=s.length
 |[],s1=>by cases s1<;>rfl|n::r,[]=>rfl|n::r,o::q=>by
  change (dh (s.set n o) r q).length=_;rw[G3,lE]
theorem Vg{s:S}:∀{ns:List Nat} {s1:S} {m:Nat},m∉ns->(dh s ns s1)[m]?=s[m]?
 |[],s1,m,_=>by cases s1<;>rfl|n::r,[],m,_=>rfl|n::r,o::q,m,h=>by
  change (dh (s.set n o) r q)[m]?=_;rw[Vg (λz=>h (dI _ z)),oE (λz=>h (by rw[z];show fK))]
theorem zeG{s:S}:∀{ns:List Nat} {s1:S} {i m:Nat} {o:SO},ns.Nodup->ns[i]?=some m->s1[i]?=some o->m<s.length->(dh s ns s1)[m]?=some o
 |[],s1,i,m,o,_,e,_,_=>by simp at e|n::r,[],i,m,o,_,_,e,_=>by simp at e|n::r,q::qs,i,m,o,hn,e1,e2,hm=>by
  change (dh (s.set n q) r qs)[m]?=_;let⟨h1,h2⟩:=sE.mp hn;cases i with
  |zero=>
   simp at e1 e2;subst e1 e2;rw[Vg h1,wD hm]
  |succ i=>show zeG h2 (by simpa using e1) (by simpa using e2) (by rw[lE];show hm)
def zgG:∀{xs:List Xv} {vs:List V} (l0:List Addr) (z:Addr->Prop) (k:Nat),cC K cA U H xs vs->U.z=z->(∀i n,(locs xs)[i]?=some n->l0[k+i]?=U.l[n]?)->cC K cA ⟨z,l0⟩ H (eG k xs) vs
 :=by
 intro xs vs l0 z k r0
 induction r0 generalizing k with
 |nil=>show λ_ _=>.nil|@cons x v xs vs a q ih=>
  intro ez h;cases a with
  |d a=>show .cons (.d (a.jW λb hb=>by rw[ez];show hb)) (ih k ez h)|@l n a' a=>
   show .cons (.l ?_) (ih (k+1) ez λi m e=>?_)
   .let:=h 0 n rfl;rw[Nat.add_zero]at this;change l0[k]?=_;rw[this];show a
   .let:=h (i+1) m (by simpa [locs] using e);rw[<-this]
    congr 1
    lia
def zfL:∀{xs:List Xv} {vs:List V},cC K cA U H xs vs->∀n∈locs xs,∃a,U.l[n]?=some a
 :=by
 intro xs vs r0
 induction r0 with
 |nil=>show λn h=>by cases h|cons a q ih=>
  intro n h;cases a with
  |d a=>show ih n h|l a=>
   rcases cX.mp h with rfl|h
   .exact⟨_,a⟩
   .exact ih n h
def zdQ{xs:List Xv}{U1:Ph}{s0 s1:S}(hS:aF K cA U H s)(hn:(locs xs).Nodup)(ht:∀n∈locs xs,∃a,U.l[n]?=some a)(x:Ext ⟨U.z,adr U.l (locs xs)⟩ H U1 H')(r1:aF K cA U1 H' s1) :
  Ext U H ⟨U1.z,U.l⟩ H'/\aF K cA ⟨U1.z,U.l⟩ H' (dh s (locs xs) s1):=by
 let ao:∀a∈adr U.l (locs xs),a∈U.l:=λa ha=>by let⟨n,_,q⟩:=GZ ha;show jL q
 let⟨r,er,hr⟩:=x.more;let er:U1.l=adr U.l (locs xs)++r:=er;show⟨⟨⟨[],by simp,by simp⟩,λa h=>x.vL a h,λa h=>x.nj a h,λa o h n=>x.frame a o h λz=>n (ao a z),x.stay⟩,?_⟩;show⟨by rw[G3];show hS.len,λn o a e1 e2=>?_,hS.uniq,λa ha=>x.vL a (hS.lz a ha),r1.zt⟩;let e2:U.l[n]?=some a:=e2;by_cases jh:n∈locs xs
 .obtain⟨i,hi,ei⟩:=Hr jh;let ei:(locs xs)[i]?=some n:=by rw[fV hi,ei]
  let ha:(adr U.l (locs xs))[i]?=some a:=by rw[KN ht ei];show e2
  let tL:U1.l[i]?=some a:=by rw[er,qL (jr.mp ha).1];show ha
  let hlt:i<s1.length:=by rw[<-r1.len];show(jr.mp tL).1
  let hb:=zeG (s:=s) (s1:=s1) hn ei (fV hlt) (by rw[<-hS.len];show(jr.mp e2).1);rw[hb]at e1;cases e1;show k_.zl (r1.obj i _ a (fV hlt) tL) _
 .rw[Vg jh]at e1;let Vh:a∉adr U.l (locs xs):=λz=>by
   let⟨m,q1,q2⟩:=GZ z;let:n=m:=(Rw (jr.mp e2).1 hS.uniq).mp (e2.trans q2.symm);show jh (this▸q1)
  show(hS.obj n o a e1 e2).map (λ_ q=>x.frame a _ q Vh) λ_ _ r=>Rep.zl ((Rep.zl r _).mono x λa ha=>hS.lz a (ao a ha)) _
def zhS{F:List Xv->M Xv}{xs:List Xv}{vs:List V}{Q:VK}{EE:Nat->List D->Ph->Hp->Prop}(hS:aF K cA U H s)(r:cC K cA U H xs vs)
  (hE:∀c fs U1 U2 H',U1.z=U2.z->EE c fs U1 H'->EE c fs U2 H')
  (h:Run K cA (cP F xs) U H s (λx _ U' H'=>∀v,bB K cA U' H' x v->Q v H') (λc fs _ U' H'=>EE c fs U' H')) :
  ∃U0 s0,cC K cA U0 H (eG 0 xs) vs/\aF K cA U0 H s0/\Run K cA (F (eG 0 xs)) U0 H s0 (λx _ U' H'=>∀v,bB K cA U' H' x v->Q v H') (λc fs _ U' H'=>EE c fs U' H'):=by
 unfold Run cP at h;by_cases hn:(locs xs).Nodup
 .simp only[if_pos hn]at h;let ht:=zfL r;let ao:∀a∈adr U.l (locs xs),a∈U.l:=λa ha=>by let⟨n,_,q⟩:=GZ ha;show jL q
  cases e0:jg s (locs xs) with
  |none=>simp only[e0]at h|some s0=>
   simp only[e0]at h;show⟨⟨U.z,adr U.l (locs xs)⟩,s0,zgG _ _ 0 r rfl (λi n e=>by rw[Nat.zero_add];show KN ht e),?_,?_⟩
   .refine⟨by rw[zfa e0];show KQ ht,λi o a e1 e2=>?_,zd9 hS.uniq hn ht,λa ha=>hS.lz a (ao a ha),hS.zt⟩;let e2:(adr U.l (locs xs))[i]?=some a:=e2;let hi:i<(locs xs).length:=by rw[<-KQ ht];show(jr.mp e2).1
    let ei:(locs xs)[i]?=some ((locs xs)[i]):=fV hi;rw[KN ht ei]at e2;rw[(zeW e0 ei).1]at e1;show k_.zl (hS.obj _ o a e1 e2) _
   .unfold Run;cases e1:F (eG 0 xs) s0 with
    |none=>simp only[e1]at h|some q=>
     let⟨q,s1⟩:=q;simp only[e1]at h;cases q with
     |er c fs=>
      intro U1 H' x r1;let⟨x2,r2⟩:=zdQ (s0:=s0) hS hn ht x r1;show hE c fs ⟨U1.z,U.l⟩ U1 H' rfl (h ⟨U1.z,U.l⟩ H' x2 r2)
     |ok y=>
      intro U1 H' x r1 v rv;let⟨x2,r2⟩:=zdQ (s0:=s0) hS hn ht x r1;cases y with
      |d w=>
       cases rv with
       |d rv=>show h ⟨U1.z,U.l⟩ H' x2 r2 v (.d (Rep.zl rv _))
      |l n=>
       cases rv with
       |@l _ a hl=>
        let⟨rr,er,hr⟩:=x.more;let er:U1.l=adr U.l (locs xs)++rr:=er;cases em:(locs xs)[n]? with
        |some m=>
         simp only[em]at h;show h _ H' x2 r2 _ (.l ?_);change U.l[m]?=some a;let ha:(adr U.l (locs xs))[n]?=U.l[m]?:=KN ht em;let hlt:n<(adr U.l (locs xs)).length:=by rw[KQ ht];show(jr.mp em).1
         rw[er,qL hlt]at hl;rw[<-ha];show hl
        |none=>
         simp only[em]at h;let hge:(adr U.l (locs xs)).length<=n:=by rw[KQ ht];show pA.mp em
         let OJ:a∈rr:=by
          rw[er,pO hge]at hl;show jL hl
         let Vh:a∉U.l:=λz=>by
          let⟨o,eo⟩:=hS.zt a (hS.lz a z);rw[hr a OJ]at eo;cases eo
         cases eo:s1[n]? with
         |none=>simp only[eo]at h|some o=>
          simp only[eo]at h;let ho:=r1.obj n o a eo hl;show h ⟨U1.z,U.l++[a]⟩ H' ⟨⟨[a],rfl,by simpa using hr a OJ⟩,x2.vL,x2.nj,x2.frame,x2.stay⟩ ?_ _ (.l (by change (U.l++[a])[s.length]?=_;rw[<-hS.len];simp));show⟨by change (U.l++[a]).length=_;rw[gP,gP,G3,hS.len];rfl,λm o' a' e1 e2=>?_,?_,λb hb=>?_,r1.zt⟩
          .let e2:(U.l++[a])[m]?=some a':=e2;by_cases hm:m<s.length
           .rw[qL (by rw[G3];show hm)]at e1;rw[qL (by rw[hS.len];show hm)]at e2;show k_.zl (r2.obj m o' a' e1 e2) _
           .let u_:m=s.length:=by
             let z:=(jr.mp e2).1;rw[gP,hS.len]at z;simp at z
             lia
            subst u_;rw[pO (by rw[G3];show bK _)]at e1;rw[pO (by rw[hS.len];show bK _)]at e2;simp[G3]at e1;simp[hS.len]at e2;subst e1 e2;show k_.zl ho _
          .show (U.l++[a]).Nodup;rw[Nr];show⟨hS.uniq,by simp,λb hb c hc e=>?_⟩;simp at hc;subst hc e;show Vh hb
          .let hb:b∈U.l++[a]:=hb;rcases gA.mp hb with z|z
           .exact x2.vL b (hS.lz b z)
           .simp at z;subst z;show r1.lz _ (jL hl)
 .simp only[if_neg hn]at h
end
section
variable {X:Cx}{cA:Cl}{ao:Nat->Nat->Bool}{aj:Bool}{F:Fn}{EX:XS}{a b c d e o:Expr}{A B C Dd E' O:E}{pos pp p2 apos cpos:Pos}{es:List Expr}{Xs:Es}{fz:Bool}{p:Pr}{x:Str}{U:Ph}{H:Hp}{s:S}
def Vi{K:W.Frag}{β:Type}{x:Xv}{v:V}{k:Nat×List D->M β}{P:β->S->Ph->Hp->Prop}{Ee:Nat->List D->S->Ph->Hp->Prop}(hS:aF K cA U H s)(r:bB K cA U H x v)(h:Run K cA (M.bd (cZ x) k) U H s P Ee) :
  ∃n ad xs vs,x=.l n/\v=.ref ad/\s[n]?=some (.lst xs)/\U.l[n]?=some ad/\H ad=some (.lst vs)/\aC K cA U H xs vs/\Run K cA (k (n,xs)) U H s P Ee:=by
 cases r with
 |d _=>show h.elim|@l n ad hl=>
  unfold Run M.bd cZ at h;dsimp only at h;cases e:s[n]? with
  |none=>rw[e]at h;show h.elim|some o=>
   rw[e]at h;cases o with
   |lst xs=>
    let⟨vs,q1,q2⟩:=hS.obj n _ _ e hl;show⟨n,ad,xs,vs,rfl,rfl,e,hl,q1,q2,h⟩
   |_=>show h.elim
theorem zkh(ho:SE X cA ao aj F EX o O)(ha:SE X cA ao aj F EX a A)
  (bN:attributeBase o "append" X.env (eval o X.env)=eval o X.env:=by rfl)
  (gR:((backTo cpos (starEach [a] X.env)).all (λx=>!x.1)&&(backToKw cpos (keywordEach [] X.env)).all (λx=>x.1.isSome)
  &&decide ([a].length+([]:List Keyword).length+(if ([]:List Keyword).isEmpty then 0 else 1)<30))=true:=by rfl)
  (cO:(apos.endLine==cpos.line)=true:=by rfl) (hs:starEach [a] X.env=(false,eval a X.env)::starEach [] X.env:=by rfl) (bC:(backTo cpos (starEach [] X.env)).any (·.1)=false:=by rfl) :
  SE X cA ao aj F EX (.Call (.Attribute o "append" apos) [a] [] cpos) (.push O A):=PE.weak (Zv Q8 PySem.F.slot_list_append PySem.F.type_list_append Zw ho (pY ha wK hs) bN gR cO hs bC) λZ H Q hh=>un hh λU J s hL hS h=>by
 show aZ hL hS h λx H1 U1 d1 s1 x1 hL1 aG r1 h1=>?_;let⟨n,ad,xs,vs,rfl,rfl,e1,f1,g1,q1,h2⟩:=Vi aG r1 h1;show⟨.inl ⟨rfl,vs,dF.of g1⟩,aZ hL1 aG h2 λy H2 U2 d2 s2 x2 hL2 aP r2 h3=>?_⟩;let⟨dd,_,rd,h4⟩:=O8 r2 h3;let⟨n',ad',ys,us,en,ea,e2,f2,g2,q2,h5⟩:=Vi aP (r1.mono x2 aG.lz) h4;cases en;cases ea;by_cases hz:ys.length<sizeLine
 .let h5:Run X.K cA (M.bd (putL n (ys++[dd])) λ_=>M.ret (Xv.d .non)) U2 H2 s2 (λd _ U' H'=>∀v,bB X.K cA U' H' d v->Q v H') (eX X.K cA EX Z):=by
   let h6:Run X.K cA (if ys.length<sizeLine then M.bd (putL n (ys++[dd])) λ_=>M.ret (Xv.d .non) else M.no) U2 H2 s2 (λd _ U' H'=>∀v,bB X.K cA U' H' d v->Q v H') (eX X.K cA EX Z):=h5;rw[if_pos hz]at h6;show h6
  show⟨ad,us,y,rfl,rfl,g2,by rw[<-q2.len];show hz,?_⟩;show h5 U2 _ (Ext.write f2 ⟨_,g2⟩) (aP.write e2 f2 (q2.app (.cons rd .nil))) _ (.d .non)
 .let h6:Run X.K cA (if ys.length<sizeLine then M.bd (putL n (ys++[dd])) λ_=>M.ret (Xv.d .non) else M.no) U2 H2 s2 (λd _ U' H'=>∀v,bB X.K cA U' H' d v->Q v H') (eX X.K cA EX Z):=h5;rw[if_neg hz]at h6;show h6.elim
def uE(K:W.Frag)(cA:Cl)(m:List Xv->M Xv):Sp:=λvs H Q E=>∃U xs s,cC K cA U H xs vs/\aF K cA U H s/\Run K cA (m xs) U H s (λd _ U' H'=>∀v,bB K cA U' H' d v->Q v H') (λc fs _ U' H'=>∀dx,lq K cA U' H' c fs dx->E (.ref (cA.a c)) dx H')
theorem zlf{K:W.Frag}{U1 U2:Ph}{c:Nat}{fs:List D}{dx:Option Addr}(e:U1.z=U2.z)(h:lq K cA U2 H c fs dx):lq K cA U1 H c fs dx:=h.imp id λ⟨d,vs,a,b,c,l,r⟩=>⟨d,vs,a,by rw[e];show b,c,l,r.jW λ_ z=>by rw[<-e];show z⟩
theorem zjH{cm:Bool}{k f:Nat}{fa:Addr}{fd:FuncData}{ps:List Str}(Fo:fM X.prog X.w X.K X.mg X.base (lM X.prog X.w) cm k fa fd ps (uE X.K cA (F f)))(sU:cm=true->X.aj=true)(hr:bT k X.A)(hg:Gl X x)(hm:X.mg x=some (.ref fa))(hk:PySem.W.keepIn X.K (.ref fa)=true)(hb:Binds X.K fd ps [])(R:Raises X EX)
  (ha:SA X cA ao aj F EX (e::es) Xs) (mW:(x==("__debug__" : Str))=false:=by decide) (he:starEach (e::es) X.env=(false,eval e X.env)::starEach es X.env:=by rfl) (hpl:(backTo pos (starEach es X.env)).any (·.1)=false:=by rfl) :
  SE X cA ao aj F EX (.Call (.Name x pp) (e::es) [] pos) (.call f Xs):=PE.weak (zi1 Fo sU hr hg hm hk hb R ha mW he hpl) λZ H Q hh=>un hh λU J s hL hS h=>
 tH hL hS h λvs H1 U1 ds s1 x1 hL1 aG r1 h1=>by
  let⟨U0,s0,a1,a2,a3⟩:=zhS (EE:=λc fs U' H'=>∀dx,lq X.K cA U' H' c fs dx->EX Z (.ref (cA.a c)) dx H') aG r1 (λc fs U1 U2 H' ez z dx q=>z dx (zlf ez q)) h1;show⟨U0,_,s0,a1,a2,a3⟩
end
section
variable {K:W.Frag}{cA:Cl}{U U':Ph}{H H':Hp}{s:S}
def dW(U:Ph)(H H':Hp):Prop:=∀a o,H a=some o->¬U.z a->H' a=some o
theorem Rep.out(x:dW U H H'){d:D}{v:V}(h:Rep K cA U H d v):Rep K cA U H' d v:=
 Rep.rec (motive_1:=λd v _=>Rep K cA U H' d v) (motive_2:=λd v _=>aC K cA U H' d v) .non .bl .int .str
  (λh _ r=>.tup (h.imp (λz=>⟨z.1.imp (λq=>x _ _ q z.2) λw=>w.elim λo q=>⟨o,x _ _ q z.2⟩,z.2⟩) id) r)
  (λh _ r=>.fl (h.imp (λz=>⟨z.1.imp (λq=>x _ _ q z.2) λw=>w.elim λo q=>⟨o,x _ _ q z.2⟩,z.2⟩) id) r)
  (λh n=>.fd (x _ _ h n) n)
  (λh _ r=>.exc ⟨h.1,h.2.imp (λz=>z.elim λa z=>z.elim λb q=>⟨a,b,x _ _ q h.1⟩) λz=>z.elim λdx z=>⟨dx,x _ _ z.1 h.1,z.2.1,x _ _ z.2.2.1 z.2.1,z.2.2.2⟩⟩ r)
  (λh _ r=>.ob ⟨h.1,h.2.elim λdx z=>⟨dx,x _ _ z.1 h.1,z.2⟩⟩ r) .any .nil (λ_ _ a b=>.cons a b) h
theorem aC.out(x:dW U H H'){ds:List D}{vs:List V}(h:aC K cA U H ds vs):aC K cA U H' ds vs:=
 aC.rec (motive_1:=λ_ _ _=>True) (motive_2:=λd v _=>aC K cA U H' d v) trivial (λ_=>trivial) (λ_=>trivial) (λ_=>trivial) (λ_ _ _=>trivial) (λ_ _ _=>trivial) (λ_ _=>trivial) (λ_ _ _=>trivial) (λ_ _ _=>trivial) (λ_=>trivial) .nil (λh _ _ r=>.cons (h.out x) r) h
def bB.out(x:dW U H H'){d:Xv}{v:V}(h:bB K cA U H d v):bB K cA U H' d v:=by
 cases h with
 |d h=>show .d (h.out x)|l h=>show .l h
theorem bx.out(x:dW U H H')(h:bx K cA U H Z J):bx K cA U H' Z J:=⟨h.1,λi d e=>let ⟨v,a,b⟩:=h.2 i d e;⟨v,a,b.out x⟩⟩
theorem dW.refl:dW U H H:=λa o e _=>e
structure jX(K:W.Frag)(cA:Cl)(c:Src)(U:Ph)(H:Hp)(cj:L2.It):Prop where
 stop:∀U' H₁ H' s' i,Ext U H U' H₁->dW U' H₁ H'->aF K cA U' H' s'->c.at i s'=some none->cj.stop i H'
 go:∀U' H₁ H' s' i x,Ext U H U' H₁->dW U' H₁ H'->aF K cA U' H' s'->c.at i s'=some (some x)->cj.go i H'
 Cz:∀U' H₁ H' s' i x v H2,Ext U H U' H₁->dW U' H₁ H'->aF K cA U' H' s'->c.at i s'=some (some x)->cj.Cz i H' v H2->bD H' H2/\Rep K cA U' H2 x v
theorem LstAt.later(hz:∀a∈U.l,U.z a)(h:LstAt K U H a vs)(x:Ext U H U' H₁)(o:dW U' H₁ H'):LstAt K U' H' a vs:=
 (h.mono x hz).imp (λ⟨p,n⟩=>⟨p.imp (λq=>o _ _ q n) λ⟨w,q⟩=>⟨w,o _ _ q n⟩,n⟩) id
theorem TupAt.later(hz:∀a∈U.l,U.z a)(h:TupAt K U H a vs)(x:Ext U H U' H₁)(o:dW U' H₁ H'):TupAt K U' H' a vs:=
 (h.mono x hz).imp (λ⟨p,n⟩=>⟨p.imp (λq=>o _ _ q n) λ⟨w,q⟩=>⟨w,o _ _ q n⟩,n⟩) id
def jX.list(hz:∀a∈U.l,U.z a)(h:LstAt K U H a vs)(r:aC K cA U H xs vs):jX K cA (.fix xs) U H (Oh K a):=by
 show⟨λU' H₁ H' s' i x o hS e=>⟨vs,(h.later hz x o).rD,?_⟩,λU' H₁ H' s' i d x o hS e=>?_,λU' H₁ H' s' i d v H2 x o hS e y=>?_⟩
 .let e:xs[i]?=none:=dD e;show pA.mp ((r.mono x hz).none e)
 .let e:xs[i]?=some d:=dD e;let⟨v,q,_⟩:=r.get e;show⟨vs,v,(h.later hz x o).rD,q⟩
 .let e:xs[i]?=some d:=dD e;let⟨rfl,y⟩:=y;let⟨w,q,mV⟩:=((r.mono x hz).out o).get e;let:=y vs (h.later hz x o).rD;rw[q]at this;cases this;show⟨bD.refl,mV⟩
def jX.tuple(hz:∀a∈U.l,U.z a)(h:TupAt K U H a vs)(r:aC K cA U H xs vs):jX K cA (.fix xs) U H (R8 K a):=by
 show⟨λU' H₁ H' s' i x o hS e=>⟨vs,(h.later hz x o).iM,?_⟩,λU' H₁ H' s' i d x o hS e=>?_,λU' H₁ H' s' i d v H2 x o hS e y=>?_⟩
 .let e:xs[i]?=none:=dD e;show pA.mp ((r.mono x hz).none e)
 .let e:xs[i]?=some d:=dD e;let⟨v,q,_⟩:=r.get e;show⟨vs,v,(h.later hz x o).iM,q⟩
 .let e:xs[i]?=some d:=dD e;let⟨rfl,y⟩:=y;let⟨w,q,mV⟩:=((r.mono x hz).out o).get e;let:=y vs (h.later hz x o).iM;rw[q]at this;cases this;show⟨bD.refl,mV⟩
def Vj(h:(Src.live n).at i s=some o):∃xs,s[n]?=some (.lst xs)/\xs[i]?=o:=by
 unfold Src.at at h;dsimp only at h;cases e:s[n]? with
 |none=>rw[e]at h;cases h|some ob=>
  rw[e]at h;cases ob with
  |lst xs=>show⟨xs,rfl,dD h⟩|_=>cases h
def jX.live(h:U.l[n]?=some a):jX K cA (.live n) U H (Oh K a):=by
 show⟨λU' H₁ H' s' i x o hS e=>?_,λU' H₁ H' s' i d x o hS e=>?_,λU' H₁ H' s' i d v H2 x o hS e y=>?_⟩
 .obtain⟨xs,e1,e2⟩:=Vj e;let⟨vs,q1,q2⟩:=hS.obj n _ a e1 (x.get h);show⟨vs,dF.of q1,pA.mp (q2.none e2)⟩
 .obtain⟨xs,e1,e2⟩:=Vj e;let⟨vs,q1,q2⟩:=hS.obj n _ a e1 (x.get h);let⟨v,q3,_⟩:=q2.get e2;show⟨vs,v,dF.of q1,q3⟩
 .obtain⟨xs,e1,e2⟩:=Vj e;let⟨vs,q1,q2⟩:=hS.obj n _ a e1 (x.get h);let⟨w,q3,mV⟩:=q2.get e2;let⟨rfl,y⟩:=y;let:=y vs (dF.of q1);rw[q3]at this;cases this;show⟨bD.refl,mV⟩
def Vk:(gU a b)[i]?=if i<(b-a).toNat then some (.int (a+i)) else none:=by
 unfold gU;rw[lD,List.getElem?_range']
where
 List.getElem?_range' {n i:Nat}:Option.map (λ(i:Nat)=>D.int (a+i)) (List.range n)[i]?=if i<n then some (.int (a+i)) else none:=by
  by_cases h:i<n
  .rw[if_pos h,List.getElem?_range h];rfl
  .rw[if_neg h,FZ (by simp;lia)];rfl
def jX.range{a b:Int}:jX K cA (.fix (gU a b)) U H (Im a (b-a).toNat):=by
 show⟨λU' H₁ H' s' i x o hS e=>?_,λU' H₁ H' s' i d x o hS e=>?_,λU' H₁ H' s' i d v H2 x o hS e y=>?_⟩
 .let e:(gU a b)[i]?=none:=dD e;rw[Vk]at e;split at e
  .cases e
  .exact Hw (by assumption)
 .let e:(gU a b)[i]?=some d:=dD e;rw[Vk]at e;split at e
  .assumption
  .cases e
 .let e:(gU a b)[i]?=some d:=dD e;rw[Vk]at e;split at e
  .cases e;let⟨rfl,rfl⟩:=y;show⟨bD.refl,.int _⟩
  .cases e
end
def Vl(K:W.Frag)(te:TE):TI:=λZ H R=>te Z H λv H1=>∃a,v=.ref a/\(((∃xs,dF K H1 a xs)/\R (Oh K a) H1)\/((∃xs,fL K H1 a xs)/\R (R8 K a) H1))
def zlz(he:PE X l te):PI X tg l (Vl X.K te):=by
 intro ak s Z H R I h;show bf (he ak s Z H _ I h) λv s1 hx=>Aa hx λx H1 I1 r1 a e q=>?_;subst e;cases r1;rcases q with ⟨⟨xs,hq⟩,q⟩|⟨⟨xs,hq⟩,q⟩
 .obtain⟨its,rv,p,hz⟩:=I1.list hq;show Np p.isList ?_;show⟨s1.heap.objs.size,[s1.heap.objs.size],_,_,H1,rfl,I1.kept (t':=s1.toks) λb o e=>bM _ e,zg4 a _,⟨_,fW _ rfl,rfl,rfl⟩,λb hb=>?_,q⟩;let e:b=s1.heap.objs.size:=by simpa using hb
  subst e;show I1.uW (bK _) (I1.hok.fresh (bK _))
 .obtain⟨its,rv,p,hz⟩:=I1.tuple hq;show wpAny_pyIter_tuple (show s1.heap.IsTuple a its.toArray from p) ?_;show⟨s1.heap.objs.size,[s1.heap.objs.size],_,_,H1,rfl,I1.kept (t':=s1.toks) λb o e=>bM _ e,zfQ a _,⟨_,fW _ rfl,rfl,rfl⟩,λb hb=>?_,q⟩;let e:b=s1.heap.objs.size:=by simpa using hb
  subst e;show I1.uW (bK _) (I1.hok.fresh (bK _))
section
variable {X:Cx}{cA:Cl}{ao:Nat->Nat->Bool}{aj:Bool}{F:Fn}{EX:XS}{a b tg:Expr}{A B:E}{pos pp:Pos}
def tI(K:W.Frag)(cA:Cl)(EX:XS)(m:Vs->M (Src×Nat)):TI:=λZ H R=>∃U J s,bx K cA U H Z J/\aF K cA U H s/\Run K cA (m J) U H s (λcn _ U1 H1=>∀cj,jX K cA cn.1 U1 H1 cj->R cj H1) (eX K cA EX Z)
def SI(X:Cx)(cA:Cl)(ao:Nat->Nat->Bool)(aj:Bool)(F:Fn)(EX:XS)(tg iter:Expr)(w:Wk):Prop:=PI X tg iter (tI X.K cA EX (oR ao aj F w))
theorem PI.weak{iter:Expr}{t t':TI}(h:PI X tg iter t)(f:∀Z H Q,t' Z H Q->t Z H Q):PI X tg iter t':=λak s Z H Q I q=>h ak s Z H Q I (f Z H Q q)
theorem znV(ha:SE X cA ao aj F EX a A):SI X cA ao aj F EX tg a (.seq A):=PI.weak (zlz ha) λZ H R hh=>un hh λU J s hL hS h=>by
 show aZ hL hS h λv H1 U1 d s1 x1 hL1 aG r1 h1=>?_;cases r1 with
 |@l n ad hl=>
  unfold Run src at h1;dsimp only at h1;cases e:s1[n]? with
  |none=>rw[e]at h1;show h1.elim|some o=>
   rw[e]at h1;cases o with
   |lst xs=>
    let⟨vs,q1,q2⟩:=aG.obj n _ _ e hl;show⟨ad,rfl,.inl ⟨⟨vs,dF.of q1⟩,h1 U1 H1 Ext.refl aG _ (jX.live hl)⟩⟩
   |_=>show h1.elim
 |d r1=>
  cases r1 with
  |tup q r=>show⟨_,rfl,.inr ⟨⟨_,q.iM⟩,h1 U1 H1 Ext.refl aG _ (jX.tuple aG.lz q r)⟩⟩|fl q r=>show⟨_,rfl,.inl ⟨⟨_,q.rD⟩,h1 U1 H1 Ext.refl aG _ (jX.list aG.lz q r)⟩⟩|_=>show h1.elim
def zfi{i:Int}(h:dU i=true) : -(2^62)<=i/\i<2^62:=by
 unfold dU at h;rw[b_,xW,xW]at h;show⟨by lia,h.2⟩
def zjp{K:W.Frag}{U:Ph}{H:Hp}{s:S}{i j:Int}{P:Src×Nat->S->Ph->Hp->Prop}{Ee:Nat->List D->S->Ph->Hp->Prop}(hS:aF K cA U H s)(h:Run K cA (if (dU i&&dU j)=true then M.ret (Src.fix (gU i j),(gU i j).length) else M.no) U H s P Ee):(-(2^62)<=i/\i<2^62/\-(2^62)<=j/\j<2^62)/\P (.fix (gU i j),(gU i j).length) s U H:=by
 by_cases hk:(dU i&&dU j)=true
 .rw[if_pos hk]at h;rw[b_]at hk;let⟨a,b⟩:=zfi hk.1;let⟨c,d⟩:=zfi hk.2;show⟨⟨a,b,c,d⟩,h.bO hS⟩
 .rw[if_neg hk]at h;show h.elim
theorem zo2(qy:Gl X "range")(hmg:X.mg "range"=none)(ha:SE X cA ao aj F EX a A)(hb:SE X cA ao aj F EX b B)(h1:starEach [a,b] X.env=(false,eval a X.env)::starEach [b] X.env)(h2:starEach [b] X.env=(false,eval b X.env)::starEach [] X.env) :
  SI X cA ao aj F EX tg (.Call (.Name "range" pp) [a,b] [] pos) (.rg A B):=PI.weak (zgu qy hmg (pY ha (pY hb wK h2) h1) (by rw[h1,h2];rfl) (by rw[h2];rfl)) λZ H R hh=>un hh λU J s hL hS h=>by
 show aZ hL hS h λx H1 U1 d1 s1 x1 hL1 aG r1 h1=>aZ hL1 aG h1 λy H2 U2 d2 s2 x2 hL2 aP r2 h2=>?_;let⟨i,_,e1,h3⟩:=Kg (r1.mono x2 aG.lz) h2;let⟨j,_,e2,h4⟩:=Kg r2 h3;let⟨hz,q⟩:=zjp aP h4;subst e1 e2;show⟨i,j,rfl,hz,q _ jX.range⟩
theorem zns(qy:Gl X "range")(hmg:X.mg "range"=none)(hb:SE X cA ao aj F EX b B)(h2:starEach [b] X.env=(false,eval b X.env)::starEach [] X.env) :
  SI X cA ao aj F EX tg (.Call (.Name "range" pp) [b] [] pos) (.rg (.c (.int 0)) B):=PI.weak (zgo qy hmg (pY hb wK h2) (by rw[h2];rfl)) λZ H R hh=>un hh λU J s hL hS h=>by
 let h:Run X.K cA (M.bd (ev ao aj F B J) λy=>M.bd (int (.d (.int 0))) λi=>M.bd (int y) λj=>if (dU i&&dU j)=true then M.ret (Src.fix (gU i j),(gU i j).length) else M.no) U H s _ _:=h;show aZ hL hS h λy H2 U2 d2 s2 x2 hL2 aP r2 h2=>?_;let⟨j,_,e2,h4⟩:=Kg r2 (show Run X.K cA (M.bd (int d2) λj=>if (dU 0&&dU j)=true then M.ret (Src.fix (gU 0 j),(gU 0 j).length) else M.no) U2 H2 s2 _ _ from h2);let⟨hz,q⟩:=zjp aP h4;subst e2;show⟨j,rfl,hz.2.2.1,hz.2.2.2,q _ ?_⟩;let:=jX.range (K:=X.K) (cA:=cA) (U:=U2) (H:=H2) (a:=0) (b:=j);rw[Int.sub_zero]at this;show this
end
section
variable {K:W.Frag}{cA:Cl}{U U' U0:Ph}{H H' H0:Hp}{s:S}
def Run.bd0(x:Ext U0 H0 U H)(h:Run K cA (M.bd m k) U0 H0 s P Ee) :
  Run K cA m U H s (λa s1 U1 H1=>Ext U H U1 H1/\aF K cA U1 H1 s1/\Run K cA (k a) U0 H0 s1 P Ee) Ee:=by
 unfold Run M.bd at *;cases e:m s with
 |none=>rw[e]at h;show h|some r=>
  let⟨r,s1⟩:=r;rw[e]at h;cases r with
  |er c f=>show λU1 H1 x1 r1=>h U1 H1 (x.trans x1) r1|ok a=>show λU1 H1 x1 r1=>⟨x1,r1,h⟩
def G4{α β:Type}{m:M α}{k:α->M β}{P:β->S->Ph->Hp->Prop}{Ee Ee':Nat->List D->S->Ph->Hp->Prop}(x:Ext U0 H0 U H)(h:Run K cA (M.bd (M.qt m) k) U0 H0 s P Ee) :
  Run K cA m U H s (λa s1 U1 H1=>Ext U H U1 H1/\aF K cA U1 H1 s1/\Run K cA (k a) U0 H0 s1 P Ee) Ee':=by
 let h2:=h.bd0 x;unfold Run at h2 ⊢;unfold M.qt at h2;cases e:m s with
 |none=>rw[e]at h2;show h2|some r=>
  let⟨r,s1⟩:=r;rw[e]at h2;cases r with
  |ok a=>show h2|er c f=>show h2.elim
def zlq{α β:Type}{m m':M α}{k:α->M β}{P:β->S->Ph->Hp->Prop}{Ee:Nat->List D->S->Ph->Hp->Prop}(e:m s=m' s)(h:Run K cA (M.bd m k) U H s P Ee):Run K cA (M.bd m' k) U H s P Ee:=by
 unfold Run M.bd at *;rw[<-e];show h
end
section
variable {X:Cx}{cA:Cl}{ao:Nat->Nat->Bool}{aj:Bool}{F:Fn}{EX:XS}{elt iter tg:Expr}{A B:E}{pos p:Pos}{ifs:List Expr}{scope:Scope}{N:List Str}{cond:Eo}{fr gD:List Nat}{many:Nat}{fz:Bool}{w:Wk}
def Pg(X:Cx)(cA:Cl)(ao:Nat->Nat->Bool)(aj:Bool)(F:Fn)(EX:XS)(ifs:List Expr)(m:Eo):Prop:=Ox X ifs (Ao X.K cA EX (uy ao aj F m))
theorem znq:Pg X cA ao aj F EX [] .no:=λak s Z H Q I ⟨U,J,st,hL,hS,h⟩=>zkC ak s Z H Q I (h.bO hS)
theorem zkS(h:ST X cA ao aj F EX c C):Pg X cA ao aj F EX [c] (.yes C):=zkT h
structure qz(K:W.Frag)(cA:Cl)(g:TG)(gD:List Nat):Prop where
 run:∀(U:Ph) (H:Hp) (s:S) (Z:L2.St) (J J':Vs) (d:D) (v:V) (Q:L2.St->Hp->Prop),bx K cA U H Z J->aF K cA U H s->Rep K cA U H d v->jE gD d J=some J'->
  (∀Z',bx K cA U H Z' J'->Z'.length=Z.length->(∀i,i∉gD->Z'[i]?=Z[i]?)->Q Z' H)->g v Z H Q
theorem KR{K:W.Frag}(i:Nat):qz K cA (cY i) [i] where
 run:=λU H s Z J J' d v Q hL hS r e k=>by
  cases e;show k _ (hL.set (.d r)) (lE ..) λj hj=>oE (by simpa using λz=>hj (by simp[z]))
theorem Pj{K:W.Frag}(i j:Nat):qz K cA (pW K 2 (dJ (cY i) (dJ (cY j) pU))) [i,j] where
 run:=λU H s Z J J' d v Q hL hS r e k=>by
  let e:(jD d).bind (λds=>fu [i,j] (ds.map Xv.d) J)=some J':=e;let⟨ds,e1,e2⟩:=qM.mp e;cases r with
  |@tup ad xs vs h1 h2=>
   let e1:xs=ds:=dD e1;subst e1;cases h2 with
   |nil=>cases e2|cons r1 t1=>
    cases t1 with
    |nil=>cases e2|cons r2 t2=>
     cases t2 with
     |nil=>
      let e2:=dD e2;subst e2;show⟨ad,_,rfl,h1.iM,rfl,_,_,rfl,_,_,rfl,rfl,k _ ((hL.set (.d r1)).set (.d r2)) (by rw[lE,lE]) λm hm=>?_⟩;rw[oE (λz=>hm (by simp[z])),oE (λz=>hm (by simp[z]))]
     |cons r3 t3=>cases e2
  |_=>cases e1
def dX(many:Nat)(fr:List Nat)(Z:L2.St):L2.St:=List.replicate many none++fr.map λj=>(Z[j]?).join
def zkt{U:Ph}{H:Hp}{Z:L2.St}{J:Vs}(hL:bx X.K cA U H Z J){Z':L2.St}(hl:Z'.length=many+fr.length)(hf:∀(i:Nat) j v,fr[i]?=some j->Z[j]?=some (some v)->Z'[many+i]?=some (some v)):bx X.K cA U H Z' (blk many fr J):=by
 show⟨by unfold blk;simp[hl],λi d e=>?_⟩;unfold blk at e;by_cases hi:i<many
 .rw[qL (by simpa using hi),M5,if_pos hi]at e;cases e
 .rw[pO (by simpa using Hw hi),M9,lD]at e;cases z:fr[i-many]? with
  |none=>rw[z]at e;cases e|some j=>
   rw[z]at e;let e3:J[j]?.join=some d:=by simpa using e
   let⟨v,q1,q2⟩:=hL.2 j d (UW e3);show⟨v,?_,q2⟩;let:=hf (i-many) j v z q1;rw[show many+(i-many)=i by omega]at this;show this
structure iH(U:Ph)(H:Hp)(Dd:Addr)(o:HO):Prop where
 at_:H Dd=some o
 nl:Dd∉U.l
 z:U.z Dd
abbrev Keep(U:Ph)(H:Hp)(Dd:Addr)(vs:List V):Prop:=iH U H Dd (.lst vs)
def iH.mono{U U':Ph}{H H':Hp}{Dd:Addr}{o:HO}(x:Ext U H U' H')(k:iH U H Dd o):iH U' H' Dd o:=by
 show⟨x.frame _ _ k.at_ k.nl,λz=>?_,x.vL _ k.z⟩;let⟨r,er,hr⟩:=x.more;rw[er]at z;rcases gA.mp z with z|z
 .exact k.nl z
 .let:=hr _ z;rw[k.at_]at this;cases this
theorem iH.ext{U:Ph}{H:Hp}{Dd:Addr}{o u:HO}(k:iH U H Dd o):(∀a o,H a=some o->¬U.z a->(upd H Dd u) a=some o)/\iH U (upd H Dd u) Dd u:=
 ⟨λa o e n=>by rw[dB (λz=>n (by rw[z];show k.z))];show e,iU,k.nl,k.z⟩
end
section
variable {K:W.Frag}{cA:Cl}{U U':Ph}{H H':Hp}
def aF.keep{s:S}{Dd:Addr}{o u:HO}(h:aF K cA U H s)(k:iH U H Dd o):aF K cA U (upd H Dd u) s:=by
 let x:dW U H (upd H Dd u):=k.ext.1;show⟨h.len,λn o a e1 e2=>?_,h.uniq,h.lz,λa z=>?_⟩
 .let na:a≠Dd:=λy=>k.nl (by rw[<-y];show jL e2);show(h.obj n o a e1 e2).map (λ_ q=>by rw[dB na];show q) λ_ _ r=>r.out x
 .by_cases e:a=Dd
  .subst e;show⟨_,iU⟩
  .obtain⟨o,q⟩:=h.zt a z;show⟨o,by rw[dB e];show q⟩
def Ext.keep{U1:Ph}{H1:Hp}{Dd:Addr}{vs:List V}{u:HO}(x:Ext U1 H1 U H)(hD:H1 Dd=none):Ext U1 H1 U (upd H Dd u):=by
 show⟨x.more,x.vL,x.nj,λa o h n=>?_,λa o h=>?_⟩
 .rw[dB (λz=>by rw[z,hD]at h;cases h)];show x.frame a o h n
 .rw[dB (λz=>by rw[z,hD]at h;cases h)];show x.stay a o h
def zhp{U1:Ph}{H1:Hp}{s':S}{fz:Bool}{acc:List D}{vs:List V}{Dd:Addr}{Q:VK}{Ee:Nat->List D->S->Ph->Hp->Prop}(h:Run K cA (newL fz acc) U1 H1 s' (λd _ U' H'=>∀v,bB K cA U' H' d v->Q v H') Ee)
  (x2:Ext U1 H1 U' H') (hD:H1 Dd=none) (nz:¬U1.z Dd) (aP:aF K cA U' H' s') (k:Keep U' H' Dd vs) (wQ:aC K cA U' H' acc vs):Q (.ref Dd) H':=by
 cases fz with
 |true=>
  let zq:∀a,(λa=>U'.z a/\a≠Dd) a->U'.z a:=λa z=>z.1;show h ⟨λa=>U'.z a/\a≠Dd,U'.l⟩ H' ⟨x2.more,λa z=>⟨x2.vL a z,λe=>nz (by rw[<-e];show z)⟩,λa z=>x2.nj a z.1,x2.frame,x2.stay⟩ ?_ _ (.d (.fl (.inl ⟨.inl k.at_,λz=>z.2 rfl⟩) (aC.jW (U:=U') zq wQ)));show⟨aP.len,λn o a e1 e2=>k_.jW (U:=U') zq (aP.obj n o a e1 e2),aP.uniq,λa ha=>⟨aP.lz a ha,λe=>k.nl (by rw[<-e];show ha)⟩,λa z=>aP.zt a z.1⟩
 |false=>
  let⟨r,er,hr⟩:=x2.more;show h ⟨U'.z,U'.l++[Dd]⟩ H' ⟨⟨r++[Dd],by change U'.l++[Dd]=_;rw[er,BR],λb hb=>?_⟩,x2.vL,x2.nj,x2.frame,x2.stay⟩ ?_ _ (.l (by change (U'.l++[Dd])[s'.length]?=_;rw[<-aP.len];simp))
  .rcases gA.mp hb with z|z
   .exact hr b z
   .simp at z;subst z;show hD
  .refine⟨by change (U'.l++[Dd]).length=_;rw[gP,gP,aP.len];rfl,λm o' a' e1 e2=>?_,?_,λb hb=>?_,aP.zt⟩
   .let e2:(U'.l++[Dd])[m]?=some a':=e2;by_cases hm:m<s'.length
    .rw[qL hm]at e1;rw[qL (by rw[aP.len];show hm)]at e2;show k_.zl (aP.obj m o' a' e1 e2) _
    .let u_:m=s'.length:=by
      let z:=(jr.mp e2).1;rw[gP,aP.len]at z;simp at z;omega
     subst u_;rw[pO (bK _)]at e1;rw[pO (by rw[aP.len];show bK _)]at e2;simp at e1;simp[aP.len]at e2;subst e1 e2;show⟨vs,k.at_,aC.zl wQ _⟩
   .show (U'.l++[Dd]).Nodup;rw[Nr];show⟨aP.uniq,by simp,λb hb c hc e=>?_⟩;simp at hc;subst hc e;show k.nl hb
   .let hb:b∈U'.l++[Dd]:=hb;rcases gA.mp hb with z|z
    .exact aP.lz b z
    .simp at z;subst z;show k.z
def Ph.mark(U:Ph)(p:Addr):Ph:=⟨λa=>U.z a\/a=p,U.l⟩
def zfR{s:S}{p:Addr}(hS:aF K cA U H s)(hp:H p=none):Ext U H (U.mark p) (upd H p (.lst []))/\aF K cA (U.mark p) (upd H p (.lst [])) s/\Keep (U.mark p) (upd H p (.lst [])) p []:=by
 let g:=bD.new (o:=.lst []) hp;let nz:=hS.nz hp;show⟨⟨⟨[],by simp[Ph.mark],by simp⟩,λa z=>.inl z,λa z=>z.imp id λe=>by rw[e];show hp,λa o h _=>g a o h,λa o h=>⟨o,g a o h⟩⟩,⟨hS.len,λn o a e1 e2=>?_,hS.uniq,λa ha=>.inl (hS.lz a ha),λa z=>?_⟩,iU,λz=>nz (hS.lz p z),.inr rfl⟩
 .let x:Ext U H (U.mark p) (upd H p (.lst [])):=⟨⟨[],by simp[Ph.mark],by simp⟩,λa z=>.inl z,λa z=>z.imp id λe=>by rw[e];show hp,λa o h _=>g a o h,λa o h=>⟨o,g a o h⟩⟩;show(hS.obj n o a e1 e2).map (g _) λ_ _ r=>r.mono x hS.lz
 .rcases z with z|z
  .obtain⟨o,e⟩:=hS.zt a z;show⟨o,g _ _ e⟩
  .subst z;show⟨_,iU⟩
end
section
variable {X:Cx}{cA:Cl}{ao:Nat->Nat->Bool}{aj:Bool}{F:Fn}{EX:XS}{elt iter tg:Expr}{A B:E}{pos p:Pos}{ifs:List Expr}{scope:Scope}{N:List Str}{cond:Eo}{fr gD:List Nat}{many:Nat}{fz:Bool}{w:Wk}
noncomputable abbrev gO(ao:Nat->Nat->Bool)(aj:Bool)(F:Fn)(B:E)(cond:Eo)(gD:List Nat)(Jb:Vs):D->List D->M (List D):=λd acc=>M.bd (M.opt (jE gD d Jb)) λJ'=>M.bd (M.qt (uy ao aj F cond J')) λok=>
    if ok=true then M.bd (M.qt (ev ao aj F B J')) λy=>M.bd (dat y) λe=>if acc.length<sizeLine then M.ret (acc++[e]) else M.no else M.ret acc
theorem zja{H:Hp}{a:Addr}{o:HO}(h:H a=some o):upd H a o=H:=funext λb=>by
 by_cases z:b=a
 .subst z;rw[iU,h]
 .rw[dB z]
def ziv{K:W.Frag}{g:TG}{U1 U':Ph}{H1 H2:Hp}{s':S}{Z':L2.St}{Jb:Vs}{Dd:Addr}{acc:List D}{vs:List V}{xi:D}{v:V}{β:Type}{kk:List D->M β}{P:β->S->Ph->Hp->Prop}{Ee:Nat->List D->S->Ph->Hp->Prop}(hT:qz K cA g gD)(jh:∀i∈gD,i<many)
  (hD:H1 Dd=none) (x2:Ext U1 H1 U' H2) (hL2:bx K cA U' H2 Z' Jb) (aP:aF K cA U' H2 s') (kp:Keep U' H2 Dd vs) (wQ:aC K cA U' H2 acc vs) (rx:Rep K cA U' H2 xi v)
  (h:Run K cA (M.bd (gO ao aj F B cond gD Jb xi acc) kk) U1 H1 s' P Ee) {Nn:L2.St->Hp->Prop}
  (hN:∀Z3 H3 U3 s3 zp Pk,Z3.length=Z'.length->(∀i,many<=i->Z3[i]?=Z'[i]?)->Ext U1 H1 U3 H3->Ext U' H2 U3 (upd H3 Dd (.lst vs))->aF K cA U3 H3 s3->Keep U3 H3 Dd Pk->aC K cA U3 H3 zp Pk->Run K cA (kk zp) U1 H1 s3 P Ee->Nn Z3 H3) :
  g v Z' H2 λZ3 H3=>Ao K cA (λ_ _ _ _=>False) (uy ao aj F cond) Z3 H3 λok H4=>
   if ok=true then tE K cA (λ_ _ _ _=>False) (ev ao aj F B) Z3 H4 λy H5=>∃ys,H5 Dd=some (.lst ys)/\ys.length<sizeLine/\Nn Z3 (upd H5 Dd (.lst (ys++[y]))) else Nn Z3 H4:=by
 unfold gO at h;rw[iD]at h;let⟨J',e1,h1⟩:=O7 h;show hT.run U' H2 s' Z' Jb J' xi v _ hL2 aP rx e1 λZ3 rE hl3 hf3=>?_;rw[iD]at h1;let kf:∀i,many<=i->Z3[i]?=Z'[i]?:=λi hi=>hf3 i λz=>absurd (jh i z) (HB.mpr hi);show⟨U',J',s',rE,aP,(G4 x2 h1).imp λok s4 U4 H4 ⟨x4,jV,h6⟩=>?_⟩;cases ok with
 |false=>
  show iF (hN Z3 H4 U4 s4 acc vs hl3 kf (x2.trans x4) (by rw[zja (kp.mono x4).at_];show x4) jV (kp.mono x4) (wQ.mono x4 aP.lz) ?_);rw[if_neg W9]at h6;show h6
 |true=>
  rw[if_pos rfl,iD]at h6;show iT ⟨U4,J',s4,rE.mono x4 aP.lz,jV,(G4 (x2.trans x4) h6).imp λy s5 U5 H5 ⟨x5,tK,h7⟩ u ru=>?_⟩;rw[iD]at h7;let k5:=(kp.mono x4).mono x5;let r5:=(wQ.mono x4 aP.lz).mono x5 jV.lz;let x15:=(x2.trans x4).trans x5;obtain⟨dd,ey,rd,h8⟩ : ∃d,y=.d d/\Rep K cA U5 H5 d u/\Run K cA (M.bd (if acc.length<sizeLine then M.ret (acc++[d]) else M.no) kk) U1 H1 s5 P Ee:=by
   cases ru with
   |l _=>show h7.elim|d r=>show⟨_,rfl,r,h7⟩
  by_cases hz:acc.length<sizeLine
  .rw[if_pos hz]at h8;show⟨vs,k5.at_,by rw[<-r5.len];show hz,?_⟩;let ox:dW U5 H5 (upd H5 Dd (.lst (vs++[u]))):=k5.ext.1;show hN Z3 _ U5 s5 (acc++[dd]) (vs++[u]) hl3 kf (Ext.keep (vs:=vs) x15 hD) (by rw[YQ,zja k5.at_];show x4.trans x5) (tK.keep k5) k5.ext.2 ((r5.app (.cons rd .nil)).out ox) h8
  .rw[if_neg hz]at h8;show h8.elim
theorem zhC{g:TG}{iter':Expr}(hT:qz X.K cA g gD)(jh:∀i∈gD,i<many){Z:L2.St}{H:Hp}{Q:VK}(hh:tE X.K cA EX (ev ao aj F (.comp fz B gD w fr many cond)) Z H Q) :
  Ah (tI X.K cA EX (oR ao aj F w)) (dX many fr) g (Ao X.K cA (λ_ _ _ _=>False) (uy ao aj F cond)) (tE X.K cA (λ_ _ _ _=>False) (ev ao aj F B)) Z H Q:=un hh λU J s hL hS h=>by
 by_cases bI:aj=true
 .let h:Run X.K cA (if aj=true then M.bd (oR ao aj F w J) λcn=>M.bd (walk cn.1 (gO ao aj F B cond gD (blk many fr J)) (cn.2+1) 0 []) λxs=>newL fz xs else M.no) U H s (λd _ U' H'=>∀v,bB X.K cA U' H' d v->Q v H') (eX X.K cA EX Z):=h;rw[if_pos bI]at h;show⟨U,J,s,hL,hS,h.bd.imp λcn s1 U1 H1 ⟨x1,aG,h1⟩ cj hJ=>?_⟩;let hL1:=hL.mono x1 hS.lz;let⟨c,n⟩:=cn;dsimp only at h1 hJ;intro Dd hD;let⟨x0,Vm,k0⟩:=zfR aG hD;let Vn:∀{Z':L2.St},(Z'.length=many+fr.length/\∀i,many<=i->Z'[i]?=(dX many fr Z)[i]?)->∀{U' H'},Ext U1 H1 U' H'->bx X.K cA U' H' Z' (blk many fr J):=λ{Z'} hZ {U' H'} x=>zkt (hL1.mono x aG.lz) hZ.1 λi j v e1 e2=>by
   rw[hZ.2 _ Bd];unfold dX;rw[pO Zaa,M9,lD,show many+i-many=i by omega,e1];simp[e2]
  show⟨λi m Z' H'=>m=n+1-i/\(Z'.length=many+fr.length/\∀i,many<=i->Z'[i]?=(dX many fr Z)[i]?)/\∃U' s' acc vs,Ext U1 H1 U' H'/\aF X.K cA U' H' s'/\Keep U' H' Dd vs/\aC X.K cA U' H' acc vs /\
   Run X.K cA (M.bd (walk c (gO ao aj F B cond gD (blk many fr J)) (n+1-i) i acc) λxs=>newL fz xs) U1 H1 s' (λd _ U' H'=>∀v,bB X.K cA U' H' d v->Q v H') (eX X.K cA EX Z),⟨n+1,rfl,⟨by simp[dX],λi _=>rfl⟩,U1.mark Dd,s1,[],[],x0,Vm,k0,.nil,h1⟩,?_⟩
  rintro i m Z' H' ⟨rfl,hZ,U',s',acc,vs,x2,aP,kp,wQ,h3⟩;let hL2:=Vn hZ x2;cases ek:n+1-i with
  |zero=>rw[ek]at h3;show h3.elim|succ k=>
   rw[ek]at h3;cases ei:c.at i s' with
   |none=>
    exfalso
    unfold Run M.bd walk at h3;simp only[ei]at h3
   |some oi=>
    cases oi with
    |none=>
     show .inl ⟨hJ.stop U' H' H' s' i x2 dW.refl aP ei,?_⟩;let h4:Run X.K cA (newL fz acc) U1 H1 s' (λd _ U' H'=>∀v,bB X.K cA U' H' d v->Q v H') (eX X.K cA EX Z):=by
      unfold Run M.bd walk at h3;simp only[ei]at h3;show h3
     show zhp h4 x2 hD (aG.nz hD) aP kp wQ
    |some xi=>
     show .inr ⟨hJ.go U' H' H' s' i xi x2 dW.refl aP ei,λZ2 H2=>(Z2.length=many+fr.length/\∀i,many<=i->Z2[i]?=(dX many fr Z)[i]?)/\∃U' s' acc vs,Ext U1 H1 U' H2/\aF X.K cA U' H2 s'/\Keep U' H2 Dd vs/\aC X.K cA U' H2 acc vs /\
      Run X.K cA (M.bd (walk c (gO ao aj F B cond gD (blk many fr J)) k (i+1) acc) λxs=>newL fz xs) U1 H1 s' (λd _ U' H'=>∀v,bB X.K cA U' H' d v->Q v H') (eX X.K cA EX Z),λZ2 H2 hn=>⟨k,by omega,by omega,hn.1,?_⟩,λv H2 hy=>?_⟩
     .let:n+1-(i+1)=k:=by omega
      rw[this];show hn.2
     .obtain⟨gr,rx⟩:=hJ.Cz U' H' H' s' i xi v H2 x2 dW.refl aP ei hy;let h4:Run X.K cA (M.bd (gO ao aj F B cond gD (blk many fr J) xi acc) λacc'=>M.bd (walk c (gO ao aj F B cond gD (blk many fr J)) k (i+1) acc') λxs=>newL fz xs) U1 H1 s' (λd _ U' H'=>∀v,bB X.K cA U' H' d v->Q v H') (eX X.K cA EX Z):=by
       let h5:=zlq (m':=M.bd (gO ao aj F B cond gD (blk many fr J) xi acc) λacc'=>walk c (gO ao aj F B cond gD (blk many fr J)) k (i+1) acc') (by rw[walk];simp only[ei]) h3;rw[iD]at h5;show h5
      show ziv hT jh hD (x2.trans gr.ext) (hL2.mono gr.ext aP.lz) (aP.grow gr) (kp.mono gr.ext) (wQ.mono gr.ext aP.lz) rx h4 λZ3 H3 U3 s3 zp Pk l3 f3 x3 _ iQ k3 r3 h6=>⟨⟨l3.trans hZ.1,λi hi=>(f3 i hi).trans (hZ.2 i hi)⟩,U3,s3,zp,Pk,x3,iQ,k3,r3,h6⟩
 .let h:Run X.K cA (if aj=true then M.bd (oR ao aj F w J) λcn=>M.bd (walk cn.1 (gO ao aj F B cond gD (blk many fr J)) (cn.2+1) 0 []) λxs=>newL fz xs else M.no) U H s (λd _ U' H'=>∀v,bB X.K cA U' H' d v->Q v H') (eX X.K cA EX Z):=h;rw[if_neg bI]at h;show h.elim
def ziL{XN:List Str}(hfr:∀(i:Nat) (y:Str) (j:Nat),N[many+i]?=some y->fr[i]?=some j->scope.names.lookup y=some .free/\XN[j]?=some y)(Z:L2.St)(i:Nat)(x:Str)(v:V)(e1:N[i]?=some x)(e2:(dX many fr Z)[i]?=some (some v)):scope.names.lookup x=some .free/\∃j:Nat,XN[j]?=some x/\Z[j]?=some (some v):=by
 unfold dX at e2;by_cases hi:i<many
 .rw[qL (by simpa using hi),M5,if_pos hi]at e2;cases e2
 .rw[pO (by simpa using Hw hi),M9,lD]at e2;cases z:fr[i-many]? with
  |none=>rw[z]at e2;cases e2|some j=>
   rw[z]at e2;let e3:(Z[j]?).join=some v:=by simpa using e2
   let⟨a1,a2⟩:=hfr (i-many) x j (by rw[show many+(i-many)=i by omega];show e1) z;show⟨a1,j,a2,UW e3⟩
theorem zkz{g:TG}(hc:X.aj=true)(B':jz X.env.scope scope)(hi:SI X cA ao aj F EX tg iter w)(hN:N.length=many+fr.length)
  (hfr:∀(i:Nat) (y:Str) (j:Nat),N[many+i]?=some y->fr[i]?=some j->scope.names.lookup y=some .free/\X.N[j]?=some y)
  (hg:∀cl C s3 H3 fp ak,PG (X.blk scope cl N C s3 H3 fp ak) tg g) (hT:qz X.K cA g gD) (jh:∀i∈gD,i<many)
  (ht:∀cl C s3 H3 fp ak,Pg (X.blk scope cl N C s3 H3 fp ak) cA ao aj F (λ_ _ _ _=>False) ifs cond) (he:∀cl C s3 H3 fp ak,SE (X.blk scope cl N C s3 H3 fp ak) cA ao aj F (λ_ _ _ _=>False) elt B)
  (hs:∀x,foldedSetIterable iter X.env x=pure x:=by intro _;rfl):SE X cA ao aj F EX (.ListComp elt [⟨tg,iter,ifs,0⟩] scope pos) (.comp fz B gD w fr many cond):=
 PE.weak (zla hc B' hi (⟨hg,ht,he⟩ : Parts X elt tg ifs scope N g (Ao X.K cA (λ_ _ _ _=>False) (uy ao aj F cond)) (tE X.K cA (λ_ _ _ _=>False) (ev ao aj F B))) (ZY:=dX many fr) (λZ=>by simp[dX,hN]) (λZ i x v e1 e2=>ziL hfr Z i x v e1 e2) hs) λZ H Q hh=>zhC (iter':=iter) hT jh hh
end
section
variable (K:W.Frag)(cA:Cl)
def aM(m:MS)(U:Ph)(H:Hp)(s:S)(D:Ends)(EX:XS):Prop:=match m s with
 |some (.nx J,s')=>∀U' H' Z',Ext U H U' H'->aF K cA U' H' s'->bx K cA U' H' Z' J->D.nx Z' H'|some (.bk J,s')=>∀U' H' Z',Ext U H U' H'->aF K cA U' H' s'->bx K cA U' H' Z' J->D.bk Z' H'|some (.ct J,s')=>∀U' H' Z',Ext U H U' H'->aF K cA U' H' s'->bx K cA U' H' Z' J->D.ct Z' H'|some (.rt d,s')=>∀U' H' v,Ext U H U' H'->aF K cA U' H' s'->bB K cA U' H' d v->D.rt v H'|some (.er c fs J,s')=>∀U' H' Z',Ext U H U' H'->aF K cA U' H' s'->bx K cA U' H' Z' J->∀dx,lq K cA U' H' c fs dx->EX Z' (.ref (cA.a c)) dx H'|none=>False
def tS(EX:XS)(m:Vs->MS):TS:=λD Z H=>∃U J s,bx K cA U H Z J/\aF K cA U H s/\aM K cA (m J) U H s D EX
end
section
variable {K:W.Frag}{cA:Cl}{U U':Ph}{H H':Hp}{s:S}{Z:L2.St}{J:Vs}{EX:XS}{D:Ends}
def aM.ext{m:MS}(x:Ext U H U' H')(h:aM K cA m U H s D EX):aM K cA m U' H' s D EX:=by
 unfold aM at *;split at h<;>first
  |exact λU2 H2 a y r l=>h U2 H2 a (x.trans y) r l|exact h.elim
def aM.ofM{α:Type}{m:M α}{k:α->MS}(hL:bx K cA U H Z J)(hz:∀a∈U.l,U.z a)(h:aM K cA (ofM m J k) U H s D EX):Run K cA m U H s (λa s1 U1 H1=>Ext U H U1 H1/\aF K cA U1 H1 s1/\aM K cA (k a) U1 H1 s1 D EX) (eX K cA EX Z):=by
 unfold aM Mi.ofM at h;unfold Run;cases e:m s with
 |none=>rw[e]at h;show h|some r=>
  let⟨r,s1⟩:=r;rw[e]at h;cases r with
  |er c fs=>show λU1 H1 x r=>h U1 H1 Z x r (hL.mono x hz)|ok a=>
   intro U1 H1 x r;show⟨x,r,?_⟩;let h2:aM K cA (k a) U H s1 D EX:=h;show h2.ext x
def aM.then_(h:aM K cA (bH m k) U H s D EX):aM K cA m U H s {D with nx:=λZ' H'=>∃U' J' s',bx K cA U' H' Z' J'/\aF K cA U' H' s'/\aM K cA (k J') U' H' s' D EX} EX:=by
 unfold aM bH at h;unfold aM;cases e:m s with
 |none=>rw[e]at h;show h|some r=>
  let⟨r,s1⟩:=r;rw[e]at h;cases r with
  |nx J=>
   intro U1 H1 Z1 x r l;let h2:aM K cA (k J) U H s1 D EX:=h;show⟨U1,J,s1,l,r,h2.ext x⟩
  |bk J=>show h|ct J=>show h|rt d=>show h|er c fs J=>show h
end
section
variable (X:Cx)(cA:Cl)(ao:Nat->Nat->Bool)(aj:Bool)(F:Bool->Fn)(EX:XS)
def SS(st:Stmt)(m:St):Prop:=PS X st (tS X.K cA EX (ex ao aj F m))
def tM(st:List Stmt)(m:cg):Prop:=pD X st (tS X.K cA EX (exs ao aj F m))
end
section
variable {X:Cx}{cA:Cl}{ao:Nat->Nat->Bool}{aj:Bool}{F:Bool->Fn}{EX:XS}{a b c d e:Expr}{A B C:E}{pos p p2:Pos}{st:Stmt}{sts body orelse:List Stmt}{m:St}{ms mb me mh:cg}{es:List Expr}{Xs:Es}{x y n:Str}{i j:Nat}
theorem PS.weak{t t':TS}(h:PS X st t)(f:∀D Z H,t' D Z H->t D Z H):PS X st t':=λak s Z H D I q=>h ak s Z H D I (f D Z H q)
theorem pD.weak{t t':TS}(h:pD X sts t)(f:∀D Z H,t' D Z H->t D Z H):pD X sts t':=λak s Z H D I q=>h ak s Z H D I (f D Z H q)
theorem zjE:tM X cA ao aj F EX [] .nil:=pD.weak zj7 λD Z H hh=>un hh λU J s hL hS h=>h U H Z Ext.refl hS hL
theorem zhV(h1:SS X cA ao aj F EX st m)(h2:tM X cA ao aj F EX sts ms):tM X cA ao aj F EX (st::sts) (.cons m ms):=pD.weak (RZ h1 h2) λD Z H hh=>un hh λU J s hL hS h=>by
 let h:aM X.K cA (bH (ex ao aj F m J) λJ'=>exs ao aj F ms J') U H s D EX:=h;show⟨U,J,s,hL,hS,h.then_⟩
theorem zog(ha:SE X cA ao aj (F aj) EX a A)(hs:swapsWith a none pos.line X.env=pure false:=by rfl):SS X cA ao aj F EX (.Expr a pos) (.ex A):=PS.weak (zjF ha hs) λD Z H hh=>un hh λU J s hL hS h=>
 ⟨U,J,s,hL,hS,(aM.ofM hL hS.lz h).imp λd s1 U1 H1 ⟨x1,aG,h1⟩ v rv=>h1 U1 H1 Z Ext.refl aG (hL.mono x1 hS.lz)⟩
theorem zlM(ha:SE X cA ao aj (F aj) EX a A):SS X cA ao aj F EX (.Return (some a) pos) (.ret A):=PS.weak (znp ha) λD Z H hh=>un hh λU J s hL hS h=>
 ⟨U,J,s,hL,hS,(aM.ofM hL hS.lz h).imp λd s1 U1 H1 ⟨x1,aG,h1⟩ v rv=>h1 U1 H1 v Ext.refl aG rv⟩
theorem znh(hN:X.N.Nodup)(hi:X.N[i]?=some x)(hx:Loc X.env.scope x)(ha:SE X cA ao aj (F aj) EX a A)(hs:swapsWith a (some (.Name x p)) pos.line X.env=pure false:=by rfl)(hf:X.fn x=true\/X.env.scope.names.lookup x=some .local:=by first|exact .inl rfl|exact .inr rfl) :
  SS X cA ao aj F EX (.Assign [.Name x p] a pos) (.asg (.nm i) A):=PS.weak (Y6 hN hi hx ha hs hf) λD Z H hh=>un hh λU J s hL hS h=>
 ⟨U,J,s,hL,hS,(aM.ofM hL hS.lz h).imp λd s1 U1 H1 ⟨x1,aG,h1⟩ v rv=>h1 U1 H1 _ Ext.refl aG ((hL.mono x1 hS.lz).set rv)⟩
theorem Vo{k}(hc:X.aj=true)(hN:X.N.Nodup)(hi:X.N[i]?=some x)(hj:X.N[j]?=some y)(hx:Loc X.env.scope x)(hy:Loc X.env.scope y)(lO:X.fn x=true\/X.env.scope.names.lookup x=some .local)(oU:X.fn y=true\/X.env.scope.names.lookup y=some .local) :
  PG X (.Tuple [.Name x px,.Name y py] k pos) (pW X.K 2 (dJ (cY i) (dJ (cY j) pU))):=R4 hc (yx (yw hN hi hx lO) (yx (yw hN hj hy oU) Og))
def zdw{K:W.Frag}{U:Ph}{H:Hp}{s:S}{J:Vs}{Z:L2.St}{D:Ends}{d:Xv}{v:V}(bI:aj=true)(hL:bx K cA U H Z J)(hS:aF K cA U H s)(rv:bB K cA U H d v)(h:aM K cA (store ao aj (F aj) (.tp [i,j]) d J) U H s D EX):pW K 2 (dJ (cY i) (dJ (cY j) pU)) v Z H D.nx:=by
 let h:aM K cA (if aj=true then ofM (M.bd (dat d) λd=>M.opt ((jD d).bind λds=>fu [i,j] (ds.map Xv.d) J)) J (λJ' s=>some (Out.nx J',s)) else λ_=>none) U H s D EX:=h;rw[if_pos bI]at h;let⟨dd,e0,rd,h1⟩:=O8 rv (aM.ofM hL hS.lz h);let⟨J',e,_,aG,h2⟩:=Run.opt hS h1;show(Pj i j).run U H s Z J J' dd v _ hL hS rd e λZ' Vp _ _=>h2 U H Z' Ext.refl hS Vp
theorem zjM{k}(hc:X.aj=true)(bI:aj=true)(hN:X.N.Nodup)(hi:X.N[i]?=some x)(hj:X.N[j]?=some y)(hx:Loc X.env.scope x)(hy:Loc X.env.scope y)(lO:X.fn x=true\/X.env.scope.names.lookup x=some .local)(oU:X.fn y=true\/X.env.scope.names.lookup y=some .local)(ha:SE X cA ao aj (F aj) EX a A)
  (hs:swapsWithSole [.Tuple [.Name x px,.Name y py] k pt] a pos.line X.env=pure false:=by rfl) (hw:swappedStores [.Tuple [.Name x px,.Name y py] k pt] a X.env=pure none:=by rfl)
  (h1:(assignEach [.Tuple [.Name x px,.Name y py] k pt] X.env).map (·.2)=[assign (.Tuple [.Name x px,.Name y py] k pt) X.env]:=by rfl) :
  SS X cA ao aj F EX (.Assign [.Tuple [.Name x px,.Name y py] k pt] a pos) (.asg (.tp [i,j]) A):=PS.weak (Ik ha (Vo hc hN hi hj hx hy lO oU) hs hw h1) λD Z H hh=>un hh λU J s hL hS h=>
 ⟨U,J,s,hL,hS,(aM.ofM hL hS.lz h).imp λd s1 U1 H1 ⟨x1,aG,h1⟩ v rv=>zdw bI (hL.mono x1 hS.lz) aG rv h1⟩
theorem znS(hO:SE X cA ao aj (F aj) EX oo O)(hI:SE X cA ao aj (F aj) EX ii I')(ha:SE X cA ao aj (F aj) EX a A)
  (DR:∀v,assign (.Subscript oo ii p) X.env v=(do
   let ov <-holding [v] (eval oo X.env)
   let iv <-holding [v,ov] (eval ii X.env)
   standAt p
   holding [v,ov,iv] (setItem ov iv v)
   release [v,ov,iv] []):=by intro _;rfl) (hs:swapsWithSole [.Subscript oo ii p] a pos.line X.env=pure false:=by rfl) (hw:swappedStores [.Subscript oo ii p] a X.env=pure none:=by rfl)
  (h1:(assignEach [.Subscript oo ii p] X.env).map (·.2)=[assign (.Subscript oo ii p) X.env]:=by rfl) :
  SS X cA ao aj F EX (.Assign [.Subscript oo ii p] a pos) (.asg (.ao O I') A):=PS.weak (Ik ha (R5 hO hI Sx DR) hs hw h1) λD Z H hh=>un hh λU J s hL hS h=>by
 show⟨U,J,s,hL,hS,(aM.ofM hL hS.lz h).imp λd s1 U1 H1 ⟨x1,aG,h1⟩ v rv=>?_⟩;let⟨dd,e0,rd,h2⟩:=O8 rv (aM.ofM (hL.mono x1 hS.lz) aG.lz h1);show aZ (hL.mono x1 hS.lz) aG h2 λxo H2 U2 d2 s2 x2 hL2 aP r2 h3=>aZ hL2 aP h3 λyi H3 U3 d3 s3 x3 rE iQ r3 h4=>?_;let⟨k,_,ek,h5⟩:=Kg r3 h4;let⟨n,ad,xs,vs,_,ea,e1,f1,g1,q1,h6⟩:=Vi iQ (r2.mono x3 aP.lz) h5;subst ek ea;cases ej:L2.lX xs.length k with
 |none=>simp only[ej]at h6;show h6.elim|some jj=>
  simp only[ej]at h6;show⟨ad,vs,k,jj,rfl,rfl,g1,by rw[<-q1.len];show ej,?_⟩;let rv3:=(rd.mono x2 aG.lz).mono x3 aP.lz;let jV:=iQ.write e1 f1 (q1.set rv3 jj);let x4:Ext U3 H3 U3 (upd H3 ad (.lst (vs.set jj v))):=Ext.write f1 ⟨_,g1⟩;let⟨_,_,h8⟩:=h6 U3 _ x4 jV;show h8 U3 _ Z Ext.refl jV (rE.mono x4 iQ.lz)
theorem zmC{kt k2 nQ}(hc:X.aj=true)(bI:aj=true)(hN:X.N.Nodup)(hi:X.N[i]?=some x)(hj:X.N[j]?=some y)(lW:i≠j)(hx:X.env.scope.names.lookup x=some .local)(hy:X.env.scope.names.lookup y=some .local)
  (ha:SE X cA ao aj (F aj) EX a A) (hb:SE X cA ao aj (F aj) EX b B) (h1:starEach [a,b] X.env=(false,eval a X.env)::starEach [b] X.env) (h2:starEach [b] X.env=(false,eval b X.env)::starEach [] X.env)
  (hw:swappedStores [.Tuple [.Name x px,.Name y py] kt pt] (.Tuple [a,b] k2 nQ) X.env=pure (some [x,y]))
  (hs:swapsWithSole [.Tuple [.Name x px,.Name y py] kt pt] (.Tuple [a,b] k2 nQ) pos.line X.env=pure false:=by rfl) :
  SS X cA ao aj F EX (.Assign [.Tuple [.Name x px,.Name y py] kt pt] (.Tuple [a,b] k2 nQ) pos) (.par i j A B):=PS.weak (zoa hc hN hi hj lW hx hy (pY ha (pY hb wK h2) h1) hw hs) λD Z H hh=>un hh λU J s hL hS h=>by
 let h:aM X.K cA (if aj=true then ofM (M.bd (ev ao aj (F aj) A J) λx=>M.bd (ev ao aj (F aj) B J) λy=>M.ret (x,y)) J (λxy s=>some (.nx ((J.set i (some xy.1)).set j (some xy.2)),s)) else λ_=>none) U H s D EX:=h;rw[if_pos bI]at h;show aZ hL hS (aM.ofM hL hS.lz h) λx H1 U1 d1 s1 x1 hL1 aG r1 h1=>aZ hL1 aG h1 λy H2 U2 d2 s2 x2 hL2 aP r2 h2=>?_;let⟨_,_,h3⟩:=h2.bO aP;show⟨x,y,rfl,h3 U2 H2 _ Ext.refl aP ((hL2.set (r1.mono x2 aG.lz)).set r2)⟩
theorem zoV(hc:ST X cA ao aj (F aj) EX c C)(ht:tM X cA ao aj F EX body mb)(he:tM X cA ao aj F EX orelse me):SS X cA ao aj F EX (.If c body orelse pos) (.iff C mb me):=PS.weak (zoS hc ht he) λD Z H hh=>un hh λU J s hL hS h=>by
 show⟨U,J,s,hL,hS,(aM.ofM hL hS.lz h).imp λk s1 U1 H1 ⟨x1,aG,h1⟩=>?_⟩;cases k with
 |true=>show iT ⟨U1,J,s1,hL.mono x1 hS.lz,aG,h1⟩|false=>show iF ⟨U1,J,s1,hL.mono x1 hS.lz,aG,h1⟩
def rG(m:MS)(kN:Vs->MS):MS:=λs=>match m s with
 |some (.nx J',s')=>kN J' s'|some (.ct J',s')=>kN J' s'|some (.bk J',s')=>some (.nx J',s')|r=>r
def Kae{K:W.Frag}{U:Ph}{H:Hp}{s:S}{D:Ends}{m:MS}{kN:Vs->MS}{N:L2.St->Hp->Prop}(hN:∀U' J' s' Z' H',Ext U H U' H'->bx K cA U' H' Z' J'->aF K cA U' H' s'->aM K cA (kN J') U' H' s' D EX->N Z' H')(h:aM K cA (rG m kN) U H s D EX) :
  aM K cA m U H s {D with nx:=N,ct:=N,bk:=D.nx} EX:=by
 unfold aM rG at h;unfold aM;cases e:m s with
 |none=>rw[e]at h;show h|some r=>
  let⟨r,s1⟩:=r;rw[e]at h;cases r with
  |nx J'=>
   intro U1 H1 Z1 x r l;let h2:aM K cA (kN J') U H s1 D EX:=h;show hN U1 J' s1 Z1 H1 x l r (h2.ext x)
  |ct J'=>
   intro U1 H1 Z1 x r l;let h2:aM K cA (kN J') U H s1 D EX:=h;show hN U1 J' s1 Z1 H1 x l r (h2.ext x)
  |bk J'=>show h|rt d=>show h|er c fs J'=>show h
def SG(X:Cx)(cA:Cl)(ao:Nat->Nat->Bool)(aj:Bool)(F:Bool->Fn)(EX:XS)(tg:Expr)(t:Tg):Prop:=∃g:TG,PG X tg g/\∀(U:Ph) (H:Hp) (s:S) (Z:L2.St) (J:Vs) (d:Xv) (v:V) (D:Ends),bx X.K cA U H Z J->aF X.K cA U H s->bB X.K cA U H d v->
 aM X.K cA (store ao aj (F aj) t d J) U H s D EX->g v Z H D.nx
theorem zjI(hN:X.N.Nodup)(hi:X.N[i]?=some x)(hx:Loc X.env.scope x)(hf:X.fn x=true\/X.env.scope.names.lookup x=some .local:=by first|exact .inl rfl|exact .inr rfl):SG X cA ao aj F EX (.Name x pos) (.nm i):=
 ⟨_,yw hN hi hx hf,λU H s Z J d v D hL hS r h=>h U H _ Ext.refl hS (hL.set r)⟩
theorem zk1{k}(hc:X.aj=true)(bI:aj=true)(hN:X.N.Nodup)(hi:X.N[i]?=some x)(hj:X.N[j]?=some y)(hx:Loc X.env.scope x)(hy:Loc X.env.scope y)(lO:X.fn x=true\/X.env.scope.names.lookup x=some .local)(oU:X.fn y=true\/X.env.scope.names.lookup y=some .local) :
  SG X cA ao aj F EX (.Tuple [.Name x px,.Name y py] k pos) (.tp [i,j]):=
 ⟨_,Vo hc hN hi hj hx hy lO oU,λU H s Z J d v D hL hS r h=>zdw bI hL hS r h⟩
def zmO(hp:PassesOwn (model X.prog X.w) X.A X.env X.xe)(hc:X.aj=true)(bI:aj=true)(ha:SI X cA ao aj (F aj) EX tg a w)(hg:SG X cA ao aj F EX tg t)(hb:tM X cA ao aj F EX body mb)
  (hs:∀x,foldedSetIterable a X.env x=pure x:=by intro _;rfl):SS X cA ao aj F EX (.For tg a body [] pos) (.fr t w mb):=by
 let⟨g,hG,hg⟩:=hg;show PS.weak (zma hp hc ha hG hb hs) λD Z H hh=>un hh λU J s hL hS h=>?_;let h:aM X.K cA (if aj=true then ofM (oR ao aj (F aj) w J) J λcn=>cI cn.1 (λd J=>bH (store ao aj (F aj) t (.d d) J) λJ'=>exs ao aj F mb J') (cn.2+1) 0 J else λ_=>none) U H s D EX:=h;rw[if_pos bI]at h;show⟨U,J,s,hL,hS,(aM.ofM hL hS.lz h).imp λcn s1 U1 H1 ⟨x1,aG,h1⟩ cj hJ=>?_⟩;let hL1:=hL.mono x1 hS.lz;let⟨c,n⟩:=cn;dsimp only at h1 hJ;show⟨λi m Z' H'=>∃U' J' s',Ext U1 H1 U' H'/\bx X.K cA U' H' Z' J'/\aF X.K cA U' H' s'/\aM X.K cA (cI c (λd J=>bH (store ao aj (F aj) t (.d d) J) λJ'=>exs ao aj F mb J') m i J') U' H' s' D EX,⟨n+1,U1,J,s1,Ext.refl,hL1,aG,h1⟩,?_⟩;rintro i m Z' H' ⟨U',J',s',x2,hL2,aP,h4⟩;cases m with
 |zero=>show h4.elim|succ m=>
  cases ei:c.at i s' with
  |none=>
   exfalso
   unfold aM cI at h4;simp only[ei]at h4
  |some oi=>
   cases oi with
   |none=>
    show .inl ⟨hJ.stop U' H' H' s' i x2 dW.refl aP ei,?_⟩;unfold aM cI at h4;simp only[ei]at h4;show h4 U' H' Z' Ext.refl aP hL2
   |some xi=>
    show .inr ⟨hJ.go U' H' H' s' i xi x2 dW.refl aP ei,_,λZ3 H3 z=>⟨m,Nat.lt_succ_self m,z⟩,λv H3 hy=>?_⟩;let⟨gr,rx⟩:=hJ.Cz U' H' H' s' i xi v H3 x2 dW.refl aP ei hy;let h5:aM X.K cA (rG (bH (store ao aj (F aj) t (.d xi) J') λJ'=>exs ao aj F mb J') (cI c (λd J=>bH (store ao aj (F aj) t (.d d) J) λJ'=>exs ao aj F mb J') m (i+1))) U' H' s' D EX:=by
     unfold aM at h4 ⊢;let e:cI c (λd J=>bH (store ao aj (F aj) t (.d d) J) λJ'=>exs ao aj F mb J') (m+1) i J' s'=rG (bH (store ao aj (F aj) t (.d xi) J') λJ'=>exs ao aj F mb J') (cI c (λd J=>bH (store ao aj (F aj) t (.d d) J) λJ'=>exs ao aj F mb J') m (i+1)) s':=by
      rw[cI];simp only[ei];rfl
     rw[e]at h4;show h4
    show hg U' H3 s' Z' J' (.d xi) v _ (hL2.mono gr.ext aP.lz) (aP.grow gr) (.d rx) (aM.then_ (Kae (λU4 J4 s4 Z4 H4 x4 l4 r4 q4=>⟨U4,J4,s4,(x2.trans gr.ext).trans x4,l4,r4,q4⟩) (h5.ext gr.ext)))
def zml(bI:aj=true)(hex:X.ex=[])(pF:X.stack=X.env::X.outer/\X.env.frame=some X.env.locals)(hg:Gl X x)(hm:X.mg x=some (.ref (cA.a dc)))(hN:X.N.Nodup)(hi:X.N[i]?=some n)(hl:X.env.scope.names.lookup n=some .local)
  (hsub:∀c,ao c dc=true->subIn X.K (cA.a c) (cA.a dc)=true)
  (hb:∀(pn:List (Addr×Obj)) (E':Value->Shared->Prop) (uw:XS),Raises (X.seen X.A X.aj pn E') uw->PassesOwn (model X.prog X.w) X.A X.env E'->tM (X.seen X.A X.aj pn E') cA ao aj F uw body mb)
  (hh:∀e:Value,tM (X.seen (X.A.mark (some e)) false X.pn (λ_ _=>False)) cA ao false F (λ_ _ _ _=>False) (b₀::suite) mh) (mW:(x==("__debug__" : Str))=false:=by decide) :
  SS X cA ao aj F EX (.Try body [.ExceptHandler (some (.Name x np)) (some n) (b₀::suite) vf] [] [] pos) (.oO mb dc i mh):=by
 show PS.weak (zmQ (tb:=λuw=>tS X.K cA uw (exs ao aj F mb)) (th:=tS X.K cA (λ_ _ _ _=>False) (exs ao false F mh)) hex pF hg hm hN hi hl hb hh mW) λD Z H hh=>un hh λU J s hL hS h=>?_;show⟨U,J,s,hL,hS,?_⟩;let h:aM X.K cA (if aj=true then λs=>match exs ao aj F mb J s with
   |some (.er c fs J',s')=>if ao c dc=true then (match exs ao false F mh (J'.set i (some (.d (.exc c fs)))) s' with
    |some (r,s'')=>(match r with
     |.er _ _ _=>none|r=>some (goes i r,s''))
    |none=>none) else none
   |r=>r
  else λ_=>none) U H s D EX:=h
 rw[if_pos bI]at h;unfold aM at h ⊢;cases e:exs ao aj F mb J s with
 |none=>simp only[e]at h|some r=>
  let⟨r,s1⟩:=r;simp only[e]at h;cases r with
  |nx J'=>show h|ct J'=>show h|bk J'=>show h|rt d=>show h|er c fs J'=>
   intro U1 H1 Z1 x1 r1 l1 dx Ag;by_cases Ax:ao c dc=true
   .simp only[if_pos Ax]at h;show⟨cA.a c,rfl,hsub c Ax,λad hn=>?_⟩;let gr:bD H1 (upd H1 ad (i_ ad (cA.a c) dx)):=bD.new hn;let xe:Ext U1 H1 U1 (upd H1 ad (i_ ad (cA.a c) dx)):=gr.ext;let rx:Rep X.K cA U1 (upd H1 ad (i_ ad (cA.a c) dx)) (.exc c fs) (.ref ad):=by
     rcases Ag with ⟨e1,e2,e3⟩|⟨d,vs,e3,nz,hd,hl,rs⟩
     .subst e2 e3;show .exc ⟨r1.nz hn,.inl ⟨e1,rfl,iU⟩⟩ .nil
     .subst e3;show .exc ⟨r1.nz hn,.inr ⟨d,iU,nz,gr _ _ hd,hl⟩⟩ (rs.mono xe r1.lz)
    show⟨U1,J'.set i (some (.d (.exc c fs))),s1,(l1.mono xe r1.lz).set (.d rx),r1.grow gr,?_⟩;unfold aM;cases e2:exs ao false F mh (J'.set i (some (.d (.exc c fs)))) s1 with
    |none=>rw[e2]at h;show h|some q=>
     let⟨q,s2⟩:=q;rw[e2]at h;cases q with
     |er c2 f2 J2=>show h.elim|nx J2=>show λU2 H2 Z2 x2 r2 l2=>h U2 H2 _ ((x1.trans xe).trans x2) r2 l2.unset|bk J2=>show λU2 H2 Z2 x2 r2 l2=>h U2 H2 _ ((x1.trans xe).trans x2) r2 l2.unset|ct J2=>show λU2 H2 Z2 x2 r2 l2=>h U2 H2 _ ((x1.trans xe).trans x2) r2 l2.unset|rt dd=>show λU2 H2 v x2 r2 rv=>h U2 H2 v ((x1.trans xe).trans x2) r2 rv
   .simp only[if_neg Ax]at h
end
end Mi
namespace L2
open PySem PySem.Spec PyProof.Rows
structure zu(K:W.Frag)(x qual:Str)(st:Stmt)(f:Addr)(fd:FuncData):Prop where
 ex:∃(oc:Value) (od:Option Addr) (kV doc pm:Value) (an:Option Addr) (cdv ct:Value) (osl:Array (Option Value)),
  fd=PySem.W.fnOf x qual (bA st) (aN st) (aA st) .none kV doc pm an cdv ct/\K.lookup f=some ⟨oc,od,.func fd,osl⟩/\PySem.W.codeIn K cdv qual=true
 kp:PySem.W.keepIn K (.ref f)=true
end L2
namespace Mi
open PySem PySem.Spec PyProof.Rows L2
section
variable {P:Program}{w:World}{K:W.Frag}{mg:Str->Option Value}{base:Heap}{cA:Cl}{ao:Nat->Nat->Bool}{T:Nat->Option Df}
def zfG{U:Ph}{H:Hp}{N:List Str}{ds:List Xv}{vs:List V}{m p:Nat}(r:cC K cA U H ds vs)(hp:p=ds.length)(hm:m=N.length):bx K cA U H (L2.start N vs) (ds.map some++List.replicate (m-p) none):=by
 subst hp hm;unfold L2.start;let hl:=r.len;show⟨by simp[hl],λi d e=>?_⟩;by_cases hi:i<ds.length
 .rw[qL (by simpa using hi),lD]at e;cases z:ds[i]? with
  |none=>rw[z]at e;cases e|some x=>
   rw[z]at e;cases e;let⟨v,a,b⟩:=r.get z;show⟨v,by rw[qL (by simp;lia),lD,a];rfl,b⟩
 .rw[pO (by simpa using hi),M5]at e;split at e<;>cases e
def zfs{U:Ph}{H:Hp}{s:S}{ds:List Xv}{k n:Nat}{cm:Bool}{df:Df}{Q:VK}{E:XK}(hT:T n=some df)
  (h:Run K cA (call ao T (k+1) cm n ds) U H s (λd _ U' H'=>∀v,bB K cA U' H' d v->Q v H') (λc fs _ U' H'=>∀dx,lq K cA U' H' c fs dx->E (.ref (cA.a c)) dx H')) :
  ds.length=df.iC/\aM K cA (exs ao cm (λc=>call ao T k c) df.body (ds.map some++List.replicate (df.many-df.iC) none)) U H s {nx:=λ_ H'=>Q .non H',rt:=Q} (λ_ C dx H'=>E C dx H'):=by
 unfold call at h;simp only[hT]at h;by_cases hl:ds.length=df.iC
 .refine⟨hl,?_⟩;rw[if_pos hl]at h;unfold Run at h;unfold aM;cases e:exs ao cm (λc=>call ao T k c) df.body (ds.map some++List.replicate (df.many-df.iC) none) s with
  |none=>simp only[e]at h|some r=>
   let⟨r,s1⟩:=r;simp only[e]at h;cases r with
   |nx J=>show λU' H' Z' x r l=>h U' H' x r _ (.d .non)|rt d=>show λU' H' v x r rv=>h U' H' x r v rv|er c fs J=>show λU' H' Z' x r l=>h U' H' x r|bk J=>show h.elim|ct J=>show h.elim
 .rw[if_neg hl]at h;show h.elim
def gJ{cm:Bool}{n:Nat}{f:Addr}{fd:FuncData}{ps:List Str}:fM P w K mg base (lM P w) cm 0 f fd ps (uE K cA (call ao T 0 cm n)):=by
 let no:∀vs H Q E,uE K cA (call ao T 0 cm n) vs H Q E->False:=by
  rintro vs H Q E ⟨_,_,_,_,_,h⟩;show h.elim
 show⟨λvs H Q E h=>(no _ _ _ _ h).elim,λA outer s H args us vs Q E _ _ _ _ _ h=>(no _ _ _ _ h).elim⟩
def zmm{x qual:Str}{st:Stmt}{f:Addr}{fd:FuncData}{N ps:List Str}{k n:Nat}{cm:Bool}{df:Df}(F:zu K x qual st f fd)(S:gB N ps (aA st))(hT:T n=some df)(hp:df.iC=ps.length)(hm:df.many=N.length)
  (hb:∀(cdv:Value) (A:Around) (outer:List Env) (s:Shared) (H:Hp) (E:XK),bT (k+1) A->
   tM (iZ (lM P w) P w K mg base N qual (aA st) f cdv A outer s H E cm) cA ao cm (λc=>call ao T k c) (λ_ C dx H'=>E C dx H') (aN st) df.body) :
  fM P w K mg base (lM P w) cm (k+1) f fd ps (uE K cA (call ao T (k+1) cm n)):=by
 let⟨oc,od,kV,doc,pm,an,cdv,ct,osl,rfl,lk,nP⟩:=F.ex;show zoO lk nP S (λvs H Q E hz=>?_) λA outer s H vs Q E hr hz=>?_
 .obtain⟨U,ds,s,r,hS,h⟩:=hz;rw[<-r.len,(zfs hT h).1,hp]
 .obtain⟨U,ds,st',r,hS,h⟩:=hz;let⟨hl,h2⟩:=zfs hT h;show⟨_,hb cdv A outer s H E hr,U,_,st',zfG r hl.symm hm,hS,h2⟩
theorem znI{x qual:Str}{st:Stmt}{f:Addr}{fd:FuncData}{N ps:List Str}{k n:Nat}{cm:Bool}{df:Df}(F:zu K x qual st f fd)(S:gB N ps (aA st))(hT:T n=some df)(hp:df.iC=ps.length)(hm:df.many=N.length)
  (hb:∀(cdv:Value) (A:Around) (outer:List Env) (s:Shared) (H:Hp) (E:XK),bT k (A.deeper (envOfC qual (aA st) s.heap.objs.size f cdv))->
   tM (iZ (lM P w) P w K mg base N qual (aA st) f cdv A outer s H E cm) cA ao cm (λc=>call ao T k c) (λ_ C dx H'=>E C dx H') (aN st) df.body) :
  fM P w K mg base (lM P w) cm (k+1) f fd ps (uE K cA (call ao T (k+1) cm n)):=zmm F S hT hp hm λcdv A outer s H E hr=>hb cdv A outer s H E (hr.deeper _)
end
def zlt{K:W.Frag}{cA:Cl}{m:List Xv->M Xv}{H:Hp}{a:Addr}{ns:List Int}(hq:dF K H a (ns.map V.int))(hm:∃s',m [.d (.fl (ns.map D.int))] []=some (.ok (.d (.bl true)),s')) :
  uE K cA m [.ref a] H (λv _=>v=.bl true) λ_ _ _=>False:=by
 let rs:∀(l:List Int) U,aC K cA U H (l.map D.int) (l.map V.int):=λl U=>by
  induction l with
  |nil=>show .nil|cons i l ih=>show .cons (.int i) ih
 let hl:LstAt K ⟨λ_=>False,[]⟩ H a (ns.map V.int):=by
  rcases hq with h|h
  .exact .inl ⟨h,λz=>z⟩
  .exact .inr (.inr h)
 show⟨⟨λ_=>False,[]⟩,[.d (.fl (ns.map D.int))],[],.cons (.d (.fl hl (rs ns _))) .nil,⟨rfl,(λn o b e1 e2=>by simp at e1),Gm,(λb hb=>by cases hb),(λb z=>False.elim z)⟩,?_⟩;let⟨s',e⟩:=hm;unfold Run;rw[e];intro U' H' _ _ v rv;cases rv with
 |d rv=>cases rv;rfl
theorem zhg:Raises X (λ_ _ _ _=>False):=λ_ _ _ _ _ _ _ _ _ _ _ _ _ z=>z.elim
theorem DW(r:bT k A):bT k (A.mark o):=⟨r.dp,r.un,r.gd⟩
def vR(r:bT k A):A.units+60<cLine:=by let:=r.un;lia
def aB:Expr->Bool
 |.Starred _ _=>false|_=>true
def aQ(h:aB e=true):starEach (e::es) env=(false,eval e env)::starEach es env:=by
 cases e<;>first|rfl|cases h
theorem aR:∀{es:List Expr} {env:Env} {pos:Pos},es.all aB=true->(backTo pos (starEach es env)).any (·.1)=false
 |[],_,_,_=>rfl|e::es,env,pos,h=>by
  rw[oG,b_]at h;rw[aQ h.1];change (false||(backTo pos (starEach es env)).any (·.1))=false;rw[aR h.2];rfl
theorem rH:∀{es:List Expr} {env:Env} {pos:Pos},es.all aB=true->(backTo pos (starEach es env)).all (λx=>!x.1)=true
 |[],_,_,_=>rfl|e::es,env,pos,h=>by
  rw[oG,b_]at h;rw[aQ h.1];change (true&&(backTo pos (starEach es env)).all (λx=>!x.1))=true;rw[rH h.2];rfl
def gF(h1:aB e=true)(h2:es.all aB=true)(h3:decide (es.length<28)=true):((backTo pos (starEach (e::es) env)).all (λx=>!x.1)&&(backToKw pos (keywordEach [] env)).all (λx=>x.1.isSome)&&decide ((e::es).length+([]:List Keyword).length+(if ([]:List Keyword).isEmpty then 0 else 1)<30))=true:=by
 rw[rH (es:=e::es) (by rw[oG,h1,h2];rfl)];let:=ju h3;let z:(e::es).length+([]:List Keyword).length+(if ([]:List Keyword).isEmpty then 0 else 1)<30:=by
  change es.length+1+0+0<30
  lia
 rw[cH z];rfl
def DX(sc scope:Scope):Bool:=(match scope.kind with|.function=>true|_=>false)&&scope.names.all λy=>match y.2 with
 |.cell=>(match scope.names.lookup y.1 with|some .cell=>true|_=>false)
 |.free=>(match sc.names.lookup y.1 with|some .cell=>true|some .free=>true|_=>false)
 |.local=>(match scope.names.lookup y.1 with|some .local=>true|_=>false)
 |_=>true
def jz.of(h:DX sc scope=true):jz sc scope:=by
 unfold DX at h;rw[b_,fB]at h;let⟨h1,h2⟩:=h;show⟨?_,λy hy z=>?_,λy hy z=>?_,λy hy z=>?_⟩
 .split at h1
  .assumption
  .cases h1
 .let:=h2 y hy;rw[z]at this;dsimp only at this;split at this
  .assumption
  .cases this
 .let:=h2 y hy;rw[z]at this;dsimp only at this;split at this
  .exact .inl (by assumption)
  .exact .inr (by assumption)
  .cases this
 .let:=h2 y hy;rw[z]at this;dsimp only at this;split at this
  .assumption
  .cases this
def frB(scope:Scope)(XN:List Str):List Str->List Nat->Bool
 |y::N,j::fr=>(match scope.names.lookup y with|some .free=>true|_=>false)&&decide (XN[j]?=some y)&&frB scope XN N fr
 |[],[]=>true|_,_=>false
theorem zjq:∀{N:List Str} {fr:List Nat},frB scope XN N fr=true->N.length=fr.length/\∀(i:Nat) (y:Str) (j:Nat),N[i]?=some y->fr[i]?=some j->scope.names.lookup y=some .free/\XN[j]?=some y
 |[],[],_=>⟨rfl,λi y j h=>by simp at h⟩|[],_::_,h=>by cases h|_::_,[],h=>by cases h|y::N,j::fr,h=>by
  unfold frB at h;rw[b_,b_,xW]at h;let⟨⟨h1,h2⟩,h3⟩:=h;let⟨l,q⟩:=zjq h3;show⟨by simp[l],λi z m e1 e2=>?_⟩;cases i with
  |zero=>
   simp at e1 e2;subst e1 e2;show⟨?_,h2⟩;split at h1
   .assumption
   .cases h1
  |succ i=>show q i z m (by simpa using e1) (by simpa using e2)
def okN(x:Str):Bool:=!(x==("__debug__" : Str)) && !(x==("__classdict__" : Str)) && !decide (x="__name__")
def tO(h:okN x=true):(x==("__debug__" : Str))=false/\(x==("__classdict__" : Str))=false/\x≠"__name__":=by
 unfold okN at h;simp only[b_,Nm,M6]at h;show⟨h.1.1,h.1.2,h.2⟩
theorem Vq{env:Env}{k:NameKind}(hk:k≠.free):∀{names:List (Str×NameKind)} {x:Str},names.lookup x=some k->
  (names.map λ(n,k)=>if (k==NameKind.free&&env.scope.kind==.function&&env.kindOf n==some .cell) then (n,NameKind.cell) else (n,k)).lookup x=some k
 |[],x,h=>by simp at h|(n,q)::r,x,h=>by
  rw[nJ]at h;rw[jw,nJ];let hd:∀c:Bool,(if c=true then (n,NameKind.cell) else (n,q)).1=n:=λc=>by cases c<;>rfl
  rw[hd];by_cases z:x=n
  .subst z;simp only[zR]at h ⊢;cases h
   split
   .rename_i y;simp only[b_,iK]at y;show absurd y.1.1 hk
   .rfl
  .let z':(x==n)=false:=by simpa using z
   simp only[z']at h ⊢;show Vq hk h
def zlF{K:W.Frag}{C:Addr}(h:N5 K C=true):XC K C:=by
 unfold N5 at h;simp only[b_,iK]at h;let⟨⟨⟨⟨⟨⟨⟨h1,h2⟩,h3⟩,h4⟩,h5⟩,h6⟩,h7⟩,h8⟩:=h;show⟨h1,h2,h3,h4,h5,h6,h7,h8⟩
def Vr{n c:Nat}(hn:0<n):pC n c<n:=by unfold pC;split<;>omega
def Vt{n c:Nat}(hn:0<n):pC n (pC n c)=pC n c:=by unfold pC;split<;>simp_all
def zkA{n c e:Nat}(hn:0<n):j_ n (pC n c) (pC n e)=j_ n c e:=by unfold j_;rw[Vt hn,Vt hn]
def zkO{K:W.Frag}{L:List Addr}{f g:Nat->List Str}{b:Nat->Addr}(hL:0<L.length)(h:qN K L=true):vP K ⟨eE L,f,b,g⟩ (j_ L.length):=by
 unfold qN at h;rw[fB]at h;let key:∀c,N5 K (eE L c)=true/\PySem.W.kitOne K (.ref (eE L c)) (.type "ValueError")=some true/\∀e,PySem.W.kitOne K (.ref (eE L c)) (.ref (eE L e))=some (j_ L.length c e):=λc=>by
  let z:=h (pC L.length c) (gZ.mpr (Vr hL));simp only[b_,iK,fB]at z;let⟨⟨z1,z2⟩,z3⟩:=z;show⟨z1,z2,λe=>?_⟩;let y:=z3 (pC L.length e) (gZ.mpr (Vr hL));rw[zkA hL]at y;show y
 show⟨λc=>zlF (key c).1,λc e=>(key c).2.2 e,λc=>(key c).2.1⟩
theorem zka{K:W.Frag}{L:List Addr}{d:Nat}(hL:0<L.length)(h:subB K L d=true):∀c,j_ L.length c d=true->L2.subIn K (eE L c) (eE L d)=true:=λc hc=>by
 unfold subB at h;rw[fB]at h;let z:=h (pC L.length c) (gZ.mpr (Vr hL));let y:j_ L.length (pC L.length c) d=true:=by
  unfold j_ at hc ⊢;rw[Vt hL];show hc
 rw[y]at z;show z
def vU(K:W.Frag):Sp:=λvs H Q _=>∃(a:Addr) (ns:List Int),vs=[.ref a]/\dF K H a (ns.map V.int)/\ns.length<=63/\Only H/\∀H',Q (.bl true) H'
def zjX{K:W.Frag}{cA:Cl}{m:List Xv->M Xv}(hm:∀ns:List Int,ns.length<=63->∃s',m [.d (.fl (ns.map D.int))] []=some (.ok (.d (.bl true)),s'))(vs:List V)(H:Hp)(Q:VK)(E:XK)(h:vU K vs H Q E):uE K cA m vs H Q E:=by
 let⟨a,ns,rfl,hq,hl,hO,k⟩:=h;let⟨U,ds,s,r1,r2,h⟩:=zlt (cA:=cA) (m:=m) hq (hm ns hl);show⟨U,ds,s,r1,r2,?_⟩;unfold Run at h ⊢;split at h
 .intro U' H' x r v rv;rw[h U' H' x r v rv];show k H'
 .exact λU' H' x r dx q=>(h U' H' x r dx q).elim
 .exact h
theorem DY{K:W.Frag}{fd:FuncData}{p:Str}(h:∀a,bindArgs fd ⟨[a],[]⟩=pure [(p,a)]):Binds K fd [p] []:=.all λus hl=>by
 cases us with
 |nil=>cases hl|cons a r=>cases r with
  |nil=>show h a|cons b r=>cases hl
theorem D_{K:W.Frag}{fd:FuncData}{p q:Str}(h:∀a b,bindArgs fd ⟨[a,b],[]⟩=pure [(p,a),(q,b)]):Binds K fd [p,q] []:=.all λus hl=>by
 cases us with
 |nil=>cases hl|cons a r=>cases r with
  |nil=>cases hl|cons b r=>cases r with
   |nil=>show h a b|cons c r=>cases hl
theorem Ed{K:W.Frag}{fd:FuncData}{p q t:Str}(h:∀a b c,bindArgs fd ⟨[a,b,c],[]⟩=pure [(p,a),(q,b),(t,c)]):Binds K fd [p,q,t] []:=.all λus hl=>by
 cases us with
 |nil=>cases hl|cons a r=>cases r with
  |nil=>cases hl|cons b r=>cases r with
   |nil=>cases hl|cons c r=>cases r with
    |nil=>show h a b c|cons d r=>cases hl
def Vu:bootBuiltins "int"=some (.type "int"):=by decide +kernel
def Vv:bootBuiltins "bool"=some (.type "bool"):=by decide +kernel
def Vw:bootBuiltins "str"=some (.type "str"):=by decide +kernel
def wR:bootBuiltins "tuple"=some (.type "tuple"):=by decide +kernel
def zhs:bootBuiltins "list"=some (.type "list"):=by decide +kernel
def zcX:bootBuiltins "ValueError"=some (.type "ValueError"):=by decide +kernel
structure JE(X:Cx)(cA:Cl)(ao:Nat->Nat->Bool)(aj:Bool)(F:Fn)(EX:XS)(e:Expr)(m:E):Prop where
 o:SE X cA ao aj F EX e m
structure JA(X:Cx)(cA:Cl)(ao:Nat->Nat->Bool)(aj:Bool)(F:Fn)(EX:XS)(e:List Expr)(m:Es):Prop where
 o:SA X cA ao aj F EX e m
structure JT(X:Cx)(cA:Cl)(ao:Nat->Nat->Bool)(aj:Bool)(F:Fn)(EX:XS)(e:Expr)(m:E):Prop where
 o:ST X cA ao aj F EX e m
structure JW(X:Cx)(cA:Cl)(ao:Nat->Nat->Bool)(aj:Bool)(F:Fn)(EX:XS)(e:Expr)(m:E):Prop where
 o:SW X cA ao aj F EX e m
structure JC(X:Cx)(cA:Cl)(ao:Nat->Nat->Bool)(aj:Bool)(F:Fn)(EX:XS)(e:List Expr)(m:Eo):Prop where
 o:Pg X cA ao aj F EX e m
structure JO(X:Cx)(cA:Cl)(ao:Nat->Nat->Bool)(aj:Bool)(F:Fn)(EX:XS)(e:Option Expr)(m:Eo):Prop where
 o:KC X cA ao aj F EX e m
structure JI(X:Cx)(cA:Cl)(ao:Nat->Nat->Bool)(aj:Bool)(F:Fn)(EX:XS)(tg e:Expr)(m:Wk):Prop where
 o:SI X cA ao aj F EX tg e m
structure JG(X:Cx)(cA:Cl)(ao:Nat->Nat->Bool)(aj:Bool)(F:Bool->Fn)(EX:XS)(e:Expr)(m:Tg):Prop where
 o:SG X cA ao aj F EX e m
structure JS(X:Cx)(cA:Cl)(ao:Nat->Nat->Bool)(aj:Bool)(F:Bool->Fn)(EX:XS)(e:Stmt)(m:St):Prop where
 o:SS X cA ao aj F EX e m
structure JB(X:Cx)(cA:Cl)(ao:Nat->Nat->Bool)(aj:Bool)(F:Bool->Fn)(EX:XS)(e:List Stmt)(m:cg):Prop where
 o:tM X cA ao aj F EX e m
structure JK(X:Cx)(x:Str)(k:NameKind):Prop where
 o:X.env.scope.names.lookup x=some k
structure JP(X:Cx)(cA:Cl)(op:CmpOp)(p:Pr):Prop where
 o:∃r,dj X (compareOp op) r/\aY X.K cA p (r2 r)
structure JQ(X:Cx)(cA:Cl)(op:Operator)(p:Pr):Prop where
 o:∃r,dj X (binaryOp op) r/\aY X.K cA p (r2 r)
structure JN(X:Cx)(cA:Cl)(kx:Expr)(k:Kd):Prop where
 o:PE X kx (tC (GX cA k))
structure JR(X:Cx)(EX:XS):Prop where
 o:Raises X EX
structure JH(X:Cx):Prop where
 o:PassesOwn (model X.prog X.w) X.A X.env X.xe
structure JY(X:Cx)(tg:Expr)(g:TG):Prop where
 o:PG X tg g
def ji:NameKind->Bool
 |.local=>true|.cell=>true|_=>false
def Ef:NameKind->Bool
 |.local=>true|.cell=>true|.free=>true|_=>false
section
variable {X:Cx}{cA:Cl}{ao:Nat->Nat->Bool}{aj:Bool}{F:Fn}{EX:XS}{a b c d e:Expr}{A B C Dd E':E}{pos p p2 apos:Pos}{es:List Expr}{Xs:Es}{x y:Str}{k k':NameKind}{q q1 q2 q3:Pr}{fz:Bool}
theorem zpb(h:scope.names.lookup x=some k)(hk:(match k with|.free=>false|_=>true)=true):JK (X.blk scope cl N Cc s3 H3 fp ak) x k:=
 ⟨Vq (by intro z;subst z;cases hk) h⟩
theorem g_v(i:Nat)(hN:X.N[i]?=some x)(h:JK X x k)(hv:Ef k=true)(hd:okN x=true):JE X cA ao aj F EX (.Name x pos) (.v i):=
 ⟨zpr i hN (by cases k<;>first|exact .inl h.o|exact .inr (.inl h.o)|exact .inr (.inr h.o)|cases hv) (tO hd).1 (tO hd).2.1⟩
theorem zpB(i:Nat)(hN:N[i]?=some x)(h:scope.names.lookup x=some .free)(hd:okN x=true):JE (X.blk scope cl N Cc s3 H3 fp ak) cA ao aj F EX (.Name x pos) (.v i):=
 ⟨zpr i hN (.inr (Tj h)) (tO hd).1 (tO hd).2.1⟩
theorem aJ{i j p}:JE X cA ao aj F EX (.Constant (.int i) j p) (.c (.int i)):=⟨zls⟩
theorem jF{i j p}:JE X cA ao aj F EX (.Constant (.bool i) j p) (.c (.bl i)):=⟨zoE⟩
theorem Ay{j p}:JE X cA ao aj F EX (.Constant .none j p) (.c .non):=⟨zl7⟩
theorem bR{i j p}:JE X cA ao aj F EX (.Constant (.str i) j p) (.c (.str i)):=⟨zlD⟩
def Vx(h:∃t,X.mg x=some (.int i t))(hg:JK X x .globalImplicit)(hd:okN x=true):JE X cA ao aj F EX (.Name x pos) (.c (.int i)):=by
 let⟨t,h⟩:=h;show⟨zkM hg.o h (tO hd).1⟩
theorem dN:JQ X cA .Add .add:=⟨_,zgJ,zny⟩
theorem Pn:JQ X cA .Sub .ao:=⟨_,zmo,zlL⟩
theorem Vy:JQ X cA .Mult .mul:=⟨_,zlx,zmq⟩
theorem zno:JQ X cA .FloorDiv .fdiv:=⟨_,zkP,zkm⟩
theorem KY:JQ X cA .Mod .mod:=⟨_,znb,znr⟩
theorem zn8:JQ X cA .Pow .pow:=⟨_,zmX,znB⟩
def cD(h:JQ X cA op q)(ha:JE X cA ao aj F EX a A)(hb:JE X cA ao aj F EX b B):JE X cA ao aj F EX (.BinOp a op b pos) (.pr fz q (.cons A (.cons B .nil))):=by
 let⟨r,h1,h2⟩:=h.o;show⟨zn1 h1 h2 ha.o hb.o⟩
theorem wU(ha:JE X cA ao aj F EX a A):JE X cA ao aj F EX (.UnaryOp .USub a pos) (.pr true .neg (.cons A .nil)):=⟨zo8 Y_ zly ha.o⟩
theorem Vz(ha:JE X cA ao aj F EX a A):JE X cA ao aj F EX (.UnaryOp .Not a pos) (.not A):=⟨znj ha.o⟩
theorem Az{op}(ha:JE X cA ao aj F EX a A):JE X cA ao aj F EX (.BoolOp op [a] pos) A:=⟨znO ha.o⟩
theorem vV{rest:List Expr}(ha:JE X cA ao aj F EX a A)(hb:JE X cA ao aj F EX (.BoolOp .And (b::rest) pos) B):JE X cA ao aj F EX (.BoolOp .And (a::b::rest) pos) (.and A B):=⟨znU ha.o hb.o⟩
theorem wV{k:Nat}(hr:bT k X.A):JP X cA .Eq .eq:=⟨_,zlA (vR hr),zoQ⟩
theorem zx{k:Nat}(hr:bT k X.A):JP X cA .NotEq .ne:=⟨_,zng (vR hr),zoL⟩
theorem G5{k:Nat}(hr:bT k X.A):JP X cA .Lt .lt:=⟨_,Iw.or (zl4 (by let:=vR hr;lia)),zoo⟩
theorem KZ:JP X cA .LtE .le:=⟨_,zoD,zo0⟩
theorem zpF:JP X cA .Gt .gt:=⟨_,zoP,zoC⟩
theorem VB:JP X cA .GtE .ge:=⟨_,zov,zom⟩
theorem zos{k:Nat}(hr:bT k X.A):JP X cA .NotIn .nin:=⟨_,zjy (vR hr),znN⟩
def mq:Expr->Bool
 |.Set _ _ _=>false|_=>true
def vW(h:mq b=true):behindInMarks op b=false:=by cases b<;>first|rfl|cases h
def Eh(ho:JP X cA op q)(ha:JE X cA ao aj F EX a A)(hb:JE X cA ao aj F EX b B)(h1:mq b=true:=by rfl):JE X cA ao aj F EX (.Compare a [op] [b] pos) (.pr true q (.cons A (.cons B .nil))):=by
 let⟨r,h2,h3⟩:=ho.o;show⟨znH h2 h3 ha.o hb.o (vW h1)⟩
def jO(ho:JP X cA op q)(ha:JE X cA ao aj F EX a A)(hb:JE X cA ao aj F EX b B)(h1:mq b=true:=by rfl):JT X cA ao aj F EX (.Compare a [op] [b] pos) (.pr true q (.cons A (.cons B .nil))):=by
 let⟨r,h2,h3⟩:=ho.o;show⟨zmF h2 h3 ha.o hb.o (vW h1)⟩
def zoF(h1:JP X cA op q1)(h2:JP X cA op' q2)(ha:JE X cA ao aj F EX a A)(hb:JE X cA ao aj F EX b B)(hc:JE X cA ao aj F EX c C)(hm:mq c=true:=by rfl):JE X cA ao aj F EX (.Compare a [op,op'] [b,c] pos) (.ux q1 q2 A B C):=by
 let⟨r,h3,h4⟩:=h1.o;let⟨r',h5,h6⟩:=h2.o;show⟨zlK h3 h4 h5 h6 ha.o hb.o hc.o (vW hm)⟩
def zoq(h1:JP X cA op q1)(h2:JP X cA op' q2)(ha:JE X cA ao aj F EX a A)(hb:JE X cA ao aj F EX b B)(hc:JE X cA ao aj F EX c C)(hm:mq c=true:=by rfl):JT X cA ao aj F EX (.Compare a [op,op'] [b,c] pos) (.ux q1 q2 A B C):=by
 let⟨r,h3,h4⟩:=h1.o;let⟨r',h5,h6⟩:=h2.o;show⟨zmM h3 h4 h5 h6 ha.o hb.o hc.o (vW hm)⟩
def zoM(h1:JP X cA op q1)(h2:JP X cA op' q2)(h3:JP X cA nq q3)(ha:JE X cA ao aj F EX a A)(hb:JE X cA ao aj F EX b B)(hc:JE X cA ao aj F EX c C)(hd:JE X cA ao aj F EX d Dd)(hm:mq d=true:=by rfl) :
  JT X cA ao aj F EX (.Compare a [op,op',nq] [b,c,d] pos) (.Dq q1 q2 q3 A B C Dd):=by
 let⟨r,h4,h5⟩:=h1.o;let⟨r',h6,h7⟩:=h2.o;let⟨r'',h8,h9⟩:=h3.o;show⟨zmv h4 h5 h6 h7 h8 h9 ha.o hb.o hc.o hd.o (vW hm)⟩
theorem zoN{j p}(ha:JE X cA ao aj F EX a A):JT X cA ao aj F EX (.Compare a [.Is] [.Constant .none j p] pos) (.pr true .JM (.cons A .nil)):=⟨zl2 ha.o⟩
def K1:Expr->Bool
 |.Call _ _ _ _=>true|.Name _ _=>true|.Subscript _ _ _=>true|.Attribute _ _ _=>true|_=>false
theorem jk(ha:JE X cA ao aj F EX a A)(he:K1 a=true:=by rfl):JT X cA ao aj F EX a A:=⟨zmV ha.o (by cases a<;>first|(intro _;rfl)|cases he)⟩
theorem jG(ha:JT X cA ao aj F EX a A):JT X cA ao aj F EX (.UnaryOp .Not a pos) (.not A):=⟨zn0 ha.o⟩
theorem Pq(ha:JT X cA ao aj F EX a A):JW X cA ao aj F EX (.BoolOp .And [a] pos) A:=⟨zj9 ha.o⟩
theorem wW(ha:JT X cA ao aj F EX a A):JW X cA ao aj F EX (.BoolOp .Or [a] pos) A:=⟨zm4 ha.o⟩
theorem K3{rest:List Expr}(ha:JT X cA ao aj F EX a A)(hb:JW X cA ao aj F EX (.BoolOp .And (b::rest) pos) B):JW X cA ao aj F EX (.BoolOp .And (a::b::rest) pos) (.and A B):=⟨znm ha.o hb.o⟩
theorem nY{rest:List Expr}(ha:JT X cA ao aj F EX a A)(hb:JW X cA ao aj F EX (.BoolOp .Or (b::rest) pos) B):JW X cA ao aj F EX (.BoolOp .Or (a::b::rest) pos) (.or A B):=⟨zo6 ha.o hb.o⟩
theorem rJ(h:JW X cA ao aj F EX a A):JT X cA ao aj F EX a A:=⟨zpA h.o⟩
theorem znQ(hc:JT X cA ao aj F EX c C)(ha:JE X cA ao aj F EX a A)(hb:JE X cA ao aj F EX b B):JE X cA ao aj F EX (.IfExp c a b pos) (.ite C A B):=⟨zmI hc.o ha.o hb.o⟩
theorem aD:JA X cA ao aj F EX [] .nil:=⟨znD⟩
theorem aq(ha:JE X cA ao aj F EX a A)(hr:JA X cA ao aj F EX es Xs)(hs:aB a=true:=by rfl):JA X cA ao aj F EX (a::es) (.cons A Xs):=⟨zkv ha.o hr.o (aQ hs)⟩
theorem dY{k}(ha:JA X cA ao aj F EX es Xs)(hz:decide (Es.len Xs<=sizeLine)=true:=by rfl):JE X cA ao aj F EX (.Tuple es k pos) (.tup Xs):=⟨zmU ha.o (ju hz)⟩
theorem fQ(ha:JA X cA ao aj F EX es Xs)(hz:decide (Es.len Xs<=sizeLine)=true:=by rfl):JE X cA ao aj F EX (.List es pos) (.lst fz Xs):=⟨zmL ha.o (ju hz)⟩
theorem zmh{j p1 j2 p3}{k:Str}{i:Int}:JE X cA ao aj F EX (.Dict [some (.Constant (.str k) j p1)] [.Constant (.int i) j2 p3] pos) (.vB k i):=⟨zko⟩
def oV:Expr->Bool
 |.Constant _ _ _=>true|.Name _ _=>true|.Call _ _ _ _=>true|.BinOp _ _ _ _=>true|.UnaryOp _ _ _=>true|.Subscript _ _ _=>true|.IfExp _ _ _ _=>true|.Attribute _ _ _=>true|.Compare _ _ _ _=>true|.BoolOp _ _ _=>true|_=>false
theorem dZ(ha:JE X cA ao aj F EX a A)(hb:JE X cA ao aj F EX b B)(hs:oV b=true:=by rfl):JE X cA ao aj F EX (.Subscript a b pos) (.pr true .ix (.cons A (.cons B .nil))):=⟨zoJ zoi ha.o hb.o (by cases b<;>first|(intro _ _;rfl)|cases hs)⟩
theorem pH:JO X cA ao aj F EX none .no:=⟨zo7⟩
theorem nZ(ha:JE X cA ao aj F EX a A):JO X cA ao aj F EX (some a) (.yes A):=⟨znv ha.o⟩
theorem oW{lo hi:Option Expr}{Lo Hi:Eo}(ha:JE X cA ao aj F EX a A)(hl:JO X cA ao aj F EX lo Lo)(hh:JO X cA ao aj F EX hi Hi):JE X cA ao aj F EX (.Subscript a (.Slice lo hi none p2) pos) (.sl fz A Lo Hi):=⟨zon ha.o hl.o hh.o⟩
theorem zoT(ha:JE X cA ao aj F EX a A):JE X cA ao aj F EX (.Subscript a (.Slice none none (some (.UnaryOp .USub (.Constant (.int 1) j p3) p4)) p2) pos) (.pr true .rev (.cons A .nil)):=⟨znw ha.o⟩
theorem zlP(f:Nat){cm:Bool}{k:Nat}{fa:Addr}{fd:FuncData}{ps:List Str}(Fo:fM X.prog X.w X.K X.mg X.base (lM X.prog X.w) cm k fa fd ps (uE X.K cA (F f)))(sU:cm=true->X.aj=true)(hr:bT k X.A)(hm:X.mg x=some (.ref fa))(hk:PySem.W.keepIn X.K (.ref fa)=true)(hb:Binds X.K fd ps [])(R:JR X EX)(hg:JK X x .globalImplicit)
  (ha:JA X cA ao aj F EX (e::es) Xs) (hd:okN x=true) (he:aB e=true:=by rfl) (hpl:es.all aB=true:=by rfl) :
  JE X cA ao aj F EX (.Call (.Name x p) (e::es) [] pos) (.call f Xs):=⟨zjH Fo sU hr hg.o hm hk hb R.o ha.o (tO hd).1 (aQ he) (aR hpl)⟩
theorem vX{c:Nat}(hm:X.mg x=some (.ref (cA.a c)))(hg:JK X x .globalImplicit)(hd:okN x=true):JN X cA (.Name x pos) (.cls c):=⟨Y5 hg.o hm rfl (tO hd).1⟩
theorem nu(hv:GX cA kd=.ty T)(hm:X.mg x=none)(hb:bootBuiltins x=some (.type T))(hg:JK X x .globalImplicit)(hd:okN x=true):JN X cA (.Name x pos) kd:=⟨λak s Z H Q I h=>by
 rw[hv]at h;show yu I hg.o hm hb ⟨.ty T,H,I,rfl,h⟩ (tO hd).2.2 (tO hd).1⟩
theorem h_(Cs:vP X.K cA ao)(hm:X.mg "isinstance"=none)(hg:JK X "isinstance" .globalImplicit)(ha:JE X cA ao aj F EX a A)(hk:JN X cA kx kd)(h1:aB a=true:=by rfl)(h2:aB kx=true:=by rfl):JE X cA ao aj F EX (.Call (.Name "isinstance" p) [a,kx] [] pos) (.eY A kd):=
 ⟨zlR (λ_=>Cs) hg.o hm ha.o hk.o (aQ h1) (aQ h2) (aR (by rw[oG,h2];rfl))⟩
theorem A_(hm:X.mg "len"=none)(hg:JK X "len" .globalImplicit)(ha:JA X cA ao aj F EX (e::es) Xs)(he:aB e=true:=by rfl)(hpl:es.all aB=true:=by rfl):JE X cA ao aj F EX (.Call (.Name "len" p) (e::es) [] pos) (.pr fz .len Xs):=⟨Km zdu zmT hg.o hm PySem.boot_len ha.o W9 W9 (aQ he) (aR hpl)⟩
theorem zl3(hc:X.aj=true)(hm:X.mg "max"=none)(hg:JK X "max" .globalImplicit)(ha:JA X cA ao aj F EX (e::es) Xs)(he:aB e=true:=by rfl)(hpl:es.all aB=true:=by rfl):JE X cA ao aj F EX (.Call (.Name "max" p) (e::es) [] pos) (.pr fz .max2 Xs):=⟨Km (zf8 hc) zk9 hg.o hm PyProof.Rows.boot_max ha.o W9 W9 (aQ he) (aR hpl)⟩
theorem zlS(hm:X.mg "int"=none)(hg:JK X "int" .globalImplicit)(ha:JA X cA ao aj F EX (e::es) Xs)(he:aB e=true:=by rfl)(hpl:es.all aB=true:=by rfl):JE X cA ao aj F EX (.Call (.Name "int" p) (e::es) [] pos) (.pr fz .yR Xs):=⟨Ko zg3 zk6 hg.o hm PyProof.Rows.boot_int ha.o W9 W9 (aQ he) (aR hpl)⟩
theorem ziE(hm:X.mg "divmod"=none)(hg:JK X "divmod" .globalImplicit)(ha:JA X cA ao aj F EX (e::es) Xs)(he:aB e=true:=by rfl)(hpl:es.all aB=true:=by rfl):JE X cA ao aj F EX (.Call (.Name "divmod" p) (e::es) [] pos) (.pr fz .divmod Xs):=⟨Km zey zhu hg.o hm PyProof.Rows.boot_divmod ha.o W9 W9 (aQ he) (aR hpl)⟩
theorem Pu(hc:X.aj=true)(hm:X.mg "all"=none)(hg:JK X "all" .globalImplicit)(ha:JA X cA ao aj F EX (e::es) Xs)(he:aB e=true:=by rfl)(hpl:es.all aB=true:=by rfl):JE X cA ao aj F EX (.Call (.Name "all" p) (e::es) [] pos) (.pr fz .all Xs):=⟨Km (zgq hc) zn9 hg.o hm PyProof.Rows.boot_all ha.o W9 W9 (aQ he) (aR hpl)⟩
theorem zi9(hm:X.mg "list"=none)(hg:JK X "list" .globalImplicit)(ha:JA X cA ao aj F EX (e::es) Xs)(he:aB e=true:=by rfl)(hpl:es.all aB=true:=by rfl):JE X cA ao aj F EX (.Call (.Name "list" p) (e::es) [] pos) (.pr fz .list Xs):=⟨Ko Zu zju hg.o hm zhs ha.o W9 W9 (aQ he) (aR hpl)⟩
theorem VD(hm:X.mg "tuple"=none)(hg:JK X "tuple" .globalImplicit)(ha:JA X cA ao aj F EX (e::es) Xs)(he:aB e=true:=by rfl)(hpl:es.all aB=true:=by rfl):JE X cA ao aj F EX (.Call (.Name "tuple" p) (e::es) [] pos) (.pr fz .tuple Xs):=⟨Ko zcG zix hg.o hm wR ha.o W9 W9 (aQ he) (aR hpl)⟩
theorem zk5{k:Nat}(hr:bT k X.A)(ho:JE X cA ao aj F EX a A)(ha:JA X cA ao aj F EX (e::es) Xs)(bN:attributeBase a "count" X.env (eval a X.env)=eval a X.env:=by rfl)(gR:decide (es.length<28)=true:=by rfl)(cO:(apos.endLine==pos.line)=true:=by rfl)(hs:aB e=true:=by rfl)(bC:es.all aB=true:=by rfl) :
  JE X cA ao aj F EX (.Call (.Attribute a "count" apos) (e::es) [] pos) (.meth true .count .list A Xs):=⟨KJ (k:=.list) Q8 PySem.F.slot_list_count PySem.F.type_list_count (zgj (by let:=hr.un;lia)) zim ho.o ha.o bN (gF hs bC gR) cO (aQ hs) (aR bC)⟩
theorem zjR(ho:JE X cA ao aj F EX a A)(ha:JA X cA ao aj F EX (e::es) Xs)(bN:attributeBase a "index" X.env (eval a X.env)=eval a X.env:=by rfl)(gR:decide (es.length<28)=true:=by rfl)(cO:(apos.endLine==pos.line)=true:=by rfl)(hs:aB e=true:=by rfl)(bC:es.all aB=true:=by rfl) :
  JE X cA ao aj F EX (.Call (.Attribute a "index" apos) (e::es) [] pos) (.meth true .index .list A Xs):=⟨KJ (k:=.list) Q8 PySem.F.slot_list_index PySem.F.type_list_index zgV ziR ho.o ha.o bN (gF hs bC gR) cO (aQ hs) (aR bC)⟩
theorem zjg(ho:JE X cA ao aj F EX a A)(hb:JE X cA ao aj F EX b B)(bN:attributeBase a "append" X.env (eval a X.env)=eval a X.env:=by rfl)(cO:(apos.endLine==pos.line)=true:=by rfl)(hs:aB b=true:=by rfl) :
  JE X cA ao aj F EX (.Call (.Attribute a "append" apos) [b] [] pos) (.push A B):=⟨zkh ho.o hb.o bN (gF hs rfl rfl) cO (aQ hs) rfl⟩
theorem Ej:JC X cA ao aj F EX [] .no:=⟨znq⟩
theorem zor(h:JT X cA ao aj F EX c C):JC X cA ao aj F EX [c] (.yes C):=⟨zkS h.o⟩
theorem wX(ha:JE X cA ao aj F EX a A):JI X cA ao aj F EX tg a (.seq A):=⟨znV ha.o⟩
theorem zpi(hmg:X.mg "range"=none)(qy:JK X "range" .globalImplicit)(ha:JE X cA ao aj F EX a A)(hb:JE X cA ao aj F EX b B)(h1:aB a=true:=by rfl)(h2:aB b=true:=by rfl):JI X cA ao aj F EX tg (.Call (.Name "range" p) [a,b] [] pos) (.rg A B):=⟨zo2 qy.o hmg ha.o hb.o (aQ h1) (aQ h2)⟩
theorem Px(hmg:X.mg "range"=none)(qy:JK X "range" .globalImplicit)(hb:JE X cA ao aj F EX b B)(h2:aB b=true:=by rfl):JI X cA ao aj F EX tg (.Call (.Name "range" p) [b] [] pos) (.rg (.c (.int 0)) B):=⟨zns qy.o hmg hb.o (aQ h2)⟩
def K4(scope:Scope)(x:Str):Bool:=match scope.names.lookup x with
 |some .local=>true|some .cell=>true|_=>false
def G6(h:K4 scope x=true):Loc (X.blk scope cl N Cc s3 H3 fp ak).env.scope x/\((X.blk scope cl N Cc s3 H3 fp ak).fn x=true\/(X.blk scope cl N Cc s3 H3 fp ak).env.scope.names.lookup x=some .local):=by
 unfold K4 at h;split at h
 .rename_i z;show⟨.inl (lookup_relabel_local z),.inr (lookup_relabel_local z)⟩
 .rename_i z;show⟨.inr (Vq (by intro y;cases y) z),.inl (by change (scope.names.lookup x==some NameKind.cell)=true;rw[z];rfl)⟩
 .cases h
theorem K5(i:Nat)(wN:N.Nodup)(hi:N[i]?=some x)(hl:K4 scope x=true):JY (X.blk scope cl N Cc s3 H3 fp ak) (.Name x tp) (cY i):=
 ⟨yw wN hi (G6 hl).1 (G6 hl).2⟩
theorem VF(i j:Nat)(hc:X.aj=true)(wN:N.Nodup)(hi:N[i]?=some x)(hj:N[j]?=some y)(hl:K4 scope x=true)(u_:K4 scope y=true):JY (X.blk scope cl N Cc s3 H3 fp ak) (.Tuple [.Name x px,.Name y py] kt tp) (pW X.K 2 (dJ (cY i) (dJ (cY j) pU))):=
 ⟨Vo (X:=X.blk scope cl N Cc s3 H3 fp ak) hc wN hi hj (G6 hl).1 (G6 u_).1 (G6 hl).2 (G6 u_).2⟩
def zmb{scope:Scope}{XN:List Str}{M0 N:List Str}{fr:List Nat}(h:frB scope XN N fr=true):(M0++N).length=M0.length+fr.length/\∀(i:Nat) (y:Str) (j:Nat),(M0++N)[M0.length+i]?=some y->fr[i]?=some j->scope.names.lookup y=some .free/\XN[j]?=some y:=by
 let⟨l,q⟩:=zjq h;show⟨by rw[gP,l],λi y j e1 e2=>q i y j ?_ e2⟩;rw[pO gV]at e1;rw[show M0.length+i-M0.length=i by lia]at e1;show e1
theorem Ba{elt iter tg:Expr}{ifs:List Expr}{scope:Scope}{cond:Eo}{gD:List Nat}{g:TG}{w:Wk}(sc:Scope)(XN M0 N:List Str)(fr:List Nat)(hc:X.aj=true)(hsc:X.env.scope=sc)(hXN:X.N=XN)(hB:DX sc scope=true)(hf:frB scope XN N fr=true)(hT:qz X.K cA g gD)(jh:gD.all (λi=>decide (i<M0.length))=true)
  (hi:JI X cA ao aj F EX tg iter w) (hg:∀cl C s3 H3 fp ak,JY (X.blk scope cl (M0++N) C s3 H3 fp ak) tg g)
  (ht:∀cl C s3 H3 fp ak,JC (X.blk scope cl (M0++N) C s3 H3 fp ak) cA ao aj F (λ_ _ _ _=>False) ifs cond) (he:∀cl C s3 H3 fp ak,JE (X.blk scope cl (M0++N) C s3 H3 fp ak) cA ao aj F (λ_ _ _ _=>False) elt B)
  (hs:∀x,foldedSetIterable iter X.env x=pure x:=by intro _;rfl):JE X cA ao aj F EX (.ListComp elt [⟨tg,iter,ifs,0⟩] scope pos) (.comp fz B gD w fr M0.length cond):=
 ⟨zkz hc (jz.of (hsc▸hB)) hi.o (zmb (hXN▸hf)).1 (zmb (hXN▸hf)).2 (λa b c d e f=>(hg a b c d e f).o) hT (λi hi=>ju (fB.mp jh i hi)) (λa b c d e f=>(ht a b c d e f).o) (λa b c d e f=>(he a b c d e f).o) hs⟩
theorem wY:JR X (λ_ _ _ _=>False):=⟨zhg⟩
theorem cT{P:Program}{w:World}{K:W.Frag}{mg:Str->Option Value}{base:Heap}{N:List Str}{qual:Str}{scope:Scope}{f:Addr}{cd:Value}{A:Around}{outer:List Env}{s:Shared}{H:Hp}{E:XK}{cm:Bool} :
  JR (iZ (lM P w) P w K mg base N qual scope f cd A outer s H E cm) (λ_ C dx H'=>E C dx H'):=⟨zfT⟩
theorem wZ{CX:uq}{P:Program}{w:World}{K:W.Frag}{mg:Str->Option Value}{base:Heap}{N:List Str}{qual:Str}{scope:Scope}{f:Addr}{cd:Value}{A:Around}{outer:List Env}{s:Shared}{H:Hp}{E:XK}{cm:Bool} :
  JH (iZ CX P w K mg base N qual scope f cd A outer s H E cm):=⟨PassesOwn.leaving⟩
end
section
variable {X:Cx}{cA:Cl}{ao:Nat->Nat->Bool}{aj:Bool}{F:Bool->Fn}{EX:XS}{a b c d e:Expr}{A B C:E}{pos p p2:Pos}{st:Stmt}{sts body orelse:List Stmt}{m:St}{ms mb me mh:cg}{es:List Expr}{Xs:Es}{x y n:Str}{k k':NameKind}
def tQ(h:JK X x k)(hv:ji k=true):Loc X.env.scope x:=by cases k<;>first|exact .inl h.o|exact .inr h.o|cases hv
def tR(h:JK X x k)(hv:X.fn x=true\/k=.local):X.fn x=true\/X.env.scope.names.lookup x=some .local:=by
 rcases hv with hv|hv
 .exact .inl hv
 .subst hv;show .inr h.o
theorem aV:JB X cA ao aj F EX [] .nil:=⟨zjE⟩
theorem aK(h1:JS X cA ao aj F EX st m)(h2:JB X cA ao aj F EX sts ms):JB X cA ao aj F EX (st::sts) (.cons m ms):=⟨zhV h1.o h2.o⟩
theorem K6(ha:JE X cA ao aj (F aj) EX a A)(hs:swapsWith a none pos.line X.env=pure false:=by rfl):JS X cA ao aj F EX (.Expr a pos) (.ex A):=⟨zog ha.o hs⟩
theorem cF(ha:JE X cA ao aj (F aj) EX a A):JS X cA ao aj F EX (.Return (some a) pos) (.ret A):=⟨zlM ha.o⟩
theorem fX(i:Nat)(hN:X.N.Nodup)(hi:X.N[i]?=some x)(hx:JK X x k)(hl:ji k=true)(ha:JE X cA ao aj (F aj) EX a A)(hs:swapsWith a (some (.Name x p)) pos.line X.env=pure false:=by rfl)(hf:X.fn x=true\/k=.local:=by first|exact .inl rfl|exact .inr rfl):JS X cA ao aj F EX (.Assign [.Name x p] a pos) (.asg (.nm i) A):=
 ⟨znh hN hi (tQ hx hl) ha.o hs (tR hx hf)⟩
theorem Py(i j:Nat){k0}(hc:X.aj=true)(bI:aj=true)(hN:X.N.Nodup)(hi:X.N[i]?=some x)(hj:X.N[j]?=some y)(hx:JK X x k)(hy:JK X y k')(vY:ji k=true)(Ek:ji k'=true)(ha:JE X cA ao aj (F aj) EX a A)
  (lO:X.fn x=true\/k=.local:=by first|exact .inl rfl|exact .inr rfl) (oU:X.fn y=true\/k'=.local:=by first|exact .inl rfl|exact .inr rfl)
  (hs:swapsWithSole [.Tuple [.Name x px,.Name y py] k0 pt] a pos.line X.env=pure false:=by rfl) (hw:swappedStores [.Tuple [.Name x px,.Name y py] k0 pt] a X.env=pure none:=by rfl) (h1:(assignEach [.Tuple [.Name x px,.Name y py] k0 pt] X.env).map (·.2)=[assign (.Tuple [.Name x px,.Name y py] k0 pt) X.env]:=by rfl) :
  JS X cA ao aj F EX (.Assign [.Tuple [.Name x px,.Name y py] k0 pt] a pos) (.asg (.tp [i,j]) A):=⟨zjM hc bI hN hi hj (tQ hx vY) (tQ hy Ek) (tR hx lO) (tR hy oU) ha.o hs hw h1⟩
theorem znT(hO:JE X cA ao aj (F aj) EX oo O)(hI:JE X cA ao aj (F aj) EX ii I')(ha:JE X cA ao aj (F aj) EX a A)
  (DR:∀v,assign (.Subscript oo ii p) X.env v=(do
   let obj <-holding [v] (eval oo X.env)
   let at_ <-holding [v,obj] (eval ii X.env)
   standAt p
   holding [v,obj,at_] (setItem obj at_ v)
   release [v,obj,at_] []):=by intro _;rfl) (hs:swapsWithSole [.Subscript oo ii p] a pos.line X.env=pure false:=by rfl) (hw:swappedStores [.Subscript oo ii p] a X.env=pure none:=by rfl)
  (h1:(assignEach [.Subscript oo ii p] X.env).map (·.2)=[assign (.Subscript oo ii p) X.env]:=by rfl):JS X cA ao aj F EX (.Assign [.Subscript oo ii p] a pos) (.asg (.ao O I') A):=⟨znS hO.o hI.o ha.o DR hs hw h1⟩
theorem zmG(i j:Nat){kt k2 nQ}(hc:X.aj=true)(bI:aj=true)(hN:X.N.Nodup)(hi:X.N[i]?=some x)(hj:X.N[j]?=some y)(lW:i≠j)(hx:JK X x .local)(hy:JK X y .local)
  (ha:JE X cA ao aj (F aj) EX a A) (hb:JE X cA ao aj (F aj) EX b B) (hw:swappedStores [.Tuple [.Name x px,.Name y py] kt pt] (.Tuple [a,b] k2 nQ) X.env=pure (some [x,y])) (h1:aB a=true:=by rfl) (h2:aB b=true:=by rfl)
  (hs:swapsWithSole [.Tuple [.Name x px,.Name y py] kt pt] (.Tuple [a,b] k2 nQ) pos.line X.env=pure false:=by rfl):JS X cA ao aj F EX (.Assign [.Tuple [.Name x px,.Name y py] kt pt] (.Tuple [a,b] k2 nQ) pos) (.par i j A B):=
 ⟨zmC hc bI hN hi hj lW hx.o hy.o ha.o hb.o (aQ h1) (aQ h2) hw hs⟩
theorem iI(hc:JT X cA ao aj (F aj) EX c C)(ht:JB X cA ao aj F EX body mb)(he:JB X cA ao aj F EX orelse me):JS X cA ao aj F EX (.If c body orelse pos) (.iff C mb me):=⟨zoV hc.o ht.o he.o⟩
theorem zy(i:Nat)(hN:X.N.Nodup)(hi:X.N[i]?=some x)(hx:JK X x k)(hl:ji k=true)(hf:X.fn x=true\/k=.local:=by first|exact .inl rfl|exact .inr rfl):JG X cA ao aj F EX (.Name x pos) (.nm i):=⟨zjI hN hi (tQ hx hl) (tR hx hf)⟩
theorem zmW(i j:Nat){k0}(hc:X.aj=true)(bI:aj=true)(hN:X.N.Nodup)(hi:X.N[i]?=some x)(hj:X.N[j]?=some y)(hx:JK X x k)(hy:JK X y k')(vY:ji k=true)(Ek:ji k'=true)(lO:X.fn x=true\/k=.local:=by first|exact .inl rfl|exact .inr rfl)(oU:X.fn y=true\/k'=.local:=by first|exact .inl rfl|exact .inr rfl) :
  JG X cA ao aj F EX (.Tuple [.Name x px,.Name y py] k0 pos) (.tp [i,j]):=⟨zk1 hc bI hN hi hj (tQ hx vY) (tQ hy Ek) (tR hx lO) (tR hy oU)⟩
theorem xg(hp:JH X)(hc:X.aj=true)(bI:aj=true)(ha:JI X cA ao aj (F aj) EX tg a w)(hg:JG X cA ao aj F EX tg t)(hb:JB X cA ao aj F EX body mb)(hs:∀x,foldedSetIterable a X.env x=pure x:=by intro _;rfl):JS X cA ao aj F EX (.For tg a body [] pos) (.fr t w mb):=
 ⟨zmO hp.o hc bI ha.o hg.o hb.o hs⟩
theorem znk(i:Nat)(bI:aj=true)(hex:X.ex=[])(pF:X.stack=X.env::X.outer/\X.env.frame=some X.env.locals)(hg:JK X x .globalImplicit)(hm:X.mg x=some (.ref (cA.a dc)))(hN:X.N.Nodup)(hi:X.N[i]?=some n)(hl:JK X n .local)
  (hsub:∀c,ao c dc=true->subIn X.K (cA.a c) (cA.a dc)=true)
  (hb:∀(pn:List (Addr×Obj)) (E':Value->Shared->Prop) (uw:XS),JR (X.seen X.A X.aj pn E') uw->JH (X.seen X.A X.aj pn E')->JB (X.seen X.A X.aj pn E') cA ao aj F uw body mb)
  (hh:∀e:Value,JB (X.seen (X.A.mark (some e)) false X.pn (λ_ _=>False)) cA ao false F (λ_ _ _ _=>False) (b₀::suite) mh) (hd:okN x=true) :
  JS X cA ao aj F EX (.Try body [.ExceptHandler (some (.Name x np)) (some n) (b₀::suite) vf] [] [] pos) (.oO mb dc i mh):=
 ⟨zml bI hex pF hg.o hm hN hi hl.o hsub (λpn E' uw R H=>(hb pn E' uw ⟨R⟩ ⟨H⟩).o) (λe=>(hh e).o) (tO hd).1⟩
end
theorem znc{P:Program}{w:World}{K:W.Frag}{mg:Str->Option Value}{base:Heap}{cA:Cl}{ao:Nat->Nat->Bool}{T:Nat->Option Df}{x qual:Str}{st:Stmt}{f:Addr}{fd:FuncData}{N ps:List Str}{k n:Nat}{cm:Bool}{df:Df}(F:zu K x qual st f fd)(S:gB N ps (aA st))(hT:T n=some df)(hp:df.iC=ps.length)(hm:df.many=N.length)
  (hb:∀(cdv:Value) (A:Around) (outer:List Env) (s:Shared) (H:Hp) (E:XK),bT k (A.deeper (envOfC qual (aA st) s.heap.objs.size f cdv))->
   JB (iZ (lM P w) P w K mg base N qual (aA st) f cdv A outer s H E cm) cA ao cm (λc=>call ao T k c) (λ_ C dx H'=>E C dx H') (aN st) df.body) :
  fM P w K mg base (lM P w) cm (k+1) f fd ps (uE K cA (call ao T (k+1) cm n)):=znI F S hT hp hm λcdv A outer s H E hr=>(hb cdv A outer s H E hr).o
end Mi
namespace Mi
open PySem PySem.Spec PyProof.Rows L2 PySem.W
def zmt{fd:FuncData}{x:Str}{st:Stmt}(h:uo fd=wI x st):fd=fnOf x x (bA st) (aN st) (aA st) .none fd.kwdefaults fd.doc fd.pyModule fd.annotations fd.code fd.closureTuple:=by
 cases fd;unfold uo wI at h;cases h;rfl
def jP(K:Frag)(x:Str):Addr:=match Cd K x with
 |some p=>p.1|none=>0
def fdOf(K:Frag)(x:Str)(st:Stmt):FuncData:=match Cd K x with
 |some p=>p.2|none=>wI x st
structure FnAt(K:Frag)(x:Str)(st:Stmt):Prop where
 ns:nsIn K mainGlobals x=some (some (.ref (jP K x)))
 fn:zu K x x st (jP K x) (fdOf K x st)
def zow{K:Frag}{x:Str}{st:Stmt}(h:(Cd K x).map (λp=>uo p.2)=some (wI x st)):FnAt K x st:=by
 cases e:Cd K x with
 |none=>rw[e]at h;cases h|some p=>
  rw[e]at h;let hp:uo p.2=wI x st:=dD h;let h1:jP K x=p.1:=by unfold jP;rw[e]
  let h2:fdOf K x st=p.2:=by unfold fdOf;rw[e]
  unfold Cd at e;split at e
  .rename_i f hf;split at e
   .rename_i oc od fd sl hl;split at e
    .rename_i hc;cases e;rw[b_]at hc;show⟨by rw[h1];show hf,?_⟩;rw[h1,h2];show⟨⟨oc,od,_,_,_,_,_,_,sl,zmt hp,hl,hc.1⟩,hc.2⟩
    .cases e
   .cases e
  .cases e
theorem FnAt.m{K:Frag}{x:Str}{st:Stmt}(F:FnAt K x st){h:Heap}{mg:Str->Option Value}(X:K.In h)(G:h.Ns mainGlobals mg):mg x=some (.ref (jP K x)):=mg_of X G F.ns
def uF{K:Frag}{x:Str}(h:yd K x=true){hp:Heap}{mg:Str->Option Value}(X:K.In hp)(G:hp.Ns mainGlobals mg):mg x=some (.ref (Ce K x)):=by
 show mg_of X G ?_;unfold yd at h;unfold Ce;split at h
 .rename_i C e;rw[e]
 .cases h
def zmi{K:Frag}{x:Str}{i:Int}(h:mO K (x,i)=true){hp:Heap}{mg:Str->Option Value}(X:K.In hp)(G:hp.Ns mainGlobals mg):∃t,mg x=some (.int i t):=by
 unfold mO at h;split at h
 .rename_i j t e;rw[xW]at h;subst h;show⟨t,mg_of X G e⟩
 .cases h
def pI{K:Frag}{x:Str}(h:qO K x=true){hp:Heap}{mg:Str->Option Value}(X:K.In hp)(G:hp.Ns mainGlobals mg):mg x=none:=by
 show mg_none_of X G ?_;unfold qO at h;split at h
 .rename_i e;show e
 .cases h
structure Bb(l:Lk)(K:Frag):Prop where
 cl:∀x∈l.HJ,yd K x=true
 cs:l.HJ.isEmpty=true\/qN K (l.L K)=true
 ra:∀k∈l.YJ,HF K (eE (l.L K) k)=true
 ca:∀k∈l.YK,subB K (l.L K) k=true
 it:∀p∈l.Cg,mO K p=true
 no:∀x∈l.YH,qO K x=true
 st:∀p∈l.YL,uN K p=true
def Kaa{l:Lk}{K:Frag}(h:l.good K=true):Bb l K:=by
 unfold Lk.good at h;simp only[b_,Bool.or_eq_true,fB]at h;let⟨⟨⟨⟨⟨⟨h1,h2⟩,h3⟩,h4⟩,h5⟩,h6⟩,h7⟩:=h;show⟨h1,h2,h3,h4,h5,h6,h7⟩
def zA{K:Frag}{x:Str}{st:Stmt}{f:Addr}{fd:FuncData}{p:Str}(F:zu K x x st f fd)(h:∀(kV doc pm:Value) (an:Option Addr) (cdv ct a:Value),bindArgs (fnOf x x (bA st) (aN st) (aA st) .none kV doc pm an cdv ct) ⟨[a],[]⟩=pure [(p,a)]):Binds K fd [p] []:=by
 let⟨oc,od,kV,doc,pm,an,cdv,ct,osl,rfl,lk,nP⟩:=F.ex;show DY (h kV doc pm an cdv ct)
def zB{K:Frag}{x:Str}{st:Stmt}{f:Addr}{fd:FuncData}{p q:Str}(F:zu K x x st f fd)(h:∀(kV doc pm:Value) (an:Option Addr) (cdv ct a b:Value),bindArgs (fnOf x x (bA st) (aN st) (aA st) .none kV doc pm an cdv ct) ⟨[a,b],[]⟩=pure [(p,a),(q,b)]):Binds K fd [p,q] []:=by
 let⟨oc,od,kV,doc,pm,an,cdv,ct,osl,rfl,lk,nP⟩:=F.ex;show D_ (h kV doc pm an cdv ct)
def zE{K:Frag}{x:Str}{st:Stmt}{f:Addr}{fd:FuncData}{p q t:Str}(F:zu K x x st f fd)(h:∀(kV doc pm:Value) (an:Option Addr) (cdv ct a b c:Value),bindArgs (fnOf x x (bA st) (aN st) (aA st) .none kV doc pm an cdv ct) ⟨[a,b,c],[]⟩=pure [(p,a),(q,b),(t,c)]):Binds K fd [p,q,t] []:=by
 let⟨oc,od,kV,doc,pm,an,cdv,ct,osl,rfl,lk,nP⟩:=F.ex;show Ed (h kV doc pm an cdv ct)
def El{K:Frag}{x:Str}{st:Stmt}{f:Addr}{fd:FuncData}{p:Str}(F:zu K x x st f fd)(h:∀(kV doc pm:Value) (an:Option Addr) (cdv ct a:Value),bindArgs (fnOf x x (bA st) (aN st) (aA st) .none kV doc pm an cdv ct) ⟨[a],[]⟩=pure [(p,a)]):∀(s:Shared) (u:Value),BindsTo s fd ⟨[u],[]⟩ [(p,u)]:=by
 let⟨oc,od,kV,doc,pm,an,cdv,ct,osl,rfl,lk,nP⟩:=F.ex;show λs u=>.of_eq (h kV doc pm an cdv ct u)
end Mi
namespace Mi
open PySem PySem.Spec PyProof.Rows L2
section
variable {K:W.Frag}{cA:Cl}{U:Ph}{H:Hp}
theorem aC.K7(r:aC K cA U H xs ys):∀l:List Nat,aC K cA U H (l.map λi=>xs.getD i .non) (l.map λi=>ys.getD i .non)
 |[]=>.nil|i::l=>by
  show .cons ?_ (aC.K7 r l);change Rep K cA U H (xs.getD i .non) (ys.getD i .non);cases e:xs[i]? with
  |some x=>
   let⟨u,e1,e2⟩:=r.get e;rw[mJ,mJ,e,e1];show e2
  |none=>
   let e1:ys[i]?=Option.none:=r.none e;rw[mJ,mJ,e,e1];show .non
end
section
variable {X:Cx}{cA:Cl}{ao:Nat->Nat->Bool}{aj:Bool}{F:Fn}{EX:XS}{e:Expr}{pos p:Pos}{es:List Expr}{Xs:Es}{fz:Bool}
def zez:bootBuiltins "sorted"=some (.builtin "sorted"):=by decide +kernel
end
section
variable {K:W.Frag}{cA:Cl}{U:Ph}{H:Hp}
theorem Pz:∀{xs:List D} {k i:Nat},(enumFrom k xs)[i]?=(xs[i]?).map λd=>.tup [.int ((k+i:Nat):Int),d]
 |[],k,i=>by simp[enumFrom]|x::r,k,0=>by simp[enumFrom]|x::r,k,i+1=>by
  unfold enumFrom;rw[FW,FW,Pz]
  congr 1
  funext d
  rw[show k+1+i=k+(i+1) by lia]
def tU(K:W.Frag)(U:Ph)(H:Hp):Bool->Addr->List V->Prop
 |true,a,vs=>LstAt K U H a vs|false,a,vs=>TupAt K U H a vs
def tU.sk{kd:Bool}{a:Addr}{vs:List V}(h:tU K U H kd a vs):Sk kd K H a vs:=by
 cases kd
 .exact TupAt.iM h
 .exact LstAt.rD h
def tU.later{U':Ph}{H₁ H':Hp}{kd:Bool}{a:Addr}{vs:List V}(hz:∀a∈U.l,U.z a)(h:tU K U H kd a vs)(x:Ext U H U' H₁)(o:dW U' H₁ H'):tU K U' H' kd a vs:=by
 cases kd
 .exact TupAt.later hz h x o
 .exact LstAt.later hz h x o
def jX.enum{kd:Bool}{l:Addr}{xs:List D}{vs:List V}(hz:∀a∈U.l,U.z a)(h:tU K U H kd l vs)(r:aC K cA U H xs vs):jX K cA (.fix (enumFrom 0 xs)) U H (Ite K kd l):=by
 show⟨λU' H₁ H' s' i x o hS e=>⟨vs,(h.later hz x o).sk,?_⟩,λU' H₁ H' s' i d x o hS e=>?_,λU' H₁ H' s' i d v H2 x o hS e y=>?_⟩
 .let e:(enumFrom 0 xs)[i]?=none:=dD e;rw[Pz,Option.map_eq_none_iff]at e;show pA.mp ((r.mono x hz).none e)
 .let e:(enumFrom 0 xs)[i]?=some d:=dD e;rw[Pz]at e;let⟨d',e',_⟩:=jR.mp e;let⟨v,q,_⟩:=r.get e';show⟨vs,v,(h.later hz x o).sk,q⟩
 .let e:(enumFrom 0 xs)[i]?=some d:=dD e;rw[Pz]at e;let⟨d',e',rfl⟩:=jR.mp e;let⟨a,u,hn,rfl,rfl,hu⟩:=y;let⟨w,q,mV⟩:=((r.mono x hz).out o).get e';let:=hu vs (h.later hz x o).sk;rw[q]at this;cases this;let g:bD H' (upd H' a (.tup [.int i,u])):=bD.new hn;show⟨g,?_⟩;rw[show ((0+i:Nat):Int)=(i:Int) by simp];show .tup (.inl ⟨.inl iU,hS.nz hn⟩) (.cons (.int _) (.cons (mV.mono g.ext hS.lz) .nil))
def VG(h:(Src.jC n).at i s=some o):∃xs,s[n]?=some (.lst xs)/\(xs[i]?.map λx=>D.tup [.int i,x])=o:=by
 unfold Src.at at h;dsimp only at h;cases e:s[n]? with
 |none=>rw[e]at h;cases h|some ob=>
  rw[e]at h;cases ob with
  |lst xs=>show⟨xs,rfl,dD h⟩|_=>cases h
def jX.jC{a:Addr}{n:Nat}(h:U.l[n]?=some a):jX K cA (.jC n) U H (Ite K true a):=by
 show⟨λU' H₁ H' s' i x o hS e=>?_,λU' H₁ H' s' i d x o hS e=>?_,λU' H₁ H' s' i d v H2 x o hS e y=>?_⟩
 .obtain⟨xs,e1,e2⟩:=VG e;rw[Option.map_eq_none_iff]at e2;let⟨vs,q1,q2⟩:=hS.obj n _ a e1 (x.get h);show⟨vs,dF.of q1,pA.mp (q2.none e2)⟩
 .obtain⟨xs,e1,e2⟩:=VG e;let⟨d',e',_⟩:=jR.mp e2;let⟨vs,q1,q2⟩:=hS.obj n _ a e1 (x.get h);let⟨v,q3,_⟩:=q2.get e';show⟨vs,v,dF.of q1,q3⟩
 .obtain⟨xs,e1,e2⟩:=VG e;let⟨d',e',rfl⟩:=jR.mp e2;let⟨vs,q1,q2⟩:=hS.obj n _ a e1 (x.get h);let⟨w,q3,mV⟩:=q2.get e';let⟨b,u,hn,rfl,rfl,hu⟩:=y;let:=hu vs (dF.of q1);rw[q3]at this;cases this;let g:bD H' (upd H' b (.tup [.int i,w])):=bD.new hn;show⟨g,.tup (.inl ⟨.inl iU,hS.nz hn⟩) (.cons (.int _) (.cons (mV.mono g.ext hS.lz) .nil))⟩
end
section
variable {X:Cx}{cA:Cl}{ao:Nat->Nat->Bool}{aj:Bool}{F:Fn}{EX:XS}{a b:Expr}{A B:E}{pos pp tpos:Pos}{elts:List Expr}{kk:Nat}
theorem zke(qy:Gl X "enumerate")(hmg:X.mg "enumerate"=none)(hb:SE X cA ao aj F EX b B)(h2:starEach [b] X.env=(false,eval b X.env)::starEach [] X.env) :
  SI X cA ao aj F EX (.Tuple elts kk tpos) (.Call (.Name "enumerate" pp) [b] [] pos) (.enum B):=PI.weak (zk3 qy hmg (pY hb wK h2) (by rw[h2];rfl)) λZ H R hh=>un hh λU J s hL hS h=>by
 show aZ hL hS h λy H2 U2 d2 s2 x2 hL2 aP r2 h2=>?_;cases r2 with
 |@l n ad hl=>
  unfold Run rC at h2;dsimp only at h2;cases e:s2[n]? with
  |none=>rw[e]at h2;show h2.elim|some o=>
   rw[e]at h2;cases o with
   |lst xs=>
    let⟨vs,q1,q2⟩:=aP.obj n _ _ e hl;show⟨true,_,_,rfl,dF.of q1,h2 U2 H2 Ext.refl aP _ (jX.jC hl)⟩
   |_=>show h2.elim
 |d r2=>
  cases r2 with
  |fl q r=>show⟨true,_,_,rfl,q.rD,h2 U2 H2 Ext.refl aP _ (jX.enum (kd:=true) aP.lz q r)⟩|tup q r=>show⟨false,_,_,rfl,q.iM,h2 U2 H2 Ext.refl aP _ (jX.enum (kd:=false) aP.lz q r)⟩|_=>show h2.elim
def Em(f:Nat->List Str)(cs:List Nat)(i:Nat)(x:Str):Bool:=cs.all λc=>(f c)[i]?==some x
theorem zgN:∀(ns:List Str) (vs:List V),((ns.zip vs).map (·.1)).Sublist ns
 |[],vs=>by simp|n::ns,[]=>by simp|n::ns,v::vs=>by
  rw[zP,jw];show(zgN ns vs).cons₂ n
theorem zfH:∀{ns:List Str} {vs:List V} {i:Nat} {x:Str} {v:V},ns.Nodup->ns[i]?=some x->vs[i]?=some v->(ns.zip vs).lookup x=some v
 |ns,vs,i,x,v,hn,h1,h2=>by
  show Ub ?_ (zg2 h1 h2);show List.Sublist.nodup (zgN ns vs) hn
theorem zlT(hf:Em cA.f cs i x=true)(hn:∀c∈cs,(cA.f c).Nodup)(hX:∀c∈cs,XF X.K (cA.a c) x)(ha:SE X cA ao aj F EX a A)(hb:attributeBase a x X.env (eval a X.env)=eval a X.env) :
  SE X cA ao aj F EX (.Attribute a x pos) (.fld A cs i):=PE.weak (zol ha hb) λZ H Q hh=>un hh λU J s hL hS h=>by
 show aZ hL hS h λy H2 U2 d2 s2 x2 hL2 aP r2 h2=>?_;cases r2 with
 |l _=>show h2.elim|d r2=>
  cases r2 with
  |@exc ad c xs vs q r=>
   by_cases hc:cs.contains c=true
   .let hm:c∈cs:=List.contains_iff_mem.mp hc;let h3:Run X.K cA (M.opt (xs[i]?.map Xv.d)) U2 H2 s2 (λd x U' H'=>∀(v:V),bB X.K cA U' H' d v->Q v H') (eX X.K cA EX Z):=by
     let h2':=h2;dsimp only at h2';rw[if_pos hc]at h2';show h2'
    cases ex:xs[i]? with
    |none=>rw[ex]at h3;show h3.elim|some dd=>
     rw[ex]at h3;let⟨v,e1,rv⟩:=r.get ex;unfold Em at hf;rw[fB]at hf;let e2:(cA.f c)[i]?=some x:=by simpa using hf c hm
     rcases q.2 with ⟨z,_,_⟩|⟨dx,q1,q2,q3,q4⟩
     .rw[z]at e2;cases e2
     .exact⟨ad,_,dx,_,v,rfl,q1,q3,hX c hm,zfH (hn c hm) e2 e1,(h3.bO aP) v (.d rv)⟩
   .let h2':=h2;dsimp only at h2';rw[if_neg hc]at h2';show h2'.elim
  |_=>show h2.elim
end
section
variable {X:Cx}{cA:Cl}{ao:Nat->Nat->Bool}{aj:Bool}{F:Bool->Fn}{EX:XS}{e:Expr}{es:List Expr}{Xs:Es}{pos p:Pos}{x:Str}
theorem zgn{k cc:Nat}{ar:Arguments}{bd:List Stmt}{sc:Scope}{apos:Pos}(hr:bT k X.A)(hc:X.aj=true)(bI:aj=true)(IO:je X.K (cA.a cc) ar bd sc (cA.f cc))(hl:Es.len Xs=(cA.f cc).length)(hg:Gl X x)(hm:X.mg x=some (.ref (cA.a cc)))
  (R:Raises X EX) (ha:SA X cA ao aj (F aj) EX (e::es) Xs) (hz:Es.len Xs<=sizeLine) (mW:(x==("__debug__" : Str))=false:=by decide) (he:starEach (e::es) X.env=(false,eval e X.env)::starEach es X.env:=by rfl) (hpl:(backTo apos (starEach es X.env)).any (·.1)=false:=by rfl) :
  SS X cA ao aj F EX (.Raise (some (.Call (.Name x p) (e::es) [] apos)) none pos) (.rise cc true Xs):=PS.weak (zg6 hr hc IO hg hm R ha mW he hpl) λD Z H hh=>un hh λU J s hL hS h=>by
 let h:aM X.K cA (if aj=true then ofM (M.bd (evs ao aj (F aj) Xs J) fP) J (λds s=>some (.er cc (if true=true then ds else []) J,s)) else λ_=>none) U H s D EX:=h;rw[if_pos bI]at h;show DP hL hS (aM.ofM hL hS.lz h) λvs H1 U1 xs s1 Bc x1 hL1 aG rv h1=>?_;let h1:Run X.K cA (M.bd (fP xs) M.ret) U1 H1 s1 (λa s1 U1 H1=>Ext U H U1 H1/\aF X.K cA U1 H1 s1/\aM X.K cA (λs=>some (.er cc (if true=true then a else []) J,s)) U1 H1 s1 D EX) (eX X.K cA EX Z):=by
  unfold Run at h1 ⊢;unfold M.bd;cases e1:fP xs s1 with
  |none=>rw[e1]at h1;show h1|some r=>
   let⟨r,s2⟩:=r;rw[e1]at h1;cases r with
   |er c f=>show h1|ok ds=>show h1
 let⟨ds,e1,rs,h2⟩:=UL rv h1;let⟨_,_,h3⟩:=h2.bO aG;let hvl:vs.length=(cA.f cc).length:=by rw[<-rv.len,Bc];show hl
 show⟨hvl,by rw[<-rv.len,Bc];show hz,λd hd=>?_⟩;let g:bD H1 (upd H1 d (.xd ((cA.f cc).zip vs))):=bD.new hd;show h3 U1 _ Z g.ext (aG.grow g) (hL1.mono g.ext aG.lz) (some d) (.inr ⟨d,vs,rfl,aG.nz hd,iU,hvl.symm,rs.mono g.ext aG.lz⟩)
theorem PB{k cc:Nat}{kk:NameKind}{ar:Arguments}{bd:List Stmt}{sc:Scope}{apos:Pos}(hr:bT k X.A)(hc:X.aj=true)(bI:aj=true)(IO:je X.K (cA.a cc) ar bd sc (cA.f cc))(hm:X.mg x=some (.ref (cA.a cc)))(hg:JK X x .globalImplicit)
  (R:JR X EX) (ha:JA X cA ao aj (F aj) EX (e::es) Xs) (hd:okN x=true) (hl:decide (Es.len Xs=(cA.f cc).length)=true:=by rfl) (hz:decide (Es.len Xs<=sizeLine)=true:=by rfl) (he:aB e=true:=by rfl) (hpl:es.all aB=true:=by rfl) :
  JS X cA ao aj F EX (.Raise (some (.Call (.Name x p) (e::es) [] apos)) none pos) (.rise cc true Xs):=⟨zgn hr hc bI IO (ju hl) hg.o hm R.o ha.o (ju hz) (tO hd).1 (aQ he) (aR hpl)⟩
end
section
variable {X:Cx}{cA:Cl}{ao:Nat->Nat->Bool}{aj:Bool}{F:Fn}{EX:XS}{a b:Expr}{A B:E}{pos p tpos:Pos}{elts:List Expr}{kk:Nat}
theorem PJ(hX:∀c∈cs,XF X.K (cA.a c) x/\(cA.f c).Nodup)(ha:JE X cA ao aj F EX a A)(hf:Em cA.f cs i x=true:=by decide +kernel)(hb:attributeBase a x X.env (eval a X.env)=eval a X.env:=by rfl) :
  JE X cA ao aj F EX (.Attribute a x pos) (.fld A cs i):=⟨zlT hf (λc hc=>(hX c hc).2) (λc hc=>(hX c hc).1) ha.o hb⟩
theorem znR(hmg:X.mg "enumerate"=none)(qy:JK X "enumerate" .globalImplicit)(hb:JE X cA ao aj F EX b B)(h2:aB b=true:=by rfl):JI X cA ao aj F EX (.Tuple elts kk tpos) (.Call (.Name "enumerate" p) [b] [] pos) (.enum B):=⟨zke qy.o hmg hb.o (aQ h2)⟩
end
end Mi
namespace Mi
open PySem PySem.Spec PyProof.Rows L2 PySem.W
def zku{fd:FuncData}{q:Str}{st:Stmt}(h:uo fd=Cj q st):fd=fnOf "__init__" q (bA st) (aN st) (aA st) .none fd.kwdefaults fd.doc fd.pyModule fd.annotations fd.code fd.closureTuple:=by
 cases fd;unfold uo Cj at h;cases h;rfl
structure En(K:Frag)(C:Addr)(q:Str)(st:Stmt):Prop where
 ex:∃(fI:Addr) (od:Option Addr) (kV doc pm:Value) (an:Option Addr) (cdv ct:Value) (osl:Array (Option Value)) (cd:ClassData),
  K.lookup fI=some ⟨.type "function",od,.func (fnOf "__init__" q (bA st) (aN st) (aA st) .none kV doc pm an cdv ct),osl⟩/\codeIn K cdv q=true/\mL K C fI=true/\clsIn K C=some cd/\bF cd.mro=true/\cd.hasDict=true
def zoR{K:Frag}{C:Addr}{q:Str}{st:Stmt}(h:(HN K C).map uo=some (Cj q st)):En K C q st:=by
 cases e:HN K C with
 |none=>rw[e]at h;cases h|some fd=>
  rw[e]at h;let hp:uo fd=Cj q st:=dD h;unfold HN at e;split at e
  .rename_i cd nP;split at e
   .rename_i f hf;split at e
    .rename_i od fd' sl hl;split at e
     .rename_i hc;cases e;simp only[b_]at hc;let⟨⟨⟨c1,c2⟩,c3⟩,c4⟩:=hc;let eq:=zku hp;let qn:fd.qualname=q:=by rw[eq]
      show⟨⟨f,od,fd.kwdefaults,fd.doc,fd.pyModule,fd.annotations,fd.code,fd.closureTuple,sl,cd,?_,by rw[<-qn];show c1,c2,nP,c3,c4⟩⟩;rw[<-eq];show hl
     .cases e
    .cases e
   .cases e
  .cases e
structure qC(q:Str)(st:Stmt)(fs:List Str):Prop where
 bind:∀(kV doc pm:Value) (an:Option Addr) (cdv ct:Value) (us:List Value),us.length=fs.length+1->bindArgs (fnOf "__init__" q (bA st) (aN st) (aA st) .none kV doc pm an cdv ct) ⟨us,[]⟩=pure (((("self" : Str))::fs).zip us)
 nd:(("self" : Str)::fs).Nodup
 ne:fs≠[]
 few:fs.length<=900
 body:iz "self" (aN st) fs=true
 qb:∀x∈(aA st).names,x.2≠.cell
 loc:∀f∈(("self" : Str)::fs),(aA st).names.lookup f=some .local/\(f==("__debug__" : Str))=false
 co:(aA st).isCoroutine=false
 gen:(aA st).isGenerator=false
 kind:(aA st).kind=.function
def scB(sc:Scope)(fs:List Str):Bool:=sc.names.all (λx=>match x.2 with|.cell=>false|_=>true)&&(("self" : Str)::fs).all (λf=>(match sc.names.lookup f with|some .local=>true|_=>false) && !(f==("__debug__" : Str)))
def qC.of{q:Str}{st:Stmt}{fs:List Str}(bind:∀(kV doc pm:Value) (an:Option Addr) (cdv ct:Value) (us:List Value),us.length=fs.length+1->bindArgs (fnOf "__init__" q (bA st) (aN st) (aA st) .none kV doc pm an cdv ct) ⟨us,[]⟩=pure (((("self" : Str))::fs).zip us))(nd:(("self" : Str)::fs).Nodup)(ne:fs≠[])(few:fs.length<=900)(body:iz "self" (aN st) fs=true)
  (sc:scB (aA st) fs=true) (co:(aA st).isCoroutine=false) (gen:(aA st).isGenerator=false) (kind:(aA st).kind=.function):qC q st fs:=by
 unfold scB at sc;rw[b_,fB,fB]at sc;show⟨bind,nd,ne,few,body,λx hx z=>?_,λf hf=>?_,co,gen,kind⟩
 .let:=sc.1 x hx;rw[z]at this;cases this
 .let:=sc.2 f hf;rw[b_,Nm]at this;show⟨?_,this.2⟩;let h1:=this.1;split at h1
  .assumption
  .cases h1
def zgd{K:Frag}{C:Addr}{q:Str}{st:Stmt}{fs:List Str}(a:En K C q st)(t:qC q st fs)(s:setB K C fs=true):je K C (bA st) (aN st) (aA st) fs:=by
 let⟨fI,od,kV,doc,pm,an,cdv,ct,osl,cd,h1,h2,h3,h4,h5,h6⟩:=a.ex;unfold setB at s;rw[b_,iK,fB]at s;show⟨⟨fI,od,kV,doc,pm,an,cdv,ct,osl,q,cd,h1,h2,h3,h4,h5,h6,λus hl=>t.bind kV doc pm an cdv ct us hl⟩,s.1,t.nd,t.ne,t.few,t.body,t.qb,t.loc,λf hf=>iK.mp (s.2 f hf),t.co,t.gen,t.kind⟩
def zoA{K:Frag}{C:Addr}{f:Str}(h:N6 K C f=true):XF K C f:=by
 unfold N6 at h;simp only[b_,iK]at h;let⟨⟨⟨⟨h1,h2⟩,h3⟩,h4⟩,h5⟩:=h;show⟨h1,h2,h3,h4,h5⟩
structure lA(fs:List (Str×Stmt))(ms:List yg)(xs:List (Nat×Str))(l:Lk)(K:Frag):Prop where
 fn:∀p∈fs,FnAt K p.1 p.2
 gd:Bb l K
 mi:∀m∈ms,En K (eE (l.L K) m.c) m.q m.st
 se:∀m∈ms,setB K (eE (l.L K) m.c) m.fs=true
 xf:∀x∈xs,XF K (eE (l.L K) x.1) x.2
theorem VH{a:Nat}{o:Obj}:∀{l:List Obj} {i:Nat},((a:Addr),o)∈HS i l->i<=a/\l[a-i]?=some o/\o.isFreed=false
 |[],i,h=>by cases h|p::r,i,h=>by
  unfold HS at h;split at h
  .obtain⟨h1,h2,h3⟩:=VH h;show⟨by lia,?_,h3⟩;rw[show a-i=(a-(i+1))+1 by lia];show h2
  .rename_i hf;rcases cX.mp h with e|h
   .cases e;show⟨bK _,by simp,hf⟩
   .obtain⟨h1,h2,h3⟩:=VH h;show⟨by lia,?_,h3⟩;rw[show a-i=(a-(i+1))+1 by lia];show h2
theorem zcv:∀{K:Frag},K.lookup a=some o->(a,o)∈K
 |[],h=>by cases h|(b,p)::r,h=>by
  rw[nJ]at h;by_cases e:a=b
  .subst e;simp only[zR]at h;cases h;show fK
  .rw[show (a==b)=false by simpa using e]at h;show dI _ (zcv h)
theorem zif:(cB h).In h:=λa o e=>by
 let hm:=zcv e;unfold cB at hm;rcases gA.mp hm with z|z
 .unfold qP at z;split at z
  .rename_i p hp;rcases cX.mp z with e|z
   .cases e;show hp
   .cases z
  .cases z
 .obtain⟨_,h2,h3⟩:=VH (List.mem_reverse.mp z);rw[Heap.get?_some_iff];show⟨?_,h3⟩;let:h.objs.toList[a]?=some o:=by simpa using h2
  simpa using this
def mz(fs:List (Str×Stmt))(ms:List yg)(xs:List (Nat×Str))(l:Lk):Hook where
 α:=List (Option FuncData)×List (Option FuncData)×Bool
 obs:=sJ fs ms xs l
 val:=uO fs ms
 says:=λ_ h=>∃K:Frag,K.In h/\lA fs ms xs l K
 of:=λw s e=>by
  let e3:(_&&_&&_)=true:=nO (λx=>x.2.2) e;rw[b_,b_,fB,fB]at e3;show⟨cB s.heap,zif,⟨λp hp=>?_,Kaa e3.1.1,λm hm=>?_,e3.1.2,λx hx=>zoA (e3.2 x hx)⟩⟩
  .let e1:=nO Prod.fst e;show zow (List.map_inj_left.mp e1 p hp)
  .let e1:=nO (λx=>x.2.1) e;show zoR (List.map_inj_left.mp e1 m hm)
 keeps:=λw h h' ⟨K,X,Y⟩ k=>⟨K,X.keeps k,Y⟩
def K8{l:OpenLaw}{k:Nat}{q:Program}{loose:List Str}{XP:(Str->Option Value)->Heap->Prop}{fs:List (Str×Stmt)}{ms:List yg}{xs:List (Nat×Str)}{lk:Lk}{d:DefRec}{x:Str}(hn:l.most=some 63)(SX:d.params.defaults=[])(hr:bT k callerA)
  (F:∀(w:World) (K:Frag) (mg:Str->Option Value) (fa:Addr) (h:Heap),lA fs ms xs lk K->K.In h->h.Ns mainGlobals mg->mg d.name=some (.ref fa)->
   ∃fd:FuncData,(∀(s:Shared) (u:Value),BindsTo s fd ⟨[u],[]⟩ [(x,u)])/\∀base:Heap,K.In base->base.Ns mainGlobals mg->fM l.prog w K mg base (lM l.prog w) true k fa fd [x] (vU K)) :
  WalkO q loose XP (mz fs ms xs lk).says l.row.toRowW d [] (λf vs=>PySem.call f vs):=by
 show Zx.oJ hn SX λw s₀ s₁ mg mb fa o pm cd doc a vs ns G Y ho hd nP hmg Dh hints hlen hg=>?_;let⟨K,KX,SY⟩:=Y;let⟨fd,hb,hF⟩:=F w K mg fa _ SY KX G.T.g hmg;show zid KX G.T.g G.T.b G.T.builtins G.T.nolimit hg Dh hints (jx hlen W9) hr hF hb (λH hO hS=>⟨a,ns,rfl,hS,hlen,hO,λ_=>rfl⟩) λH e s' h=>by
  let⟨_,_,_,_,_,_,_,_,_,_,z⟩:=h;show z
def bind1{f:List Value->Sem (List (Str×Value))}{a b:Str}(h:∀x y,f [x,y]=pure [(a,x),(b,y)])(us:List Value)(hl:us.length=[b].length+1):f us=pure ([a,b].zip us):=by
 cases us with
 |nil=>cases hl|cons x t=>
  cases t with
  |nil=>cases hl|cons y t=>
   cases t with
   |nil=>show h x y|cons z t=>cases hl
end Mi
namespace Mi
open PySem PySem.Spec PyProof.Rows L2
section
variable {K:W.Frag}{cA:Cl}{U:Ph}{H:Hp}
def jH(K:W.Frag)(U:Ph)(H:Hp):Bool->Addr->List V->Prop
 |true,a,vs=>LstAt K U H a vs|false,a,vs=>TupAt K U H a vs
def jH.sk{kd:Bool}{a:Addr}{vs:List V}(h:jH K U H kd a vs):Sk kd K H a vs:=by
 cases kd
 .exact TupAt.iM h
 .exact LstAt.rD h
def jH.later{kd:Bool}{a:Addr}{vs:List V}{U':Ph}{H₁ H':Hp}(hz:∀a∈U.l,U.z a)(h:jH K U H kd a vs)(x:Ext U H U' H₁)(o:dW U' H₁ H'):jH K U' H' kd a vs:=by
 cases kd
 .exact TupAt.later hz h x o
 .exact LstAt.later hz h x o
theorem VJ{xs ys:List D}{i:Nat}:(List.zipWith (λp q=>D.tup [p,q]) xs ys)[i]?=match xs[i]?,ys[i]? with
  |some p,some q=>some (.tup [p,q])|_,_=>none:=by
 rw[List.getElem?_zipWith];cases xs[i]?<;>cases ys[i]?<;>rfl
def jX.zip{k1 k2:Bool}{l1 l2:Addr}{xs ys:List D}{us vs:List V}(hz:∀a∈U.l,U.z a)(h1:jH K U H k1 l1 us)(h2:jH K U H k2 l2 vs)(r1:aC K cA U H xs us)(r2:aC K cA U H ys vs):jX K cA (.fix (List.zipWith (λp q=>D.tup [p,q]) xs ys)) U H (Ui K k1 k2 l1 l2):=by
 show⟨λU' H₁ H' s' i x o hS e=>?_,λU' H₁ H' s' i d x o hS e=>?_,λU' H₁ H' s' i d v H2 x o hS e y=>?_⟩
 .let e:(List.zipWith (λp q=>D.tup [p,q]) xs ys)[i]?=none:=dD e;rw[VJ]at e;show⟨us,vs,(h1.later hz x o).sk,(h2.later hz x o).sk,?_⟩;cases ex:xs[i]? with
  |none=>show .inl (pA.mp (r1.none ex))|some p=>
   cases ey:ys[i]? with
   |none=>show .inr (pA.mp (r2.none ey))|some q=>rw[ex,ey]at e;cases e
 .let e:(List.zipWith (λp q=>D.tup [p,q]) xs ys)[i]?=some d:=dD e;rw[VJ]at e;cases ex:xs[i]? with
  |none=>rw[ex]at e;cases e|some p=>
   cases ey:ys[i]? with
   |none=>rw[ex,ey]at e;cases e|some q=>
    let⟨u,q1,_⟩:=r1.get ex;let⟨v,q2,_⟩:=r2.get ey;show⟨us,vs,u,v,(h1.later hz x o).sk,(h2.later hz x o).sk,q1,q2⟩
 .let e:(List.zipWith (λp q=>D.tup [p,q]) xs ys)[i]?=some d:=dD e;rw[VJ]at e;cases ex:xs[i]? with
  |none=>rw[ex]at e;cases e|some p=>
   cases ey:ys[i]? with
   |none=>rw[ex,ey]at e;cases e|some q=>
    rw[ex,ey]at e;cases e;let⟨a,u,w,hn,rfl,rfl,hu,hw⟩:=y;let⟨u',q1,ru⟩:=((r1.mono x hz).out o).get ex;let⟨w',q2,mV⟩:=((r2.mono x hz).out o).get ey;let e1:=hu us (h1.later hz x o).sk;let e2:=hw vs (h2.later hz x o).sk;rw[q1]at e1;rw[q2]at e2;cases e1;cases e2;let g:bD H' (upd H' a (.tup [u,w])):=bD.new hn;show⟨g,.tup (.inl ⟨.inl iU,hS.nz hn⟩) (.cons (ru.mono g.ext hS.lz) (.cons (mV.mono g.ext hS.lz) .nil))⟩
def VL(r:bB K cA U H x v)(h:Run K cA (M.bd (ni x) k) U H s P Ee) :
  ∃xs kd a vs,v=.ref a/\jH K U H kd a vs/\aC K cA U H xs vs/\Run K cA (k xs) U H s P Ee:=by
 cases r with
 |l _=>show h.elim|d r=>
  cases r with
  |tup q r=>show⟨_,false,_,_,rfl,q,r,h⟩|fl q r=>show⟨_,true,_,_,rfl,q,r,h⟩|_=>show h.elim
end
section
variable {X:Cx}{cA:Cl}{ao:Nat->Nat->Bool}{aj:Bool}{F:Fn}{EX:XS}{a b:Expr}{A B:E}{pos pp tpos:Pos}{elts:List Expr}{kk:Nat}
theorem znC(qy:Gl X "zip")(hmg:X.mg "zip"=none)(ha:SE X cA ao aj F EX a A)(hb:SE X cA ao aj F EX b B)(h1:starEach [a,b] X.env=(false,eval a X.env)::starEach [b] X.env)(h2:starEach [b] X.env=(false,eval b X.env)::starEach [] X.env) :
  SI X cA ao aj F EX (.Tuple elts kk tpos) (.Call (.Name "zip" pp) [a,b] [] pos) (.zip A B):=PI.weak (zlI qy hmg (pY ha (pY hb wK h2) h1) (by rw[h1,h2];rfl) (by rw[h2];rfl)) λZ H R hh=>un hh λU J s hL hS h=>by
 show aZ hL hS h λx H1 U1 d1 s1 x1 hL1 aG r1 h1=>aZ hL1 aG h1 λy H2 U2 d2 s2 x2 hL2 aP r2 h2=>?_;let⟨xs,k1,l1,us,e1,q1,p1,h3⟩:=VL (r1.mono x2 aG.lz) h2;let⟨ys,k2,l2,vs,e2,q2,p2,h4⟩:=VL r2 h3;subst e1 e2;show⟨k1,k2,l1,l2,us,vs,rfl,q1.sk,q2.sk,(h4.bO aP) _ (jX.zip aP.lz q1 q2 p1 p2)⟩
theorem zod(hmg:X.mg "zip"=none)(qy:JK X "zip" .globalImplicit)(ha:JE X cA ao aj F EX a A)(hb:JE X cA ao aj F EX b B)(h1:aB a=true:=by rfl)(h2:aB b=true:=by rfl):JI X cA ao aj F EX (.Tuple elts kk tpos) (.Call (.Name "zip" p) [a,b] [] pos) (.zip A B):=⟨znC qy.o hmg ha.o hb.o (aQ h1) (aQ h2)⟩
end
end Mi
namespace Mi
open PySem PySem.Spec PyProof.Rows L2 PySem.W
structure D3(K:Frag)(mg:Str->Option Value)(x:Str)(st:Stmt)(ps:List Str):Prop where
 f:zu K x x st (jP K x) (fdOf K x st)
 m:mg x=some (.ref (jP K x))
 b:Binds K (fdOf K x st) ps []
theorem dk{p:Prop}(h:p:=by decide +kernel):p:=h
section
variable {fs:List (Str×Stmt)}{ms:List yg}{xs:List (Nat×Str)}{lk:Lk}{K:Frag}{h:Heap}{mg:Str->Option Value}{x:Str}{st:Stmt}
theorem mC(S:lA fs ms xs lk K)(X:K.In h)(G:h.Ns mainGlobals mg)(j:Nat)(hj:fs[j]?=some (x,st):=by rfl)(hb:∀(kV doc pm:Value) (an:Option Addr) (cdv ct a:Value),bindArgs (fnOf x x (bA st) (aN st) (aA st) .none kV doc pm an cdv ct) ⟨[a],[]⟩=pure [(p,a)]:=by intros;rfl):D3 K mg x st [p]:=have F:=S.fn (x,st) (jL hj);⟨F.fn,F.m X G,zA F.fn hb⟩
theorem xq(S:lA fs ms xs lk K)(X:K.In h)(G:h.Ns mainGlobals mg)(j:Nat)(hj:fs[j]?=some (x,st):=by rfl)(hb:∀(kV doc pm:Value) (an:Option Addr) (cdv ct a b:Value),bindArgs (fnOf x x (bA st) (aN st) (aA st) .none kV doc pm an cdv ct) ⟨[a,b],[]⟩=pure [(p,a),(q,b)]:=by intros;rfl):D3 K mg x st [p,q]:=have F:=S.fn (x,st) (jL hj);⟨F.fn,F.m X G,zB F.fn hb⟩
theorem zpn(S:lA fs ms xs lk K)(X:K.In h)(G:h.Ns mainGlobals mg)(j:Nat)(hj:fs[j]?=some (x,st):=by rfl)(hb:∀(kV doc pm:Value) (an:Option Addr) (cdv ct a b c:Value),bindArgs (fnOf x x (bA st) (aN st) (aA st) .none kV doc pm an cdv ct) ⟨[a,b,c],[]⟩=pure [(p,a),(q,b),(t,c)]:=by intros;rfl):D3 K mg x st [p,q,t]:=have F:=S.fn (x,st) (jL hj);⟨F.fn,F.m X G,zE F.fn hb⟩
theorem mG{α:Type}{l:List α}{a:α}(j:Nat)(h:l[j]?=some a:=by rfl):a∈l:=jL h
end
end Mi
namespace Mi
open PySem PySem.Spec PyProof.Rows L2
section
variable {X:Cx}{cA:Cl}
def zf6:dG X (.type "str") (λxs H Q=>∃i:Int,xs=[.int i]/\i.natAbs<2^62/\Q (.str (Str.ofString (toString i))) H):=by
 rintro ak s Z H xs us Q I r ⟨i,e,hi,q⟩;subst e;let⟨u,rfl,t,rfl⟩:=vals1 r;show str_of_int_fit (N:=4611686018427387904) (by split<;>omega) (Int.le_refl _) λ_=>⟨.str (Str.ofString (toString i)),H,I.tok _,⟨_,rfl⟩,q⟩
def zj2:aY X.K cA .str1 (λxs H Q=>∃i:Int,xs=[.int i]/\i.natAbs<2^62/\Q (.str (Str.ofString (toString i))) H):=by
 intro U H ds vs Q zt rs o;let o:aX X.K cA U H (jf ds) Q:=o;unfold jf at o;split at o
 .rename_i i _;let⟨v,rfl,r1⟩:=rs.one;cases r1;by_cases hk:i.natAbs<2^62
  .rw[if_pos hk]at o;show⟨i,rfl,hk,(o.of rfl).here (.str _)⟩
  .rw[if_neg hk]at o;show o.elim
 .exact o.elim
end
section
variable {X:Cx}{cA:Cl}{ao:Nat->Nat->Bool}{aj:Bool}{F:Fn}{EX:XS}{e:Expr}{pos p:Pos}{es:List Expr}{Xs:Es}{fz:Bool}
theorem K9(hm:X.mg "str"=none)(hg:JK X "str" .globalImplicit)(ha:JA X cA ao aj F EX (e::es) Xs)(he:aB e=true:=by rfl)(hpl:es.all aB=true:=by rfl):JE X cA ao aj F EX (.Call (.Name "str" p) (e::es) [] pos) (.pr fz .str1 Xs):=⟨Ko zf6 zj2 hg.o hm PyProof.Rows.boot_str ha.o W9 W9 (aQ he) (aR hpl)⟩
end
end Mi
namespace Mi
open PySem
def W{α:Type}(m:M α)(s:S)(P:α->S->Prop):Prop:=∃a s',m s=some (.ok a,s')/\P a s'
def WS(m:MS)(s:S)(Q:Out->S->Prop):Prop:=∃o s',m s=some (o,s')/\Q o s'
section
variable {α β:Type}{m:M α}{k:α->M β}{s:S}{P:α->S->Prop}{R:β->S->Prop}
def W.bd(h:W m s λa s'=>W (k a) s' R):W (M.bd m k) s R:=by
 let⟨a,s',e,b,s2,e2,r⟩:=h;show⟨b,s2,by unfold M.bd;rw[e];show e2,r⟩
theorem W.ret{a:α}(h:P a s):W (M.ret a) s P:=⟨a,s,rfl,h⟩
def W.qt(h:W m s P):W (M.qt m) s P:=by
 let⟨a,s',e,p⟩:=h;show⟨a,s',by unfold M.qt;rw[e],p⟩
def W.opt(e:o=some a)(h:P a s):W (M.opt o) s P:=by subst e;show⟨a,s,rfl,h⟩
theorem W.imp{P':α->S->Prop}(h:W m s P)(f:∀a s',P a s'->P' a s'):W m s P':=let ⟨a,s',e,p⟩:=h;⟨a,s',e,f a s' p⟩
theorem W.eq(e:m s=some (.ok a,s'))(p:P a s'):W m s P:=⟨a,s',e,p⟩
theorem lB{d:D}{P:D->S->Prop}(h:P d s):W (rd (.d d)) s P:=⟨d,s,rfl,h⟩
theorem KaV{n:Nat}{xs:List D}{P:D->S->Prop}(e:s[n]?=some (.lst xs))(h:P (.fl xs) s):W (rd (.l n)) s P:=⟨.fl xs,s,by unfold rd;simp only[e],h⟩
theorem Ep{P:List D->S->Prop}(h:P [] s):W (dH []) s P:=⟨[],s,rfl,h⟩
theorem tV{x:Xv}{r:List Xv}{P:List D->S->Prop}(h:W (rd x) s λd s1=>W (dH r) s1 λds s2=>P (d::ds) s2):W (dH (x::r)) s P:=W.bd (h.imp λd s1 h1=>W.bd (h1.imp λds s2 h2=>W.ret h2))
theorem Kap{P:List D->S->Prop}(h:P [] s):W (fP []) s P:=⟨[],s,rfl,h⟩
theorem Kao{d:D}{r:List Xv}{P:List D->S->Prop}(h:W (fP r) s λds s2=>P (d::ds) s2):W (fP (.d d::r)) s P:=W.bd (W.ret (W.bd (h.imp λds s2 h2=>W.ret h2)))
theorem W.dat{x:D}{P:D->S->Prop}(h:P x s):W (dat (.d x)) s P:=⟨x,s,rfl,h⟩
theorem W.bool{b:Bool}{P:Bool->S->Prop}(h:P b s):W (bool (.d (.bl b))) s P:=⟨b,s,rfl,h⟩
theorem W.int{b:Int}{P:Int->S->Prop}(h:P b s):W (int (.d (.int b))) s P:=⟨b,s,rfl,h⟩
def cJ{fz:Bool}{o:Option Rz}{d:D}{P:Xv->S->Prop}(e:o=some (.dat d))(h:P (.d d) s):W (bw fz o) s P:=by subst e;show⟨_,s,rfl,h⟩
def n8{o:Option Rz}{xs:List D}{P:Xv->S->Prop}(e:o=some (.nw xs))(h:P (.d (.fl xs)) s):W (bw true o) s P:=by subst e;show⟨_,s,rfl,h⟩
theorem KaL{xs:List D}{P:Xv->S->Prop}(h:P (.d (.fl xs)) s):W (newL true xs) s P:=⟨_,s,rfl,h⟩
theorem KaK{xs:List D}{P:Xv->S->Prop}(h:P (.l s.length) (s++[.lst xs])):W (newL false xs) s P:=⟨_,_,rfl,h⟩
def W.fH{F:List Xv->M Xv}{xs:List Xv}{P:Xv->S->Prop}(hl:locs xs=[])(h:W (F (eG 0 xs)) [] λv _=>∃d,v=.d d/\P (.d d) s):W (cP F xs) s P:=by
 let⟨v,s1,e,d,rfl,p⟩:=h;show⟨.d d,s,?_,p⟩;unfold cP;rw[hl,if_pos Gm];simp only[jg,e,dh]
def Kaj{F:List Xv->M Xv}{xs:List Xv}{P:Xv->S->Prop}(hl:locs xs=[])(h:W (F (eG 0 xs)) [] λv s1=>∃n o,v=.l n/\s1[n]?=some o/\P (.l s.length) (s++[o])):W (cP F xs) s P:=by
 let⟨v,s1,e,n,o,rfl,eo,p⟩:=h;show⟨.l s.length,s++[o],?_,p⟩;unfold cP;rw[hl,if_pos Gm];simp only[jg,e,dh,List.getElem?_nil,eo]
def Kak{F:List Xv->M Xv}{xs:List Xv}{n:Nat}{o:SO}{P:Xv->S->Prop}(hl:locs xs=[n])(ho:s[n]?=some o)(h:W (F (eG 0 xs)) [o] λv s1=>∃d o',v=.d d/\s1=[o']/\P (.d d) (s.set n o')):W (cP F xs) s P:=by
 let⟨v,s1,e,d,o',rfl,rfl,p⟩:=h;show⟨.d d,s.set n o',?_,p⟩;unfold cP;rw[hl,if_pos Zaa];simp only[jg,ho,e,dh]
end
section
variable {s:S}{Q:Out->S->Prop}
def WS.bH(h:WS m s λo s'=>∃J,o=.nx J/\WS (k J) s' Q):WS (bH m k) s Q:=by
 let⟨o,s',e,J,rfl,o2,s2,e2,q⟩:=h;show⟨o2,s2,by unfold Mi.bH;rw[e];show e2,q⟩
def WS.ofM(h:W m s λa s'=>WS (k a) s' Q):WS (Mi.ofM m J k) s Q:=by
 let⟨a,s',e,o,s2,e2,q⟩:=h;show⟨o,s2,by unfold Mi.ofM;rw[e];show e2,q⟩
theorem WS.nx(h:Q (.nx J) s):WS (λs=>some (.nx J,s)) s Q:=⟨_,s,rfl,h⟩
theorem WS.rt(h:Q (.rt x) s):WS (λs=>some (.rt x,s)) s Q:=⟨_,s,rfl,h⟩
theorem WS.imp(h:WS m s Q)(f:∀o s',Q o s'->Q' o s'):WS m s Q':=let ⟨a,s',e,p⟩:=h;⟨a,s',e,f a s' p⟩
end
def W.call(hT:T f=some d)(hl:xs.length=d.iC)
  (h:WS (exs ao aj (λc=>Mi.call ao T k c) d.body (xs.map some++List.replicate (d.many-d.iC) none)) s λo s'=>match o with|.nx _=>P (.d .non) s'|.rt v=>P v s'|_=>False):W (Mi.call ao T (k+1) aj f xs) s P:=by
 let⟨o,s',e,q⟩:=h;unfold Mi.call;simp only[hT,if_pos hl];unfold W;simp only[e];cases o with
 |nx J=>show⟨_,_,rfl,q⟩|rt v=>show⟨_,_,rfl,q⟩|bk J=>show q.elim|ct J=>show q.elim|er c fs J=>show q.elim
def Bf(I:Nat->Vs->S->Prop)(h0:I 0 J s)(hb:∀i x J s,c[i]?=some x->I i J s->WS (b x J) s λo s'=>∃J',o=.nx J'/\I (i+1) J' s')
  (he:∀J s,I c.length J s->Q (.nx J) s):WS (cI (.fix c) b (c.length+1) 0 J) s Q:=by
 let key:∀n i J s,i+n=c.length->I i J s->WS (cI (.fix c) b (n+1) i J) s Q:=by
  intro n
  induction n with
  |zero=>
   intro i J s hi hI;let e:c[i]?=none:=by rw[pA];lia
   let:i=c.length:=by omega
   subst this;show⟨_,s,?_,he J s hI⟩;unfold cI;simp only[Src.at,e]
  |succ n ih=>
   intro i J s hi hI;let hlt:i<c.length:=by lia
   let e:c[i]?=some c[i]:=fV hlt;let⟨o,s',eb,J',rfl,Er⟩:=hb i c[i] J s e hI;let⟨o2,s2,e2,q⟩:=ih (i+1) J' s' gV Er;show⟨o2,s2,?_,q⟩;unfold cI;simp only[Src.at,e,eb];show e2
 show key c.length 0 J s gV h0
def zot{i j:Int}(h:(-(2^64)<i/\i<2^64)\/(-(2^64)<j/\j<2^64)):prim .mul [.int i,.int j]=some (.dat (.int (i*j))):=by
 change Option.map _ (if _ then _ else _)=_;rw[if_pos h];rfl
def zoe{i j:Int}(h:0<j):prim .mod [.int i,.int j]=some (.dat (.int (i%j))):=by
 change Option.map _ (if _ then _ else _)=_;rw[if_pos h];rfl
def zn5{i j:Int}(h:0<j/\j<1073741824):prim .fdiv [.int i,.int j]=some (.dat (.int (i/j))):=by
 change Option.map _ (if _ then _ else _)=_;rw[if_pos h];rfl
def zhZ{i j:Int}(h:0<j/\j<1073741824):prim .divmod [.int i,.int j]=some (.dat (.tup [.int (i/j),.int (i%j)])):=by
 change Option.map _ (if _ then _ else _)=_;rw[if_pos h];rfl
def zo3{i j:Int}(h:0<=j/\j<=1000000/\i.natAbs<2^64):prim .pow [.int i,.int j]=some (.dat (.int (i^j.toNat))):=by
 change Option.map _ (if _ then _ else _)=_;rw[if_pos h];rfl
def Bg{xs:List D}{i:Nat}{x:D}(h:xs[i]?=some x):prim .ix [.fl xs,.int i]=some (.dat x):=by
 change Option.map Rz.dat (L2.qW xs i)=_;let:L2.qW xs (i:Int)=some x:=by
  unfold L2.qW L2.lX;let hl:i<xs.length:=(jr.mp h).1;simp[hl];show(jr.mp h).2
 rw[this];rfl
def tW(h:xs.length+ys.length<=sizeLine):prim .add [.fl xs,.fl ys]=some (.nw (xs++ys)):=by
 change (if _ then _ else _)=_;rw[if_pos h]
def W.ite[Decidable c](h1:c->W m1 s P)(h2:¬c->W m2 s P):W (if c then m1 else m2) s P:=by
 by_cases h:c
 .rw[if_pos h];show h1 h
 .rw[if_neg h];show h2 h
def WS.ite[Decidable c](h1:c->WS m1 s P)(h2:¬c->WS m2 s P):WS (if c then m1 else m2) s P:=by
 by_cases h:c
 .rw[if_pos h];show h1 h
 .rw[if_neg h];show h2 h
theorem VN{n:Nat}{xs:List D}{s:S}{P:Unit->S->Prop}(h:P () (s.set n (.lst xs))):W (putL n xs) s P:=⟨_,_,rfl,h⟩
theorem W.cZ{n:Nat}{xs:List D}{s:S}{P:Nat×List D->S->Prop}(e:s[n]?=some (.lst xs))(h:P (n,xs) s):W (cZ (.l n)) s P:=⟨_,s,by unfold Mi.cZ;simp only[e],h⟩
theorem KaZ{xs:List D}{s:S}{P:Src×Nat->S->Prop}(h:P (.fix xs,xs.length) s):W (src (.d (.tup xs))) s P:=⟨_,s,rfl,h⟩
theorem KaY{xs:List D}{s:S}{P:Src×Nat->S->Prop}(h:P (.fix xs,xs.length) s):W (src (.d (.fl xs))) s P:=⟨_,s,rfl,h⟩
theorem WS.nil{ao:Nat->Nat->Bool}{aj:Bool}{F:Bool->Fn}{J:Vs}{s:S}{Q:Out->S->Prop}(h:Q (.nx J) s):WS (exs ao aj F .nil J) s Q:=⟨_,s,rfl,h⟩
def WS.cons{ao:Nat->Nat->Bool}{aj:Bool}{F:Bool->Fn}{a:St}{r:cg}{J:Vs}{s:S}{Q:Out->S->Prop}(h:WS (ex ao aj F a J) s λo s'=>match o with|.nx J'=>WS (exs ao aj F r J') s' Q|.rt x=>Q (.rt x) s'|_=>False):WS (exs ao aj F (.cons a r) J) s Q:=by
 let⟨o,s',e,q⟩:=h;unfold WS exs Mi.bH;rw[e];cases o with
 |nx J'=>show q|rt x=>show⟨_,_,rfl,q⟩|bk _=>show q.elim|ct _=>show q.elim|er _ _ _=>show q.elim
def rK{α:Type}(o:Option α)(P:α->Prop):Prop:=∃a,o=some a/\P a
theorem rK.mk{α:Type}{o:Option α}{P:α->Prop}{a:α}(e:o=some a)(h:P a):rK o P:=⟨a,e,h⟩
section
variable {ao:Nat->Nat->Bool}{aj:Bool}{F:Fn}{J:Vs}{s:S}{P:Xv->S->Prop}
theorem W.eC{d:D}(h:P (.d d) s):W (ev ao aj F (.c d) J) s P:=W.ret h
theorem W.eV{i:Nat}{x:Xv}(e:J[i]?.join=some x)(h:P x s):W (ev ao aj F (.v i) J) s P:=W.opt e h
theorem VP{fz:Bool}{p:Pr}{xs:Es}(h:W (evs ao aj F xs J) s λvs s1=>W (dH vs) s1 λds s2=>W (bw fz (prim p ds)) s2 P):W (ev ao aj F (.pr fz p xs) J) s P:=W.bd (h.imp λ_ _ h=>W.bd h)
theorem Kar{a b:E}(h:W (ev ao aj F a J) s λx s1=>W (Mi.bool x) s1 λk s2=>W (if k=true then ev ao aj F b J else M.ret (.d (.bl false))) s2 P):W (ev ao aj F (.and a b) J) s P:=W.bd (h.imp λ_ _ h=>W.bd h)
theorem VR{a b:E}(h:W (ev ao aj F a J) s λx s1=>W (Mi.bool x) s1 λk s2=>W (if k=true then M.ret (.d (.bl true)) else ev ao aj F b J) s2 P):W (ev ao aj F (.or a b) J) s P:=W.bd (h.imp λ_ _ h=>W.bd h)
theorem V0{a:E}(h:W (ev ao aj F a J) s λx s1=>W (Mi.bool x) s1 λk s2=>P (.d (.bl (!k))) s2):W (ev ao aj F (.not a) J) s P:=W.bd (h.imp λ_ _ h=>W.bd (h.imp λ_ _ h=>W.ret h))
theorem KaD{xs:Es}(h:W (evs ao aj F xs J) s λvs s1=>W (fP vs) s1 λds s2=>P (.d (.tup ds)) s2):W (ev ao aj F (.tup xs) J) s P:=W.bd (h.imp λ_ _ h=>W.bd (h.imp λ_ _ h=>W.ret h))
theorem Kax{fz:Bool}{xs:Es}(h:W (evs ao aj F xs J) s λvs s1=>W (fP vs) s1 λds s2=>W (newL fz ds) s2 P):W (ev ao aj F (.lst fz xs) J) s P:=W.bd (h.imp λ_ _ h=>W.bd h)
theorem Kau{k:Str}{i:Int}(h:P (.d (.fd [.str k] [.int i])) s):W (ev ao aj F (.vB k i) J) s P:=W.ret h
theorem Kas{f:Nat}{xs:Es}(h:W (evs ao aj F xs J) s λvs s1=>W (cP (F f) vs) s1 P):W (ev ao aj F (.call f xs) J) s P:=W.bd h
theorem KaC{fz:Bool}{a:E}{lo hi:Eo}(h:W (ev ao aj F a J) s λx s1=>W (yW ao aj F lo J) s1 λl s2=>W (yW ao aj F hi J) s2 λu s3=>W (rd x) s3 λd s4=>W (bw fz (cutD d l u)) s4 P):W (ev ao aj F (.sl fz a lo hi) J) s P:=W.bd (h.imp λ_ _ h=>W.bd (h.imp λ_ _ h=>W.bd (h.imp λ_ _ h=>W.bd h)))
theorem KaM{P:Option Int->S->Prop}(h:P none s):W (yW ao aj F .no J) s P:=W.ret h
theorem KaN{a:E}{P:Option Int->S->Prop}(h:W (ev ao aj F a J) s λx s1=>W (Mi.int x) s1 λi s2=>P (some i) s2):W (yW ao aj F (.yes a) J) s P:=W.bd (h.imp λ_ _ h=>W.bd (h.imp λ_ _ h=>W.ret h))
theorem Kag{P:List Xv->S->Prop}(h:P [] s):W (evs ao aj F .nil J) s P:=W.ret h
theorem V1{a:E}{r:Es}{P:List Xv->S->Prop}(h:W (ev ao aj F a J) s λx s1=>W (evs ao aj F r J) s1 λxs s2=>P (x::xs) s2):W (evs ao aj F (.cons a r) J) s P:=W.bd (h.imp λ_ _ h=>W.bd (h.imp λ_ _ h=>W.ret h))
theorem KaI{a:E}{P:Src×Nat->S->Prop}(h:W (ev ao aj F a J) s λx s1=>W (src x) s1 P):W (oR ao aj F (.seq a) J) s P:=W.bd h
end
section
variable {ao:Nat->Nat->Bool}{aj:Bool}{F:Bool->Fn}{J:Vs}{s:S}{Q:Out->S->Prop}
def WS.V2{b:Bool}{m1 m2:MS}(e:b=true)(h:WS m1 s Q):WS (if b=true then m1 else m2) s Q:=by rw[if_pos e];show h
def WS.V3{b:Bool}{m1 m2:MS}(e:b=false)(h:WS m2 s Q):WS (if b=true then m1 else m2) s Q:=by rw[if_neg (by rw[e];decide)];show h
def WS.qD{m1 m2:MS}(h:WS m1 s Q):WS (if true=true then m1 else m2) s Q:=by rw[if_pos rfl];show h
def WS.Et{m1 m2:MS}(h:WS m2 s Q):WS (if false=true then m1 else m2) s Q:=by rw[if_neg W9];show h
theorem Kbe{e:E}(h:W (ev ao aj (F aj) e J) s λ_ s1=>Q (.nx J) s1):WS (ex ao aj F (.ex e) J) s Q:=WS.ofM (h.imp λ_ _ h=>WS.nx h)
theorem PK{i:Nat}{e:E}(h:W (ev ao aj (F aj) e J) s λx s1=>Q (.nx (J.set i (some x))) s1):WS (ex ao aj F (.asg (.nm i) e) J) s Q:=WS.ofM (h.imp λ_ _ h=>WS.nx h)
def V4{is:List Nat}{e:E}(h:W (ev ao true (F true) e J) s λx s1=>W (dat x) s1 λd s2=>rK ((jD d).bind λds=>fu is (ds.map .d) J) λJ'=>Q (.nx J') s2):WS (ex ao true F (.asg (.tp is) e) J) s Q:=by
 show WS.ofM (h.imp λx s1 h=>?_);show WS.qD (m2:=λ_=>none) (WS.ofM (W.bd (h.imp λd s2 ⟨J',e,q⟩=>W.opt e (WS.nx q))))
def Kbm{o i e:E}(h:W (ev ao aj (F aj) e J) s λx s1=>W (dat x) s1 λd s2=>W (ev ao aj (F aj) o J) s2 λy s3=>W (ev ao aj (F aj) i J) s3 λz s4=>W (Mi.int z) s4 λj s5=>W (cZ y) s5 λnx s6=>rK (L2.lX nx.2.length j) λq=>Q (.nx J) (s6.set nx.1 (.lst (nx.2.set q d)))):WS (ex ao aj F (.asg (.ao o i) e) J) s Q:=by
 show WS.ofM (h.imp λx s1 h=>WS.ofM (W.bd (h.imp λd s2 h=>W.bd (h.imp λy s3 h=>W.bd (h.imp λz s4 h=>W.bd (h.imp λj s5 h=>W.bd (h.imp λnx s6 h=>?_)))))));let⟨q,e,h⟩:=h;simp only[e];show VN (WS.nx h)
def Kbi{i j:Nat}{a b:E}(h:W (ev ao true (F true) a J) s λx s1=>W (ev ao true (F true) b J) s1 λy s2=>Q (.nx ((J.set i (some x)).set j (some y))) s2):WS (ex ao true F (.par i j a b) J) s Q:=by
 show WS.qD (m2:=λ_=>none) (WS.ofM (W.bd (h.imp λx s1 h=>W.bd (h.imp λy s2 h=>W.ret (WS.nx h)))))
theorem Kbj{e:E}(h:W (ev ao aj (F aj) e J) s λx s1=>Q (.rt x) s1):WS (ex ao aj F (.ret e) J) s Q:=WS.ofM (h.imp λ_ _ h=>WS.rt h)
theorem K_{c:E}{t e:cg}(h:W (ev ao aj (F aj) c J) s λx s1=>W (Mi.bool x) s1 λb s2=>WS (if b=true then exs ao aj F t J else exs ao aj F e J) s2 Q):WS (ex ao aj F (.iff c t e) J) s Q:=WS.ofM (W.bd h)
def Kbf{t:Tg}{w:Wk}{b:cg}(h:W (oR ao true (F true) w J) s λcn s1=>WS (cI cn.1 (λd J=>Mi.bH (store ao true (F true) t (.d d) J) λJ'=>exs ao true F b J') (cn.2+1) 0 J) s1 Q):WS (ex ao true F (.fr t w b) J) s Q:=by
 show WS.qD (m2:=λ_=>none) (WS.ofM h)
end
def W.V2{α:Type}{b:Bool}{m1 m2:M α}{s:S}{P:α->S->Prop}(e:b=true)(h:W m1 s P):W (if b=true then m1 else m2) s P:=by rw[if_pos e];show h
def W.V3{α:Type}{b:Bool}{m1 m2:M α}{s:S}{P:α->S->Prop}(e:b=false)(h:W m2 s P):W (if b=true then m1 else m2) s P:=by rw[if_neg (by rw[e];decide)];show h
def W.qD{α:Type}{m1 m2:M α}{s:S}{P:α->S->Prop}(h:W m1 s P):W (if true=true then m1 else m2) s P:=by rw[if_pos rfl];show h
def W.Et{α:Type}{m1 m2:M α}{s:S}{P:α->S->Prop}(h:W m2 s P):W (if false=true then m1 else m2) s P:=by rw[if_neg W9];show h
structure Bx(R:Prop):Prop where
 o:R
end Mi
namespace Mi
open PySem PySem.W PyProof.Rows L2
abbrev cG(n:Nat)(p:Array Nat):Prop:=p.Perm (List.range n).toArray
def cG.lt(h:cG n p)(hn:0<n)(i:Nat):p.getD i 0<n:=by
 by_cases hi:i<p.size
 .let e:p.getD i 0=p[i]:=by simp[Array.getD,hi]
  rw[e];let hm:p[i]∈(List.range n).toArray:=h.mem_iff.mp (Array.getElem_mem hi);simpa using hm
 .let e:p.getD i 0=0:=by simp[Array.getD,hi]
  rw[e];show hn
theorem cG.rev(h:cG n p)(i j:Nat):cG n (kas_rev p i j):=(mirror_perm p i j _).trans h
theorem cG.bub(h:cG n p)(i j:Nat):cG n (bubble p i j):=(bubble_perm p i j).trans h
def jY{α:Type}(lt:Nat->Nat->Option Bool)(t:KasT α)(P:α->Prop):Prop:=∃a,bZ lt t=some a/\P a
section
variable {α β:Type}{lt:Nat->Nat->Option Bool}{n:Nat}
theorem jY.ret(h:P a):jY lt (.ret a) P:=⟨a,rfl,h⟩
theorem jY.bind(hf:∀a,P a->jY lt (f a) R):∀{t:KasT α},jY lt t P->jY lt (t.bind f) R
 |.ret a,⟨a',e,h⟩=>by cases e;show hf _ h|.ask i j k,⟨a',e,h⟩=>by
  unfold bZ at e;cases el:lt i j with
  |none=>rw[el]at e;cases e|some b=>
   rw[el]at e;let⟨c,e1,h1⟩:=jY.bind hf (t:=k b) ⟨a',e,h⟩;show⟨c,?_,h1⟩;change bZ lt (.ask i j λb=>(k b).bind f)=some c;unfold bZ;rw[el];show e1
def Tot(n:Nat)(lt:Nat->Nat->Option Bool):Prop:=∀i j,i<n->j<n->∃b,lt i j=some b
variable (ht:Tot n lt)(hn:0<n)
include ht hn
end
def bV(p:Int×Int):D:=.tup [.int p.1,.int p.2]
end Mi
namespace Mi
open PySem
def W.walk{c:List D}{f:D->List D->M (List D)}{s:S}{acc:List D}{P:List D->S->Prop}(I:Nat->List D->S->Prop)(h0:I 0 acc s)(hb:∀i x acc s,c[i]?=some x->I i acc s->W (f x acc) s λa s'=>I (i+1) a s')
  (he:∀acc s,I c.length acc s->P acc s):W (Mi.walk (.fix c) f (c.length+1) 0 acc) s P:=by
 let key:∀n i acc s,i+n=c.length->I i acc s->W (Mi.walk (.fix c) f (n+1) i acc) s P:=by
  intro n
  induction n with
  |zero=>
   intro i acc s hi hI;let e:c[i]?=none:=by rw[pA];lia
   let:i=c.length:=by omega
   subst this;show⟨acc,s,?_,he acc s hI⟩;unfold Mi.walk;simp only[Src.at,e]
  |succ n ih=>
   intro i acc s hi hI;let hlt:i<c.length:=by lia
   let e:c[i]?=some c[i]:=fV hlt;let⟨a,s',eb,Er⟩:=hb i c[i] acc s e hI;let⟨a2,s2,e2,q⟩:=ih (i+1) a s' gV Er;show⟨a2,s2,?_,q⟩;unfold Mi.walk;simp only[Src.at,e,M.bd,eb];show e2
 show key c.length 0 acc s gV h0
section
variable {ao:Nat->Nat->Bool}{aj:Bool}{F:Fn}{J:Vs}{s:S}{P:Xv->S->Prop}
theorem Kav(h:W (ev ao aj F a J) s λx s1=>W (rd x) s1 λd s2=>∃b,jB ao d k=some b/\P (.d (.bl b)) s2):W (ev ao aj F (.eY a k) J) s P:=
 W.bd (h.imp λ_ _ h=>W.bd (h.imp λ_ _ ⟨_,e,h⟩=>W.bd (W.opt e (W.ret h))))
theorem Kat(h:W (ev ao aj F a J) s λx s1=>W (ev ao aj F b J) s1 λy s2=>W (dH [x,y]) s2 λds s3=>W (bw true (prim p ds)) s3 λt s4=>W (Mi.bool t) s4 λk s5=>
  W (if k=true then M.bd (ev ao aj F c J) λz=>M.bd (dH [y,z]) λds=>bw true (prim q ds) else M.ret (.d (.bl false))) s5 P):W (ev ao aj F (.ux p q a b c) J) s P:=
 W.bd (h.imp λ_ _ h=>W.bd (h.imp λ_ _ h=>W.bd (h.imp λ_ _ h=>W.bd (h.imp λ_ _ h=>W.bd h))))
end
def Ld(fz:Bool):Option Rz->Option Xv
 |some (.dat d)=>some (.d d)|some (.nw ys)=>match fz with
  |true=>some (.d (.fl ys))|false=>none
 |none=>none
def addQ:D->D->Option Rz
 |.int i,.int j=>some (.dat (.int (i+j)))|_,_=>none
def Bh:List D->Option Rz
 |a::r=>match r with
  |b::r=>match r with
   |[]=>addQ a b|_::_=>none
  |[]=>none
 |[]=>none
def quick:Pr->Bool
 |.mul=>false|.fdiv=>false|.mod=>false|.pow=>false|.divmod=>false|.eZ=>false|.str1=>false|_=>true
def rM(p:Pr)(ds:List D):Option Rz:=match p with
 |.add=>Bh ds|p=>match quick p with
  |true=>prim p ds|false=>none
def Le{ds:List D}{r:Rz}(h:Bh ds=some r):vC ds=some r:=by
 cases ds with
 |nil=>cases h|cons a t=>cases t with
  |nil=>cases h|cons b t=>cases t with
   |cons _ _=>cases h|nil=>cases a with
    |int i=>cases b with
     |int j=>show h|_=>cases h
    |_=>cases h
def Eu{p:Pr}{ds:List D}{r:Rz}(h:rM p ds=some r):prim p ds=some r:=by
 cases p with
 |add=>show Le h|_=>first|exact h|cases h
def V5(fz:Bool)(ds:List D):Option Xv:=match fz with
 |true=>some (.d (.fl ds))|false=>none
def Lf:Xv->Option D
 |.d x=>some x|.l _=>none
def obP(c:Nat):Xv->Option (List D)
 |.d (.ob e fs)=>if e=c then some fs else none|_=>none
def notP:Xv->Option Xv
 |.d (.bl b)=>some (.d (.bl (!b)))|_=>none
def V6(r:Option Xv):Xv->Option Xv
 |.d (.bl true)=>r|.d (.bl false)=>some (.d (.bl false))|_=>none
def orP(r:Option Xv):Xv->Option Xv
 |.d (.bl true)=>some (.d (.bl true))|.d (.bl false)=>r|_=>none
section
variable (ao:Nat->Nat->Bool)
mutual
noncomputable def gW:E->Vs->Option Xv
 |.c d,_=>some (.d d)|.v i,J=>J[i]?.join|.pr fz p xs,J=>(qF xs J).bind λds=>Ld fz (rM p ds)|.tup xs,J=>(qF xs J).bind λds=>some (.d (.tup ds))|.lst fz xs,J=>(qF xs J).bind λds=>V5 fz ds|.not a,J=>(gW a J).bind notP|.and a b,J=>(gW a J).bind (V6 (gW b J))|.or a b,J=>(gW a J).bind (orP (gW b J))|.eY a k,J=>(gW a J).bind λx=>(Lf x).bind λd=>(jB ao d k).bind λb=>some (.d (.bl b))|.of o c i,J=>(gW o J).bind λx=>(obP c x).bind λfs=>fs[i]?.map .d|_,_=>none
noncomputable def qF:Es->Vs->Option (List D)
 |.nil,_=>some []|.cons a r,J=>(gW a J).bind λx=>(Lf x).bind λd=>(qF r J).bind λds=>some (d::ds)
end
def rN:Es->Vs->Option (List Xv)
 |.nil,_=>some []|.cons a r,J=>(gW ao a J).bind λx=>(rN r J).bind λxs=>some (x::xs)
end
theorem nA{α β:Type}{o:Option α}{f:α->Option β}{b:β}(h:o.bind f=some b):∃a,o=some a/\f a=some b:=qM.mp h
def jJ{α β:Type}{m:M α}{k:α->M β}{s s':S}{a:α}(e:m s=some (.ok a,s')):M.bd m k s=k a s':=by
 change (match m s with|some (.ok a,s')=>k a s'|some (.er c f,s')=>some (.er c f,s')|none=>none)=_;rw[e]
theorem Ew(s:S):∀ds:List D,dH (ds.map .d) s=some (.ok ds,s)
 |[]=>rfl|d::r=>(jJ (s':=s) (a:=d) rfl).trans ((jJ (Ew s r)).trans rfl)
theorem vZ(s:S):∀ds:List D,fP (ds.map .d) s=some (.ok ds,s)
 |[]=>rfl|d::r=>(jJ (s':=s) (a:=d) rfl).trans ((jJ (vZ s r)).trans rfl)
def V7{fz:Bool}{p:Pr}{ds:List D}{x:Xv}{s:S}(h:Ld fz (rM p ds)=some x):bw fz (prim p ds) s=some (.ok x,s):=by
 cases o:rM p ds with
 |none=>rw[o]at h;cases h|some r=>
  rw[o]at h;rw[Eu o];cases r with
  |dat d=>cases h;rfl|nw ys=>cases fz with
   |true=>cases h;rfl|false=>cases h
section
variable {ao:Nat->Nat->Bool}{aj:Bool}{F:Fn}{J:Vs}{s:S}
def v7(e:E):∀x:Xv,gW ao e J=some x->ev ao aj F e J s=some (.ok x,s):=by
 show E.rec (motive_1:=λe=>∀x:Xv,gW ao e J=some x->ev ao aj F e J s=some (.ok x,s)) (motive_2:=λ_=>True) (motive_3:=λxs=>∀ds:List D,qF ao xs J=some ds->evs ao aj F xs J s=some (.ok (ds.map .d),s)) (motive_4:=λ_=>True)
  ?c ?v ?pr (λ_ _ _ _ _ _ _ _ _ h=>nomatch h) (λ_ _ _ _ _ _ _ _ _ _ _ _ h=>nomatch h) ?and ?or ?not (λ_ _ _ _ _ _ _ h=>nomatch h) ?tup ?lst (λ_ _ _ h=>nomatch h) (λ_ _ _ _ h=>nomatch h) ?eY (λ_ _ _ _ _ _ _ _ h=>nomatch h) (λ_ _ _ _ _ _ _ _ h=>nomatch h) (λ_ _ _ _ _ h=>nomatch h) (λ_ _ _ h=>nomatch h)
  (λ_ _ _ _ _ _ _ _ _ _ _ h=>nomatch h) (λ_ _ _ _ _ _ _ _ _ _ _ _ _ _ h=>nomatch h) (λ_ _ _ _ _ h=>nomatch h) ?of (λ_ _ _ _ _ h=>nomatch h) (λ_ _ _ _ _ _ _ h=>nomatch h) (λ_ h=>nomatch h) (λ_ _ _ _ _ _ h=>nomatch h) (λ_ _ _ _ _ h=>nomatch h) (λ_ _ _ h=>nomatch h) (λ_ _ _ _ _ _ h=>nomatch h) (λ_ _ _ _ _ h=>nomatch h) (λ_ _ _ _ _ _ _ h=>nomatch h) (λ_ _ _ h=>nomatch h) (λ_ _ _ h=>nomatch h) (λ_ _ _ _ _ _ _ _ _ _ _ _ h=>nomatch h) (λ_ h=>nomatch h)
  (λ_ _=>trivial) (λ_ _ _ _=>trivial) (λ_ _ _ _=>trivial) (λ_ _ _ _=>trivial) (λ_ _=>trivial) (λ_ _=>trivial) ?nil ?cons trivial (λ_ _=>trivial) e
 case c=>intro d x h;cases h;rfl
 case v=>intro i x h;show(show M.opt (J[i]?.join) s=_ from by rw[show J[i]?.join=some x from h];rfl)
 case pr=>
  intro fz p xs ih x h;let⟨ds,e1,e2⟩:=nA h;show(jJ (ih _ e1)).trans ((jJ (Ew s ds)).trans (V7 e2))
 case tup=>
  intro xs ih x h;let⟨ds,e1,e2⟩:=nA h;cases e2;show(jJ (ih _ e1)).trans ((jJ (vZ s ds)).trans rfl)
 case lst=>
  intro fz xs ih x h;let⟨ds,e1,e2⟩:=nA h;cases fz with
  |false=>cases e2|true=>cases e2;show(jJ (ih _ e1)).trans ((jJ (vZ s ds)).trans rfl)
 case not=>
  intro a ih x h;let⟨y,e1,e2⟩:=nA h;cases y with
  |l n=>cases e2|d y=>cases y with
   |bl b=>cases e2;show(jJ (ih _ e1)).trans rfl|_=>cases e2
 case and=>
  intro a b ih ih2 x h;let⟨y,e1,e2⟩:=nA h;cases y with
  |l n=>cases e2|d y=>cases y with
   |bl b=>cases b with
    |true=>show(jJ (ih _ e1)).trans (ih2 _ e2)|false=>cases e2;show(jJ (ih _ e1)).trans rfl
   |_=>cases e2
 case or=>
  intro a b ih ih2 x h;let⟨y,e1,e2⟩:=nA h;cases y with
  |l n=>cases e2|d y=>cases y with
   |bl b=>cases b with
    |true=>cases e2;show(jJ (ih _ e1)).trans rfl|false=>show(jJ (ih _ e1)).trans (ih2 _ e2)
   |_=>cases e2
 case eY=>
  intro a k ih x h;let⟨y,e1,e2⟩:=nA h;cases y with
  |l n=>cases e2|d y=>
   let⟨d,e3,e4⟩:=nA e2;cases e3;let⟨b,e5,e6⟩:=nA e4;cases e6;show(jJ (ih _ e1)).trans ((jJ (s':=s) (a:=y) rfl).trans ((jJ (s':=s) (a:=b) ?_).trans rfl));rw[e5];rfl
 case of=>
  intro o c i ih x h;let⟨y,e1,e2⟩:=nA h;let⟨fs,e3,e4⟩:=nA e2;show(jJ (ih _ e1)).trans ((jJ (s':=s) (a:=fs) ?_).trans ?_)
  .cases y with
   |l n=>cases e3|d y=>cases y with
    |ob e gs=>
     let e3:(if e=c then some gs else none)=some fs:=e3;change (if e=c then M.ret gs else M.no) s=_;split at e3
     .rename_i h;cases e3;rw[if_pos h];rfl
     .cases e3
    |_=>cases e3
  .show M.opt (fs[i]?.map Xv.d) s=_;rw[e4];rfl
 case nil=>intro ds h;cases h;rfl
 case cons=>
  intro a r ih ih2 ds h;let⟨y,e1,e2⟩:=nA h;cases y with
  |l n=>cases e2|d y=>
   let⟨d,e3,e4⟩:=nA e2;cases e3;let⟨rs,e5,e6⟩:=nA e4;cases e6;show(jJ (ih _ e1)).trans ((jJ (ih2 _ e5)).trans rfl)
theorem v8:∀(xs:Es) (ds:List D),qF ao xs J=some ds->evs ao aj F xs J s=some (.ok (ds.map .d),s)
 |.nil,ds,h=>by cases h;rfl|.cons a r,ds,h=>by
  let⟨y,e1,e2⟩:=nA h;cases y with
  |l n=>cases e2|d y=>
   let⟨d,e3,e4⟩:=nA e2;cases e3;let⟨rs,e5,e6⟩:=nA e4;cases e6;show(jJ (v7 a _ e1)).trans ((jJ (v8 r _ e5)).trans rfl)
theorem nD:∀(xs:Es) {vs:List Xv},rN ao xs J=some vs->evs ao aj F xs J s=some (.ok vs,s)
 |.nil,vs,h=>by cases h;rfl|.cons a r,vs,h=>by
  let⟨y,e1,e2⟩:=nA h;let⟨ys,e3,e4⟩:=nA e2;cases e4;show(jJ (v7 a _ e1)).trans ((jJ (nD r e3)).trans rfl)
variable {P:Xv->S->Prop}
theorem W.pv{e:E}{x:Xv}(h:gW ao e J=some x)(k:P x s):W (ev ao aj F e J) s P:=W.eq (v7 e _ h) k
theorem KaS{f:Nat}{xs:Es}{vs:List Xv}(h:rN ao xs J=some vs)(k:W (cP (F f) vs) s P):W (ev ao aj F (.call f xs) J) s P:=Kas (W.eq (nD xs h) k)
theorem KaT{fz:Bool}{p:Pr}{xs:Es}{ds:List D}(h:qF ao xs J=some ds)(k:W (bw fz (prim p ds)) s P):W (ev ao aj F (.pr fz p xs) J) s P:=VP (W.eq (v8 xs _ h) (W.eq (Ew s ds) k))
theorem G7{xs:Es}{vs:List Xv}{P:List Xv->S->Prop}(h:rN ao xs J=some vs)(k:P vs s):W (evs ao aj F xs J) s P:=W.eq (nD xs h) k
end
section
variable {ao:Nat->Nat->Bool}{aj:Bool}{F:Bool->Fn}{J:Vs}{s:S}{Q:Out->S->Prop}{e:E}{r:cg}
theorem Kbb{i:Nat}{x:Xv}(h:gW ao e J=some x)(k:WS (exs ao aj F r (J.set i (some x))) s Q):WS (exs ao aj F (.cons (.asg (.nm i) e) r) J) s Q:=WS.cons (PK (W.pv h k))
theorem Kbc{x:Xv}(h:gW ao e J=some x)(k:Q (.rt x) s):WS (exs ao aj F (.cons (.ret e) r) J) s Q:=WS.cons (Kbj (W.pv h k))
theorem Kba{b:Bool}{t u:cg}(h:gW ao e J=some (.d (.bl b)))(k:WS (if b=true then exs ao aj F t J else exs ao aj F u J) s λo s'=>match o with|.nx J'=>WS (exs ao aj F r J') s' Q|.rt x=>Q (.rt x) s'|_=>False):WS (exs ao aj F (.cons (.iff e t u) r) J) s Q:=WS.cons (K_ (W.pv h (W.bool k)))
end
def WR{α:Type}(m:M α)(s:S)(c:Nat)(fs:List D):Prop:=∃s',m s=some (.er c fs,s')
section
variable {α β:Type}{m:M α}{k:α->M β}{s:S}{c:Nat}{fs:List D}
def PL(h:W m s λa s'=>WR (k a) s' c fs):WR (M.bd m k) s c fs:=by
 let⟨a,s',e,s2,e2⟩:=h;show⟨s2,by unfold M.bd;rw[e];show e2⟩
def WR.fH{F:List Xv->M Xv}{xs:List Xv}(hl:locs xs=[])(h:WR (F (eG 0 xs)) [] c fs):WR (cP F xs) s c fs:=by
 let⟨s1,e⟩:=h;show⟨s,?_⟩;unfold cP;rw[hl,if_pos Gm];simp only[jg,e,dh]
end
def WR.call{ao:Nat->Nat->Bool}{T:Nat->Option Df}{k f:Nat}{aj:Bool}{xs:List Xv}{s:S}{d:Df}{c:Nat}{fs:List D}(hT:T f=some d)(hl:xs.length=d.iC)
  (h:WS (exs ao aj (λc=>Mi.call ao T k c) d.body (xs.map some++List.replicate (d.many-d.iC) none)) s λo _=>∃J,o=.er c fs J):WR (Mi.call ao T (k+1) aj f xs) s c fs:=by
 let⟨o,s',e,J,rfl⟩:=h;unfold Mi.call;simp only[hT,if_pos hl];unfold WR;simp only[e];show⟨_,rfl⟩
section
variable {ao:Nat->Nat->Bool}{aj:Bool}{F:Bool->Fn}{J:Vs}{s:S}{Q:Out->S->Prop}{c:Nat}{fs:List D}
def Ka9{α:Type}{m:M α}{k:α->MS}(h:WR m s c fs)(q:∀s',Q (.er c fs J) s'):WS (Mi.ofM m J k) s Q:=by
 let⟨s',e⟩:=h;show⟨_,s',by unfold Mi.ofM;rw[e],q s'⟩
def v9{a:St}{r:cg}(h:WS (ex ao aj F a J) s λo s'=>(∃c fs J',o=.er c fs J')/\Q o s'):WS (exs ao aj F (.cons a r) J) s Q:=by
 let⟨o,s',e,⟨c,fs,J',rfl⟩,q⟩:=h;show⟨_,s',by unfold exs Mi.bH;rw[e],q⟩
theorem V8{e:E}(h:WR (ev ao aj (F aj) e J) s c fs)(q:∀s',Q (.er c fs J) s'):WS (ex ao aj F (.ex e) J) s Q:=Ka9 h q
theorem Kbd{e:E}(h:WR (ev ao aj (F aj) e J) s c fs)(q:∀s',Q (.er c fs J) s'):WS (ex ao aj F (.ret e) J) s Q:=Ka9 h q
def Kbk{c:Nat}{kp:Bool}{xs:Es}(h:W (evs ao true (F true) xs J) s λvs s1=>W (fP vs) s1 λds s2=>Q (.er c (if kp=true then ds else []) J) s2):WS (ex ao true F (.rise c kp xs) J) s Q:=by
 show WS.qD (m2:=λ_=>none) (WS.ofM (W.bd (h.imp λvs s1 h=>h.imp λds s2 h=>?_)));show⟨_,s2,rfl,h⟩
def Kbr{m:MS}{k:Vs->MS}(h:WS m s λo s'=>match o with|.nx J'=>WS (k J') s' Q|.rt x=>Q (.rt x) s'|_=>False):WS (Mi.bH m k) s Q:=by
 let⟨o,s',e,q⟩:=h;unfold WS Mi.bH;rw[e];cases o with
 |nx J'=>show q|rt x=>show⟨_,_,rfl,q⟩|bk _=>show q.elim|ct _=>show q.elim|er _ _ _=>show q.elim
theorem Kbp{F:Fn}{i:Nat}{x:Xv}(h:Q (.nx (J.set i (some x))) s):WS (store ao aj F (.nm i) x J) s Q:=⟨_,s,rfl,h⟩
def Kbq{F:Fn}{is:List Nat}{d:D}(h:rK ((jD d).bind λds=>fu is (ds.map .d) J) λJ'=>Q (.nx J') s):WS (store ao true F (.tp is) (.d d) J) s Q:=by
 let⟨J',e,q⟩:=h;show WS.qD (m2:=λ_=>none) (WS.ofM (W.bd (W.dat (W.opt e (WS.nx q)))))
theorem zi6{b:cg}{d i:Nat}{h:cg}:ex ao true F (.oO b d i h) J s=match exs ao true F b J s with
  |some (.er c fs J',s')=>if ao c d=true then (match exs ao false F h (J'.set i (some (.d (.exc c fs)))) s' with
   |some (r,s'')=>(match r with
    |.er _ _ _=>none|r=>some (goes i r,s''))
   |none=>none) else none
  |r=>r:=rfl
def Kbs{b:cg}{d i:Nat}{h:cg}(hb:WS (exs ao true F b J) s λo s'=>(∃x,o=.rt x)/\Q o s'):WS (ex ao true F (.oO b d i h) J) s Q:=by
 let⟨o,s',e,⟨x,rfl⟩,q⟩:=hb;show⟨_,s',by rw[zi6];simp only[e],q⟩
def Kbt{b:cg}{d i:Nat}{h:cg}(hb:WS (exs ao true F b J) s λo s'=>∃c fs J',o=.er c fs J'/\ao c d=true/\WS (exs ao false F h (J'.set i (some (.d (.exc c fs))))) s' λr s2=>(∃x,r=.rt x)/\Q r s2):WS (ex ao true F (.oO b d i h) J) s Q:=by
 let⟨o,s',e,c,fs,J',rfl,hs,r,s2,e2,⟨x,rfl⟩,q⟩:=hb;show⟨_,s2,by rw[zi6];simp only[e,hs,if_true,e2];rfl,q⟩
end
section
variable {ao:Nat->Nat->Bool}{aj:Bool}{F:Fn}{J:Vs}{s:S}{P:Xv->S->Prop}
theorem W.eY{a:E}{k:Kd}(h:W (ev ao aj F a J) s λx s1=>W (rd x) s1 λd s2=>rK (jB ao d k) λb=>P (.d (.bl b)) s2):W (ev ao aj F (.eY a k) J) s P:=Kav h
theorem W.ux{p q:Pr}{a b c:E}(h:W (ev ao aj F a J) s λx s1=>W (ev ao aj F b J) s1 λy s2=>W (dH [x,y]) s2 λds s3=>W (bw true (prim p ds)) s3 λt s4=>W (Mi.bool t) s4 λk s5=>
  W (if k=true then M.bd (ev ao aj F c J) λz=>M.bd (dH [y,z]) λds=>bw true (prim q ds) else M.ret (.d (.bl false))) s5 P):W (ev ao aj F (.ux p q a b c) J) s P:=Kat h
theorem Kaw{c a b:E}(h:W (ev ao aj F c J) s λx s1=>W (Mi.bool x) s1 λk s2=>W (if k=true then ev ao aj F a J else ev ao aj F b J) s2 P):W (ev ao aj F (.ite c a b) J) s P:=W.bd (h.imp λ_ _ h=>W.bd h)
theorem KaG{a:E}{P:Src×Nat->S->Prop}(h:W (ev ao aj F a J) s λx s1=>W (rC x) s1 P):W (oR ao aj F (.enum a) J) s P:=W.bd h
theorem KaE{xs:List D}{P:Src×Nat->S->Prop}(h:P (.fix (enumFrom 0 xs),(enumFrom 0 xs).length) s):W (rC (.d (.fl xs))) s P:=⟨_,s,rfl,h⟩
def KaH{a b:E}{P:Src×Nat->S->Prop}(h:W (ev ao aj F a J) s λx s1=>W (ev ao aj F b J) s1 λy s2=>W (Mi.int x) s2 λi s3=>W (Mi.int y) s3 λj s4=>(dU i&&dU j)=true/\P (.fix (gU i j),(gU i j).length) s4):W (oR ao aj F (.rg a b) J) s P:=by
 show W.bd (h.imp λx s1 h=>W.bd (h.imp λy s2 h=>W.bd (h.imp λi s3 h=>W.bd (h.imp λj s4 h=>?_))));rw[if_pos h.1];show W.ret h.2
theorem KaJ{a b:E}{P:Src×Nat->S->Prop}(h:W (ev ao aj F a J) s λx s1=>W (ev ao aj F b J) s1 λy s2=>W (ni x) s2 λxs s3=>W (ni y) s3 λys s4=>P (.fix (List.zipWith (λp q=>.tup [p,q]) xs ys),(List.zipWith (λ(p q:D)=>D.tup [p,q]) xs ys).length) s4):W (oR ao aj F (.zip a b) J) s P:=
 W.bd (h.imp λx s1 h=>W.bd (h.imp λy s2 h=>W.bd (h.imp λxs s3 h=>W.bd (h.imp λys s4 h=>W.ret h))))
theorem W.iM{xs:List D}{P:List D->S->Prop}(h:P xs s):W (ni (.d (.tup xs))) s P:=W.ret h
theorem W.rD{xs:List D}{P:List D->S->Prop}(h:P xs s):W (ni (.d (.fl xs))) s P:=W.ret h
theorem Kah{P:Bool->S->Prop}(h:P true s):W (uy ao aj F .no J) s P:=W.ret h
theorem Kai{a:E}{P:Bool->S->Prop}(h:W (ev ao aj F a J) s λx s1=>W (Mi.bool x) s1 P):W (uy ao aj F (.yes a) J) s P:=W.bd h
def G8{α:Type}{f:α->D}{l:List α}{fz:Bool}{elt:E}{tg:List Nat}{it:Wk}{fr:List Nat}{many:Nat}{cond:Eo}(g:α->Option D)(hc:l.length<=sizeLine)
  (hw:W (oR ao true F it J) s λcn s1=>cn=(.fix (l.map f),(l.map f).length)/\s1=s)
  (hb:∀x∈l,rK (jE tg (f x) (blk many fr J)) λJ'=>W (uy ao true F cond J') s λb s1=>s1=s/\(b=true->W (ev ao true F elt J') s λy s2=>s2=s/\∃d,y=.d d/\g x=some d)/\(b=false->g x=none))
  (h:W (newL fz (l.filterMap g)) s P):W (ev ao true F (.comp fz elt tg it fr many cond) J) s P:=by
 change W (_root_.ite (true=true) _ _) s P
 rw[if_pos rfl];show W.bd (hw.imp λcn s1=>?_);rintro⟨rfl,rfl⟩;show W.bd ?_;show W.walk (c:=l.map f) (λi acc s'=>s'=s1/\acc=(l.take i).filterMap g) ⟨rfl,rfl⟩ (λi x acc s' e hI=>?_) (λacc s' hI=>?_)
 .obtain⟨rfl,rfl⟩:=hI;rw[lD]at e;cases el:l[i]? with
  |none=>rw[el]at e;cases e|some y=>
   rw[el]at e;cases e;let hi:i<l.length:=(jr.mp el).1;let ht:l.take (i+1)=l.take i++[y]:=by rw[List.take_succ,el];rfl
   let hl:((l.take i).filterMap g).length<sizeLine:=Nat.lt_of_le_of_lt (List.length_filterMap_le _ _) (by rw[zQ];lia);let⟨J',e1,h1⟩:=hb y (jL el);show W.bd (W.opt e1 ?_);show W.bd (W.qt (h1.imp λb s2=>?_));rintro⟨rfl,h2,h3⟩;rw[ht,List.filterMap_append];cases b
   .rw[if_neg W9];show W.ret ⟨rfl,?_⟩;simp[h3 rfl]
   .rw[if_pos rfl];show W.bd (W.qt ((h2 rfl).imp λy s3=>?_));rintro⟨rfl,d,rfl,eg⟩;show W.bd (W.dat ?_);rw[if_pos hl];show W.ret ⟨rfl,?_⟩;simp[eg]
 .obtain⟨rfl,rfl⟩:=hI;rw[bY,Nu];show h
def Kam{c:List D}{fz:Bool}{elt:E}{tg:List Nat}{it:Wk}{fr:List Nat}{many:Nat}{cond:Eo}(I:Nat->List D->S->Prop)
  (hw:W (oR ao true F it J) s λcn s1=>cn=(.fix c,c.length)/\I 0 [] s1)
  (hb:∀i x acc s,c[i]?=some x->I i acc s->rK (jE tg x (blk many fr J)) λJ'=>W (uy ao true F cond J') s λb s1=>(b=true->W (ev ao true F elt J') s1 λy s2=>∃d,y=.d d/\acc.length<sizeLine/\I (i+1) (acc++[d]) s2)/\(b=false->I (i+1) acc s1))
  (h:∀acc s,I c.length acc s->W (newL fz acc) s P):W (ev ao true F (.comp fz elt tg it fr many cond) J) s P:=by
 change W (_root_.ite (true=true) _ _) s P
 rw[if_pos rfl];show W.bd (hw.imp λcn s1=>?_);rintro⟨rfl,h0⟩;show W.bd ?_;show W.walk (c:=c) I h0 (λi x acc s' e hI=>?_) (λacc s' hI=>h acc s' hI);let⟨J',e1,h1⟩:=hb i x acc s' e hI;show W.bd (W.opt e1 ?_);show W.bd (W.qt (h1.imp λb s2=>?_));rintro⟨h2,h3⟩;cases b
 .rw[if_neg W9];show W.ret (h3 rfl)
 .rw[if_pos rfl];show W.bd (W.qt ((h2 rfl).imp λy s3=>?_));rintro⟨d,rfl,hl,hi⟩;show W.bd (W.dat ?_);rw[if_pos hl];show W.ret hi
def W.push{o a:E}(h:W (ev ao aj F o J) s λx s1=>W (Mi.cZ x) s1 λ_ s2=>W (ev ao aj F a J) s2 λy s3=>W (Mi.dat y) s3 λd s4=>W (Mi.cZ x) s4 λnx s5=>nx.2.length<sizeLine/\P (.d .non) (s5.set nx.1 (.lst (nx.2++[d])))):W (ev ao aj F (.push o a) J) s P:=by
 show W.bd (h.imp λx s1 h=>W.bd (h.imp λ_ s2 h=>W.bd (h.imp λy s3 h=>W.bd (h.imp λd s4 h=>W.bd (h.imp λnx s5 h=>?_)))));rw[if_pos h.1];show W.bd (VN (W.ret h.2))
end
def ze3{s:S}{o:SO}:(s++[o])[s.length]?=some o:=by simp
theorem Y{P R:Prop}(k:R)(h:Bx R->P:=by
 intro k
 repeat (first|with_reducible first
   |refine Kbb (by with_unfolding_all rfl) ?_|refine Kbc (by with_unfolding_all rfl) ?_|refine Kba (by with_unfolding_all rfl) ?_|refine W.pv (by with_unfolding_all rfl) ?_|refine KaT (by with_unfolding_all rfl) ?_|refine KaS (by with_unfolding_all rfl) ?_|refine G7 (by with_unfolding_all rfl) ?_
   |refine WS.cons ?_|refine WS.nil ?_|refine Kbr ?_|refine Kbp ?_|refine Kbq ?_|refine PK ?_|refine Kbj ?_|refine K_ ?_|refine V4 ?_|refine Kbm ?_|refine Kbi ?_|refine Kbe ?_|refine Kbf ?_|refine Kbk ?_|refine WS.qD ?_|refine WS.Et ?_|refine WS.V2 (by with_unfolding_all rfl) ?_|refine WS.V3 (by with_unfolding_all rfl) ?_|refine rK.mk (by with_unfolding_all rfl) ?_
   |refine V1 ?_|refine Kag ?_|refine W.eC ?_|refine W.eV (by with_unfolding_all rfl) ?_|refine VP ?_|refine Kas ?_|refine KaD ?_|refine Kax ?_|refine V0 ?_|refine Kar ?_|refine VR ?_|refine Kaw ?_|refine W.eY ?_|refine W.ux ?_|refine W.push ?_|refine KaC ?_|refine Kau ?_|refine KaM ?_|refine KaN ?_|refine KaI ?_|refine KaH ?_|refine KaJ ?_|refine KaG ?_|refine Kah ?_|refine Kai ?_|refine W.qD ?_|refine W.Et ?_|refine W.V2 (by with_unfolding_all rfl) ?_|refine W.V3 (by with_unfolding_all rfl) ?_
   |refine tV ?_|refine Ep ?_|refine lB ?_|refine KaV (by with_unfolding_all rfl) ?_|refine KaV ze3 ?_|refine Kao ?_|refine Kap ?_|refine W.dat ?_|refine W.bool ?_|refine W.int ?_|refine W.cZ (by with_unfolding_all rfl) ?_|refine W.cZ ze3 ?_|refine VN ?_|refine KaZ ?_|refine KaE ?_|refine W.iM ?_|refine W.rD ?_|refine KaY ?_|refine KaL ?_|refine KaK ?_
   |refine cJ (by first|(with_unfolding_all rfl)|exact zot (by first|(left;constructor<;>omega)|(right;constructor<;>lia))|exact zoe Bd|exact zn5 gV|exact zhZ gV|exact zo3 W9) ?_|refine n8 (by with_unfolding_all rfl) ?_
   |refine W.ret ?_|refine W.bd ?_
   | (dsimp only))
 all_goals show k.o):P:=h ⟨k⟩
def lx(p q:Int×Int):Prop:=p.1<q.1\/p.1=q.1/\p.2<q.2
def cQ(n:Int)(ps:List (Int×Int)):D:=.tup [.int n,.tup (ps.map bV)]
structure Web(n:Int)(ps:List (Int×Int)):Prop where
 h1:1<=n
 h8:n<=8
 tie:∀p∈ps,0<=p.1/\p.1<p.2/\p.2<n
 inc:ps.Pairwise lx
 len:(ps.length:Int)<=7*n
def zkL(h:∀x∈xs,x=.bl true):fD xs=some (List.replicate xs.length true):=by
 induction xs with
 |nil=>rfl|cons x r ih=>
  rw[h x Zaa];change Option.map _ (fD r)=_;rw[ih λy hy=>h y (by simp[hy])];rfl
def zlB(h:∀x∈xs,x=.bl true):prim .all [.fl xs]=some (.dat (.bl true)):=by
 change Option.map _ (fD xs)=_;rw[zkL h];simp
def zjc(p q:Int×Int):cM (k+1) (bV p) (bV q)=some (decide (p=q)):=by
 change eF (cM k) [.int p.1,.int p.2] [.int q.1,.int q.2]=_;let hi:∀a b:Int,cM k (.int a) (.int b)=some (a==b):=by intro a b;cases k<;>rfl
 simp only[eF,hi];let⟨a,b⟩:=p;let⟨c,d⟩:=q;by_cases h1:a=c
 .by_cases h2:b=d
  .simp[h1,h2]
  .simp[h1,h2]
 .simp[h1]
def zkr(ps:List (Int×Int)):eF (cM (k+1)) (ps.map bV) (ps.map bV)=some true:=by
 induction ps with
 |nil=>rfl|cons p r ih=>simp only[jw,eF,ih,zjc];simp
def zkg:cM 50 (cQ n ps) (cQ n ps)=some true:=by
 change eF (cM 49) [.int n,.tup (ps.map bV)] [.int n,.tup (ps.map bV)]=_;let h1:cM 49 (.int n) (.int n)=some (n==n):=rfl;let h2:cM 49 (.tup (ps.map bV)) (.tup (ps.map bV))=eF (cM 48) (ps.map bV) (ps.map bV):=rfl;simp only[eF,h1,h2,zkr];simp
def V9(xs:List D):cut xs (some 1) none=xs.drop 1:=by
 unfold cut;rw[HT.uZ];rw[show (some 1:Option Int)=some ((1:Nat):Int) from rfl,HT.yI];cases xs with
 |nil=>rfl|cons x r=>simp
theorem PN:∀(xs:List D) (j i:Nat),(enumFrom j xs)[i]?=xs[i]?.map λx=>.tup [.int ((j+i:Nat):Int),x]
 |[],j,i=>by simp[enumFrom]|x::r,j,0=>by simp[enumFrom]|x::r,j,i+1=>by
  simp only[enumFrom,FW,PN r (j+1) i];rw[show j+1+i=j+(i+1) by lia]
theorem zfj:∀(xs:List D) (j:Nat),(enumFrom j xs).length=xs.length
 |[],j=>rfl|x::r,j=>by simp[enumFrom,zfj r (j+1)]
def zmA{p:Int×Int}:¬lx p p:=by rintro(h|⟨_,h⟩)<;>lia
theorem PX{ps:List (Int×Int)}(h:ps.Pairwise lx):ps.Nodup:=h.imp λ{p q} h e=>by subst e;show zmA h
theorem V_:∀{es:List Int} {a n:Int},es.Pairwise (·<·)->(∀e∈es,a<=e/\e<n)->a<=n->(es.length:Int)<=n-a
 |[],a,n,_,_,h=>by simp;omega|e::r,a,n,h,hb,ha=>by
  let⟨h1,h2⟩:=xV.mp h;let he:=hb e Zaa;let:=V_ (es:=r) (a:=e+1) (n:=n) h2 (λx hx=>⟨by let:=h1 x hx;lia,(hb x (by simp[hx])).2⟩) gV;rw[eN]
  lia
def Lg{a b:Int}{i:Nat}{x:D}(h:(gU a b)[i]?=some x):x=.int (a+i)/\a+i<b:=by
 unfold gU at h;rw[lD]at h;cases e:(List.range (b-a).toNat)[i]? with
 |none=>rw[e]at h;cases h|some j=>
  rw[e]at h;cases h;let⟨hl,rfl⟩:=jr.mp e;rw[List.length_range]at hl;rw[List.getElem_range];show⟨rfl,by lia⟩
def Lh:(gU a b).length=(b-a).toNat:=by unfold gU;simp
def P0(h1 : -1000<=a)(h2:a<=1000):dU a=true:=by
 unfold dU;rw[cH gV,cH gV];rfl
def G9(hl:locs xs=[s.length])(h:W (F (eG 0 xs)) [o] λv s1=>∃d o',v=.d d/\s1=[o']/\P (.d d) (s++[o'])):W (cP F xs) (s++[o]) P:=by
 show Kak (n:=s.length) (o:=o) hl Zaa (h.imp λv s1=>?_);rintro⟨d,o',rfl,rfl,hp⟩;show⟨d,o',rfl,rfl,by rw[show (s++[o]).set s.length o'=s++[o'] by simp];show hp⟩
def zlm{ns:List Int}{lo hi:Option Int}{x:D}(h:x∈cut (ns.map D.int) lo hi):∃n,x=.int n:=by
 let:=List.mem_of_mem_drop (List.mem_of_mem_take h);let⟨n,_,rfl⟩:=gM.mp this;show⟨n,rfl⟩
def zli{ns:List Int}{lo hi:Option Int}:(cut (ns.map D.int) lo hi).length<=ns.length:=by
 unfold cut;rw[zQ,Hv,bY]
 lia
theorem Wa{α:Type}[DecidableEq α]:∀{l m:List α},l.Nodup->(∀x∈l,x∈m)->l.length<=m.length
 |[],m,_,_=>lH _|x::r,m,h,hm=>by
  let⟨h1,h2⟩:=sE.mp h;let hx:x∈m:=hm x Zaa;let:=Wa (l:=r) (m:=m.erase x) h2 λy hy=>(List.mem_erase_of_ne (λe=>by subst e;show h1 hy)).mpr (hm y (by simp[hy]));rw[List.length_erase_of_mem hx]at this;let:=List.length_pos_of_mem hx;rw[eN]
  lia
def wg:List (Int×Int):=[(0,1),(0,2),(0,3),(0,4),(0,5),(0,6),(0,7),(1,2),(1,3),(1,4),(1,5),(1,6),(1,7),(2,3),(2,4),(2,5),(2,6),(2,7),(3,4),(3,5),(3,6),(3,7),(4,5),(4,6),(4,7),(5,6),(5,7),(6,7)]
def Wb{n:Int}{ps:List (Int×Int)}(h8:n<=8)(ht:∀p∈ps,0<=p.1/\p.1<p.2/\p.2<n)(nd:ps.Nodup):ps.length<=28:=by
 let:ps.length<=wg.length:=Wa nd λp hp=>by
  let⟨a,b⟩:=p;let h:=ht _ hp;dsimp only at h;let⟨x,rfl⟩:=M7 h.1;let⟨y,rfl⟩:=M7 (show 0<=b by lia);let key:((List.range 8).all λx=>(List.range 8).all λy=>!decide (x<y)||wg.contains (((x:Nat):Int),((y:Nat):Int)))=true:=by decide
  let k1:=fB.mp (fB.mp key x (gZ.mpr gV)) y (gZ.mpr gV);rw[cH (show x<y by lia)]at k1;show List.contains_iff_mem.mp (by simpa using k1)
 show this
theorem zF(R:Vs->S->Prop)(h:WS (ex ao aj F a J) s λo s'=>∃J',o=.nx J'/\R J' s')(h2:∀J' s',R J' s'->WS (exs ao aj F r J') s' Q):WS (exs ao aj F (.cons a r) J) s Q:=
 WS.cons (h.imp λo s' ⟨J',e,hr⟩=>by subst e;show h2 J' s' hr)
def P_(h0:0<=j)(h:xs[j.toNat]?=some x):prim .ix [.fl xs,.int j]=some (.dat x):=by
 let⟨k,rfl⟩:=M7 h0;show Bg h
def ziS:L2.lX (n+1) (-1)=some n:=by
 unfold L2.lX;simp
 lia
def zms:prim .ix [.fl (xs++[x]),.int (-1)]=some (.dat x):=by
 change Option.map Rz.dat (L2.qW (xs++[x]) (-1))=_;let:L2.qW (xs++[x]) (-1)=some x:=by
  unfold L2.qW;rw[gP];change (L2.lX (xs.length+1) (-1)).bind _=_;rw[ziS];simp
 rw[this];rfl
def zhL(e:s[n]?=some (.lst xs))(i:Nat):(Src.jC n).at i s=some (enumFrom 0 xs)[i]?:=by
 unfold Src.at;simp only[e];rw[PN]
 congr 2
 funext x
 simp
def Wc{α:Type}{l:List α}{f:α->D}:l.filterMap (λx=>some (f x))=l.map f:=by
 rw[<-List.filterMap_eq_map];rfl
def Wf(I:Nat->Vs->S->Prop)(h0:I 0 J s)(hb:∀i x J s,c[i]?=some x->I i J s->WS (b x J) s λo s'=>(∃J',o=.nx J'/\I (i+1) J' s')\/(∃x,o=.rt x/\Q (.rt x) s'))
  (he:∀J s,I c.length J s->Q (.nx J) s):WS (cI (.fix c) b (c.length+1) 0 J) s Q:=by
 let key:∀n i J s,i+n=c.length->I i J s->WS (cI (.fix c) b (n+1) i J) s Q:=by
  intro n
  induction n with
  |zero=>
   intro i J s hi hI;let e:c[i]?=none:=by rw[pA];lia
   let:i=c.length:=by omega
   subst this;show⟨_,s,?_,he J s hI⟩;unfold cI;simp only[Src.at,e]
  |succ n ih=>
   intro i J s hi hI;let hlt:i<c.length:=by lia
   let e:c[i]?=some c[i]:=fV hlt;let⟨o,s',eb,hr⟩:=hb i c[i] J s e hI;rcases hr with ⟨J',rfl,Er⟩|⟨x,rfl,hq⟩
   .obtain⟨o2,s2,e2,q⟩:=ih (i+1) J' s' gV Er;show⟨o2,s2,?_,q⟩;unfold cI;simp only[Src.at,e,eb];show e2
   .refine⟨_,s',?_,hq⟩;unfold cI;simp only[Src.at,e,eb]
 show key c.length 0 J s gV h0
def zG(h:xs.length+ys.length<=sizeLine):prim .add [.tup xs,.tup ys]=some (.dat (.tup (xs++ys))):=by
 change (if _ then _ else _)=_;rw[if_pos h]
def pJ:D->Bool
 |.exc _ _=>false|.ob _ _=>false|.any=>false|_=>true
def whB:D->Bool
 |.int _=>true|_=>false
def n_:D->Bool
 |.tup xs=>xs.all pJ|d=>pJ d
def zgS{α:Type}(l:List α)(f:α->Bool):fD (l.map λx=>D.bl (f x))=some (l.map f):=by
 induction l with
 |nil=>rfl|cons x r ih=>
  change Option.map _ (fD (r.map λx=>D.bl (f x)))=_;rw[ih];rfl
def zji{α:Type}{l:List α}{f:α->Bool}:prim .all [.fl (l.map λx=>D.bl (f x))]=some (.dat (.bl (l.all f))):=by
 change Option.map _ (fD (l.map λx=>D.bl (f x)))=_;rw[zgS];change some (Rz.dat (.bl ((l.map f).all id)))=_;rw[List.all_map];rfl
theorem Qa(h:x∈cut xs lo hi):x∈xs:=List.mem_of_mem_drop (List.mem_of_mem_take h)
def Qc:(cut xs lo hi).length<=xs.length:=by
 unfold cut;rw[zQ,Hv]
 lia
end Mi
namespace Mi
open PySem PySem.W PyProof.Rows L2
structure Ord(n:Nat)(lt:Nat->Nat->Option Bool)(le:Nat->Nat->Prop):Prop where
 ans:∀i j,i<n->j<n->(lt i j=some true/\le i j)\/(lt i j=some false/\le j i)
 tr:∀i j k,i<n->j<n->k<n->le i j->le j k->le i k
section
variable {lt:Nat->Nat->Option Bool}{le:Nat->Nat->Prop}{n:Nat}
def Ord.rfl'(o:Ord n lt le)(hi:i<n):le i i:=by
 rcases o.ans i i hi hi with ⟨_,e⟩|⟨_,e⟩<;>show e
def gb(le:Nat->Nat->Prop)(p:Array Nat)(r:Nat):Prop:=∀a b,a<b->b<r->le (p.getD a 0) (p.getD b 0)
def xr(le:Nat->Nat->Prop)(p:Array Nat)(r:Nat):Prop:=∀a b,a<b->b<r->le (p.getD b 0) (p.getD a 0)
def Li(le:Nat->Nat->Prop)(p:Array Nat)(l r:Nat):Prop:=∀a b,l<=a->a<r->l<=b->b<r->le (p.getD a 0) (p.getD b 0)
def getD_get?{p q:Array Nat}{i j:Nat}(h:p[i]?=q[j]?):p.getD i 0=q.getD j 0:=by
 let e:∀(x:Array Nat) (k:Nat),x.getD k 0=(x[k]?).getD 0:=by
  intro x k;unfold Array.getD
  split
  .rename_i h;rw[xR h];rfl
  .rename_i h;rw[Array.getElem?_eq_none gV];rfl
 rw[e,e,h]
def cG.size{p:Array Nat}(h:cG n p):p.size=n:=by let:=h.size_eq;simpa using this
def xu{p:Array Nat}{i j k:Nat}(hj:j<=p.size):(kas_rev p i j).getD k 0=if i<=k/\k<j then p.getD (i+j-1-k) 0 else p.getD k 0:=by
 let:=getElem?_mirror_all (xs:=p) (i:=i) hj k;unfold kas_rev
 split
 .rename_i h;rw[if_pos h]at this;show getD_get? this
 .rename_i h;rw[if_neg h]at this;show getD_get? this
def zft{p:Array Nat}{src d k:Nat}(hs:src<p.size)(hd:d<=src):(bubble p src d).getD k 0=if k=src-d then p.getD src 0 else if src-d<k/\k<=src then p.getD (k-1) 0 else p.getD k 0:=by
 let:=getElem?_bubble hs d hd k;by_cases h:k=src-d
 .rw[if_pos h]at this ⊢;show getD_get? this
 .rw[if_neg h]at this ⊢;by_cases h2:src-d<k/\k<=src
  .rw[if_pos h2]at this ⊢;show getD_get? this
  .rw[if_neg h2]at this ⊢;show getD_get? this
variable (o:Ord n lt le)(hn:0<n)
include o hn
def wj(hi:i<n)(hj:j<n)(h1:le i j->jY lt (k true) P)(h2:le j i->jY lt (k false) P):jY lt (.ask i j k) P:=by
 rcases o.ans i j hi hj with ⟨e,hl⟩|⟨e,hl⟩
 .obtain⟨a,e1,q⟩:=h1 hl;show⟨a,by unfold bZ;rw[e];show e1,q⟩
 .obtain⟨a,e1,q⟩:=h2 hl;show⟨a,by unfold bZ;rw[e];show e1,q⟩
theorem zh0(hp:cG n p)(hk:1<=k)(h:gb le p k)(hl:le (p.getD (k-1) 0) (p.getD k 0)):gb le p (k+1):=λa b rO hb=>by
 by_cases e:b=k
 .subst e;by_cases e2:a=b-1
  .subst e2;show hl
  .exact o.tr _ _ _ (hp.lt hn _) (hp.lt hn _) (hp.lt hn _) (h a (b-1) gV Bd) hl
 .exact h a b rO gV
theorem Lj(hp:cG n p)(hk:1<=k)(h:xr le p k)(hl:le (p.getD k 0) (p.getD (k-1) 0)):xr le p (k+1):=λa b rO hb=>by
 by_cases e:b=k
 .subst e;by_cases e2:a=b-1
  .subst e2;show hl
  .exact o.tr _ _ _ (hp.lt hn _) (hp.lt hn _) (hp.lt hn _) hl (h a (b-1) gV Bd)
 .exact h a b rO gV
theorem Wg(hp:cG n p):∀f k,1<=k->k+f<=n->gb le p k->jY lt (kas_asc p f k) λr=>k<=r/\r<=k+f/\gb le p r/\(r<k+f->le (p.getD r 0) (p.getD (r-1) 0))
 |0,k,_,_,h=>.ret ⟨bK _,by lia,h,λz=>by lia⟩|f+1,k,hk,hkf,h=>wj o hn (hp.lt hn _) (hp.lt hn _) (λhl=>.ret ⟨bK _,by lia,h,λ_=>hl⟩) λhl=>by
  let⟨r,e,h1,h2,h3,h4⟩:=Wg hp f (k+1) gV gV (zh0 o hn hp hk h hl);show⟨r,e,by lia,by lia,h3,λz=>h4 gV⟩
theorem zhz(hp:cG n p)(hk:k<=n)(h:xr le p k)(ha:Li le p l k):xr le (kas_rev p l k) k:=λa b rO hb=>by
 let hs:=hp.size;rw[xu gV,xu gV];by_cases ca:l<=a/\a<k
 .rw[if_pos ca,if_pos gV];show ha _ _ Bd Bd Bd Bd
 .rw[if_neg ca];by_cases cb:l<=b/\b<k
  .rw[if_pos cb];show h a _ gV Bd
  .rw[if_neg cb];show h a b rO hb
theorem Qd:∀f {p:Array Nat} k q,cG n p->1<=k->k+f<=n->q+1<=k->xr le p k->Li le p (k-(q+1)) k->jY lt (kas_desc f p k q) λr=>cG n r.1/\k<=r.2.1/\r.2.1<=k+f/\r.2.2+1<=r.2.1/\xr le r.1 r.2.1/\Li le r.1 (r.2.1-(r.2.2+1)) r.2.1
 |0,p,k,q,hp,_,_,hq,h,ha=>.ret ⟨hp,bK _,by dsimp only;lia,hq,h,ha⟩|f+1,p,k,q,hp,hk,hkf,hq,h,ha=>wj o hn (hp.lt hn _) (hp.lt hn _) (λhl=>by
   change jY lt (if q>0 then _ else _) _;let hs:=hp.size;let one:∀{x:Array Nat},cG n x->Li le x (k+1-(0+1)) (k+1):=λ{x} hx a b h1 h2 h3 h4=>by
    let:a=k:=by lia
    let:b=k:=by lia
    subst a;subst b;show o.rfl' (hx.lt hn _)
   split
   .let hp':=hp.rev (k-(q+1)) k;let h':xr le (kas_rev p (k-(q+1)) k) (k+1):=Lj o hn hp' hk (zhz o hn hp gV h ha) (by
     rw[xu gV,xu gV,if_neg gV,if_pos Bd];show o.tr _ _ _ (hp.lt hn _) (hp.lt hn _) (hp.lt hn _) hl (ha _ _ Bd Bd Bd Bd))
    let⟨r,e,w⟩:=Qd f (k+1) 0 hp' gV gV gV h' (one hp');show⟨r,e,w.1,by lia,by lia,w.2.2.2⟩
   .obtain⟨r,e,w⟩:=Qd f (k+1) 0 hp gV gV gV (Lj o hn hp hk h hl) (one hp);show⟨r,e,w.1,by lia,by lia,w.2.2.2⟩) λhl=>wj o hn (hp.lt hn _) (hp.lt hn _) (λ_=>.ret ⟨hp,bK _,by dsimp only;lia,hq,h,ha⟩) λu_=>by
   let hA:Li le p (k+1-(q+1+1)) (k+1):=λa b h1 h2 h3 h4=>by
    let key:∀c,k-(q+1)<=c->c<k->le (p.getD c 0) (p.getD k 0)/\le (p.getD k 0) (p.getD c 0):=λc c1 c2=>
     ⟨o.tr _ _ _ (hp.lt hn _) (hp.lt hn _) (hp.lt hn _) (ha c (k-1) c1 c2 gV Bd) hl,o.tr _ _ _ (hp.lt hn _) (hp.lt hn _) (hp.lt hn _) u_ (ha (k-1) c gV Bd c1 c2)⟩
    by_cases ea:a=k
    .by_cases eb:b=k
     .subst a;subst b;show o.rfl' (hp.lt hn _)
     .subst a;show(key b gV gV).2
    .by_cases eb:b=k
     .subst b;show(key a gV gV).1
     .exact ha a b gV gV gV gV
   let⟨r,e,w⟩:=Qd f (k+1) (q+1) hp gV gV gV (Lj o hn hp hk h u_) hA;show⟨r,e,w.1,by lia,by lia,w.2.2.2⟩
theorem zk7(hp:cG n p)(hk:k<=n)(h:xr le p k):gb le (kas_rev p 0 k) k:=λa b rO hb=>by
 let hs:=hp.size;rw[xu gV,xu gV,if_pos gV,if_pos gV];show h _ _ Bd Bd
def zf0(hp:cG n p)(hk:1<=k)(Ln:k<=n)(h:xr le p k):jY lt (kas_tail3 k n p) λr=>cG n r.2/\1<=r.1/\r.1<=n/\gb le r.2 r.1:=by
 show jY.bind (λc hc=>?_) (Wg o hn (hp.rev 0 k) (n-k) k hk gV (zk7 o hn hp Ln h));show⟨_,rfl,hp.rev 0 k,by dsimp only;omega,by dsimp only;omega,hc.2.2.1⟩
def zcB(hp:cG n p)(hk:1<=k)(Ln:k<n)(h:xr le p (k+1)):jY lt (kas_descPart k n p) λr=>cG n r.2/\1<=r.1/\r.1<=n/\gb le r.2 r.1:=by
 show jY.bind (λr hr=>?_) (Qd o hn (n-(k+1)) (k+1) 0 hp gV Bd gV h (λa b h1 h2 h3 h4=>by
  let:a=k:=by lia
  let:b=k:=by lia
  subst a;subst b;show o.rfl' (hp.lt hn _)))
 let⟨w1,w2,w3,w4,w5,w6⟩:=hr
 split
 .exact zf0 o hn (w1.rev _ _) gV Bd (zhz o hn w1 Bd w5 w6)
 .exact zf0 o hn w1 gV Bd w5
def zki(hp:cG n p):jY lt (kas_count n p) λr=>cG n r.2/\1<=r.1/\r.1<=n/\gb le r.2 r.1:=by
 show jY.bind (λk hk=>?_) (Wg o hn hp (n-1) 1 (bK _) Bd (λa b h1 h2=>by lia));let⟨k1,k2,k3,k4⟩:=hk;let hs:=hp.size;by_cases e:(k==n)=true
 .rw[if_pos e];show .ret ⟨hp,k1,by dsimp only;lia,k3⟩
 .rw[if_neg e];let Ln:k<n:=by
   let:k≠n:=by simpa using e
   lia
  let hl:=k4 Bd
  split
  .refine wj o hn (hp.lt hn _) (hp.lt hn _) (λ_=>.ret ⟨hp,k1,by dsimp only;lia,k3⟩) λhz=>?_;let alk:∀a b,a<k->b<k->le (p.getD a 0) (p.getD b 0):=λa b ha hb=>by
    let h1:le (p.getD a 0) (p.getD (k-1) 0):=by
     by_cases q:a=k-1
     .subst q;show o.rfl' (hp.lt hn _)
     .exact k3 a (k-1) gV Bd
    let h2:le (p.getD 0 0) (p.getD b 0):=by
     by_cases q:b=0
     .subst q;show o.rfl' (hp.lt hn _)
     .exact k3 0 b gV Bd
    show o.tr _ _ _ (hp.lt hn _) (hp.lt hn _) (hp.lt hn _) (o.tr _ _ _ (hp.lt hn _) (hp.lt hn _) (hp.lt hn _) h1 hz) h2
   show zcB o hn (hp.rev 0 k) k1 Ln (Lj o hn (hp.rev 0 k) k1 (λa b h1 h2=>?_) ?_)
   .rw[xu gV,xu gV,if_pos gV,if_pos gV];show alk _ _ Bd Bd
   .rw[xu gV,xu gV,if_neg gV,if_pos Bd];show o.tr _ _ _ (hp.lt hn _) (hp.lt hn _) (hp.lt hn _) hl (alk _ _ Bd gV)
  .let:k=1:=by lia
   subst this;show zcB o hn hp (bK _) Ln (Lj o hn hp (bK _) (λa b h1 h2=>by lia) hl)
theorem Wh(hp:cG n p)(h:gb le p k):∀f l r,l<=r->r<=k->r-l<=f->(∀a,a<l->le (p.getD a 0) (p.getD k 0))->(∀a,r<=a->a<k->le (p.getD k 0) (p.getD a 0))->jY lt (kas_place p k f l r) λi=>i<=k/\(∀a,a<i->le (p.getD a 0) (p.getD k 0))/\(∀a,i<=a->a<k->le (p.getD k 0) (p.getD a 0))
 |0,l,r,h1,h2,h3,h4,h5=>.ret ⟨by lia,h4,λa z=>h5 a gV⟩|f+1,l,r,h1,h2,h3,h4,h5=>by
  unfold kas_place;by_cases e:l>=r
  .rw[if_pos e];show .ret ⟨by lia,h4,λa z=>h5 a gV⟩
  .rw[if_neg e];show wj o hn (hp.lt hn _) (hp.lt hn _) (λhl=>?_) λhl=>?_
   .refine Wh hp h f l ((l+r)/2) gV gV Bd h4 λa z1 z2=>?_;by_cases q:a=(l+r)/2
    .subst q;show hl
    .exact o.tr _ _ _ (hp.lt hn _) (hp.lt hn _) (hp.lt hn _) hl (h _ a gV z2)
   .refine Wh hp h f ((l+r)/2+1) r gV h2 Bd (λa z=>?_) h5;by_cases q:a=(l+r)/2
    .subst q;show hl
    .exact o.tr _ _ _ (hp.lt hn _) (hp.lt hn _) (hp.lt hn _) (h a _ gV gV) hl
theorem zmS:∀f {p:Array Nat} k,cG n p->k+f=n->gb le p k->jY lt (kas_bin f p k) λr=>cG n r/\gb le r n
 |0,p,k,hp,hk,h=>.ret ⟨hp,(show k=n by omega)▸h⟩|f+1,p,k,hp,hk,h=>jY.bind (λl hl=>by
   let⟨l1,l2,l3⟩:=hl;let hs:=hp.size;show zmS f (k+1) (hp.bub _ _) gV λa b rO hb=>?_;rw[zft gV Bd,zft gV Bd,show k-(k-l)=l by lia];by_cases ea:a=l
   .rw[if_pos ea,if_neg gV,if_pos gV];show l3 (b-1) gV Bd
   .rw[if_neg ea];by_cases ca:l<a/\a<=k
    .rw[if_pos ca,if_neg gV,if_pos gV];show h _ _ Bd Bd
    .rw[if_neg ca];by_cases eb:b=l
     .rw[if_pos eb];show l2 a gV
     .rw[if_neg eb];by_cases cb:l<b/\b<=k
      .rw[if_pos cb];by_cases q:a=b-1
       .lia
       .exact h _ _ gV Bd
      .rw[if_neg cb];show h _ _ rO gV) (Wh o hn hp h k 0 k gV (bK _) gV (λa z=>by lia) (λa z1 z2=>by lia))
def znn:jY lt (kas_sort n) λp=>cG n p/\gb le p n:=by
 show jY.bind (λr hr=>?_) (zki o hn (.refl _));let⟨w1,w2,w3,w4⟩:=hr
 split
 .rw[Nat.max_eq_left w2];show zmS o hn _ _ w1 gV w4
 .let:r.1=n:=by lia
  show .ret ⟨w1,this▸w4⟩
end
end Mi
namespace Ts
open PySem PySem.SetTable
theorem Wi{ss:List Nat}{j:Nat}(hs:ss.Pairwise (·<·)):∀(fuel lo hi:Nat),hi-lo<=fuel->lo<=hi->hi<=ss.length->(∀i (h:i<ss.length),i<lo->ss[i]<j)->(∀i (h:i<ss.length),hi<=i->j<=ss[i])->
  below.go ss.toArray j fuel lo hi<=ss.length/\(∀i (h:i<ss.length),i<below.go ss.toArray j fuel lo hi->ss[i]<j)/\(∀i (h:i<ss.length),below.go ss.toArray j fuel lo hi<=i->j<=ss[i])
 |0,lo,hi,hf,h1,h2,h3,h4=>by
  unfold below.go;let:lo=hi:=by lia
  subst this;show⟨h2,h3,h4⟩
 |fuel+1,lo,hi,hf,h1,h2,h3,h4=>by
  unfold below.go;by_cases hlt:lo<hi
  .rw[if_pos hlt];let hm:(lo+hi)/2<ss.length:=by lia
   let e:ss.toArray.getD ((lo+hi)/2) j=ss[(lo+hi)/2]:=by simp[hm]
   dsimp only;rw[e];by_cases hc:ss[(lo+hi)/2]<j
   .rw[if_pos hc];show Wi hs fuel _ _ Bd gV h2 (λi h xG=>?_) h4;rcases Gp i ((lo+hi)/2) with z|z
    .let:=t_.mp hs i ((lo+hi)/2) h hm z
     lia
    .let:i=(lo+hi)/2:=by lia
     subst this;show hc
   .rw[if_neg hc];show Wi hs fuel _ _ Bd gV gV h3 (λi h xG=>?_);rcases Gp ((lo+hi)/2) i with z|z
    .let:=t_.mp hs ((lo+hi)/2) i hm h z
     lia
    .let:i=(lo+hi)/2:=by lia
     subst this
     lia
  .rw[if_neg hlt];let:lo=hi:=by lia
   subst this;show⟨h2,h3,h4⟩
def zfJ{ss:List Nat}(hs:ss.Pairwise (·<·))(j:Nat):below ss.toArray j<=ss.length/\(∀x∈ss.take (below ss.toArray j),x<j)/\∀x∈ss.drop (below ss.toArray j),j<=x:=by
 let⟨h1,h2,h3⟩:=Wi (j:=j) hs ss.length 0 ss.length gV gV (bK _) (λi h hi=>by lia) (λi h hi=>by lia);let e:below ss.toArray j=below.go ss.toArray j ss.length 0 ss.length:=by unfold below;rw[dR]
 rw[e];show⟨h1,λx hx=>?_,λx hx=>?_⟩
 .obtain⟨i,hi,rfl⟩:=zO.mp hx;rw[zQ]at hi;rw[List.getElem_take];show h2 i gV gV
 .obtain⟨i,hi,rfl⟩:=zO.mp hx;rw[Hv]at hi;rw[List.getElem_drop];show h3 _ gV gV
noncomputable abbrev Ent:=List (Nat×Nat)
def gb(L:Ent):Prop:=(L.map (·.1)).Pairwise (·<·)
def Wj{L:Ent}(hs:gb L)(j:Nat):∃La Lb,L=La++Lb/\below (L.map (·.1)).toArray j=La.length/\(∀e∈La,e.1<j)/\∀e∈Lb,j<=e.1:=by
 let⟨h1,h2,h3⟩:=zfJ hs j;generalize below (L.map (·.1)).toArray j=b at h1 h2 h3;rw[bY]at h1;show⟨L.take b,L.drop b,(Ri b L).symm,by rw[zQ];lia,λe he=>h2 _ ?_,λe he=>h3 _ ?_⟩
 .rw[<-List.map_take];show ud he
 .rw[<-List.map_drop];show ud he
def zlE{La Lb:Ent}{e:Nat×Nat}(h:gb (La++e::Lb)):(∀x∈La,x.1<e.1)/\∀x∈Lb,e.1<x.1:=by
 unfold gb at h;rw[lG,jw,BJ]at h;show⟨λx hx=>h.2.2 _ (ud hx) _ fK,λx hx=>?_⟩;show(xV.mp h.2.1).1 _ (ud hx)
def zjQ{La Lb:Ent}{e:Nat×Nat}(h:gb (La++Lb))(ha:∀x∈La,x.1<e.1)(hb:∀x∈Lb,e.1<x.1):gb (La++e::Lb):=by
 unfold gb at h ⊢;rw[lG,BJ]at h;rw[lG,jw,BJ];show⟨h.1,xV.mpr ⟨λx hx=>?_,h.2.1⟩,λx hx y hy=>?_⟩
 .obtain⟨z,hz,rfl⟩:=gM.mp hx;show hb z hz
 .rcases cX.mp hy with rfl|hy
  .obtain⟨z,hz,rfl⟩:=gM.mp hx;show ha z hz
  .exact h.2.2 x hx y hy
def zho{j:Nat}:has #[] j=false:=by unfold has;rfl
def zlJ{t:SetTable}{L:Ent}(ht:t.place=(L.map (·.1)).toArray)(hd:t.dummies=#[])(hs:gb L)(j:Nat) :
  (∃La k Lb,L=La++(j,k)::Lb/\t.slot j=.live La.length)\/((∀e∈L,e.1≠j)/\t.slot j=.empty):=by
 let⟨La,Lb,e,hb,h1,h2⟩:=Wj hs j;let m6:t.slot j=if (L.map (·.1)).toArray[La.length]?==some j then .live La.length else if has t.dummies j then .dummy else .empty:=by
  unfold slot;rw[ht,hb]
 rw[hd,zho]at m6;let hg:(L.map (·.1)).toArray[La.length]?=(Lb.map (·.1))[0]?:=by
  rw[Ga,e,lG,pO Zaa];simp
 rw[hg]at m6;cases Lb with
 |nil=>
  right
  show⟨λx hx=>?_,by rw[m6];rfl⟩;rw[e,zV]at hx;show cR (h1 x hx)
 |cons x Lb=>
  by_cases hx:x.1=j
  .left
   show⟨La,x.2,Lb,by rw[e,<-hx],?_⟩;rw[m6,if_pos (by simp[hx])]
  .right
   let hgt:j<x.1:=by let:=h2 x fK;lia
   rw[e]at hs;let⟨_,a2⟩:=zlE hs;show⟨λy hy=>?_,by rw[m6,if_neg (by simp[hx])];rfl⟩;rw[e]at hy;rcases gA.mp hy with hy|hy
   .exact cR (h1 y hy)
   .rcases cX.mp hy with rfl|hy
    .exact hx
    .let:=a2 y hy;lia
def zbe{α:Type}(a b:List α)(x:α):insertAt (a++b).toArray a.length x=(a++x::b).toArray:=by
 unfold insertAt;apply Array.toList_inj.mp;simp
def zoW{t:SetTable}{L:Ent}(ht:t.place=(L.map (·.1)).toArray)(hd:t.dummies=#[])(hs:gb L){j:Nat}(hj:∀e∈L,e.1≠j)(k:Nat) :
  ∃La Lb,L=La++Lb/\t.put j=({t with place:=((La++(j,k)::Lb).map (·.1)).toArray},La.length)/\gb (La++(j,k)::Lb):=by
 let⟨La,Lb,e,hb,h1,h2⟩:=Wj hs j;show⟨La,Lb,e,?_,?_⟩
 .unfold put;rw[hd,zho,ht,hb];dsimp only;let:insertAt (L.map (·.1)).toArray La.length j=((La++(j,k)::Lb).map (·.1)).toArray:=by
   rw[e,lG];let:=zbe (La.map (·.1)) (Lb.map (·.1)) j;rw[bY]at this;rw[this,lG,jw]
  rw[this];simp[hd]
 .rw[e]at hs;show zjQ hs (λx hx=>h1 x hx) (λx hx=>by
   let:=h2 x hx;let:=hj x (by rw[e];show pP _ hx);change j<x.1
   lia)
def fU(m:Nat)(p:Probe):Probe:=
 if p.more>0 then {p with j:=p.j+1,more:=p.more-1} else {p with j:=(leap m p.i p.perturb).1,more:=runEnd m (leap m p.i p.perturb).1-(leap m p.i p.perturb).1,i:=(leap m p.i p.perturb).1,perturb:=(leap m p.i p.perturb).2}
theorem zfK(t:SetTable)(p:Probe):t.advance p=fU t.mask p:=rfl
def xH(m i pt:Nat):Probe:={j:=i,more:=runEnd m i-i,i,perturb:=pt,dummy:=none}
def start(m:Nat)(h:Int):Probe:=xH m (bits h%(m+1)) (bits h)
def steps(m:Nat):Nat->Probe->List Nat
 |0,_=>[]|n+1,p=>p.j::steps m n (fU m p)
def zgp{m:Nat}{p:Probe}(h:p.dummy=none):(fU m p).dummy=none:=by unfold fU;split<;>show h
def Taken(hk:Nat->Int)(L:Ent)(h:Int)(pre:List Nat):Prop:=∀x∈pre,∃e∈L,e.1=x/\hk e.2≠h
def uG(hk:Nat->Int)(L:Ent)(h:Int)(js:List Nat)(j:Nat):Prop:=∃pre post,js=pre++j::post/\Taken hk L h pre
theorem zhB{t:SetTable}{L:Ent}{hk:Nat->Int}{hashAt:Nat->Int}{h:Int}(ht:t.place=(L.map (·.1)).toArray)(hd:t.dummies=#[])(hs:gb L)(hH:∀La e Lb,L=La++e::Lb->hashAt La.length=hk e.2) :
  ∀(fuel:Nat) (p:Probe),p.dummy=none->match probe.go t hashAt h fuel p with
   |none=>∀j∈steps t.mask fuel p,∃e∈L,e.1=j|some (.empty j d)=>d=none/\(∀e∈L,e.1≠j)/\uG hk L h (steps t.mask fuel p) j|some (.candidate j i next)=>∃La k Lb,L=La++(j,k)::Lb/\i=La.length/\hk k=h
 |0,p,hp=>by unfold probe.go;intro j hj;cases hj|fuel+1,p,hp=>by
  unfold probe.go;rcases zlJ ht hd hs p.j with ⟨La,k,Lb,e,m6⟩|⟨Sq,m6⟩
  .rw[m6];dsimp only;let hh:hashAt La.length=hk k:=hH La (p.j,k) Lb e;rw[hh];by_cases hc:hk k=h
   .rw[if_pos (by simpa using hc)];show⟨La,k,Lb,e,rfl,hc⟩
   .rw[if_neg (by simpa using hc),zfK];let ih:=zhB ht hd hs hH (h:=h) fuel (fU t.mask p) (zgp hp);let Ey:(p.j,k)∈L:=by rw[e];simp
    cases hg:probe.go t hashAt h fuel (fU t.mask p) with
    |none=>
     rw[hg]at ih;intro j hj;rcases cX.mp (show j∈p.j::steps t.mask fuel (fU t.mask p) from hj) with rfl|hj
     .exact⟨_,Ey,rfl⟩
     .exact ih j hj
    |some met=>
     rw[hg]at ih;cases met with
     |empty j d=>
      let⟨a1,a2,pre,post,a3,a4⟩:=ih;show⟨a1,a2,p.j::pre,post,by change p.j::steps t.mask fuel (fU t.mask p)=_;rw[a3];rfl,λx hx=>?_⟩;rcases cX.mp hx with rfl|hx
      .exact⟨_,Ey,rfl,hc⟩
      .exact a4 x hx
     |candidate j i next=>show ih
  .rw[m6];show⟨hp,Sq,[],steps t.mask fuel (fU t.mask p),rfl,λx hx=>by cases hx⟩
theorem zd7{P:Nat->Prop}{j j':Nat}:∀{pre post pre' post':List Nat},pre++j::post=pre'++j'::post'->(∀x∈pre,P x)->¬P j->(∀x∈pre',P x)->¬P j'->j=j'
 |[],_,[],_,e,_,_,_,_=>by cases e;rfl|[],_,x::pre',_,e,_,hj,h',_=>by cases e;show absurd (h' _ fK) hj|x::pre,_,[],_,e,h,_,_,Lp=>by cases e;show absurd (h _ fK) Lp|x::pre,post,y::pre',post',e,h,hj,h',Lp=>by
  injection e with _ e;show zd7 e (λz hz=>h z (dI _ hz)) hj (λz hz=>h' z (dI _ hz)) Lp
structure Tab(hk:Nat->Int)(t:SetTable)(L:Ent):Prop where
 place:t.place=(L.map (·.1)).toArray
 Ez:t.dummies=#[]
 asc:gb L
 inj:∀e∈L,∀e'∈L,hk e.2=hk e'.2->e=e'
 Lq:∀e∈L,uG hk L (hk e.2) (steps t.mask (10*turns t.mask) (start t.mask (hk e.2))) e.1
def Wide(m c:Nat)(h:Int):Prop:=∃l:List Nat,l.Nodup/\c<=l.length/\∀x∈l,x∈steps m (10*turns m) (start m h)
def zh7{L:Ent}(h:gb L){e e':Nat×Nat}(he:e∈L)(tX:e'∈L)(q:e.1=e'.1):e=e':=by
 let⟨i,hi,rfl⟩:=zO.mp he;let⟨k,hk,rfl⟩:=zO.mp tX;let hp:=t_.mp h;rcases Rx i k with z|z|z
 .let:=hp i k (by simpa using hi) (by simpa using hk) z;simp at this;lia
 .subst z;rfl
 .let:=hp k i (by simpa using hk) (by simpa using hi) z;simp at this;lia
theorem Wm{α:Type}[DecidableEq α]:∀{l m:List α},l.Nodup->l ⊆ m->l.length<=m.length
 |[],_,_,_=>lH _|x::l,m,hn,h=>by
  let hx:x∈m:=h fK;rw[sE]at hn;let ih:=Wm (m:=m.erase x) hn.2 λy hy=>(List.mem_erase_of_ne (λe=>hn.1 (by rw[<-e];show hy))).mpr (h (dI _ hy));let:=List.length_erase_of_mem hx;let:=List.length_pos_of_mem hx;rw[eN]
  lia
def few{L:Ent}{l:List Nat}(hn:l.Nodup)(hl:∀x∈l,∃e∈L,e.1=x):l.length<=L.length:=by
 let h:l ⊆ L.map (·.1):=λx hx=>by let⟨e,he,q⟩:=hl x hx;show gM.mpr ⟨e,he,q⟩
 let:=Wm hn h
 rwa [bY]at this
def zic{t:SetTable}{L:Ent}{hk:Nat->Int}{hashAt:Nat->Int}{h:Int}(T:Tab hk t L)(hH:∀La e Lb,L=La++e::Lb->hashAt La.length=hk e.2){c:Nat}(hw:Wide t.mask c h)(hc:L.length<c) :
  (∃La j k Lb next,t.probe hashAt h (t.probeStart h)=some (.candidate j La.length next)/\L=La++(j,k)::Lb/\hk k=h) \/
  (∃j,t.probe hashAt h (t.probeStart h)=some (.empty j none)/\(∀e∈L,hk e.2≠h)/\(∀e∈L,e.1≠j)/\uG hk L h (steps t.mask (10*turns t.mask) (start t.mask h)) j):=by
 let g:=zhB (h:=h) T.place T.Ez T.asc hH (10*turns t.mask) (start t.mask h) rfl;let e0:t.probe hashAt h (t.probeStart h)=probe.go t hashAt h (10*turns t.mask) (start t.mask h):=rfl;rw[e0];cases hg:probe.go t hashAt h (10*turns t.mask) (start t.mask h) with
 |none=>
  rw[hg]at g;let⟨l,l1,l2,l3⟩:=hw;let:=few l1 λx hx=>g x (l3 x hx);omega
 |some met=>
  rw[hg]at g;cases met with
  |candidate j i next=>
   let⟨La,k,Lb,a1,rfl,a3⟩:=g;show .inl ⟨La,j,k,Lb,next,rfl,a1,a3⟩
  |empty j d=>
   let⟨rfl,a2,a3⟩:=g;show .inr ⟨j,rfl,λe he q=>?_,a2,a3⟩;let⟨pre,post,b1,b2⟩:=a3;let⟨pre',post',c1,c2⟩:=T.Lq e he;rw[q]at c1 c2;let:j=e.1:=zd7 (P:=λx=>∃e∈L,e.1=x/\hk e.2≠h) (b1.symm.trans c1) b2 (λ⟨e',h1,h2,_⟩=>a2 e' h1 h2) c2 (λ⟨e',h1,h2,h3⟩=>h3 (by rw[zh7 T.asc h1 he h2];show q));show a2 e he this.symm
def Tab.add(T:Tab hk t (La++Lb))(ha:gb (La++(j,k)::Lb))(hn:∀e∈La++Lb,hk e.2≠hk k)(hf:uG hk (La++Lb) (hk k) (steps t.mask (10*turns t.mask) (start t.mask (hk k))) j) :
  Tab hk {t with place:=((La++(j,k)::Lb).map (·.1)).toArray} (La++(j,k)::Lb):=by
 let ao:∀e∈La++Lb,e∈La++(j,k)::Lb:=λe he=>by
  rcases gA.mp he with z|z
  .exact uc _ z
  .exact pP _ (dI _ z)
 let cas:∀e∈La++(j,k)::Lb,e=(j,k)\/e∈La++Lb:=λe he=>by
  rcases gA.mp he with z|z
  .exact .inr (uc _ z)
  .rcases cX.mp z with z|z
   .exact .inl z
   .exact .inr (pP _ z)
 let mono:∀{h js x},uG hk (La++Lb) h js x->uG hk (La++(j,k)::Lb) h js x:=λ⟨pre,post,a,b⟩=>⟨pre,post,a,λx hx=>let ⟨e,h1,h2⟩:=b x hx;⟨e,ao e h1,h2⟩⟩;show⟨rfl,T.Ez,ha,λe he e' tX q=>?_,λe he=>?_⟩
 .rcases cas e he with rfl|z<;>rcases cas e' tX with rfl|z'
  .rfl
  .exact absurd q.symm (hn e' z')
  .exact absurd q (hn e z)
  .exact T.inj e z e' z' q
 .rcases cas e he with rfl|z
  .exact mono hf
  .exact mono (T.Lq e z)
def rounds(m:Nat):Nat->Nat->Nat->List Nat
 |0,_,_=>[]|f+1,i,pt=>(List.range (runEnd m i+1-i)).map (i+·)++rounds m f (leap m i pt).1 (leap m i pt).2
theorem zdV:∀(c f:Nat) (p:Probe),p.more=c->p.dummy=none->steps m (c+1+f) p=(List.range (c+1)).map (p.j+·)++steps m f (xH m (leap m p.i p.perturb).1 (leap m p.i p.perturb).2)
 |0,f,p,hc,hd=>by
  let e:fU m p=xH m (leap m p.i p.perturb).1 (leap m p.i p.perturb).2:=by
   unfold fU xH;rw[if_neg gV,hd]
  rw[show 0+1+f=f+1 by lia];change p.j::steps m f (fU m p)=_;rw[e];rfl
 |c+1,f,p,hc,hd=>by
  let e:fU m p={p with j:=p.j+1,more:=p.more-1}:=by
   unfold fU;rw[if_pos gV]
  rw[show c+1+1+f=(c+1+f)+1 by lia];change p.j::steps m (c+1+f) (fU m p)=_;rw[e,zdV c f {p with j:=p.j+1,more:=p.more-1} (by change p.more-1=c;lia) hd];rw[Rf (n:=c+1),jw,nM,List.cons_append]
  congr 1
  congr 1
  apply Nh;intro x _;change p.j+1+x=p.j+(x+1)
  lia
theorem zcw:∀(a b:Nat) (p:Probe),∃r,steps m (a+b) p=steps m a p++r
 |0,b,p=>⟨steps m (0+b) p,rfl⟩|a+1,b,p=>by
  let⟨r,e⟩:=zcw a b (fU m p);show⟨r,?_⟩;rw[show a+1+b=(a+b)+1 by lia];change p.j::steps m (a+b) (fU m p)=p.j::steps m a (fU m p)++r;rw[e];rfl
def zjT:runEnd m i-i=9\/runEnd m i-i=0:=by
 unfold runEnd
 split<;>lia
def zm5:i<=runEnd m i:=by
 unfold runEnd
 split<;>lia
theorem Wn{m:Nat}:∀(f i pt:Nat),∃post,steps m (10*f) (xH m i pt)=rounds m f i pt++post
 |0,i,pt=>⟨[],rfl⟩|f+1,i,pt=>by
  let⟨post,e⟩:=Wn (m:=m) f (leap m i pt).1 (leap m i pt).2;let⟨r,e2⟩:=zcw (m:=m) (10*f) (9-(runEnd m i-i)) (xH m (leap m i pt).1 (leap m i pt).2);let hr:=zjT (m:=m) (i:=i);let hg:=zm5 (m:=m) (i:=i);show⟨post++r,?_⟩;let h1:10*(f+1)=(runEnd m i-i)+1+(10*f+(9-(runEnd m i-i))):=by lia
  rw[h1,zdV (runEnd m i-i) _ (xH m i pt) rfl rfl];change (List.range (runEnd m i-i+1)).map (i+·)++steps m (10*f+(9-(runEnd m i-i))) (xH m (leap m i pt).1 (leap m i pt).2)=(List.range (runEnd m i+1-i)).map (i+·)++rounds m f (leap m i pt).1 (leap m i pt).2++(post++r);rw[e2,e,show runEnd m i+1-i=runEnd m i-i+1 by omega];simp only[BR]
theorem Wo{m:Nat}:∀(f i pt:Nat),i<=m->∀x∈rounds m f i pt,x<=m
 |0,_,_,_,x,hx=>by cases hx|f+1,i,pt,hi,x,hx=>by
  rcases gA.mp (show x∈(List.range (runEnd m i+1-i)).map (i+·)++rounds m f (leap m i pt).1 (leap m i pt).2 from hx) with z|z
  .obtain⟨k,hk,rfl⟩:=gM.mp z;rw[gZ]at hk;unfold runEnd at hk;split at hk<;>lia
  .exact Wo f _ _ (by change (i*5+1+pt/32)%(m+1)<=m;let:=Nat.mod_lt (i*5+1+pt/32) (show 0<m+1 by lia);omega) x z
theorem zea{m:Nat}{owner:Array (Option Nat)}:∀(f i pt:Nat),match layClean.free m owner f i pt with
  |none=>∀x∈rounds m f i pt,(owner.getD x (some 0)).isNone=false|some j=>∃pre post,rounds m f i pt=pre++j::post/\(owner.getD j (some 0)).isNone=true/\∀x∈pre,(owner.getD x (some 0)).isNone=false
 |0,i,pt=>by unfold layClean.free;intro x hx;cases hx|f+1,i,pt=>by
  unfold layClean.free;cases hf:(List.range (runEnd m i+1-i)).find? λk=>(owner.getD (i+k) (some 0)).isNone with
  |some k=>
   dsimp only;let⟨h1,as,bs,h2,h3⟩:=List.find?_eq_some_iff_append.mp hf;show⟨as.map (i+·),bs.map (i+·)++rounds m f (leap m i pt).1 (leap m i pt).2,?_,h1,λx hx=>?_⟩
   .show (List.range (runEnd m i+1-i)).map (i+·)++_=_;rw[h2];simp
   .obtain⟨a,ha,rfl⟩:=gM.mp hx;simpa using h3 a ha
  |none=>
   let hn:=Nk.mp hf;let Lr:∀x∈(List.range (runEnd m i+1-i)).map (i+·),(owner.getD x (some 0)).isNone=false:=λx hx=>by
    let⟨a,ha,rfl⟩:=gM.mp hx;show Bool.eq_false_iff.mpr (hn a ha)
   let ih:=zea (m:=m) (owner:=owner) f (leap m i pt).1 (leap m i pt).2;change match layClean.free m owner f (leap m i pt).1 (leap m i pt).2 with
    |none=>∀x∈rounds m (f+1) i pt,(owner.getD x (some 0)).isNone=false|some j=>∃pre post,rounds m (f+1) i pt=pre++j::post/\(owner.getD j (some 0)).isNone=true/\∀x∈pre,(owner.getD x (some 0)).isNone=false
   cases hg:layClean.free m owner f (leap m i pt).1 (leap m i pt).2 with
   |none=>
    rw[hg]at ih;intro x hx;rcases gA.mp (show x∈(List.range (runEnd m i+1-i)).map (i+·)++rounds m f (leap m i pt).1 (leap m i pt).2 from hx) with z|z
    .exact Lr x z
    .exact ih x z
   |some j=>
    rw[hg]at ih;let⟨pre,post,a1,a2,a3⟩:=ih;show⟨(List.range (runEnd m i+1-i)).map (i+·)++pre,post,?_,a2,λx hx=>?_⟩
    .show (List.range (runEnd m i+1-i)).map (i+·)++rounds m f (leap m i pt).1 (leap m i pt).2=_;rw[a1,BR]
    .rcases gA.mp hx with z|z
     .exact Lr x z
     .exact a3 x z
structure Own(m:Nat)(owner:Array (Option Nat))(O:Ent):Prop where
 size:owner.size=m+1
 at':∀x k,owner[x]?=some (some k)↔(x,k)∈O
def Own.yes{m:Nat}{owner:Array (Option Nat)}{O:Ent}(h:Own m owner O){x:Nat}(hx:x<=m)(q:(owner.getD x (some 0)).isNone=false):∃e∈O,e.1=x:=by
 let hs:x<owner.size:=by rw[h.size];lia
 let e:owner.getD x (some 0)=owner[x]:=by simp[hs]
 rw[e]at q;cases hc:owner[x] with
 |none=>rw[hc]at q;cases q|some k=>show⟨(x,k),(h.at' x k).mp (by rw[xR hs,hc]),rfl⟩
def Own.no{m:Nat}{owner:Array (Option Nat)}{O:Ent}(h:Own m owner O){x:Nat}(q:(owner.getD x (some 0)).isNone=true):x<owner.size/\∀e∈O,e.1≠x:=by
 let hs:x<owner.size:=by
  rcases Gp x owner.size with z|z
  .exact z
  .rw[show owner.getD x (some 0)=some 0 by simp[HB.mpr z]]at q;cases q
 let e:owner.getD x (some 0)=owner[x]:=by simp[hs]
 rw[e]at q;show⟨hs,λe he z=>?_⟩;let:=(h.at' e.1 e.2).mpr he;rw[z,xR hs]at this;rw[dD this]at q;cases q
def Own.set{m:Nat}{owner:Array (Option Nat)}{O:Ent}(h:Own m owner O){x k:Nat}(hs:x<owner.size)(hn:∀e∈O,e.1≠x):Own m (owner.setIfInBounds x (some k)) (O++[(x,k)]):=by
 show⟨by rw[Array.size_setIfInBounds];show h.size,λy l=>?_⟩;rw[Array.getElem?_setIfInBounds];by_cases e:x=y
 .subst e;rw[if_pos rfl,if_pos hs]
  constructor
  .intro z;cases z;simp
  .intro z;rcases gA.mp z with z|z
   .exact absurd rfl (hn _ z)
   .simp at z;rw[z]
 .rw[if_neg e,h.at' y l]
  constructor
  .exact λz=>uc _ z
  .intro z;rcases gA.mp z with z|z
   .exact z
   .simp at z;show absurd z.1.symm e
def gj(m c:Nat)(h:Int):Prop:=∃l:List Nat,l.Nodup/\c<=l.length/\∀x∈l,x∈rounds m (turns m) (bits h%(m+1)) (bits h)
def gj.wide(w:gj m c h):Wide m c h:=by
 let⟨l,a,b,d⟩:=w;let⟨post,e⟩:=Wn (m:=m) (turns m) (bits h%(m+1)) (bits h);show⟨l,a,b,λx hx=>?_⟩;change x∈steps m (10*turns m) (xH m (bits h%(m+1)) (bits h));rw[e];show uc _ (d x hx)
structure Lay(m:Nat)(hk:Nat->Int)(owner:Array (Option Nat))(k:Nat)(O:Ent):Prop where
 own:Own m owner O
 ids:O.map (·.2)=List.range k
 slots:(O.map (·.1)).Nodup
 le:∀e∈O,e.1<=m
 Lq:∀e∈O,uG hk O (hk e.2) (steps m (10*turns m) (start m (hk e.2))) e.1
def jZ(m:Nat)(acc:Option (Array (Option Nat)×Nat))(h:Int):Option (Array (Option Nat)×Nat):=do
  let (owner,k) <-acc
  let j <-layClean.free m owner (turns m) (bits h%(m+1)) (bits h)
  pure (owner.setIfInBounds j (some k),k+1)
theorem zeS{m c:Nat}{hs:List Int}(hw:∀h∈hs,gj m c h)(hc:hs.length<=c)(hd:hs.Nodup):∀(rest:List Int) (k:Nat) (owner:Array (Option Nat)) (O:Ent),hs.drop k=rest->k<=hs.length->Lay m (λi=>hs.getD i 0) owner k O->
  ∃nF O',rest.foldl (jZ m) (some (owner,k))=some (nF,hs.length)/\Lay m (λi=>hs.getD i 0) nF hs.length O'
 |[],k,owner,O,e,hk,L=>by
  let:hs.length<=k:=List.drop_eq_nil_iff.mp e;let:k=hs.length:=by lia
  subst this;show⟨owner,O,rfl,L⟩
 |h::rest,k,owner,O,e,hk,L=>by
  let hlt:k<hs.length:=by
   rcases Gp k hs.length with z|z
   .exact z
   .rw[List.drop_eq_nil_iff.mpr z]at e;cases e
  let e':=e;rw[MP hlt]at e';injection e' with eh er;let hOl:O.length=k:=by let:=nO List.length L.ids;simpa using this
  let hgk:hs.getD k 0=h:=by rw[<-eh];simp[hlt]
  let hmh:h∈hs:=by rw[<-eh];show sy _
  let f:=zea (m:=m) (owner:=owner) (turns m) (bits h%(m+1)) (bits h);let Ls:bits h%(m+1)<=m:=by let:=Nat.mod_lt (bits h) (show 0<m+1 by lia);lia
  let hne:∀e∈O,hs.getD e.2 0≠h:=λx hx q=>by
   let yO:x.2∈List.range k:=by rw[<-L.ids];show ud hx
   rw[gZ]at yO;let g1:hs.getD x.2 0=hs[x.2]:=by simp[show x.2<hs.length by lia]
   rw[g1,<-eh]at q;let:=(Bw.mp hd);show t_.mp this x.2 k gV hlt yO q
  cases hg:layClean.free m owner (turns m) (bits h%(m+1)) (bits h) with
  |none=>
   rw[hg]at f;let⟨l,l1,l2,l3⟩:=hw h hmh;let:=few (L:=O) l1 λx hx=>L.own.yes (Wo _ _ _ Ls x (l3 x hx)) (f x (l3 x hx))
   lia
  |some j=>
   rw[hg]at f;let⟨pre,post,a1,a2,a3⟩:=f;let⟨Bj,hjn⟩:=L.own.no a2;let hjm:j<=m:=by let:=L.own.size;lia
   let EY:uG (λi=>hs.getD i 0) O h (steps m (10*turns m) (start m h)) j:=by
    let⟨post2,e2⟩:=Wn (m:=m) (turns m) (bits h%(m+1)) (bits h);show⟨pre,post++post2,?_,λx hx=>?_⟩
    .show steps m (10*turns m) (xH m (bits h%(m+1)) (bits h))=_;rw[e2,a1,BR,List.cons_append]
    .obtain⟨e,he,q⟩:=L.own.yes (Wo _ _ _ Ls x (by rw[a1];show uc _ hx)) (a3 x hx);show⟨e,he,q,hne e he⟩
   let mono:∀{h js x},uG (λi=>hs.getD i 0) O h js x->uG (λi=>hs.getD i 0) (O++[(j,k)]) h js x:=λ⟨pre,post,a,b⟩=>⟨pre,post,a,λx hx=>let ⟨e,h1,h2⟩:=b x hx;⟨e,uc _ h1,h2⟩⟩;let L':Lay m (λi=>hs.getD i 0) (owner.setIfInBounds j (some k)) (k+1) (O++[(j,k)]):=by
    show⟨L.own.set Bj hjn,by rw[lG,L.ids,List.range_succ];rfl,?_,λe he=>?_,λe he=>?_⟩
    .rw[lG,Nr];show⟨L.slots,by simp,λa ha b hb=>?_⟩;let⟨x,hx,rfl⟩:=gM.mp ha;simp at hb;rw[hb];show hjn x hx
    .rcases gA.mp he with z|z
     .exact L.le e z
     .simp at z;rw[z];show hjm
    .rcases gA.mp he with z|z
     .exact mono (L.Lq e z)
     .simp at z;rw[z];change uG _ _ (hs.getD k 0) (steps m (10*turns m) (start m (hs.getD k 0))) j;rw[hgk];show mono EY
   let⟨nF,O',b1,b2⟩:=zeS hw hc hd rest (k+1) _ _ er hlt L';show⟨nF,O',?_,b2⟩;rw[List.foldl_cons];let:jZ m (some (owner,k)) h=some (owner.setIfInBounds j (some k),k+1):=by
    unfold jZ;change (layClean.free m owner (turns m) (bits h%(m+1)) (bits h)).bind _=_;rw[hg];rfl
   rw[this];show b1
theorem Wq{m:Nat}:Own m (Array.replicate (m+1) none) []:=⟨by simp,λx k=>by
 constructor
 .intro h;rw[Array.getElem?_replicate]at h;split at h<;>cases h
 .intro h;cases h⟩
def zhU{m c:Nat}{hs:List Int}(hw:∀h∈hs,gj m c h)(hc:hs.length<=c)(hd:hs.Nodup):∃owner O,layClean m hs.toArray=some owner/\Lay m (λi=>hs.getD i 0) owner hs.length O:=by
 let⟨owner,O,a,b⟩:=zeS hw hc hd hs 0 _ [] rfl (lH _) ⟨Wq,rfl,by simp,(λe he=>by cases he),λe he=>by cases he⟩;show⟨owner,O,?_,b⟩;unfold layClean;rw[List.foldl_toArray];change (hs.foldl (jZ m) (some (Array.replicate (m+1) none,0))).map (·.1)=_;rw[a];rfl
def cU(m:Nat)(owner:Array (Option Nat)):Ent:=(List.range (m+1)).filterMap λj=>(owner.getD j none).map (j,·)
def zil(h:Own m owner O):e∈cU m owner↔e∈O:=by
 unfold cU;rw[Ni]
 constructor
 .rintro⟨j,hj,q⟩;rw[jR]at q;let⟨k,q1,rfl⟩:=q;rw[<-h.at'];rw[gZ]at hj;let hs:j<owner.size:=by rw[h.size];show hj
  let e:owner.getD j none=owner[j]:=by simp[hs]
  rw[xR hs,<-e,q1]
 .intro he;let q:=(h.at' e.1 e.2).mpr he;let⟨hs,q2⟩:=FT.mp q;show⟨e.1,by rw[gZ,<-h.size];show hs,?_⟩;let e1:owner.getD e.1 none=owner[e.1]:=by simp[hs]
  rw[e1,q2];rfl
def zeX{m:Nat}{owner:Array (Option Nat)}:gb (cU m owner):=by
 unfold gb cU;rw[wG];show List.Pairwise.filterMap _ (R:=(·<·)) (λa a' hlt b hb b' hb'=>?_) List.pairwise_lt_range;let⟨_,_,rfl⟩:=jR.mp hb;let⟨_,_,rfl⟩:=jR.mp hb';show hlt
def zhm{m k:Nat}{hk:Nat->Int}{owner:Array (Option Nat)}{O:Ent}(h:Lay m hk owner k O):(cU m owner).Perm O:=by
 show(List.perm_ext_iff_of_nodup ?_ ?_).mpr λe=>zil h.own
 .let:=zeX (m:=m) (owner:=owner);unfold gb at this;rw[wG]at this;show Bw.mpr (this.imp λz q=>by rw[q]at z;show oF _ z)
 .let:=Bw.mp h.slots;rw[wG]at this;show Bw.mpr (this.imp λz q=>z (by rw[q]))
def Wr{α:Type}{l:List α}(h:l.Nodup){i j:Nat}(hi:i<l.length)(hj:j<l.length)(e:l[i]=l[j]):i=j:=by
 let p:=t_.mp (Bw.mp h);rcases Rx i j with z|z|z
 .exact absurd e (p i j hi hj z)
 .exact z
 .exact absurd e.symm (p j i hj hi z)
def ziG{t:SetTable}{L:Ent}{hk:Nat->Int}(T:Tab hk t L){wanted c:Nat}(hw:∀e∈L,gj (sizeAbove wanted-1) c (hk e.2))(hc:L.length<=c) :
  ∃(ord:List Nat) (L':Ent),t.relaid (L.map λe=>hk e.2).toArray wanted=some ({t with mask:=sizeAbove wanted-1,moves:=t.movedTo (sizeAbove wanted-1),place:=(L'.map (·.1)).toArray},ord.toArray) /\
   ord.length=L.length/\(∀i∈ord,i<L.length)/\L'.map (·.2)=ord.map (λi=>(L.getD i (0,0)).2)/\L'.length=L.length/\(L'.map (·.2)).Perm (L.map (·.2)) /\
   Tab hk {t with mask:=sizeAbove wanted-1,moves:=t.movedTo (sizeAbove wanted-1),place:=(L'.map (·.1)).toArray} L':=by
 generalize hm:sizeAbove wanted-1=m at hw;let wN:(L.map λe=>hk e.2).Nodup:=by
  rw[Bw,wG];let:=T.asc;unfold gb at this;rw[wG,t_]at this;rw[t_];intro i j hi hj lW q;let e:=T.inj _ (sy hi) _ (sy hj) q;let:=this i j hi hj lW;rw[e]at this;show oF _ this
 let⟨owner,O,h1,h2⟩:=zhU (m:=m) (c:=c) (hs:=L.map λe=>hk e.2) (λh hh=>by let⟨e,he,rfl⟩:=gM.mp hh;show hw e he) (by rw[bY];show hc) wN;rw[bY]at h2;let hp:=zhm h2;let Lw:((cU m owner).map (·.2)).Perm (List.range L.length):=by rw[<-h2.ids];show hp.map _
 let hlt:∀e∈cU m owner,e.2<L.length:=λe he=>by
  let:=Lw.mem_iff.mp (ud (f:=(·.2)) he);simpa using this
 let Qf:∀e∈O,(L.map λe=>hk e.2).getD e.2 0=hk (L.getD e.2 (0,0)).2:=λe he=>by
  let:=hlt e (hp.mem_iff.mpr he);simp[this]
 show⟨(cU m owner).map (·.2),(cU m owner).map λe=>(e.1,(L.getD e.2 (0,0)).2),?_,?_,?_,?_,?_,?_,?_⟩
 .unfold relaid laid;rw[hm,h1];change some (_,_)=some (_,_)
  congr 2
  .rw[nM];change SetTable.mk _ _ _ _ _ _ _=SetTable.mk _ _ _ _ _ _ _;rw[T.Ez];rfl
 .rw[bY,hp.length_eq];let:=nO List.length h2.ids;simpa using this
 .intro i hi;let⟨e,he,rfl⟩:=gM.mp hi;show hlt e he
 .rw[nM,nM];rfl
 .rw[bY,hp.length_eq];let:=nO List.length h2.ids;simpa using this
 .rw[nM];let q1:((cU m owner).map ((λx=>x.2)∘λe=>(e.1,(L.getD e.2 (0,0)).2)))=((cU m owner).map (·.2)).map λi=>(L.getD i (0,0)).2:=by rw[nM];rfl
  rw[q1];let q2:L.map (·.2)=(List.range L.length).map λi=>(L.getD i (0,0)).2:=by
   apply List.ext_getElem
   .simp
   .intro i hi xG;rw[bY]at hi;simp[hi]
  rw[q2];show Lw.map _
 .let Ws:gb ((cU m owner).map λe=>(e.1,(L.getD e.2 (0,0)).2)):=by
   let:=zeX (m:=m) (owner:=owner);unfold gb at this ⊢;rw[nM];show this
  let Wt:∀e∈O,∀e'∈O,hk (L.getD e.2 (0,0)).2=hk (L.getD e'.2 (0,0)).2->e=e':=λe he e' tX q=>by
   let a:=hlt e (hp.mem_iff.mpr he);let a':=hlt e' (hp.mem_iff.mpr tX);rw[<-Qf e he,<-Qf e' tX]at q;let q':(L.map λe=>hk e.2)[e.2]'(by rw[bY];show a)=(L.map λe=>hk e.2)[e'.2]'(by rw[bY];show a'):=by simpa [a,a'] using q
   let e2:e.2=e'.2:=Wr wN _ _ q';let Wu:(O.map (·.2)).Nodup:=by rw[h2.ids];show List.nodup_range
   let⟨i,hi,rfl⟩:=zO.mp he;let⟨i',xG,rfl⟩:=zO.mp tX;let:(O.map (·.2))[i]'(by rw[bY];show hi)=(O.map (·.2))[i']'(by rw[bY];show xG):=by simpa using e2
   let:=Wr Wu _ _ this;subst this;rfl
  show⟨rfl,T.Ez,Ws,λe he e' tX q=>?_,λe he=>?_⟩
  .obtain⟨x,hx,rfl⟩:=gM.mp he;let⟨x',Il,rfl⟩:=gM.mp tX;rw[Wt x (hp.mem_iff.mp hx) x' (hp.mem_iff.mp Il) q]
  .obtain⟨x,hx,rfl⟩:=gM.mp he;let hxO:=hp.mem_iff.mp hx;let⟨pre,post,a,b⟩:=h2.Lq x hxO;rw[Qf x hxO]at a b;show⟨pre,post,a,λy hy=>?_⟩;let⟨z,hz,q1,q2⟩:=b y hy;let q2:hk (L.getD z.2 (0,0)).2≠hk (L.getD x.2 (0,0)).2:=by rw[<-Qf z hz];show q2
   show⟨(z.1,(L.getD z.2 (0,0)).2),ud (f:=λe=>(e.1,(L.getD e.2 (0,0)).2)) (hp.mem_iff.mpr hz),q1,q2⟩
end Ts
namespace Ts
open Mi PySem PySem.SetTable
def hf(p:Int×Int):Int:=reduceHash (Builtin.Tuple.tupleHashOf [hashInt p.1,hashInt p.2])
def dd(l:List Nat):List Nat:=l.foldr (λx r=>if r.contains x then r else x::r) []
def zlw(h:x∈dd l):x∈l:=by
 induction l with
 |nil=>cases h|cons y r ih=>
  let h:x∈(if (dd r).contains y then dd r else y::dd r):=h;split at h
  .exact dI _ (ih h)
  .rcases cX.mp h with rfl|h
   .exact fK
   .exact dI _ (ih h)
theorem Wv:∀l:List Nat,(dd l).Nodup
 |[]=>Gm|y::r=>by
  change (if (dd r).contains y then dd r else y::dd r).Nodup
  split
  .exact Wv r
  .rename_i h;show sE.mpr ⟨by simpa using h,Wv r⟩
theorem zbK:∀(a b i pt:Nat) (x:Nat),x∈rounds m a i pt->x∈rounds m (a+b) i pt
 |0,_,_,_,x,h=>by cases h|a+1,b,i,pt,x,h=>by
  rw[show a+1+b=(a+b)+1 by lia];rcases gA.mp (show x∈(List.range (runEnd m i+1-i)).map (i+·)++rounds m a (leap m i pt).1 (leap m i pt).2 from h) with z|z
  .exact uc _ z
  .exact pP _ (zbK a b _ _ x z)
def rP(m c f:Nat)(h:Int):Bool:=decide (c<=(dd (rounds m f (bits h%(m+1)) (bits h))).length)
def Ww(hf:f<=turns m)(hb:rP m c f h=true):gj m c h:=by
 show⟨dd (rounds m f (bits h%(m+1)) (bits h)),Wv _,ju hb,λx hx=>?_⟩;let:=zbK f (turns m-f) _ _ x (zlw hx)
 rwa [show f+(turns m-f)=turns m by lia]at this
def w28:(iB.all λp=>rP 7 5 13 (hf p)&&rP 31 19 9 (hf p)&&rP 127 29 5 (hf p))=true:=by decide +kernel
def n28:(iB.map hf).Nodup:=by decide +kernel
def gY(p:Int×Int):Prop:=0<=p.1/\p.1<p.2/\p.2<8
def Lx(h:gY p):p∈iB:=by
 let⟨a,b⟩:=p;let⟨h1,h2,h3⟩:=h;dsimp only at h1 h2 h3;let ha:a=0\/a=1\/a=2\/a=3\/a=4\/a=5\/a=6:=by lia
 let hb:b=1\/b=2\/b=3\/b=4\/b=5\/b=6\/b=7:=by lia
 rcases ha with rfl|rfl|rfl|rfl|rfl|rfl|rfl<;>rcases hb with rfl|rfl|rfl|rfl|rfl|rfl|rfl<;>first|(exfalso;lia)|decide
def Wx(h:gY p):gj 7 5 (hf p)/\gj 31 19 (hf p)/\gj 127 29 (hf p):=by
 let:=fB.mp w28 p (Lx h);rw[b_,b_]at this;show⟨Ww W9 this.1.1,Ww W9 this.1.2,Ww W9 this.2⟩
def zkj(h:gY p)(h':gY q)(e:hf p=hf q):p=q:=by
 let⟨i,hi,rfl⟩:=zO.mp (Lx h);let⟨j,hj,rfl⟩:=zO.mp (Lx h');let:(iB.map hf)[i]'(by rw[bY];show hi)=(iB.map hf)[j]'(by rw[bY];show hj):=by simpa using e
 let:=Wr n28 _ _ this;subst this;rfl
end Ts
namespace Ts
open PySem PySem.SetTable
def aU(ts:List (Int×Int))(i:Nat):Int×Int:=ts.getD i (0,1)
def aO(ts:List (Int×Int))(i:Nat):Int:=hf (aU ts i)
def aL(items:List Value)(hk:Nat->Int)(L:Ent):List (Int×Value):=L.map λe=>(hk e.2,items.getD e.2 .none)
structure gq(prog:Program)(w:World)(h:Heap)(S:Addr)(items:List Value)(ts:List (Int×Int)):Prop where
 len:ts.length=items.length
 tie:∀i,i<ts.length->gY (aU ts i)
 at':∀i,i<ts.length->∃a,items.getD i .none=.ref a/\a≠S/\IsTupleKey (intKind prog w) h [(aU ts i).1,(aU ts i).2] a
def wk(m n:Nat):Prop:=m=7/\n<=4\/m=31/\n<=18\/m=127/\n<=28
structure gw(h:Heap)(S:Addr)(items:List Value)(ts:List (Int×Int))(L:Ent)(led:Bool):Prop where
 ob:∃ep t,h.get? S=some {cls:=.type "set",dict:=none,data:=.set (aL items (aO ts) L).toArray ep t}/\Tab (aO ts) t L/\wk t.mask L.length/\t.plain=true/\t.led=led
 idx:∀e∈L,e.2<ts.length
section
variable {prog:Program}{w:World}{A:Around}{E:Value->Shared->Prop}{s:Shared}{S:Addr}{items:List Value}{ts:List (Int×Int)}{L:Ent}{led:Bool}
theorem gq.mono(T:gq prog w h S items ts)(k:∀b o,b≠S->h.get? b=some o->h'.get? b=some o):gq prog w h' S items ts:=
 ⟨T.len,T.tie,λi hi=>let ⟨a,e,n,o,its,m,ho,r⟩:=T.at' i hi;⟨a,e,n,o,its,m,k a o n ho,r⟩⟩
def zjo:(aL items hk (La++e::Lb)).toArray[La.length]?=some (hk e.2,items.getD e.2 .none):=by
 rw[Ga];unfold aL;rw[lG,jw,pO Zaa];simp
def Ly(T:Tab hk t L)(c:wk t.mask L.length):t.fits (aL items hk L).toArray.size=true:=by
 unfold SetTable.fits SetTable.fill aL;rw[T.place,T.Ez];simp only[dR,bY,b_,xW];show⟨zR _,?_⟩;change L.length+0<=t.mask;rcases c with c|c|c<;>lia
def zdA(hk:IsTupleKey (intKind prog w) s.heap [x,y] a)(h:Q true s):wpAny (model prog w) A (hashByValue 8 (.ref a)) Q E s:=by
 let hT:=hk.typeIs;let⟨o,its,n,ho,_,hd,hi⟩:=hk;unfold hashByValue;show au (wpAny_specialOf hT F.slot_tuple_hash.lookup ?_);change wpAny _ _ (seqItems? (.ref a) >>= _) _ _ s;show au (wH ho hd ?_);show au ?_;change wpAny _ _ (forIn its _ _) _ _ s;rw[<-Array.forIn_toList];show Hu _ (λrest r s'=>r.1=none/\s'=s/\∃ks,ItemsAre (intKind prog w) ks rest) _ ?_ ?_ _ _ ⟨rfl,rfl,_,hi⟩
 .rintro v rest r s' ⟨hr,rfl,ks,lK⟩;cases lK with
  |@cons k0 _ _ _ hv hrest=>
   let⟨t,rfl⟩:=Gg hv;let e:hashByValue 7 (.int k0 t)=pure true:=by unfold hashByValue;rfl
   show au ?_;change wpAny _ _ (hashByValue 7 (.int k0 t)) _ _ _;rw[e];show aH ?_;simp only[xY,jt,iR];show aH ⟨rfl,rfl,_,hrest⟩
 .rintro⟨r1,r2⟩ s' ⟨hr,rfl,_⟩;simp only at hr;subst hr;show aH h
def zbb(hk:IsTupleKey (intKind prog w) s.heap [x,y] a)(h:Q false s):wpAny (model prog w) A (ofAClassStatement 8 (.ref a)) Q E s:=by
 let hT:=hk.typeIs;let⟨o,its,n,ho,_,hd,hi⟩:=hk;unfold ofAClassStatement;show au (zY hT ?_);dsimp only;rw[if_pos W9];show au (aH ?_);simp only[xY,jt,iR];show au (wH ho hd ?_);show au ?_;change wpAny _ _ (forIn its _ _) _ _ s;rw[<-Array.forIn_toList];show Hu _ (λrest r s'=>r.1=none/\s'=s/\∃ks,ItemsAre (intKind prog w) ks rest) _ ?_ ?_ _ _ ⟨rfl,rfl,_,hi⟩
 .rintro v rest r s' ⟨hr,rfl,ks,lK⟩;cases lK with
  |@cons k0 _ _ _ hv hrest=>
   let⟨t,rfl⟩:=Gg hv;let e:ofAClassStatement 7 (.int k0 t)=pure false:=by unfold ofAClassStatement;rfl
   show au ?_;change wpAny _ _ (ofAClassStatement 7 (.int k0 t)) _ _ _;rw[e];show aH ?_;simp only[jt,iR];show aH ⟨rfl,rfl,_,hrest⟩
 .rintro⟨r1,r2⟩ s' ⟨hr,rfl,_⟩;simp only at hr;subst hr;show aH h
def zd6(hk:IsTupleKey (intKind prog w) s.heap [x,y] a)(hl:∀v∈l,∃b x' y',v=.ref b/\IsTupleKey (intKind prog w) s.heap [x',y'] b)(h:Q false s):wpAny (model prog w) A (searchCouldBeSeen (.ref a) l) Q E s:=by
 unfold searchCouldBeSeen;show au ?_;show Hu _ (λrest r s'=>r.1=none/\s'=s/\∀v∈rest,∃b x' y',v=.ref b/\IsTupleKey (intKind prog w) s.heap [x',y'] b) _ ?_ ?_ _ _ ⟨rfl,rfl,hl⟩
 .rintro v rest r s' ⟨hr,rfl,lK⟩;let⟨b,x',y',rfl,hb⟩:=lK v fK;let hrest:=λu hu=>lK u (dI _ hu);dsimp only
  split
  .exact aH ⟨rfl,rfl,hrest⟩
  .refine au (wpAny_eqIsQuiet_tuple hk ?_);simp only[xY,jt,iR];show au (wpAny_eqIsQuiet_tuple hb ?_);simp only[xY,jt,iR];show au (zbb hk ?_);simp only[jt,iR];show au (zbb hb ?_);simp only[jt,iR];show aH ⟨rfl,rfl,hrest⟩
 .rintro⟨r1,r2⟩ s' ⟨hr,rfl,_⟩;simp only at hr;subst hr;show aH h
def zkQ(c:wk m n):(m%2==0)=false:=by rcases c with ⟨rfl,_⟩|⟨rfl,_⟩|⟨rfl,_⟩<;>rfl
def zik(c:wk m n)(h:gY p):∃k,Wide m k (hf p)/\n<k:=by
 let⟨a,b,d⟩:=Wx h;rcases c with ⟨rfl,_⟩|⟨rfl,_⟩|⟨rfl,_⟩
 .exact⟨5,a.wide,by lia⟩
 .exact⟨19,b.wide,by lia⟩
 .exact⟨29,d.wide,by lia⟩
def zc9(hu:A.units<cLine)(T:gq prog w s.heap S items ts)(hS:gw s.heap S items ts L led)(hk:k<ts.length)(ha:items.getD k .none=.ref a)
  (jh:∀e∈L,aU ts e.2=aU ts k->Q (.there none) s)
  (hout:∀j,(∀e∈L,aO ts e.2≠aO ts k)->(∀e∈L,e.1≠j)->(∀ep t,s.heap.get? S=some {cls:=.type "set",dict:=none,data:=.set (aL items (aO ts) L).toArray ep t}->uG (aO ts) L (aO ts k) (steps t.mask (10*turns t.mask) (start t.mask (aO ts k))) j)->Q (.free j false) s) :
  wpAny (model prog w) A (setSearchFrom S (.ref a) (aO ts k) true (fuel+1) none) Q E s:=by
 let⟨⟨ep,t,ho,tb,cap,hpl,jm⟩,tY⟩:=hS;let hf':=Ly (items:=items) tb cap;show au (xX ho rfl hf' ?_);dsimp only;let hgw:t.gaveWay=false:=zkQ cap;rw[hgw];simp only[jt,iR];let⟨c,hw,hc⟩:=zik cap (T.tie k hk);let po:=zic (hashAt:=λi=>((aL items (aO ts) L).toArray[i]?.map (·.1)).getD 0) (h:=aO ts k) tb (λLa e Lb q=>by
  subst q;rw[zjo,Option.map_some,Option.getD_some]) hw hc
 split
 .rename_i met hq;let zJ:t.probe (λi=>((aL items (aO ts) L).toArray[i]?.map (·.1)).getD 0) (aO ts k) (t.probeStart (aO ts k))=some met:=hq;rcases po with ⟨La,j,i,Lb,next,e1,e2,e3⟩|⟨j,e1,e2,e3,e4⟩
  .rw[e1]at zJ;cases zJ;dsimp only;let Ey:(j,i)∈L:=by rw[e2];simp
   let hti:aU ts i=aU ts k:=zkj (T.tie i (tY _ Ey)) (T.tie k hk) e3;let sX:(aL items (aO ts) L).toArray[La.length]?=some (aO ts i,items.getD i .none):=by
    let:=zjo (items:=items) (hk:=aO ts) (La:=La) (e:=(j,i)) (Lb:=Lb);rw[<-e2]at this;show this
   let⟨b,Bk,Gw,hb3⟩:=T.at' i (tY _ Ey);let⟨a',tL,Qg,E_⟩:=T.at' k hk;rw[ha]at tL;cases tL;by_cases hl:t.led=true
   .rw[hl];simp only[xY,jt,iR];rw[sX];dsimp only;rw[Bk];show au (iJ (wpAny_eqBool_tuple hu hb3 E_ ?_));rw[hti,cH rfl];show au (xX ho rfl hf' ?_);dsimp only;simp only[Bool.and_self,if_true];show aH (jh _ Ey hti)
   .rw[show t.led=false by simpa using hl];simp only[Bool.not_false,if_true];show au (zd6 E_ (λv hv=>?_) ?_)
    .obtain⟨x,hx,rfl⟩:=gM.mp hv;let Il:x∈(aL items (aO ts) L):=by
      let:=Array.mem_toList_iff.mp hx;rw[Array.mem_filter]at this;simpa using this.1
     let⟨e,he,rfl⟩:=gM.mp Il;let⟨b',c1,_,c3⟩:=T.at' e.2 (tY e he);show⟨b',_,_,c1,c3⟩
    .simp only[jt,iR];rw[sX];dsimp only;rw[Bk];show au (iJ (wpAny_eqBool_tuple hu hb3 E_ ?_));rw[hti,cH rfl];show au (xX ho rfl hf' ?_);dsimp only;simp only[Bool.and_self,if_true];show aH (jh _ Ey hti)
  .rw[e1]at zJ;cases zJ;dsimp only;show aH (hout j e2 e3 λep' t' kI=>?_);rw[ho]at kI;cases kI;show e4
 .rename_i hq;let zJ:∀met,t.probe (λi=>((aL items (aO ts) L).toArray[i]?.map (·.1)).getD 0) (aO ts k) (t.probeStart (aO ts k))≠some met:=hq;rcases po with ⟨La,j,i,Lb,next,e1,_⟩|⟨j,e1,_⟩
  .exact absurd e1 (zJ _)
  .exact absurd e1 (zJ _)
end
end Ts
namespace Ts
open Mi (iB)
open PySem PySem.SetTable
def Lz(ts:List (Int×Int))(L L':Ent)(k:Nat):Prop:=(L'=L/\∃e∈L,aU ts e.2=aU ts k)\/((∀e∈L,aU ts e.2≠aU ts k)/\(L'.map (·.2)).Perm (k::L.map (·.2)))
section
variable {prog:Program}{w:World}{A:Around}{E:Value->Shared->Prop}{s:Shared}{S:Addr}{items:List Value}{ts:List (Int×Int)}{L:Ent}{led:Bool}
def LC{t:SetTable}(T:Tab (aO ts) t L)(ht:∀e∈L,gY (aU ts e.2)):L.length<=28:=by
 let wN:(L.map λe=>aO ts e.2).Nodup:=by
  rw[Bw,wG];let:=T.asc;unfold gb at this;rw[wG,t_]at this;rw[t_];intro i j hi hj lW q;let e:=T.inj _ (sy hi) _ (sy hj) q;let:=this i j hi hj lW;rw[e]at this;show oF _ this
 let:=Wm (m:=iB.map hf) wN λx hx=>by
  let⟨e,he,rfl⟩:=gM.mp hx;show ud (Lx (ht e he))
 rwa [bY,bY]at this
theorem zgL:∀{l:List α},(∀x∈l,f x=some (g x))->l.filterMap f=l.map g
 |[],_=>rfl|x::l,h=>by
  rw[Gd,h x fK,jw];rw[zgL λy hy=>h y (dI _ hy)]
def zgs{h:Heap}{es es':Array (Int×Value)}{ep:Nat}{t t':SetTable}(ho:h.get? S=some {cls:=.type "set",dict:=none,data:=.set es ep t}):(h.update S (Obj.putSet es' t')).get? S=some {cls:=.type "set",dict:=none,data:=.set es' (ep+1) t'}:=by
 let:=uJ (Obj.putSet es' t') ho (by rw[putSet_of es' t' rfl];rfl);rw[putSet_of es' t' rfl]at this;show this
def zeo{ep:Nat}{t:SetTable}{wanted c:Nat}{Q:Unit->Shared->Prop}(ho:s.heap.get? S=some {cls:=.type "set",dict:=none,data:=.set (aL items (aO ts) L).toArray ep t})(tb:Tab (aO ts) t L)(Wy:t.fits (aL items (aO ts) L).toArray.size=true)
  (hw:∀e∈L,gj (sizeAbove wanted-1) c (aO ts e.2)) (hc:L.length<=c) (hz:sizeAbove wanted<=sizeLine) (hz2:L.length<=sizeLine)
  (h:∀L' t',t'.mask=sizeAbove wanted-1->t'.plain=t.plain->t'.led=t.led->L'.length=L.length->(L'.map (·.2)).Perm (L.map (·.2))->Tab (aO ts) t' L'->Q () {s with heap:=s.heap.update S (Obj.putSet (aL items (aO ts) L').toArray t')}) :
  wpAny (model prog w) A (setRelay S wanted) Q E s:=by
 let⟨ord,L',r1,r2,r3,r4,r5,r6,r7⟩:=ziG tb hw hc;unfold setRelay;show au (xX ho rfl Wy ?_);dsimp only;rw[if_neg (HB.mpr hz)];let e1:(aL items (aO ts) L).toArray.map (·.1)=(L.map λe=>aO ts e.2).toArray:=by
  unfold aL;rw[List.map_toArray,nM];rfl
 rw[e1,r1];let e2:ord.toArray.filterMap (λi=>(aL items (aO ts) L).toArray[i]?)=(aL items (aO ts) L').toArray:=by
  let q:aL items (aO ts) L'=ord.map λi=>(aO ts (L.getD i (0,0)).2,items.getD (L.getD i (0,0)).2 .none):=by
   let:aL items (aO ts) L'=(L'.map (·.2)).map λi=>(aO ts i,items.getD i .none):=by unfold aL;rw[nM];rfl
   rw[this,r4,nM];rfl
  rw[List.filterMap_toArray,q]
  congr 1
  show zgL λi hi=>?_;let:=r3 i hi;unfold aL;simp[this]
 show au ?_;change wpAny _ _ (if ((ord.toArray.filterMap (λi=>(aL items (aO ts) L).toArray[i]?)).size != (aL items (aO ts) L).toArray.size)=true then _ else _) _ _ _;rw[e2];let e3:((aL items (aO ts) L').toArray.size != (aL items (aO ts) L).toArray.size)=false:=by
  unfold aL;simp[r5]
 rw[e3];simp only[jt,iR];show aH ?_;show wpAny_storeSet_of ho rfl ?_ (by unfold aL;simpa [r5] using hz2);show h L' _ rfl rfl rfl r5 r6 r7
def zfW{fuel k:Nat}{a:Addr}{Q:Bool->Shared->Prop}(hu:A.units<cLine)(T:gq prog w s.heap S items ts)(hS:gw s.heap S items ts L led)(hk:k<ts.length)(ha:items.getD k .none=.ref a)
  (h:∀h' L' b,Heap.SameBut S s.heap h'->gw h' S items ts L' led->Lz ts L L' k->Q b {s with heap:=h'}) :
  wpAny (model prog w) A (setAddHashedIn S (.ref a) (aO ts k) (fuel+1)) Q E s:=by
 let⟨⟨ep,t,ho,tb,cap,hpl,jm⟩,tY⟩:=id hS;let hf':=Ly (items:=items) tb cap;let aad:(100:Nat)<=sizeLine:=by decide
 unfold setAddHashedIn;show au (xX ho rfl hf' ?_);dsimp only;let hbs:byScan (.ref a) (aL items (aO ts) L).toArray=false:=rfl;rw[hbs];simp only[jt,iR];show au ?_;unfold setSearch;show zc9 (fuel:=99999) hu T hS hk ha (λe he q=>?_) (λj h1 h2 h3=>?_)
 .exact aH (h s.heap L false (Heap.SameBut.refl S s.heap) hS (.inl ⟨rfl,e,he,q⟩))
 .let EY:=h3 ep t ho;dsimp only;show au (xX ho rfl hf' ?_);dsimp only;let⟨La,Lb,e,LQ,Wz⟩:=zoW tb.place tb.Ez tb.asc h2 k;let hlen:(La++(j,k)::Lb).length=L.length+1:=by rw[e];simp;lia
  let tb':=tb;let h1':=h1;let Bl:=EY;rw[e]at tb' h1' Bl;let Bm:=tb'.add Wz h1' Bl;let m1:({t with place:=((La++(j,k)::Lb).map (·.1)).toArray}:SetTable).mask=t.mask:=rfl;let p1:({t with place:=((La++(j,k)::Lb).map (·.1)).toArray}:SetTable).plain=true:=hpl;let l1:({t with place:=((La++(j,k)::Lb).map (·.1)).toArray}:SetTable).led=led:=jm;generalize ({t with place:=((La++(j,k)::Lb).map (·.1)).toArray}:SetTable)=t1 at LQ Bm m1 p1 l1;rw[LQ];dsimp only;rw[p1];simp only[if_true];let⟨a',tL,Qg,E_⟩:=T.at' k hk;rw[ha]at tL;cases tL;show au (zdA E_ ?_);simp only[if_true];let WD:insertAt (aL items (aO ts) L).toArray La.length (aO ts k,.ref a)=(aL items (aO ts) (La++(j,k)::Lb)).toArray:=by
   let q:aL items (aO ts) L=(aL items (aO ts) La)++(aL items (aO ts) Lb):=by rw[e];unfold aL;rw[lG]
   let q2:La.length=(aL items (aO ts) La).length:=by unfold aL;rw[bY]
   rw[q,q2,zbe];unfold aL;rw[lG,jw,ha]
  rw[WD];let hsub:∀x∈La++(j,k)::Lb,x.2<ts.length:=λx hx=>by
   rcases gA.mp hx with z|z
   .exact tY x (by rw[e];show uc _ z)
   .rcases cX.mp z with rfl|z
    .exact hk
    .exact tY x (by rw[e];show pP _ z)
  let wu:((La++(j,k)::Lb).map (·.2)).Perm (k::L.map (·.2)):=by
   rw[e,lG,lG,jw];show List.perm_middle
  generalize La++(j,k)::Lb=L1 at hlen Bm hsub wu;let h28:=LC Bm λx hx=>T.tie x.2 (hsub x hx);let hne:∀x∈L,aU ts x.2≠aU ts k:=λx hx q=>h1 x hx (by unfold aO;rw[q]);let lF:(aL items (aO ts) L1).toArray.size<=sizeLine:=by unfold aL;rw[dR,bY,hlen];lia
  show au (wpAny_storeSet_of ho rfl ?_ lF);let hg1:=zgs (es':=(aL items (aO ts) L1).toArray) (t':=t1) ho;let wz:t1.fill=L.length+1:=by
   unfold fill;rw[Bm.place,Bm.Ez,dR,bY,hlen];rfl
  let xJ:(aL items (aO ts) L).toArray.size=L.length:=by unfold aL;rw[dR,bY]
  let LR:t1.fits (aL items (aO ts) L1).toArray.size=true:=by
   unfold SetTable.fits;rw[wz,Bm.place];unfold aL;rw[dR,dR,bY,bY,zR,Bool.true_and];show cH ?_;rw[m1];rcases cap with c|c|c<;>lia
  let Ax:Heap.SameBut S s.heap (s.heap.update S (Obj.putSet (aL items (aO ts) L1).toArray t1)):=BK s.heap S _;by_cases rQ:t1.tooFull=true
  .rw[rQ];simp only[Bool.not_false,Bool.and_self,if_true];let Fb:(L.length+1)*5>=t.mask*3:=by
    let:=rQ;unfold tooFull at this;rw[wz,m1]at this;show ju this
   rw[xJ];let L_:(t.mask=7/\L.length=4)\/(t.mask=31/\L.length=18):=by rcases cap with c|c|c<;>lia
   let Ma:∃c,(∀x∈L1,gj (sizeAbove (grown (L.length+1))-1) c (aO ts x.2))/\L.length+1<=c/\wk (sizeAbove (grown (L.length+1))-1) (L.length+1)/\sizeAbove (grown (L.length+1))<=sizeLine:=by
    rcases L_ with ⟨_,q⟩|⟨_,q⟩
    .rw[q];show⟨19,λx hx=>?_,by lia,.inr (.inl ⟨by decide,by lia⟩),by decide⟩;rw[show sizeAbove (grown (4+1))-1=31 by decide];show(Wx (T.tie x.2 (hsub x hx))).2.1
    .rw[q];show⟨29,λx hx=>?_,by lia,.inr (.inr ⟨by decide,by lia⟩),by decide⟩;rw[show sizeAbove (grown (18+1))-1=127 by decide];show(Wx (T.tie x.2 (hsub x hx))).2.2
   let⟨c,hw,hc,Fd,hz⟩:=Ma;show au (zeo (s:={s with heap:=s.heap.update S (Obj.putSet (aL items (aO ts) L1).toArray t1)}) hg1 Bm LR hw (by rw[hlen];show hc) hz (by rw[hlen];lia) λL' t' n1 n2 n3 n4 n5 n6=>?_);show aH ?_;show h _ L' true (Ax.trans (BK _ S _)) ⟨⟨_,t',zgs hg1,n6,by rw[n1,n4,hlen];show Fd,n2.trans p1,n3.trans l1⟩,λx hx=>?_⟩ (.inr ⟨hne,n5.trans wu⟩);let:x.2∈L1.map (·.2):=n5.mem_iff.mp (ud hx);let⟨y,hy,q⟩:=gM.mp this;rw[<-q];show hsub y hy
  .rw[show t1.tooFull=false by simpa using rQ];simp only[Bool.not_false,NT,jt,iR];let Fb:¬(L.length+1)*5>=t.mask*3:=by
    let:=rQ;unfold tooFull at this;rw[wz,m1]at this;simpa using this
   let Fd:wk t1.mask L1.length:=by
    rw[hlen,m1];rcases cap with ⟨c,_⟩|⟨c,_⟩|⟨c,_⟩
    .exact .inl ⟨c,by lia⟩
    .exact .inr (.inl ⟨c,by lia⟩)
    .exact .inr (.inr ⟨c,by lia⟩)
   show aH ?_;show h _ _ true Ax ⟨⟨_,_,hg1,Bm,Fd,p1,l1⟩,hsub⟩ (.inr ⟨hne,wu⟩)
end
end Ts
namespace Ts
open PySem PySem.SetTable
def Dn(ts:List (Int×Int))(L:Ent)(i:Nat):Prop:=(∀e∈L,e.2<i)/\∀k,k<i->∃e∈L,aU ts e.2=aU ts k
def Dn.WK{ts:List (Int×Int)}{L L':Ent}{i:Nat}(d:Dn ts L i)(g:Lz ts L L' i):Dn ts L' (i+1):=by
 rcases g with ⟨rfl,e,he,q⟩|⟨hn,hp⟩
 .refine⟨λx hx=>ug (d.1 x hx),λk hk=>?_⟩;rcases Gp k i with z|z
  .exact d.2 k z
  .let:k=i:=by lia
   subst this;show⟨e,he,q⟩
 .let back:∀k∈i::L.map (·.2),∃e∈L',e.2=k:=λk hk=>by
   let⟨e,he,q⟩:=gM.mp (hp.mem_iff.mpr hk);show⟨e,he,q⟩
  show⟨λx hx=>?_,λk hk=>?_⟩
  .rcases cX.mp (hp.mem_iff.mp (ud (f:=(·.2)) hx)) with q|q
   .lia
   .obtain⟨y,hy,q⟩:=gM.mp q;let:=d.1 y hy
    lia
  .rcases Gp k i with z|z
   .obtain⟨e,he,q⟩:=d.2 k z;let⟨e',tX,q'⟩:=back e.2 (dI _ (ud he));show⟨e',tX,by rw[q'];show q⟩
   .obtain⟨e',tX,q'⟩:=back i fK;show⟨e',tX,by rw[q'];congr 1;lia⟩
def zjO{prog:Program}{w:World}{x y:Int}:tupleKeyHash (intKind prog w) [x,y]=hf (x,y):=by unfold tupleKeyHash hf;rfl
section
variable {prog:Program}{w:World}{A:Around}{R:Result->Shared->Prop}{I:Addr}{fp wr:List Addr}{G:Array GenState->Array GenState->Prop}{n:Nat}{P:Nat->Value->Prop}{St:Nat->Shared->Prop}{S:Addr}{items:List Value}{ts:List (Int×Int)}{led:Bool}
theorem gw.keep{h h':Heap}{L:Ent}(x:gw h S items ts L led)(k:∀o,h.get? S=some o->h'.get? S=some o):gw h' S items ts L led:=
 let ⟨⟨ep,t,ho,r⟩,i⟩:=x;⟨⟨ep,t,k _ ho,r⟩,i⟩
theorem gq.keep{h h':Heap}(T:gq prog w h S items ts)(k:∀i a o,i<ts.length->items.getD i .none=.ref a->h.get? a=some o->h'.get? a=some o):gq prog w h' S items ts:=
 ⟨T.len,T.tie,λi hi=>let ⟨a,e,n,o,its,m,ho,r⟩:=T.at' i hi;⟨a,e,n,o,its,m,k i a o hi e ho,r⟩⟩
def zkR(W:WalksS prog w A.in1 I fp wr G n P St)(Qh:S∉fp)(hn:n=ts.length)(Fe:∀i v,P i v->items.getD i .none=v)(hu:A.in1.units<cLine)(Qi:∀i a,i<ts.length->items.getD i .none=.ref a->a∉wr) :
  ∀(k i:Nat) (s:Shared) (L:Ent),n-i=k->i<=n->St i s->gq prog w s.heap S items ts->gw s.heap S items ts L led->Dn ts L i->
   (∀s' L',Moved (S::wr) G s s'->gq prog w s'.heap S items ts->gw s'.heap S items ts L' led->Dn ts L' n->R (.ok (.ret .none)) s')->
   codeAny (model prog w) A (.builtin "set.update.loop" ⟨[.ref S,.ref I],[]⟩) R s:=by
 let hSw:S∉wr:=λh=>Qh (W.«sub» _ h);let hsub:∀b∈wr,b∈S::wr:=λb hb=>dI _ hb;intro k
 induction k with
 |zero=>
  intro i s L hk hi pF hT hS hD hR;let jh:i=n:=by lia
  subst jh;show Gk YC ?_;rw[Rp QX _];change wpAny _ A.in1 (pyNext (.ref I) >>= _) _ _ s;show au (W.done s _ _ pF λs' hm=>?_);change wpAny _ A.in1 (ret Value.none) _ _ s';show aH (hR s' L (hm.mono hsub) (hT.keep λi a o hi e=>hm.heap a o (Qi i a hi e)) (hS.keep λo=>hm.heap S o hSw) hD)
 |succ k ih=>
  intro i s L hk hi pF hT hS hD hR;let hlt:i<n:=by omega
  let Mf:i<ts.length:=by lia
  show Gk YC ?_;rw[Rp QX _];change wpAny _ A.in1 (pyNext (.ref I) >>= _) _ _ s;show au (W.item i s _ _ hlt pF λv s' hP WL hm=>?_);let hv:=Fe i v hP;let Fg:gq prog w s'.heap S items ts:=hT.keep λi a o hi e=>hm.heap a o (Qi i a hi e);let Fi:gw s'.heap S items ts L led:=hS.keep λo=>hm.heap S o hSw;let⟨a,tL,Qg,E_⟩:=Fg.at' i Mf;let hva:v=.ref a:=hv.symm.trans tL;subst hva;change wpAny _ A.in1 (holding [Value.ref a] (setAdd S (.ref a)) >>= _) _ _ s';show au (iJ ?_);unfold setAdd;show iJ ?_;show au (wpAny_pyHash_tuple hu E_ ?_);rw[zjO];unfold setAddHashed;show iJ ?_;show zfW (fuel:=99999) (k:=i) (s:={s' with toks:=s'.toks+([(aU ts i).1,(aU ts i).2].length+1)}) hu Fg Fi Mf tL λh' L' b Ax aP hg=>?_;let Aw:∀b o,b≠S->s'.heap.get? b=some o->h'.get? b=some o:=λb o hb e=>by rw[Ax.2 b hb];show e
  show aH ⟨plainId_quiet QX _,ih (i+1) _ L' Bd hlt (W.frame _ s' _ _ WL (Nat.le_add_right _ _) λb hb o e=>Aw b o (λh=>Qh (by rw[<-h];show hb)) e) (Fg.mono Aw) aP (hD.WK hg) λs'' L'' WM WQ WT WW=>?_⟩;show hR s'' L'' (Moved.trans W.gtrans ((hm.mono hsub).then_heap (Nat.le_add_right _ _) λb o hb e=>Aw b o (λh=>hb (by rw[h];show fK)) e) WM) WQ WT WW
end
section
variable {prog:Program}{w:World}{A:Around}{E:Value->Shared->Prop}{s:Shared}
def bW(w:World):Bool:=!w.params.followText "set-order"
def zhW(a:Value){Q₁:Value->Shared->Prop}
  (h:Q₁ (.ref s.heap.objs.size) {s with heap:=s.heap.push {cls:=.type "set",dict:=none,data:=.set #[] 0 (.fresh 0 0 (bW w))}}) :
  codeAny (model prog w) A (.call (.builtin "set.__new__") ⟨[.type "set",a],[]⟩) (wants Q₁ E) s:=by
 show codeAny_of_tree ?_;change wpAny _ A.in1 (do checkBuiltinCall "set.__new__" ⟨[.type "set",a],[]⟩;again (.builtin "set.__new__" ⟨[.type "set",a],[]⟩)) _ _ s;show au (BX (F.newCall_set_1 a) (aH ⟨plainId_quiet F.plain_set_new _,Gk F.entry_set_new ?_⟩));rw[Rp F.plain_set_new _];unfold Builtin.«set.__new__» Builtin.Frozenset.newClass;let hsub:=sub_set_self;let⟨hp,g,d,tk,os⟩:=s;dsimp only
 wp_walk
 show wpAny_askSetting (aH ?_);dsimp only;simp only[newObj];show au (wpAny_alloc (aH ?_));show aH h
theorem tab0{hk:Nat->Int}{led:Bool}:Tab hk (.fresh 0 0 led) []:=⟨rfl,rfl,List.Pairwise.nil,(λe he=>by cases he),λe he=>by cases he⟩
def zdg{l:Addr}{items:List Value}{ts:List (Int×Int)}{Q:Value->Shared->Prop}(hh:A.handled=none)(hu:A.units+8<cLine)(hl:s.heap.IsTuple l items.toArray)(hT:gq prog w s.heap s.heap.objs.size items ts)
  (h:∀(h':Heap) (tk:Nat) (L:Ent),gw h' s.heap.objs.size items ts L (bW w)->gq prog w h' s.heap.objs.size items ts->Dn ts L ts.length->(∀b o,b<s.heap.objs.size->s.heap.get? b=some o->h'.get? b=some o)->Q (.ref s.heap.objs.size) {s with heap:=h',toks:=tk}) :
  wpAny (model prog w) A (call (.type "set") [.ref l]) Q E s:=by
 let⟨c,tl,Jy⟩:=zZ.mro;let hmade:=zZ.made;let hsub:=zZ.«sub»;show z_ (codeAny_of_tree ?_);change wpAny _ _ (callAny (.type "set") _) _ _ _;show aH ⟨Nj _ J0,Gk F.entry_type_call ?_⟩;rw[Around.under_plain (weight_type_call_type "set" [.ref l] []) rfl];let h1:=zZ.notType;let h2:=zZ.canCreate;let hct:=F.typeCall_set_1 (.ref l)
 repeat (any_goals (first|assumption|wp_step))
 show Hz (zhW (.ref l) (E:=E) (Q₁:=λobj s₁=>obj=.ref s.heap.objs.size/\s₁={s with heap:=s.heap.push {cls:=.type "set",dict:=none,data:=.set #[] 0 (.fresh 0 0 (bW w))}}) ⟨rfl,rfl⟩) λr s₁ hr=>?_;cases r with
 |error e=>show hr|ok fl=>
  cases fl with
  |ret obj=>
   let⟨rfl,rfl⟩:=hr;let hS:(s.heap.push {cls:=.type "set",dict:=none,data:=.set #[] 0 (.fresh 0 0 (bW w))}).get? s.heap.objs.size=some {cls:=.type "set",dict:=none,data:=.set #[] 0 (.fresh 0 0 (bW w))}:=fW _ rfl;let hTy:Shared.TypeIs {s with heap:=s.heap.push {cls:=.type "set",dict:=none,data:=.set #[] 0 (.fresh 0 0 (bW w))}} (.ref s.heap.objs.size) "set":=⟨_,hS,rfl⟩;let hli:=zZ.init.lookup;let hbi:=zZ.init.bind (.ref s.heap.objs.size)
   repeat (any_goals (first|assumption|wp_step))
   show Hz (Rn (R:=wants (λr s₂=>r=.none/\∃h' tk L,s₂={s with heap:=h',toks:=tk}/\gw h' s.heap.objs.size items ts L (bW w)/\gq prog w h' s.heap.objs.size items ts/\Dn ts L ts.length /\
     (∀b o,b<s.heap.objs.size->s.heap.get? b=some o->h'.get? b=some o)) E) zZ.init.plain F.entry_set_init (check_set_init_1 hTy ?_)) λr₂ s₂ hr₂=>?_
   .obtain⟨ol,hol,kO,nl,hdl⟩:=id hl;let⟨ocls,odict,odata,oslots⟩:=ol;simp only at kO hdl;subst kO;subst hdl;let WX:(s.heap.push {cls:=.type "set",dict:=none,data:=.set #[] 0 (.fresh 0 0 (bW w))}).get? l=some {cls:=.type "tuple",dict:=odict,data:=.seq items.toArray nl,slots:=oslots}:=bM _ hol;let hsls:=F.sub_tuple_set;let hslf:=F.sub_tuple_frozenset;let hne:(Value.type "tuple"==Value.type "dict")=false:=by decide
    let Bc:(s.heap.push {cls:=.type "set",dict:=none,data:=.set #[] 0 (.fresh 0 0 (bW w))}).IsTuple l items.toArray:=⟨_,WX,rfl,nl,rfl⟩;unfold Builtin.«set.__init__» noKeywords Builtin.Frozenset.updateFrom;generalize hPI:pyIter=PI
    wp_walk
    subst hPI;show wpAny_pyIter_tuple Bc ?_;show au (wpAny_runValue ?_);let hlS:l<s.heap.objs.size:=bJ hol;let hh3:A.in1.in1.in1.handled=none:=by simp[hh]
    let WY:l≠(s.heap.push {cls:=.type "set",dict:=none,data:=.set #[] 0 (.fresh 0 0 (bW w))}).objs.size:=by
     rw[sG];show cR (ug hlS)
    let Qh:s.heap.objs.size∉[(s.heap.push {cls:=.type "set",dict:=none,data:=.set #[] 0 (.fresh 0 0 (bW w))}).objs.size,l]:=by
     rw[sG];simp only[cX,BL,mK,lR,not_or];show⟨cR (Nat.lt_succ_self _),uL hlS⟩
    let Fe:∀(i:Nat) (v:Value),items.toArray[i]?=some v->items.getD i .none=v:=λi v hv=>by
     rw[Ga]at hv;rw[mJ,hv];rfl
    let lF:items.toArray.size=ts.length:=by rw[dR,hT.len]
    let Qi:∀i a,i<ts.length->items.getD i .none=.ref a->a∉[(s.heap.push {cls:=.type "set",dict:=none,data:=.set #[] 0 (.fresh 0 0 (bW w))}).objs.size]:=λi a hi e hm=>by
     let⟨a',e1,_,o,its,m,ho,_⟩:=hT.at' i hi;rw[e]at e1;cases e1;let hm:=BL.mp hm;rw[sG]at hm;let hlt:=bJ ho;rw[hm]at hlt;show Nat.not_succ_lt_self hlt
    show zkR (led:=bW w) (items:=items) (ts:=ts) ((Walks.tuple hh3 _ l WY items.toArray).toS) Qh lF Fe (by change A.units+1+1+1<cLine;lia) Qi (items.toArray.size-0) 0 _ [] gV (lH _)
     ⟨⟨_,fW _ rfl,rfl,rfl⟩,(Bc.push _)⟩ (hT.mono λb o hb e=>bM _ (bM _ e)) ?Vm ⟨(λe he=>by cases he),λk hk=>by lia⟩ ?hR
    case Vm=>
     let sX:((s.heap.push {cls:=.type "set",dict:=none,data:=.set #[] 0 (.fresh 0 0 (bW w))}).push {cls:=.type "tuple_iterator",data:=.fields #[.ref l,.int 0 0]}).get? s.heap.objs.size
      =some {cls:=.type "set",dict:=none,data:=.set #[] 0 (.fresh 0 0 (bW w))}:=bM _ hS
     show⟨⟨0,_,sX,tab0,.inl ⟨rfl,lH _⟩,rfl,rfl⟩,λe he=>by cases he⟩
    case hR=>
     intro s' L' hm Fg Fi W0;let⟨h',g',d',tk',os'⟩:=s';let eg:g'=s.gens:=hm.gens;let ed:d'=s.drawn:=hm.drawn;let eo:os'=s.os:=hm.os;subst eg;subst ed;subst eo;change wpAny _ _ _ _ _ _;show aH ?_;change wpAny _ _ (ret Value.none) _ _ _;show aH ⟨rfl,h',tk',L',rfl,Fi,Fg,by rw[<-lF];show W0,λb o hb e=>?_⟩;let Bk:b≠s.heap.objs.size:=cR hb;let Gw:b≠(s.heap.push {cls:=.type "set",dict:=none,data:=.set #[] 0 (.fresh 0 0 (bW w))}).objs.size:=by
      rw[sG];show cR (ug hb)
     show hm.heap b o (by simp only[cX,BL,mK,lR,not_or];show⟨Bk,Gw⟩) (bM _ (bM _ e))
   .cases r₂ with
    |error e=>show hr₂|ok fl₂=>
     cases fl₂ with
     |ret r=>
      let⟨rfl,h',tk,L,rfl,Fi,Fg,W0,Aw⟩:=hr₂
      repeat (any_goals (first|assumption|wp_step))
      show h _ _ L Fi Fg W0 Aw
     |_=>show hr₂.elim
  |_=>show hr.elim
end
theorem dw:Slot "set_iterator" "__next__" "set_iterator.__next__":=
 .of (owner:="set_iterator") (n:="__next__") (by rw[typeLookup_type,builtinLookup_eq_fast];kernel_rfl) J0 J0 J0
  (by first|exact .inl J0|exact .inr J0) (by rw[isSubtype_type];kernel_rfl)
theorem zbw:Slot "set_iterator" "__iter__" "set_iterator.__iter__":=
 .of (owner:="set_iterator") (n:="__iter__") (by rw[typeLookup_type,builtinLookup_eq_fast];kernel_rfl) J0 J0 J0
  (by first|exact .inl J0|exact .inr J0) (by rw[isSubtype_type];kernel_rfl)
def zeH:Manifest.owners.lookup (String.ofList ['r','o','t','a','r','e','t','i','_','t','e','s'].reverse)=some Manifest.sig_set_iterator:=by kernel_rfl
def zdt(a:Value):argsOk "set_iterator.__next__" ⟨[a],[]⟩:=by
 unfold argsOk;rw[signature?_of (id:="set_iterator.__next__") (n:=['_','_','t','x','e','n','_','_']) (o:=['r','o','t','a','r','e','t','i','_','t','e','s']) (by kernel_rfl) zeH];kernel_rfl
def zeb(a:Value):argsOk "set_iterator.__iter__" ⟨[a],[]⟩:=by
 unfold argsOk;rw[signature?_of (id:="set_iterator.__iter__") (n:=['_','_','r','e','t','i','_','_']) (o:=['r','o','t','a','r','e','t','i','_','t','e','s']) (by kernel_rfl) zeH];kernel_rfl
theorem zc7:entryFor table "set_iterator.__next__"=some Builtin.«set_iterator.__next__»:=entryFor_of_tree (by kernel_rfl)
theorem zc8:entryFor table "set_iterator.__iter__"=some Builtin.«dict_keyiterator.__iter__»:=
 entryFor_alias (id':="dict_keyiterator.__iter__") (by kernel_rfl) (by first|rfl|decide +kernel|(unfold String.splitOn;simp +decide [String.splitOnAux])) J0 (by kernel_rfl)
theorem zcl:entryFor table "set.__iter__"=some Builtin.«frozenset.__iter__»:=
 entryFor_alias (id':="frozenset.__iter__") (by kernel_rfl) rfl J0 (by kernel_rfl)
def cV(L:Ent):Nat->Nat
 |0=>0|k+1=>(L.getD k (0,0)).1+1
def zh2{L:Ent}(h:gb L){k:Nat}(hk:k<=L.length):below (L.map (·.1)).toArray (cV L k)=k:=by
 let⟨La,Lb,e,hb,h1,h2⟩:=Wj h (cV L k);rw[hb];let hp:=t_.mp h;let hll:La.length+Lb.length=L.length:=by rw[e,gP]
 let inA:∀i (hi:i<L.length),i<La.length->L[i].1<cV L k:=λi hi q=>h1 _ (by
  let:L[i]=La[i]:=by
   simp only[e];show List.getElem_append_left q
  rw[this];show sy _)
 let inB:∀i (hi:i<L.length),La.length<=i->cV L k<=L[i].1:=λi hi q=>h2 _ (by
  let:L[i]=Lb[i-La.length]' Bd:=by
   simp only[e];show List.getElem_append_right q
  rw[this];show sy _)
 cases k with
 |zero=>
  cases La with
  |nil=>rfl|cons x r=>
   let:=h1 x fK;show absurd this (Nat.not_lt_zero _)
 |succ k=>
  let hs:cV L (k+1)=L[k].1+1:=by
   change (L.getD k (0,0)).1+1=_;simp[show k<L.length by lia]
  rw[hs]at inA inB;rcases Rx La.length (k+1) with z|z|z
  .let:=inB k gV gV
   lia
  .exact z
  .let h3:=inA (k+1) gV z;let h4:=hp k (k+1) (by rw[bY];lia) (by rw[bY];lia) gV;rw[List.getElem_map,List.getElem_map]at h4
   lia
theorem zht{α:Type}(next:Nat->Nat):∀(fuel k:Nat) (left:List α) (out:Array α),left.length<=fuel->(pickOrder.go next fuel k left out).toList.Perm (out.toList++left)
 |0,k,left,out,h=>by
  let:left=[]:=List.length_eq_zero_iff.mp gV;subst this;unfold pickOrder.go;rw[zV]
 |fuel+1,k,left,out,h=>by
  unfold pickOrder.go;cases left with
  |nil=>simp|cons y r=>
   let hlt:next k%(y::r).length<(y::r).length:=Nat.mod_lt _ Zaa;rw[fV hlt];dsimp only;generalize next k%(y::r).length=i at hlt;show(zht next fuel (k+1) _ _ (by rw[List.length_eraseIdx_of_lt hlt];lia)).trans ?_;rw[Array.toList_push,BR];show List.Perm.append_left _ ?_;rw[List.eraseIdx_eq_take_drop_succ];let:(y::r)=(y::r).take i++(y::r)[i]::(y::r).drop (i+1):=by
    rw[<-MP hlt,Ri]
   show List.Perm.trans ?_ (List.Perm.of_eq this.symm);show(List.perm_middle (l₁:=(y::r).take i)).symm
def zg1{α:Type}(next:Nat->Nat)(xs:List α):(pickOrder next xs.toArray).toList.Perm xs:=by
 unfold pickOrder;let:=zht next xs.toArray.size 0 xs #[] Zaa;simpa using this
section
variable {prog:Program}{w:World}{A:Around}{E:Value->Shared->Prop}{s:Shared}{S:Addr}{items:List Value}{hk:Nat->Int}{L:Ent}
def bU(w:World)(S:Addr)(ep:Nat)(es:List (Int×Value)):List (Int×Value):=if w.params.followText "set-order"=true then (pickOrder (w.params.setOrder S ep) es.toArray).toList else es
def mD{ep:Nat}{es:List (Int×Value)}:(bU w S ep es).Perm es:=by
 unfold bU
 split
 .exact zg1 _ _
 .exact List.Perm.refl _
def qG(items:List Value)(hk:Nat->Int)(L:Ent)(ep:Nat)(t:SetTable):Obj:={cls:=.type "set",dict:=none,data:=.set (aL items hk L).toArray ep t}
def Bo(S:Addr)(slot i n ep:Nat):Obj:={cls:=.type "set_iterator",data:=.fields #[.int slot 0,.int i 0,.ref S,.int n 0,.int ep 0]}
def W2{Q:Bool->Shared->Prop}(h:Q (w.params.followText "set-order") s):wpAny (model prog w) A setsByText Q E s:=by
 unfold setsByText;show au (wpAny_askSetting (aH h))
def zfX{ep:Nat}{t:SetTable}{Q:Value->Shared->Prop}(ho:s.heap.get? S=some (qG items hk L ep t))(tb:Tab (hk) t L)(cap:wk t.mask L.length)(hpl:t.plain=true)
  (h:Q (.ref s.heap.objs.size) {s with heap:=s.heap.push (Bo S 0 0 L.length ep)}):wpAny (model prog w) A (pyIter (.ref S)) Q E s:=by
 let hT:s.TypeIs (.ref S) "set":=⟨_,ho,rfl⟩;let hf':=Ly (items:=items) tb cap;show wpAny_pyIter_slot hT F.slot_set_iter (uh F.slot_set_iter hT zcl ?_ (F.args_set_iter_1 _));unfold Builtin.«frozenset.__iter__» Builtin.Frozenset.slot0 slotArgs;simp only[List.isEmpty_nil,xY,jt,↓reduceIte,bind_assoc,pQ,Gi];unfold Builtin.Frozenset.addrOf Builtin.Frozenset.sizeOf;show au (aH ?_)
 try dsimp only
 show au (aH ?_);show au (au (wpAny_setEntries_of ho rfl hf' (aH ?_)));unfold setDrawn;show au (au (xX ho rfl hf' (au (W2 (aH ?_)))));let hdr:(!w.params.followText "set-order"&&(!t.plain&&decide ((aL items hk L).toArray.size>1)))=false:=by rw[hpl];simp
 change wpAny _ _ (if (!w.params.followText "set-order"&&(!t.plain&&decide ((aL items hk L).toArray.size>1)))=true then _ else _) _ _ _;rw[hdr];simp only[jt,iR];show au (aH ?_);show au (wpAny_setEpoch_of ho rfl hf' ?_);let xJ:(aL items hk L).toArray.size=L.length:=by unfold aL;rw[dR,bY]
 rw[xJ];show au (pB (aH ⟨_,rfl,"set_iterator",_,⟨_,fW _ rfl,rfl⟩,dw.lookup,?_⟩));show h
theorem Mg{I slot i n ep:Nat}(hit:s.heap.get? I=some (Bo S slot i n ep)):s.TypeIs (.ref I) "set_iterator":=⟨_,hit,rfl⟩
def zl9:(aL items hk L).toArray.size=L.length:=by unfold aL;rw[dR,bY]
def zcW{ep i:Nat}{t:SetTable}{slot:Nat}{Q:Option (Value×Nat)->Shared->Prop}(ho:s.heap.get? S=some (qG items hk L ep t))(tb:Tab (hk) t L)(cap:wk t.mask L.length)(hpl:t.plain=true)(jm:t.led=bW w)(hi:i<=L.length)(m6:w.params.followText "set-order"=false->slot=cV L i)
  (h:∀dO,(w.params.followText "set-order"=false->dO=cV L (i+1))->Q ((bU w S ep (aL items hk L))[i]?.map λe=>(e.2,dO)) s) :
  wpAny (model prog w) A (setNext S slot i ep) Q E s:=by
 let hf':=Ly (items:=items) tb cap;unfold setNext;show au (xX ho rfl hf' ?_);dsimp only;show au (W2 ?_);by_cases hb:w.params.followText "set-order"=true
 .rw[if_pos hb];simp only[Gi,jt,iR];unfold setWalk;show au (au (xX ho rfl hf' (au (W2 ?_))));rw[if_pos hb];show au (wpAny_askSetting (aH ?_));show aH ?_;let:=h slot (λq=>by rw[hb]at q;cases q);unfold bU at this;rw[if_pos hb,Rj]at this;show this
 .let hb':w.params.followText "set-order"=false:=by simpa using hb
  rw[if_neg hb];let hl:t.led=true:=by rw[jm];unfold bW;rw[hb'];rfl
  change wpAny _ _ (if (!t.plain&&decide ((aL items hk L).toArray.size>1))=true then _ else _) _ _ _;rw[hpl];simp only[xY,Bool.false_and,jt,iR];show au ?_;change wpAny _ _ (if (!t.led && !(aL items hk L).toArray.isEmpty)=true then _ else _) _ _ _;rw[hl];simp only[xY,Bool.false_and,jt,iR];show aH ?_;let hbl:below t.place slot=i:=by rw[tb.place,m6 hb'];show zh2 tb.asc hi
  rw[hbl];show aH ?_;let hw:bU w S ep (aL items hk L)=aL items hk L:=by unfold bU;rw[if_neg hb]
  let:=h (cV L (i+1)) (λ_=>rfl);rw[hw]at this;rw[Ga,tb.place,Ga];cases e:L[i]? with
  |none=>
   let e1:(aL items hk L)[i]?=none:=by unfold aL;rw[lD,e];rfl
   rw[e1]at this ⊢;show this
  |some x=>
   let e1:(aL items hk L)[i]?=some (hk x.2,items.getD x.2 .none):=by unfold aL;rw[lD,e];rfl
   let e2:(L.map (·.1))[i]?=some x.1:=by rw[lD,e];rfl
   let e3:cV L (i+1)=x.1+1:=by change (L.getD i (0,0)).1+1=_;rw[mJ,e];rfl
   rw[e1,e3]at this;rw[e1,e2];show this
def zbO{M:Model}{A:Around}{E:Value->Shared->Prop}{s:Shared}{nm:String}{v:Value}{Q:Value×List Value->Shared->Prop}(h:Q (v,[]) s):wpAny M A (slotArgs nm 0 ⟨[v],[]⟩) Q E s:=by
 unfold slotArgs;simp only[List.isEmpty_nil,xY,jt,↓reduceIte,pQ,Gi];show au (aH (au (aH (aH h))))
def zcu{I ep i:Nat}{t:SetTable}{slot:Nat}{Q:Option Value->Shared->Prop}(hh:A.handled=none)(hit:s.heap.get? I=some (Bo S slot i L.length ep))(ho:s.heap.get? S=some (qG items hk L ep t))(tb:Tab (hk) t L)(cap:wk t.mask L.length)(hpl:t.plain=true)(jm:t.led=bW w)(hi:i<=L.length)(m6:w.params.followText "set-order"=false->slot=cV L i)
  (h1:∀e h' dO,(bU w S ep (aL items hk L))[i]?=some e->h'.get? I=some (Bo S dO (i+1) L.length ep)->(w.params.followText "set-order"=false->dO=cV L (i+1))->Heap.SameBut I s.heap h'->Q (some e.2) {s with heap:=h'})
  (h2:∀h',(bU w S ep (aL items hk L))[i]?=none->Heap.ExtBut I s.heap h'->Q none {s with heap:=h'}):wpAny (model prog w) A (pyNext (.ref I)) Q E s:=by
 let hf':=Ly (items:=items) tb cap;unfold pyNext;show au (BW (xT (name:=Str.ofString "__next__") (Mg hit) dw
  (uh dw (Mg hit) zc7 ?_ (zdt _))))
 show au (zbO ?_);show au (wpAny_fieldsOf hit rfl ?_);show au (wpAny_setEntries_of ho rfl hf' ?_);rw[zl9];simp only[Gi,jt,iR];rw[Gh,Gh,Gh];show au (zcW ho tb cap hpl jm hi m6 λdO hs'=>?_);cases e:(bU w S ep (aL items hk L))[i]? with
 |some x=>
  try dsimp only[Option.map_some]
  show au (zW hit rfl Zaa ?_);let g1:(s.heap.update I (Obj.mapFields (·.setIfInBounds 0 (rawInt dO)))).get? I=some (Bo S dO i L.length ep):=by
   let:=uJ (Obj.mapFields (·.setIfInBounds 0 (rawInt dO))) hit rfl;show this
  show au (zW (s:={s with heap:=s.heap.update I (Obj.mapFields (·.setIfInBounds 0 (rawInt dO)))}) g1 rfl Zaa ?_);show aH ⟨_,rfl,aH (h1 x _ dO e ?_ hs' ((BK ..).trans (BK ..)))⟩;let:=uJ (Obj.mapFields (·.setIfInBounds 1 (rawInt ((i:Int)+1)))) g1 rfl;show this
 |none=>
  try dsimp only[Option.map_none]
  show au (zW hit rfl Zaa ?_);change wpAny _ _ (newExc (.type "StopIteration") [] >>= _) _ _ _;show au ?_;simp only[newExc,newTuple];show au (pB ?_ (by size_fits));show au (m:=firstArgMember _ _) (BX (a:=Value.none) (by first|rfl|(simp only[firstArgMember];rfl)) ?_);show pB ?_ (by size_fits);simp only[raiseNew];show au (wpAny_handled ?_)
  first|rw[show A.in1.handled=none from hh]|rw[hh]
  show au (aH (wpAny_throw ?_));show au (Nt (T:="StopIteration") (b:=true) ⟨_,fW _ rfl,rfl⟩ isSubtype_stop ?_);show aH (h2 _ e (((BK ..).extBut.push _).push _))
end
end Ts
namespace Ts
open PySem PySem.SetTable PySem.Spec PyProof.Rows PySem.W L2
section
variable {prog:Program}{w:World}{A:Around}{E:Value->Shared->Prop}{s:Shared}{S:Addr}{items:List Value}{hk:Nat->Int}{L:Ent}
def W3{ep:Nat}:(bU w S ep (aL items hk L)).length=L.length:=by
 rw[mD.length_eq];unfold aL;rw[bY]
theorem zgv{ep:Nat}{t:SetTable}(hh:A.handled=none)(I:Addr)(hne:S≠I)(tb:Tab (hk) t L)(cap:wk t.mask L.length)(hpl:t.plain=true)(jm:t.led=bW w) :
  Walks prog w A I [I,S] [I] L.length (λi v=>∃e,(bU w S ep (aL items hk L))[i]?=some e/\e.2=v) (λi h=>i<=L.length/\h.get? S=some (qG items hk L ep t)/\∃slot,h.get? I=some (Bo S slot i L.length ep)/\(w.params.followText "set-order"=false->slot=cV L i)) where
 «sub»:=λb hb=>by simp at hb;simp[hb]
 frame:=λ_ _ _ st hk=>let ⟨a,b,slot,c,d⟩:=st;⟨a,hk S Zaa _ b,slot,hk I Zaa _ c,d⟩
 item:=λi s Q E hi st hQ=>by
  let⟨a,b,slot,c,d⟩:=st;show zcu hh c b tb cap hpl jm a d (λe h' dO e1 e2 e3 e4=>?_) (λh' e1 _=>?_)
  .exact hQ e.2 h' s.toks ⟨e,e1,rfl⟩ ⟨hi,e4.extBut S _ hne b,dO,e2,e3⟩ λb o hb e=>e4.extBut b o (λh=>hb (by simp[h])) e
  .let:=pA.mp e1;rw[W3]at this
   lia
 done:=λs Q E st hQ=>by
  let⟨a,b,slot,c,d⟩:=st;show zcu hh c b tb cap hpl jm a d (λe h' dO e1 _ _ _=>?_) (λh' _ e2=>?_)
  .let:=(jr.mp e1).1;rw[W3]at this
   lia
  .exact hQ h' s.toks λb o hb e=>e2 b o (λh=>hb (by simp[h])) e
 self:=λ_ s _ _ st hQ=>by
  let⟨a,b,slot,c,d⟩:=st;show wpAny_pyIter_slot (Mg c) zbw (uh zbw (Mg c) zc8 ?_ (zeb _));change wpAny _ _ (ret (.ref _)) _ _ s;show aH ⟨_,rfl,"set_iterator",_,Mg c,dw.lookup,hQ⟩
def ziB{ep:Nat}{t:SetTable}{Q:Bool->Shared->Prop}(ho:s.heap.get? S=some (qG items hk L ep t))(h:Q false s):wpAny (model prog w) A (Builtin.List.listLengthHint (.ref S)) Q E s:=by
 unfold Builtin.List.listLengthHint;show au (wpAny_specialOf ⟨_,ho,rfl⟩ F.slot_set_len.lookup ?_);generalize hid:("set.__len__" : String)=id0
 wp_delta
 rw[show splitId id0=some ("set","__len__") from by subst hid;decide +kernel];subst hid;show au (Nt (T:="set") (b:=true) ⟨_,ho,rfl⟩ (by rw[isSubtype_type];kernel_rfl) ?_);show wpAny_ite_split (λrO=>absurd rO W9) (λ_=>?_);show wpAny_ite_split (λ_=>?_) (λrO=>absurd J0 rO);show au (zY (T:="set") ⟨_,ho,rfl⟩ ?_);show aH h
def zfM{ep:Nat}{acc:Array Value}(h:ItemsOf (λi v=>∃e,(bU w S ep (aL items hk L))[i]?=some e/\e.2=v) acc L.length):acc=((bU w S ep (aL items hk L)).map (·.2)).toArray:=by
 let⟨h1,h2⟩:=h;apply Array.toList_inj.mp;apply List.ext_getElem?;intro i;cases e:acc[i]? with
 |none=>
  let:=Array.getElem?_eq_none_iff.mp e;rw[Rj,e]
  symm
  rw[pA,bY,W3]
  lia
 |some v=>
  let⟨x,e1,e2⟩:=h2 i v e;rw[Rj,e];change some v=((bU w S ep (aL items hk L)).map (·.2))[i]?;rw[lD,e1,<-e2];rfl
def zel{ep:Nat}{t:SetTable}{Q:List Value->Shared->Prop}(hh:A.handled=none)(ho:s.heap.get? S=some (qG items hk L ep t))(tb:Tab (hk) t L)(cap:wk t.mask L.length)(hpl:t.plain=true)(jm:t.led=bW w)
  (h:∀h' tk,(∀b o,s.heap.get? b=some o->h'.get? b=some o)->Q ((bU w S ep (aL items hk L)).map (·.2)) {s with heap:=h',toks:=tk}):wpAny (model prog w) A (collect (.ref S)) Q E s:=by
 let hlt:S<s.heap.objs.size:=bJ ho;let aae:(100:Nat)<=sizeLine:=by decide
 let hn:L.length<=sizeLine:=by rcases cap with c|c|c<;>lia
 unfold collect;show au (wpAny_runValue (Gk entry_proto_collect' ?_));change wpAny _ _ (do again (.builtin "list.__iadd__" ⟨[<-newList [],.ref S],[]⟩)) _ _ s;show au (wpAny_newList (aH ⟨Nj _ J0,Gk entry_list_iadd' ?_⟩));change wpAny _ _ (Builtin.List.listExtendWith (.ref s.heap.objs.size) (.ref S) (.ref s.heap.objs.size)) _ _ {s with heap:=s.heap.push (seqObj "list" #[] 0)};let kI:(s.heap.push (seqObj "list" #[] 0)).get? S=some (qG items hk L ep t):=bM _ ho;unfold Builtin.List.listExtendWith;show au (zY (T:="set") ⟨_,kI,rfl⟩ ?_);let h1:Builtin.List.listSameRef (.ref s.heap.objs.size) (.ref S)=false:=by simp[Builtin.List.listSameRef,uL hlt]
 let h2:(Value.type "set"==Value.type "list")=false:=by decide
 let h3:(Value.type "set"==Value.type "tuple")=false:=by decide
 simp only[h1,h2,h3,Bool.or_false,jt,iR];show au (zfX kI tb cap hpl ?_);show au (iJ (ziB (bM _ kI) ?_));show wpAny_ite_split (λ_=>?_) (λrO=>absurd J0 rO);show au (Gq ?_);show au ?_;let hS₁:((s.heap.push (seqObj "list" #[] 0)).push (Bo S 0 0 L.length ep)).get? s.heap.objs.size=some (seqObj "list" #[] 0):=bM _ (fW _ rfl);change wpAny _ _ (updateSeq s.heap.objs.size (·.push .none) >>= λ_=>updateSeq s.heap.objs.size (·.pop)) _ _ _;show au (wpAny_updateSeq hS₁ rfl ?_);let hS₂:=uJ (Obj.mapSeq (·.push Value.none)) hS₁ rfl;show wpAny_updateSeq (hz:=by seq_fits) hS₂ rfl ?_;let hS₃:=uJ (Obj.mapSeq (·.pop)) hS₂ rfl;let hI:(s.heap.push (seqObj "list" #[] 0)).objs.size=s.heap.objs.size+1:=by rw[size_push']
 show aH ⟨plainId_quiet F.plain_extend_loop _,?_⟩;let oth:∀b o,b≠s.heap.objs.size->(s.heap.push (seqObj "list" #[] 0)).get? b=some o->((((s.heap.push (seqObj "list" #[] 0)).push (Bo S 0 0 L.length ep)).update s.heap.objs.size (Obj.mapSeq (·.push Value.none))).update s.heap.objs.size (Obj.mapSeq (·.pop))).get? b=some o:=λb o hb e=>
  (wF _ _ (Ne.symm hb)).trans ((wF _ _ (Ne.symm hb)).trans (bM _ e))
 let hne:S≠(s.heap.push (seqObj "list" #[] 0)).objs.size:=by rw[hI];show cR (ug hlt)
 let Jz:s.heap.objs.size≠(s.heap.push (seqObj "list" #[] 0)).objs.size:=by rw[hI];lia
 show codeAny_extend_loopS ((zgv (items:=items) (ep:=ep) (by simp[hh]) (s.heap.push (seqObj "list" #[] 0)).objs.size hne tb cap hpl jm).toS) hn s.heap.objs.size (by simp only[cX,mK,lR,not_or];show⟨Jz,uL hlt⟩) _ L.length 0 _ #[] _ rfl (lH _)
  ⟨lH _,oth S _ (cR hlt) kI,0,(wF _ _ Jz).trans ((wF _ _ Jz).trans (fW _ rfl)),λ_=>rfl⟩ hS₃ (ItemsOf.nil _) λs' acc' c' hm Fi Fj=>?_
 let ea:=zfM Fj;rw[Moved.eq_with hm];change wpAny _ _ _ _ _ _;dsimp only;show au (wpAny_load Fi ?_);dsimp only;show aH ?_;rw[ea];show h s'.heap s'.toks λb o e=>?_;let hb:b<s.heap.objs.size:=bJ e;show hm.heap b o ?_ (oth b o (cR hb) (bM _ e));simp only[cX,mK,lR,not_or];show⟨cR hb,by rw[hI];show cR (ug hb)⟩
def zgI{u:Value}{vs:List Value}{κ:SortKind}{lt:Nat->Nat->Option Bool}{p:Array Nat}{Q:Value->Shared->Prop}(W4:∀(Q':List Value->Shared->Prop) (E':Value->Shared->Prop),(∀h' tk,(∀b o,s.heap.get? b=some o->h'.get? b=some o)->Q' vs {s with heap:=h',toks:=tk})->wpAny (model prog w) A.in1 (collect u) Q' E' s)(TY:vs.length<64)
  (hk:2<=vs.length->∀(s':Shared) (Q:SortKind->Shared->Prop) E,(∀b o,s.heap.get? b=some o->s'.heap.get? b=some o)->Q κ s'->wpAny (model prog w) A.in1.in1 (keyKind' vs.toArray) Q E s')
  (hlt:2<=vs.length->∀(s':Shared) i j b C,(∀b o,s.heap.get? b=some o->s'.heap.get? b=some o)->lt i j=some b->C b s'->kas_ask prog w A.in1.in1 κ vs i j C s') (hr:2<=vs.length->bZ lt (kas_sort vs.length)=some p) (T3:2<=vs.length->p.size=vs.length)
  (h:∀h' tk r e,(∀b o,s.heap.get? b=some o->h'.get? b=some o)->(∀b o,s.heap.get? b=some o->b<r)->h'.get? r=some (seqObj "list" (lN vs p) e)->Q (.ref r) {s with heap:=h',toks:=tk}) :
  wpAny (model prog w) A (call (.builtin "sorted") [u]) Q E s:=by
 show Calls.call_function_entry kind_sorted plain_sorted entry_sorted (args_sorted1 _) ?_;unfold Builtin.«sorted»;show au (m:=checkCount "sorted" 1 1 _) (aH ?_);show au (W4 _ _ λh1 tk mF=>?_);show au (wpAny_newList ?_ (by rw[uM];lia));let Ia:(h1.push (seqObj "list" vs.toArray 0)).get? h1.objs.size=some (seqObj "list" vs.toArray 0):=fW _ rfl;let keep:∀b o,s.heap.get? b=some o->(h1.push (seqObj "list" vs.toArray 0)).get? b=some o:=λb o q=>bM _ (mF b o q);let nn:∀b o,s.heap.get? b=some o->b≠h1.objs.size:=λb o e=>cR (bJ (mF b o e));show au (iJ (uh slot_list_sort ⟨_,Ia,rfl⟩ entry_list_sort (zdl (κ:=κ) (lt:=lt) (p:=p) Ia TY (λh2 s' Q' k q=>hk h2 s' Q' _ (λb o e=>k b o (nn b o e) (keep b o e)) q) (λh2 s' i j b C k e q=>hlt h2 s' i j b C (λb o e=>k b o (nn b o e) (keep b o e)) e q) hr T3 ⟨_,rfl,?_⟩) (args_list_sort _)));let⟨e,he⟩:=sortedHeap_at (out:=lN vs p) Ia;show aH ⟨_,rfl,h _ tk _ e (λb o q=>?_) (λb o q=>bJ (mF b o q)) he⟩;let hb:=mF b o q;rw[sortedHeap_old (nn b o q) (by rw[size_push'];show ug (bJ hb))];show keep b o q
end
end Ts
namespace Mi
open PySem PySem.Spec PyProof.Rows L2 PySem.W Ts
def zhf{α β:Type}{f:α->β}{l m:List β}(h:l.Perm m):∀{L:List α},m=L.map f->∃L':List α,L'.Perm L/\l=L'.map f:=by
 induction h with
 |nil=>intro L e;show⟨L,.refl _,e⟩|cons x _ ih=>
  intro L e;cases L with
  |nil=>cases e|cons a L=>
   injection e with e1 e2;let⟨L',p,q⟩:=ih e2;show⟨a::L',p.cons a,by rw[q,e1];rfl⟩
 |swap x y l=>
  intro L e
  match L,e with
  |a::b::L,e=>
   injection e with e1 e2;injection e2 with e2 e3;show⟨b::a::L,.swap ..,by rw[e1,e2,e3];rfl⟩
 |trans _ _ ih1 ih2=>
  intro L e;let⟨L2,p2,q2⟩:=ih2 e;let⟨L1,p1,q1⟩:=ih1 q2;show⟨L1,p1.trans p2,q1⟩
def jK(a b:Int×Int):Bool:=decide (a.1<b.1\/a.1=b.1/\a.2<b.2)
def G_(us:List (Int×Int))(i j:Nat):Option Bool:=match us[i]?,us[j]? with
 |some a,some b=>some (jK a b)|_,_=>none
def vq(us:List (Int×Int))(i j:Nat):Prop:=jK (us.getD j (0,1)) (us.getD i (0,1))=false
theorem mH{a b:Int×Int}:jK a b=true↔(a.1<b.1\/a.1=b.1/\a.2<b.2):=decide_eq_true_iff
theorem W5{a b:Int×Int}:jK a b=false↔¬(a.1<b.1\/a.1=b.1/\a.2<b.2):=M6
def W6(us:List (Int×Int)):Ord us.length (G_ us) (vq us):=by
 show⟨λi j hi hj=>?_,λi j k _ _ _ h1 h2=>?_⟩
 .unfold G_ vq;rw[fV hi,fV hj,mJ,mJ,fV hi,fV hj];change (some (jK us[i] us[j])=some true/\jK us[j] us[i]=false)\/(some (jK us[i] us[j])=some false/\jK us[i] us[j]=false);cases e:jK us[i] us[j]
  .exact .inr ⟨rfl,rfl⟩
  .refine .inl ⟨rfl,?_⟩;rw[mH]at e;rw[W5]
   lia
 .unfold vq at *;rw[W5]at *;omega
def Mh:iB.Pairwise λa b=>jK a b=true:=by decide +kernel
theorem Qj:∀{l m:List (Int×Int)},(l.Pairwise λa b=>jK a b=true)->(m.Pairwise λa b=>jK a b=true)->(∀x,x∈l↔x∈m)->l=m
 |[],[],_,_,_=>rfl|[],b::m,_,_,h=>by let:=(h b).mpr fK;cases this|a::l,[],_,_,h=>by let:=(h a).mp fK;cases this|a::l,b::m,p,q,h=>by
  let⟨p1,p2⟩:=xV.mp p;let⟨q1,q2⟩:=xV.mp q;let irr:∀x,jK x x=true->False:=λx hx=>by rw[mH]at hx;lia
  let e:a=b:=by
   rcases cX.mp ((h a).mp fK) with z|z
   .exact z
   .rcases cX.mp ((h b).mpr fK) with y|y
    .exact y.symm
    .let h1:=p1 b y;let h2:=q1 a z;rw[mH]at h1 h2
     lia
  subst e;rw[Qj p2 q2 λx=>⟨λhx=>?_,λhx=>?_⟩]
  .rcases cX.mp ((h x).mp (dI _ hx)) with z|z
   .subst z;show(irr _ (p1 _ hx)).elim
   .exact z
  .rcases cX.mp ((h x).mpr (dI _ hx)) with z|z
   .subst z;show(irr _ (q1 _ hx)).elim
   .exact z
def zjl{ts:List (Int×Int)}(ht:∀t∈ts,gY t){x:Int×Int}:x∈ss ts↔x∈ts:=by
 unfold ss;rw[zU];show⟨λh=>by simpa using h.2,λh=>⟨Lx (ht x h),by simpa using h⟩⟩
theorem Qk{ts:List (Int×Int)}:(ss ts).Pairwise λa b=>jK a b=true:=Mh.filter _
def zha{us:List (Int×Int)}(hn:2<=us.length)(hd:us.Nodup):∃p,bZ (G_ us) (kas_sort us.length)=some p/\p.size=us.length/\(∀i∈p.toList,i<us.length)/\(∀x,x∈p.toList.map (λi=>us.getD i (0,1))↔x∈us)/\(p.toList.map λi=>us.getD i (0,1)).Pairwise λa b=>jK a b=true:=by
 let⟨p,e,hp,ha⟩:=znn (W6 us) gV;let hs:p.size=us.length:=hp.size;let hm:(p.toList.map λi=>us.getD i (0,1)).Perm us:=by
  let h1:(p.toList.map λi=>us.getD i (0,1)).Perm ((List.range us.length).map λi=>us.getD i (0,1)):=(Array.Perm.toList hp).map _;let h2:((List.range us.length).map λi=>us.getD i (0,1))=us:=by
   apply List.ext_getElem
   .simp
   .intro i a b;simp[mJ,b]
  rw[h2]at h1;show h1
 show⟨p,e,hs,λi hi=>?_,λx=>hm.mem_iff,?_⟩
 .let:=(Array.Perm.toList hp).mem_iff.mp hi;simpa using this
 .let nd:(p.toList.map λi=>us.getD i (0,1)).Nodup:=hm.nodup_iff.mpr hd;rw[t_];intro i j hi hj lW;let hne:=t_.mp nd i j hi hj lW;let xG:i<p.size:=by simpa using hi
  let Lp:j<p.size:=by simpa using hj
  let hl:=ha i j lW gV;unfold vq at hl;let e1:p.getD i 0=p[i]:=by simp[Array.getD,xG]
  let e2:p.getD j 0=p[j]:=by simp[Array.getD,Lp]
  rw[e1,e2]at hl;simp only[List.getElem_map,Array.getElem_toList]at hne ⊢;generalize us.getD p[i] (0,1)=x at *;generalize us.getD p[j] (0,1)=y at *;rw[W5]at hl;rw[mH];let⟨x1,x2⟩:=x;let⟨y1,y2⟩:=y;simp only[Prod.mk.injEq,ne_eq,not_and]at *
  lia
section
variable {prog:Program}{w:World}{A:Around}{E:Value->Shared->Prop}{s:Shared}{S:Addr}{items:List Value}{ts:List (Int×Int)}{L:Ent}
theorem zgZ{h:Heap}(T:gq prog w h S items ts):∀{js:List Nat},(∀j∈js,j<ts.length)->∃fs:List Value,fs.length=(js.map (items.getD · Value.none)).length/\(∀f∈fs,∃i t,f=Value.int i t)/\KatTups h (js.map (items.getD · Value.none)) fs
 |[],_=>⟨[],rfl,(λf hf=>by cases hf),trivial⟩|j::js,hj=>by
  let⟨fs,l,hf,kt⟩:=zgZ T (js:=js) λj' h'=>hj j' (dI _ h');let⟨a,e,_,o,its,n,ho,hc,hd,hi⟩:=T.at' j (hj j fK);let⟨its⟩:=its;cases hi with
  |cons hv hr=>
   let⟨t,rfl⟩:=Gg hv;show⟨Value.int (aU ts j).1 t::fs,by simp[l],λf hf'=>?_,?_⟩
   .rcases cX.mp hf' with rfl|z
    .exact⟨_,t,rfl⟩
    .exact hf f z
   .rw[jw,e];show KatTups.cons ho hc hd Zaa kt
def W7{a b:Int×Int}:p7 [.int a.1,.int a.2] [.int b.1,.int b.2]=some (jK a b):=by
 unfold jK;simp only[p7];by_cases h1:a.1=b.1
 .rw[if_pos h1];by_cases h2:a.2=b.2
  .rw[if_pos h2]
   congr 1
   simp only[pQ,oF,decide_false]
   symm
   rw[M6]
   lia
  .rw[if_neg h2]
   congr 1
   rw[zT]
   lia
 .rw[if_neg h1]
  congr 1
  rw[zT];omega
def zeP{x y:Int}{its:List Value}(hi:ItemsAre (intKind prog w) [x,y] its):Vals [.int x,.int y] its:=by
 cases hi with
 |cons hv hr=>
  cases hr with
  |cons hv2 hr2=>
   cases hr2;let⟨t,rfl⟩:=Gg hv;let⟨t',rfl⟩:=Gg hv2;show .cons ⟨t,rfl⟩ (.cons ⟨t',rfl⟩ .nil)
def ziJ{l:Addr}{Q:Value->Shared->Prop}(hh:A.handled=none)(hu:A.units+8<cLine)(hl:s.heap.IsTuple l items.toArray)(hT:gq prog w s.heap s.heap.objs.size items ts)
  (h:∀h' tk r e (js:List Nat),(∀b o,s.heap.get? b=some o->h'.get? b=some o)->s.heap.objs.size<=r->js.map (aU ts)=ss ts->(∀j∈js,j<ts.length)->h'.get? r=some (seqObj "list" (js.map (items.getD · Value.none)).toArray e)->Q (.ref r) {s with heap:=h',toks:=tk}) :
  wpAny (model prog w) A (PySem.call (.type "set") [.ref l]) (λv s'=>wpAny (model prog w) A (PySem.call (.builtin "sorted") [v]) Q E s') E s:=by
 show zdg hh hu hl hT λh1 tk1 L hS T1 hD mF=>?_;let⟨⟨ep,t,ho,tb,cap,hpl,jm⟩,idx⟩:=hS;let k1:∀b o,s.heap.get? b=some o->h1.get? b=some o:=λb o e=>mF b o (bJ e) e;let⟨L',pL,eL⟩:=zhf (f:=λe:Nat×Nat=>(aO ts e.2,items.getD e.2 Value.none)) (mD (w:=w) (S:=s.heap.objs.size) (ep:=ep) (es:=aL items (aO ts) L)) (L:=L) rfl;let ev:(bU w s.heap.objs.size ep (aL items (aO ts) L)).map (·.2)=(L'.map (·.2)).map (items.getD · Value.none):=by
  rw[eL,nM,nM];rfl
 let Bj:∀j∈L'.map (·.2),j<ts.length:=λj hj=>by
  let⟨e,he,rfl⟩:=gM.mp hj;show idx e (pL.mem_iff.mp he)
 let nd:((L'.map (·.2)).map (aU ts)).Nodup:=by
  rw[nM];let:L'.Nodup:=pL.nodup_iff.mpr (by
   let:=tb.asc;unfold Ts.gb at this;rw[wG]at this;show this.imp λ{a b} z=>λe=>by subst e;lia)
  unfold List.Nodup;rw[wG];show(List.Pairwise.and_mem.mp this).imp λ{a b} z e=>z.2.2 (tb.inj a (pL.mem_iff.mp z.1) b (pL.mem_iff.mp z.2.1) ?_);change hf (aU ts a.2)=hf (aU ts b.2);rw[show aU ts a.2=aU ts b.2 from e]
 let aaf:L.length<=28:=by rcases cap with c|c|c<;>lia
 let hlen:((L'.map (·.2)).map (items.getD · Value.none)).length=L.length:=by rw[bY,bY];show pL.length_eq
 let wA:((L'.map (·.2)).map (aU ts)).length=L.length:=by rw[bY,bY];show pL.length_eq
 let t8:∀x∈ts,gY x:=λx hx=>by
  let⟨i,hi,rfl⟩:=Hr hx;let:=T1.tie i hi;unfold aU at this;rw[mJ,fV hi]at this;show this
 let W8:∀i,i<ts.length->aU ts i∈ts:=λi hi=>by
  unfold aU;rw[mJ,fV hi];show sy hi
 let hm:∀x,x∈(L'.map (·.2)).map (aU ts)↔x∈ss ts:=λx=>by
  rw[zjl t8];show⟨λhx=>?_,λhx=>?_⟩
  .obtain⟨j,hj,rfl⟩:=gM.mp hx;show W8 j (Bj j hj)
  .obtain⟨i,hi,rfl⟩:=Hr hx;let⟨e,he,e2⟩:=hD.2 i hi;show gM.mpr ⟨e.2,gM.mpr ⟨e,pL.mem_iff.mpr he,rfl⟩,?_⟩;rw[e2];unfold aU;rw[mJ,fV hi];rfl
 let fin:∀(p:Array Nat),(2<=L.length->p.size=L.length/\(∀i∈p.toList,i<L.length)/\(∀x,x∈p.toList.map (λi=>((L'.map (·.2)).map (aU ts)).getD i (0,1))↔x∈(L'.map (·.2)).map (aU ts))/\(p.toList.map λi=>((L'.map (·.2)).map (aU ts)).getD i (0,1)).Pairwise λa b=>jK a b=true)->∃js:List Nat,js.map (aU ts)=ss ts/\(∀j∈js,j<ts.length)/\lN ((L'.map (·.2)).map (items.getD · Value.none)) p=(js.map (items.getD · Value.none)).toArray:=λp hp=>by
  unfold lN;by_cases h2:L.length<2
  .rw[hlen,if_pos h2];show⟨L'.map (·.2),Qj ?_ Qk hm,Bj,rfl⟩;rw[<-wA]at h2;generalize (L'.map (·.2)).map (aU ts)=us at h2
   match us,h2 with
   |[],_=>show .nil|[x],_=>show List.pairwise_singleton ..
  .rw[hlen,if_neg h2];let⟨p1,p2,p3,p4⟩:=hp gV;let DR:∀i∈p.toList,(L'.map (·.2)).getD i 0∈L'.map (·.2)/\((L'.map (·.2)).map (items.getD · Value.none)).getD i Value.none=items.getD ((L'.map (·.2)).getD i 0) Value.none/\((L'.map (·.2)).map (aU ts)).getD i (0,1)=aU ts ((L'.map (·.2)).getD i 0):=λi hi=>by
    let xG:i<(L'.map (·.2)).length:=by rw[bY,pL.length_eq];show p2 i hi
    generalize L'.map (·.2)=ks at xG;simp only[mJ,lD,fV xG,Option.map_some,Option.getD_some];show⟨sy xG,trivial,trivial⟩
   show⟨p.toList.map λi=>(L'.map (·.2)).getD i 0,?_,λj hj=>?_,?_⟩
   .rw[nM];let:p.toList.map (aU ts∘λi=>(L'.map (·.2)).getD i 0)=p.toList.map λi=>((L'.map (·.2)).map (aU ts)).getD i (0,1):=Nh λi hi=>((DR i hi).2.2).symm;rw[this];show Qj p4 Qk λx=>(p3 x).trans (hm x)
   .obtain⟨i,hi,rfl⟩:=gM.mp hj;show Bj _ (DR i hi).1
   .exact nO List.toArray ((Nh λi hi=>(DR i hi).2.1).trans (by rw[nM];rfl))
 obtain⟨p,hr,hp⟩ : ∃p,(2<=L.length->bZ (G_ ((L'.map (·.2)).map (aU ts))) (kas_sort L.length)=some p)/\(2<=L.length->p.size=L.length/\(∀i∈p.toList,i<L.length)/\(∀x,x∈p.toList.map (λi=>((L'.map (·.2)).map (aU ts)).getD i (0,1))↔x∈(L'.map (·.2)).map (aU ts))/\(p.toList.map λi=>((L'.map (·.2)).map (aU ts)).getD i (0,1)).Pairwise λa b=>jK a b=true):=by
  by_cases h2:2<=L.length
  .obtain⟨p,a,b,c,d,e⟩:=zha (by rw[wA];show h2) nd;rw[wA]at a b c;show⟨p,λ_=>a,λ_=>⟨b,c,d,e⟩⟩
  .exact⟨#[],λz=>absurd z h2,λz=>absurd z h2⟩
 let⟨js,j1,j2,j3⟩:=fin p hp;show zgI (vs:=(L'.map (·.2)).map (items.getD · Value.none)) (κ:=tuples' true) (lt:=G_ ((L'.map (·.2)).map (aU ts))) (p:=p) (λQ' E' q=>?_) gV (λh2 s' Q' E' k q=>?_) (λh2 s' i j b C k e hC=>?_) (λh2=>by rw[hlen]at h2 ⊢;show hr h2) (λh2=>by rw[hlen]at h2 ⊢;show(hp h2).1) (λh' tk r e k hn hg=>?_)
 .refine zel (by simp[hh]) ho tb cap hpl jm λh' tk k=>?_;rw[ev];show q h' tk k
 .obtain⟨fs,l1,hf,kt⟩:=zgZ (T1.keep λi a o hi e g=>k a o g) Bj;show zhA h2 l1 hf kt q
 .unfold G_ at e;split at e
  .rename_i a c e1 e2;cases e;rw[lD,jR]at e1 e2;let⟨j1,g1,rfl⟩:=e1;let⟨j2,g2,rfl⟩:=e2;let⟨a1,b1,_,o1,i1,n1,Oz,_,hd1,hi1⟩:=T1.at' j1 (Bj j1 (jL g1));let⟨a2,b2,_,o2,i2,n2,nR,_,hd2,hi2⟩:=T1.at' j2 (Bj j2 (jL g2));let⟨i1⟩:=i1;let⟨i2⟩:=i2;change wpAny _ _ (keyLt' (tuples' true) (((L'.map (·.2)).map (items.getD · Value.none)).getD i Value.none) (((L'.map (·.2)).map (items.getD · Value.none)).getD j Value.none)) C _ s';let f1:((L'.map (·.2)).map (items.getD · Value.none))[i]?=some (.ref a1):=by rw[lD,g1,<-b1];rfl
   let f2:((L'.map (·.2)).map (items.getD · Value.none))[j]?=some (.ref a2):=by rw[lD,g2,<-b2];rfl
   rw[T4 f1,T4 f2];let r1:=zeP hi1;let r2:=zeP hi2;show kat_lt (k _ _ Oz) hd1 (k _ _ nR) hd2 (zlp r1 r2 W7 ?_ hC);let q1:=r1.length;let q2:=r2.length;simp at q1 q2;simp[<-q1,<-q2]
  .cases e
 .refine h h' tk r e js (λb o g=>k b o (k1 b o g)) ?_ j1 j2 (by rw[<-j3];show hg);show zX (hn _ _ ho)
end
def TV(K:W.Frag)(H:Hp)(ys:List V)(ts:List (Int×Int)):Prop:=ts.length=ys.length/\∀i,i<ts.length->gY (aU ts i)/\∃a,ys[i]?=some (.ref a)/\fL K H a [.int (aU ts i).1,.int (aU ts i).2]
def rSs(K:W.Frag)(vs:List V)(H:Hp)(Q:VK):Prop:=∃l ys ts,vs=[.ref l]/\fL K H l ys/\TV K H ys ts/\∀js:List Nat,js.map (aU ts)=ss ts->(∀j∈js,j<ts.length)->∀r,H r=none->Q (.ref r) (upd H r (.lst (js.map (ys.getD · .non))))
def zhQ:bootBuiltins "set"=some (.type "set"):=by decide +kernel
section
variable {X:Cx}
def zfE{w:World}{prog:Program}{x y:Int}{its:List Value}(r:Vals [.int x,.int y] its):ItemsAre (intKind prog w) [x,y] its:=by
 cases r with
 |cons a r=>
  cases r with
  |cons b r=>
   cases r;let⟨t,rfl⟩:=a;let⟨t',rfl⟩:=b;show .cons (by change Value.isInt x (Value.int x t)=true;simp[Value.isInt]) (.cons (by change Value.isInt y (Value.int y t')=true;simp[Value.isInt]) .nil)
def zoX{k:Nat}{e:Expr}{t:TA}{p p' pos pos':Pos}(hr:bT k X.A)(hc:X.aj=true)(hg:Gl X "sorted")(hm:X.mg "sorted"=none)(Mj:Gl X "set")(yP:X.mg "set"=none)(ha:PA X [e] t)
  (he:starEach [e] X.env=(false,eval e X.env)::starEach [] X.env:=by rfl) (hpl:(backTo pos' (starEach [] X.env)).any (·.1)=false:=by rfl) :
  PE X (.Call (.Name "sorted" p) [.Call (.Name "set" p') [e] [] pos'] [] pos) (Ot (rSs X.K) t):=by
 intro ak s Z H Q I h;show Hs (yu I hg hm zez ?_);show PyProof.Rows.callWith_builtin1 ?_ rfl rfl;change wpAny _ _ (spliced ((false,eval (.Call (.Name "set" p') [e] [] pos') X.env)::backTo pos (starEach [] X.env))) _ _ s;show Calls.spliced_cons ?_;show Hs (yu I Mj yP zhQ ?_);show FQ (bf (ha pos' ak s Z H _ I h) λus s1 hz=>?_) he hpl;let⟨vs,H1,I1,r1,q1⟩:=hz;let⟨l,ys,ts,rfl,hq,⟨hl,ht⟩,q⟩:=q1;let⟨u,rfl,ru⟩:=vals1 r1;cases ru;let⟨its,rv,pl,hz⟩:=I1.tuple hq;let hu:=hr.un;let hT:gq X.prog X.w s1.heap s1.heap.objs.size its ts:=⟨by rw[hl,rv.length],λi hi=>(ht i hi).1,λi hi=>by
  let⟨a,e1,e2⟩:=(ht i hi).2;let⟨u,e3,e4⟩:=rv.get e1;cases (show u=Value.ref a from e4);let⟨its',rv',⟨o,ho,kO,n,hd⟩,_⟩:=I1.tuple e2;show⟨a,T4 e3,cR (bJ ho),o,its'.toArray,n,ho,kO,hd,?_⟩;simpa using zfE rv'⟩
 show bf (ziJ (E:=X.xe) (I1.ok.hd hc) gV pl hT λh' tk r e js k pG j1 j2 hg=>?_) λv s' hw=>Calls.spliced_nil hw;let hn:H1 r=none:=I1.hok.fresh pG;let hv:Vals (js.map (ys.getD · .non)) (js.map (its.getD · Value.none)):=ZX rv js;show⟨.ref r,_,I1.laid (a:=r) (o:=.lst (js.map (ys.getD · .non))) (h':=h') (t':=tk) k pG (show aW X.prog X.w _ h' _ (.lst _) from ⟨?_,_,e,hv,hg⟩),rfl,q js j1 j2 r hn⟩;let:(js.map (aU ts)).length<=28:=by rw[j1];show jx (List.length_filter_le ..) W9
 rw[bY]at this ⊢;show jx this W9
end
section
variable {K:W.Frag}{cA:Cl}{U:Ph}{H:Hp}
def zlc{d:D}{v:V}{p:Int×Int}(h:yS d=some p)(r:Rep K cA U H d v):d=.tup [.int p.1,.int p.2]/\gY p/\∃a,v=.ref a/\fL K H a [.int p.1,.int p.2]:=by
 unfold yS at h;split at h
 .rename_i a b;by_cases hk:0<=a/\a<b/\b<8
  .rw[if_pos hk]at h;cases h;show⟨rfl,hk,?_⟩;cases r with
   |tup t r=>
    cases r with
    |cons r1 r=>
     cases r with
     |cons r2 r=>
      cases r;cases r1;cases r2;show⟨_,rfl,t.iM⟩
  .rw[if_neg hk]at h;cases h
 .cases h
theorem zd8:∀{xs:List D} {ys:List V} {ts:List (Int×Int)},kY xs=some ts->aC K cA U H xs ys->xs=ts.map (λp=>.tup [.int p.1,.int p.2])/\TV K H ys ts
 |[],_,_,h,r=>by cases h;cases r;show⟨rfl,rfl,λi hi=>by cases hi⟩|x::xs,_,ts,h,r=>by
  unfold kY at h;split at h
  .rename_i a b e1 e2;cases h;cases r with
   |cons r1 r2=>
    let⟨e3,l,q⟩:=zd8 e2 r2;let⟨e4,t8,a1,rfl,s1⟩:=zlc e1 r1;show⟨by rw[e3,e4];rfl,by simp[l],λi hi=>?_⟩;cases i with
    |zero=>show⟨t8,a1,rfl,s1⟩|succ i=>show q i (by simpa using hi)
  .cases h
def zo5:aY K cA .eZ (rSs K):=by
 intro U H ds vs Q zt rs o;let o:aX K cA U H (Uu ds) Q:=o;unfold Uu at o;split at o
 .rename_i xs _;let⟨v,rfl,r1⟩:=rs.one;let⟨z,e⟩:=o.some';let⟨ts,e1,e2⟩:=jR.mp e;subst e2;let r1:Rep K cA U H (.tup xs) v:=r1;cases r1 with
  |tup t q=>
   let⟨e3,tv⟩:=zd8 e1 q;show⟨_,_,ts,rfl,t.iM,tv,λjs j1 j2 r hr=>(o.of e) r _ hr ?_⟩;rw[<-j1,nM];let:js.map ((λp:Int×Int=>D.tup [.int p.1,.int p.2])∘aU ts)=js.map λj=>xs.getD j .non:=Nh λj hj=>by
    let:=j2 j hj;rw[e3];simp[aU,mJ,this]
   rw[this];show q.K7 js
 .exact o.elim
end
section
variable {X:Cx}{cA:Cl}{ao:Nat->Nat->Bool}{aj:Bool}{F:Fn}{EX:XS}{e:Expr}{pos pos' p p':Pos}{Xs:Es}{fz:Bool}
theorem zoG{k:Nat}(hr:bT k X.A)(hc:X.aj=true)(hg:Gl X "sorted")(hm:X.mg "sorted"=none)(Mj:Gl X "set")(yP:X.mg "set"=none)(ha:SA X cA ao aj F EX [e] Xs)
  (he:starEach [e] X.env=(false,eval e X.env)::starEach [] X.env) (hpl:(backTo pos' (starEach [] X.env)).any (·.1)=false):SE X cA ao aj F EX (.Call (.Name "sorted" p) [.Call (.Name "set" p') [e] [] pos'] [] pos) (.pr fz .eZ Xs):=PE.weak (zoX hr hc hg hm Mj yP ha he hpl) λZ H Q hh=>un hh λU J s hL hS h=>
 tH hL hS h λvs H1 U1 ds s1 x1 hL1 aG r1 h1=>by
  let⟨ds,rs,h3⟩:=nU aG r1 h1;show zo5 U1 H1 ds _ _ aG.zs rs (nW aG h3)
theorem zpz{k:Nat}(hr:bT k X.A)(hc:X.aj=true)(hm:X.mg "sorted"=none)(hg:JK X "sorted" .globalImplicit)(yP:X.mg "set"=none)(Mj:JK X "set" .globalImplicit)(ha:JA X cA ao aj F EX [e] Xs)(he:aB e=true:=by rfl):JE X cA ao aj F EX (.Call (.Name "sorted" p) [.Call (.Name "set" p') [e] [] pos'] [] pos) (.pr fz .eZ Xs):=⟨zoG hr hc hg.o hm Mj.o yP ha.o (aQ he) (aR rfl)⟩
end
end Mi
namespace Mi
open PySem PySem.Spec PyProof.Rows L2 PySem.W
section
variable {X:Cx}{cA:Cl}{ao:Nat->Nat->Bool}{aj:Bool}{F:Fn}{EX:XS}{a b:Expr}{A B:E}{pos p:Pos}{x:Str}{e:Expr}{es:List Expr}{Xs:Es}
def zK(sc:Scope)(x:Str):Bool:=match sc.names.lookup x with
 |some k=>Ef k|none=>false
def Ql(sc:Scope)(x:Str):Bool:=match sc.names.lookup x with
 |some .globalImplicit=>true|_=>false
def zhD{sc:Scope}{x:Str}(h:zK sc x=true):∃k,sc.names.lookup x=some k/\Ef k=true:=by
 unfold zK at h;split at h
 .rename_i k e;show⟨k,e,h⟩
 .cases h
def zi4{sc:Scope}{x:Str}(h:Ql sc x=true):sc.names.lookup x=some .globalImplicit:=by
 unfold Ql at h;split at h
 .assumption
 .cases h
theorem gk(h:Ql X.env.scope x=true:=by kernel_rfl):JK X x .globalImplicit:=⟨zi4 h⟩
def jl(h:(match X.env.scope.names.lookup x with|some .local=>true|_=>false)=true:=by kernel_rfl):JK X x .local:=by
 split at h
 .exact⟨by assumption⟩
 .cases h
def jc(h:(match X.env.scope.names.lookup x with|some .cell=>true|_=>false)=true:=by kernel_rfl):JK X x .cell:=by
 split at h
 .exact⟨by assumption⟩
 .cases h
theorem xK{scope:Scope}{cl:List (Str×Addr)}{N:List Str}{Cc:Addr}{s3:Shared}{H3:Hp}{fp:List Addr}{ak:List (Addr×Obj)}(h:Ql scope x=true:=by kernel_rfl):JK (X.blk scope cl N Cc s3 H3 fp ak) x .globalImplicit:=zpb (zi4 h) rfl
def gv(i:Nat)(h:(decide (X.N[i]?=some x)&&zK X.env.scope x&&okN x)=true:=by kernel_rfl):JE X cA ao aj F EX (.Name x pos) (.v i):=by
 rw[b_,b_]at h;let⟨k,e,hv⟩:=zhD h.1.2;show g_v i (ju h.1.1) ⟨e⟩ hv h.2
def oh(i:Nat){scope:Scope}{cl:List (Str×Addr)}{N:List Str}{Cc:Addr}{s3:Shared}{H3:Hp}{fp:List Addr}{ak:List (Addr×Obj)}(h:(decide (N[i]?=some x)&&zK scope x&&okN x)=true:=by kernel_rfl):JE (X.blk scope cl N Cc s3 H3 fp ak) cA ao aj F EX (.Name x pos) (.v i):=by
 rw[b_,b_]at h;let⟨k,e,hv⟩:=zhD h.1.2;by_cases hk:k=.free
 .subst hk;show zpB i (ju h.1.1) e h.2
 .exact g_v i (ju h.1.1) (zpb e (by cases k<;>first|rfl|exact absurd rfl hk)) hv h.2
theorem gc{f k:Nat}{cm:Bool}{st:Stmt}{ps:List Str}(Fo:fM X.prog X.w X.K X.mg X.base (lM X.prog X.w) cm k (jP X.K x) (fdOf X.K x st) ps (uE X.K cA (F f)))(D:D3 X.K X.mg x st ps)(hr:bT k X.A)(R:JR X EX)(g:JK X x .globalImplicit)(ha:JA X cA ao aj F EX (e::es) Xs)(h:okN x=true:=by kernel_rfl)
  (sU:cm=true->X.aj=true:=by first|exact λ_=>rfl|exact λz=>nomatch z) (he:aB e=true:=by rfl) (hpl:es.all aB=true:=by rfl):JE X cA ao aj F EX (.Call (.Name x p) (e::es) [] pos) (.call f Xs):=
 zlP f Fo sU hr D.m D.f.kp D.b R g ha h he hpl
theorem nd(h:decide X.N.Nodup=true:=by kernel_rfl):X.N.Nodup:=ju h
end
theorem fJ{P:Program}{w:World}{K:W.Frag}{mg:Str->Option Value}{base:Heap}{cA:Cl}{ao:Nat->Nat->Bool}{T:Nat->Option Df}{x:Str}{st:Stmt}{ps:List Str}{k n:Nat}{cm:Bool}{df:Df}(D:D3 K mg x st ps)(N:List Str)(hT:T n=some df)
  (hb:∀(cdv:Value) (A:Around) (outer:List Env) (s:Shared) (H:Hp) (E:XK),bT k (A.deeper (envOfC x (aA st) s.heap.objs.size (jP K x) cdv))->
   JB (iZ (lM P w) P w K mg base N x (aA st) (jP K x) cdv A outer s H E cm) cA ao cm (λc=>call ao T k c) (λ_ C dx H'=>E C dx H') (aN st) df.body) (S:gB N ps (aA st):=by show⟨rfl,rfl,rfl,dk,rfl,dk,dk⟩) (hp:df.iC=ps.length:=by rfl) (hm:df.many=N.length:=by rfl) :
  fM P w K mg base (lM P w) cm (k+1) (jP K x) (fdOf K x st) ps (uE K cA (call ao T (k+1) cm n)):=znc D.f S hT hp hm hb
section
variable {P:Program}{w:World}{H:Hp}{h:Heap}{a:Addr}{o:HO}
def zk2(x:aW P w H h a o):∃ob,h.get? a=some ob:=by
 cases o with
 |lst xs=>let⟨_,_,_,_,e⟩:=x;show⟨_,e⟩|tup xs=>let⟨_,_,_,_,e,_⟩:=x;show⟨_,e⟩|dK kvs=>let⟨_,_,_,_,_,_,_,e,_⟩:=x;show⟨_,e⟩|dT kvs=>let⟨_,_,_,_,_,_,_,e,_⟩:=x;show⟨_,e⟩|set S n=>let⟨_,_,_,_,e,_⟩:=x;show⟨_,e⟩|ins C dx fs=>let⟨_,_,_,e,_⟩:=x;show⟨_,e⟩|own y=>show x|xd fs=>let⟨_,⟨_,_,_,e,_⟩,_⟩:=x;show⟨_,e⟩|rng lo hi=>let⟨_,_,_,e⟩:=x;show⟨_,e⟩|uP ob u=>show⟨_,x.1⟩|Ab ps=>show⟨_,x⟩|met f y=>show⟨_,x⟩|ext U=>show x.2.1
end
def laidN{X:Cx}{ak:List (Addr×Obj)}{Z:List (Option V)}{H:Hp}{s:Shared}{h':Heap}{a:Addr}{o:HO}{t':Nat}(I:Inv X ak Z H s)(k:∀b u,s.heap.get? b=some u->h'.get? b=some u)(hp:∀b u,s.heap.get? b=some u->b≠a)(new:aW X.prog X.w (upd H a o) h' a o):H a=none/\Inv X ak Z (upd H a o) {s with heap:=h',toks:=t'}:=by
 let hn:H a=none:=by
  cases e:H a with
  |none=>rfl|some u=>
   let⟨ob,q⟩:=zk2 (I.hok a u e);show absurd rfl (hp a ob q)
 let out:∀b u,H b=some u->upd H a o b=some u:=λb u q=>by rw[dB (Cp q hn)];show q
 show⟨hn,I.un ⟨λb u q _ _ _=>k b u q,λb u q _ _ _=>⟨u.slots,k b u q⟩,λb u q n _=>by rw[dB (hp b u q)];show n,λb u q _=>⟨u,k b u q⟩,λb xs q=>out b _ q,λb u xs q=>out b _ q,λb ps q=>⟨#[],by rw[out b _ q];simp⟩⟩ λb u e=>?_⟩;by_cases hb:b=a
 .subst hb;rw[iU]at e;cases e;show new
 .rw[dB hb]at e;show(I.hok b u e).stay (λc v _ q=>k c v q) (λc q=>out c _ q) λc xs q=>out c _ q
end Mi
namespace L2
open PySem PySem.Spec PyProof.Rows
section
variable {X:Cx}{e e2:Expr}{te te2:TE}{pos p2:Pos}{ak:List (Addr×Obj)}{Z:St}{H:Hp}{s:Shared}{Q:VK}
def zox{w:Str}{j:Nat}{p3 p4 p5:Pos}(hw:w.length<=600)(ha:PE X e te)(hb:PE X e2 te2):PE X (.JoinedStr [.FormattedValue e (-1) none p3,.Constant (.str w) j p4,.FormattedValue e2 (-1) none p5] pos) (λZ H Q=>te Z H λx H1=>∃i,x=.int i/\i.natAbs<2^62/\te2 Z H1 λy H2=>∃k,y=.int k/\k.natAbs<2^62/\Q (.str (Str.empty++Str.ofString (toString i)++w++Str.ofString (toString k))) H2):=by
 intro ak s Z H Q I h;let hs:(6000:Nat)<=sizeLine:=by decide
 let lg:∀i:Int,i.natAbs<2^62->i.natAbs.log2<1920:=λi hi=>by
  by_cases h0:i.natAbs=0
  .rw[h0];decide
  .exact gG ((Nat.log2_lt h0).mpr hi) W9
 let ap:∀a b:Str,(a++b).length=a.length+b.length:=λa b=>Ht ..;show wpAny_JoinedStr (Joins_cons (FormattedValue_plain (bf (ha ak s Z H _ I h) λv s1 hz=>?_)));let⟨x,H1,I1,r1,i,ex,hi,h1⟩:=hz;subst ex;let⟨t,rfl⟩:=r1;let l1:=int_text_len_1921 (lg i hi);show Rm (lg i hi) ⟨_,_,rfl,by rw[ap];change 0+_<=_;lia,Joins_cons (bf (Ob ak _ Z H1 (λv H'=>v=.str w/\H'=H1) (I1.tok _) ⟨rfl,rfl⟩) λv s2 hz=>?_)⟩;let⟨y,H2,I2,r2,ey,eH⟩:=hz;subst ey eH;let⟨t2,rfl⟩:=r2;show⟨_,_,rfl,by rw[ap,ap];change 0+_+_<=_;lia,Joins_cons (FormattedValue_plain (bf (hb ak s2 Z H2 _ I2 h1) λv s3 hz=>?_))⟩;let⟨y,H3,I3,r3,k,ey,hk,q⟩:=hz;subst ey;let⟨t3,rfl⟩:=r3;let l3:=int_text_len_1921 (lg k hk);show Rm (lg k hk) ⟨_,_,rfl,by rw[ap,ap,ap];change 0+_+_+_<=_;lia,Joins_nil ⟨by rw[ap,ap,ap];change 0+_+_+_<=_;lia,⟨.str _,H3,I3.tok _,⟨_,rfl⟩,q⟩⟩⟩
def Ml:R2:=λx y H Q=>∃z i c,x=.str z/\y=.int i/\(0<=i/\i<1000)/\z.cps[i.toNat]?=some c/\Q (.str ⟨#[c]⟩) H
def znY:wM X Ml:=by
 intro value slice ak s Z H x y v u Q I rx ry h hs;let⟨z,i,c,rfl,rfl,hz,he,q⟩:=h;let⟨t,rfl⟩:=rx;let⟨t',rfl⟩:=ry;let hj:i.toNat<z.length:=(FT.mp he).1;show tail_any (typeIs_str s z t) slot_str_getitem.lookup (getItem_str (c:=c) (by
  let e1:decide (i < -(2^63:Int))=false:=eO gV;let e2:decide (i>=2^63)=false:=eO gV;rw[e1,e2,Bool.or_false]) (by
   let:seqIndex? i z.length=some i.toNat:=by
    unfold seqIndex?;simp only[if_neg (show ¬i<0 by lia)];rw[cH hz.1,cH (show i<(z.length:Int) by lia)];rfl
   rw[this];show he) ⟨.str ⟨#[c]⟩,H,I.tok _,⟨_,rfl⟩,q⟩) hs
def zhb:dG X (.type "int") (λxs H Q=>∃x n,xs=[.str x]/\x.length<=600/\intText? x=some n/\Q (.int n) H):=by
 rintro ak s Z H xs us Q I r ⟨x,n,e,hl,hn,q⟩;subst e;let⟨u,rfl,t,rfl⟩:=vals1 r;show W.KIN.call_text hn gV ⟨.int n,H,I.tok _,⟨_,rfl⟩,q⟩
def zjh{y:Str}(h:Mi.fO y=true):y.length=1/\Builtin.Str.strKind y=1:=by
 unfold Mi.fO at h;rw[b_]at h;show⟨ju h.1,ju h.2⟩
def zjA:CZ X "str.partition" (λx xs H Q=>∃a b:Str,x=.str a/\xs=[.str b]/\a.length<=600/\Mi.fO b=true/\∀p,H p=none->Q (.ref p) (upd H p (.tup [.str (Txt.partition a b).1,.str (Txt.partition a b).2.1,.str (Txt.partition a b).2.2]))):=by
 rintro ak s Z H x xs v us Q I rx r ⟨a,b,e1,e2,ha,hb,q⟩;subst e1 e2;let⟨t,rfl⟩:=rx;let⟨u,rfl,tb,rfl⟩:=vals1 r;let hs:(600:Nat)<=sizeLine:=by decide
 let hb:=zjh hb;show B_ PySem.F.slot_str_partition rfl PySem.F.entry_str_partition (PySem.F.args_str_partition_2 _ _) (meets_str_partition a b t tb (by rw[hb.1];rfl) (jx ha hs)) ?_;let q:=q s.heap.objs.size (I.hok.fresh (bK _));unfold Txt.partition at q;change EP X ak Z Q (.ref s.heap.objs.size) _;cases e:Builtin.Str.occurrences a b 0 a.length 1 with
 |nil=>
  rw[e]at q;show⟨.ref _,_,I.laid (t':=s.toks+1) (o:=.tup [.str a,.str Str.empty,.str Str.empty]) (λb ob q=>bM _ q) (bK _) ⟨by change 3<=sizeLine;decide,_,.cons ⟨_,rfl⟩ (.cons ⟨_,rfl⟩ (.cons ⟨_,rfl⟩ .nil)),iV.new _ _⟩,rfl,q⟩
 |cons i r=>
  rw[e]at q;show⟨.ref _,_,I.laid (t':=s.toks+1+1) (o:=.tup [.str (Builtin.Str.strSub a 0 i),.str b,.str (Builtin.Str.strSub a (i+b.length) a.length)]) (λb ob q=>bM _ q) (bK _) ⟨by change 3<=sizeLine;decide,_,.cons ⟨_,rfl⟩ (.cons ⟨_,rfl⟩ (.cons ⟨_,rfl⟩ .nil)),iV.new _ _⟩,rfl,q⟩
theorem zd0:∀(xs:List Str) (k:Nat),Vals (xs.map V.str) (strsFrom k xs)
 |[],_=>.nil|x::r,k=>.cons ⟨_,rfl⟩ (zd0 r (k+1))
def zhK(x:Str):1<=Builtin.Str.strKind x:=by
 unfold Builtin.Str.strKind
 split
 .lia
 .split<;>lia
def zkK:CZ X "str.split" (λx xs H Q=>∃a b:Str,x=.str a/\xs=[.str b]/\a.length<=600/\Mi.fO b=true/\(Mi.bG a b).length<=1000/\∀p,H p=none->Q (.ref p) (upd H p (.lst ((Mi.bG a b).map .str)))):=by
 rintro ak s Z H x xs v us Q I rx r ⟨a,b,e1,e2,ha,hb,hl,q⟩;subst e1 e2;let⟨t,rfl⟩:=rx;let⟨u,rfl,tb,rfl⟩:=vals1 r;let hs:(1000:Nat)<=sizeLine:=by decide
 let hb:=zjh hb;let q:=q s.heap.objs.size (I.hok.fresh (bK _));let hk:=zhK a;let one:∀t':Nat,Q (.ref s.heap.objs.size) (upd H s.heap.objs.size (.lst [.str a]))->EP X ak Z Q (.ref s.heap.objs.size) {s with heap:=s.heap.push {cls:=.type "list",data:=.seq #[.str a t]}}:=λ_ q=>
  ⟨.ref _,_,I.laid (t':=s.toks) (o:=.lst [.str a]) (λb ob q=>bM _ q) (bK _) ⟨by change 1<=sizeLine;decide,_,0,.cons ⟨_,rfl⟩ .nil,fW _ rfl⟩,rfl,q⟩
 by_cases h0:a.length<1
 .refine B_ M8 rfl Q9 (Q6 _ _) (meets_str_split_cannot_occur a b t tb (by rw[hb.1,cH h0];rfl)) ?_;unfold Mi.bG at q;rw[cH h0]at q;show one 0 q
 .let hc:(decide (a.length<b.length)||decide (Builtin.Str.strKind a<Builtin.Str.strKind b))=false:=by
   rw[hb.1,hb.2,eO h0,eO gV];rfl
  cases e:(Builtin.Str.occurrences a b 0 a.length (a.length+1)).isEmpty with
  |true=>
   show B_ M8 rfl Q9 (Q6 _ _) (meets_str_split_not_found a b t tb hc (by rw[hb.1];rfl) e) ?_;unfold Mi.bG at q;rw[eO h0,e]at q;show one 0 q
  |false=>
   unfold Mi.bG at q hl;rw[eO h0,e]at q hl;show B_ M8 rfl Q9 (Q6 _ _) (meets_str_split_sep a b t tb hc (by rw[hb.1];rfl) e gV (by show jx hl hs)) ?_;show⟨.ref _,_,I.laid (o:=.lst ((Builtin.Str.partsBetween a (Builtin.Str.occurrences a b 0 a.length (a.length+1)) b.length).map .str)) (λb ob q=>bM _ q) (bK _) ⟨by rw[bY];show jx hl hs,_,0,zd0 _ _,fW _ rfl⟩,rfl,q⟩
end
end L2
namespace Mi
open PySem PySem.Spec PyProof.Rows L2 PySem.W
section
variable {X:Cx}{cA:Cl}{ao:Nat->Nat->Bool}{aj:Bool}{F:Fn}{EX:XS}{a b e o:Expr}{es:List Expr}{A B O:E}{Xs:Es}{pos p p2 apos:Pos}{fz:Bool}
def zfe{b:Bool}{x:Str}{z:Rz}(h:GJ b x=some z):b=true/\z=.dat (.str x):=by
 cases b with
 |true=>show⟨rfl,(dD h).symm⟩|false=>cases h
theorem Hf{x:Str}(h:fG x=true):x.length<=600:=ju h
def zjx{K:W.Frag}:aY K cA .sY (λxs H Q=>∃z,xs=[.str z]/\z.length<=sizeLine/\Q (.int z.length) H):=by
 intro U H ds vs Q zt rs o;let o:aX K cA U H (vD ds) Q:=o;let hs:(600:Nat)<=sizeLine:=by decide
 unfold vD at o;split at o
 .rename_i x _;let⟨v,rfl,r1⟩:=rs.one;cases r1;cases e:fG x with
  |true=>
   rw[e]at o;show⟨x,rfl,jx (Hf e) hs,(o.of rfl).here (.int _)⟩
  |false=>rw[e]at o;show o.elim
 .exact o.elim
theorem zlU(hm:X.mg "len"=none)(hg:JK X "len" .globalImplicit)(ha:JA X cA ao aj F EX (e::es) Xs)(he:aB e=true:=by rfl)(hpl:es.all aB=true:=by rfl):JE X cA ao aj F EX (.Call (.Name "len" p) (e::es) [] pos) (.pr fz .sY Xs):=⟨Km zdC zjx hg.o hm PySem.boot_len ha.o W9 W9 (aQ he) (aR hpl)⟩
def zjG{K:W.Frag}:aY K cA .sint (λxs H Q=>∃x n,xs=[.str x]/\x.length<=600/\PySem.intText? x=some n/\Q (.int n) H):=by
 intro U H ds vs Q zt rs o;let o:aX K cA U H (vJ ds) Q:=o;unfold vJ at o;split at o
 .rename_i x _;let⟨v,rfl,r1⟩:=rs.one;cases r1;cases e:fG x with
  |true=>
   rw[e]at o;let⟨z,ez⟩:=o.some';let⟨n,e1,e2⟩:=jR.mp ez;subst e2;show⟨x,n,rfl,Hf e,e1,(o.of ez).here (.int _)⟩
  |false=>rw[e]at o;show o.elim
 .exact o.elim
theorem Qm(hm:X.mg "int"=none)(hg:JK X "int" .globalImplicit)(ha:JA X cA ao aj F EX (e::es) Xs)(he:aB e=true:=by rfl)(hpl:es.all aB=true:=by rfl):JE X cA ao aj F EX (.Call (.Name "int" p) (e::es) [] pos) (.pr fz .sint Xs):=⟨Ko zhb zjG hg.o hm PyProof.Rows.boot_int ha.o W9 W9 (aQ he) (aR hpl)⟩
def zmP{K:W.Frag}:aY K cA .qd (r2 Ml):=by
 intro U H ds vs Q zt rs o;let o:aX K cA U H (Du ds) Q:=o;unfold Du at o;split at o
 .rename_i x i _;let⟨v,v',rfl,r1,r2⟩:=rs.two (ds:=[]);cases r1;by_cases hi:0<=i/\i<1000
  .rw[if_pos hi]at o;let⟨z,ez⟩:=o.some';let⟨c,e1,e2⟩:=jR.mp ez;subst e2;show⟨_,_,rfl,x,i,c,rfl,r2.int,hi,e1,(o.of ez).here (.str _)⟩
  .rw[if_neg hi]at o;show o.elim
 .exact o.elim
theorem Fl(ha:JE X cA ao aj F EX a A)(hb:JE X cA ao aj F EX b B)(hs:oV b=true:=by rfl):JE X cA ao aj F EX (.Subscript a b pos) (.pr true .qd (.cons A (.cons B .nil))):=⟨PE.weak (Zr znY ha.o hb.o (by cases b<;>first|(intro _ _;rfl)|cases hs)) λZ H Q hh=>un hh λU J s hL hS h=>by
 let h:Run X.K cA (M.bd (M.bd (ev ao aj F A J) λx=>M.bd (M.bd (ev ao aj F B J) λy=>M.bd (M.ret []) λz=>M.ret (y::z)) λys=>M.ret (x::ys)) λvs=>M.bd (dH vs) λds=>bw true (prim .qd ds)) U H s _ _:=h;simp only[iD]at h;show aZ hL hS h λx H1 U1 d1 s1 x1 hL1 aG r1 h1=>aZ hL1 aG h1 λy H2 U2 d2 s2 x2 hL2 aP r2' h2=>?_;show uz (Kh (fz:=true) (U:=U) x2 aG aP r1 r2' h2 zmP)⟩
def zjK{K:W.Frag}:GR K cA .part (λx xs H Q=>∃a b:Str,x=.str a/\xs=[.str b]/\a.length<=600/\fO b=true/\∀p,H p=none->Q (.ref p) (upd H p (.tup [.str (Txt.partition a b).1,.str (Txt.partition a b).2.1,.str (Txt.partition a b).2.2]))):=by
 intro U H ds vs Q zt rs o;let o:aX K cA U H (vG ds) Q:=o;unfold vG at o;split at o
 .rename_i x y _;let⟨v,v',rfl,r1,r2⟩:=rs.two (ds:=[]);cases r1;cases r2;cases e:fG x&&fO y with
  |true=>
   rw[e]at o;rw[b_]at e;show⟨_,_,rfl,x,y,rfl,rfl,Hf e.1,e.2,λp hp=>aX.tup o zt (.cons (.str _) (.cons (.str _) (.cons (.str _) .nil))) hp⟩
  |false=>rw[e]at o;show o.elim
 .exact o.elim
theorem zi7(ho:JE X cA ao aj F EX a A)(ha:JA X cA ao aj F EX (e::es) Xs)(bN:attributeBase a "partition" X.env (eval a X.env)=eval a X.env:=by rfl)(gR:decide (es.length<28)=true:=by rfl)(cO:(apos.endLine==pos.line)=true:=by rfl)(hs:aB e=true:=by rfl)(bC:es.all aB=true:=by rfl) :
  JE X cA ao aj F EX (.Call (.Attribute a "partition" apos) (e::es) [] pos) (.meth true .part .str A Xs):=⟨KJ (k:=.str) Rg PySem.F.slot_str_partition PySem.F.type_str_partition zjA zjK ho.o ha.o bN (gF hs bC gR) cO (aQ hs) (aR bC)⟩
theorem zdN{K:W.Frag}{U:Ph}{H:Hp}:∀xs:List Str,aC K cA U H (xs.map D.str) (xs.map V.str)
 |[]=>.nil|x::r=>.cons (.str x) (zdN r)
def zle{K:W.Frag}:GR K cA .qe (λx xs H Q=>∃a b:Str,x=.str a/\xs=[.str b]/\a.length<=600/\fO b=true/\(bG a b).length<=1000/\∀p,H p=none->Q (.ref p) (upd H p (.lst ((bG a b).map .str)))):=by
 intro U H ds vs Q zt rs o;let o:aX K cA U H (vH ds) Q:=o;unfold vH at o;split at o
 .rename_i x y _;let⟨v,v',rfl,r1,r2⟩:=rs.two (ds:=[]);cases r1;cases r2;cases e:fG x&&fO y&&decide ((bG x y).length<=1000) with
  |true=>
   rw[e]at o;rw[b_,b_]at e;show⟨_,_,rfl,x,y,rfl,rfl,Hf e.1.1,e.1.2,ju e.2,λp hp=>o p _ hp (zdN _)⟩
  |false=>rw[e]at o;show o.elim
 .exact o.elim
theorem W_(ho:JE X cA ao aj F EX a A)(ha:JA X cA ao aj F EX (e::es) Xs)(bN:attributeBase a "split" X.env (eval a X.env)=eval a X.env:=by rfl)(gR:decide (es.length<28)=true:=by rfl)(cO:(apos.endLine==pos.line)=true:=by rfl)(hs:aB e=true:=by rfl)(bC:es.all aB=true:=by rfl) :
  JE X cA ao aj F EX (.Call (.Attribute a "split" apos) (e::es) [] pos) (.meth fz .qe .str A Xs):=⟨KJ (k:=.str) Rg M8 PySem.F.type_str_split zkK zle ho.o ha.o bN (gF hs bC gR) cO (aQ hs) (aR bC)⟩
theorem zpD{w:Str}{j:Nat}{p3 p4 p5:Pos}(ha:JE X cA ao aj F EX a A)(hb:JE X cA ao aj F EX b B)(hw:decide (w.length<=600)=true:=by decide):JE X cA ao aj F EX (.JoinedStr [.FormattedValue a (-1) none p3,.Constant (.str w) j p4,.FormattedValue b (-1) none p5] pos) (.pr true .cat (.cons (.pr true .str1 (.cons A .nil)) (.cons (.c (.str w)) (.cons (.pr true .str1 (.cons B .nil)) .nil)))):=⟨PE.weak (zox (ju hw) ha.o hb.o) λZ H Q hh=>un hh λU J s hL hS h=>by
 let h:Run X.K cA (M.bd (M.bd (M.bd (M.bd (ev ao aj F A J) λx=>M.bd (M.ret []) λq=>M.ret (x::q)) λvs=>M.bd (dH vs) λds=>bw true (jf ds)) λx=>M.bd (M.bd (M.ret (.d (.str w))) λy=>M.bd (M.bd (M.bd (M.bd (ev ao aj F B J) λx=>M.bd (M.ret []) λq=>M.ret (x::q)) λvs=>M.bd (dH vs) λds=>bw true (jf ds)) λz=>M.bd (M.ret []) λq=>M.ret (z::q)) λq=>M.ret (y::q)) λq=>M.ret (x::q)) λvs=>M.bd (dH vs) λds=>bw true (yU ds)) U H s _ _:=h;simp only[iD]at h;show aZ hL hS h λx H1 U1 d1 s1 x1 hL1 aG r1 h1=>?_;let⟨ds,rs,h2⟩:=nU aG (.cons r1 .nil) h1;obtain⟨d,rfl⟩ : ∃d,ds=[d]:=by
  cases rs with
  |cons a r=>cases r;show⟨_,rfl⟩
 let⟨v,e,r⟩:=rs.one;cases e;cases d with
 |int i=>
  by_cases hi:i.natAbs<2^62
  .let e1:jf [.int i]=some (.dat (.str (Str.ofString (toString i)))):=if_pos hi;rw[e1]at h2;show⟨i,r.int,hi,?_⟩;let h3:Run X.K cA (M.bd (ev ao aj F B J) λy=>M.bd (dH [y]) λds=>M.bd (bw true (jf ds)) λt2=>M.bd (dH [.d (.str (Str.ofString (toString i))),.d (.str w),t2]) λds=>bw true (yU ds)) U1 H1 s1 _ _:=h2;show aZ hL1 aG h3 λy H2 U2 d2 s2 x2 hL2 aP r2 h4=>?_;let⟨ds,rs,h5⟩:=nU aP (.cons r2 .nil) h4;obtain⟨d,rfl⟩ : ∃d,ds=[d]:=by
    cases rs with
    |cons a r=>cases r;show⟨_,rfl⟩
   let⟨v,e,r⟩:=rs.one;cases e;cases d with
   |int k=>
    by_cases hk:k.natAbs<2^62
    .let e1:jf [.int k]=some (.dat (.str (Str.ofString (toString k)))):=if_pos hk;rw[e1]at h5;show⟨k,r.int,hk,?_⟩;let h6:Run X.K cA (bw true (yU [.str (Str.ofString (toString i)),.str w,.str (Str.ofString (toString k))])) U2 H2 s2 _ _:=h5;let o:aX X.K cA U2 H2 (GJ (fG (Str.ofString (toString i))&&fG w&&fG (Str.ofString (toString k))) (Str.empty++Str.ofString (toString i)++w++Str.ofString (toString k))) Q:=nW aP h6;let⟨z,ez⟩:=o.some';let⟨e1,rfl⟩:=zfe ez;show(o.of ez).here (.str _)
    .let e1:jf [.int k]=none:=if_neg hk;rw[e1]at h5;show h5.elim
   |_=>show h5.elim
  .let e1:jf [.int i]=none:=if_neg hi;rw[e1]at h2;show h2.elim
 |_=>show h2.elim⟩
end
theorem zkY{K:W.Frag}{cA:Cl}(i j l:Nat):qz K cA (pW K 3 (dJ (cY i) (dJ (cY j) (dJ (cY l) pU)))) [i,j,l] where
 run:=λU H s Z J J' d v Q hL hS r e k=>by
  let e:(jD d).bind (λds=>fu [i,j,l] (ds.map Xv.d) J)=some J':=e;let⟨ds,e1,e2⟩:=qM.mp e;cases r with
  |@tup ad xs vs h1 h2=>
   let e1:xs=ds:=dD e1;subst e1;cases h2 with
   |nil=>cases e2|cons r1 t1=>
    cases t1 with
    |nil=>cases e2|cons r2 t2=>
     cases t2 with
     |nil=>cases e2|cons r3 t3=>
      cases t3 with
      |nil=>
       let e2:=dD e2;subst e2;show⟨ad,_,rfl,h1.iM,rfl,_,_,rfl,_,_,rfl,_,_,rfl,rfl,k _ (((hL.set (.d r1)).set (.d r2)).set (.d r3)) (by rw[lE,lE,lE]) λm hm=>?_⟩;rw[oE (λz=>hm (by simp[z])),oE (λz=>hm (by simp[z])),oE (λz=>hm (by simp[z]))]
      |cons _ _=>cases e2
  |_=>cases e1
section
variable {X:Cx}{cA:Cl}{ao:Nat->Nat->Bool}{aj:Bool}{F:Bool->Fn}{EX:XS}{x y z:Str}{kx ky kz:NameKind}{i j l:Nat}{a:Expr}{A:E}{pos:Pos}
theorem zi5(i j l:Nat){k0}{px py pz pt:Pos}(hc:X.aj=true)(bI:aj=true)(hN:X.N.Nodup)(hi:X.N[i]?=some x)(hj:X.N[j]?=some y)(hl:X.N[l]?=some z)(hx:JK X x kx)(hy:JK X y ky)(hz:JK X z kz)(vY:ji kx=true)(Ek:ji ky=true)(hlz:ji kz=true)(ha:JE X cA ao aj (F aj) EX a A)
  (lO:X.fn x=true\/kx=.local:=by first|exact .inl rfl|exact .inr rfl) (oU:X.fn y=true\/ky=.local:=by first|exact .inl rfl|exact .inr rfl) (hfz:X.fn z=true\/kz=.local:=by first|exact .inl rfl|exact .inr rfl)
  (hs:swapsWithSole [.Tuple [.Name x px,.Name y py,.Name z pz] k0 pt] a pos.line X.env=pure false:=by rfl) (hw:swappedStores [.Tuple [.Name x px,.Name y py,.Name z pz] k0 pt] a X.env=pure none:=by rfl) (h1:(assignEach [.Tuple [.Name x px,.Name y py,.Name z pz] k0 pt] X.env).map (·.2)=[assign (.Tuple [.Name x px,.Name y py,.Name z pz] k0 pt) X.env]:=by rfl) :
  JS X cA ao aj F EX (.Assign [.Tuple [.Name x px,.Name y py,.Name z pz] k0 pt] a pos) (.asg (.tp [i,j,l]) A):=
 ⟨PS.weak (Ik ha.o (R4 hc (yx (yw hN hi (tQ hx vY) (tR hx lO)) (yx (yw hN hj (tQ hy Ek) (tR hy oU)) (yx (yw hN hl (tQ hz hlz) (tR hz hfz)) Og)))) hs hw h1) λD Z H hh=>un hh λU J s hL hS h=>
 ⟨U,J,s,hL,hS,(aM.ofM hL hS.lz h).imp λd s1 U1 H1 ⟨x1,aG,h1⟩ v rv=>by
  let hL1:=hL.mono x1 hS.lz;let h:aM X.K cA (if aj=true then ofM (M.bd (dat d) λd=>M.opt ((jD d).bind λds=>fu [i,j,l] (ds.map Xv.d) J)) J (λJ' s=>some (Out.nx J',s)) else λ_=>none) U1 H1 s1 D EX:=h1;rw[if_pos bI]at h;let⟨dd,e0,rd,h1⟩:=O8 rv (aM.ofM hL1 aG.lz h);let⟨J',e,_,aP,h2⟩:=Run.opt aG h1;show(zkY i j l).run U1 H1 s1 Z J J' dd v _ hL1 aG rd e λZ' Vp _ _=>h2 U1 H1 Z' Ext.refl aG Vp⟩⟩
end
end Mi
namespace HT
open PySem PySem.Spec PyProof.Rows L2
def lexLe(a b:List Int):Bool:=!lexLt b a
def zfy(x y:Int)(xs ys:List Int):lexLe (x::xs) (y::ys)=if x=y then lexLe xs ys else decide (x<=y):=by
 unfold lexLe;rw[gQ];by_cases h:x=y
 .rw[if_pos h,if_pos h.symm]
 .rw[if_neg h,if_neg λz=>h z.symm,<-decide_not];show zT.mpr gV
theorem zcQ:lexLe [] []=true:=rfl
theorem zcp(y:Int)(ys:List Int):lexLe [] (y::ys)=true:=rfl
theorem zcg(x:Int)(xs:List Int):lexLe (x::xs) []=false:=rfl
theorem ziT(A:Around)(s:Shared)(a:Int)(t:Tok)(c:Int)(u:Tok)(prog:Program)(w:World)(E:Value->Shared->Prop)(Q:Value->Shared->Prop)(h:Q (.bool (decide (a<=c))) s) :
  wpAny (model prog w) A (richCompare .LtE (.int a t) (.int c u)) Q E s:=
 (PyProof.Rows.le_int h:wpAny (model prog w) A (compareOp .LtE (.int a t) (.int c u)) Q E s)
section
open PySem.SeqAt
open PySem.AutoSeq1 (wpAny_loadPart')
open PySem.MeetsSeq PySem.MeetsSeq2 PySem.MeetsSeq3
theorem zcN(l b:Addr)(items items2:Array Value)(n n2:Nat)(dd dd2:Option Addr)(sl sl2:Array (Option Value))(ns ms:List Int)(hi:IntsAre items.toList ns)(hj:IntsAre items2.toList ms) :
  Meets (Builtin.«tuple.__le__» ⟨[.ref l,.ref b],[]⟩)
   (λ_ R s=>s.heap.get? l=some {cls:=.type "tuple",dict:=dd,data:=.seq items n,slots:=sl}/\s.heap.get? b=some {cls:=.type "tuple",dict:=dd2,data:=.seq items2 n2,slots:=sl2} /\
    R (.ok (.ret (.bool (lexLe ns ms)))) s):=
 .of_wp λprog w A R s h=>by
  let⟨hp,g,d,tk,os⟩:=s;let⟨hl,hb,h⟩:=h;let f2:=AutoSeq1.sub_tuple_tuple;let z1:items.size=ns.length:=by rw[<-hi.length];simp
  let z2:items2.size=ms.length:=by rw[<-hj.length];simp
  wp_walk using M_ hl,M_ hb,Hu _ (λrest b s'=>b.1=none/\s'=⟨hp,g,d,tk,os⟩/\∃(vs ws:List Value) (ns' sV:List Int),rest=vs.zip ws /\
   IntsAre vs ns'/\IntsAre ws sV/\ns'.length+items2.size=sV.length+items.size/\R (.ok (.ret (.bool (lexLe ns' sV)))) ⟨hp,g,d,tk,os⟩) _
  case turn=>
   rintro⟨y,x⟩ rest b s' ⟨hb',rfl,vs,ws,ns',sV,hz,CQ,hwi,hlen,hR⟩;cases CQ with
   |nil=>rw[Ru]at hz;cases hz|cons a t CT=>
    cases hwi with
    |nil=>rw[Rq]at hz;cases hz|cons c u CV=>
     rw[zP]at hz;injection hz with Sd hrest;injection Sd with hy hx;subst hy hx;rw[zfy]at hR;simp only[eN]at hlen;let⟨e,he,uY⟩:=Zk A.in1 ⟨hp,g,d,tk,os⟩ a t c u;show au (he prog w _ _ ?_);cases e with
     |true=>
      rw[if_pos (uY.mp rfl)]at hR
      wp_walk
      show⟨rfl,rfl,_,_,_,_,hrest,CT,CV,by lia,hR⟩
     |false=>
      rw[if_neg (λq=>absurd (uY.mpr q) Rr)]at hR;let Sg:=ziT A.in1 ⟨hp,g,d,tk,os⟩ a t c u prog w
      wp_walk using Sg
      show⟨_,rfl,by simpa using hR⟩
  case fin=>
   rintro⟨b1,b2⟩ s' ⟨hb',rfl,vs,ws,ns',sV,hz,CQ,hwi,hlen,hR⟩;simp only at hb';subst hb';let hv:lexLe ns' sV=decide (items.size<=items2.size):=by
    cases CQ with
    |nil=>
     cases hwi with
     |nil=>
      simp only[pQ]at hlen;rw[zcQ];show(cH gV).symm
     |cons c u hw=>
      simp only[pQ,eN]at hlen;rw[zcp];show(cH gV).symm
    |cons a t hv=>
     cases hwi with
     |nil=>
      simp only[pQ,eN]at hlen;rw[zcg];show(eO gV).symm
     |cons c u hw=>
      rw[zP]at hz;cases hz
   rw[hv]at hR
   wp_walk
   show⟨_,rfl,by simpa [Builtin.Tuple.tupleCompareSizes] using hR⟩
  case h=>
   show⟨rfl,rfl,items.toList,items2.toList,ns,ms,rfl,hi,hj,by lia,h⟩
end
section
variable {prog:Program}{w:World}{A:Around}{E:Value->Shared->Prop}{s:Shared}
def qH{l b:Addr}{items items2:Array Value}{ns ms:List Int}{Q:Value->Shared->Prop}(hl:IsTup s.heap l items)(hb:IsTup s.heap b items2)(hi:IntsAre items.toList ns)(hj:IntsAre items2.toList ms)
  (hu:A.units<cLine) (h:Q (.bool (lexLe ns ms)) s):wpAny (model prog w) A (compareOp .LtE (.ref l) (.ref b)) Q E s:=by
 let⟨⟨cls,dd,data,sl⟩,ho,hc,n,hd⟩:=id hl;let⟨⟨cls2,dd2,data2,sl2⟩,nR,qU,n2,hd2⟩:=id hb;simp only at hc hd qU hd2;subst hc hd qU hd2;show richCompare_meets_room (op:=.LtE) ⟨_,ho,rfl⟩ ⟨_,nR,rfl⟩ PySem.F.slot_tuple_le PySem.F.entry_tuple_le (PySem.F.args_tuple_le_2 _ _) (zcN l b items items2 n n2 dd dd2 sl sl2 ns ms hi hj)
  ⟨ho,nR,show Value.bool (lexLe ns ms)≠Value.notImplemented/\Q (.bool (lexLe ns ms)) s from ⟨(λx=>nomatch x),h⟩⟩ hu
end
end HT
namespace L2
open PySem PySem.Spec PyProof.Rows
section
variable {X:Cx}
def Mp(f:List Int->List Int->Bool)(K:W.Frag):R2:=λx y H Q=>∃a b ns ms,x=.ref a/\y=.ref b/\fL K H a (ns.map V.int)/\fL K H b (ms.map V.int)/\Q (.bl (f ns ms)) H
def zn6(hu:X.A.units<cLine):dj X (compareOp .LtE) (Mp HT.lexLe X.K):=by
 intro ak s Z H x y v u Q I rx ry h;let⟨a,b,ns,ms,rfl,rfl,ha,hb,q⟩:=h;cases rx;cases ry;let⟨its,r1,p1,_⟩:=I.tuple ha;let⟨its2,r2,p2,_⟩:=I.tuple hb;let i1:IntsAre its.toArray.toList ns:=Ou r1;let i2:IntsAre its2.toArray.toList ms:=Ou r2;show HT.qH p1 p2 i1 i2 hu ⟨.bl (HT.lexLe ns ms),H,I,rfl,q⟩
end
end L2
namespace Mi
open PySem PySem.Spec PyProof.Rows L2 PySem.W
section
variable {X:Cx}{cA:Cl}
def zmw{K:W.Frag}{p:Pr}{f g:List Int->List Int->Bool}(hp:prim p=rA f)(hf:∀a b,f a b=g a b):aY K cA p (r2 (Mp g K)):=by
 intro U H ds vs Q zt rs o;rw[hp]at o;let⟨z,e⟩:=o.some';unfold rA at e;split at e
 .split at e
  .rename_i a b h1 h2;cases e;let⟨v,v',rfl,r1,r2⟩:=rs.two (ds:=[]);let⟨p,us,rfl,t1,q1⟩:=r1.tup;let⟨p',us',rfl,t2,q2⟩:=r2.tup;let o2:aX K cA U H (some (.dat (.bl (f a b)))) Q:=by
    unfold rA at o;simp only[h1,h2]at o;show o
   show⟨_,_,rfl,p,p',a,b,rfl,rfl,by rw[<-Ky h1 q1];show t1.iM,by rw[<-Ky h2 q2];show t2.iM,?_⟩;rw[<-hf];show o2.here (.bl _)
  .cases e
 .cases e
theorem zmx{k:Nat}(hr:bT k X.A):JP X cA .LtE .vq:=⟨_,zn6 (by let:=vR hr;lia),zmw rfl λa b=>by change (!ltI b a) = !HT.lexLt b a;rw[Vd b a]⟩
end
end Mi
namespace Mi
open PySem PySem.Spec PyProof.Rows L2
section
variable {K:W.Frag}{cA:Cl}{U U':Ph}{H H':Hp}{s:S}
def zeC{p:Addr}{o:HO}(hS:aF K cA U H s)(hp:H p=none):Ext U H (U.mark p) (upd H p o)/\aF K cA (U.mark p) (upd H p o) s/\iH (U.mark p) (upd H p o) p o:=by
 let g:=bD.new (o:=o) hp;let nz:=hS.nz hp;let x:Ext U H (U.mark p) (upd H p o):=⟨⟨[],by simp[Ph.mark],by simp⟩,λa z=>.inl z,λa z=>z.imp id λe=>by rw[e];show hp,λa o h _=>g a o h,λa o h=>⟨o,g a o h⟩⟩;show⟨x,⟨hS.len,λn o a e1 e2=>?_,hS.uniq,λa ha=>.inl (hS.lz a ha),λa z=>?_⟩,iU,λz=>nz (hS.lz p z),.inr rfl⟩
 .exact(hS.obj n o a e1 e2).map (g _) λ_ _ r=>r.mono x hS.lz
 .rcases z with z|z
  .obtain⟨o,e⟩:=hS.zt a z;show⟨o,g _ _ e⟩
  .subst z;show⟨_,iU⟩
end
end Mi
namespace L2
open PySem PySem.Spec PyProof.Rows
section
variable {X:Cx}{e:Expr}{te:TE}{pos:Pos}
def zir{ws:List Str}{its:List Value}(r:Vals (ws.map V.str) its):∃l:List (Str×Tok),its=strValues l/\l.map (·.1)=ws:=by
 induction ws generalizing its with
 |nil=>cases r;show⟨[],rfl,rfl⟩|cons w ws ih=>
  cases r with
  |cons a r=>
   let⟨t,rfl⟩:=a;let⟨l,rfl,rfl⟩:=ih r;show⟨(w,t)::l,rfl,rfl⟩
def zmc:CZ X "str.join" (λx xs H Q=>∃(y:Str) (l:Addr) (ws:List Str),x=.str y/\xs=[.ref l]/\dF X.K H l (ws.map .str)/\JoinOk y ws=true/\Q (.str (Mi.kZ y ws)) H):=by
 rintro ak s Z H x xs v us Q I rx r ⟨y,l,ws,e1,e2,sq,ok,q⟩;subst e1 e2;let⟨t,rfl⟩:=rx;let⟨u,rfl,ru⟩:=vals1 r;cases ru;let⟨its,rv,ht,_⟩:=I.list sq;let⟨l',rfl,ew⟩:=zir rv;show SC.join ht.isList ew ok λt' k=>?_;let I2:Inv X ak Z H {s with toks:=k}:=I.kept (h':=s.heap) (t':=k) λ_ _ e=>e;show⟨.str _,H,I2,⟨_,rfl⟩,q⟩
def rT(a:Str):Str.empty++a=a:=by
 change (⟨#[]++a.cps⟩ : Str)=a;rw[Array.empty_append]
def zoI{w:Str}{j:Nat}{p3 p4:Pos}(hw:w.length<=600)(ha:PE X e te):PE X (.JoinedStr [.FormattedValue e (-1) none p3,.Constant (.str w) j p4] pos) (λZ H Q=>te Z H λx H1=>∃i,x=.int i/\i.natAbs<2^62/\Q (.str (Str.ofString (toString i)++w)) H1):=by
 intro ak s Z H Q I h;let hs:(6000:Nat)<=sizeLine:=by decide
 let lg:∀i:Int,i.natAbs<2^62->i.natAbs.log2<1920:=λi hi=>by
  by_cases h0:i.natAbs=0
  .rw[h0];decide
  .exact gG ((Nat.log2_lt h0).mpr hi) W9
 let ap:∀a b:Str,(a++b).length=a.length+b.length:=λa b=>Ht ..;show wpAny_JoinedStr (Joins_cons (FormattedValue_plain (bf (ha ak s Z H _ I h) λv s1 hz=>?_)));let⟨x,H1,I1,r1,i,ex,hi,h1⟩:=hz;subst ex;let⟨t,rfl⟩:=r1;let l1:=int_text_len_1921 (lg i hi);show Rm (lg i hi) ⟨_,_,rfl,by rw[ap];change 0+_<=_;lia,Joins_cons (bf (Ob ak _ Z H1 (λv H'=>v=.str w/\H'=H1) (I1.tok _) ⟨rfl,rfl⟩) λv s2 hz=>?_)⟩;let⟨y,H2,I2,r2,ey,eH⟩:=hz;subst ey eH;let⟨t2,rfl⟩:=r2;show⟨_,_,rfl,by rw[ap,ap];change 0+_+_<=_;lia,Joins_nil ⟨by rw[ap,ap];change 0+_+_<=_;lia,⟨.str _,H2,I2.tok _,⟨_,rfl⟩,?_⟩⟩⟩;rw[rT];show h1
end
end L2
namespace Mi
open PySem PySem.Spec PyProof.Rows L2 PySem.W
section
variable {X:Cx}{cA:Cl}{ao:Nat->Nat->Bool}{aj:Bool}{F:Fn}{EX:XS}{a b e o:Expr}{es:List Expr}{A B O:E}{Xs:Es}{pos p p2 apos:Pos}{fz:Bool}
theorem zdq{K:W.Frag}{U:Ph}{H:Hp}:∀{ds:List D} {ws:List Str} {vs:List V},jA ds=some ws->aC K cA U H ds vs->vs=ws.map V.str
 |[],ws,vs,e,r=>by cases e;cases r;rfl|d::ds,ws,vs,e,r=>by
  cases d with
  |str x=>
   let⟨w2,e1,rfl⟩:=jR.mp (show (jA ds).map (x::·)=some ws from e);cases r with
   |cons h r=>
    cases h;rw[zdq e1 r];rfl
  |_=>cases e
def zlV{y:Str}{ws:List Str}(h:(fG y&&ws.all fG&&decide (ws.length<=1000))=true):JoinOk y ws=true:=by
 rw[b_,b_]at h;let⟨⟨h1,h2⟩,h3⟩:=h;let h3:=ju h3;let h1:=Hf h1;let hs:∀l:List Str,l.all fG=true->(l.map (·.length)).sum<=600*l.length:=λl=>by
  induction l with
  |nil=>intro _;show bK 0|cons x l ih=>
   intro h;rw[oG,b_]at h;let:=ih h.2;let:=Hf h.1;simp only[jw,List.sum_cons,eN]
   lia
 let:=hs ws h2;let h4:=Nat.mul_le_mul h3 h1;show joinOk_of gV
def zmE{K:W.Frag}:GR K cA .vA (λx xs H Q=>∃(y:Str) (l:Addr) (ws:List Str),x=.str y/\xs=[.ref l]/\dF K H l (ws.map .str)/\JoinOk y ws=true/\Q (.str (kZ y ws)) H):=by
 intro U H ds vs Q zt rs o;let o:aX K cA U H (Dw ds) Q:=o;unfold Dw at o;split at o
 .rename_i y ds' _;let⟨v,v',rfl,r1,r2⟩:=rs.two (ds:=[]);cases r1;let⟨l,vs,rfl,sq,rr⟩:=r2;cases e:jA ds' with
  |none=>rw[e]at o;show o.elim|some ws=>
   rw[e]at o;let⟨z,ez⟩:=o.some';let⟨e1,rfl⟩:=zfe ez;cases zdq e rr;show⟨_,_,rfl,y,l,ws,rfl,rfl,sq,zlV e1,(o.of ez).here (.str _)⟩
 .exact o.elim
theorem Xa(ho:JE X cA ao aj F EX a A)(ha:JA X cA ao aj F EX (e::es) Xs)(bN:attributeBase a "join" X.env (eval a X.env)=eval a X.env:=by rfl)(gR:decide (es.length<28)=true:=by rfl)(cO:(apos.endLine==pos.line)=true:=by rfl)(hs:aB e=true:=by rfl)(bC:es.all aB=true:=by rfl) :
  JE X cA ao aj F EX (.Call (.Attribute a "join" apos) (e::es) [] pos) (.meth true .vA .str A Xs):=⟨KJ (k:=.str) Rg PySem.F.slot_str_join PySem.F.type_str_join zmc zmE ho.o ha.o bN (gF hs bC gR) cO (aQ hs) (aR bC)⟩
theorem zpE{w:Str}{j:Nat}{p3 p4:Pos}(ha:JE X cA ao aj F EX a A)(hw:decide (w.length<=600)=true:=by decide):JE X cA ao aj F EX (.JoinedStr [.FormattedValue a (-1) none p3,.Constant (.str w) j p4] pos) (.pr true .add (.cons (.pr true .str1 (.cons A .nil)) (.cons (.c (.str w)) .nil))):=⟨PE.weak (zoI (ju hw) ha.o) λZ H Q hh=>un hh λU J s hL hS h=>by
 let h:Run X.K cA (M.bd (M.bd (M.bd (M.bd (ev ao aj F A J) λx=>M.bd (M.ret []) λq=>M.ret (x::q)) λvs=>M.bd (dH vs) λds=>bw true (jf ds)) λx=>M.bd (M.bd (M.ret (.d (.str w))) λy=>M.bd (M.ret []) λq=>M.ret (y::q)) λq=>M.ret (x::q)) λvs=>M.bd (dH vs) λds=>bw true (vC ds)) U H s _ _:=h;simp only[iD]at h;show aZ hL hS h λx H1 U1 d1 s1 x1 hL1 aG r1 h1=>?_;let⟨ds,rs,h2⟩:=nU aG (.cons r1 .nil) h1;obtain⟨d,rfl⟩ : ∃d,ds=[d]:=by
  cases rs with
  |cons a r=>cases r;show⟨_,rfl⟩
 let⟨v,e,r⟩:=rs.one;cases e;cases d with
 |int i=>
  by_cases hi:i.natAbs<2^62
  .let e1:jf [.int i]=some (.dat (.str (Str.ofString (toString i)))):=if_pos hi;rw[e1]at h2;show⟨i,r.int,hi,?_⟩;let h6:Run X.K cA (bw true (vC [.str (Str.ofString (toString i)),.str w])) U1 H1 s1 _ _:=h2;let o:aX X.K cA U1 H1 (if (Str.ofString (toString i)).length+w.length<=sizeLine then some (.dat (.str (Str.ofString (toString i)++w))) else none) Q:=nW aG h6;split at o
   .exact(o.of rfl).here (.str _)
   .exact o.elim
  .let e1:jf [.int i]=none:=if_neg hi;rw[e1]at h2;show h2.elim
 |_=>show h2.elim⟩
end
end Mi
namespace L2
open PySem PySem.Spec PyProof.Rows
theorem zfB{prog:Program}{w:World}{A:Around}{it l:Addr}{items:Array Value}{k:Nat}(hh:A.handled=none)(hne:l≠it)(hk:k<=items.size) :
  WalksS prog w A it [it,l] [it] (λa b=>b=a) (items.size-k) (λi v=>items[k+i]?=some v) (λi s=>s.heap.IsListIter it l (k+i)/\s.heap.IsList l items) where
 «sub»:=λb hb=>by simp at hb;simp[hb]
 grefl:=λ_=>rfl
 gtrans:=λ_ _ _ h1 h2=>h2.trans h1
 frame:=λi s h' tk st _ hk=>by
  let⟨⟨o,h1,h2⟩,⟨o',h3,h4⟩⟩:=st;show⟨⟨o,hk it Zaa o h1,h2⟩,⟨o',hk l Zaa o' h3,h4⟩⟩
 item:=λi s Q E hi st hQ=>by
  show Q_ st.1 st.2 (x:=items[k+i]) (by rw[xR gV]) λh' hit hs=>?_;show hQ _ _ (xR gV) ⟨hit,?_⟩ ⟨λb o hb e=>hs.extBut b o (λz=>hb (by simp[z])) e,rfl,rfl,rfl,bK _⟩;let⟨o',h3,h4⟩:=st.2;show⟨o',hs.extBut l o' hne h3,h4⟩
 done:=λs Q E st hQ=>by
  show wpAny_pyNext_list_end hh st.1 st.2 (by rw[Array.getElem?_eq_none];lia) λh' he=>?_;show hQ _ ⟨λb o hb e=>he b o (λz=>hb (by simp[z])) e,rfl,rfl,rfl,bK _⟩
 self:=λi s Q E st hQ=>wpAny_pyIter_listiter st.1 hQ
def Mq(K:W.Frag)(i j:Nat):TG:=λv Z H Q=>∃a x xs,v=.ref a/\dF K H a (x::xs)/\∀p,H p=none->Q ((Z.set i (some x)).set j (some (.ref p))) (upd H p (.lst xs))
section
variable {X:Cx}{ak:List (Addr×Obj)}{Z:St}{H:Hp}{s:Shared}{i j:Nat}{x y:Str}{pos:Pos}
def zky{k:Nat}{px py ps:Pos}(hc:X.aj=true)(hN:X.N.Nodup)(hi:X.N[i]?=some x)(hj:X.N[j]?=some y)(hx:Loc X.env.scope x)(hy:Loc X.env.scope y)(lO:X.fn x=true\/X.env.scope.names.lookup x=some .local)(oU:X.fn y=true\/X.env.scope.names.lookup y=some .local) :
  PG X (.Tuple [.Name x px,.Starred (.Name y py) ps] k pos) (Mq X.K i j):=by
 intro ak s Z H v u Q I r hw;let⟨a,x1,xs,rfl,hq,hw⟩:=hw;cases r;let⟨its,rv,ht,hz⟩:=I.list hq;let hl:=ht.isList;let hh:=I.ok.hd hc;cases rv with
 |@cons _ u1 _ us r1 rs=>
  let hlt:a≠s.heap.objs.size:=by let⟨o,ho,_⟩:=hl;show cR (bJ ho)
  rw[arm_assign_Tuple];show au (uK ?_);unfold unpack;change wpAny _ _ (holding [.ref a] (unpackItems (.ref a) 2 (some 1)) >>= assignInOrder [assign (.Name x px) X.env,assign (.Name y py) X.env]) _ _ _;show au (iJ ?_);unfold unpackItems;show au ?_;unfold notIterableAtAll;show au (wpAny_specialOf hl.typeIs slot_list_iter.lookup ?_);show aH ?_;simp only[jt,iR];show au (iJ (Np hl ?_));let hl0:(s.heap.push {cls:=.type "list_iterator",data:=.fields #[.ref a,.int 0 0]}).IsList a (u1::us).toArray:=by
   let⟨o,h1,h2⟩:=hl;show⟨o,bM _ h1,h2⟩
  show au (iJ ?_);change wpAny _ _ (pyNext (.ref s.heap.objs.size) >>= _) _ _ _;show au (Q_ (i:=0) ⟨_,fW _ rfl,rfl,rfl⟩ hl0 (x:=u1) rfl λh1 Mr Hg=>?_);let Bc:h1.IsList a (u1::us).toArray:=by
   let⟨o,q1,q2⟩:=hl0;show⟨o,Hg.extBut a o hlt q1,q2⟩
  let GQ:∀b o,s.heap.get? b=some o->h1.get? b=some o:=λb o e=>Hg.extBut b o (cR (bJ e)) (bM _ e);change wpAny _ _ (holding [u1] (draw (.ref s.heap.objs.size) 0) >>= λr=>pure (u1::r)) _ _ _;show au (iJ (aH (aH ?_)));rw[if_neg (show ¬[u1].length<1 by simp)];let W:=zfB (prog:=X.prog) (w:=X.w) (A:=X.A.in1) (it:=s.heap.objs.size) (l:=a) (items:=(u1::us).toArray) (k:=1) hh hlt Zaa;show au (iJ (wpAny_collect_iter (T:="list_iterator") (.inr (.inr (.inl rfl))) W (λi s st=>st.1.typeIs) ⟨Mr,Bc⟩ (λb hb=>?_) Zaa (λs' acc hm Fj=>?_) ?_))
  .let h2:s.heap.objs.size<h1.objs.size:=by
    let⟨o,q,_⟩:=Mr;show bJ q
   let h3:a<h1.objs.size:=by
    let⟨o,q,_⟩:=Bc;show bJ q
   simp only[cX,mK,lR]at hb;rcases hb with rfl|rfl
   .exact h2
   .exact h3
  .rw[if_neg (Nat.not_lt_zero _)];let ea:acc.toList=us:=by
    let⟨z1,z2⟩:=Fj;simp only[dR,eN]at z1;show List.ext_getElem (by rw[Hq];lia) λm q1 q2=>?_;let:=z2 m acc[m] (by rw[xR]);dsimp only at this;rw[Nat.add_comm 1 m]at this;simp only[Ga,FW,fV q2]at this;simpa using (dD this).symm
   rw[ea,show us.length-(2-1-1)=us.length from rfl,Nu,List.drop_length];let hzz:us.length<=sizeLine:=by rw[<-rs.length];rw[eN]at hz;lia
   show au (wpAny_newList (aH ?_) hzz);change wpAny _ _ (assignInOrder [assign (.Name x px) X.env,assign (.Name y py) X.env] [u1,.ref s'.heap.objs.size]) _ _ _;let⟨h',g',d',t',o'⟩:=s';let⟨m1,m2,m3,m4,m5⟩:=hm;dsimp only at m1 m2 m3 m4 m5;subst m2 m3 m4;let keep:∀b o,s.heap.get? b=some o->h'.get? b=some o:=λb o e=>m1 b o (by simp;show cR (bJ e)) (GQ b o e);let⟨hn,I2⟩:=Mi.laidN (t':=t') (a:=h'.objs.size) (o:=.lst xs) (h':=h'.push {cls:=.type "list",data:=.seq us.toArray}) I (λb o e=>bM _ (keep b o e)) (λb o e=>cR (bJ (keep b o e))) ⟨by rw[rs.length];show hzz,us,0,rs,fW _ rfl⟩;show(yx (yw hN hi hx lO) (yx (yw hN hj hy oU) Og)) ak _ Z _ [x1,.ref h'.objs.size] [u1,.ref h'.objs.size] Q I2 (.cons r1 (.cons rfl .nil)) ⟨_,_,rfl,_,_,rfl,rfl,hw _ hn⟩
  .simp only[dR,eN];rw[<-rs.length];rw[eN]at hz
   lia
end
end L2
namespace Mi
open PySem PySem.Spec PyProof.Rows L2
section
variable {X:Cx}{cA:Cl}{ao:Nat->Nat->Bool}{aj:Bool}{F:Bool->Fn}{EX:XS}{a:Expr}{A:E}{pos:Pos}{x y:Str}{i j:Nat}
theorem zlb{k}{px py pq pt:Pos}(hc:X.aj=true)(bI:aj=true)(hN:X.N.Nodup)(hi:X.N[i]?=some x)(hj:X.N[j]?=some y)(hx:Loc X.env.scope x)(hy:Loc X.env.scope y)(lO:X.fn x=true\/X.env.scope.names.lookup x=some .local)(oU:X.fn y=true\/X.env.scope.names.lookup y=some .local)(ha:SE X cA ao aj (F aj) EX a A)
  (hs:swapsWithSole [.Tuple [.Name x px,.Starred (.Name y py) pq] k pt] a pos.line X.env=pure false:=by rfl) (hw:swappedStores [.Tuple [.Name x px,.Starred (.Name y py) pq] k pt] a X.env=pure none:=by rfl)
  (h1:(assignEach [.Tuple [.Name x px,.Starred (.Name y py) pq] k pt] X.env).map (·.2)=[assign (.Tuple [.Name x px,.Starred (.Name y py) pq] k pt) X.env]:=by rfl) :
  SS X cA ao aj F EX (.Assign [.Tuple [.Name x px,.Starred (.Name y py) pq] k pt] a pos) (.star i j A):=PS.weak (Ik ha (zky hc hN hi hj hx hy lO oU) hs hw h1) λD Z H hh=>un hh λU J s hL hS h=>by
 let h:aM X.K cA (if aj=true then ofM (ev ao aj (F aj) A J) J (λx s=>match x with
  |.d (.fl (a::r))=>some (.nx ((J.set i (some (.d a))).set j (some (.d (.fl r)))),s)|_=>none) else λ_=>none) U H s D EX:=h
 rw[if_pos bI]at h;show⟨U,J,s,hL,hS,(aM.ofM hL hS.lz h).imp λd s1 U1 H1 ⟨x1,aG,h1⟩ v rv=>?_⟩;cases rv with
 |l _=>show h1.elim|d r=>
  cases r with
  |@fl ad xs vs q r=>
   cases r with
   |nil=>show h1.elim|@cons _ _ ds us g r=>
    show⟨ad,_,_,rfl,q.rD,λp hp=>?_⟩;let gx:=(bD.new (o:=.lst us) hp).ext (U:=U1);show h1 U1 _ _ gx (aG.grow (bD.new hp)) ((((hL.mono x1 hS.lz).mono gx aG.lz).set (.d (g.mono gx aG.lz))).set (.d (.fl (LstAt.new (aG.nz hp)) (r.mono gx aG.lz))))
  |_=>show h1.elim
theorem znt(i j:Nat){k k':NameKind}{k0}{px py pq pt:Pos}(hc:X.aj=true)(bI:aj=true)(hN:X.N.Nodup)(hi:X.N[i]?=some x)(hj:X.N[j]?=some y)(hx:JK X x k)(hy:JK X y k')(vY:ji k=true)(Ek:ji k'=true)(ha:JE X cA ao aj (F aj) EX a A)
  (lO:X.fn x=true\/k=.local:=by first|exact .inl rfl|exact .inr rfl) (oU:X.fn y=true\/k'=.local:=by first|exact .inl rfl|exact .inr rfl)
  (hs:swapsWithSole [.Tuple [.Name x px,.Starred (.Name y py) pq] k0 pt] a pos.line X.env=pure false:=by rfl) (hw:swappedStores [.Tuple [.Name x px,.Starred (.Name y py) pq] k0 pt] a X.env=pure none:=by rfl) (h1:(assignEach [.Tuple [.Name x px,.Starred (.Name y py) pq] k0 pt] X.env).map (·.2)=[assign (.Tuple [.Name x px,.Starred (.Name y py) pq] k0 pt) X.env]:=by rfl) :
  JS X cA ao aj F EX (.Assign [.Tuple [.Name x px,.Starred (.Name y py) pq] k0 pt] a pos) (.star i j A):=⟨zlb hc bI hN hi hj (tQ hx vY) (tQ hy Ek) (tR hx lO) (tR hy oU) ha.o hs hw h1⟩
end
section
variable {K:W.Frag}{cA:Cl}{U U':Ph}{H H':Hp}{s:S}
def zkH{U1:Ph}{H1:Hp}{s':S}{acc:List D}{vs:List V}{Dd:Addr}(x2:Ext U1 H1 U' H')(nz:¬U1.z Dd)(aP:aF K cA U' H' s')(k:Keep U' H' Dd vs)(wQ:aC K cA U' H' acc vs) :
  ∃ψ,Ext U1 H1 ψ H'/\aF K cA ψ H' s'/\Rep K cA ψ H' (.fl acc) (.ref Dd):=by
 let zq:∀a,(λa=>U'.z a/\a≠Dd) a->U'.z a:=λa z=>z.1;show⟨⟨λa=>U'.z a/\a≠Dd,U'.l⟩,⟨x2.more,λa z=>⟨x2.vL a z,λe=>nz (by rw[<-e];show z)⟩,λa z=>x2.nj a z.1,x2.frame,x2.stay⟩,?_,.fl (.inl ⟨.inl k.at_,λz=>z.2 rfl⟩) (aC.jW (U:=U') zq wQ)⟩;show⟨aP.len,λn o a e1 e2=>k_.jW (U:=U') zq (aP.obj n o a e1 e2),aP.uniq,λa ha=>⟨aP.lz a ha,λe=>k.nl (by rw[<-e];show ha)⟩,λa z=>aP.zt a z.1⟩
end
section
variable {K:W.Frag}{cA:Cl}{U U1:Ph}{H H1:Hp}{s:S}
def zeO{β:Type}{x:Xv}{v:V}{k:D->M β}{P:β->S->Ph->Hp->Prop}{Ee:Nat->List D->S->Ph->Hp->Prop}(r:bB K cA U H x v)(h:Run K cA (M.bd (dat x) k) U1 H1 s P Ee):∃d,Rep K cA U H d v/\Run K cA (k d) U1 H1 s P Ee:=by
 cases r with
 |l _=>show h.elim|d r=>show⟨_,r,h⟩
def ze9{β:Type}{x:Xv}{v:V}{k:Int->M β}{P:β->S->Ph->Hp->Prop}{Ee:Nat->List D->S->Ph->Hp->Prop}(r:bB K cA U H x v)(h:Run K cA (M.bd (int x) k) U1 H1 s P Ee):∃j,v=.int j/\Run K cA (k j) U1 H1 s P Ee:=by
 cases r with
 |l _=>show h.elim|@d y _ r=>
  cases y with
  |int j=>cases r;show⟨j,rfl,h⟩|_=>show h.elim
end
section
variable {X:Cx}{cA:Cl}{ao:Nat->Nat->Bool}{aj:Bool}{F:Bool->Fn}{EX:XS}{w u v p q:Expr}{Wd Hj V' Pe Qe:E}{pos pos2:Pos}{x lst:Str}{i:Nat}{sts:List Stmt}{ms:cg}
theorem zjV{k}{px pl pc rW pK rY pN pt nQ:Pos}{k2}(hc:X.aj=true)(bI:aj=true)(hN:X.N.Nodup)(hi:X.N[i]?=some x)(hx:Loc X.env.scope x)(lO:X.fn x=true\/X.env.scope.names.lookup x=some .local)
  (h1:PS X (.Assign [.Name x px] (.Call (.Name "list" pl) [w] [] pc) pos) (yC (Ot (λxs H Q=>∃p ys,xs=[.ref p]/\(dF X.K H p ys\/fL X.K H p ys)/\∀l,H l=none->Q (.ref l) (upd H l (.lst ys))) (qT (tE X.K cA EX (ev ao aj (F aj) Wd)) CK)) (cY i)))
  (h2:PS X (.Assign [.Tuple [.Subscript (.Name x rW) p rY,.Subscript (.Name x pK) q pN] k pt] (.Tuple [u,v] k2 nQ) pos2) (yC (Iz (qT (tE X.K cA EX (ev ao aj (F aj) Hj)) (qT (tE X.K cA EX (ev ao aj (F aj) V')) CK))) (pW X.K 2 (dJ (Cy (yt i) (tE X.K cA EX (ev ao aj (F aj) Pe)) u5) (dJ (Cy (yt i) (tE X.K cA EX (ev ao aj (F aj) Qe)) u5) pU)))))
  (h3:tM X cA ao aj F EX sts ms) :
  tM X cA ao aj F EX (.Assign [.Name x px] (.Call (.Name "list" pl) [w] [] pc) pos::.Assign [.Tuple [.Subscript (.Name x rW) p rY,.Subscript (.Name x pK) q pN] k pt] (.Tuple [u,v] k2 nQ) pos2::sts) (.cons (.GD i Wd Hj V' Pe Qe) ms):=pD.weak (RZ h1 (RZ h2 h3)) λD Z H hh=>un hh λU J s hL hS h=>by
 let h:aM X.K cA (bH (ex ao aj F (.GD i Wd Hj V' Pe Qe) J) λJ'=>exs ao aj F ms J') U H s D EX:=h;let h:=h.then_;let h:aM X.K cA (if (aj&&decide (i<J.length))=true then ofM (M.bd (ev ao aj (F aj) Wd J) λx=>M.bd (ni x) λxs=>M.bd (M.qt (ev ao aj (F aj) Hj (J.set i none))) λa=>M.bd (dat a) λa=>M.bd (M.qt (ev ao aj (F aj) V' (J.set i none))) λb=>M.bd (dat b) λb=>M.bd (M.qt (ev ao aj (F aj) Pe (J.set i none))) λy=>M.bd (int y) λj=>M.bd (M.opt (L2.lX xs.length j)) λm=>M.bd (M.qt (ev ao aj (F aj) Qe (J.set i none))) λz=>M.bd (int z) λl=>M.bd (M.opt (L2.lX xs.length l)) λn=>M.ret ((xs.set m a).set n b)) J (λys s=>some (.nx (J.set i (some (.d (.fl ys)))),s)) else λ_=>none) U H s _ EX:=h;by_cases hlt:i<J.length
 case neg=>rw[eO hlt,NT,if_neg W9]at h;show h.elim
 rw[cH hlt,bI,Bool.and_true,if_pos rfl,<-bI]at h;let hlt:i<Z.length:=by rw[hL.1];show hlt
 show aZ hL hS (aM.ofM hL hS.lz h) λx0 H1 U1 d1 s1 x1 hL1 aG r1 h2=>?_;let⟨xs,kd,aw,vs,rfl,row,rxs,h2⟩:=VL r1 h2;show⟨aw,vs,rfl,?_,λl hl=>?_⟩
 .cases kd with
  |true=>show .inl (LstAt.rD row)|false=>show .inr (TupAt.iM row)
 let⟨x2,aP,k2⟩:=zeC (o:=.lst vs) aG hl;let nz:=aG.nz hl;let hg:(Z.set i (some (.ref l)))[i]?=some (some (.ref l)):=wD hlt;let hL2:bx X.K cA (U1.mark l) (upd H1 l (.lst vs)) (Z.set i (some (.ref l))) (J.set i none):=by
  show⟨by rw[lE,lE];show hL1.1,λj y e=>?_⟩;by_cases z:i=j
  .subst z;by_cases hz:i<J.length
   .rw[wD hz]at e;cases e
   .rw[FZ (by rw[lE];lia)]at e;cases e
  .rw[oE z]at e;let⟨v,a,b⟩:=(hL1.mono x2 aG.lz).2 j y e;show⟨v,by rw[oE z];show a,b⟩
 let rx2:=rxs.mono x2 aG.lz;let hlen:=rxs.len;show⟨U1.mark l,J.set i none,s1,hL2,aP,(G4 x2 h2).imp λa s2 U2 H2 ⟨y2,iQ,h3⟩ va rva=>?_⟩;let⟨da,ra,h3⟩:=zeO rva h3;let x3:=x2.trans y2;let rE:=hL2.mono y2 aP.lz;let k3:=k2.mono y2;let rx3:=rx2.mono y2 aP.lz;show⟨U2,J.set i none,s2,rE,iQ,(G4 x3 h3).imp λb s3 U3 H3 ⟨y3,jV,h4⟩ vb rvb=>?_⟩;let⟨db,rb,h4⟩:=zeO rvb h4;let x4:=x3.trans y3;let Kl:=rE.mono y3 iQ.lz;let k4:=k3.mono y3;let rx4:=rx3.mono y3 iQ.lz;let ra4:=ra.mono y3 iQ.lz;show⟨by change 2<=sizeLine;decide,λp2 hp2=>⟨p2,[va,vb],rfl,fL.of iU,rfl,va,[vb],rfl,.ref l,hg,?_⟩⟩;let g5:=bD.new (o:=.tup [va,vb]) hp2;let y5:=g5.ext (U:=U3);let x5:=x4.trans y5;let tK:=jV.grow g5;let O_:=Kl.mono y5 jV.lz;let k5:=k4.mono y5;let rx5:=rx4.mono y5 jV.lz;let ra5:=ra4.mono y5 jV.lz;let rb5:=rb.mono y5 jV.lz;show⟨U3,J.set i none,s3,O_,tK,(G4 x5 h4).imp λy s4 U4 H4 ⟨y6,Kp,h5⟩ vy ry=>?_⟩;let⟨j,rfl,h5⟩:=ze9 ry h5;let⟨m,em,h5⟩:=O7 h5;let x6:=x5.trans y6;let hL6:=O_.mono y6 tK.lz;let k6:=k5.mono y6;let rx6:=rx5.mono y6 tK.lz;let ra6:=ra5.mono y6 tK.lz;let rb6:=rb5.mono y6 tK.lz;show⟨l,vs,j,m,rfl,rfl,k6.at_,by rw[<-hlen];show em,vb,[],rfl,.ref l,hg,?_⟩;let⟨o7,k7⟩:=k6.ext (u:=.lst (vs.set m va));let x7:=x6.keep (vs:=vs) (u:=.lst (vs.set m va)) hl;let GK:=Kp.keep k6 (u:=.lst (vs.set m va));show⟨U4,J.set i none,s4,hL6.out o7,GK,(G4 x7 h5).imp λz s5 U5 H5 ⟨y8,hS8,h6⟩ vz rz=>?_⟩;let⟨j2,rfl,h6⟩:=ze9 rz h6;let⟨m2,em2,h6⟩:=O7 h6;let x8:=x7.trans y8;let k8:=k7.mono y8;let rx8:=aC.set ((ra6.out o7).mono y8 GK.lz) m ((rx6.out o7).mono y8 GK.lz);let rb8:=(rb6.out o7).mono y8 GK.lz;show⟨l,vs.set m va,j2,m2,rfl,rfl,k8.at_,by rw[lE,<-hlen];show em2,rfl,?_⟩;let⟨o9,k9⟩:=k8.ext (u:=.lst ((vs.set m va).set m2 vb));let⟨ψ,xψ,hSψ,rψ⟩:=zkH (x8.keep (vs:=vs) (u:=.lst ((vs.set m va).set m2 vb)) hl) nz (hS8.keep k8 (u:=.lst ((vs.set m va).set m2 vb))) k9 ((aC.set rb8 m2 rx8).out o9);let⟨_,_,hr⟩:=h6 ψ _ xψ hSψ;show hr ψ _ _ Ext.refl hSψ ((hL1.mono xψ aG.lz).set (.d rψ))
def zoU(i:Nat){kx:NameKind}{k}{px pl pc rW pK rY pN pt nQ:Pos}{k2}(hc:X.aj=true)(bI:aj=true)(hN:X.N.Nodup)(hi:X.N[i]?=some x)(hx:JK X x kx)(vY:ji kx=true)(hd:okN x=true)(hm:X.mg "list"=none)(hg:JK X "list" .globalImplicit)
  (hw:JE X cA ao aj (F aj) EX w Wd) (hu:JE X cA ao aj (F aj) EX u Hj) (hv:JE X cA ao aj (F aj) EX v V') (hp:JE X cA ao aj (F aj) EX p Pe) (hq:JE X cA ao aj (F aj) EX q Qe) (h3:JB X cA ao aj F EX sts ms)
  (lO:X.fn x=true\/kx=.local:=by first|exact .inl rfl|exact .inr rfl) (e1:aB w=true:=by rfl) (e2:aB u=true:=by rfl) (e3:aB v=true:=by rfl)
  (Hg:swapsWith (.Call (.Name "list" pl) [w] [] pc) (some (.Name x px)) pos.line X.env=pure false:=by rfl)
  (hs:swapsWithSole [.Tuple [.Subscript (.Name x rW) p rY,.Subscript (.Name x pK) q pN] k pt] (.Tuple [u,v] k2 nQ) pos2.line X.env=pure false:=by rfl) (Qn:swappedStores [.Tuple [.Subscript (.Name x rW) p rY,.Subscript (.Name x pK) q pN] k pt] (.Tuple [u,v] k2 nQ) X.env=pure none:=by rfl)
  (h1:(assignEach [.Tuple [.Subscript (.Name x rW) p rY,.Subscript (.Name x pK) q pN] k pt] X.env).map (·.2)=[assign (.Tuple [.Subscript (.Name x rW) p rY,.Subscript (.Name x pK) q pN] k pt) X.env]:=by rfl)
  (tL:∀v,assign (.Subscript (.Name x rW) p rY) X.env v=(do
   let ov <-holding [v] (eval (.Name x rW) X.env)
   let iv <-holding [v,ov] (eval p X.env)
   standAt rY
   holding [v,ov,iv] (setItem ov iv v)
   release [v,ov,iv] []):=by intro _;rfl)
  (Qg:∀v,assign (.Subscript (.Name x pK) q pN) X.env v=(do
   let ov <-holding [v] (eval (.Name x pK) X.env)
   let iv <-holding [v,ov] (eval q X.env)
   standAt pN
   holding [v,ov,iv] (setItem ov iv v)
   release [v,ov,iv] []):=by intro _;rfl)
  (l1:(assignEach [.Subscript (.Name x rW) p rY,.Subscript (.Name x pK) q pN] X.env).length=2:=by rfl) (l2:(assignEach [.Subscript (.Name x rW) p rY,.Subscript (.Name x pK) q pN] X.env).findIdx? (·.1)=none:=by rfl)
  (l3:(assignEach [.Subscript (.Name x rW) p rY,.Subscript (.Name x pK) q pN] X.env).map (·.2)=assign (.Subscript (.Name x rW) p rY) X.env::(assignEach [.Subscript (.Name x pK) q pN] X.env).map (·.2):=by rfl) (l4:(assignEach [.Subscript (.Name x pK) q pN] X.env).map (·.2)=assign (.Subscript (.Name x pK) q pN) X.env::(assignEach [] X.env).map (·.2):=by rfl) :
  JB X cA ao aj F EX (.Assign [.Name x px] (.Call (.Name "list" pl) [w] [] pc) pos::.Assign [.Tuple [.Subscript (.Name x rW) p rY,.Subscript (.Name x pK) q pN] k pt] (.Tuple [u,v] k2 nQ) pos2::sts) (.cons (.GD i Wd Hj V' Pe Qe) ms):=by
 let vx:∀pz,PE X (.Name x pz) (yt i):=λpz=>Y4 hi (by cases kx<;>first|exact .inl hx.o|exact .inr (.inl hx.o)|exact .inr (.inr hx.o)|cases vY) (tO hd).1 (tO hd).2.1;show⟨zjV hc bI hN hi (tQ hx vY) (tR hx lO)
  (Y6 hN hi (tQ hx vY) (Zj Zu hg.o hm zhs (pY hw.o wK (aQ e1)) W9 W9 (aQ e1) (aR (by rfl))) Hg (tR hx lO))
  (Ik (Za (pY hu.o (pY hv.o wK (aQ e3)) (aQ e2))) (R4 hc (yx (R5 (vx _) hp.o Sx tL) (yx (R5 (vx _) hq.o Sx Qg) Og l4) l3) l1 l2) hs Qn h1) h3.o⟩
end
section
variable {X:Cx}{cA:Cl}
def Bp:R2:=λx y H Q=>∃a b:Str,x=.str a/\y=.str b/\Q (.bl (Builtin.Str.occurrences b a 0 b.length 1).isEmpty) H
def zjZ:dj X (compareOp .NotIn) Bp:=by
 rintro ak s Z H x y v u Q I rx ry ⟨a,b,e1,e2,q⟩;subst e1 e2;let⟨t,rfl⟩:=rx;let⟨t',rfl⟩:=ry;show notIn_str ?_;rw[Bool.not_not];show⟨.bl _,H,I,rfl,q⟩
def zjD{K:W.Frag}:aY K cA .oN (r2 Bp):=by
 intro U H ds vs Q zt rs o;let⟨z,e⟩:=o.some';let e:vI ds=some z:=e;unfold vI at e;split at e
 .obtain⟨v,v',rfl,r1,r2⟩:=rs.two (ds:=[]);cases e;cases r1;cases r2;show⟨_,_,rfl,_,_,rfl,rfl,(o.of rfl).here (.bl _)⟩
 .cases e
theorem zjf:JP X cA .NotIn .oN:=⟨_,zjZ,zjD⟩
end
end Mi
namespace Mi
open PySem Ts
theorem W.Dq{ao:Nat->Nat->Bool}{aj:Bool}{F:Fn}{J:Vs}{s:S}{P:Xv->S->Prop}{p q r:Pr}{a b c d:E}(h:W (ev ao aj F a J) s λx s1=>W (ev ao aj F b J) s1 λy s2=>W (dH [x,y]) s2 λds s3=>W (bw true (prim p ds)) s3 λt s4=>W (Mi.bool t) s4 λk s5=>
  W (if k=true then M.bd (ev ao aj F c J) λz=>M.bd (dH [y,z]) λds=>M.bd (bw true (prim q ds)) λt=>M.bd (Mi.bool t) λk2=>if k2=true then M.bd (ev ao aj F d J) λw=>M.bd (dH [z,w]) λds=>bw true (prim r ds) else M.ret (.d (.bl false)) else M.ret (.d (.bl false))) s5 P):W (ev ao aj F (.Dq p q r a b c d) J) s P:=
 W.bd (h.imp λ_ _ h=>W.bd (h.imp λ_ _ h=>W.bd (h.imp λ_ _ h=>W.bd (h.imp λ_ _ h=>W.bd h))))
def zL(n:Int):D->Bool
 |.tup xs=>decide ((xs.length:Int)=n)|_=>false
def zM(a b:Int):D->Bool
 |.int i=>decide (a<=i/\i<=b)|_=>false
def dz(n:Int):D->Bool
 |.tup [.int a,.int b]=>decide (0<=a/\a<b/\b<n)|_=>false
theorem zgO{xs:List D}(h:xs.length≠2):zL 2 (.tup xs)=false:=eO (p:=((xs.length:Int)=2)) gV
def Qo{xs:List D}(h:xs.length=2):∃x y,xs=[x,y]:=by
 match xs,h with
 |[x,y],_=>show⟨x,y,rfl⟩
def zfv{n:Int}{xs:List D}(h:xs.length≠2):dz n (.tup xs)=false:=by
 unfold dz
 split
 .rename_i e;cases e;show absurd rfl h
 .rfl
def gK:List D->List (Int×Int)
 |.tup [.int a,.int b]::r=>(a,b)::gK r|_::r=>gK r|[]=>[]
theorem Xb{n:Int}:∀{ys:List D},ys.all (dz n)=true->ys=(gK ys).map bV/\∀p∈gK ys,0<=p.1/\p.1<p.2/\p.2<n
 |[],_=>⟨rfl,λp hp=>by cases hp⟩|y::ys,h=>by
  rw[oG,b_]at h;let⟨e,q⟩:=Xb h.2;let h1:=h.1;unfold dz at h1;split at h1
  .rename_i a b;let:=ju h1;show⟨?_,λp hp=>?_⟩
   .show _::ys=bV (a,b)::(gK ys).map bV;rw[<-e];rfl
   .rcases cX.mp (show p∈(a,b)::gK ys from hp) with rfl|hp
    .exact this
    .exact q p hp
  .cases h1
theorem zfk:∀ps:List (Int×Int),gK (ps.map bV)=ps
 |[]=>rfl|p::ps=>by
  change (p.1,p.2)::gK (ps.map bV)=_;rw[zfk ps]
def zhM{n:Int}{ps:List (Int×Int)}(h:∀p∈ps,0<=p.1/\p.1<p.2/\p.2<n):(ps.map bV).all (dz n)=true:=by
 rw[List.all_map,fB];intro p hp;show cH (h p hp)
def jo(ps:List (Int×Int)):Bool:=(ps.zip (ps.drop 1)).all λe=>jK e.1 e.2
theorem nG:∀{ps:List (Int×Int)},jo ps=true↔ps.Pairwise λa b=>jK a b=true
 |[]=>by simp[jo]|[p]=>by simp[jo]|p::q::r=>by
  let ih:=nG (ps:=q::r);let e:jo (p::q::r)=(jK p q&&jo (q::r)):=rfl;rw[e,b_,ih,xV (a:=p)]
  constructor
  .rintro⟨h1,h2⟩;show⟨λx hx=>?_,h2⟩;rcases cX.mp hx with rfl|hx
   .exact h1
   .let:=(xV.mp h2).1 x hx;rw[mH]at *
    lia
  .rintro⟨h1,h2⟩;show⟨h1 q fK,h2⟩
def zmJ{ps:List (Int×Int)}(h:∀p∈ps,gY p):jo ps=decide (ps=ss ps):=by
 by_cases e:ps=ss ps
 .rw[cH e,nG,e];show Qk
 .rw[eO e];cases ha:jo ps
  .rfl
  .exact absurd (Qj (nG.mp ha) Qk λx=>(zjl h).symm) e
theorem zo1{ps:List (Int×Int)}(h:ps.Pairwise lx):ps.Pairwise λa b=>jK a b=true:=h.imp λ{a b} e=>mH.mpr e
def rZ:D->Bool
 |.tup [.int n,.tup ys]=>decide (1<=n/\n<=8)&&ys.all (dz n)&&jo (gK ys)|_=>false
theorem zdE{α:Type}{q:α->Bool}:∀l:List α,l.length=(l.filter q).length+(l.filter λx=>!q x).length
 |[]=>rfl|x::l=>by
  let:=zdE (q:=q) l;simp only[Nv];cases q x<;>simp<;>lia
def zgy{xs:List D}(h:xs.length≠2):rZ (.tup xs)=false:=by
 unfold rZ
 split
 .rename_i e;cases e;show absurd rfl h
 .rfl
def zl8{ps:List (Int×Int)}{n:Int}(h1:1<=n)(h8:n<=8)(ht:∀p∈ps,0<=p.1/\p.1<p.2/\p.2<n)(hi:ps.Pairwise lx):(ps.length:Int)<=7*n:=by
 let key:∀m:Nat,∀qs:List (Int×Int),(∀p∈qs,0<=p.1/\p.1<(m:Int)/\p.1<p.2/\p.2<n)->qs.Nodup->(qs.length:Int)<=7*m:=by
  intro m
  induction m with
  |zero=>
   intro qs hq _;cases qs with
   |nil=>simp|cons p r=>have:=hq p Zaa;omega
  |succ m ih=>
   intro qs hq nd;let h1:=ih (qs.filter λp=>decide (p.1<(m:Int))) (λp hp=>by
    let⟨a,b⟩:=zU.mp hp;let:=hq p a;let:=ju b
    lia) (nd.filter _)
   let h2:(qs.filter λp=>!decide (p.1<(m:Int))).length<=(([1,2,3,4,5,6,7]:List Int).map λx=>((m:Int),x)).length:=Wa (nd.filter _) (λp hp=>by
    let⟨a,b⟩:=zU.mp hp;let:=hq p a;let b:¬p.1<(m:Int):=by simpa using b
    let⟨p1,p2⟩:=p;dsimp only at *;let e:p1=(m:Int):=by lia
    subst e;show gM.mpr ⟨p2,?_,rfl⟩;let:p2=1\/p2=2\/p2=3\/p2=4\/p2=5\/p2=6\/p2=7:=by lia
    simpa using this)
   let h3:=zdE (q:=λp=>decide (p.1<(m:Int))) qs;simp only[bY,eN,pQ]at h2
   lia
 let:=key n.toNat ps (λp hp=>by let:=ht p hp;lia) (PX hi)
 lia
def zl0{n:Int}{ps:List (Int×Int)}(h:Web n ps):rZ (cQ n ps)=true:=by
 change (decide (1<=n/\n<=8)&&(ps.map bV).all (dz n)&&jo (gK (ps.map bV)))=true;rw[zfk,cH (And.intro h.h1 h.h8),zhM h.tie,nG.mpr (zo1 h.inc)];rfl
def Fp:D->Bool
 |.tup ys=>ys.all n_|d=>pJ d
def Fq:D->Bool
 |.tup xs=>xs.all Fp|d=>pJ d
def Xc(d:D):Prop:=∀x ys,d=.tup [x,.tup ys]->ys.length<=200
def zmk{ps qs:List (Int×Int)}:List.zipWith (λ(p q:D)=>D.tup [p,q]) (ps.map bV) (qs.map bV)=(ps.zip qs).map λe=>.tup [bV e.1,bV e.2]:=by
 induction ps generalizing qs with
 |nil=>rfl|cons p ps ih=>
  cases qs with
  |nil=>rfl|cons q qs=>
   change _::List.zipWith (λ(p q:D)=>D.tup [p,q]) (ps.map bV) (qs.map bV)=_::_;rw[ih];rfl
def zi8{d:D}(h:n_ d=true):pJ d=true:=by cases d<;>first|rfl|cases h
def zne{d:D}(h:Fp d=true):pJ d=true:=by cases d<;>first|rfl|cases h
def zjS{p q:Int×Int}:ltI [p.1,p.2] [q.1,q.2]=jK p q:=by
 simp only[ltI];unfold jK;by_cases h:p.1=q.1
 .rw[if_pos h];by_cases h2:p.2=q.2
  .rw[if_pos h2]
   symm
   apply eO
   lia
  .rw[if_neg h2,zT]
   lia
 .rw[if_neg h,zT];omega
theorem zdY:∀{ps:List (Int×Int)},(∀p∈ps,gY p)->kY (ps.map bV)=some ps
 |[],_=>rfl|p::ps,h=>by
  let h1:yS (bV p)=some p:=by
   change (if 0<=p.1/\p.1<p.2/\p.2<8 then some (p.1,p.2) else none)=_;rw[if_pos (show 0<=p.1/\p.1<p.2/\p.2<8 from h p fK)]
  simp only[jw,kY,h1,zdY λq hq=>h q (dI _ hq)]
def zpy{ps:List (Int×Int)}(h:∀p∈ps,gY p):prim .eZ [.tup (ps.map bV)]=some (.nw ((ss ps).map bV)):=by
 change Option.map _ (kY (ps.map bV))=_;rw[zdY h];rfl
theorem zfm{k:Nat}:∀(ps qs:List (Int×Int)),eF (cM (k+1)) (ps.map bV) (qs.map bV)=some (decide (ps=qs))
 |[],[]=>rfl|[],q::qs=>rfl|p::ps,[]=>rfl|p::ps,q::qs=>by
  simp only[jw,eF,zfm ps qs,zjc];rw[<-Bool.decide_and]
  congr 1
  rw[zT,List.cons_eq_cons]
end Mi
namespace Mi
open PySem
theorem Qp{xs:List D}{r:Nat}(hr:r<xs.length):∃x,prim .ix [.fl xs,.int r]=some (.dat x)/\x∈xs:=⟨xs[r],Bg (fV hr),sy _⟩
def Xd{i:Int}(h0 : -1000<=i)(h:i<=2000):prim .str1 [.int i]=some (.dat (.str (Str.ofString (toString i)))):=by
 change (if i.natAbs<2^62 then _ else none)=_;rw[if_pos (Nat.lt_of_le_of_lt (show i.natAbs<=2000 by lia) W9)]
def oX(d:D):Prop:=Fp d=true/\∀ys,d=.tup ys->ys.length<=200
def xM(d:D):Prop:=Fq d=true/\Xc d
theorem uH{xs:List D}(h:∀x∈xs,n_ x=true)(hl:xs.length<=200):oX (.tup xs):=⟨fB.mpr h,λys e=>by cases e;show hl⟩
theorem xO{i:Int}:oX (.int i):=⟨rfl,λys e=>by cases e⟩
theorem zgf{ps:List (Int×Int)}:∀x∈ps.map bV,n_ x=true:=λx hx=>by let⟨p,_,rfl⟩:=gM.mp hx;rfl
theorem zmy{ps:List (Int×Int)}(hl:ps.length<=200):oX (.tup (ps.map bV)):=uH zgf (by rw[bY];show hl)
theorem Qq{xs:List D}(h:∀x∈xs,oX x):xM (.tup xs):=⟨fB.mpr λx hx=>(h x hx).1,λx ys e=>by
 cases e;show(h (.tup ys) Zaa).2 ys rfl⟩
theorem xP{x y:D}(hx:oX x)(hy:oX y):xM (.tup [x,y]):=Qq λz hz=>by
 simp only[cX,mK,lR]at hz;rcases hz with rfl|rfl
 .exact hx
 .exact hy
theorem zmz{n:Int}{ps:List (Int×Int)}(hl:ps.length<=200):xM (cQ n ps):=xP xO (zmy hl)
theorem Xe{P:D->Prop}{a b c:List D}(ha:∀x∈a,P x)(hb:∀x∈b,P x)(hc:∀x∈c,P x):∀x∈a++b++c,P x:=λx hx=>by
 rcases gA.mp hx with hx|hx
 .rcases gA.mp hx with hx|hx
  .exact ha x hx
  .exact hb x hx
 .exact hc x hx
theorem Xf{P:D->Prop}{a b:List D}(ha:∀x∈a,P x)(hb:∀x∈b,P x):∀x∈a++b,P x:=λx hx=>by
 rcases gA.mp hx with hx|hx
 .exact ha x hx
 .exact hb x hx
theorem W.c0{F:List Xv->M Xv}{xs:List Xv}{s:S}{e:D}{P:Xv->S->Prop}(h:W (F (eG 0 xs)) [] λv _=>v=.d e)(k:P (.d e) s)(hl:locs xs=[]:=by rfl):W (cP F xs) s P:=W.fH hl (h.imp λ_ _ q=>⟨_,q,k⟩)
def zf3{α:Type}(xs:List α):cut xs (some 1) none=xs.drop 1:=by
 cases xs with
 |nil=>rfl|cons x r=>
  unfold cut HT.bL;simp
section
variable {ao:Nat->Nat->Bool}{aj:Bool}{F:Fn}{J:Vs}{s:S}{P:Xv->S->Prop}
theorem Bq{fz:Bool}{p:Pr}{k:Kd}{o:E}{xs:Es}(h:W (ev ao aj F o J) s λx s1=>W (rd x) s1 λd s2=>m_ k d=true/\W (evs ao aj F xs J) s2 λys s3=>W (dH (x::ys)) s3 λds s4=>W (bw fz (prim p ds)) s4 P):W (ev ao aj F (.meth fz p k o xs) J) s P:=
 W.bd (h.imp λ_ _ h=>W.bd (h.imp λ_ _ h=>by rw[if_pos h.1];show W.bd (h.2.imp λ_ _ h=>W.bd h)))
end
def cW(x y:Str):List Nat:=(List.range x.length).filter λi=>Builtin.Str.subAt x y i
theorem Qs{x y:Str}{n lim:Nat}(hy:y.length=1):∀(l:List Nat) (found:Array Nat) (free:Nat),l.Pairwise (·<·)->(∀i∈l,free<=i)->
  ((forIn (m:=Id) l (found,free) λi s=>if (decide (s.1.size<lim)&&decide (s.2<=i)&&decide (i+y.length<=n)&&Builtin.Str.subAt x y i)=true then ForInStep.yield (s.1.push i,i+y.length) else ForInStep.yield (s.1,s.2)):Array Nat×Nat).1.toList=found.toList++((l.filter λi=>decide (i+1<=n)&&Builtin.Str.subAt x y i).take (lim-found.size))
 |[],found,free,_,_=>by
  change found.toList=found.toList++List.take _ [];rw[List.take_nil,zV]
 |i::r,found,free,hp,hf=>by
  let hp':=xV.mp hp;let hfi:=hf i Zaa;rw[Gj];by_cases c:(decide (i+1<=n)&&Builtin.Str.subAt x y i)=true
  .by_cases c2:found.size<lim
   .let e:(decide (found.size<lim)&&decide (free<=i)&&decide (i+y.length<=n)&&Builtin.Str.subAt x y i)=true:=by
     rw[cH c2,cH hfi,hy];show c
    dsimp only;rw[if_pos e];change ((forIn (m:=Id) r (found.push i,i+y.length) _:Array Nat×Nat)).1.toList=_;rw[Qs hy r _ _ hp'.2 (λj hj=>by let:=hp'.1 j hj;lia)];rw[Nv,if_pos c,Array.toList_push,Array.size_push,BR,show lim-found.size=(lim-(found.size+1))+1 by lia,List.take_succ_cons];rfl
   .let e:¬(decide (found.size<lim)&&decide (free<=i)&&decide (i+y.length<=n)&&Builtin.Str.subAt x y i)=true:=by
     rw[eO c2];simp
    dsimp only;rw[if_neg e];change ((forIn (m:=Id) r (found,free) _:Array Nat×Nat)).1.toList=_;rw[Qs hy r _ _ hp'.2 (λj hj=>hf j (dI _ hj)),show lim-found.size=0 by lia,List.take_zero,List.take_zero]
  .let e:¬(decide (found.size<lim)&&decide (free<=i)&&decide (i+y.length<=n)&&Builtin.Str.subAt x y i)=true:=by
    rw[hy];intro z;apply c;simp only[b_]at z ⊢;show⟨z.1.2,z.2⟩
   dsimp only;rw[if_neg e];change ((forIn (m:=Id) r (found,free) _:Array Nat×Nat)).1.toList=_;rw[Qs hy r _ _ hp'.2 (λj hj=>hf j (dI _ hj)),Nv,if_neg c]
def Ms{x y:Str}{lim:Nat}(hy:y.length=1):Builtin.Str.occurrences x y 0 x.length lim=(cW x y).take lim:=by
 unfold Builtin.Str.occurrences;simp only[Std.Legacy.Range.forIn_eq_forIn_range',Id.run];let e:=Qs (x:=x) (n:=x.length) (lim:=lim) hy (List.range' 0 (x.length+1)) #[] 0 (List.pairwise_lt_range' ..) (λ_ _=>lH _);let hz:[:x.length+1].size=x.length+1:=by simp[Std.Legacy.Range.size]
 rw[hz];show Eq.trans ?_ (e.trans ?_)
 .rfl
 .rw[<-List.range_eq_range',List.range_succ,List.filter_append];unfold cW;let:[x.length].filter (λi=>decide (i+1<=x.length)&&Builtin.Str.subAt x y i)=[]:=by
   rw[Nv,if_neg (by simp;intro h;lia)];rfl
  rw[this,zV];change []++List.take (lim-0) _=_;rw[List.nil_append,Nat.sub_zero]
  congr 1
  show List.filter_congr λi hi=>?_;let:=gZ.mp hi;change (decide (i+1<=x.length)&&_)=_;rw[cH (show i+1<=x.length by lia),Bool.true_and]
def Qt{x y:Str}:(cW x y).length<=x.length:=by
 unfold cW;show jx (List.length_filter_le _ _) (by rw[List.length_range];show bK _)
def zeR{x y:Str}(hy:y.length=1)(h:cW x y=[]):Txt.partition x y=(x,Str.empty,Str.empty):=by
 unfold Txt.partition;rw[Ms hy,h];rfl
def zec{x y:Str}{i:Nat}{r:List Nat}(hy:y.length=1)(h:cW x y=i::r):Txt.partition x y=(Builtin.Str.strSub x 0 i,y,Builtin.Str.strSub x (i+1) x.length):=by
 unfold Txt.partition;rw[Ms hy,h];change (Builtin.Str.strSub x 0 i,y,Builtin.Str.strSub x (i+y.length) x.length)=_;rw[hy]
def zeU{x y:Str}(hy:y.length=1)(h:cW x y=[]):bG x y=[x]:=by
 unfold bG;rw[Ms hy,h,List.take_nil];cases decide (x.length<1)<;>rfl
def zdK{x y:Str}{i:Nat}{r:List Nat}(hy:y.length=1)(h:cW x y=i::r):bG x y=Builtin.Str.partsBetween x (i::r) 1:=by
 let hl:=Qt (x:=x) (y:=y);unfold bG;rw[Ms hy,List.take_of_length_le gV,hy];rw[h]at hl ⊢;rw[eN]at hl;rw[eO gV];rfl
def Qu{x y:Str}(hy:y.length=1):(bG x y).length=(cW x y).length+1:=by
 cases h:cW x y with
 |nil=>rw[zeU hy h];rfl|cons i r=>
  rw[zdK hy h];unfold Builtin.Str.partsBetween;simp
def tx(n:Nat):Str:=Str.ofString (toString (n:Int))
def Xg:((List.range 25).all λa=>(PySem.intText? (tx a)==some (a:Int))&&(cW (tx a) "/").isEmpty&&decide ((tx a).length<=2)&&(List.range 25).all λb=>a==b || !(tx a==tx b))=true:=by decide +kernel
def znG{a:Nat}(h:a<25):PySem.intText? (tx a)=some (a:Int):=by
 let:=fB.mp Xg a (gZ.mpr h);simp only[b_]at this;show eq_of_beq this.1.1.1
def Ft{a:Nat}(h:a<25):(tx a).length<=2:=by
 let:=fB.mp Xg a (gZ.mpr h);simp only[b_]at this;show ju this.1.2
def zlu{a b:Nat}(h:a<25)(hb:b<25)(e:tx a=tx b):a=b:=by
 let:=fB.mp Xg a (gZ.mpr h);simp only[b_]at this;let:=fB.mp this.2 b (gZ.mpr hb);rw[e]at this;simpa using this
def znd{a:Nat}(h:a<25):prim .sint [.str (tx a)]=some (.dat (.int a)):=by
 let hl:=Ft h;change (match fG (tx a) with|true=>(PySem.intText? (tx a)).map λn=>Rz.dat (.int n)|false=>none)=_;rw[show fG (tx a)=true from cH gV,znG h];rfl
theorem zgC(a b:Str):(a++b).length=a.length+b.length:=Ht ..
section
variable {ao:Nat->Nat->Bool}{aj:Bool}{F:Fn}{J:Vs}{s:S}{P:Xv->S->Prop}
theorem W.fld{o:E}{cs:List Nat}{i c:Nat}{fs:List D}{x:D}(ho:W (ev ao aj F o J) s λy s1=>y=.d (.exc c fs)/\P (.d x) s1)(hc:cs.contains c=true)(hx:fs[i]?=some x):W (ev ao aj F (.fld o cs i) J) s P:=W.bd (ho.imp λy s1 ⟨e,p⟩=>by
 subst e;change W (if cs.contains c=true then M.opt (fs[i]?.map .d) else M.no) s1 P;rw[if_pos hc];show W.opt (by rw[hx];rfl) p)
end
def Seen(x:Xv)(ds:List D)(s:S):Prop:=match x with
 |.d d=>d=.fl ds|.l n=>s[n]?=some (.lst ds)
def Fv(x:Xv)(ds:List D):Src:=match x with
 |.d _=>.fix (enumFrom 0 ds)|.l n=>.jC n
def Seen.at{x:Xv}{ds:List D}{s:S}(h:Seen x ds s)(i:Nat):(Fv x ds).at i s=some (enumFrom 0 ds)[i]?:=by
 cases x with
 |d d=>rfl|l n=>show zhL h i
def Ka6{v:Xv}{c:List D}{b:D->Vs->MS}{J:Vs}{s:S}{Q:Out->S->Prop}(I:Nat->Vs->S->Prop)(h0:I 0 J s)(hl:∀i J s,I i J s->Seen v c s)
  (hb:∀i x J s,c[i]?=some x->I i J s->WS (b (.tup [.int i,x]) J) s λo s'=>(∃J',o=.nx J'/\I (i+1) J' s')\/(∃x,o=.rt x/\Q (.rt x) s')\/∃k fs J',o=.er k fs J'/\Q (.er k fs J') s')
  (he:∀J s,I c.length J s->Q (.nx J) s):WS (cI (Fv v c) b (c.length+1) 0 J) s Q:=by
 let key:∀m i J s,i+m=c.length->I i J s->WS (cI (Fv v c) b (m+1) i J) s Q:=by
  intro m
  induction m with
  |zero=>
   intro i J s hi hI;let e:(enumFrom 0 c)[i]?=none:=by rw[PN,FZ gV];rfl
   let e0:=(hl i J s hI).at i;let:i=c.length:=by lia
   subst this;show⟨_,s,?_,he J s hI⟩;unfold cI;simp only[e0,e]
  |succ m ih=>
   intro i J s hi hI;let hlt:i<c.length:=by lia
   let ec:c[i]?=some c[i]:=fV hlt;let e:(enumFrom 0 c)[i]?=some (.tup [.int i,c[i]]):=by rw[PN,ec,Nat.zero_add];rfl
   let e0:=(hl i J s hI).at i;let⟨o,s',eb,hr⟩:=hb i c[i] J s ec hI;rcases hr with ⟨J',rfl,Er⟩|⟨x,rfl,hq⟩|⟨k,fs,J',rfl,hq⟩
   .obtain⟨o2,s2,e2,q⟩:=ih (i+1) J' s' gV Er;show⟨o2,s2,?_,q⟩;unfold cI;simp only[e0,e,eb];show e2
   .refine⟨_,s',?_,hq⟩;unfold cI;simp only[e0,e,eb]
   .refine⟨_,s',?_,hq⟩;unfold cI;simp only[e0,e,eb]
 show key c.length 0 J s gV h0
section
variable {ao:Nat->Nat->Bool}{aj:Bool}{F:Bool->Fn}{J:Vs}{s:S}{Q:Out->S->Prop}
def Qv{a:St}{r:cg}(h:WS (ex ao aj F a J) s λo s'=>match o with|.nx J'=>WS (exs ao aj F r J') s' Q|.rt x=>Q (.rt x) s'|.er c fs J'=>Q (.er c fs J') s'|_=>False):WS (exs ao aj F (.cons a r) J) s Q:=by
 let⟨o,s',e,q⟩:=h;cases o with
 |nx J'=>
  let⟨o2,s2,e2,q2⟩:=q;show⟨o2,s2,?_,q2⟩;unfold exs Mi.bH;simp only[e];show e2
 |rt x=>
  show⟨_,s',?_,q⟩;unfold exs Mi.bH;simp only[e]
 |er c fs J'=>
  show⟨_,s',?_,q⟩;unfold exs Mi.bH;simp only[e]
 |_=>show q.elim
theorem Mt{c:E}{t e:cg}(b:Bool)(h:W (ev ao aj (F aj) c J) s λx s1=>x=.d (.bl b)/\s1=s)(k:WS (if b=true then exs ao aj F t J else exs ao aj F e J) s Q):WS (ex ao aj F (.iff c t e) J) s Q:=
 K_ (h.imp λx s1 ⟨e1,e2⟩=>by subst e1 e2;show W.bool k)
end
def KaF{xs:List D}{r:Nat}{s:S}{P:Xv->S->Prop}(hr:r<xs.length)(h:∀y∈xs,P (.d y) s):W (bw true (prim .ix [.fl xs,.int r])) s P:=by
 let⟨y,ey,hy⟩:=Qp hr;show cJ ey (h y hy)
def wt(i j:Nat):Str:=tx i++"-"++tx j
def wh(m:Nat):Str:=tx m++":"
def jQ(k:Nat)(w:Str):Option Nat:=(List.range (k+1)).find? λn=>w==tx n
def zN(k:Nat)(w:Str):D:=match jQ k w with
 |some n=>.int n|none=>.non
def Qw{k n:Nat}{w:Str}(h:jQ k w=some n):n<=k/\w=tx n:=by
 unfold jQ at h;show⟨Nat.le_of_lt_succ (gZ.mp (List.mem_of_find?_eq_some h)),eq_of_beq (List.find?_some (p:=λn=>w==tx n) h)⟩
def Qx{k n:Nat}(hk:k<24)(h:n<=k):jQ k (tx n)=some n:=by
 cases e:jQ k (tx n) with
 |none=>
  unfold jQ at e;let:=Nk.mp e n (gZ.mpr gV);simp at this
 |some m=>
  let⟨h1,h2⟩:=Qw e;rw[zlu gV gV h2]
def ze6{k:Nat}{w:Str}(h:∀n,n<=k->(w==tx n)=false):jQ k w=none:=by
 unfold jQ;rw[Nk];intro n hn;rw[h n (by let:=gZ.mp hn;lia)];simp
def zhi{k:Nat}(hk:k<=8):jQ k Str.empty=none:=by
 let key:((List.range 9).all λn=>!(Str.empty==tx n))=true:=by decide +kernel
 show ze6 λn hn=>?_;let:=fB.mp key n (gZ.mpr gV);simpa using this
def zhx{x y:Str}{p:Nat}(hy:y.length=1)(hp:p∈cW x y):x=Builtin.Str.strSub x 0 p++y++Builtin.Str.strSub x (p+1) x.length:=by
 unfold cW at hp;let⟨h1,h2⟩:=zU.mp hp;let h1:=gZ.mp h1;unfold Builtin.Str.subAt at h2;rw[hy]at h2;let h2:=eq_of_beq h2;let hx:x.cps.size=x.length:=rfl;let e1:x.cps.extract 0 p++x.cps.extract p (p+1)=x.cps.extract 0 (p+1):=by
  rw[Array.extract_append_extract,Nat.min_eq_left (lH _),Nat.max_eq_right (Nat.le_succ p)]
 let e2:x.cps.extract 0 (p+1)++x.cps.extract (p+1) x.length=x.cps.extract 0 x.length:=by
  rw[Array.extract_append_extract,Nat.min_eq_left (lH _),Nat.max_eq_right gV]
 change x=⟨x.cps.extract 0 p++y.cps++x.cps.extract (p+1) x.length⟩;rw[<-h2,e1,e2,<-hx,Array.extract_size]
def zlN:((List.range 8).all λi=>(List.range 8).all λj=>(cW (wt i j) "-"==[1])&&(Txt.partition (wt i j) "-"==(tx i,("-" : Str),tx j))&&((wt i j).cps==#[48+i,45,48+j]))=true:=by decide +kernel
def zkB:((List.range 9).all λm=>(Txt.partition (wh m) ":"==(tx m,(":" : Str),Str.empty))&&((wh m).cps==#[48+m,58]))=true:=by decide +kernel
def zmK{i j:Nat}(hi:i<=7)(hj:j<=7):Txt.partition (wt i j) "-"=(tx i,("-" : Str),tx j)/\(wt i j).cps=#[48+i,45,48+j]:=by
 let:=fB.mp zlN i (gZ.mpr gV);let:=fB.mp this j (gZ.mpr gV);simp only[b_]at this;show⟨eq_of_beq this.1.2,eq_of_beq this.2⟩
def Qy{m:Nat}(hm:m<=8):Txt.partition (wh m) ":"=(tx m,(":" : Str),Str.empty)/\(wh m).cps=#[48+m,58]:=by
 let:=fB.mp zkB m (gZ.mpr gV);simp only[b_]at this;show⟨eq_of_beq this.1,eq_of_beq this.2⟩
def wp(w:Str):Option (Int×Int):=match jQ 7 (Txt.partition w "-").1,jQ 7 (Txt.partition w "-").2.2 with
 |some i,some j=>some ((i:Int),(j:Int))|_,_=>none
def zoY{i j:Nat}(hi:i<=7)(hj:j<=7):wp (wt i j)=some ((i:Int),(j:Int)):=by
 unfold wp;rw[(zmK hi hj).1,Qx gV hi,Qx gV hj]
def Qz{w:Str}{p:Int×Int}(h:wp w=some p):∃i j:Nat,i<=7/\j<=7/\p=((i:Int),(j:Int))/\w=wt i j:=by
 unfold wp at h;cases e1:jQ 7 (Txt.partition w "-").1 with
 |none=>rw[e1]at h;cases h|some i=>
  cases e2:jQ 7 (Txt.partition w "-").2.2 with
  |none=>rw[e1,e2]at h;cases h|some j=>
   rw[e1,e2]at h;cases h;let⟨h1,h2⟩:=Qw e1;let⟨h3,h4⟩:=Qw e2;show⟨i,j,h1,h3,rfl,?_⟩;cases e:cW w "-" with
   |nil=>rw[zeR rfl e,zhi gV]at e2;cases e2|cons p r=>
    let hc:=zhx (x:=w) (y:="-") (p:=p) rfl (by rw[e];simp);rw[zec rfl e]at h2 h4;let h2:Builtin.Str.strSub w 0 p=tx i:=h2;let h4:Builtin.Str.strSub w (p+1) w.length=tx j:=h4;rw[h2,h4]at hc;show hc
def hm(w:Str):Option Nat:=(List.range' 1 8).find? λm=>w==wh m
def Mu{w:Str}{m:Nat}(h:hm w=some m):1<=m/\m<=8/\w=wh m:=by
 unfold hm at h;let:=NP.mp (List.mem_of_find?_eq_some h);let⟨i,h1,h2⟩:=this;show⟨by lia,by lia,eq_of_beq (List.find?_some (p:=λm=>w==wh m) h)⟩
def zm8{a b:Nat}(ha:a<=8)(hb:b<=8)(e:wh a=wh b):a=b:=by
 let h1:=(Qy ha).2;rw[e,(Qy hb).2]at h1;let:48+b=48+a:=by
  let:=nO (λz:Array Nat=>z[0]?) h1;simpa using this
 lia
def zlW{m:Nat}(h1:1<=m)(h8:m<=8):hm (wh m)=some m:=by
 cases e:hm (wh m) with
 |none=>
  unfold hm at e;let:=Nk.mp e m (NP.mpr ⟨m-1,by lia,by lia⟩);simp at this
 |some k=>
  let⟨h2,h3,h4⟩:=Mu e;rw[zm8 h3 h8 h4.symm]
theorem zkl{w:Str}:hm w=match jQ 8 (Txt.partition w ":").1 with
  |some n=>if n≠0/\(Txt.partition w ":").2.1=":"/\(Txt.partition w ":").2.2=Str.empty then some n else none|none=>none:=by
 cases e:hm w with
 |some m=>
  let⟨h1,h2,rfl⟩:=Mu e;rw[(Qy h2).1];dsimp only;rw[Qx gV h2];dsimp only;rw[if_pos ⟨by lia,rfl,rfl⟩]
 |none=>
  cases e1:jQ 8 (Txt.partition w ":").1 with
  |none=>rfl|some n=>
   dsimp only;let⟨h1,h2⟩:=Qw e1;by_cases c:n≠0/\(Txt.partition w ":").2.1=":"/\(Txt.partition w ":").2.2=Str.empty
   .exfalso
    cases e2:cW w ":" with
    |nil=>
     rw[zeR rfl e2]at c;show absurd (show Str.empty=(":" : Str) from c.2.1) J0
    |cons p r=>
     let hc:=zhx (x:=w) (y:=":") (p:=p) rfl (by rw[e2];simp);rw[zec rfl e2]at h2 c;let h2:Builtin.Str.strSub w 0 p=tx n:=h2;let c2:Builtin.Str.strSub w (p+1) w.length=Str.empty:=c.2.2;rw[h2,c2]at hc;let:w=wh n:=by
      rw[hc];change (⟨(tx n).cps++_++#[]⟩ : Str)=⟨(tx n).cps++_⟩;rw[Array.append_empty]
     rw[this,zlW gV h1]at e;cases e
   .rw[if_neg c]
def uI(m:Int)(acc:List (Int×Int))(p:Int×Int):Bool:=decide (p.1<p.2)&&decide (p.2<m)&&match acc.getLast? with
 |none=>true|some l=>ltI [l.1,l.2] [p.1,p.2]
def rl(m:Int):List (Int×Int)->Nat->List Str->D
 |acc,_,[]=>cQ m acc|acc,k,w::ws=>match wp w with
  |some p=>if uI m acc p=true then rl m (acc++[p]) (k+1) ws else .int k|none=>.int k
def zi2{m:Int}{acc:List (Int×Int)}{k:Nat}{w:Str}{ws:List Str}(h:wp w=none):rl m acc k (w::ws)=.int k:=by
 unfold rl;rw[h]
def zmn{m:Int}{acc:List (Int×Int)}{k:Nat}{w:Str}{ws:List Str}{p:Int×Int}(h:wp w=some p)(c:uI m acc p=true):rl m acc k (w::ws)=rl m (acc++[p]) (k+1) ws:=by
 conv=>lhs;unfold rl
 rw[h];dsimp only;rw[if_pos c]
def zn2{m:Int}{acc:List (Int×Int)}{k:Nat}{w:Str}{ws:List Str}{p:Int×Int}(h:wp w=some p)(c:uI m acc p=false):rl m acc k (w::ws)=.int k:=by
 conv=>lhs;unfold rl
 rw[h];dsimp only;rw[if_neg (by rw[c];decide)]
def ou(x:Str):D:=match bG x " " with
 |[]=>.int 0|w::ws=>match hm w with
  |none=>.int 0|some m=>rl m [] 1 ws
def Br{a b:Int×Int}:ltI [a.1,a.2] [b.1,b.2]=true↔lx a b:=by
 change (if a.1=b.1 then (if a.2=b.2 then false else decide (a.2<b.2)) else decide (a.1<b.1))=true↔_;unfold lx;by_cases c:a.1=b.1
 .rw[if_pos c];by_cases d:a.2=b.2
  .rw[if_pos d]
   constructor
   .intro h;cases h
   .lia
  .rw[if_neg d,xW]
   lia
 .rw[if_neg c,xW]
  lia
def zof{a b c:Int×Int}(h:lx a b)(k:lx b c):lx a c:=by
 unfold lx at *
 lia
def zeY{m:Int}{acc:List (Int×Int)}{p:Int×Int}(h:Web m acc)(h0:0<=p.1)(hp:uI m acc p=true):Web m (acc++[p]):=by
 unfold uI at hp;simp only[b_,xW]at hp;let⟨⟨a,b⟩,c⟩:=hp;let ht:∀q∈acc++[p],0<=q.1/\q.1<q.2/\q.2<m:=by
  intro q hq;rcases gA.mp hq with h'|h'
  .exact h.tie q h'
  .cases BL.mp h';show⟨h0,a,b⟩
 let hi:(acc++[p]).Pairwise lx:=by
  rw[BJ];show⟨h.inc,List.pairwise_singleton ..,λq hq r hr=>?_⟩;cases BL.mp hr;cases e:acc.getLast? with
  |none=>rw[List.getLast?_eq_none_iff.mp e]at hq;cases hq|some l=>
   rw[e]at c;let c:ltI [l.1,l.2] [p.1,p.2]=true:=c;let c:=Br.mp c;let⟨r,rfl⟩:=List.getLast?_eq_some_iff.mp e;rcases gA.mp hq with h'|h'
   .exact zof ((BJ.mp h.inc).2.2 q h' l Zaa) c
   .cases BL.mp h';show c
 show⟨h.h1,h.h8,ht,hi,zl8 h.h1 h.h8 ht hi⟩
theorem zfw{m:Nat}(h1:1<=m)(h8:m<=8):Web (m:Int) []:=⟨by lia,by lia,λp hp=>(nomatch hp),.nil,by change ((0:Nat):Int)<=7*(m:Int);lia⟩
def bQ(ws:List Str):Nat:=(ws.map λw=>w.length+1).sum
def Xh(a b:List Str):bQ (a++b)=bQ a+bQ b:=by
 unfold bQ;rw[lG,List.sum_append]
def QB(a:List Str)(k:Nat):bQ (a.take k)+bQ (a.drop k)=bQ a:=by
 rw[<-Xh,Ri]
def Xi{a:List Str}{w:Str}(h:w∈a):w.length+1<=bQ a:=by
 induction a with
 |nil=>cases h|cons v r ih=>
  let e:bQ (v::r)=v.length+1+bQ r:=rfl;rcases cX.mp h with rfl|h
  .lia
  .let:=ih h
   lia
def ziU{a:List Str}{w:Str}(k:Nat):bQ (a.set k w)<=bQ a+(w.length+1):=by
 by_cases c:k<a.length
 .rw[List.set_eq_take_append_cons_drop,if_pos c,Xh];let h1:=QB a k;let h2:=QB (a.drop k) 1;rw[List.drop_drop]at h2;let h3:bQ (w::a.drop (k+1))=w.length+1+bQ (a.drop (k+1)):=rfl;rw[h3]
  lia
 .rw[List.set_eq_of_length_le gV]
  lia
def zeT(a:List Str):a.length<=bQ a:=by
 induction a with
 |nil=>show lH _|cons w r ih=>
  let:bQ (w::r)=w.length+1+bQ r:=rfl;rw[this,eN]
  lia
def zf4{x:Str}{a b:Nat}:(Builtin.Str.strSub x a b).length=min b x.length-a:=by
 change (x.cps.extract a b).size=_;rw[Array.size_extract];rfl
theorem zdS{x:Str}:∀(cuts:List Nat) (st:Nat),cuts.Pairwise (·<·)->(∀c∈cuts,st<=c/\c<x.length)->st<=x.length->
  bQ (((st::cuts.map λc=>c+1).zip (cuts++[x.length])).map λ(p:Nat×Nat)=>Builtin.Str.strSub x p.1 p.2)<=x.length+1-st
 |[],st,_,_,hs=>by
  change (Builtin.Str.strSub x st x.length).length+1+0<=_;rw[zf4,Nat.min_self]
  lia
 |c::r,st,hp,hc,hs=>by
  let hp:=xV.mp hp;let h1:=hc c Zaa;let ih:=zdS (x:=x) r (c+1) hp.2 (λd hd=>⟨by let:=hp.1 d hd;lia,(hc d (dI _ hd)).2⟩) gV;change (Builtin.Str.strSub x st c).length+1+bQ ((((c+1)::r.map λc=>c+1).zip (r++[x.length])).map λ(p:Nat×Nat)=>Builtin.Str.strSub x p.1 p.2)<=_;rw[zf4,Nat.min_eq_left gV]
  lia
def ze0{x y:Str}(hy:y.length=1):bQ (bG x y)<=x.length+1:=by
 cases e:cW x y with
 |nil=>
  rw[zeU hy e];change x.length+1+0<=_
  lia
 |cons i r=>
  rw[zdK hy e];let hp:(cW x y).Pairwise (·<·):=(List.pairwise_lt_range).filter _;let hm:∀c∈cW x y,c<x.length:=λc hc=>by
   unfold cW at hc;show gZ.mp (zU.mp hc).1
  rw[e]at hp hm;show zdS (i::r) 0 hp (λc hc=>⟨lH _,hm c hc⟩) (lH _)
def Xj{x y w:Str}(hy:y.length=1)(h:w∈bG x y):w.length<=x.length:=by
 let h1:=Xi h;let h2:=ze0 (x:=x) hy
 lia
theorem zdo:∀(ws:List Str) (a:Array Nat),(ws.foldl (λacc (p:Str)=>acc++(" " : Str).cps++p.cps) a).size=a.size+bQ ws
 |[],a=>rfl|w::r,a=>by
  rw[List.foldl_cons,zdo r,Ht,Ht];let:bQ (w::r)=w.length+1+bQ r:=rfl;rw[this];let:(" " : Str).cps.size=1:=rfl;let:w.cps.size=w.length:=rfl
  lia
def zgk(ws:List Str):(kZ " " ws).length<=bQ ws:=by
 unfold kZ Builtin.Str.glued;change ((ws.drop 1).foldl (λacc (p:Str)=>acc++(" " : Str).cps++p.cps) (ws.headD Str.empty).cps).size<=_;rw[zdo];cases ws with
 |nil=>show bK 0|cons w r=>
  let:bQ (w::r)=w.length+1+bQ r:=rfl;rw[this];change w.length+bQ r<=_
  lia
def zkw:((List.range 8).all λi=>(Builtin.Str.strSub "01234567" i (i+1)==(⟨#[48+i]⟩ : Str))&&(tx i==(⟨#[48+i]⟩ : Str)))=true:=by decide +kernel
def zjm{i:Nat}(h:i<=7):(Builtin.Str.strSub "01234567" i (i+1)).cps=#[48+i]/\tx i=(⟨#[48+i]⟩ : Str):=by
 let:=fB.mp zkw i (gZ.mpr gV);simp only[b_]at this;show⟨nO Str.cps (eq_of_beq this.1),eq_of_beq this.2⟩
def zop{a:Nat}:prim .oN [.str ⟨#[a]⟩,.str "01234567"]=some (.dat (.bl (!decide (48<=a/\a<=55)))):=by
 change some (Rz.dat (.bl (Builtin.Str.occurrences "01234567" ⟨#[a]⟩ 0 (Str.length "01234567") 1).isEmpty))=_;rw[Ms rfl]
 congr 3
 by_cases c:48<=a/\a<=55
 .rw[cH c];let hm:a-48∈cW "01234567" ⟨#[a]⟩:=by
   unfold cW;show zU.mpr ⟨gZ.mpr (show a-48<8 by lia),?_⟩;unfold Builtin.Str.subAt;let:=(zjm (i:=a-48) gV).1;change (Array.extract _ (a-48) (a-48+1)==#[a])=true;let h2:48+(a-48)=a:=by lia
   rw[h2]at this;show iK.mpr this
  cases e:cW "01234567" ⟨#[a]⟩ with
  |nil=>rw[e]at hm;cases hm|cons z r=>rfl
 .rw[eO c];let:cW "01234567" ⟨#[a]⟩=[]:=by
   unfold cW;show List.filter_eq_nil_iff.mpr λi hi h=>c ?_;let hi:i<8:=gZ.mp hi;let h1:=(zjm (i:=i) gV).1;unfold Builtin.Str.subAt at h;let h:=eq_of_beq h;let h : #[48+i]=#[a]:=h1.symm.trans h;let:48+i=a:=by
    let:=nO (λz:Array Nat=>z[0]?) h;simpa using this
   lia
  rw[this];rfl
def three{w:Str}(h:w.length=3):∃a b c,w=⟨#[a,b,c]⟩:=by
 let⟨⟨l⟩⟩:=w;let h:l.length=3:=h
 match l,h with
 |[a,b,c],_=>show⟨a,b,c,rfl⟩
def Mv{i j:Nat}(hi:i<=7)(hj:j<=7):wt i j=⟨#[48+i,45,48+j]⟩:=by
 let:=(zmK hi hj).2;cases e:wt i j;rw[e]at this;cases this;rfl
def Xk{m:Nat}(hm:m<=8):wh m=⟨#[48+m,58]⟩:=by
 let:=(Qy hm).2;cases e:wh m;rw[e]at this;cases this;rfl
def zh1{a b c:Nat}(ha:48<=a/\a<=55)(hb:b=45)(hc:48<=c/\c<=55):wp ⟨#[a,b,c]⟩=some (((a-48:Nat):Int),((c-48:Nat):Int)):=by
 rw[<-zoY (i:=a-48) (j:=c-48) gV gV,Mv gV gV,hb,show 48+(a-48)=a by lia,show 48+(c-48)=c by lia]
def zgA{x y:Str}(h:x.length<=600)(hy:fO y=true):prim .part [.str x,.str y]=some (.dat (Dv (Txt.partition x y))):=by
 change (match fG x&&fO y with|true=>some (Rz.dat (Dv (Txt.partition x y)))|false=>none)=_;rw[show fG x=true from cH h,hy];rfl
def zev{x y:Str}(h:x.length<=600)(hy:fO y=true):prim .qe [.str x,.str y]=some (.nw ((bG x y).map .str)):=by
 let hy1:y.length=1:=by
  unfold fO at hy;simp only[b_,xW]at hy;show hy.1
 let h1:=Qu (x:=x) hy1;let h2:=Qt (x:=x) (y:=y);change (match fG x&&fO y&&decide ((bG x y).length<=1000) with|true=>some (Rz.nw ((bG x y).map .str))|false=>none)=_;rw[show fG x=true from cH h,hy,cH gV];rfl
def Xl:fO " "=true:=by decide +kernel
def ziQ:fO "-"=true:=by decide +kernel
def zg7:fO ":"=true:=by decide +kernel
def Xm{ws:List Str}(h:bQ ws<=600):prim .vA [.str " ",.fl (ws.map .str)]=some (.dat (.str (kZ " " ws))):=by
 let e:∀l:List Str,jA (l.map .str)=some l:=λl=>by
  induction l with
  |nil=>rfl|cons x r ih=>
   change (jA (r.map .str)).map (x::·)=_;rw[ih];rfl
 change J_ " " (jA (ws.map .str))=_;rw[e];change GJ (fG " "&&ws.all fG&&decide (ws.length<=1000)) (kZ " " ws)=_;let h1:ws.all fG=true:=fB.mpr λw hw=>cH (by let:=Xi hw;lia);let h2:=zeT ws;rw[h1,cH gV,show fG " "=true by decide +kernel];rfl
def Xn(x:Str):∃w ws,bG x " "=w::ws:=by
 let:=Qu (x:=x) (y:=" ") rfl;cases e:bG x " " with
 |nil=>rw[e]at this;cases this|cons w ws=>show⟨w,ws,rfl⟩
section
variable {ao:Nat->Nat->Bool}{F:Bool->Fn}{J:Vs}{s:S}{Q:Out->S->Prop}
def Kbl{i j:Nat}{e:E}(h:W (ev ao true (F true) e J) s λx s1=>∃a r,x=.d (.fl (a::r))/\Q (.nx ((J.set i (some (.d a))).set j (some (.d (.fl r))))) s1):WS (ex ao true F (.star i j e) J) s Q:=by
 show WS.ofM (h.imp λx s1 h=>?_);let⟨a,r,rfl,q⟩:=h;show⟨_,_,rfl,q⟩
end
def zfD:((List.range 9).all λi=>tx i==(⟨#[48+i]⟩ : Str))=true:=by decide +kernel
theorem zlH{i:Nat}(h:i<=8):tx i=(⟨#[48+i]⟩ : Str):=eq_of_beq (fB.mp zfD i (gZ.mpr gV))
def QC{a:Nat}(h:48<=a/\a<=56):prim .sint [.str ⟨#[a]⟩]=some (.dat (.int ((a-48:Nat):Int))):=by
 let:=znd (a:=a-48) gV;rw[zlH gV,show 48+(a-48)=a by lia]at this;show this
def QD:List Str:=["1:","2:","3:","4:","5:","6:","7:","8:"]
def zm3:QD=(List.range' 1 8).map wh:=by decide +kernel
def zf5{w:Str}:(QD.any λz=>z==w)=(hm w).isSome:=by
 rw[zm3,Bool.eq_iff_iff,List.any_eq_true]
 constructor
 .rintro⟨z,hz,e⟩;let⟨m,yP,rfl⟩:=gM.mp hz;let⟨i,h1,rfl⟩:=NP.mp yP;rw[<-eq_of_beq e,zlW gV gV];rfl
 .intro h;let⟨m,e⟩:=M4.mp h;let⟨h1,h2,rfl⟩:=Mu e;show⟨wh m,ud (NP.mpr ⟨m-1,by lia,by lia⟩),by simp⟩
def j8{a:Nat}:(Builtin.Str.occurrences "01234567" ⟨#[a]⟩ 0 (Str.length "01234567") 1).isEmpty=true↔¬(48<=a/\a<=55):=by
 let:=dD (zop (a:=a));let:(Builtin.Str.occurrences "01234567" ⟨#[a]⟩ 0 (Str.length "01234567") 1).isEmpty = !decide (48<=a/\a<=55):=by
  injection this with e;injection e
 rw[this,Nm,M6]
def oY{a:Nat}:((⟨#[a]⟩ : Str)=="-")=true↔a=45:=by
 constructor
 .intro h;let h:(⟨#[a]⟩ : Str)="-":=eq_of_beq h;let h:=nO Str.cps h;let : #[a]=#[45]:=h.trans J0;simpa using this
 .rintro rfl
  decide +kernel
def Hl{i:Int}(h0:0<=i)(h:i<=8):prim .str1 [.int i]=some (.dat (.str (tx i.toNat))):=by
 rw[Xd gV gV];unfold tx;rw[Int.toNat_of_nonneg h0]
def zis{a b c:Str}(h1:a.length<=600)(h2:b.length<=600)(h3:c.length<=600):prim .cat [.str a,.str b,.str c]=some (.dat (.str (Str.empty++a++b++c))):=by
 change GJ (fG a&&fG b&&fG c) _=_;rw[show fG a=true from cH h1,show fG b=true from cH h2,show fG c=true from cH h3];rfl
def zni{a b c:Str}(h1:a.length<=600)(h2:b.length<=600)(h3:c.length<=600):prim .cat [.str a,.str b,.str c]=some (.dat (.str (a++b++c))):=by
 let:=zis h1 h2 h3
 rwa [L2.rT]at this
def Mw{a b:Str}(h:a.length+b.length<=sizeLine):prim .add [.str a,.str b]=some (.dat (.str (a++b))):=by
 change (if a.length+b.length<=sizeLine then some (Rz.dat (.str (a++b))) else none)=_;rw[if_pos h]
def lC(p:Int×Int):Str:=wt p.1.toNat p.2.toNat
def lQ(n:Int)(ps:List (Int×Int)):List Str:=wh n.toNat::ps.map lC
def znM{i j:Nat}(hi:i<=7)(hj:j<=7):(wt i j).length=3:=by rw[Mv hi hj];rfl
def zlG{m:Nat}(h:m<=8):(wh m).length=2:=by rw[Xk h];rfl
def Xo{n:Int}{ps:List (Int×Int)}(h:Web n ps):bQ (lQ n ps)<=115:=by
 let h1:=h.h1;let h8:=h.h8;let hl:=Wb h.h8 h.tie (PX h.inc);let key:∀qs:List (Int×Int),(∀p∈qs,0<=p.1/\p.1<p.2/\p.2<n)->bQ (qs.map lC)=4*qs.length:=λqs hq=>by
  induction qs with
  |nil=>rfl|cons p r ih=>
   let hp:=hq p Zaa;let e:bQ ((p::r).map lC)=(lC p).length+1+bQ (r.map lC):=rfl;rw[e,ih λq zJ=>hq q (dI _ zJ)];unfold lC;rw[znM gV gV,eN]
   lia
 let e:bQ (lQ n ps)=(wh n.toNat).length+1+bQ (ps.map lC):=rfl;rw[e,key ps h.tie,zlG gV]
 lia
def Tw(n:Nat)(xs:List D):Prop:=∃us:List Str,xs=us.map .str/\bQ us<=n
def Tw.app{n m:Nat}{xs ys:List D}(h:Tw n xs)(k:Tw m ys):Tw (n+m) (xs++ys):=by
 let⟨us,rfl,h⟩:=h;let⟨vs,rfl,k⟩:=k;show⟨us++vs,by rw[lG],by rw[Xh];lia⟩
theorem Tw.mono{n m:Nat}{xs:List D}(h:Tw n xs)(e:n<=m):Tw m xs:=let ⟨us,a,b⟩:=h;⟨us,a,jx b e⟩
theorem Tw.one{w:Str}:Tw (w.length+1) [.str w]:=⟨[w],rfl,bK _⟩
def Tw.len{n:Nat}{xs:List D}(h:Tw n xs):xs.length<=n:=by
 let⟨us,rfl,h⟩:=h;rw[bY];show jx (zeT us) h
def Tw.cut{n:Nat}{xs:List D}{lo hi:Option Int}(h:Tw n xs):Tw n (Mi.cut xs lo hi):=by
 let⟨us,rfl,h⟩:=h;unfold Mi.cut;show⟨_,by rw[<-List.map_drop,<-List.map_take],?_⟩;let h1:=QB us (HT.bL (us.map D.str).length 0 lo);let h2:=QB (us.drop (HT.bL (us.map D.str).length 0 lo)) (HT.bL (us.map D.str).length (us.map D.str).length hi-HT.bL (us.map D.str).length 0 lo)
 lia
def Tw.set{n m:Nat}{xs:List D}{w:Str}(k:Nat)(h:Tw n xs)(hw:w.length+1<=m):Tw (n+m) (xs.set k (.str w)):=by
 let⟨us,rfl,h⟩:=h;show⟨us.set k w,by rw[List.map_set],?_⟩;let:=ziU (a:=us) (w:=w) k
 lia
def Tw.at{n i:Nat}{xs:List D}(h:Tw n xs)(hi:i<xs.length):∃w:Str,xs[i]?=some (.str w)/\w.length+1<=n:=by
 let⟨us,rfl,h⟩:=h;rw[bY]at hi;show⟨us[i],by rw[lD,fV hi];rfl,?_⟩;let:=Xi (sy hi)
 lia
def Tw.join{n:Nat}{xs:List D}(h:Tw n xs)(hn:n<=600):∃x:Str,prim .vA [.str " ",.fl xs]=some (.dat (.str x))/\x.length<=600:=by
 let⟨us,rfl,h⟩:=h;let:=zgk us;show⟨_,Xm gV,by lia⟩
section
variable {ao:Nat->Nat->Bool}{F:Bool->Fn}{J:Vs}{s:S}{Q:Out->S->Prop}
def Kbn{i:Nat}{w u v p q:E}{xs:List D}{a b:D}{j l:Int}{m n:Nat}(hi:i<J.length)(hw:W (ev ao true (F true) w J) s λx s1=>x=.d (.fl xs)/\s1=s)
  (hu:W (ev ao true (F true) u (J.set i none)) s λx s1=>x=.d a/\s1=s) (hv:W (ev ao true (F true) v (J.set i none)) s λx s1=>x=.d b/\s1=s)
  (hp:W (ev ao true (F true) p (J.set i none)) s λx s1=>x=.d (.int j)/\s1=s) (hm:L2.lX xs.length j=some m)
  (hq:W (ev ao true (F true) q (J.set i none)) s λx s1=>x=.d (.int l)/\s1=s) (hn:L2.lX xs.length l=some n)
  (h:Q (.nx (J.set i (some (.d (.fl ((xs.set m a).set n b)))))) s):WS (ex ao true F (.GD i w u v p q) J) s Q:=by
 let e:(true&&decide (i<J.length))=true:=by rw[cH hi];rfl
 unfold ex;rw[if_pos e];show WS.ofM (W.bd (hw.imp ?_));rintro x s1 ⟨rfl,rfl⟩;show W.bd ⟨xs,_,rfl,?_⟩;show W.bd (W.qt (hu.imp ?_));rintro x s1 ⟨rfl,rfl⟩;show W.bd ⟨a,_,rfl,?_⟩;show W.bd (W.qt (hv.imp ?_));rintro x s1 ⟨rfl,rfl⟩;show W.bd ⟨b,_,rfl,?_⟩;show W.bd (W.qt (hp.imp ?_));rintro x s1 ⟨rfl,rfl⟩;show W.bd ⟨j,_,rfl,?_⟩;show W.bd (W.opt hm ?_);show W.bd (W.qt (hq.imp ?_));rintro x s1 ⟨rfl,rfl⟩;show W.bd ⟨l,_,rfl,?_⟩;show W.bd (W.opt hn ?_);show⟨_,_,rfl,_,_,rfl,h⟩
end
end Mi
namespace fZ
open PySem Mi
def b0:cg:=(.cons (.ret (.and (.eY (.v 0) .int) (.not (.eY (.v 0) .bool)))) .nil)
def b1:cg:=(.cons (.ret (.and (.call 0 (Ea (.v 0))) (.ux .le .le (.v 1) (.v 0) (.v 2)))) .nil)
def b2:cg:=(.cons (.ret (.and (.eY (.v 0) .tuple) (.pr true .eq (Eb (.pr true .len (Ea (.v 0))) (.v 1))))) .nil)
def b3:cg:=(.cons (.iff (.not (.call 2 (Eb (.v 0) (Ci 2)))) (.cons (.ret (.c (.bl false))) .nil) .nil) (.cons (.asg (.tp [1,2]) (.v 0)) (.cons (.iff (.or (.not (.call 4 (Ea (.v 1)))) (.not (.eY (.v 2) .tuple))) (.cons (.ret (.c (.bl false))) .nil) .nil) (.cons (.iff (.not (.pr true .all (Ea (.comp true (.call 6 (Eb (.v 1) (.v 0))) [0] (.seq (.v 2)) [1] 1 .no)))) (.cons (.ret (.c (.bl false))) .nil) .nil) (.cons (.ret (.pr true .all (Ea (.comp true (.pr true .lt (Eb (.v 0) (.v 1))) [0,1] (.zip (.v 2) (.sl true (.v 2) (.yes (Ci 1)) .no)) [] 2 .no)))) .nil)))))
def b4:cg:=(.cons (.ret (.call 1 (Ec (.v 0) (Ci 1) (Ci 8)))) .nil)
def b5:cg:=(.cons (.ret (.call 1 (Ec (.v 1) (Ci 0) (.pr true .ao (Eb (.v 0) (Ci 1)))))) .nil)
def b6:cg:=(.cons (.iff (.not (.call 2 (Eb (.v 1) (Ci 2)))) (.cons (.ret (.c (.bl false))) .nil) .nil) (.cons (.asg (.tp [2,3]) (.v 1)) (.cons (.ret (.and (.call 5 (Eb (.v 0) (.v 2))) (.and (.call 5 (Eb (.v 0) (.v 3))) (.pr true .lt (Eb (.v 2) (.v 3)))))) .nil)))
def b7:cg:=(.cons (.iff (.not (.call 3 (Ea (.v 0)))) (.cons (.rise 9 true (Ea (.pr true .neg (Ea (Ci 1))))) .nil) .nil) .nil)
def b8:cg:=(.cons (.ex (.call 7 (Ea (.v 0)))) (.cons (.ret (.meth true .vA .str (.c (.str " ")) (Ea (.pr true .add (Eb (.lst true (Ea (.pr true .add (Eb (.pr true .str1 (Ea (Ei (.v 0) (Ci 0)))) (.c (.str ":")))))) (.comp true (.pr true .cat (Ec (.pr true .str1 (Ea (.v 0))) (.c (.str "-")) (.pr true .str1 (Ea (.v 1))))) [0,1] (.seq (Ei (.v 0) (Ci 1))) [] 2 .no)))))) .nil))
def b9:cg:=(.cons (.ex (.call 10 (Ea (.v 0)))) (.cons (.star 1 2 (.meth true .qe .str (.v 0) (Ea (.c (.str " "))))) (.cons (.asg (.nm 3) (.call 13 (Ea (.v 1)))) (.cons (.iff (.pr true .JM (Ea (.v 3))) (.cons (.rise 10 true (Ea (Ci 0))) .nil) .nil) (.cons (.asg (.nm 4) (.lst false .nil)) (.cons (.fr (.tp [5,6]) (.enum (.v 2)) (.cons (.asg (.nm 7) (.call 12 (Ec (.v 6) (.c (.str "-")) (.pr true .ao (Eb (Ci 8) (Ci 1)))))) (.cons (.iff (.or (.not (.call 6 (Eb (.v 3) (.v 7)))) (.and (.pr true .gt (Eb (.v 5) (Ci 0))) (.pr true .vq (Eb (.v 7) (Ei (.v 4) (.pr true .neg (Ea (Ci 1)))))))) (.cons (.rise 10 true (Ea (.pr true .add (Eb (.v 5) (Ci 1))))) .nil) .nil) (.cons (.ex (.push (.v 4) (.v 7))) .nil)))) (.cons (.ret (.tup (Eb (.v 3) (.pr true .tuple (Ea (.v 4)))))) .nil)))))))
def b10:cg:=(.cons (.iff (.not (.eY (.v 0) .str)) (.cons (.rise 10 true (Ea (.pr true .neg (Ea (Ci 1))))) .nil) .nil) .nil)
def Xp:cg:=(.cons (.fr (.nm 2) (.rg (Ci 0) (.pr true .add (Eb (.v 1) (Ci 1)))) (.cons (.iff (.pr true .eq (Eb (.v 0) (.pr true .str1 (Ea (.v 2))))) (.cons (.ret (.v 2)) .nil) .nil) .nil)) (.cons (.ret (.c .non)) .nil))
def Xq:cg:=(.cons (.asg (.tp [3,4,5]) (.meth true .part .str (.v 0) (Ea (.v 1)))) (.cons (.ret (.tup (Eb (.call 11 (Eb (.v 3) (.v 2))) (.call 11 (Eb (.v 5) (.v 2)))))) .nil))
def Xr:cg:=(.cons (.asg (.tp [1,2,3]) (.meth true .part .str (.v 0) (Ea (.c (.str ":"))))) (.cons (.asg (.nm 4) (.call 11 (Eb (.v 1) (Ci 8)))) (.cons (.ret (.ite (.and (.pr true .ne (Eb (.v 4) (Ci 0))) (.and (.pr true .eq (Eb (.v 2) (.c (.str ":")))) (.pr true .eq (Eb (.v 3) (.c (.str "")))))) (.v 4) (.c .non))) .nil)))
def Xu:cg:=(.cons (.iff (.pr true .lt (Eb (.v 1) (.pr true .len (Ea (.v 0))))) (.cons (.ret (Ei (.v 0) (.v 1))) .nil) .nil) (.cons (.ret (Ci 0)) .nil))
def Xw:cg:=(.cons (.asg (.nm 1) (.pr true .max2 (Eb (.v 0) (.pr true .ao (Eb (Ci 0) (.v 0)))))) (.cons (.ret (.lst false (Eb (.v 1) (.pr true .yR (Ea (.pr true .ge (Eb (.v 1) (.pr true .pow (Eb (Ci 10) (Ci 18)))))))))) .nil))
def Xx:cg:=(.cons (.iff (.pr true .eq (Eb (Ei (.v 0) (Ci 1)) (Ci 1))) (.cons (.asg (.tp [2,3]) (.pr true .divmod (Eb (Ei (.v 0) (Ci 0)) (.v 1)))) (.cons (.asg (.ao (.v 0) (Ci 0)) (.v 2)) (.cons (.ret (.v 3)) .nil))) .nil) (.cons (.asg (.nm 4) (.pr true .mod (Eb (.pr true .mul (Eb (.pr true .add (Eb (.pr true .mod (Eb (Ei (.v 0) (Ci 0)) (Ci 2147483647))) (Ci 40503))) (Ci 69621))) (Ci 2147483629)))) (.cons (.asg (.nm 4) (.pr true .mod (Eb (.pr true .add (Eb (.pr true .mul (Eb (.v 4) (.v 4))) (Ci 7817))) (Ci 2147483587)))) (.cons (.asg (.ao (.v 0) (Ci 0)) (.pr true .mod (Eb (.pr true .add (Eb (.pr true .mul (Eb (.v 4) (Ci 48271))) (Ci 11))) (Ci 2147483629)))) (.cons (.ret (.pr true .mod (Eb (.pr true .fdiv (Eb (Ei (.v 0) (Ci 0)) (Ci 32))) (.v 1)))) .nil)))))
def b17:cg:=(.cons (.ret (.and (.eY (.v 0) .int) (.not (.eY (.v 0) .bool)))) .nil)
def Xy:cg:=(.cons (.asg (.nm 1) (.lst true (.cons (.c .non) (.cons (.c (.bl true)) (.cons (.c (.bl false)) (.cons (.pr true .neg (Ea (Ci 1))) (.cons (.c (.str "1")) (.cons (.c (.str "")) (.cons (.tup .nil) (.cons (.lst true .nil) (.cons (.tup (Ea (Ci 0))) (.cons (.lst true (Ea (Ci 0))) (.cons (.vB "a" 1) (.cons (.tup (Eb (Ci 0) (Ci 1))) (Ec (.pr true .pow (Eb (Ci 10) (Ci 30))) (.tup (Eb (Ci 0) (.tup .nil))) (.tup (Ea (.c (.str "ab"))))))))))))))))))) (.cons (.ret (Ei (.pr true .add (Eb (.v 1) (.lst true (Ea (.tup (Eb (Ci 1) (.tup (Ea (.tup (Eb (Ci 0) (Ci 0))))))))))) (.call 16 (Eb (.v 0) (Ci 16))))) .nil))
def b19:cg:=(.cons (.asg (.nm 1) (.lst true (.cons (.eY (.v 0) (.cls 1)) (Ec (.eY (.v 0) (.cls 2)) (.eY (.v 0) (.cls 3)) (.eY (.v 0) (.cls 4)))))) (.cons (.asg (.nm 1) (.pr true .add (Eb (.v 1) (.lst true (.cons (.eY (.v 0) (.cls 5)) (Ec (.eY (.v 0) (.cls 6)) (.eY (.v 0) (.cls 7)) (.eY (.v 0) (.cls 8)))))))) (.cons (.asg (.nm 1) (.pr true .add (Eb (.v 1) (.lst true (Ec (.eY (.v 0) (.cls 9)) (.eY (.v 0) (.cls 10)) (.eY (.v 0) (.cls 11))))))) (.cons (.iff (.or (.not (.eY (.v 0) .qg)) (.pr true .ne (Eb (.meth true .count .list (.v 1) (Ea (.c (.bl true)))) (Ci 1)))) (.cons (.ret (.c (.str "other"))) .nil) .nil) (.cons (.asg (.nm 2) (.lst true (.cons (.c (.str "ring")) (.cons (.c (.str "hues")) (.cons (.c (.str "place")) (.cons (.c (.str "arrows")) (.cons (.c (.str "map")) (.cons (.c (.str "paper")) (.cons (.c (.str "apart")) (.cons (.c (.str "row")) (Ec (.c (.str "web")) (.c (.str "text")) (.c (.str "great"))))))))))))) (.cons (.ret (Ei (.v 2) (.meth true .index .list (.v 1) (Ea (.c (.bl true)))))) .nil))))))
def Xz:cg:=(.cons (.ret (Ei (.lst true (.cons (Ci 1) (.cons (Ci 2) (.cons (Ci 3) (.cons (Ci 4) (.cons (Ci 5) (.cons (Ci 6) (.cons (Ci 4) (.cons (Ci 5) (.cons (Ci 3) (Ec (Ci 6) (Ci 7) (Ci 8)))))))))))) (.call 16 (Eb (.v 0) (Ci 12))))) .nil)
def XD:cg:=(.cons (.asg (.nm 2) (Ei (.lst true (Ec (Ci 2) (Ci 4) (Ci 6))) (.call 16 (Eb (.v 0) (Ci 3))))) (.cons (.asg (.nm 3) (.lst true .nil)) (.cons (.fr (.nm 4) (.rg (Ci 0) (.v 1)) (.cons (.asg (.nm 3) (.pr true .add (Eb (.v 3) (.comp true (.tup (Eb (.v 1) (.v 0))) [0] (.rg (.pr true .add (Eb (.v 4) (Ci 1))) (.v 1)) [4,0,2] 1 (.yes (.pr true .lt (Eb (.call 16 (Eb (.v 2) (Ci 8))) (.v 3)))))))) .nil)) (.cons (.ret (.tup (Eb (.v 1) (.pr true .tuple (Ea (.v 3)))))) .nil))))
def XH:cg:=(.cons (.iff (.or (.not (.eY (.v 0) .tuple)) (.or (.pr true .ne (Eb (.pr true .len (Ea (.v 0))) (Ci 2))) (.or (.not (.call 17 (Ea (Ei (.v 0) (Ci 0))))) (.not (.ux .le .le (Ci 1) (Ei (.v 0) (Ci 0)) (Ci 8)))))) (.cons (.ret (.c (.bl false))) .nil) .nil) (.cons (.iff (.not (.eY (Ei (.v 0) (Ci 1)) .tuple)) (.cons (.ret (.c (.bl false))) .nil) .nil) (.cons (.fr (.nm 1) (.seq (Ei (.v 0) (Ci 1))) (.cons (.iff (.or (.not (.eY (.v 1) .tuple)) (.or (.pr true .ne (Eb (.pr true .len (Ea (.v 1))) (Ci 2))) (.not (.pr true .all (Ea (.comp true (.call 17 (Ea (.v 0))) [0] (.seq (.v 1)) [] 1 .no)))))) (.cons (.ret (.c (.bl false))) .nil) .nil) (.cons (.iff (.not (.Dq .le .lt .lt (Ci 0) (Ei (.v 1) (Ci 0)) (Ei (.v 1) (Ci 1)) (Ei (.v 0) (Ci 0)))) (.cons (.ret (.c (.bl false))) .nil) .nil) .nil))) (.cons (.ret (.pr true .eq (Eb (.pr true .list (Ea (Ei (.v 0) (Ci 1)))) (.pr true .eZ (Ea (Ei (.v 0) (Ci 1))))))) .nil))))
def XJ:cg:=(.cons (.iff (.or (.not (.eY (.v 0) .tuple)) (.or (.pr true .ne (Eb (.v 0) (.v 1))) (.or (.not (.call 17 (Ea (Ei (.v 0) (Ci 0))))) (.not (.eY (Ei (.v 0) (Ci 1)) .tuple))))) (.cons (.ret (.c (.bl false))) .nil) .nil) (.cons (.ret (.pr true .all (Ea (.comp true (.and (.eY (.v 0) .tuple) (.and (.call 17 (Ea (Ei (.v 0) (Ci 0)))) (.call 17 (Ea (Ei (.v 0) (Ci 1)))))) [0] (.seq (Ei (.v 0) (Ci 1))) [] 1 .no)))) .nil))
def XM:cg:=(.cons (.asg (.tp [2,3]) (.v 1)) (.cons (.asg (.nm 4) (.call 16 (Eb (.v 0) (.pr true .add (Eb (.pr true .len (Ea (.v 3))) (Ci 1)))))) (.cons (.asg (.nm 5) (.lst true (.cons (.tup (Eb (Ci 0) (Ci 0))) (.cons (.tup (Eb (Ci 1) (Ci 0))) (.cons (.tup (Eb (Ci 0) (.v 2))) (.cons (.tup (Eb (.pr true .neg (Ea (Ci 1))) (Ci 0))) (.cons (.tup (Eb (.c (.bl false)) (.c (.bl true)))) (.cons (.tup (Eb (Ci 0) (.c (.bl true)))) (.cons (.tup (Ea (Ci 0))) (Ec (.tup (Ec (Ci 0) (Ci 1) (Ci 2))) (.lst true (Eb (Ci 0) (Ci 1))) (.c .non))))))))))) (.cons (.asg (.nm 6) (Ei (.v 5) (.call 16 (Eb (.v 0) (Ci 10))))) (.cons (.par 7 8 (.sl true (.v 3) .no (.yes (.v 4))) (.sl true (.v 3) (.yes (.pr true .add (Eb (.v 4) (Ci 1)))) .no)) (.cons (.iff (.pr true .eq (Eb (.call 16 (Eb (.v 0) (Ci 2))) (Ci 0))) (.cons (.asg (.nm 9) (.lst true (.cons (.pr true .add (Eb (.pr true .add (Eb (.v 7) (.tup (Ea (.v 6))))) (.v 8))) (.cons (.pr true .add (Eb (.pr true .add (Eb (.v 7) (.tup (Ea (.v 6))))) (.sl true (.v 3) (.yes (.v 4)) .no))) (Ec (.pr true .rev (Ea (.v 3))) (.pr true .list (Ea (.v 3))) (.pr true .add (Eb (.v 3) (.sl true (.v 3) .no (.yes (Ci 1)))))))))) (.cons (.asg (.nm 9) (.pr true .add (Eb (.v 9) (.lst true (.cons (.pr true .add (Eb (.v 7) (.v 8))) (Ec (.tup (Ea (.v 3))) (.pr true .add (Eb (.sl true (.v 3) (.yes (.v 4)) .no) (.v 7))) (.pr true .add (Eb (.pr true .add (Eb (.v 7) (.tup (Ea (.tup (Eb (Ci 0) (Ci 1))))))) (.sl true (.v 3) (.yes (.v 4)) .no))))))))) (.cons (.ret (.tup (Eb (.v 2) (Ei (.v 9) (.call 16 (Eb (.v 0) (Ci 9))))))) .nil))) .nil) (.cons (.asg (.nm 5) (.lst true (.cons (.tup (Eb (.pr true .add (Eb (.v 2) (Ci 1))) (.v 3))) (.cons (.tup (Eb (.pr true .ao (Eb (.v 2) (Ci 1))) (.v 3))) (.cons (.tup (Eb (.c (.bl true)) (.v 3))) (Ec (.tup (Eb (Ci 9) (.v 3))) (.tup (Eb (Ci 0) (.tup .nil))) (.tup (Eb (.c .non) (.v 3))))))))) (.cons (.asg (.nm 5) (.pr true .add (Eb (.v 5) (.lst true (.cons (.lst true (Eb (.v 2) (.v 3))) (.cons (.tup (Ec (.v 2) (.v 3) (Ci 0))) (.cons (.tup (Ea (.v 2))) (Ec (.tup (Eb (.pr true .str1 (Ea (.v 2))) (.v 3))) (.tup (Eb (.v 3) (.v 2))) (.v 3))))))))) (.cons (.ret (Ei (.v 5) (.call 16 (Eb (.v 0) (Ci 12))))) .nil)))))))))
def XQ:cg:=(.cons (.ret (.meth true .vA .str (.c (.str " ")) (Ea (.pr true .add (Eb (.lst true (Ea (.pr true .add (Eb (.pr true .str1 (Ea (Ei (.v 0) (Ci 0)))) (.c (.str ":")))))) (.comp true (.pr true .add (Eb (.pr true .add (Eb (.pr true .str1 (Ea (.v 0))) (.c (.str "-")))) (.pr true .str1 (Ea (.v 1))))) [0,1] (.seq (Ei (.v 0) (Ci 1))) [] 2 .no)))))) .nil)
def XR:cg:=(.cons (.asg (.nm 1) (.meth true .qe .str (.v 0) (Ea (.c (.str " "))))) (.cons (.iff (.pr true .nin (Eb (Ei (.v 1) (Ci 0)) (.lst true (.cons (.c (.str "1:")) (.cons (.c (.str "2:")) (.cons (.c (.str "3:")) (.cons (.c (.str "4:")) (.cons (.c (.str "5:")) (Ec (.c (.str "6:")) (.c (.str "7:")) (.c (.str "8:"))))))))))) (.cons (.ret (Ci 0)) .nil) .nil) (.cons (.asg (.nm 2) (.lst false (Ea (.tup (Eb (.pr true .neg (Ea (Ci 1))) (.pr true .neg (Ea (Ci 1)))))))) (.cons (.fr (.nm 3) (.rg (Ci 1) (.pr true .len (Ea (.v 1)))) (.cons (.asg (.nm 4) (Ei (.v 1) (.v 3))) (.cons (.iff (.or (.pr true .ne (Eb (.pr true .sY (Ea (.v 4))) (Ci 3))) (.or (.pr true .oN (Eb (.pr true .qd (Eb (.v 4) (Ci 0))) (.c (.str "01234567")))) (.or (.pr true .ne (Eb (.pr true .qd (Eb (.v 4) (Ci 1))) (.c (.str "-")))) (.pr true .oN (Eb (.pr true .qd (Eb (.v 4) (Ci 2))) (.c (.str "01234567"))))))) (.cons (.ret (.v 3)) .nil) .nil) (.cons (.asg (.nm 5) (.tup (Eb (.pr true .sint (Ea (.pr true .qd (Eb (.v 4) (Ci 0))))) (.pr true .sint (Ea (.pr true .qd (Eb (.v 4) (Ci 2)))))))) (.cons (.iff (.or (.pr true .ge (Eb (Ei (.v 5) (Ci 0)) (Ei (.v 5) (Ci 1)))) (.or (.pr true .ge (Eb (Ei (.v 5) (Ci 1)) (.pr true .sint (Ea (.pr true .qd (Eb (Ei (.v 1) (Ci 0)) (Ci 0))))))) (.pr true .vq (Eb (.v 5) (Ei (.v 2) (.pr true .neg (Ea (Ci 1)))))))) (.cons (.ret (.v 3)) .nil) .nil) (.cons (.ex (.push (.v 2) (.v 5))) .nil)))))) (.cons (.ret (.tup (Eb (.pr true .sint (Ea (.pr true .qd (Eb (Ei (.v 1) (Ci 0)) (Ci 0))))) (.pr true .tuple (Ea (.sl true (.v 2) (.yes (Ci 1)) .no)))))) .nil)))))
def QF:cg:=(.cons (.oO (.cons (.ret (.call 9 (Ea (.v 0)))) .nil) 0 1 (.cons (.iff (.and (.pr true .eq (Eb (.call 19 (Ea (.v 1))) (.c (.str "text")))) (.call 17 (Ea (.fld (.v 1) [9,10] 0)))) (.cons (.ret (.fld (.v 1) [9,10] 0)) .nil) .nil) .nil)) (.cons (.ret (.c .non)) .nil))
def Mx:cg:=(.cons (.asg (.nm 1) (.ite (.eY (.v 0) .str) (.call 26 (Ea (.v 0))) (.pr true .neg (Ea (Ci 1))))) (.cons (.fr (.nm 2) (.rg (Ci 0) (Ci 2)) (.cons (.asg (.nm 3) (.call 27 (Ea (.v 0)))) (.cons (.iff (.eY (.v 1) .tuple) (.cons (.iff (.not (.call 23 (Eb (.v 3) (.v 1)))) (.cons (.ret (.c (.bl false))) .nil) .nil) .nil) (.cons (.iff (.or (.not (.call 17 (Ea (.v 3)))) (.pr true .ne (Eb (.v 3) (.v 1)))) (.cons (.ret (.c (.bl false))) .nil) .nil) .nil)) .nil))) (.cons (.ret (.c (.bl true))) .nil)))
def X3:cg:=(.cons (.asg (.nm 2) (.meth true .qe .str (.v 1) (Ea (.c (.str " "))))) (.cons (.par 3 4 (.call 16 (Eb (.v 0) (.pr true .len (Ea (.v 2))))) (.call 16 (Eb (.v 0) (.pr true .len (Ea (.v 2)))))) (.cons (.asg (.nm 5) (.lst true (.cons (.c (.str "")) (.cons (.c (.str "0-0")) (.cons (.c (.str "1-0")) (.cons (.c (.str "0-1")) (.cons (.c (.str "0-8")) (.cons (.c (.str "01-2")) (.cons (.c (.str "0_1")) (.cons (.c (.str "a-b")) (.cons (.c (.str "9:")) (.cons (.c (.str "0:")) (.cons (.c (.str "1:")) (.cons (.c (.str "8:")) (.cons (.c (.str "8")) (Ec (.c (.str "10:")) (.c (.str "6-7")) (.c (.str "0-1-2")))))))))))))))))) (.cons (.asg (.nm 6) (Ei (.v 5) (.call 16 (Eb (.v 0) (Ci 16))))) (.cons (.GD 7 (.v 2) (Ei (.v 2) (.v 4)) (Ei (.v 2) (.v 3)) (.v 3) (.v 4)) (.cons (.asg (.nm 8) (.lst true (.cons (.pr true .add (Eb (.sl true (.v 2) .no (.yes (.v 3))) (.sl true (.v 2) (.yes (.pr true .add (Eb (.v 3) (Ci 1)))) .no))) (Ec (.pr true .add (Eb (.sl true (.v 2) .no (.yes (.pr true .add (Eb (.v 3) (Ci 1))))) (.sl true (.v 2) (.yes (.v 3)) .no))) (.pr true .add (Eb (.pr true .add (Eb (.sl true (.v 2) .no (.yes (.v 3))) (.lst true (Ea (.v 6))))) (.sl true (.v 2) (.yes (.pr true .add (Eb (.v 3) (Ci 1)))) .no))) (.v 7))))) (.cons (.asg (.nm 8) (.pr true .add (Eb (.v 8) (.lst true (.cons (.pr true .add (Eb (.pr true .add (Eb (.sl true (.v 2) .no (.yes (.v 3))) (.lst true (Ea (.v 6))))) (.sl true (.v 2) (.yes (.v 3)) .no))) (Ec (.pr true .add (Eb (.v 2) (.lst true (Ea (.v 6))))) (.pr true .add (Eb (.v 2) (.lst true (Ea (.c (.str "")))))) (.lst true (Ea (.pr true .add (Eb (.v 1) (.c (.str "x")))))))))))) (.cons (.ret (.meth true .vA .str (.c (.str " ")) (Ea (Ei (.v 8) (.call 16 (Eb (.v 0) (Ci 8))))))) .nil))))))))
def X4:cg:=(.cons (.oO (.cons (.ex (.call 8 (Ea (.v 0)))) .nil) 0 1 (.cons (.ret (.and (.pr true .eq (Eb (.call 19 (Ea (.v 1))) (.c (.str "web")))) (.and (.call 17 (Ea (.fld (.v 1) [9,10] 0))) (.pr true .eq (Eb (.fld (.v 1) [9,10] 0) (.pr true .neg (Ea (Ci 1)))))))) .nil)) (.cons (.ret (.c (.bl false))) .nil))
def X5:cg:=(.cons (.fr (.nm 1) (.seq (.lst true (.cons (.c (.str "")) (.cons (.c (.str " ")) (.cons (.c (.str "1:")) (.cons (.c (.str "1: ")) (.cons (.c (.str "2: 0-1")) (.cons (.c (.str "2:0-1")) (.cons (.c (.str "3: 1-2 0-1")) (.cons (.c (.str "3: 0-1 0-1")) (.cons (.c (.str "9:")) (.cons (.c .non) (Ec (Ci 7) (.lst true (Ea (.c (.str "1:")))) (.tup (Eb (Ci 1) (.tup .nil)))))))))))))))) (.cons (.iff (.not (.call 28 (Ea (.v 1)))) (.cons (.ret (.c (.bl false))) .nil) .nil) .nil)) (.cons (.fr (.nm 2) (.seq (.pr true .add (Eb (.lst true (Ea (.call 14 (Eb (.v 0) (Ci 0))))) (.sl true (.v 0) (.yes (Ci 1)) (.yes (Ci 5)))))) (.cons (.asg (.nm 3) (.call 15 (Ea (.v 2)))) (.cons (.asg (.nm 4) (.call 21 (Eb (.v 3) (.call 20 (Ea (.v 3)))))) (.cons (.asg (.nm 1) (.call 8 (Ea (.v 4)))) (.cons (.iff (.or (.not (.eY (.v 1) .str)) (.pr true .ne (Eb (.v 1) (.call 25 (Ea (.v 4)))))) (.cons (.ret (.c (.bl false))) .nil) .nil) (.cons (.fr (.nm 5) (.seq (.pr true .add (Eb (.lst true (Eb (.v 1) (.call 18 (Ea (.v 3))))) (.comp true (.call 29 (Eb (.v 1) (.v 2))) [0] (.rg (Ci 0) (Ci 5)) [3,1] 1 .no)))) (.cons (.iff (.not (.call 28 (Ea (.v 5)))) (.cons (.ret (.c (.bl false))) .nil) .nil) .nil)) (.cons (.fr (.nm 5) (.seq (.lst true (.cons (.call 24 (Eb (.v 3) (.v 4))) (Ec (.call 18 (Ea (.v 3))) (.c .non) (.v 1))))) (.cons (.iff (.and (.not (.call 22 (Ea (.v 5)))) (.not (.call 30 (Ea (.v 5))))) (.cons (.ret (.c (.bl false))) .nil) .nil) .nil)) .nil))))))) (.cons (.ret (.c (.bl true))) .nil)))
def T(n:Nat):Option Df:=([⟨1,1,b0⟩,⟨3,3,b1⟩,⟨2,2,b2⟩,⟨3,1,b3⟩,⟨1,1,b4⟩,⟨2,2,b5⟩,⟨4,2,b6⟩,⟨1,1,b7⟩,⟨1,1,b8⟩,⟨8,1,b9⟩,⟨1,1,b10⟩,⟨3,2,Xp⟩,⟨6,3,Xq⟩,⟨5,1,Xr⟩,⟨2,2,Xu⟩,⟨2,1,Xw⟩,⟨5,2,Xx⟩,⟨1,1,b17⟩,⟨2,1,Xy⟩,⟨3,1,b19⟩,⟨1,1,Xz⟩,⟨5,2,XD⟩,⟨2,1,XH⟩,⟨2,2,XJ⟩,⟨10,2,XM⟩,⟨1,1,XQ⟩,⟨6,1,XR⟩,⟨2,1,QF⟩,⟨4,1,Mx⟩,⟨9,2,X3⟩,⟨2,1,X4⟩,⟨6,1,X5⟩]:List Df)[n]?
theorem T_0:T 0=some ⟨1,1,b0⟩:=rfl
theorem T_1:T 1=some ⟨3,3,b1⟩:=rfl
theorem T_2:T 2=some ⟨2,2,b2⟩:=rfl
theorem T_3:T 3=some ⟨3,1,b3⟩:=rfl
theorem T_4:T 4=some ⟨1,1,b4⟩:=rfl
theorem T_5:T 5=some ⟨2,2,b5⟩:=rfl
theorem T_6:T 6=some ⟨4,2,b6⟩:=rfl
theorem X6:T 7=some ⟨1,1,b7⟩:=rfl
theorem X7:T 8=some ⟨1,1,b8⟩:=rfl
theorem QG:T 9=some ⟨8,1,b9⟩:=rfl
theorem zpc:T 10=some ⟨1,1,b10⟩:=rfl
theorem zpq:T 11=some ⟨3,2,Xp⟩:=rfl
theorem zph:T 12=some ⟨6,3,Xq⟩:=rfl
theorem zpx:T 13=some ⟨5,1,Xr⟩:=rfl
theorem zpp:T 14=some ⟨2,2,Xu⟩:=rfl
theorem zpw:T 15=some ⟨2,1,Xw⟩:=rfl
theorem zpd:T 16=some ⟨5,2,Xx⟩:=rfl
theorem zpe:T 17=some ⟨1,1,b17⟩:=rfl
theorem zpl:T 18=some ⟨2,1,Xy⟩:=rfl
theorem zpC:T 19=some ⟨3,1,b19⟩:=rfl
theorem zpt:T 20=some ⟨1,1,Xz⟩:=rfl
theorem zpu:T 21=some ⟨5,2,XD⟩:=rfl
theorem zpj:T 22=some ⟨2,1,XH⟩:=rfl
theorem zpf:T 23=some ⟨2,2,XJ⟩:=rfl
theorem zpo:T 24=some ⟨10,2,XM⟩:=rfl
theorem zpv:T 25=some ⟨1,1,XQ⟩:=rfl
theorem zpk:T 26=some ⟨6,1,XR⟩:=rfl
theorem X8:T 27=some ⟨2,1,QF⟩:=rfl
theorem QJ:T 28=some ⟨4,1,Mx⟩:=rfl
theorem zps:T 29=some ⟨9,2,X3⟩:=rfl
theorem zpg:T 30=some ⟨2,1,X4⟩:=rfl
theorem zpm:T 31=some ⟨6,1,X5⟩:=rfl
def ao:Nat->Nat->Bool:=λc e=>(let n:=λc=>if c<12 then c else 0;n e==0||n c==n e)
end fZ
namespace fZ
open PySem PySem.Spec PyProof.Rows L2 Mi
abbrev LK(i:Nat)(x:Str)(k:NameKind):Prop:=(aA (top i)).names.lookup x=some k
noncomputable abbrev gI:NameKind:=.globalImplicit
theorem zpa:ao=j_ 12:=rfl
abbrev N3:List Str:=["thing","many","ties"]
abbrev N8:List Str:=["web"]
abbrev N21:List Str:=["_law_pen_here","_law_many","_law_often","_law_ties","_law_one"]
abbrev N22:List Str:=["_law_thing","_law_tie"]
abbrev N23:List Str:=["_law_found","_law_due"]
abbrev N25:List Str:=["_law_web_here"]
abbrev N31:List Str:=["_law_script","_law_text_here","_law_cell_here","_law_pen_here","_law_web_here","_law_thing"]
def cl(K:W.Frag):Cl:=⟨eE (lk.L K),λc=>(([[],[],[],[],[],[],[],[],[],["at"],["at"],["many","most"]]:List (List Str)).getD c []),λ_=>0,λ_=>[]⟩
theorem tx9:qC "NoWeb.__init__" pR ["at"]:=qC.of (λ_ _ _ _ _ _ us hl=>bind1 (f:=λus=>bindArgs _ ⟨us,[]⟩) (λ_ _=>rfl) us hl) J0 (by intro z;cases z) W9 J0 J0 rfl rfl rfl
theorem X_:qC "NoText.__init__" kh ["at"]:=qC.of (λ_ _ _ _ _ _ us hl=>bind1 (f:=λus=>bindArgs _ ⟨us,[]⟩) (λ_ _=>rfl) us hl) J0 (by intro z;cases z) W9 J0 J0 rfl rfl rfl
structure Top(K:W.Frag)(mg:Str->Option Value):Prop where
 cs:vP K (cl K) ao
 d0:D3 K mg "is_whole" (top 14) ["thing"]
 d1:D3 K mg "is_within" (top 15) ["thing","least","most"]
 d2:D3 K mg "is_row" (top 16) ["thing","many"]
 d3:D3 K mg "is_web" (top 19) ["thing"]
 d4:D3 K mg "is_many" (top 20) ["thing"]
 d5:D3 K mg "is_place" (top 21) ["many","thing"]
 d6:D3 K mg "is_tie" (top 22) ["many","thing"]
 d7:D3 K mg "check_web" (top 23) ["thing"]
 d8:D3 K mg "web_shown" (top 25) ["web"]
 d9:D3 K mg "web_read" (top 26) ["text"]
 Yb:D3 K mg "check_text" (top 27) ["thing"]
 Mz:D3 K mg "number_by" (top 28) ["word","most"]
 Yc:D3 K mg "pair_by" (top 29) ["word","sign","most"]
 Yd:D3 K mg "many_by" (top 30) ["word"]
 Ye:D3 K mg "_law_cell" (top 32) ["_law_script","_law_k"]
 Yg:D3 K mg "_law_pen" (top 33) ["_law_cell_here"]
 qI:D3 K mg "_law_draw" (top 34) ["_law_pen_here","_law_many"]
 wB:D3 K mg "_law_whole" (top 35) ["_law_thing"]
 QK:D3 K mg "_law_odd" (top 36) ["_law_pen_here"]
 QL:D3 K mg "_law_kind" (top 37) ["_law_e"]
 Yh:D3 K mg "_law_size" (top 38) ["_law_pen_here"]
 Yi:D3 K mg "_law_web" (top 39) ["_law_pen_here","_law_many"]
 Yj:D3 K mg "_law_is_web" (top 40) ["_law_thing"]
 Yk:D3 K mg "_law_web_is" (top 41) ["_law_found","_law_due"]
 Yl:D3 K mg "_law_bent_web" (top 42) ["_law_pen_here","_law_web_here"]
 Ym:D3 K mg "_law_text" (top 43) ["_law_web_here"]
 Yn:D3 K mg "_law_read" (top 44) ["_law_text_here"]
 Yo:D3 K mg "_law_told" (top 45) ["_law_text_here"]
 QM:D3 K mg "_law_right" (top 46) ["_law_text_here"]
 Yp:D3 K mg "_law_spoilt" (top 47) ["_law_pen_here","_law_text_here"]
 Yq:D3 K mg "_law_refused" (top 48) ["_law_thing"]
 QS:D3 K mg "law" (top 49) ["_law_script"]
 c0:mg "HueError"=some (.ref ((cl K).a 0))
 c1:mg "NoRing"=some (.ref ((cl K).a 1))
 c2:mg "NoHues"=some (.ref ((cl K).a 2))
 c3:mg "NoPlace"=some (.ref ((cl K).a 3))
 c4:mg "NoArrows"=some (.ref ((cl K).a 4))
 c5:mg "NoMap"=some (.ref ((cl K).a 5))
 c6:mg "NoPaper"=some (.ref ((cl K).a 6))
 c7:mg "Apart"=some (.ref ((cl K).a 7))
 c8:mg "NoRow"=some (.ref ((cl K).a 8))
 c9:mg "NoWeb"=some (.ref ((cl K).a 9))
 MF:mg "NoText"=some (.ref ((cl K).a 10))
 c11:mg "TooGreat"=some (.ref ((cl K).a 11))
 i9:je K ((cl K).a 9) (bA pR) (aN pR) (aA pR) ((cl K).f 9)
 QT:je K ((cl K).a 10) (bA kh) (aN kh) (aA kh) ((cl K).f 10)
 oZ:∀c∈([9,10]:List Nat),XF K ((cl K).a c) "at"/\((cl K).f c).Nodup
 s0:∀c,ao c 0=true->subIn K ((cl K).a c) ((cl K).a 0)=true
 cN:∃t,mg "MOST_PLACES"=some (.int 8 t)
 z12:mg "ValueError"=none
 z6:mg "all"=none
 z2:mg "bool"=none
 z11:mg "divmod"=none
 z7:mg "enumerate"=none
 z1:mg "int"=none
 z0:mg "isinstance"=none
 z4:mg "len"=none
 QV:mg "list"=none
 z10:mg "max"=none
 z9:mg "range"=none
 z15:mg "set"=none
 z14:mg "sorted"=none
 z8:mg "str"=none
 z3:mg "tuple"=none
 z5:mg "zip"=none
def zm2{K:W.Frag}{h:Heap}{mg:Str->Option Value}(S:lA fs ms xs lk K)(X:K.In h)(G:h.Ns mainGlobals mg):Top K mg where
 cs:=by
  rcases S.gd.cs with z|z
  .cases z
  .exact zkO (Nat.zero_lt_succ _) z
 d0:=mC S X G 0
 d1:=zpn S X G 1
 d2:=xq S X G 2
 d3:=mC S X G 3
 d4:=mC S X G 4
 d5:=xq S X G 5
 d6:=xq S X G 6
 d7:=mC S X G 7
 d8:=mC S X G 8
 d9:=mC S X G 9
 Yb:=mC S X G 10
 Mz:=xq S X G 11
 Yc:=zpn S X G 12
 Yd:=mC S X G 13
 Ye:=xq S X G 14
 Yg:=mC S X G 15
 qI:=xq S X G 16
 wB:=mC S X G 17
 QK:=mC S X G 18
 QL:=mC S X G 19
 Yh:=mC S X G 20
 Yi:=xq S X G 21
 Yj:=mC S X G 22
 Yk:=xq S X G 23
 Yl:=xq S X G 24
 Ym:=mC S X G 25
 Yn:=mC S X G 26
 Yo:=mC S X G 27
 QM:=mC S X G 28
 Yp:=xq S X G 29
 Yq:=mC S X G 30
 QS:=mC S X G 31
 c0:=uF (S.gd.cl "HueError" (mG 0)) X G
 c1:=uF (S.gd.cl "NoRing" (mG 1)) X G
 c2:=uF (S.gd.cl "NoHues" (mG 2)) X G
 c3:=uF (S.gd.cl "NoPlace" (mG 3)) X G
 c4:=uF (S.gd.cl "NoArrows" (mG 4)) X G
 c5:=uF (S.gd.cl "NoMap" (mG 5)) X G
 c6:=uF (S.gd.cl "NoPaper" (mG 6)) X G
 c7:=uF (S.gd.cl "Apart" (mG 7)) X G
 c8:=uF (S.gd.cl "NoRow" (mG 8)) X G
 c9:=uF (S.gd.cl "NoWeb" (mG 9)) X G
 MF:=uF (S.gd.cl "NoText" (mG 10)) X G
 c11:=uF (S.gd.cl "TooGreat" (mG 11)) X G
 i9:=zgd (S.mi ⟨9,"NoWeb.__init__",pR,["at"]⟩ (mG 0)) tx9 (S.se ⟨9,"NoWeb.__init__",pR,["at"]⟩ (mG 0))
 QT:=zgd (S.mi ⟨10,"NoText.__init__",kh,["at"]⟩ (mG 1)) X_ (S.se ⟨10,"NoText.__init__",kh,["at"]⟩ (mG 1))
 oZ:=(List.forall_mem_cons.mpr ⟨⟨S.xf (9,"at") (mG 0),(by change (["at"]:List Str).Nodup;decide +kernel)⟩,(List.forall_mem_cons.mpr ⟨⟨S.xf (10,"at") (mG 1),(by change (["at"]:List Str).Nodup;decide +kernel)⟩,(λc hc=>nomatch hc)⟩)⟩)
 s0:=zka (L:=lk.L K) (Nat.zero_lt_succ _) (S.gd.ca 0 (mG 0))
 cN:=zmi (S.gd.it ("MOST_PLACES",8) (mG 0)) X G
 z12:=pI (S.gd.no "ValueError" (mG 0)) X G
 z6:=pI (S.gd.no "all" (mG 1)) X G
 z2:=pI (S.gd.no "bool" (mG 2)) X G
 z11:=pI (S.gd.no "divmod" (mG 3)) X G
 z7:=pI (S.gd.no "enumerate" (mG 4)) X G
 z1:=pI (S.gd.no "int" (mG 5)) X G
 z0:=pI (S.gd.no "isinstance" (mG 6)) X G
 z4:=pI (S.gd.no "len" (mG 7)) X G
 QV:=pI (S.gd.no "list" (mG 8)) X G
 z10:=pI (S.gd.no "max" (mG 9)) X G
 z9:=pI (S.gd.no "range" (mG 10)) X G
 z15:=pI (S.gd.no "set" (mG 11)) X G
 z14:=pI (S.gd.no "sorted" (mG 12)) X G
 z8:=pI (S.gd.no "str" (mG 13)) X G
 z3:=pI (S.gd.no "tuple" (mG 14)) X G
 z5:=pI (S.gd.no "zip" (mG 15)) X G
abbrev FO(P:Program)(w:World)(K:W.Frag)(mg:Str->Option Value)(base:Heap)(k:Nat)(c:Bool)(x:Str)(i:Nat)(ps:List Str)(n:Nat):Prop:=fM P w K mg base (lM P w) c k (jP K x) (fdOf K x (top i)) ps (uE K (cl K) (call ao T k c n))
structure Fs(P:Program)(w:World)(K:W.Frag)(mg:Str->Option Value)(base:Heap)(k:Nat):Prop where
 t0:FO P w K mg base k true "is_whole" 14 ["thing"] 0
 t1:FO P w K mg base k true "is_within" 15 ["thing","least","most"] 1
 t2:FO P w K mg base k true "is_row" 16 ["thing","many"] 2
 t3:FO P w K mg base k true "is_web" 19 ["thing"] 3
 t4:FO P w K mg base k true "is_many" 20 ["thing"] 4
 t5:FO P w K mg base k true "is_place" 21 ["many","thing"] 5
 t6:FO P w K mg base k true "is_tie" 22 ["many","thing"] 6
 t7:FO P w K mg base k true "check_web" 23 ["thing"] 7
 t8:FO P w K mg base k true "web_shown" 25 ["web"] 8
 t9:FO P w K mg base k true "web_read" 26 ["text"] 9
 t10:FO P w K mg base k true "check_text" 27 ["thing"] 10
 t11:FO P w K mg base k true "number_by" 28 ["word","most"] 11
 t12:FO P w K mg base k true "pair_by" 29 ["word","sign","most"] 12
 t13:FO P w K mg base k true "many_by" 30 ["word"] 13
 t14:FO P w K mg base k true "_law_cell" 32 ["_law_script","_law_k"] 14
 t15:FO P w K mg base k true "_law_pen" 33 ["_law_cell_here"] 15
 su:FO P w K mg base k true "_law_draw" 34 ["_law_pen_here","_law_many"] 16
 Fw:FO P w K mg base k true "_law_whole" 35 ["_law_thing"] 17
 Yr:FO P w K mg base k false "_law_whole" 35 ["_law_thing"] 17
 Ys:FO P w K mg base k true "_law_odd" 36 ["_law_pen_here"] 18
 Yt:FO P w K mg base k false "_law_kind" 37 ["_law_e"] 19
 t20:FO P w K mg base k true "_law_size" 38 ["_law_pen_here"] 20
 t21:FO P w K mg base k true "_law_web" 39 ["_law_pen_here","_law_many"] 21
 t22:FO P w K mg base k true "_law_is_web" 40 ["_law_thing"] 22
 t23:FO P w K mg base k true "_law_web_is" 41 ["_law_found","_law_due"] 23
 t24:FO P w K mg base k true "_law_bent_web" 42 ["_law_pen_here","_law_web_here"] 24
 t25:FO P w K mg base k true "_law_text" 43 ["_law_web_here"] 25
 t26:FO P w K mg base k true "_law_read" 44 ["_law_text_here"] 26
 t27:FO P w K mg base k true "_law_told" 45 ["_law_text_here"] 27
 Yu:FO P w K mg base k true "_law_right" 46 ["_law_text_here"] 28
 t29:FO P w K mg base k true "_law_spoilt" 47 ["_law_pen_here","_law_text_here"] 29
 t30:FO P w K mg base k true "_law_refused" 48 ["_law_thing"] 30
 t31:FO P w K mg base k true "law" 49 ["_law_script"] 31
section
variable {P:Program}{w:World}{K:W.Frag}{mg:Str->Option Value}{base:Heap}{k:Nat}
theorem zkV(Tp:Top K mg)(Fk:Fs P w K mg base k):Fs P w K mg base (k+1) where
 t0:=fJ Tp.d0 ["thing"] T_0 λ_ _ _ _ _ _ hr=>(aK (cF (vV (h_ Tp.cs Tp.z0 gk (gv 0) (nu rfl Tp.z1 Vu gk dk)) (Az (Vz (h_ Tp.cs Tp.z0 gk (gv 0) (nu rfl Tp.z2 Vv gk dk))))))
 aV)
 t1:=fJ Tp.d1 ["thing","least","most"] T_1 λ_ _ _ _ _ _ hr=>(aK (cF (vV (gc Fk.t0 Tp.d0 hr cT gk (aq (gv 0) aD)) (Az (zoF KZ KZ (gv 1) (gv 0) (gv 2)))))
 aV)
 t2:=fJ Tp.d2 ["thing","many"] T_2 λ_ _ _ _ _ _ hr=>(aK (cF (vV (h_ Tp.cs Tp.z0 gk (gv 0) (nu rfl Tp.z3 wR gk dk)) (Az (Eh (wV hr) (A_ Tp.z4 gk (aq (gv 0) aD)) (gv 1)))))
 aV)
 t3:=fJ Tp.d3 N3 T_3 λ_ _ _ _ _ _ hr=>(aK (iI (jG (jk (gc Fk.t2 Tp.d2 hr cT gk (aq (gv 0) (aq aJ aD))))) (aK (cF jF)
 aV) aV)
 (aK (Py 1 2 rfl rfl nd rfl rfl jc jl rfl rfl (gv 0))
 (aK (iI (rJ (nY (jG (jk (gc Fk.t4 Tp.d4 hr cT gk (aq (gv 1) aD)))) (wW (jG (jk (h_ Tp.cs Tp.z0 gk (gv 2) (nu rfl Tp.z3 wR gk dk))))))) (aK (cF jF)
 aV) aV)
 (aK (iI (jG (jk (Pu rfl Tp.z6 gk (aq (Ba (aA (top 19)) N3 ["tie"] ["many"] [1] rfl rfl rfl J0 J0 (KR 0) J0 (wX (gv 2)) (λ_ _ _ _ _ _=>(K5 0 J0 rfl J0)) (λ_ _ _ _ _ _=>Ej) (λ_ _ _ _ _ _=>(gc Fk.t6 Tp.d6 hr wY xK (aq (oh 1) (aq (oh 0) aD))))) aD)))) (aK (cF jF)
 aV) aV)
 (aK (cF (Pu rfl Tp.z6 gk (aq (Ba (aA (top 19)) N3 ["tie","later"] [] [] rfl rfl rfl J0 J0 (Pj 0 1) J0 (zod Tp.z5 gk (gv 2) (oW (gv 2) (nZ aJ) pH)) (λ_ _ _ _ _ _=>(VF 0 1 rfl J0 rfl rfl J0 J0)) (λ_ _ _ _ _ _=>Ej) (λ_ _ _ _ _ _=>(Eh (G5 hr) (oh 0) (oh 1)))) aD)))
 aV)))))
 t4:=fJ Tp.d4 ["thing"] T_4 λ_ _ _ _ _ _ hr=>(aK (cF (gc Fk.t1 Tp.d1 hr cT gk (aq (gv 0) (aq aJ (aq (Vx Tp.cN gk dk) aD)))))
 aV)
 t5:=fJ Tp.d5 ["many","thing"] T_5 λ_ _ _ _ _ _ hr=>(aK (cF (gc Fk.t1 Tp.d1 hr cT gk (aq (gv 1) (aq aJ (aq (cD Pn (gv 0) aJ) aD)))))
 aV)
 t6:=fJ Tp.d6 ["many","thing","one","other"] T_6 λ_ _ _ _ _ _ hr=>(aK (iI (jG (jk (gc Fk.t2 Tp.d2 hr cT gk (aq (gv 1) (aq aJ aD))))) (aK (cF jF)
 aV) aV)
 (aK (Py 2 3 rfl rfl nd rfl rfl jl jl rfl rfl (gv 1))
 (aK (cF (vV (gc Fk.t5 Tp.d5 hr cT gk (aq (gv 0) (aq (gv 2) aD))) (vV (gc Fk.t5 Tp.d5 hr cT gk (aq (gv 0) (aq (gv 3) aD))) (Az (Eh (G5 hr) (gv 2) (gv 3))))))
 aV)))
 t7:=fJ Tp.d7 ["thing"] X6 λ_ _ _ _ _ _ hr=>(aK (iI (jG (jk (gc Fk.t3 Tp.d3 hr cT gk (aq (gv 0) aD)))) (aK (PB (kk:=.globalImplicit) hr rfl rfl Tp.i9 Tp.c9 gk cT (aq (wU aJ) aD) dk)
 aV) aV)
 aV)
 t8:=fJ Tp.d8 N8 X7 λ_ _ _ _ _ _ hr=>(aK (K6 (gc Fk.t7 Tp.d7 hr cT gk (aq (gv 0) aD)))
 (aK (cF (Xa bR (aq (cD dN (fQ (aq (zpE (dZ (gv 0) aJ)) aD)) (Ba (aA (top 25)) N8 ["one","other"] [] [] rfl rfl rfl J0 J0 (Pj 0 1) J0 (wX (dZ (gv 0) aJ)) (λ_ _ _ _ _ _=>(VF 0 1 rfl J0 rfl rfl J0 J0)) (λ_ _ _ _ _ _=>Ej) (λ_ _ _ _ _ _=>(zpD (oh 0) (oh 1))))) aD)))
 aV))
 t9:=fJ Tp.d9 ["text","head","rest","many","ties","at","word","tie"] QG λ_ _ _ _ _ _ hr=>(aK (K6 (gc Fk.t10 Tp.Yb hr cT gk (aq (gv 0) aD)))
 (aK (znt 1 2 rfl rfl nd rfl rfl jl jl rfl rfl (W_ (gv 0) (aq bR aD)))
 (aK (fX 3 nd rfl jl rfl (gc Fk.t13 Tp.Yd hr cT gk (aq (gv 1) aD)))
 (aK (iI (zoN (gv 3)) (aK (PB (kk:=.globalImplicit) hr rfl rfl Tp.QT Tp.MF gk cT (aq aJ aD) dk)
 aV) aV)
 (aK (fX 4 nd rfl jl rfl (fQ aD))
 (aK (xg wZ rfl rfl (znR Tp.z7 gk (gv 2)) (zmW 5 6 rfl rfl nd rfl rfl jl jl rfl rfl) (aK (fX 7 nd rfl jl rfl (gc Fk.t12 Tp.Yc hr cT gk (aq (gv 6) (aq bR (aq (cD Pn (Vx Tp.cN gk dk) aJ) aD)))))
 (aK (iI (rJ (nY (jG (jk (gc Fk.t6 Tp.d6 hr cT gk (aq (gv 3) (aq (gv 7) aD))))) (wW (rJ (K3 (jO zpF (gv 5) aJ) (Pq (jO (zmx hr) (gv 7) (dZ (gv 4) (wU aJ))))))))) (aK (PB (kk:=.globalImplicit) hr rfl rfl Tp.QT Tp.MF gk cT (aq (cD dN (gv 5) aJ) aD) dk)
 aV) aV)
 (aK (K6 (zjg (gv 4) (gv 7)))
 aV))))
 (aK (cF (dY (aq (gv 3) (aq (VD Tp.z3 gk (aq (gv 4) aD)) aD))))
 aV)))))))
 t10:=fJ Tp.Yb ["thing"] zpc λ_ _ _ _ _ _ hr=>(aK (iI (jG (jk (h_ Tp.cs Tp.z0 gk (gv 0) (nu rfl Tp.z8 Vw gk dk)))) (aK (PB (kk:=.globalImplicit) hr rfl rfl Tp.QT Tp.MF gk cT (aq (wU aJ) aD) dk)
 aV) aV)
 aV)
 t11:=fJ Tp.Mz ["word","most","number"] zpq λ_ _ _ _ _ _ hr=>(aK (xg wZ rfl rfl (Px Tp.z9 gk (cD dN (gv 1) aJ)) (zy 2 nd rfl jl rfl) (aK (iI (jO (wV hr) (gv 0) (K9 Tp.z8 gk (aq (gv 2) aD))) (aK (cF (gv 2))
 aV) aV)
 aV))
 (aK (cF Ay)
 aV))
 t12:=fJ Tp.Yc ["word","sign","most","one","between","other"] zph λ_ _ _ _ _ _ hr=>(aK (zi5 3 4 5 rfl rfl nd rfl rfl rfl jl jl jl rfl rfl rfl (zi7 (gv 0) (aq (gv 1) aD)))
 (aK (cF (dY (aq (gc Fk.t11 Tp.Mz hr cT gk (aq (gv 3) (aq (gv 2) aD))) (aq (gc Fk.t11 Tp.Mz hr cT gk (aq (gv 5) (aq (gv 2) aD))) aD))))
 aV))
 t13:=fJ Tp.Yd ["word","number","sign","rest","many"] zpx λ_ _ _ _ _ _ hr=>(aK (zi5 1 2 3 rfl rfl nd rfl rfl rfl jl jl jl rfl rfl rfl (zi7 (gv 0) (aq bR aD)))
 (aK (fX 4 nd rfl jl rfl (gc Fk.t11 Tp.Mz hr cT gk (aq (gv 1) (aq (Vx Tp.cN gk dk) aD))))
 (aK (cF (znQ (rJ (K3 (jO (zx hr) (gv 4) aJ) (K3 (jO (wV hr) (gv 2) bR) (Pq (jO (wV hr) (gv 3) bR))))) (gv 4) Ay))
 aV)))
 t14:=fJ Tp.Ye ["_law_script","_law_k"] zpp λ_ _ _ _ _ _ hr=>(aK (iI (jO (G5 hr) (gv 1) (A_ Tp.z4 gk (aq (gv 0) aD))) (aK (cF (dZ (gv 0) (gv 1)))
 aV) aV)
 (aK (cF aJ)
 aV))
 t15:=fJ Tp.Yg ["_law_cell_here","_law_left"] zpw λ_ _ _ _ _ _ hr=>(aK (fX 1 nd rfl jl rfl (zl3 rfl Tp.z10 gk (aq (gv 0) (aq (cD Pn aJ (gv 0)) aD))))
 (aK (cF (fQ (aq (gv 1) (aq (zlS Tp.z1 gk (aq (Eh VB (gv 1) (cD zn8 aJ aJ)) aD)) aD))))
 aV))
 su:=fJ Tp.qI ["_law_pen_here","_law_many","_law_left","_law_found","_law_stir"] zpd λ_ _ _ _ _ _ hr=>(aK (iI (jO (wV hr) (dZ (gv 0) aJ) aJ) (aK (Py 2 3 rfl rfl nd rfl rfl jl jl rfl rfl (ziE Tp.z11 gk (aq (dZ (gv 0) aJ) (aq (gv 1) aD))))
 (aK (znT (gv 0) aJ (gv 2))
 (aK (cF (gv 3))
 aV))) aV)
 (aK (fX 4 nd rfl jl rfl (cD KY (cD Vy (cD dN (cD KY (dZ (gv 0) aJ) aJ) aJ) aJ) aJ))
 (aK (fX 4 nd rfl jl rfl (cD KY (cD dN (cD Vy (gv 4) (gv 4)) aJ) aJ))
 (aK (znT (gv 0) aJ (cD KY (cD dN (cD Vy (gv 4) aJ) aJ) aJ))
 (aK (cF (cD KY (cD zno (dZ (gv 0) aJ) aJ) (gv 1)))
 aV)))))
 Fw:=fJ Tp.wB ["_law_thing"] zpe λ_ _ _ _ _ _ hr=>(aK (cF (vV (h_ Tp.cs Tp.z0 gk (gv 0) (nu rfl Tp.z1 Vu gk dk)) (Az (Vz (h_ Tp.cs Tp.z0 gk (gv 0) (nu rfl Tp.z2 Vv gk dk))))))
 aV)
 Yr:=fJ Tp.wB ["_law_thing"] zpe λ_ _ _ _ _ _ hr=>(aK (cF (vV (h_ Tp.cs Tp.z0 gk (gv 0) (nu rfl Tp.z1 Vu gk dk)) (Az (Vz (h_ Tp.cs Tp.z0 gk (gv 0) (nu rfl Tp.z2 Vv gk dk))))))
 aV)
 Ys:=fJ Tp.QK ["_law_pen_here","_law_some"] zpl λ_ _ _ _ _ _ hr=>(aK (fX 1 nd rfl jl rfl (fQ (aq Ay (aq jF (aq jF (aq (wU aJ) (aq bR (aq bR (aq (dY aD) (aq (fQ aD) (aq (dY (aq aJ aD)) (aq (fQ (aq aJ aD)) (aq zmh (aq (dY (aq aJ (aq aJ aD))) (aq (cD zn8 aJ aJ) (aq (dY (aq aJ (aq (dY aD) aD))) (aq (dY (aq bR aD)) aD)))))))))))))))))
 (aK (cF (dZ (cD dN (gv 1) (fQ (aq (dY (aq aJ (aq (dY (aq (dY (aq aJ (aq aJ aD))) aD)) aD))) aD))) (gc Fk.su Tp.qI hr cT gk (aq (gv 0) (aq aJ aD)))))
 aV))
 Yt:=fJ Tp.QL ["_law_e","_law_marks","_law_words"] zpC λ_ _ _ _ _ _ hr=>(aK (fX 1 nd rfl jl rfl (fQ (aq (h_ Tp.cs Tp.z0 gk (gv 0) (vX Tp.c1 gk dk)) (aq (h_ Tp.cs Tp.z0 gk (gv 0) (vX Tp.c2 gk dk)) (aq (h_ Tp.cs Tp.z0 gk (gv 0) (vX Tp.c3 gk dk)) (aq (h_ Tp.cs Tp.z0 gk (gv 0) (vX Tp.c4 gk dk)) aD))))))
 (aK (fX 1 nd rfl jl rfl (cD dN (gv 1) (fQ (aq (h_ Tp.cs Tp.z0 gk (gv 0) (vX Tp.c5 gk dk)) (aq (h_ Tp.cs Tp.z0 gk (gv 0) (vX Tp.c6 gk dk)) (aq (h_ Tp.cs Tp.z0 gk (gv 0) (vX Tp.c7 gk dk)) (aq (h_ Tp.cs Tp.z0 gk (gv 0) (vX Tp.c8 gk dk)) aD)))))))
 (aK (fX 1 nd rfl jl rfl (cD dN (gv 1) (fQ (aq (h_ Tp.cs Tp.z0 gk (gv 0) (vX Tp.c9 gk dk)) (aq (h_ Tp.cs Tp.z0 gk (gv 0) (vX Tp.MF gk dk)) (aq (h_ Tp.cs Tp.z0 gk (gv 0) (vX Tp.c11 gk dk)) aD))))))
 (aK (iI (rJ (nY (jG (jk (h_ Tp.cs Tp.z0 gk (gv 0) (nu rfl Tp.z12 zcX gk dk)))) (wW (jO (zx hr) (zk5 hr (gv 1) (aq jF aD)) aJ)))) (aK (cF bR)
 aV) aV)
 (aK (fX 2 nd rfl jl rfl (fQ (aq bR (aq bR (aq bR (aq bR (aq bR (aq bR (aq bR (aq bR (aq bR (aq bR (aq bR aD)))))))))))))
 (aK (cF (dZ (gv 2) (zjR (gv 1) (aq jF aD))))
 aV))))))
 t20:=fJ Tp.Yh ["_law_pen_here"] zpt λ_ _ _ _ _ _ hr=>(aK (cF (dZ (fQ (aq aJ (aq aJ (aq aJ (aq aJ (aq aJ (aq aJ (aq aJ (aq aJ (aq aJ (aq aJ (aq aJ (aq aJ aD))))))))))))) (gc Fk.su Tp.qI hr cT gk (aq (gv 0) (aq aJ aD)))))
 aV)
 t21:=fJ Tp.Yi N21 zpu λ_ _ _ _ _ _ hr=>(aK (fX 2 nd rfl jc rfl (dZ (fQ (aq aJ (aq aJ (aq aJ aD)))) (gc Fk.su Tp.qI hr cT gk (aq (gv 0) (aq aJ aD)))))
 (aK (fX 3 nd rfl jl rfl (fQ aD))
 (aK (xg wZ rfl rfl (Px Tp.z9 gk (gv 1)) (zy 4 nd rfl jc rfl) (aK (fX 3 nd rfl jl rfl (cD dN (gv 3) (Ba (aA (top 39)) N21 ["_law_other"] ["_law_one","_law_pen_here","_law_often"] [4,0,2] rfl rfl rfl J0 J0 (KR 0) J0 (zpi Tp.z9 gk (cD dN (gv 4) aJ) (gv 1)) (λ_ _ _ _ _ _=>(K5 0 J0 rfl J0)) (λ_ _ _ _ _ _=>(zor (jO (G5 hr) (gc Fk.su Tp.qI hr wY xK (aq (oh 2) (aq aJ aD))) (oh 3)))) (λ_ _ _ _ _ _=>(dY (aq (oh 1) (aq (oh 0) aD)))))))
 aV))
 (aK (cF (dY (aq (gv 1) (aq (VD Tp.z3 gk (aq (gv 3) aD)) aD))))
 aV))))
 t22:=fJ Tp.Yj N22 zpj λ_ _ _ _ _ _ hr=>(aK (iI (rJ (nY (jG (jk (h_ Tp.cs Tp.z0 gk (gv 0) (nu rfl Tp.z3 wR gk dk)))) (nY (jO (zx hr) (A_ Tp.z4 gk (aq (gv 0) aD)) aJ) (nY (jG (jk (gc Fk.Fw Tp.wB hr cT gk (aq (dZ (gv 0) aJ) aD)))) (wW (jG (zoq KZ KZ aJ (dZ (gv 0) aJ) aJ))))))) (aK (cF jF)
 aV) aV)
 (aK (iI (jG (jk (h_ Tp.cs Tp.z0 gk (dZ (gv 0) aJ) (nu rfl Tp.z3 wR gk dk)))) (aK (cF jF)
 aV) aV)
 (aK (xg wZ rfl rfl (wX (dZ (gv 0) aJ)) (zy 1 nd rfl jl rfl) (aK (iI (rJ (nY (jG (jk (h_ Tp.cs Tp.z0 gk (gv 1) (nu rfl Tp.z3 wR gk dk)))) (nY (jO (zx hr) (A_ Tp.z4 gk (aq (gv 1) aD)) aJ) (wW (jG (jk (Pu rfl Tp.z6 gk (aq (Ba (aA (top 40)) N22 ["_law_place"] [] [] rfl rfl rfl J0 J0 (KR 0) J0 (wX (gv 1)) (λ_ _ _ _ _ _=>(K5 0 J0 rfl J0)) (λ_ _ _ _ _ _=>Ej) (λ_ _ _ _ _ _=>(gc Fk.Fw Tp.wB hr wY xK (aq (oh 0) aD)))) aD)))))))) (aK (cF jF)
 aV) aV)
 (aK (iI (jG (zoM KZ (G5 hr) (G5 hr) aJ (dZ (gv 1) aJ) (dZ (gv 1) aJ) (dZ (gv 0) aJ))) (aK (cF jF)
 aV) aV)
 aV)))
 (aK (cF (Eh (wV hr) (zi9 Tp.QV gk (aq (dZ (gv 0) aJ) aD)) (zpz hr rfl Tp.z14 gk Tp.z15 gk (aq (dZ (gv 0) aJ) aD))))
 aV))))
 t23:=fJ Tp.Yk N23 zpf λ_ _ _ _ _ _ hr=>(aK (iI (rJ (nY (jG (jk (h_ Tp.cs Tp.z0 gk (gv 0) (nu rfl Tp.z3 wR gk dk)))) (nY (jO (zx hr) (gv 0) (gv 1)) (nY (jG (jk (gc Fk.Fw Tp.wB hr cT gk (aq (dZ (gv 0) aJ) aD)))) (wW (jG (jk (h_ Tp.cs Tp.z0 gk (dZ (gv 0) aJ) (nu rfl Tp.z3 wR gk dk))))))))) (aK (cF jF)
 aV) aV)
 (aK (cF (Pu rfl Tp.z6 gk (aq (Ba (aA (top 41)) N23 ["_law_tie"] [] [] rfl rfl rfl J0 J0 (KR 0) J0 (wX (dZ (gv 0) aJ)) (λ_ _ _ _ _ _=>(K5 0 J0 rfl J0)) (λ_ _ _ _ _ _=>Ej) (λ_ _ _ _ _ _=>(vV (h_ Tp.cs Tp.z0 xK (oh 0) (nu rfl Tp.z3 wR xK dk)) (vV (gc Fk.Fw Tp.wB hr wY xK (aq (dZ (oh 0) aJ) aD)) (Az (gc Fk.Fw Tp.wB hr wY xK (aq (dZ (oh 0) aJ) aD))))))) aD)))
 aV))
 t24:=fJ Tp.Yl ["_law_pen_here","_law_web_here","_law_many","_law_ties","_law_at","_law_some","_law_odd_here","_law_ahead","_law_behind","_law_rows"] zpo λ_ _ _ _ _ _ hr=>(aK (Py 2 3 rfl rfl nd rfl rfl jl jl rfl rfl (gv 1))
 (aK (fX 4 nd rfl jl rfl (gc Fk.su Tp.qI hr cT gk (aq (gv 0) (aq (cD dN (A_ Tp.z4 gk (aq (gv 3) aD)) aJ) aD))))
 (aK (fX 5 nd rfl jl rfl (fQ (aq (dY (aq aJ (aq aJ aD))) (aq (dY (aq aJ (aq aJ aD))) (aq (dY (aq aJ (aq (gv 2) aD))) (aq (dY (aq (wU aJ) (aq aJ aD))) (aq (dY (aq jF (aq jF aD))) (aq (dY (aq aJ (aq jF aD))) (aq (dY (aq aJ aD)) (aq (dY (aq aJ (aq aJ (aq aJ aD)))) (aq (fQ (aq aJ (aq aJ aD))) (aq Ay aD))))))))))))
 (aK (fX 6 nd rfl jl rfl (dZ (gv 5) (gc Fk.su Tp.qI hr cT gk (aq (gv 0) (aq aJ aD)))))
 (aK (zmG 7 8 rfl rfl nd rfl rfl W9 jl jl (oW (gv 3) pH (nZ (gv 4))) (oW (gv 3) (nZ (cD dN (gv 4) aJ)) pH) rfl)
 (aK (iI (jO (wV hr) (gc Fk.su Tp.qI hr cT gk (aq (gv 0) (aq aJ aD))) aJ) (aK (fX 9 nd rfl jl rfl (fQ (aq (cD dN (cD dN (gv 7) (dY (aq (gv 6) aD))) (gv 8)) (aq (cD dN (cD dN (gv 7) (dY (aq (gv 6) aD))) (oW (gv 3) (nZ (gv 4)) pH)) (aq (zoT (gv 3)) (aq (zi9 Tp.QV gk (aq (gv 3) aD)) (aq (cD dN (gv 3) (oW (gv 3) pH (nZ aJ))) aD)))))))
 (aK (fX 9 nd rfl jl rfl (cD dN (gv 9) (fQ (aq (cD dN (gv 7) (gv 8)) (aq (dY (aq (gv 3) aD)) (aq (cD dN (oW (gv 3) (nZ (gv 4)) pH) (gv 7)) (aq (cD dN (cD dN (gv 7) (dY (aq (dY (aq aJ (aq aJ aD))) aD))) (oW (gv 3) (nZ (gv 4)) pH)) aD)))))))
 (aK (cF (dY (aq (gv 2) (aq (dZ (gv 9) (gc Fk.su Tp.qI hr cT gk (aq (gv 0) (aq aJ aD)))) aD))))
 aV))) aV)
 (aK (fX 5 nd rfl jl rfl (fQ (aq (dY (aq (cD dN (gv 2) aJ) (aq (gv 3) aD))) (aq (dY (aq (cD Pn (gv 2) aJ) (aq (gv 3) aD))) (aq (dY (aq jF (aq (gv 3) aD))) (aq (dY (aq aJ (aq (gv 3) aD))) (aq (dY (aq aJ (aq (dY aD) aD))) (aq (dY (aq Ay (aq (gv 3) aD))) aD))))))))
 (aK (fX 5 nd rfl jl rfl (cD dN (gv 5) (fQ (aq (fQ (aq (gv 2) (aq (gv 3) aD))) (aq (dY (aq (gv 2) (aq (gv 3) (aq aJ aD)))) (aq (dY (aq (gv 2) aD)) (aq (dY (aq (K9 Tp.z8 gk (aq (gv 2) aD)) (aq (gv 3) aD))) (aq (dY (aq (gv 3) (aq (gv 2) aD))) (aq (gv 3) aD)))))))))
 (aK (cF (dZ (gv 5) (gc Fk.su Tp.qI hr cT gk (aq (gv 0) (aq aJ aD)))))
 aV)))))))))
 t25:=fJ Tp.Ym N25 zpv λ_ _ _ _ _ _ hr=>(aK (cF (Xa bR (aq (cD dN (fQ (aq (cD dN (K9 Tp.z8 gk (aq (dZ (gv 0) aJ) aD)) bR) aD)) (Ba (aA (top 43)) N25 ["_law_one","_law_other"] [] [] rfl rfl rfl J0 J0 (Pj 0 1) J0 (wX (dZ (gv 0) aJ)) (λ_ _ _ _ _ _=>(VF 0 1 rfl J0 rfl rfl J0 J0)) (λ_ _ _ _ _ _=>Ej) (λ_ _ _ _ _ _=>(cD dN (cD dN (K9 Tp.z8 xK (aq (oh 0) aD)) bR) (K9 Tp.z8 xK (aq (oh 1) aD)))))) aD)))
 aV)
 t26:=fJ Tp.Yn ["_law_text_here","_law_words","_law_ties","_law_at","_law_word","_law_tie"] zpk λ_ _ _ _ _ _ hr=>(aK (fX 1 nd rfl jl rfl (W_ (gv 0) (aq bR aD)))
 (aK (iI (jO (zos hr) (dZ (gv 1) aJ) (fQ (aq bR (aq bR (aq bR (aq bR (aq bR (aq bR (aq bR (aq bR aD)))))))))) (aK (cF aJ)
 aV) aV)
 (aK (fX 2 nd rfl jl rfl (fQ (aq (dY (aq (wU aJ) (aq (wU aJ) aD))) aD)))
 (aK (xg wZ rfl rfl (zpi Tp.z9 gk aJ (A_ Tp.z4 gk (aq (gv 1) aD))) (zy 3 nd rfl jl rfl) (aK (fX 4 nd rfl jl rfl (dZ (gv 1) (gv 3)))
 (aK (iI (rJ (nY (jO (zx hr) (zlU Tp.z4 gk (aq (gv 4) aD)) aJ) (nY (jO zjf (Fl (gv 4) aJ) bR) (nY (jO (zx hr) (Fl (gv 4) aJ) bR) (wW (jO zjf (Fl (gv 4) aJ) bR)))))) (aK (cF (gv 3))
 aV) aV)
 (aK (fX 5 nd rfl jl rfl (dY (aq (Qm Tp.z1 gk (aq (Fl (gv 4) aJ) aD)) (aq (Qm Tp.z1 gk (aq (Fl (gv 4) aJ) aD)) aD))))
 (aK (iI (rJ (nY (jO VB (dZ (gv 5) aJ) (dZ (gv 5) aJ)) (nY (jO VB (dZ (gv 5) aJ) (Qm Tp.z1 gk (aq (Fl (dZ (gv 1) aJ) aJ) aD))) (wW (jO (zmx hr) (gv 5) (dZ (gv 2) (wU aJ))))))) (aK (cF (gv 3))
 aV) aV)
 (aK (K6 (zjg (gv 2) (gv 5)))
 aV))))))
 (aK (cF (dY (aq (Qm Tp.z1 gk (aq (Fl (dZ (gv 1) aJ) aJ) aD)) (aq (VD Tp.z3 gk (aq (oW (gv 2) (nZ aJ) pH) aD)) aD))))
 aV)))))
 t27:=fJ Tp.Yo ["_law_text_here","_law_e"] X8 λ_ _ _ _ _ _ hr=>(aK (znk 1 (dc:=0) rfl rfl ⟨rfl,rfl⟩ gk Tp.c0 nd rfl jl Tp.s0 (λ_ _ _ R' hp'=>(aK (cF (gc Fk.t9 Tp.d9 hr R' gk (aq (gv 0) aD)))
 aV)) (λ_=>(aK (iI (rJ (K3 (jO (wV (DW hr)) (gc Fk.Yt Tp.QL (DW hr) wY gk (aq (gv 1) aD)) bR) (Pq (jk (gc Fk.Yr Tp.wB (DW hr) wY gk (aq (PJ Tp.oZ (gv 1) (by kernel_rfl)) aD)))))) (aK (cF (PJ Tp.oZ (gv 1) (by kernel_rfl)))
 aV) aV)
 aV)) dk)
 (aK (cF Ay)
 aV))
 Yu:=fJ Tp.QM ["_law_text_here","_law_due","_law_turn","_law_found"] QJ λ_ _ _ _ _ _ hr=>(aK (fX 1 nd rfl jl rfl (znQ (jk (h_ Tp.cs Tp.z0 gk (gv 0) (nu rfl Tp.z8 Vw gk dk))) (gc Fk.t26 Tp.Yn hr cT gk (aq (gv 0) aD)) (wU aJ)))
 (aK (xg wZ rfl rfl (Px Tp.z9 gk aJ) (zy 2 nd rfl jl rfl) (aK (fX 3 nd rfl jl rfl (gc Fk.t27 Tp.Yo hr cT gk (aq (gv 0) aD)))
 (aK (iI (jk (h_ Tp.cs Tp.z0 gk (gv 1) (nu rfl Tp.z3 wR gk dk))) (aK (iI (jG (jk (gc Fk.t23 Tp.Yk hr cT gk (aq (gv 3) (aq (gv 1) aD))))) (aK (cF jF)
 aV) aV)
 aV) (aK (iI (rJ (nY (jG (jk (gc Fk.Fw Tp.wB hr cT gk (aq (gv 3) aD)))) (wW (jO (zx hr) (gv 3) (gv 1))))) (aK (cF jF)
 aV) aV)
 aV))
 aV)))
 (aK (cF jF)
 aV)))
 t29:=fJ Tp.Yp ["_law_pen_here","_law_text_here","_law_words","_law_at","_law_to","_law_odd_here","_law_word","_law_other","_law_some"] zps λ_ _ _ _ _ _ hr=>(aK (fX 2 nd rfl jl rfl (W_ (gv 1) (aq bR aD)))
 (aK (zmG 3 4 rfl rfl nd rfl rfl W9 jl jl (gc Fk.su Tp.qI hr cT gk (aq (gv 0) (aq (A_ Tp.z4 gk (aq (gv 2) aD)) aD))) (gc Fk.su Tp.qI hr cT gk (aq (gv 0) (aq (A_ Tp.z4 gk (aq (gv 2) aD)) aD))) rfl)
 (aK (fX 5 nd rfl jl rfl (fQ (aq bR (aq bR (aq bR (aq bR (aq bR (aq bR (aq bR (aq bR (aq bR (aq bR (aq bR (aq bR (aq bR (aq bR (aq bR (aq bR aD))))))))))))))))))
 (aK (fX 6 nd rfl jl rfl (dZ (gv 5) (gc Fk.su Tp.qI hr cT gk (aq (gv 0) (aq aJ aD)))))
 (zoU 7 rfl rfl nd rfl jl rfl W9 Tp.QV gk (gv 2) (dZ (gv 2) (gv 4)) (dZ (gv 2) (gv 3)) (gv 3) (gv 4)
 (aK (fX 8 nd rfl jl rfl (fQ (aq (cD dN (oW (gv 2) pH (nZ (gv 3))) (oW (gv 2) (nZ (cD dN (gv 3) aJ)) pH)) (aq (cD dN (oW (gv 2) pH (nZ (cD dN (gv 3) aJ))) (oW (gv 2) (nZ (gv 3)) pH)) (aq (cD dN (cD dN (oW (gv 2) pH (nZ (gv 3))) (fQ (aq (gv 6) aD))) (oW (gv 2) (nZ (cD dN (gv 3) aJ)) pH)) (aq (gv 7) aD))))))
 (aK (fX 8 nd rfl jl rfl (cD dN (gv 8) (fQ (aq (cD dN (cD dN (oW (gv 2) pH (nZ (gv 3))) (fQ (aq (gv 6) aD))) (oW (gv 2) (nZ (gv 3)) pH)) (aq (cD dN (gv 2) (fQ (aq (gv 6) aD))) (aq (cD dN (gv 2) (fQ (aq bR aD))) (aq (fQ (aq (cD dN (gv 1) bR) aD)) aD)))))))
 (aK (cF (Xa bR (aq (dZ (gv 8) (gc Fk.su Tp.qI hr cT gk (aq (gv 0) (aq aJ aD)))) aD)))
 aV))))))))
 t30:=fJ Tp.Yq ["_law_thing","_law_e"] zpg λ_ _ _ _ _ _ hr=>(aK (znk 1 (dc:=0) rfl rfl ⟨rfl,rfl⟩ gk Tp.c0 nd rfl jl Tp.s0 (λ_ _ _ R' hp'=>(aK (K6 (gc Fk.t8 Tp.d8 hr R' gk (aq (gv 0) aD)))
 aV)) (λ_=>(aK (cF (vV (Eh (wV (DW hr)) (gc Fk.Yt Tp.QL (DW hr) wY gk (aq (gv 1) aD)) bR) (vV (gc Fk.Yr Tp.wB (DW hr) wY gk (aq (PJ Tp.oZ (gv 1) (by kernel_rfl)) aD)) (Az (Eh (wV (DW hr)) (PJ Tp.oZ (gv 1) (by kernel_rfl)) (wU aJ))))))
 aV)) dk)
 (aK (cF jF)
 aV))
 t31:=fJ Tp.QS N31 zpm λ_ _ _ _ _ _ hr=>(aK (xg wZ rfl rfl (wX (fQ (aq bR (aq bR (aq bR (aq bR (aq bR (aq bR (aq bR (aq bR (aq bR (aq Ay (aq aJ (aq (fQ (aq bR aD)) (aq (dY (aq aJ (aq (dY aD) aD))) aD))))))))))))))) (zy 1 nd rfl jc rfl) (aK (iI (jG (jk (gc Fk.Yu Tp.QM hr cT gk (aq (gv 1) aD)))) (aK (cF jF)
 aV) aV)
 aV))
 (aK (xg wZ rfl rfl (wX (cD dN (fQ (aq (gc Fk.t14 Tp.Ye hr cT gk (aq (gv 0) (aq aJ aD))) aD)) (oW (gv 0) (nZ aJ) (nZ aJ)))) (zy 2 nd rfl jl rfl) (aK (fX 3 nd rfl jc rfl (gc Fk.t15 Tp.Yg hr cT gk (aq (gv 2) aD)))
 (aK (fX 4 nd rfl jl rfl (gc Fk.t21 Tp.Yi hr cT gk (aq (gv 3) (aq (gc Fk.t20 Tp.Yh hr cT gk (aq (gv 3) aD)) aD))))
 (aK (fX 1 nd rfl jc rfl (gc Fk.t8 Tp.d8 hr cT gk (aq (gv 4) aD)))
 (aK (iI (rJ (nY (jG (jk (h_ Tp.cs Tp.z0 gk (gv 1) (nu rfl Tp.z8 Vw gk dk)))) (wW (jO (zx hr) (gv 1) (gc Fk.t25 Tp.Ym hr cT gk (aq (gv 4) aD)))))) (aK (cF jF)
 aV) aV)
 (aK (xg wZ rfl rfl (wX (cD dN (fQ (aq (gv 1) (aq (gc Fk.Ys Tp.QK hr cT gk (aq (gv 3) aD)) aD))) (Ba (aA (top 49)) N31 ["_law_turn"] ["_law_pen_here","_law_text_here"] [3,1] rfl rfl rfl J0 J0 (KR 0) J0 (Px Tp.z9 gk aJ) (λ_ _ _ _ _ _=>(K5 0 J0 rfl J0)) (λ_ _ _ _ _ _=>Ej) (λ_ _ _ _ _ _=>(gc Fk.t29 Tp.Yp hr wY xK (aq (oh 1) (aq (oh 2) aD))))))) (zy 5 nd rfl jl rfl) (aK (iI (jG (jk (gc Fk.Yu Tp.QM hr cT gk (aq (gv 5) aD)))) (aK (cF jF)
 aV) aV)
 aV))
 (aK (xg wZ rfl rfl (wX (fQ (aq (gc Fk.t24 Tp.Yl hr cT gk (aq (gv 3) (aq (gv 4) aD))) (aq (gc Fk.Ys Tp.QK hr cT gk (aq (gv 3) aD)) (aq Ay (aq (gv 1) aD)))))) (zy 5 nd rfl jl rfl) (aK (iI (rJ (K3 (jG (jk (gc Fk.t22 Tp.Yj hr cT gk (aq (gv 5) aD)))) (Pq (jG (jk (gc Fk.t30 Tp.Yq hr cT gk (aq (gv 5) aD))))))) (aK (cF jF)
 aV) aV)
 aV))
 aV)))))))
 (aK (cF jF)
 aV)))
theorem zjk(Tp:Top K mg):∀k,Fs P w K mg base k
 |0=>⟨gJ,gJ,gJ,gJ,gJ,gJ,gJ,gJ,gJ,gJ,gJ,gJ,gJ,gJ,gJ,gJ,gJ,gJ,gJ,gJ,gJ,gJ,gJ,gJ,gJ,gJ,gJ,gJ,gJ,gJ,gJ,gJ,gJ⟩|k+1=>zkV Tp (zjk Tp k)
end
def all_mk{l:PySem.W.OpenLaw}{w:World}{K:W.Frag}{h:Heap}{mg:Str->Option Value}{fa:Addr}(hm:∀ns:List Int,ns.length<=63->∃s',call ao T 60 true 31 [.d (.fl (ns.map D.int))] []=some (.ok (.d (.bl true)),s'))
  (S:lA fs ms xs lk K) (X:K.In h) (G:h.Ns mainGlobals mg) (Yv:mg "law"=some (.ref fa)) :
  ∃fd:FuncData,(∀(s:Shared) (u:Value),BindsTo s fd ⟨[u],[]⟩ [("_law_script",u)])/\∀base:Heap,K.In base->base.Ns mainGlobals mg->fM l.prog w K mg base (lM l.prog w) true 60 fa fd ["_law_script"] (vU K):=by
 let Tp:Top K mg:=zm2 S X G;let e:=Yv.symm.trans Tp.QS.m;cases e;show⟨_,El Tp.QS.f (λ_ _ _ _ _ _ _=>rfl),λbase _ _=>(zjk Tp 60).t31.imp (zjX hm)⟩
end fZ
namespace fZ
open PySem Mi
def oA(o:SO):Prop:=∃a b:Int,o=.lst [.int a,.int b]/\0<=a/\(b=0\/b=1)
def zmR{k:Nat}{o:SO}{m:Int}(ho:oA o)(hm:0<m)(Ow:m<1073741824):W (call ao T (k+1) true 16 [.l 0,.d (.int m)]) [o] λv s=>∃d o',v=.d d/\s=[o']/\(∃r:Int,d=.int r/\0<=r/\r<m)/\oA o':=by
 let⟨a,b,rfl,ha,hb⟩:=ho;show W.call zpd rfl ?_;unfold Xx;rcases hb with rfl|rfl
 .refine Y ?_;show⟨_,_,rfl,rfl,⟨_,rfl,Int.emod_nonneg _ gV,Int.emod_lt_of_pos _ hm⟩,⟨_,_,rfl,Int.emod_nonneg _ W9,.inl rfl⟩⟩
 .refine Y ?_;show⟨_,_,rfl,rfl,⟨_,rfl,Int.emod_nonneg _ gV,Int.emod_lt_of_pos _ hm⟩,⟨_,_,rfl,Int.ediv_nonneg ha gV,.inr rfl⟩⟩
def zok{k:Nat}{n:Int}:W (call ao T (k+1) true 15 [.d (.int n)]) [] λv s=>∃i o,v=.l i/\s[i]?=some o/\oA o:=by
 show W.call zpw rfl ?_;unfold Xw;ext;show⟨0,_,rfl,rfl,⟨_,_,rfl,?_,?_⟩⟩
 .split<;>lia
 .let:∀c:Bool,(if c=true then (1:Int) else 0)=0\/(if c=true then (1:Int) else 0)=1:=by intro c;cases c<;>simp
  show this _
def tZ{k:Nat}{o:SO}{m:Int}{P:Xv->S->Prop}(ho:oA o)(hm:0<m)(Ow:m<1073741824)(h:∀(r:Nat) o',(r:Int)<m->oA o'->P (.d (.int r)) [o']):W (cP (call ao T (k+1) true 16) [.l 0,.d (.int m)]) [o] P:=by
 show Kak (n:=0) (o:=o) rfl rfl ((zmR ho hm Ow).imp λv s=>?_);rintro⟨d,o',rfl,rfl,⟨r,rfl,h0,h1⟩,hp⟩;let⟨n,rfl⟩:=M7 h0;show⟨_,_,rfl,rfl,h n o' h1 hp⟩
def zlv{k:Nat}{ns:List Int}:W (call ao T (k+1) true 14 [.d (.fl (ns.map D.int)),.d (.int 0)]) [] λv _=>∃n,v=.d (.int n):=by
 show W.call zpp rfl ?_;unfold Xu;cases ns with
 |nil=>
  ext;show⟨_,rfl⟩
 |cons n r=>
  ext;show WS.ite (λ_=>?_) (λ_=>?_)
  .refine Y ?_;show cJ (Bg (i:=0) (x:=.int n) rfl) ?_;ext;show⟨_,rfl⟩
  .refine Y ?_;show⟨_,rfl⟩
def znl{k:Nat}{o:SO}(ho:oA o):W (call ao T (k+2) true 20 [.l 0]) [o] λv s=>∃(n:Nat) (o':SO),v=.d (.int n)/\s=[o']/\(1<=n/\n<=8)/\oA o':=by
 show W.call zpt rfl ?_;unfold Xz;ext;show tZ ho W9 W9 λr o' hr hp=>?_;ext;let pG:r<12:=by lia
 show cJ (Bg (x:=.int (([1,2,3,4,5,6,4,5,3,6,7,8]:List Nat)[r]'pG:Nat)) ?_) ?_
 .revert pG;revert r;intro r _ pG;show match r,pG with
  |0,_=>rfl|1,_=>rfl|2,_=>rfl|3,_=>rfl|4,_=>rfl|5,_=>rfl|6,_=>rfl|7,_=>rfl|8,_=>rfl|9,_=>rfl|10,_=>rfl|11,_=>rfl|n+12,h=>absurd h gV
 .refine Y ?_;show⟨_,_,rfl,rfl,?_,hp⟩;let key:∀n∈([1,2,3,4,5,6,4,5,3,6,7,8]:List Nat),1<=n/\n<=8:=by decide
  show key _ (sy _)
theorem zks{k:Nat}{i:Int}:W (call ao T (k+1) true 0 [.d (.int i)]) [] λv s=>v=.d (.bl true):=W.eq (a:=.d (.bl true)) (s':=[]) rfl rfl
def zhR{k:Nat}{i a b:Int}:W (call ao T (k+2) true 1 [.d (.int i),.d (.int a),.d (.int b)]) [] λv s=>v=.d (.bl (decide (a<=i/\i<=b))):=by
 show W.call T_1 rfl ?_;unfold b1;ext;show W.c0 zks ?_;ext;show W.ite (λh1=>?_) (λh1=>?_)
 .refine Y ?_;let:=ju h1;simp[this]
 .refine Y ?_;simp at h1;let:¬(a<=i/\i<=b):=by lia
  simp[this]
def zgQ{k:Nat}{d:D}(h:pJ d=true):W (call ao T (k+1) true 17 [.d d]) [] λv s=>v=.d (.bl (whB d)):=by
 cases d with
 |exc _ _=>cases h|ob _ _=>cases h|any=>cases h|_=>show W.eq (a:=_) (s':=[]) rfl rfl
def znW{k:Nat}{d:D}{n:Int}(h:pJ d=true):W (call ao T (k+1) true 2 [.d d,.d (.int n)]) [] λv s=>v=.d (.bl (zL n d)):=by
 cases d with
 |exc _ _=>cases h|ob _ _=>cases h|any=>cases h|tup xs=>
  show W.call T_2 rfl ?_;unfold b2;ext;change Xv.d (D.bl (id (((xs.length:Nat):Int)==n)))=_
  congr 2
 |_=>show W.eq (a:=_) (s':=[]) rfl rfl
def ze2{k:Nat}{d:D}{a b:Int}(h:pJ d=true):W (call ao T (k+2) true 1 [.d d,.d (.int a),.d (.int b)]) [] λv s=>v=.d (.bl (zM a b d)):=by
 cases d with
 |exc _ _=>cases h|ob _ _=>cases h|any=>cases h|int i=>show zhR|_=>show W.eq (a:=_) (s':=[]) rfl rfl
def zhn{k:Nat}{d:D}{n:Int}(h:pJ d=true):W (call ao T (k+3) true 5 [.d (.int n),.d d]) [] λv s=>v=.d (.bl (zM 0 (n-1) d)):=by
 show W.call T_5 rfl ?_;unfold b5;ext;show W.fH rfl ((ze2 h).imp λv s e=>⟨_,e,rfl⟩)
def zmp{k:Nat}{d:D}(h:pJ d=true):W (call ao T (k+3) true 4 [.d d]) [] λv s=>v=.d (.bl (zM 1 8 d)):=by
 show W.call T_4 rfl ?_;unfold b4;ext;show W.fH rfl ((ze2 h).imp λv s e=>⟨_,e,rfl⟩)
def zmZ{k:Nat}{d:D}{n:Int}(h:n_ d=true):W (call ao T (k+4) true 6 [.d (.int n),.d d]) [] λv s=>v=.d (.bl (dz n d)):=by
 show W.call T_6 rfl ?_;unfold b6;ext;show W.c0 (znW (zi8 h)) ?_;cases d with
 |tup xs=>
  by_cases h2:xs.length=2
  .obtain⟨x,y,rfl⟩:=Qo h2;let hx:pJ x=true:=by simp only[n_,oG,b_]at h;show h.1
   let hy:pJ y=true:=by simp only[n_,oG,b_]at h;show h.2.1
   rw[show zL 2 (.tup [x,y])=true from rfl];ext;show W.c0 (zhn hx) ?_;cases x with
   |int a=>
    by_cases ha:0<=a/\a<=n-1
    .rw[show zM 0 (n-1) (.int a)=true from cH ha];ext;show W.c0 (zhn hy) ?_;cases y with
     |int b=>
      by_cases hb:0<=b/\b<=n-1
      .rw[show zM 0 (n-1) (.int b)=true from cH hb];ext;change Xv.d (.bl (decide (a<b)))=.d (.bl (decide (0<=a/\a<b/\b<n)));rw[zT.mpr (show a<b↔0<=a/\a<b/\b<n by omega)]
      .rw[show zM 0 (n-1) (.int b)=false from eO hb];ext;change Xv.d (.bl false)=.d (.bl (decide (0<=a/\a<b/\b<n)));rw[eO gV]
     |exc _ _=>cases hy|ob _ _=>cases hy|any=>cases hy|_=>show Y rfl
    .rw[show zM 0 (n-1) (.int a)=false from eO ha];ext;change Xv.d (.bl false)=.d (.bl (dz n (.tup [.int a,y])));cases y with
     |int b=>
      change Xv.d (.bl false)=.d (.bl (decide (0<=a/\a<b/\b<n)));rw[eO gV]
     |_=>rfl
   |_=>show Y rfl
  .rw[zgO h2,zfv h2];show Y trivial
 |_=>show Y rfl
def zgW{k:Nat}{d:D}(h:Fq d=true)(hl:Xc d):W (call ao T (k+5) true 3 [.d d]) [] λv s=>v=.d (.bl (rZ d)):=by
 let hs:(200:Nat)<=sizeLine:=by decide
 show W.call T_3 rfl ?_;unfold b3;ext;show W.c0 (znW (show pJ d=true by cases d<;>first|rfl|cases h)) ?_;cases d with
 |tup xs=>
  by_cases h2:xs.length=2
  .obtain⟨x,y,rfl⟩:=Qo h2;let hx:Fp x=true:=by simp only[Fq,oG,b_]at h;show h.1
   let hy:Fp y=true:=by simp only[Fq,oG,b_]at h;show h.2.1
   rw[show zL 2 (.tup [x,y])=true from rfl];ext;show W.c0 (zmp (zne hx)) ?_;cases x with
   |int n=>
    by_cases hn:1<=n/\n<=8
    .rw[show zM 1 8 (.int n)=true from cH hn];cases y with
     |tup ys=>
      let hyl:=hl _ _ rfl;let hy:∀t∈ys,n_ t=true:=fB.mp hy;ext;show G8 (l:=ys) (f:=λx=>x) (λt=>some (.bl (dz n t))) gV ?_ (λt ht=>?_) ?_
      .refine Y ?_;rw[List.map_id'];show⟨rfl,rfl⟩
      .refine Y ?_;show⟨rfl,λ_=>?_,λhb=>by cases hb⟩;ext;show W.fH rfl ((zmZ (hy t ht)).imp λv s e=>⟨_,e,rfl,_,rfl,rfl⟩)
      rw[Wc];ext;show cJ zji ?_;change _;let ew:rZ (.tup [.int n,.tup ys])=(decide (1<=n/\n<=8)&&ys.all (dz n)&&jo (gK ys)):=rfl;rw[ew,cH hn];cases ha:ys.all (dz n)
      .exact Y rfl
      .obtain⟨e,ht⟩:=Xb ha;generalize gK ys=ps at e ht;subst e;rw[bY]at hyl;ext;show G8 (l:=ps.zip (ps.drop 1)) (f:=λe=>.tup [bV e.1,bV e.2]) (λe=>some (.bl (jK e.1 e.2))) (by rw[List.length_zip];omega) ?_ (λt ht=>?_) ?_
       .refine Y ?_;rw[V9,<-List.map_drop,zmk];show⟨rfl,rfl⟩
       .refine Y ?_;show⟨rfl,λ_=>?_,λhb=>by cases hb⟩;ext;rw[<-zjS];show⟨rfl,_,rfl,rfl⟩
       rw[Wc];ext;show cJ zji ?_;rfl
     |exc _ _=>cases hy|ob _ _=>cases hy|any=>cases hy|_=>show Y rfl
    .rw[show zM 1 8 (.int n)=false from eO hn];ext;change Xv.d (.bl false)=.d (.bl (rZ (.tup [.int n,y])));cases y with
     |tup ys=>
      change Xv.d (.bl false)=.d (.bl (decide (1<=n/\n<=8)&&ys.all (dz n)&&jo (gK ys)));rw[eO hn];rfl
     |_=>rfl
   |_=>show Y rfl
  .rw[zgO h2,zgy h2];show Y trivial
 |_=>show Y rfl
def zi0{k:Nat}{o:SO}{n:Int}(ho:oA o)(h1:1<=n)(h8:n<=8):W (call ao T (k+2) true 21 [.l 0,.d (.int n)]) [o] λv s=>∃ps o',v=.d (cQ n ps)/\s=[o']/\Web n ps/\oA o':=by
 show W.call zpu rfl ?_;unfold XD;let hs:(100:Nat)<=sizeLine:=by decide
 ext;show tZ ho W9 W9 λr o' hr hp=>?_;ext;let pG:r<3:=by lia
 show cJ (Bg (x:=.int (([2,4,6]:List Int)[r]'pG)) ?_) ?_
 .revert pG;revert r;intro r _ pG;show match r,pG with
  |0,_=>rfl|1,_=>rfl|2,_=>rfl|n+3,h=>absurd h gV
 generalize ([2,4,6]:List Int)[r]=often;ext;show⟨by rw[P0 gV gV,P0 gV gV];rfl,?_⟩;show Bf (λ(i:Nat) J s=>∃(ps:List (Int×Int)) (a:Option Xv) (o':SO),J=[some (.l 0),some (.d (.int n)),some (.d (.int often)),some (.d (.fl (ps.map bV))),a]/\s=[o']/\oA o'/\(∀p∈ps,0<=p.1/\p.1<(i:Int)/\p.1<p.2/\p.2<n)/\ps.Pairwise lx/\ps.length<=7*i)
  ⟨[],_,_,rfl,rfl,hp,by simp,by simp,by simp⟩ (λi x J s e hI=>?_) (λJ s hI=>?_)
 .obtain⟨ps,a,o',rfl,rfl,hp,ht,Fx,hlen⟩:=hI;let⟨rfl,hi⟩:=Lg e;let hi8:i<8:=by lia
  ext;show Kam (c:=gU (0+(i:Int)+1) n) (λ(j:Nat) acc s=>∃(es:List Int) (o':SO),acc=es.map (λe=>bV (0+(i:Int),e))/\es.Pairwise (·<·)/\(∀e∈es,(i:Int)<e/\e<(i:Int)+1+j)/\s=[o']/\oA o') ?_ (λj x acc s e hJ=>?_) (λacc s hJ=>?_)
  .refine Y ?_;show⟨by rw[P0 gV gV,P0 gV gV];rfl,?_⟩;show⟨rfl,[],_,rfl,by simp,by simp,rfl,hp⟩
  .obtain⟨es,o',rfl,xJ,Bs,rfl,hp⟩:=hJ;let⟨rfl,hj⟩:=Lg e;let hel:(es.length:Int)<=(i:Int)+1+j-((i:Int)+1):=V_ xJ (λe he=>by let:=Bs e he;lia) gV;ext;show tZ hp W9 W9 λr o' hr hp=>?_;ext;show⟨λhb=>?_,λhb=>?_⟩
   .refine Y ?_;show⟨_,rfl,by rw[bY];lia,es++[0+(i:Int)+1+j],o',?_,?_,?_,rfl,hp⟩
    .rw[lG];rfl
    .rw[BJ];show⟨xJ,by simp,λa ha b hb=>?_⟩;simp at hb;let:=Bs a ha;omega
    .intro e he;rcases gA.mp he with he|he
     .let:=Bs e he;lia
     .simp at he;lia
   .exact⟨es,o',rfl,xJ,λe he=>by let:=Bs e he;lia,rfl,hp⟩
  .obtain⟨es,o',rfl,xJ,Bs,rfl,hp⟩:=hJ;rw[Lh]at Bs;let hel:(es.length:Int)<=n-((i:Int)+1):=V_ xJ (λe he=>by let:=Bs e he;lia) gV;ext;show n8 (tW ?_) ?_
   .rw[bY,bY];lia
   ext;show⟨_,rfl,ps++es.map (λe=>(0+(i:Int),e)),some (.d (.int (0+(i:Int)))),o',?_,rfl,hp,?_,?_,?_⟩
   .rw[lG,nM];rfl
   .intro p hp;rcases gA.mp hp with hp|hp
    .let:=ht p hp;lia
    .obtain⟨e,he,rfl⟩:=gM.mp hp;let:=Bs e he;dsimp only
     lia
   .rw[BJ,wG];show⟨Fx,xJ.imp λh=>.inr ⟨rfl,h⟩,λp hp q hq=>?_⟩;let⟨e,he,rfl⟩:=gM.mp hq;let:=ht p hp;show .inl (by dsimp only;lia)
   .rw[gP,bY];lia
 .obtain⟨ps,a,o',rfl,rfl,hp,ht,Fx,hlen⟩:=hI;rw[Lh]at ht hlen;ext;show⟨ps,o',rfl,rfl,⟨h1,h8,λp hp=>?_,Fx,by lia⟩,hp⟩;let:=ht p hp;omega
theorem MJ{k:Nat}{c:Bool}{i:Int}:W (call ao T (k+1) c 17 [.d (.int i)]) [] λv s=>v=.d (.bl true):=W.eq (a:=.d (.bl true)) (s':=[]) rfl rfl
def zjt{k:Nat}{n:Int}{ps:List (Int×Int)}(hl:ps.length<64):W (call ao T (k+2) true 23 [.d (cQ n ps),.d (cQ n ps)]) [] λv s=>v=.d (.bl true):=by
 show W.call zpf rfl ?_;unfold XJ;let hs:(100:Nat)<=sizeLine:=by decide
 show WS.cons (K_ ?_);show VR ?_;show V0 (W.eY (W.eV rfl (lB (rK.mk (a:=true) rfl ?_))));show W.bool (W.bool (W.Et ?_));show VR (VP (V1 (W.eV rfl (V1 (W.eV rfl (Kag ?_))))));show tV (lB (tV (lB (Ep ?_))));show cJ (d:=.bl false) ?_ ?_
 .show Option.map _ (cM 50 (cQ n ps) (cQ n ps))=_;rw[zkg];rfl
 unfold cQ;ext;show W.c0 MJ ?_;ext;show G8 (l:=ps) (f:=bV) (λp=>some (.bl true)) gV ?_ (λp hp=>?_) ?_
 .refine Y ?_;show⟨rfl,rfl⟩
 .refine Y ?_;show⟨rfl,λ_=>?_,λhb=>by cases hb⟩;ext;show W.c0 MJ ?_;ext;show W.c0 MJ ?_;show⟨rfl,_,rfl,rfl⟩
 .refine Y ?_;show cJ (zlB ?_) ?_
  .intro x hx;let⟨_,_,e⟩:=Ni.mp hx;show(dD e).symm
  show Y trivial
def o_:List D:=[.non,.bl true,.bl false,.int (-1),.str "1",.str "",.tup [],.fl [],.tup [.int 0],.fl [.int 0],.fd [.str "a"] [.int 1],.tup [.int 0,.int 1],.int 1000000000000000000000000000000,.tup [.int 0,.tup []],.tup [.str "ab"],.tup [.int 1,.tup [.tup [.int 0,.int 0]]]]
def zn4{k:Nat}{o:SO}(ho:oA o):W (call ao T (k+2) true 18 [.l 0]) [o] λv s=>∃d o',v=.d d/\s=[o']/\d∈o_/\oA o':=by
 show W.call zpl rfl ?_;unfold Xy;ext;show tZ ho W9 W9 λr o' hr hp=>?_;ext;let pG:r<o_.length:=by change r<16;lia
 show cJ (Bg (x:=o_[r]) (fV (l:=o_) pG)) ?_;ext;show⟨_,_,rfl,rfl,sy _,hp⟩
def ziO{k:Nat}{d:D}(h:Fq d=true)(hl:Xc d):W (call ao T (k+2) true 22 [.d d]) [] λv s=>v=.d (.bl (rZ d)):=by
 let hs:(200:Nat)<=sizeLine:=by decide
 show W.call zpj rfl ?_;unfold XH;cases d with
 |tup xs=>
  by_cases h2:xs.length=2
  .obtain⟨x,y,rfl⟩:=Qo h2;let hx:Fp x=true:=by simp only[Fq,oG,b_]at h;show h.1
   let hy:Fp y=true:=by simp only[Fq,oG,b_]at h;show h.2.1
   ext;show W.c0 (zgQ (zne hx)) ?_;cases x with
   |int n=>
    ext;by_cases hn:1<=n/\n<=8
    .rw[cH hn.1];ext;rw[cH hn.2];cases y with
     |tup ys=>
      let hyl:=hl _ _ rfl;let hy:∀t∈ys,n_ t=true:=fB.mp hy;let ew:rZ (.tup [.int n,.tup ys])=(decide (1<=n/\n<=8)&&ys.all (dz n)&&jo (gK ys)):=rfl;rw[cH hn]at ew;let fl:∀t∈ys,dz n t=false->rZ (.tup [.int n,.tup ys])=false:=λt ht e=>by
       rw[ew];let:ys.all (dz n)=false:=by
        cases ha:ys.all (dz n)
        .rfl
        .let:=fB.mp ha t ht;rw[e]at this;cases this
       rw[this];rfl
      ext;show Wf (λi J s=>s=[]/\(∃a,J=[some (.d (.tup [.int n,.tup ys])),a])/\∀t∈ys.take i,dz n t=true) ⟨rfl,⟨_,rfl⟩,by simp⟩ (λi t J s ht hI=>?_) (λJ s hI=>?_)
      .obtain⟨rfl,⟨a,rfl⟩,hI⟩:=hI;let htm:=jL ht;let hti:=hy t htm;let hfl:=fl t htm;let nxt:dz n t=true->∀u∈ys.take (i+1),dz n u=true:=λe u hu=>by
        rw[List.take_succ,ht]at hu;rcases gA.mp hu with hu|hu
        .exact hI u hu
        .rw[show u=t by simpa using hu];show e
       cases t with
       |tup us=>
        by_cases h2:us.length=2
        .obtain⟨p,q,rfl⟩:=Qo h2;let hp:pJ p=true:=by simp only[n_,oG,b_]at hti;show hti.1
         let hq:pJ q=true:=by simp only[n_,oG,b_]at hti;show hti.2.1
         ext;show G8 (l:=[p,q]) (f:=λx=>x) (λt=>some (.bl (whB t))) (by change 2<=_;lia) ?_ (λt ht=>?_) ?_
         .refine Y ?_;show⟨rfl,rfl⟩
         .refine Y ?_;show⟨rfl,λ_=>?_,λhb=>by cases hb⟩;ext;show W.fH rfl ((zgQ (d:=t) ?_).imp λv s e=>⟨_,e,rfl,_,rfl,rfl⟩);simp only[cX,mK,lR]at ht;rcases ht with rfl|rfl
          .exact hp
          .exact hq
         rw[Wc];ext;cases p with
         |int a=>
          cases q with
          |int b=>
           ext;show W.Dq ?_;ext;let tb:dz n (.tup [.int a,.int b])=decide (0<=a/\a<b/\b<n):=rfl;by_cases h1:0<=a
           .rw[cH h1];ext;by_cases h3:a<b
            .rw[cH h3];ext;by_cases h4:b<n
             .rw[cH h4];ext;show .inl ⟨_,rfl,rfl,⟨_,rfl⟩,nxt (by rw[tb];show cH ⟨h1,h3,h4⟩)⟩
             .rw[eO h4];ext;show .inr ⟨_,rfl,by rw[hfl (by rw[tb];show eO Bd)]⟩
            .rw[eO h3];ext;show .inr ⟨_,rfl,by rw[hfl (by rw[tb];show eO Bd)]⟩
           .rw[eO h1];ext;show .inr ⟨_,rfl,by rw[hfl (by rw[tb];show eO Bd)]⟩
          |_=>
           ext;show .inr ⟨_,rfl,by rw[hfl rfl]⟩
         |_=>
          ext;show .inr ⟨_,rfl,by rw[hfl rfl]⟩
        .refine Y ?_;show W.ite (λ_=>?_) (λhb=>?_)
         .refine Y ?_;show .inr ⟨_,rfl,by rw[hfl (zfv h2)]⟩
         .exact absurd hb (by simp;lia)
       |exc _ _=>cases hti|ob _ _=>cases hti|any=>cases hti|_=>
        ext;show .inr ⟨_,rfl,by rw[hfl rfl]⟩
      .obtain⟨rfl,⟨a,rfl⟩,hI⟩:=hI;rw[Nu]at hI;let ha:ys.all (dz n)=true:=fB.mpr hI;rw[ha]at ew;let⟨e,ht⟩:=Xb ha;generalize gK ys=ps at e ht ew;subst e;let t8:∀p∈ps,Ts.gY p:=λp hp=>by let:=ht p hp;show⟨this.1,this.2.1,by lia⟩
       ext;show n8 (zpy t8) ?_;ext;show cJ (d:=.bl (decide (ps=ss ps))) ?_ ?_
       .show Option.map _ (eF (cM 49) (ps.map bV) ((ss ps).map bV))=_;rw[zfm];rfl
       ext;rw[ew,<-zmJ t8];rfl
     |exc _ _=>cases hy|ob _ _=>cases hy|any=>cases hy|_=>show Y rfl
    .let ew:rZ (.tup [.int n,y])=false:=by
      cases y with
      |tup ys=>
       change (decide (1<=n/\n<=8)&&ys.all (dz n)&&jo (gK ys))=false;rw[eO hn];rfl
      |_=>rfl
     rw[ew];by_cases h1:1<=n
     .rw[cH h1];ext;rw[eO (show ¬n<=8 by lia)];show Y trivial
     .rw[eO h1];show Y trivial
   |_=>show Y rfl
  .rw[zgy h2];ext;show W.ite (λ_=>?_) (λhb=>?_)
   .exact Y trivial
   .exact absurd hb (by simp;lia)
 |exc _ _=>cases h|ob _ _=>cases h|any=>cases h|_=>show Y rfl
def zgb{k':Nat}{o:SO}{n:Int}{ps:List (Int×Int)}(ho:oA o)(h:Web n ps):W (call ao T (k'+2) true 24 [.l 0,.d (cQ n ps)]) [o] λv s=>∃(d:D) (o':SO),v=.d d/\s=[o']/\xM d/\oA o':=by
 show W.call zpo rfl ?_;unfold XM cQ;let Hg:(1000:Nat)<=sizeLine:=by decide
 let h1:=h.h1;let h8:=h.h8;let hlen:=h.len;let hml:(ps.map bV).length=ps.length:=bY ..;let hok:=zgf (ps:=ps);let hrw:∀z∈ps.map bV,oX z:=λz hz=>by
  let⟨p,_,rfl⟩:=gM.mp hz;show uH (λx hx=>by
   simp only[cX,mK,lR]at hx;rcases hx with rfl|rfl<;>rfl) Zaa
 generalize ps.map bV=R at hml hok hrw;ext;show tZ ho gV gV λr o1 hr hp=>?_;ext;show tZ hp W9 W9 λr2 o2 hr2 hp=>?_;ext;let⟨x,ex,hx⟩:=Qp (xs:=[.tup [.int 0,.int 0],.tup [.int 1,.int 0],.tup [.int 0,.int n],.tup [.int (-1),.int 0],.tup [.bl false,.bl true],.tup [.int 0,.bl true],.tup [.int 0],.tup [.int 0,.int 1,.int 2],.fl [.int 0,.int 1],.non]) (r:=r2) (by change r2<10;lia);let hxo:n_ x=true:=by
  simp only[cX,mK,lR]at hx;rcases hx with rfl|rfl|rfl|rfl|rfl|rfl|rfl|rfl|rfl|rfl
  all_goals rfl
 show cJ ex ?_;clear ex hx;let l1:=Qc (xs:=R) (lo:=none) (hi:=some (r:Int));let l2:=Qc (xs:=R) (lo:=some ((r:Int)+1)) (hi:=none);let l3:=Qc (xs:=R) (lo:=some (r:Int)) (hi:=none);let l4:=Qc (xs:=R) (lo:=none) (hi:=some 1);let m1:∀y∈cut R none (some (r:Int)),n_ y=true:=λy hy=>hok y (Qa hy);let m2:∀y∈cut R (some ((r:Int)+1)) none,n_ y=true:=λy hy=>hok y (Qa hy);let m3:∀y∈cut R (some (r:Int)) none,n_ y=true:=λy hy=>hok y (Qa hy);let m4:∀y∈cut R none (some 1),n_ y=true:=λy hy=>hok y (Qa hy);let mx:∀y∈[x],n_ y=true:=λy hy=>by rw[show y=x by simpa using hy];show hxo
 ext;show tZ hp W9 W9 λr3 o3 hr3 hp=>?_;ext;show WS.ite (λ_=>?_) (λ_=>?_)
 .refine Y ?_;show cJ (zG (by change _+1<=_;lia)) ?_;ext;show cJ (zG (by rw[gP];change _+1+_<=_;lia)) ?_;ext;show cJ (zG (by change _+1<=_;lia)) ?_;ext;show cJ (zG (by rw[gP];change _+1+_<=_;lia)) ?_;ext;show cJ (zG gV) ?_;ext;show cJ (zG gV) ?_;ext;show cJ (zG gV) ?_;ext;show cJ (zG (by change _+1<=_;lia)) ?_;ext;show cJ (zG (by rw[gP];change _+1+_<=_;lia)) ?_;ext;show tZ hp W9 W9 λr4 o4 hr4 hp=>?_;ext;let⟨y,ey,hy⟩:=Qp (xs:=[.tup (cut R none (some (r:Int))++[x]++cut R (some ((r:Int)+1)) none),.tup (cut R none (some (r:Int))++[x]++cut R (some (r:Int)) none),.tup R.reverse,.fl R,.tup (R++cut R none (some 1)),.tup (cut R none (some (r:Int))++cut R (some ((r:Int)+1)) none),.tup [.tup R],.tup (cut R (some (r:Int)) none++cut R none (some (r:Int))),.tup (cut R none (some (r:Int))++[.tup [.int 0,.int 1]]++cut R (some (r:Int)) none)]) (r:=r4) (by change r4<9;lia);show cJ ey ?_;ext;show⟨_,_,rfl,rfl,xP xO ?_,hp⟩;clear ey;simp only[cX,mK,lR]at hy;rcases hy with rfl|rfl|rfl|rfl|rfl|rfl|rfl|rfl|rfl
  .exact uH (Xe m1 mx m2) (by rw[gP,gP];change _+1+_<=_;lia)
  .exact uH (Xe m1 mx m3) (by rw[gP,gP];change _+1+_<=_;lia)
  .exact uH (λy hy=>hok y (List.mem_reverse.mp hy)) (by rw[List.length_reverse];lia)
  .exact⟨rfl,λys e=>by cases e⟩
  .exact uH (Xf hok m4) (by rw[gP];lia)
  .exact uH (Xf m1 m2) (by rw[gP];lia)
  .exact uH (λy hy=>by rw[show y=.tup R by simpa using hy];show fB.mpr λz hz=>zi8 (hok z hz)) Zaa
  .exact uH (Xf m3 m1) (by rw[gP];lia)
  .exact uH (Xe m1 (λy hy=>by rw[show y=.tup [.int 0,.int 1] by simpa using hy];rfl) m3) (by rw[gP,gP];change _+1+_<=_;lia)
 .let rR:oX (.tup R):=uH hok gV;ext;show cJ (Xd gV gV) ?_;ext;show tZ hp W9 W9 λr4 o4 hr4 hp=>?_;ext;let⟨y,ey,hy⟩:=Qp (xs:=[.tup [.int (n+1),.tup R],.tup [.int (n-1),.tup R],.tup [.bl true,.tup R],.tup [.int 9,.tup R],.tup [.int 0,.tup []],.tup [.non,.tup R],.fl [.int n,.tup R],.tup [.int n,.tup R,.int 0],.tup [.int n],.tup [.str (Str.ofString (toString n)),.tup R],.tup [.tup R,.int n],.tup R]) (r:=r4) (by change r4<12;lia);show cJ ey ?_;ext;show⟨_,_,rfl,rfl,?_,hp⟩;clear ey;simp only[cX,mK,lR]at hy;rcases hy with rfl|rfl|rfl|rfl|rfl|rfl|rfl|rfl|rfl|rfl|rfl|rfl
  .exact xP xO rR
  .exact xP xO rR
  .exact xP ⟨rfl,λys e=>by cases e⟩ rR
  .exact xP xO rR
  .exact xP xO (uH (λx hx=>by cases hx) Zaa)
  .exact xP ⟨rfl,λys e=>by cases e⟩ rR
  .exact⟨rfl,λx ys e=>by cases e⟩
  .exact Qq λz hz=>by
    simp only[cX,mK,lR]at hz;rcases hz with rfl|rfl|rfl
    .exact xO
    .exact rR
    .exact xO
  .exact Qq λz hz=>by rw[show z=.int n by simpa using hz];show xO
  .exact xP ⟨rfl,λys e=>by cases e⟩ rR
  .exact xP rR xO
  .exact Qq hrw
theorem zie{k:Nat}{x:Int}:W (call ao T (k+1) false 19 [.d (.exc 10 [.int x])]) [] λv s=>v=.d (.str "text"):=W.eq (a:=.d (.str "text")) (s':=[]) rfl rfl
theorem zlk{k:Nat}{x:Int}:W (call ao T (k+1) false 19 [.d (.exc 9 [.int x])]) [] λv s=>v=.d (.str "web"):=W.eq (a:=.d (.str "web")) (s':=[]) rfl rfl
theorem zfq{k:Nat}{c:Bool}{i:Int}:W (call ao T (k+1) c 17 [.d (.int i)]) [] λv s=>v=.d (.bl true):=W.eq (a:=.d (.bl true)) (s':=[]) rfl rfl
def Yw{k' k:Nat}{w:Str}(hk:k<=8):W (call ao T (k'+1) true 11 [.d (.str w),.d (.int k)]) [] λv s=>v=.d (zN k w):=by
 show W.call zpq rfl ?_;unfold Xp;ext;let hr:dU ((k:Int)+1)=true:=by
  unfold dU;rw[cH gV,cH gV];rfl
 show⟨by rw[hr];rfl,?_⟩;show Wf (c:=gU 0 ((k:Int)+1)) (λi J s=>s=[]/\(∃a,J=[some (.d (.str w)),some (.d (.int k)),a])/\∀j<i,(w==tx j)=false) ⟨rfl,⟨_,rfl⟩,λj hj=>absurd hj gV⟩ (λi x J s e hI=>?_) (λJ s hI=>?_)
 .obtain⟨rfl,⟨a,rfl⟩,hI⟩:=hI;let⟨rfl,hi⟩:=Lg e;rw[show (0:Int)+(i:Int)=(i:Int) by lia];ext;show cJ (Xd gV gV) ?_;ext;show WS.ite (λhb=>?_) (λhb=>?_)
  .let hb:(w==tx i)=true:=hb;ext;show .inr ⟨_,rfl,?_⟩;let:jQ k w=some i:=by rw[eq_of_beq hb];show Qx gV gV
   unfold zN;rw[this]
  .let hb:¬(w==tx i)=true:=hb;ext;show .inl ⟨_,rfl,rfl,⟨_,rfl⟩,λj hj=>?_⟩;by_cases c:j=i
   .subst c;simpa using hb
   .exact hI j gV
 .obtain⟨rfl,⟨a,rfl⟩,hI⟩:=hI;ext;let:jQ k w=none:=ze6 λn hn=>hI n (by rw[Lh];lia);unfold zN;rw[this]
def Bt(w:Str):D:=.tup [zN 7 (Txt.partition w "-").1,zN 7 (Txt.partition w "-").2.2]
def zhN{k':Nat}{x:Str}(h:x.length<=600):W (call ao T (k'+2) true 12 [.d (.str x),.d (.str "-"),.d (.int 7)]) [] λv s=>v=.d (Bt x):=by
 show W.call zph rfl ?_;unfold Xq;show WS.cons (V4 (Bq (W.pv (x:=.d (.str x)) rfl (lB ⟨rfl,G7 (vs:=[.d (.str "-")]) rfl (tV (lB (tV (lB (Ep ?_)))))⟩))));show cJ (zgA h ziQ) ?_;show W.dat (rK.mk rfl ?_);ext;show W.c0 (Yw (k:=7) gV) ?_;ext;show W.c0 (Yw (k:=7) gV) ?_;show Y rfl
def Fy(w:Str):D:=match hm w with
 |some m=>.int m|none=>.non
def ziC{k':Nat}{w:Str}(h:w.length<=600):W (call ao T (k'+2) true 13 [.d (.str w)]) [] λv s=>v=.d (Fy w):=by
 show W.call zpx rfl ?_;unfold Xr;show WS.cons (V4 (Bq (W.pv (x:=.d (.str w)) rfl (lB ⟨rfl,G7 (vs:=[.d (.str ":")]) rfl (tV (lB (tV (lB (Ep ?_)))))⟩))));show cJ (zgA h zg7) ?_;show W.dat (rK.mk rfl ?_);ext;show W.c0 (Yw (k:=8) gV) ?_;unfold zN Fy;rw[zkl];generalize Txt.partition w ":"=z;let⟨a,b,c⟩:=z;dsimp only;cases e:jQ 8 a with
 |none=>
  ext;show W.ite (λhb=>?_) (λhb=>?_)
  .refine Y ?_;show W.ite (λhb=>?_) (λhb=>?_)
   .exact Y trivial
   .exact Y trivial
  .exact Y trivial
 |some n=>
  ext;show W.ite (λhn=>?_) (λhn=>?_)
  .let hn:n≠0:=by rintro rfl;cases hn
   ext;show W.ite (λhb=>?_) (λhb=>?_)
   .let hb:b=":":=eq_of_beq hb;ext;show W.ite (λhc=>?_) (λhc=>?_)
    .let hc:c="":=eq_of_beq hc;ext;rw[if_pos ⟨hn,hb,hc⟩]
    .refine Y ?_;rw[if_neg λz=>hc (iK.mpr z.2.2)]
   .refine Y ?_;rw[if_neg λz=>hb (iK.mpr z.2.1)]
  .let hn:n=0:=by
    cases n with
    |zero=>rfl|succ n=>show absurd (show (!((n+1:Nat):Int)==0)=true by rw[show (((n+1:Nat):Int)==0)=false from Nf.mpr gV];rfl) hn
   ext;rw[if_neg λz=>z.1 hn]
def QW:D->Bool
 |.str _=>false|.exc _ _=>false|.ob _ _=>false|.any=>false|_=>true
def zk4{w:Str}:n_ (Bt w)=true:=by
 unfold Bt zN;cases jQ 7 (Txt.partition w "-").1<;>cases jQ 7 (Txt.partition w "-").2.2<;>rfl
theorem zkZ{m:Int}{w:Str}:dz m (Bt w)=match wp w with
  |some p=>decide (p.1<p.2)&&decide (p.2<m)|none=>false:=by
 unfold Bt zN wp;cases jQ 7 (Txt.partition w "-").1 with
 |none=>cases jQ 7 (Txt.partition w "-").2.2<;>rfl|some i=>
  cases jQ 7 (Txt.partition w "-").2.2 with
  |none=>rfl|some j=>
   change decide (0<=(i:Int)/\(i:Int)<(j:Int)/\(j:Int)<m)=(decide ((i:Int)<(j:Int))&&decide ((j:Int)<m));rw[<-Bool.decide_and];show zT.mpr ⟨λh=>h.2,λh=>⟨by lia,h⟩⟩
def ziH{w:Str}{p:Int×Int}(h:wp w=some p):Bt w=bV p:=by
 unfold wp at h;unfold Bt zN;cases e1:jQ 7 (Txt.partition w "-").1 with
 |none=>rw[e1]at h;cases h|some i=>
  cases e2:jQ 7 (Txt.partition w "-").2.2 with
  |none=>rw[e1,e2]at h;cases h|some j=>rw[e1,e2]at h;cases h;rfl
def Bu(acc:List (Int×Int))(p:Int×Int):Bool:=match acc.getLast? with
 |none=>true|some l=>ltI [l.1,l.2] [p.1,p.2]
def znZ{k' i:Nat}{a b c e:Option Xv}{m:Int}{p:Int×Int}{acc:List (Int×Int)}{tb:Bool}(qJ:acc.length=i)(htie:W (call ao T (k'+4) true 6 [.d (.int m),.d (bV p)]) [] λv s=>v=.d (.bl tb)):W (ev ao true (Mi.call ao T (k'+4) true) (.or (.not (.call 6 (Eb (.v 3) (.v 7)))) (.and (.pr true .gt (Eb (.v 5) (Ci 0))) (.pr true .vq (Eb (.v 7) (Ei (.v 4) (.pr true .neg (Ea (Ci 1)))))))) [a,b,c,some (.d (.int m)),some (.l 0),some (.d (.int i)),e,some (.d (bV p))]) [.lst (acc.map bV)] λx s1=>x=.d (.bl (!(tb&&Bu acc p)))/\s1=[.lst (acc.map bV)]:=by
 cases tb with
 |false=>
  ext;show W.c0 htie ?_;ext;show⟨rfl,rfl⟩
 |true=>
  rcases List.eq_nil_or_concat acc with rfl|⟨r,l,rfl⟩
  .cases qJ;ext;show W.c0 htie ?_;ext;show⟨rfl,rfl⟩
  .let hi:0<i:=by rw[<-qJ];simp
   let hg:(r++[l]).getLast?=some l:=by simp
   unfold Bu;simp only[List.concat_eq_append,hg,lG,jw,Hy];ext;show W.c0 htie ?_;ext;rw[cH (show (0:Int)<(i:Int) by lia)];ext;show cJ zms ?_;ext;show⟨by rw[Bool.true_and],rfl⟩
def Told(x:Str)(o:Out)(_:S):Prop:=match o with
 |.rt v=>v=.d (ou x)/\∃m ps,Web m ps/\ou x=cQ m ps|.er c fs _=>c=10/\∃i:Nat,ou x=.int i/\fs=[.int i]|_=>False
def zgM{k':Nat}{x:Str}(h:x.length<=600):WS (exs ao true (λc=>Mi.call ao T (k'+5) c) b9 ([Xv.d (.str x)].map some++List.replicate (8-1) none)) [] (Told x):=by
 let⟨w0,ws,ew⟩:=Xn x;let hw0:w0.length<=600:=jx (Xj (x:=x) (y:=" ") rfl (by rw[ew];simp)) h;let Yx:∀w∈ws,w.length<=600:=λw hw=>jx (Xj (x:=x) (y:=" ") rfl (by rw[ew];show dI _ hw)) h;let Jf:ws.length<=600:=by
  let h1:=Qu (x:=x) (y:=" ") rfl;let h2:=Qt (x:=x) (y:=" ");rw[ew,eN]at h1
  lia
 unfold b9;show zF (λJ s=>J=[some (.d (.str x)),none,none,none,none,none,none,none]/\s=[]) ?_ ?_
 .refine Y ?_;show W.fH rfl (W.eq (a:=.d .non) (s':=[]) rfl ?_);show⟨_,rfl,_,rfl,rfl,rfl⟩
 rintro J s ⟨rfl,rfl⟩;show zF (λJ s=>J=[some (.d (.str x)),some (.d (.str w0)),some (.d (.fl (ws.map .str))),none,none,none,none,none]/\s=[]) ?_ ?_
 .refine Kbl (Bq (W.pv (x:=.d (.str x)) rfl (lB ⟨rfl,G7 (vs:=[.d (.str " ")]) rfl (tV (lB (tV (lB (Ep ?_)))))⟩)));show n8 (zev h Xl) ?_;rw[ew];show⟨_,_,rfl,_,rfl,rfl,rfl⟩
 rintro J s ⟨rfl,rfl⟩;show zF (λJ s=>J=[some (.d (.str x)),some (.d (.str w0)),some (.d (.fl (ws.map .str))),some (.d (Fy w0)),none,none,none,none]/\s=[]) ?_ ?_
 .refine Y ?_;show W.c0 (ziC hw0) ?_;ext;show⟨_,rfl,rfl,rfl⟩
 rintro J s ⟨rfl,rfl⟩;let hr:ou x=match hm w0 with
   |none=>.int 0|some m=>rl m [] 1 ws:=by
  unfold ou;rw[ew]
 cases em:hm w0 with
 |none=>
  rw[em]at hr;let e:Fy w0=.non:=by unfold Fy;rw[em]
  rw[e];show Qv (Mt true ?_ (WS.qD (v9 ?_)))
  .refine Y ?_;show⟨rfl,rfl⟩
  ext;show⟨⟨_,_,_,rfl⟩,rfl,0,hr,rfl⟩
 |some m=>
  rw[em]at hr;let hr:ou x=rl m [] 1 ws:=hr;let⟨Yy,Fz,rfl⟩:=Mu em;let e:Fy (wh m)=.int m:=by unfold Fy;rw[em]
  rw[e];show zF (λJ s=>J=[some (.d (.str x)),some (.d (.str (wh m))),some (.d (.fl (ws.map .str))),some (.d (.int m)),none,none,none,none]/\s=[]) ?_ ?_
  .refine Y ?_;show⟨_,rfl,rfl,rfl⟩
  rintro J s ⟨rfl,rfl⟩;show zF (λJ s=>J=[some (.d (.str x)),some (.d (.str (wh m))),some (.d (.fl (ws.map .str))),some (.d (.int m)),some (.l 0),none,none,none]/\s=[.lst []]) ?_ ?_
  .refine Y ?_;show⟨_,rfl,rfl,rfl⟩
  rintro J s ⟨rfl,rfl⟩;show Qv ?_;ext;rw[zfj];show Ka6 (v:=.d (.fl (ws.map .str))) (λi J s=>∃a b c acc,J=[some (.d (.str x)),some (.d (.str (wh m))),some (.d (.fl (ws.map .str))),some (.d (.int m)),some (.l 0),a,b,c]/\s=[.lst (acc.map bV)]/\acc.length=i/\Web m acc/\ou x=rl m acc (1+i) (ws.drop i)) ⟨_,_,_,[],rfl,rfl,rfl,zfw Yy Fz,hr⟩ (λi J s hI=>rfl) (λi d J s e hI=>?_) (λJ s hI=>?_)
  .obtain⟨a,b,c,acc,rfl,rfl,qJ,hW,jq⟩:=hI;rw[lD,jR]at e;let⟨w,e,rfl⟩:=e;let hi:i<ws.length:=(jr.mp e).1;let hs:(2000:Nat)<=sizeLine:=by decide
   let hd:ws.drop i=w::ws.drop (i+1):=by
    rw[MP hi];rw[fV hi]at e;cases e;rfl
   rw[hd]at jq;show WS.bH ?_;ext;show⟨_,rfl,?_⟩;show zF (λJ s=>J=[some (.d (.str x)),some (.d (.str (wh m))),some (.d (.fl (ws.map .str))),some (.d (.int m)),some (.l 0),some (.d (.int i)),some (.d (.str w)),some (.d (Bt w))]/\s=[.lst (acc.map bV)]) ?_ ?_
   .refine Y ?_;show W.c0 (zhN (Yx w (jL e))) ?_;ext;show⟨_,rfl,rfl,rfl⟩
   rintro J2 s2 ⟨rfl,rfl⟩;let htie:=zmZ (k:=k'+1) (n:=m) (zk4 (w:=w));rw[zkZ]at htie;cases ep:wp w with
   |none=>
    rw[ep]at htie;rw[zi2 ep]at jq;show Qv (Mt true ?_ (WS.qD (v9 ?_)))
    .refine Y ?_;show W.c0 htie ?_;ext;show⟨rfl,rfl⟩
    ext;show⟨⟨_,_,_,rfl⟩,.inr (.inr ⟨_,_,_,rfl,rfl,1+i,jq,by rw[Int.add_comm,NQ];rfl⟩)⟩
   |some p=>
    rw[ep]at htie;let hpp:=ziH ep;rw[hpp]at htie ⊢;let⟨pi,pj,_,_,hpe,_⟩:=Qz ep;let hp0:0<=p.1:=by rw[hpe];change (0:Int)<=(pi:Int);lia
    dsimp only at htie;show Qv (Mt (!uI m acc p) ?_ ?_)
    .exact(znZ (k':=k'+1) qJ htie).imp λx s h=>⟨by rw[h.1];rfl,h.2⟩
    .by_cases c:uI m acc p=true
     .rw[zmn ep c]at jq;rw[c];show WS.Et ?_;ext;show⟨by rw[bY];lia,?_⟩;ext;show .inl ⟨_,rfl,_,_,_,acc++[p],rfl,by simp,by simp[qJ],zeY hW hp0 c,?_⟩;rw[jq,Nat.add_assoc]
     .let c:uI m acc p=false:=by simpa using c
      rw[zn2 ep c]at jq;rw[c];show WS.qD (v9 ?_);ext;show⟨⟨_,_,_,rfl⟩,.inr (.inr ⟨_,_,_,rfl,rfl,1+i,jq,by rw[Int.add_comm,NQ];rfl⟩)⟩
  .obtain⟨a,b,c,acc,rfl,rfl,qJ,hW,jq⟩:=hI;rw[bY]at jq;rw[List.drop_eq_nil_of_le (bK _)]at jq;let jq:ou x=cQ m acc:=jq;ext;show⟨by rw[jq];rfl,m,acc,hW,jq⟩
def zcz{k':Nat}{x:Str}(h:x.length<=600):(W (call ao T (k'+6) true 9 [.d (.str x)]) [] (λv s=>v=.d (ou x))/\∃m ps,Web m ps/\ou x=cQ m ps)\/∃i:Nat,ou x=.int i/\WR (call ao T (k'+6) true 9 [.d (.str x)]) [] 10 [.int i]:=by
 let⟨o,s',e,q⟩:=zgM (k':=k') h;cases o with
 |rt v=>
  let⟨rfl,q⟩:=q;show .inl ⟨W.call QG rfl ⟨_,s',e,rfl⟩,q⟩
 |er c fs J=>
  let⟨rfl,i,q,rfl⟩:=q;show .inr ⟨i,q,WR.call QG rfl ⟨_,s',e,_,rfl⟩⟩
 |nx _=>cases q|ct _=>cases q|bk _=>cases q
def zhO{k':Nat}{x:D}(h:QW x=true):WR (call ao T (k'+6) true 9 [.d x]) [] 10 [.int (-1)]:=by
 let hc:WR (call ao T (k'+5) true 10 [.d x]) [] 10 [.int (-1)]:=by
  show WR.call zpc rfl ?_;unfold b10;show v9 ?_;let e:jB ao x .str=some false:=by cases x<;>first|rfl|cases h
  show K_ (V0 (W.eY (W.eV rfl (lB (rK.mk e ?_)))));show W.bool (W.bool (WS.qD (v9 ?_)));ext;show⟨⟨_,_,_,rfl⟩,⟨_,_,_,rfl⟩,_,rfl⟩
 show WR.call QG rfl ?_;unfold b9;show v9 (V8 ?_ λs'=>⟨⟨_,_,_,rfl⟩,_,rfl⟩);show PL ?_;ext;show WR.fH rfl hc
def zkp{k':Nat}{x:D}{d:D}(h:W (call ao T (k'+6) true 9 [.d x]) [] λv s=>v=.d d):W (call ao T (k'+7) true 27 [.d x]) [] λv s=>v=.d d:=by
 show W.call X8 rfl ?_;unfold QF;show WS.cons (Kbs ?_);ext;show W.c0 h ?_;show⟨⟨_,rfl⟩,rfl⟩
def zgF{k':Nat}{x:D}{i:Int}(h:WR (call ao T (k'+6) true 9 [.d x]) [] 10 [.int i]):W (call ao T (k'+7) true 27 [.d x]) [] λv s=>v=.d (.int i):=by
 show W.call X8 rfl ?_;unfold QF;show WS.cons (Kbt ?_);show v9 (Kbd (c:=10) (fs:=[.int i]) ?_ λs'=>⟨⟨_,_,_,rfl⟩,_,_,_,rfl,rfl,?_⟩)
 .refine PL ?_;ext;show WR.fH rfl h
 .refine Y ?_;show W.c0 zie ?_;ext;show W.fld (c:=10) (fs:=[.int i]) (x:=.int i) (W.pv rfl ⟨rfl,?_⟩) rfl rfl;ext;show W.c0 zfq ?_;ext;show W.fld (c:=10) (fs:=[.int i]) (x:=.int i) (W.pv rfl ⟨rfl,?_⟩) rfl rfl;ext;show⟨⟨_,rfl⟩,rfl⟩
def zlX{k':Nat}{x:Str}(h:x.length<=600):W (call ao T (k'+7) true 27 [.d (.str x)]) [] λv s=>v=.d (ou x):=by
 rcases zcz (k':=k') h with ⟨h1,_⟩|⟨i,e,h1⟩
 .exact zkp h1
 .rw[e];show zgF h1
theorem zn7{k':Nat}{x:D}(h:QW x=true):W (call ao T (k'+7) true 27 [.d x]) [] λv s=>v=.d (.int (-1)):=zgF (zhO h)
def zj3{F:Bool->Fn}{a b c d e:Option Xv}{s:S}{w:Str}(hw:w.length<=600):W (ev ao true (F true) (.or (.pr true .ne (Eb (.pr true .sY (Ea (.v 4))) (Ci 3))) (.or (.pr true .oN (Eb (.pr true .qd (Eb (.v 4) (Ci 0))) (.c (.str "01234567")))) (.or (.pr true .ne (Eb (.pr true .qd (Eb (.v 4) (Ci 1))) (.c (.str "-")))) (.pr true .oN (Eb (.pr true .qd (Eb (.v 4) (Ci 2))) (.c (.str "01234567"))))))) [a,b,c,d,some (.d (.str w)),e]) s λx s1=>x=.d (.bl (wp w).isNone)/\s1=s:=by
 let FJ:prim .sY [.str w]=some (.dat (.int w.length)):=by
  change (match fG w with|true=>some (Rz.dat (.int w.length))|false=>none)=_;rw[show fG w=true from cH hw]
 by_cases c3:w.length=3
 .obtain⟨i,j,k,rfl⟩:=three c3;let bad:wp ⟨#[i,j,k]⟩≠none->(48<=i/\i<=55)/\j=45/\(48<=k/\k<=55):=λhn=>by
   cases e:wp ⟨#[i,j,k]⟩ with
   |none=>show absurd e hn|some p=>
    let⟨u,v,hu,hv,_,e⟩:=Qz e;rw[Mv hu hv]at e;injection e with e;injection e with e;injection e with e1 e;injection e with e2 e;injection e with e3
    lia
  let no:¬((48<=i/\i<=55)/\j=45/\(48<=k/\k<=55))->wp ⟨#[i,j,k]⟩=none:=λh=>Classical.byContradiction λz=>h (bad z);ext;show W.ite (λhb=>?_) (λhb=>?_)
  .let hb:=j8.mp (show (Builtin.Str.occurrences "01234567" ⟨#[i]⟩ 0 (Str.length "01234567") 1).isEmpty=true from hb);rw[no λz=>hb z.1];ext;show⟨rfl,rfl⟩
  let Bk:¬_:=λz=>hb (show (Builtin.Str.occurrences "01234567" ⟨#[i]⟩ 0 (Str.length "01234567") 1).isEmpty=true from j8.mpr z);let Bk:48<=i/\i<=55:=Classical.not_not.mp Bk;ext;show W.ite (λhb=>?_) (λhb=>?_)
  .let hb:(!((⟨#[j]⟩ : Str)=="-"))=true:=hb;rw[no λz=>by rw[oY.mpr z.2.1]at hb;cases hb];ext;show⟨rfl,rfl⟩
  let hj:j=45:=oY.mp (by
   cases e:((⟨#[j]⟩ : Str)=="-") with
   |true=>rfl|false=>show absurd (show (!((⟨#[j]⟩ : Str)=="-"))=true by rw[e];rfl) hb)
  ext;show⟨?_,rfl⟩;change Xv.d (D.bl (Builtin.Str.occurrences "01234567" ⟨#[k]⟩ 0 (Str.length "01234567") 1).isEmpty)=_;by_cases ck:48<=k/\k<=55
  .rw[zh1 Bk hj ck,show (Builtin.Str.occurrences "01234567" ⟨#[k]⟩ 0 (Str.length "01234567") 1).isEmpty=false from by
    cases e:(Builtin.Str.occurrences "01234567" ⟨#[k]⟩ 0 (Str.length "01234567") 1).isEmpty with
    |false=>rfl|true=>show absurd ck (j8.mp e)]
   rfl
  .rw[no λz=>ck z.2.2,j8.mpr ck];rfl
 .let hn:wp w=none:=by
   cases e:wp w with
   |none=>rfl|some p=>
    let⟨i,j,hi,hj,_,rfl⟩:=Qz e;rw[Mv hi hj]at c3;show absurd rfl c3
  rw[hn];ext;show cJ FJ ?_;ext;show W.ite (λhb=>?_) (λhb=>?_)
  .refine Y ?_;show⟨rfl,rfl⟩
  .exact absurd (show (!((w.length:Int)==3))=true by rw[show ((w.length:Int)==3)=false from Nf.mpr gV];rfl) hb
def zjB{F:Bool->Fn}{a b c:Option Xv}{s:S}{m:Nat}{r:List D}{p:Int×Int}{acc:List (Int×Int)}(Fz:m<=8)(hp:0<=p.1):W (ev ao true (F true) (.or (.pr true .ge (Eb (Ei (.v 5) (Ci 0)) (Ei (.v 5) (Ci 1)))) (.or (.pr true .ge (Eb (Ei (.v 5) (Ci 1)) (.pr true .sint (Ea (.pr true .qd (Eb (Ei (.v 1) (Ci 0)) (Ci 0))))))) (.pr true .vq (Eb (.v 5) (Ei (.v 2) (.pr true .neg (Ea (Ci 1)))))))) [a,some (.d (.fl (.str (wh m)::r))),some (.l 0),b,c,some (.d (bV p))]) [.lst (.tup [.int (-1),.int (-1)]::acc.map bV)] λx s1=>x=.d (.bl (!uI m acc p))/\s1=[.lst (.tup [.int (-1),.int (-1)]::acc.map bV)]:=by
 unfold uI;rw[Xk Fz];let q:prim .sint [.str ⟨#[48+m]⟩]=some (.dat (.int m)):=by
  rw[QC (a:=48+m) gV,show 48+m-48=m by lia]
 ext;show W.ite (λhb=>?_) (λhb=>?_)
 .let hb:=ju hb;rw[eO (show ¬p.1<p.2 by lia)];ext;show⟨rfl,rfl⟩
 let hb:¬p.2<=p.1:=λz=>hb (cH z);rw[cH (show p.1<p.2 by lia)];ext;show cJ (P_ (x:=.str ⟨#[48+m,58]⟩) (Int.le_refl 0) rfl) ?_;ext;show cJ (o:=prim .sint [.str ⟨#[48+m]⟩]) q ?_;ext;show W.ite (λhc=>?_) (λhc=>?_)
 .let hc:=ju hc;rw[eO (show ¬p.2<(m:Int) by lia)];ext;show⟨rfl,rfl⟩
 let hc:¬(m:Int)<=p.2:=λz=>hc (cH z);rw[cH (show p.2<(m:Int) by lia)];rcases List.eq_nil_or_concat acc with rfl|⟨r,l,rfl⟩
 .refine Y ?_;rw[show ltI [-1,-1] [p.1,p.2]=true from Br (a:=(-1,-1)) |>.mpr (.inl (by change (-1:Int)<p.1;lia))];show⟨rfl,rfl⟩
 .let hg:(r++[l]).getLast?=some l:=by simp
  simp only[List.concat_eq_append,hg,lG,jw,Hy];ext;show cJ (zms (xs:=.tup [.int (-1),.int (-1)]::r.map bV) (x:=bV l)) ?_;ext;show⟨rfl,rfl⟩
def zj8{k':Nat}{x:Str}(h:x.length<=600):W (call ao T (k'+1) true 26 [.d (.str x)]) [] λv s=>v=.d (ou x):=by
 let⟨w0,ws,ew⟩:=Xn x;let Yx:∀w∈ws,w.length<=600:=λw hw=>jx (Xj (x:=x) (y:=" ") rfl (by rw[ew];show dI _ hw)) h;let Jf:ws.length<=600:=by
  let h1:=Qu (x:=x) (y:=" ") rfl;let h2:=Qt (x:=x) (y:=" ");rw[ew,eN]at h1
  lia
 show W.call zpk rfl ?_;unfold XR;show WS.cons (PK (Bq (W.pv (x:=.d (.str x)) rfl (lB ⟨rfl,G7 (vs:=[.d (.str " ")]) rfl (tV (lB (tV (lB (Ep ?_)))))⟩))));show n8 (zev h Xl) ?_;rw[ew];let hr:ou x=match hm w0 with
   |none=>.int 0|some m=>rl m [] 1 ws:=by
  unfold ou;rw[ew]
 ext;show cJ (P_ (x:=.str w0) (Int.le_refl 0) rfl) ?_;ext;show WS.ite (λhb=>?_) (λhb=>?_)
 .let hb:(!(QD.any λz=>z==w0))=true:=hb;rw[zf5]at hb;let em:hm w0=none:=by
   cases em:hm w0 with
   |none=>rfl|some m=>rw[em]at hb;cases hb
  rw[em]at hr;ext;rw[hr]
 .let hb:¬(!(QD.any λz=>z==w0))=true:=hb;rw[zf5]at hb;obtain⟨m,em⟩ : ∃m,hm w0=some m:=by
   cases em:hm w0 with
   |none=>rw[em]at hb;show absurd rfl hb|some m=>show⟨m,rfl⟩
  rw[em]at hr;let hr:ou x=rl m [] 1 ws:=hr;let⟨Yy,Fz,rfl⟩:=Mu em;let hs:(2000:Nat)<=sizeLine:=by decide
  let q:prim .sint [.str ⟨#[48+m]⟩]=some (.dat (.int m)):=by
   rw[QC (a:=48+m) gV,show 48+m-48=m by lia]
  let hln:(((wh m::ws).map D.str).length:Int)=(ws.length:Int)+1:=by simp
  let hrg:dU ((ws.length:Int)+1)=true:=by
   unfold dU;rw[cH gV,cH gV];rfl
  ext;rw[hln];show⟨by rw[hrg];rfl,?_⟩;show Wf (c:=gU 1 ((ws.length:Int)+1)) (λi J s=>∃a b c acc,J=[some (.d (.str x)),some (.d (.fl (.str (wh m)::ws.map .str))),some (.l 0),a,b,c]/\s=[.lst (.tup [.int (-1),.int (-1)]::acc.map bV)]/\acc.length=i/\Web m acc/\ou x=rl m acc (1+i) (ws.drop i)) ⟨_,_,_,[],rfl,rfl,rfl,zfw Yy Fz,hr⟩ (λi y J s e hI=>?_) (λJ s hI=>?_)
  .obtain⟨a,b,c,acc,rfl,rfl,qJ,hW,jq⟩:=hI;let⟨rfl,hi⟩:=Lg e;let hi:i<ws.length:=by lia
   obtain⟨w,e⟩ : ∃w,ws[i]?=some w:=⟨_,fV hi⟩;let hd:ws.drop i=w::ws.drop (i+1):=by
    rw[MP hi];rw[fV hi]at e;cases e;rfl
   rw[hd]at jq;show WS.bH ?_;ext;show⟨_,rfl,?_⟩;show zF (λJ s=>J=[some (.d (.str x)),some (.d (.fl (.str (wh m)::ws.map .str))),some (.l 0),some (.d (.int (1+i))),some (.d (.str w)),c]/\s=[.lst (.tup [.int (-1),.int (-1)]::acc.map bV)]) ?_ ?_
   .refine Y ?_;show cJ (P_ (x:=.str w) gV (by
     rw[show (1+(i:Int)).toNat=i+1 by lia,FW,lD,e]
     rfl)) ?_
    ext;show⟨_,rfl,rfl,rfl⟩
   rintro J2 s2 ⟨rfl,rfl⟩;show WS.cons (Mt _ (zj3 (F:=λc=>Mi.call ao T k' c) (Yx w (jL e))) ?_);cases ep:wp w with
   |none=>
    rw[zi2 ep]at jq;show WS.qD ?_;ext;show .inr ⟨_,rfl,by rw[jq,NQ];rfl⟩
   |some p=>
    let⟨pi,pj,hpi,hpj,rfl,rfl⟩:=Qz ep;let q1:prim .sint [.str ⟨#[48+pi]⟩]=some (.dat (.int pi)):=by
     rw[QC (a:=48+pi) gV,show 48+pi-48=pi by lia]
    let q2:prim .sint [.str ⟨#[48+pj]⟩]=some (.dat (.int pj)):=by
     rw[QC (a:=48+pj) gV,show 48+pj-48=pj by lia]
    show WS.Et ?_;show WS.nil ?_;show zF (λJ s=>∃z,J=[some (.d (.str x)),some (.d (.fl (.str (wh m)::ws.map .str))),some (.l 0),some (.d (.int (1+i))),z,some (.d (bV ((pi:Int),(pj:Int))))]/\s=[.lst (.tup [.int (-1),.int (-1)]::acc.map bV)]) ?_ ?_
    .rw[Mv hpi hpj];ext;show cJ (o:=prim .sint [.str ⟨#[48+pi]⟩]) q1 ?_;ext;show cJ (o:=prim .sint [.str ⟨#[48+pj]⟩]) q2 ?_;ext;show⟨_,rfl,_,rfl,rfl⟩
    rintro J2 s2 ⟨z,rfl,rfl⟩;show WS.cons (Mt _ (zjB (F:=λc=>Mi.call ao T k' c) (s:=[]) Fz (by change (0:Int)<=(pi:Int);lia)) ?_);by_cases c:uI m acc ((pi:Int),(pj:Int))=true
    .rw[zmn ep c]at jq;rw[c];show WS.Et ?_;show WS.nil ?_;ext;show⟨by rw[eN,bY];lia,?_⟩;ext;show .inl ⟨_,rfl,_,_,_,acc++[((pi:Int),(pj:Int))],rfl,by simp,by simp[qJ],zeY hW (by change (0:Int)<=(pi:Int);lia) c,?_⟩;rw[jq,Nat.add_assoc]
    .let c:uI m acc ((pi:Int),(pj:Int))=false:=by simpa using c
     rw[zn2 ep c]at jq;rw[c];show WS.qD ?_;ext;show .inr ⟨_,rfl,by rw[jq,NQ];rfl⟩
  .obtain⟨a,b,c,acc,rfl,rfl,qJ,hW,jq⟩:=hI;rw[Lh,show ((ws.length:Int)+1-1).toNat=ws.length by lia,List.drop_eq_nil_of_le (bK _)]at jq;let jq:ou x=cQ m acc:=jq;rw[Xk Fz,jq];ext;show cJ (P_ (x:=.str ⟨#[48+m,58]⟩) (Int.le_refl 0) rfl) ?_;ext;show cJ (o:=prim .sint [.str ⟨#[48+m]⟩]) q ?_;ext;rw[zf3];rfl
def zig{k:Nat}{d:D}(h:xM d)(hb:rZ d=false):WR (call ao T (k+6) true 7 [.d d]) [] 9 [.int (-1)]:=by
 show WR.call X6 rfl ?_;unfold b7;show v9 ?_;ext;show W.c0 (zgW h.1 h.2) ?_;rw[hb];show W.bool (W.bool (WS.qD (v9 ?_)));ext;show⟨⟨_,_,_,rfl⟩,⟨_,_,_,rfl⟩,_,rfl⟩
def zhr{k:Nat}{d:D}(h:xM d)(hb:rZ d=true):W (call ao T (k+6) true 7 [.d d]) [] λv s=>v=.d .non:=by
 show W.call X6 rfl ?_;unfold b7;ext;show W.c0 (zgW h.1 h.2) ?_;rw[hb];show Y trivial
theorem zj4{n:Int}{ps:List (Int×Int)}(h:Web n ps):xM (cQ n ps):=zmz (by let:=h.len;let:=h.h8;lia)
def zcx{ps:List (Int×Int)}:(ps.filterMap λp=>some (D.str (lC p)))=(ps.map lC).map D.str:=by
 rw[nM]
 induction ps with
 |nil=>rfl|cons p r ih=>rw[Gd,ih];rfl
def zhd{n:Int}{ps:List (Int×Int)}(h:Web n ps){p:Int×Int}(hp:p∈ps):(0<=p.1/\p.1<=7)/\(0<=p.2/\p.2<=7):=by
 let:=h.tie p hp;let:=h.h8
 lia
def zlg{k':Nat}{n:Int}{ps:List (Int×Int)}(h:Web n ps):W (call ao T (k'+7) true 8 [.d (cQ n ps)]) [] λv s=>v=.d (.str (kZ " " (lQ n ps))):=by
 let h1:=h.h1;let h8:=h.h8;let hpl:=Wb h.h8 h.tie (PX h.inc);let hs:(2000:Nat)<=sizeLine:=by decide
 let l1:("-" : Str).length=1:=by decide +kernel
 let l2:(":" : Str).length=1:=by decide +kernel
 let hj:=Xm (ws:=lQ n ps) (by let:=Xo h;lia);let er:cQ n ps=.tup [.int n,.tup (ps.map bV)]:=rfl;show W.call X7 rfl ?_;unfold b8;ext;show W.c0 (zhr (zj4 h) (zl0 h)) ?_;rw[er];ext;show Bq (W.pv (x:=.d (.str " ")) rfl (lB ⟨rfl,?_⟩));ext;show cJ (Hl gV gV) ?_;ext;show cJ (Mw (by let:=Ft (a:=n.toNat) gV;lia)) ?_;ext;show G8 (l:=ps) (f:=bV) (λp=>some (.str (lC p))) gV ?_ (λp hp=>?_) ?_
 .refine Y ?_;show⟨rfl,rfl⟩
 .obtain⟨⟨a1,a2⟩,a3,a4⟩:=zhd h hp;let t1:=Ft (a:=p.1.toNat) gV;let t2:=Ft (a:=p.2.toNat) gV;ext;show⟨rfl,λ_=>?_,λhb=>by cases hb⟩;ext;show cJ (Hl a1 gV) ?_;ext;show cJ (Hl a3 gV) ?_;ext;show cJ (zni gV gV gV) ?_;show⟨rfl,_,rfl,rfl⟩
 rw[zcx];ext;show n8 (tW (by rw[bY,bY];change 1+_<=_;lia)) ?_;ext;show cJ (o:=prim .vA [.str " ",.fl ((lQ n ps).map .str)]) hj ?_;rfl
def zkJ{k':Nat}{n:Int}{ps:List (Int×Int)}(h:Web n ps):W (call ao T (k'+1) true 25 [.d (cQ n ps)]) [] λv s=>v=.d (.str (kZ " " (lQ n ps))):=by
 let h1:=h.h1;let h8:=h.h8;let hpl:=Wb h.h8 h.tie (PX h.inc);let hs:(2000:Nat)<=sizeLine:=by decide
 let l1:("-" : Str).length=1:=by decide +kernel
 let l2:(":" : Str).length=1:=by decide +kernel
 let hj:=Xm (ws:=lQ n ps) (by let:=Xo h;lia);let er:cQ n ps=.tup [.int n,.tup (ps.map bV)]:=rfl;show W.call zpv rfl ?_;unfold XQ;rw[er];ext;show Bq (W.pv (x:=.d (.str " ")) rfl (lB ⟨rfl,?_⟩));ext;show cJ (Hl gV gV) ?_;ext;show cJ (Mw (by let:=Ft (a:=n.toNat) gV;lia)) ?_;ext;show G8 (l:=ps) (f:=bV) (λp=>some (.str (lC p))) gV ?_ (λp hp=>?_) ?_
 .refine Y ?_;show⟨rfl,rfl⟩
 .obtain⟨⟨a1,a2⟩,a3,a4⟩:=zhd h hp;let t1:=Ft (a:=p.1.toNat) gV;let t2:=Ft (a:=p.2.toNat) gV;ext;show⟨rfl,λ_=>?_,λhb=>by cases hb⟩;ext;show cJ (Hl a1 gV) ?_;ext;show cJ (Mw gV) ?_;ext;show cJ (Hl a3 gV) ?_;ext;show cJ (Mw (by rw[zgC];lia)) ?_;show⟨rfl,_,rfl,rfl⟩
 rw[zcx];ext;show n8 (tW (by rw[bY,bY];change 1+_<=_;lia)) ?_;ext;show cJ (o:=prim .vA [.str " ",.fl ((lQ n ps).map .str)]) hj ?_;rfl
def zhw{k':Nat}{d:D}(h:xM d)(hb:rZ d=false):W (call ao T (k'+8) true 30 [.d d]) [] λv s=>v=.d (.bl true):=by
 let hr:WR (call ao T (k'+7) true 8 [.d d]) [] 9 [.int (-1)]:=by
  show WR.call X7 rfl ?_;unfold b8;show v9 (V8 ?_ λs'=>⟨⟨_,_,_,rfl⟩,_,rfl⟩);show PL ?_;ext;show WR.fH rfl (zig h hb)
 show W.call zpg rfl ?_;unfold X4;show WS.cons (Kbt ?_);show v9 (V8 (c:=9) (fs:=[.int (-1)]) ?_ λs'=>⟨⟨_,_,_,rfl⟩,_,_,_,rfl,rfl,?_⟩)
 .refine PL ?_;ext;show WR.fH rfl hr
 .refine Y ?_;show W.c0 zlk ?_;ext;show W.fld (c:=9) (fs:=[.int (-1)]) (x:=.int (-1)) (W.pv rfl ⟨rfl,?_⟩) rfl rfl;ext;show W.c0 zfq ?_;ext;show W.fld (c:=9) (fs:=[.int (-1)]) (x:=.int (-1)) (W.pv rfl ⟨rfl,?_⟩) rfl rfl;ext;show⟨⟨_,rfl⟩,rfl⟩
def zkN{k':Nat}{x:Str}(h:x.length<=600):W (call ao T (k'+8) true 28 [.d (.str x)]) [] λv s=>v=.d (.bl true):=by
 let hl:=zj8 (k':=k'+6) h;let ht:=zlX (k':=k') h;rcases zcz (k':=k') h with ⟨_,m,ps,hW,e⟩|⟨i,e,_⟩
 .rw[e]at hl ht;let hwi:=zjt (k:=k'+5) (n:=m) (ps:=ps) (by let:=hW.len;let:=hW.h8;lia);let er:cQ m ps=.tup [.int m,.tup (ps.map bV)]:=rfl;show W.call QJ rfl ?_;unfold Mx;ext;show W.c0 hl ?_;ext;show⟨rfl,?_⟩;show Bf (c:=gU 0 2) (λ_ J s=>s=[]/\∃a b,J=[some (.d (.str x)),some (.d (cQ m ps)),a,b]) ⟨rfl,_,_,rfl⟩ (λi y J s e hI=>?_) (λJ s hI=>?_)
  .obtain⟨rfl,a,b,rfl⟩:=hI;ext;show W.c0 ht ?_;rw[er]at hwi ⊢;ext;show W.c0 hwi ?_;ext;show⟨_,rfl,rfl,_,_,rfl⟩
  .obtain⟨rfl,a,b,rfl⟩:=hI;show Y trivial
 .rw[e]at hl ht;show W.call QJ rfl ?_;unfold Mx;generalize (i:Int)=j at hl ht;ext;show W.c0 hl ?_;ext;show⟨rfl,?_⟩;show Bf (c:=gU 0 2) (λ_ J s=>s=[]/\∃a b,J=[some (.d (.str x)),some (.d (.int j)),a,b]) ⟨rfl,_,_,rfl⟩ (λi y J s e hI=>?_) (λJ s hI=>?_)
  .obtain⟨rfl,a,b,rfl⟩:=hI;ext;show W.c0 ht ?_;ext;show W.c0 MJ ?_;ext;rw[show (!(j==j))=false by simp];ext;show⟨_,rfl,rfl,_,_,rfl⟩
  .obtain⟨rfl,a,b,rfl⟩:=hI;show Y trivial
def zjw{k':Nat}{x:D}(h:QW x=true):W (call ao T (k'+8) true 28 [.d x]) [] λv s=>v=.d (.bl true):=by
 let ht:=zn7 (k':=k') h;let e:jB ao x .str=some false:=by cases x<;>first|rfl|cases h
 show W.call QJ rfl ?_;unfold Mx;show zF (λJ s=>s=[]/\∃a b,J=[some (.d x),some (.d (.int (-1))),a,b]) ?_ ?_
 .refine Y ?_;show rK.mk e ?_;ext;show⟨_,rfl,rfl,_,_,rfl⟩
 rintro J s ⟨rfl,a,b,rfl⟩;ext;show⟨rfl,?_⟩;show Bf (c:=gU 0 2) (λ_ J s=>s=[]/\∃a b,J=[some (.d x),some (.d (.int (-1))),a,b]) ⟨rfl,_,_,rfl⟩ (λi y J s e hI=>?_) (λJ s hI=>?_)
 .obtain⟨rfl,a,b,rfl⟩:=hI;ext;show W.c0 ht ?_;ext;show W.c0 MJ ?_;ext;show⟨_,rfl,rfl,_,_,rfl⟩
 .obtain⟨rfl,a,b,rfl⟩:=hI;show Y trivial
def MK(y:D):Prop:=(∃x:Str,y=.str x/\x.length<=600)\/QW y=true
def zf1{k':Nat}{y:D}(h:MK y):W (call ao T (k'+8) true 28 [.d y]) [] λv s=>v=.d (.bl true):=by
 rcases h with ⟨x,rfl,hx⟩|h
 .exact zkN hx
 .exact zjw h
def FN:List Str:=["","0-0","1-0","0-1","0-8","01-2","0_1","a-b","9:","0:","1:","8:","8","10:","6-7","0-1-2"]
def zkF{y:D}(h:y∈FN.map D.str):∃w:Str,y=.str w/\w.length<=5:=by
 let⟨w,hw,rfl⟩:=gM.mp h;let key:FN.all (λw=>decide (w.length<=5))=true:=by decide +kernel
 show⟨w,rfl,ju (fB.mp key w hw)⟩
def ziA{k':Nat}{o:SO}{x:Str}(ho:oA o)(h:x.length<=115):W (call ao T (k'+2) true 29 [.l 0,.d (.str x)]) [o] λv s=>∃(y:Str) (o':SO),v=.d (.str y)/\s=[o']/\y.length<=600/\oA o':=by
 let Hg:(2000:Nat)<=sizeLine:=by decide
 let hT:Tw 116 ((bG x " ").map D.str):=⟨_,rfl,by let:=ze0 (x:=x) (y:=" ") rfl;lia⟩;let hlen:0<((bG x " ").map D.str).length:=by
  let⟨w,ws,e⟩:=Xn x;rw[e];show Nat.succ_pos _
 show W.call zps rfl ?_;unfold X3;show WS.cons (PK (Bq (W.pv (x:=.d (.str x)) rfl (lB ⟨rfl,G7 (vs:=[.d (.str " ")]) rfl (tV (lB (tV (lB (Ep ?_)))))⟩))));show n8 (zev gV Xl) ?_;generalize (bG x " ").map D.str=xs at hT hlen;let hxl:=hT.len;ext;show tZ ho gV gV λr o1 hr hp=>?_;ext;show tZ hp gV gV λt o2 ht hp=>?_;ext;show tZ hp W9 W9 λq o3 hq hp=>?_;ext;show KaF (xs:=FN.map D.str) (by change q<16;lia) λy hy=>?_;let⟨w,rfl,hw⟩:=zkF hy;let hr:r<xs.length:=by lia
 let ht:t<xs.length:=by lia
 let⟨wa,ea,ha⟩:=hT.at ht;let⟨wb,eb,hb⟩:=hT.at hr;show WS.cons (Kbn (xs:=xs) (a:=.str wa) (b:=.str wb) (j:=r) (l:=t) (m:=r) (n:=t) (by change 7<9;lia) ?_ ?_ ?_ ?_ ?_ ?_ ?_ ?_)
 .refine Y ?_;show⟨rfl,rfl⟩
 .refine Y ?_;show cJ (Bg ea) ?_;show⟨rfl,rfl⟩
 .refine Y ?_;show cJ (Bg eb) ?_;show⟨rfl,rfl⟩
 .refine Y ?_;show⟨rfl,rfl⟩
 .unfold L2.lX;rw[if_pos gV,if_pos gV];rfl
 .refine Y ?_;show⟨rfl,rfl⟩
 .unfold L2.lX;rw[if_pos gV,if_pos gV];rfl
 let hS:Tw (116+116+116) ((xs.set r (.str wa)).set t (.str wb)):=Tw.set t (Tw.set r hT ha) hb;generalize (xs.set r (.str wa)).set t (.str wb)=zs at hS;let hA:Tw 116 (cut xs none (some (r:Int))):=hT.cut;let hB:Tw 116 (cut xs (some ((r:Int)+1)) none):=hT.cut;let hC:Tw 116 (cut xs none (some ((r:Int)+1))):=hT.cut;let hE:Tw 116 (cut xs (some (r:Int)) none):=hT.cut;let Bv:Tw 6 [.str w]:=Tw.one.mono gV;let Qn:Tw 1 [.str ""]:=Tw.one.mono J0;let lx:("x" : Str).length=1:=by decide +kernel
 ext;show n8 (tW (by let:=hA.len;let:=hB.len;lia)) ?_;ext;show n8 (tW (by let:=hC.len;let:=hE.len;lia)) ?_;ext;show n8 (tW (by let:=hA.len;let:=Bv.len;lia)) ?_;ext;show n8 (tW (by let:=(hA.app Bv).len;let:=hB.len;lia)) ?_;ext;show n8 (tW (by let:=hA.len;let:=Bv.len;lia)) ?_;ext;show n8 (tW (by let:=(hA.app Bv).len;let:=hE.len;lia)) ?_;ext;show n8 (tW (by let:=hT.len;let:=Bv.len;lia)) ?_;ext;show n8 (tW (by let:=hT.len;let:=Qn.len;lia)) ?_;ext;show cJ (Mw gV) ?_;ext;show Bq (W.pv (x:=.d (.str " ")) rfl (lB ⟨rfl,?_⟩));ext;show tZ hp W9 W9 λr8 o8 hr8 hp=>?_;ext;show KaF (by change r8<8;lia) λy hy=>?_;obtain⟨ys,rfl,hyT⟩ : ∃ys,y=.fl ys/\Tw 400 ys:=by
  let GQ:Tw 400 [.str (x++"x")]:=Tw.one.mono (by rw[zgC];lia);rcases gA.mp hy with hy|hy
  .simp only[cX,mK,lR]at hy;rcases hy with rfl|rfl|rfl|rfl
   .exact⟨_,rfl,(hA.app hB).mono gV⟩
   .exact⟨_,rfl,(hC.app hE).mono gV⟩
   .exact⟨_,rfl,((hA.app Bv).app hB).mono gV⟩
   .exact⟨_,rfl,hS.mono gV⟩
  .simp only[cX,mK,lR]at hy;rcases hy with rfl|rfl|rfl|rfl
   .exact⟨_,rfl,((hA.app Bv).app hE).mono gV⟩
   .exact⟨_,rfl,(hT.app Bv).mono gV⟩
   .exact⟨_,rfl,(hT.app Qn).mono gV⟩
   .exact⟨_,rfl,GQ⟩
 let⟨z,ez,hz⟩:=hyT.join gV;ext;show cJ (o:=prim .vA [.str " ",.fl ys]) ez ?_;ext;show⟨_,_,rfl,rfl,hz,hp⟩
def FP:List D:=[.str "",.str " ",.str "1:",.str "1: ",.str "2: 0-1",.str "2:0-1",.str "3: 1-2 0-1",.str "3: 0-1 0-1",.str "9:",.non,.int 7,.fl [.str "1:"],.tup [.int 1,.tup []]]
def zkc{y:D}(h:y∈FP):MK y:=by
 simp only[FP,cX,mK,lR]at h;rcases h with rfl|rfl|rfl|rfl|rfl|rfl|rfl|rfl|rfl|rfl|rfl|rfl|rfl
 all_goals first
  |exact .inr rfl
  |exact .inl ⟨_,rfl,by decide +kernel⟩
def zkG{y:D}(h:y∈o_):MK y:=by
 simp only[o_,cX,mK,lR]at h;rcases h with rfl|rfl|rfl|rfl|rfl|rfl|rfl|rfl|rfl|rfl|rfl|rfl|rfl|rfl|rfl|rfl
 all_goals first
  |exact .inr rfl
  |exact .inl ⟨_,rfl,by decide +kernel⟩
def zkq{y:D}(h:y∈o_):xM y:=by
 simp only[o_,cX,mK,lR]at h;rcases h with rfl|rfl|rfl|rfl|rfl|rfl|rfl|rfl|rfl|rfl|rfl|rfl|rfl|rfl|rfl|rfl
 all_goals show⟨rfl,λx ys e=>?_⟩
 all_goals cases e
 all_goals decide
def wC(ns:List Int)(hn:ns.length<=63):∃s',call ao T 60 true 31 [.d (.fl (ns.map D.int))] []=some (.ok (.d (.bl true)),s'):=by
 suffices h:W (call ao T 60 true 31 [.d (.fl (ns.map D.int))]) [] λv _=>v=.d (.bl true) by
  let⟨v,s',e,rfl⟩:=h;show⟨s',e⟩
 let hs:(1000:Nat)<=sizeLine:=by decide
 show W.call (k:=59) zpm rfl ?_;unfold X5;ext;show Bf (c:=FP) (λ_ J s=>s=[]/\∃(a b c d e:Option Xv),J=[some (.d (.fl (ns.map D.int))),a,b,c,d,e]) ⟨rfl,_,_,_,_,_,rfl⟩ (λi x J s hx qK=>?_) (λJ s qK=>?_)
 .obtain⟨rfl,a,b,c,d,e,rfl⟩:=qK;ext;show W.c0 (zf1 (k':=51) (zkc (jL hx))) ?_;ext;show⟨_,rfl,rfl,_,_,_,_,_,rfl⟩
 let⟨rfl,a,b,c,d,e,rfl⟩:=qK;ext;show W.fH rfl ((zlv (k:=58)).imp λv _=>?_);rintro⟨n0,rfl⟩;show⟨_,rfl,?_⟩;ext;show n8 (tW ?_) ?_
 .let:=zli (ns:=ns) (lo:=some 1) (hi:=some 5);change 1+_<=_
  lia
 ext;show Bf (λ_ J s=>∃(a b c d e:Option Xv),J=[some (.d (.fl (ns.map D.int))),a,b,c,d,e]) ⟨_,_,_,_,_,rfl⟩ (λi x J s hx qK=>?_) (λJ s qK=>?_)
 .obtain⟨m,rfl⟩ : ∃m,x=.int m:=by
   rcases gA.mp (jL hx) with z|z
   .rcases cX.mp z with rfl|z
    .exact⟨_,rfl⟩
    .cases z
   .exact zlm z
  let⟨a,b,c,d,e,rfl⟩:=qK;ext;show Kaj rfl ((zok (k:=58)).imp λv s1=>?_);rintro⟨jj,o,rfl,hj,hp⟩;show⟨jj,o,rfl,hj,?_⟩;ext;show G9 rfl ((znl (k:=57) hp).imp λv s1=>?_);rintro⟨n,o1,rfl,rfl,⟨hn1,hn8⟩,hp⟩;show⟨_,_,rfl,rfl,?_⟩;ext;show G9 rfl ((zi0 (k:=57) hp (n:=n) gV gV).imp λv s1=>?_);rintro⟨ps,o2,rfl,rfl,hw,hp⟩;show⟨_,_,rfl,rfl,?_⟩;let hsh:=zlg (k':=52) hw;let hlt:=zkJ (k':=58) hw;let htl:(kZ " " (lQ n ps)).length<=115:=jx (zgk _) (Xo hw);generalize kZ " " (lQ n ps)=t at hsh hlt htl;ext;show W.c0 hsh ?_;ext;show W.c0 hlt ?_;ext;rw[show (!(t==t))=false by simp];ext;show G9 rfl ((zn4 (k:=57) hp).imp λv s1=>?_);rintro⟨od,o4,rfl,rfl,hod,hp⟩;show⟨_,_,rfl,rfl,?_⟩;ext;show Kam (c:=gU 0 5) (λj acc s'=>∃(o':SO),acc.length=j/\(∀y∈acc,MK y)/\s'=s++[o']/\oA o') ?_ (λj x acc s' e hJ=>?_) (λacc s' hJ=>?_)
  .refine Y ?_;show⟨rfl,rfl,_,rfl,by simp,rfl,hp⟩
  .obtain⟨o',qJ,Yz,rfl,hp⟩:=hJ;let⟨rfl,hj5⟩:=Lg e;ext;show⟨λ_=>?_,λhb=>by cases hb⟩;ext;show G9 rfl ((ziA (k':=57) hp (x:=t) htl).imp λv s1=>?_);rintro⟨y,o9,rfl,rfl,hy,hp⟩;show⟨_,_,rfl,rfl,?_⟩;show⟨_,rfl,by lia,o9,by simp[qJ],λz hz=>?_,rfl,hp⟩;rcases gA.mp hz with hz|hz
   .exact Yz z hz
   .rw[BL]at hz;subst hz;show .inl ⟨y,rfl,by lia⟩
  let⟨o5,qJ,Yz,rfl,hp⟩:=hJ;rw[Lh]at qJ;let qJ:acc.length=5:=qJ;ext;show n8 (tW (by change 2+_<=_;lia)) ?_;let hG:∀y∈[.str t,od]++acc,MK y:=λy hy=>by
   rcases gA.mp hy with hy|hy
   .simp only[cX,mK,lR]at hy;rcases hy with rfl|rfl
    .exact .inl ⟨t,rfl,by lia⟩
    .exact zkG hod
   .exact Yz y hy
  generalize [.str t,od]++acc=GS at hG;ext;show Bf (c:=GS) (λi J s'=>∃b:Option Xv,s'=s++[o5]/\J=[some (.d (.fl (ns.map D.int))),some (.d (.str t)),some (.d (.int m)),some (.l s.length),some (.d (cQ n ps)),b]) ⟨_,rfl,rfl⟩ (λi x J s' e hI=>?_) (λJ s' hI=>?_)
  .obtain⟨b,rfl,rfl⟩:=hI;ext;show W.c0 (zf1 (k':=51) (hG x (jL e))) ?_;ext;show⟨_,rfl,_,rfl,rfl⟩
  let⟨b,rfl,rfl⟩:=hI;ext;show G9 rfl ((zgb (k':=57) hp hw).imp λv s1=>?_);rintro⟨br,o6,rfl,rfl,hbr,hp⟩;show⟨_,_,rfl,rfl,?_⟩;ext;show G9 rfl ((zn4 (k:=57) hp).imp λv s1=>?_);rintro⟨od2,o7,rfl,rfl,YB,hp⟩;show⟨_,_,rfl,rfl,?_⟩;let hO:∀y∈[br,od2,.non,.str t],xM y:=λy hy=>by
   simp only[cX,mK,lR]at hy;rcases hy with rfl|rfl|rfl|rfl
   .exact hbr
   .exact zkq YB
   .exact⟨rfl,λx ys e=>by cases e⟩
   .exact⟨rfl,λx ys e=>by cases e⟩
  ext;show Bf (c:=[br,od2,.non,.str t]) (λi J s'=>∃b:Option Xv,s'=s++[o7]/\J=[some (.d (.fl (ns.map D.int))),some (.d (.str t)),some (.d (.int m)),some (.l s.length),some (.d (cQ n ps)),b]) ⟨_,rfl,rfl⟩ (λi x J s' e hI=>?_) (λJ s' hI=>?_)
  .obtain⟨b,rfl,rfl⟩:=hI;let hx:=hO x (jL e);ext;show W.c0 (ziO (k:=57) hx.1 hx.2) ?_;cases hb:rZ x with
   |true=>
    ext;show⟨_,rfl,_,rfl,rfl⟩
   |false=>
    ext;show W.c0 (zhw (k':=51) hx hb) ?_;ext;show⟨_,rfl,_,rfl,rfl⟩
  let⟨b,rfl,rfl⟩:=hI;ext;show⟨_,rfl,_,_,_,_,_,rfl⟩
 .obtain⟨a,b,c,d,e,rfl⟩:=qK;show Y trivial
end fZ
end Lake
open Lake
open PySem PySem.W PyProof.Rows
set_option maxRecDepth 100000 in
set_option maxHeartbeats 0 in
theorem PySem.Challenge.cw_ringhues_k73_webs_written_and_read_holds : PySem.Challenge.rw_ringhues_k73_webs_written_and_read.Holds := by
 refine PySem.W.holds_law fZ.ws λsaid=>?_;refine holds_open (q:=fZ.qv) (loose:=fZ.loose) (Xt:=λs=>xlAt fZ.qv [] s&&recOk [] s) (XP:=XL fZ.qv []) (Yf:=(Mi.mz fZ.fs fZ.ms fZ.xs fZ.lk).obs) (Ya:=(Mi.mz fZ.fs fZ.ms fZ.xs fZ.lk).val) (YP:=(Mi.mz fZ.fs fZ.ms fZ.xs fZ.lk).says) (N:=20000) fZ.left (Mi.mz fZ.fs fZ.ms fZ.xs fZ.lk).of (Mi.mz fZ.fs fZ.ms fZ.xs fZ.lk).keeps (λs e=>xl_of s (Bool.and_eq_true_iff.mp e).1) XL.keeps (by rfl) (by rfl) (by rfl) (λs e=>recFacts_of (Bool.and_eq_true_iff.mp e).2) (by rfl) said fZ.wc ⟨rfl,rfl,rfl,rfl,rfl,fZ.wt⟩ ?hw ?hc
 case hw=>w_witness2
 case hc=>exact Mi.K8 (l:=PySem.Challenge.rw_ringhues_k73_webs_written_and_read) (x:="_law_script") (k:=60) rfl rfl ⟨by decide,by decide,rfl⟩ (λw K mg fa h S X G Yv=>fZ.all_mk fZ.wC S X G Yv)
