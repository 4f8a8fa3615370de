import PyProof.Rows.All
import Wide.All
import OpenK.AllK
import Wide.FinOn
import Lean
import PyProof.EqAt
import PyProof.EqKinds
import PyProof.TupleCall
import PyProof.NeKinds
import PyProof.CompFree
import PyProof.EnumMake
import KE.KNest
import PyProof.SumWalk
import PyProof.WalksMore
import PyProof.ZipIter
import PyProof.DictWalks
import PyProof.DictKinds
import PyProof.DictStraight
import KE.KSortKey
import PyProof.Rows.CallKwBuiltin
import KE.KLam
import KE.KSortAsk
import KE.KSortTup
import PyProof.ListRange
import PyProof.CollectIter
import KE.KRevSl
import PyProof.AutoSeq1
import PyProof.Draws
import PyProof.TupleIter
import KE.KMinKey
import PyProof.Rows.Range3
import KE.KRevIter
import PyProof.DictDisplay
import PyProof.Rows.MinMaxN
import OpenK.KCls
import KE.IntBitsLaws
import KE.RegKIsAll
import PySem.Challenge.RW_barwright_k33_bars_by_hand
set_option Elab.async false
set_option linter.all false
set_option maxRecDepth 100000
set_option maxHeartbeats 4000000
namespace KG
section
open PySem PySem.W PyProof.Rows
noncomputable def yim (p:Program)(w:World)(N:Nat):Option Shared :=
 ((Fast.tw10274390034422433532 Fast.tw14364793385576792824 (opening p) w N (Fast.tw1435165496053646825 (opening p)).fst (Fast.tw1435165496053646825 (opening p)).snd).bind (Fast.tw14289696077712309145 p)).bind
  λs₀=>match s₀.heap.isNs mainGlobals&&s₀.gens.size==0 with
  | true=>(Fast.tw14082659384304107361 Fast.tw14364793385576792824 p w s₀.heap.objs.size (s₀.heap.nsMap mainGlobals (Str.ofString "__annotations__")) N s₀ (topStub p)).bind
    λs₁=>match staticsOk (importedModules p.main.body) s₀.heap s₁.heap&&namesBound p s₁.heap&&gensDone s₁&&laidKept s₀.heap s₁.heap with
    | true=>some s₁
    | false=>none
  | false=>none
noncomputable abbrev yc9 (p q:Program)(loose:List Str)(Xt:Shared→Bool):=Fast.tw4187177175401517315 q loose (importedModules p.main.body) Xt true
theorem yjm {p q:Program}{loose:List Str}{Xt:Shared→Bool}{α:Type}{Yf:Shared→α}{a:α}{N:Nat}{w:World}
  (h1:(yim p w N).map (λs=>((yc9 p q loose Xt s).1,(yc9 p q loose Xt s).2.1))=some ((openGood q loose).1,(openGood q loose).2.1)∧True)
  (h2:(yim p w N).map (λs=>((yc9 p q loose Xt s).2.2.1,(yc9 p q loose Xt s).2.2.2.1))=some ((openGood q loose).2.2.1,(openGood q loose).2.2.2.1)∧True)
  (h3:(yim p w N).map (λs=>((yc9 p q loose Xt s).2.2.2.2.1,(yc9 p q loose Xt s).2.2.2.2.2.1))=some ((openGood q loose).2.2.2.2.1,(openGood q loose).2.2.2.2.2.1)∧True)
  (h4:(yim p w N).map (λs=>(yc9 p q loose Xt s).2.2.2.2.2.2)=some (openGood q loose).2.2.2.2.2.2∧True)
  (h5:(yim p w N).map Yf=some a∧True) :
  (openEnds treeTable p w N).map (λs=>(openSeen q loose (importedModules p.main.body) Xt true s,Yf s))=some (openGood q loose,a):=by
 replace h1:=h1.1;replace h2:=h2.1;replace h3:=h3.1;replace h4:=h4.1;replace h5:=h5.1
 unfold openEnds fencedOpening topFrom
 rw[Fast.te14364793385576792824,Fast.te10274390034422433532,Fast.te4187177175401517315,Fast.te14082659384304107361,Fast.te1435165496053646825,Fast.te14289696077712309145]
 show(yim p w N).map _=_
 cases r:yim p w N with
 | none=>rw[r] at h5;cases h5
 | some s =>
  rw[r] at h1 h2 h3 h4 h5
  simp only[Option.map_some,Option.some.injEq,Prod.mk.injEq] at h1 h2 h3 h4 h5 ⊢
  exact⟨Prod.ext h1.1 (Prod.ext h1.2 (Prod.ext h2.1 (Prod.ext h2.2 (Prod.ext h3.1 (Prod.ext h3.2 h4))))),h5⟩
theorem ynX {l:OpenLaw}(ok:Fast.tw9446332074065402090 l=true∧True)(h:l.row.wellSaid=true→l.row.Holds):l.Holds:=by
 refine holds_law ?_ h
 rw[Fast.te9446332074065402090]
 exact ok.1
local macro_rules | `(tactic| o_head $_) => `(tactic| assumption)
theorem pre (h:PySem.Challenge.rw_barwright_k33_bars_by_hand.row.Holds):PySem.Challenge.rw_barwright_k33_bars_by_hand.row.Holds:=by k_head
noncomputable abbrev hkx:Hook:=kmHook pre.heap_1 [2,3,15,17,18,20,21,22,23,25,26,28,29,30,32,33,35,36,37,39,40,42,43,51,53,54,56,57,58,60,61,63,64,65,67,68,70,71,72,73,74,75,76,79,86,88,89,91,92,93,95,96,98,99,100,102,103,105,106,107,109,110,112,113,114,115,116,119,126,128,129,131,132,133,135,136,138,139,140,142,143,145,146,147,149,150,152,153,154,155,156,159,166,168,169,171,172,173,175,176,178,179,180,182,183,185,186,187,189,190,192,193,194,195,196,199,201,202,204,205,206,207,210,211,212,214,215,217,218,219,221,222,224,225,233,235,236,238,239,240,242,243,245,246,247,248,249,250,251,254,261,263,264,266,267,268,269,270,273,280,282,283,285,286,287,289,290,292,293,294,295,296,299,301,302,304,305,313,316,317,318,321,322,323,324,325,326,327,330,332,333,335,336,337,340,341,342,344,345,347,348,349,351,352,354,355,356,358,359,361,362,363,365,366,368,369,370,373,374,375,378,379,380,382,383,385,386,387,389,390,392,393,394,396,397,399,400,401,404,405,406,408,409,411,412,413,416,417,418,420,421,423,424,425,427,428,430,431,432,434,435,437,438,439,441,442,444,445,446,448,449,451,452,453,455,456,458,459,460,462,463,465,466,467,469,470,472,473,474,476,477,479,480,481,484,485,486,489,490] (λ_=>by kernel_rfl) [213]
noncomputable def qx:Program:={ PySem.Challenge.pw_barwright_k33_bars_by_hand with main:={ PySem.Challenge.pw_barwright_k33_bars_by_hand.main with body:=[0,2,3,5,6,8,10,11,12,13,14,16,17,18,19,20,22,23,24,25,27,28,29,30,31,32,33,34,36,37,38,39,40,41,42,43,44,45,46,47,48,49,50,51,52,53].filterMap λi=>PySem.Challenge.pw_barwright_k33_bars_by_hand.main.body[i]? } }
noncomputable def dx:DefRec:=((defOf qx "law").map (·.1)).getD ⟨"",default,[],default,default⟩
noncomputable abbrev lox:List Str:=[]
noncomputable abbrev xtx (s:Shared):Bool:=xlAt qx [] s&&recOk PySem.Challenge.rw_barwright_k33_bars_by_hand.row.toRowW.records s
theorem ypA:Fast.tw9446332074065402090 PySem.Challenge.rw_barwright_k33_bars_by_hand=true∧True:=⟨by kernel_rfl,trivial⟩
theorem hx1 (w:World):(yim PySem.Challenge.rw_barwright_k33_bars_by_hand.row.prog w 7138).map (λs=>((yc9 PySem.Challenge.rw_barwright_k33_bars_by_hand.row.prog qx lox xtx s).1,(yc9 PySem.Challenge.rw_barwright_k33_bars_by_hand.row.prog qx lox xtx s).2.1))=some ((openGood qx lox).1,(openGood qx lox).2.1)∧True:=⟨by kernel_rfl,trivial⟩
theorem hx2 (w:World):(yim PySem.Challenge.rw_barwright_k33_bars_by_hand.row.prog w 7138).map (λs=>((yc9 PySem.Challenge.rw_barwright_k33_bars_by_hand.row.prog qx lox xtx s).2.2.1,(yc9 PySem.Challenge.rw_barwright_k33_bars_by_hand.row.prog qx lox xtx s).2.2.2.1))=some ((openGood qx lox).2.2.1,(openGood qx lox).2.2.2.1)∧True:=⟨by kernel_rfl,trivial⟩
theorem hx3 (w:World):(yim PySem.Challenge.rw_barwright_k33_bars_by_hand.row.prog w 7138).map (λs=>((yc9 PySem.Challenge.rw_barwright_k33_bars_by_hand.row.prog qx lox xtx s).2.2.2.2.1,(yc9 PySem.Challenge.rw_barwright_k33_bars_by_hand.row.prog qx lox xtx s).2.2.2.2.2.1))=some ((openGood qx lox).2.2.2.2.1,(openGood qx lox).2.2.2.2.2.1)∧True:=⟨by kernel_rfl,trivial⟩
theorem hx4 (w:World):(yim PySem.Challenge.rw_barwright_k33_bars_by_hand.row.prog w 7138).map (λs=>(yc9 PySem.Challenge.rw_barwright_k33_bars_by_hand.row.prog qx lox xtx s).2.2.2.2.2.2)=some (openGood qx lox).2.2.2.2.2.2∧True:=⟨by kernel_rfl,trivial⟩
theorem hx5 (w:World):(yim PySem.Challenge.rw_barwright_k33_bars_by_hand.row.prog w 7138).map hkx.obs=some (hkx.val w)∧True:=⟨by kernel_rfl,trivial⟩
theorem headx (call:WalkO qx lox (XL qx []) hkx.says PySem.Challenge.rw_barwright_k33_bars_by_hand.row.toRowW dx [] λf vs=>PySem.call f vs):PySem.Challenge.rw_barwright_k33_bars_by_hand.Holds:=by
 refine ynX ypA λsaid=>holds_open (d:=dx) (kwd:=[]) (q:=qx) (loose:=lox) (Xt:=xtx) (XP:=XL qx []) (Yf:=hkx.obs) (Ya:=hkx.val) (YP:=hkx.says) (N:=7138) (λw=>yjm (hx1 w) (hx2 w) (hx3 w) (hx4 w) (hx5 w)) hkx.of hkx.keeps
  (λs e=>xl_of s (Bool.and_eq_true_iff.mp e).1) XL.keeps ?h1 ?h2 ?h3 (λs e=>recFacts_of (Bool.and_eq_true_iff.mp e).2) ?h4 said ?h5 ⟨?a,?b,?c,?d,?e,?f⟩ ?hw call
 case hw=>w_witness2
 case h5=>decide +kernel
 case f=>decide +kernel
 all_goals kernel_rfl
theorem dx_name:dx.name="law":= by kernel_rfl
theorem dx_dfl:dx.params.defaults=[]:=by kernel_rfl
noncomputable def mx:DefRec:=((recsOf qx).find? (λe=>e.name==Str.ofString "in_time")).getD ⟨"",default,[],default,default⟩
theorem mx_is:(recsOf qx).find? (λe=>e.name==Str.ofString "in_time")=some mx:=by kernel_rfl
end
end KG
namespace L2
open PySem PySem.Spec PyProof.Rows
abbrev Key:=Sum Int Str
def yhZ:Key→Value→Bool
 | .inl k,v=>Value.isInt k v
 | .inr x,v=>Value.isStrOf x v
def yrx (w:World):Key→Int
 | .inl k=>hashInt k
 | .inr x=>hashStr w x
theorem ya6:∀ {k:Key} {v:Value},yhZ k v=true→(∃ i t,k=Sum.inl i∧v=Value.int i t)∨(∃ x t,k=Sum.inr x∧v=Value.str x t)
 | .inl i,v,h=>by
  obtain⟨t,e⟩:=Value.isInt_shape (k:=i) (v:=v) h
  exact .inl ⟨i,t,rfl,e⟩
 | .inr x,v,h=>by
  obtain⟨t,e⟩:=Value.isStrOf_shape (x:=x) (v:=v) h
  exact .inr ⟨x,t,rfl,e⟩
theorem yiq (i:Int)(t:Tok):yhZ (.inl i) (.int i t)=true:=by simp[yhZ,Value.isInt]
theorem yiC (x:Str)(t:Tok):yhZ (.inr x) (.str x t)=true:=by simp[yhZ,Value.isStrOf]
theorem ymY (a b:Int):decide ((Sum.inl a:Key)=Sum.inl b)=(a==b):=by
 by_cases e:a=b
 ·subst e;simp
 ·have h:¬ (Sum.inl a:Key)=Sum.inl b:=λq=>e (Sum.inl.inj q)
  rw[decide_eq_false h]
  exact(beq_eq_false_iff_ne.mpr e).symm
theorem ymS (a b:Str):decide ((Sum.inr a:Key)=Sum.inr b)=decide (a=b):=by
 by_cases e:a=b
 ·subst e;simp
 ·have h:¬ (Sum.inr a:Key)=Sum.inr b:=λq=>e (Sum.inr.inj q)
  rw[decide_eq_false h,decide_eq_false e]
theorem ym3 (a:Int)(b:Str):decide ((Sum.inl a:Key)=Sum.inr b)=false:=decide_eq_false (λq=>nomatch q)
theorem ynu (a:Str)(b:Int):decide ((Sum.inr a:Key)=Sum.inl b)=false:=decide_eq_false (λq=>nomatch q)
def ybn (prog:Program)(w:World):PySem.KeyKind prog w Key where
 is:=yhZ
 hash:=yrx w
 inj:=λv a b ha hb=>by
  rcases ya6 ha with ⟨i,t,rfl,rfl⟩ | ⟨x,t,rfl,rfl⟩
  ·rcases ya6 hb with ⟨j,u,rfl,e⟩ | ⟨y,u,rfl,e⟩
   ·injection e with e1 _;rw[e1]
   ·exact nomatch e
  ·rcases ya6 hb with ⟨j,u,rfl,e⟩ | ⟨y,u,rfl,e⟩
   ·exact nomatch e
   ·injection e with e1 _;rw[e1]
 byValue:=λk v h=>by
  rcases ya6 h with ⟨i,t,rfl,rfl⟩ | ⟨x,t,rfl,rfl⟩<;>rfl
 pyHash:=λhv h=>by
  rcases ya6 hv with ⟨i,t,rfl,rfl⟩ | ⟨x,t,rfl,rfl⟩
  ·exact wpAny_pyHash_int h
  ·exact wpAny_pyHash_str h
 eqBool:=λhu hv h=>by
  rcases ya6 hu with ⟨i,t,rfl,rfl⟩ | ⟨x,t,rfl,rfl⟩
  ·rcases ya6 hv with ⟨j,u,rfl,rfl⟩ | ⟨y,u,rfl,rfl⟩
   ·rw[ymY] at h;exact wpAny_eqBool_int h
   ·rw[ym3] at h;exact SeqAt.EqAt.int_str i t y u _ _ _ _ h
  ·rcases ya6 hv with ⟨j,u,rfl,rfl⟩ | ⟨y,u,rfl,rfl⟩
   ·rw[ynu] at h;exact SeqAt.EqAt.str_int x t j u _ _ _ _ h
   ·rw[ymS] at h;exact wpAny_eqBool_str h
 «strs»:=λk x t v h=>by
  rcases ya6 h with ⟨i,u,rfl,e⟩ | ⟨y,u,rfl,e⟩
  ·exact nomatch e
  ·injection e with e1 _
   subst e1
   cases v<;>rfl
theorem ygI (prog:Program)(w:World)(i:Int)(t:Tok):(ybn prog w).is (.inl i) (.int i t)=true:=yiq i t
theorem ygO (prog:Program)(w:World)(x:Str)(t:Tok):(ybn prog w).is (.inr x) (.str x t)=true:=yiC x t
inductive V where
 | non | bl (b:Bool) | int (i:Int) | str (x:Str) | byt (b:Array UInt8) | flt (b:UInt64) | ref (a:Addr) | ty (n:String)
 deriving DecidableEq
def RelV:V→Value→Prop
 | .non,u=>u=Value.none
 | .bl b,u=>u=Value.bool b
 | .int i,u=>∃ t,u=Value.int i t
 | .str x,u=>∃ t,u=Value.str x t
 | .byt b,u=>∃ t,u=Value.bytes b t
 | .flt b,u=>∃ t,u=Value.float b t
 | .ref a,u=>u=Value.ref a
 | .ty n,u=>u=Value.type n
abbrev Vals:List V→List Value→Prop:=Paired RelV
theorem Vals.length {xs:List V}{us:List Value}(r:Vals xs us):xs.length=us.length:=Paired.length r
theorem Vals.get:∀ {xs:List V} {us:List Value} {i:Nat} {x:V},Vals xs us→xs[i]?=some x→∃ u,us[i]?=some u∧RelV x u
 | _,_,_,_,.nil,e=>by simp at e
 | _,_,0,_,.cons r _,e=>by simp at e;subst e;exact⟨_,rfl,r⟩
 | _,_,i+1,x,.cons _ t,e=>by
  obtain⟨u,h1,h2⟩:=Vals.get (i:=i) (x:=x) t (by simpa using e)
  exact⟨u,by simpa using h1,h2⟩
theorem Vals.set {x:V}{u:Value}(r:RelV x u):∀ {xs:List V} {us:List Value} (i:Nat),Vals xs us→Vals (xs.set i x) (us.set i u)
 | _,_,_,.nil=>.nil
 | _,_,0,.cons _ t=>.cons r t
 | _,_,i+1,.cons q t=>.cons q (Vals.set r i t)
theorem Vals.append:∀ {xs ys:List V} {us ws:List Value},Vals xs us→Vals ys ws→Vals (xs++ys) (us++ws)
 | _,_,_,_,.nil,s=>s
 | _,_,_,_,.cons r t,s=>.cons r (Vals.append t s)
theorem Vals.take:∀ {xs:List V} {us:List Value} (n:Nat),Vals xs us→Vals (xs.take n) (us.take n)
 | _,_,0,_=>.nil
 | _,_,_+1,.nil=>.nil
 | _,_,n+1,.cons r t=>.cons r (Vals.take n t)
theorem Vals.drop:∀ {xs:List V} {us:List Value} (n:Nat),Vals xs us→Vals (xs.drop n) (us.drop n)
 | _,_,0,r=>r
 | _,_,_+1,.nil=>.nil
 | _,_,n+1,.cons _ t=>Vals.drop n t
def RelO:Option V→Option Value→Prop
 | some v,some u=>RelV v u
 | none,none=>True
 | _,_=>False
def KV {κ:Type}:List (κ×V)→List (κ×Value)→Prop:=Paired λ(p:κ×V) (q:κ×Value)=>p.1=q.1∧RelV p.2 q.2
def kV:Key→V
 | .inl i=>.int i
 | .inr x=>.str x
inductive HO where
 | lst (xs:List V)
 | tup (xs:List V)
 | dK (kvs:List (Key×V)) | dT (kvs:List (List Key×V))
 | set (S:Int→Bool) (n:Nat)
 | ins (C dx:Addr) (fs:List (Str×V))
 | own (x:Addr)
 | xd (fs:List (Str×V))
 | met (f x:Addr)
 | rng (lo hi:Int)
 | frz (o:Obj) (u:HO)
 | tbl (ps:Array Value)
 | ext (φ:Heap→Prop)
abbrev Hp:=Addr→Option HO
def upd (H:Hp)(a:Addr)(o:HO):Hp:=λb=>if b=a then some o else H b
theorem yab {H:Hp}{a:Addr}{o:HO}:upd H a o a=some o:=by unfold upd;rw[if_pos rfl]
theorem yai {H:Hp}{a b:Addr}{o:HO}(h:b≠a):upd H a o b=H b:=by unfold upd;rw[if_neg h]
theorem ypT {H:Hp}{a b:Addr}{o u:HO}(h:H a=some o)(h':H b=some u)(d:o≠u):a≠b:=by
 intro e;subst e;rw[h] at h';exact d (Option.some.inj h')
theorem yad {H:Hp}{a b:Addr}{o:HO}(h:H a=some o)(h':H b=none):a≠b:=by
 intro e;subst e;rw[h] at h';cases h'
section
variable (P:Program) (w:World)
def ObjOk (H:Hp)(h:Heap)(a:Addr):HO→Prop
 | .lst xs=>xs.length≤sizeLine∧∃ (its:List Value) (n:Nat),Vals xs its∧h.get? a=some { cls:=.type "list",data:=.seq its.toArray n }
 | .tup xs=>xs.length≤sizeLine∧∃ its:List Value,Vals xs its∧IsTup h a its.toArray
 | .dK kvs=>kvs.length≤sizeLine∧(a==sysModules)=false∧∃ vs,KV kvs vs∧h.DictOf (ybn P w) a vs
 | .dT kvs=>kvs.length≤sizeLine∧(a==sysModules)=false∧∃ xs:List (List Key×Addr×Value),
   Paired (λ(p:List Key×V) (q:List Key×Addr×Value)=>p.1=q.1∧H q.2.1=some (.tup (p.1.map kV))∧RelV p.2 q.2.2) kvs xs ∧
   ∃ o es ep,h.get? a=some o∧o.ExactDict∧o.data=.dict es ep∧es.toList=xs.map (entryOfKey (tupleKind (ybn P w)))∧(xs.map (·.1)).Nodup
 | .set S n=>h.SetOf (intKind P w) a S n
 | .ins C dx fs=>H dx=some (.own a)∧fs.length≤1000∧dx≠a∧h.get? a=some (PySem.W.instObj C dx) ∧
   ∃ mA,h.Ns1 dx mA∧(∀ f,RelO (fs.lookup f) (mA f))∧PySem.Within mA (fs.map (·.1))
 | .own _=>∃ o,h.get? a=some o
 | .xd fs=>∃ mA,h.Ns1 a mA∧∀ f,RelO (fs.lookup f) (mA f)
 | .rng lo hi=>∃ t u v,h.get? a=some { cls:=.type "range",data:=.fields #[.int lo t,.int hi u,.int 1 v] }
 | .frz o u=>h.get? a=some o∧ObjOk H h a u
 | .tbl ps=>h.get? a=some { cls:=.none,data:=.fields ps }
 | .met f x=>h.get? a=some (PySem.W.methodObj (.ref f) (.ref x))
 | .ext φ=>φ h∧(∃ o,h.get? a=some o)∧∀ h1 h2:Heap,φ h1→(∀ o,h1.get? a=some o→h2.get? a=some o)→φ h2
def HOk (H:Hp)(h:Heap):Prop:=∀ a o,H a=some o→ObjOk P w H h a o
end
section
variable {P:Program} {w:World} {H H':Hp} {h h':Heap} {a:Addr} {o:HO}
theorem ObjOk.lt (x:ObjOk P w H h a o):a < h.objs.size:=by
 cases o with
 | lst xs=>obtain⟨_,_,_,_,e⟩:=x;exact Heap.lt_size e
 | tup xs=>obtain⟨_,_,_,p⟩:=x;exact p.lt
 | dK kvs=>obtain⟨_,_,_,_,o,_,_,e,_⟩:=x;exact Heap.lt_size e
 | dT kvs=>obtain⟨_,_,_,_,o,_,_,e,_⟩:=x;exact Heap.lt_size e
 | set S n=>obtain⟨o,_,_,_,e,_⟩:=x;exact Heap.lt_size e
 | ins C dx fs=>obtain⟨_,_,_,e,_⟩:=x;exact Heap.lt_size e
 | own y=>obtain⟨_,e⟩:=x;exact Heap.lt_size e
 | xd fs=>obtain⟨_,⟨_,_,_,e,_⟩,_⟩:=x;exact Heap.lt_size e
 | rng lo hi=>obtain⟨_,_,_,e⟩:=x;exact Heap.lt_size e
 | frz ob u=>obtain⟨e,_⟩:=x;exact Heap.lt_size e
 | tbl ps=>exact Heap.lt_size (show h.get? a=some _ from x)
 | met f y=>exact Heap.lt_size (show h.get? a=some _ from x)
 | ext φ=>obtain⟨_,⟨_,e⟩,_⟩:=x;exact Heap.lt_size e
theorem Paired.mapP {α β:Type}{F G:α→β→Prop}:∀ {l₁:List α} {l₂:List β},Paired F l₁ l₂→(∀ a b,F a b→G a b)→Paired G l₁ l₂
 | _,_,.nil,_=>.nil
 | _,_,.cons r t,f=>.cons (f _ _ r) (Paired.mapP t f)
theorem ObjOk.stay (x:ObjOk P w H h a o)(k:∀ b u,(b=a∨H b=some (.own a))→h.get? b=some u→h'.get? b=some u)
  (ho:∀ b,H b=some (.own a)→H' b=some (.own a)) (ht:∀ b xs,H b=some (.tup xs)→H' b=some (.tup xs)):ObjOk P w H' h' a o:=by
 induction o with
 | lst xs=>obtain⟨z,its,n,r,e⟩:=x;exact⟨z,its,n,r,k _ _ (.inl rfl) e⟩
 | tup xs=>obtain⟨z,its,r,ob,e,c⟩:=x;exact⟨z,its,r,ob,k _ _ (.inl rfl) e,c⟩
 | dK kvs=>obtain⟨z,y,vs,r,ob,es,ep,e,c⟩:=x;exact⟨z,y,vs,r,ob,es,ep,k _ _ (.inl rfl) e,c⟩
 | dT kvs =>
  obtain⟨z,y,xs,r,ob,es,ep,e,c⟩:=x
  exact⟨z,y,xs,Paired.mapP r λp q z=>⟨z.1,ht _ _ z.2.1,z.2.2⟩,ob,es,ep,k _ _ (.inl rfl) e,c⟩
 | set S n=>obtain⟨ob,es,ep,t,e,c⟩:=x;exact⟨ob,es,ep,t,k _ _ (.inl rfl) e,c⟩
 | ins C dx fs =>
  obtain⟨d,z,ne,e,mA,⟨od,es,ep,e2,c⟩,r⟩:=x
  exact⟨ho _ d,z,ne,k _ _ (.inl rfl) e,mA,⟨od,es,ep,k _ _ (.inr d) e2,c⟩,r⟩
 | own y=>obtain⟨ob,e⟩:=x;exact⟨ob,k _ _ (.inl rfl) e⟩
 | xd fs=>obtain⟨mA,⟨od,es,ep,e,c⟩,r⟩:=x;exact⟨mA,⟨od,es,ep,k _ _ (.inl rfl) e,c⟩,r⟩
 | rng lo hi=>obtain⟨t,u,v,e⟩:=x;exact⟨t,u,v,k _ _ (.inl rfl) e⟩
 | frz ob u ih=>obtain⟨e,q⟩:=x;exact⟨k _ _ (.inl rfl) e,ih q⟩
 | tbl ps =>
  have e:h.get? a=some { cls:=.none,data:=.fields ps }:=x
  show h'.get? a=some { cls:=.none,data:=.fields ps }
  exact k a _ (.inl rfl) e
 | met f y =>
  have e:h.get? a=some (PySem.W.methodObj (.ref f) (.ref y)):=x
  show h'.get? a=some (PySem.W.methodObj (.ref f) (.ref y))
  exact k a _ (.inl rfl) e
 | ext φ=>obtain⟨p,⟨o,e⟩,st⟩:=x;exact⟨st _ _ p λo q=>k _ _ (.inl rfl) q,⟨o,k _ _ (.inl rfl) e⟩,st⟩
theorem HOk.lt (x:HOk P w H h)(e:H a=some o):a < h.objs.size:=(x a o e).lt
theorem HOk.fresh (x:HOk P w H h)(e:h.objs.size≤a):H a=none:=by
 cases q:H a with
 | none=>rfl
 | some u=>exact absurd (Nat.lt_of_lt_of_le (x.lt q) e) (Nat.lt_irrefl _)
theorem HOk.kept (x:HOk P w H h)(k:∀ b u,h.get? b=some u→h'.get? b=some u):HOk P w H h':=λa o e =>
 (x a o e).stay (λb u _ q=>k b u q) (λ_ q=>q) λ_ _ q=>q
theorem HOk.laid (x:HOk P w H h)(k:∀ b u,h.get? b=some u→h'.get? b=some u)(hp:h.objs.size≤a)(new:ObjOk P w (upd H a o) h' a o):HOk P w (upd H a o) h':=λb u e=>by
 have hn:=x.fresh hp
 by_cases hb:b=a
 ·subst hb;rw[yab] at e;cases e;exact new
 ·rw[yai hb] at e
  exact(x b u e).stay (λc v _ q=>k c v q) (λc q=>by rw[yai (yad q hn)];exact q) λc xs q=>by rw[yai (yad q hn)];exact q
end
def Rd (H:Hp)(a:Addr)(u:HO):Prop:=H a=some u∨∃ o,H a=some (.frz o u)
theorem Rd.of {H:Hp}{a:Addr}{u:HO}(h:H a=some u):Rd H a u:=.inl h
theorem Rd.ok {P:Program}{w:World}{H:Hp}{h:Heap}{a:Addr}{u:HO}(r:Rd H a u)(x:HOk P w H h):ObjOk P w H h a u:=by
 rcases r with r | ⟨o,r⟩
 ·exact x a u r
 ·obtain⟨_,q⟩:=x a _ r
  exact q
def Mut:Option HO→Prop
 | some (.lst _)=>True
 | some (.dK _)=>True
 | some (.dT _)=>True
 | some (.set _ _)=>True
 | some (.ins _ _ _)=>True
 | some (.ext _)=>True
 | _=>False
section
variable {P:Program} {w:World} {H:Hp} {h h':Heap} {x e:Addr} {o':HO}
theorem HOk.write (ok:HOk P w H h)(mu:Mut (H x))(he:e=x∨H e=some (.own x))(k:∀ b u,b≠e→h.get? b=some u→h'.get? b=some u)(heo:∃ u,h'.get? e=some u)
  (new:ObjOk P w (upd H x o') h' x o'):HOk P w (upd H x o') h':=λb u q=>by
 have nown:∀ c y,H c=some (.own y)→c≠x:=λc y r z=>by subst z;rw[r] at mu;exact mu
 have ntup:∀ c xs,H c=some (.tup xs)→c≠x:=λc xs r z=>by subst z;rw[r] at mu;exact mu
 by_cases hb:b=x
 ·subst hb;rw[yab] at q;cases q;exact new
 ·rw[yai hb] at q
  by_cases hbe:b=e
  ·have q':H b=some (.own x):=by
    rcases he with z | z
    ·exact absurd (hbe.trans z) hb
    ·rw[hbe];exact z
   rw[q] at q';cases q'
   obtain⟨v,hv⟩:=heo
   exact⟨v,by rw[hbe];exact hv⟩
  ·refine(ok b u q).stay (λc v hc r=>k c v ?_ r) (λc r=>by rw[yai (nown c b r)];exact r) λc xs r=>by rw[yai (ntup c xs r)];exact r
   rcases hc with rfl | hc
   ·exact hbe
   ·rintro rfl
    rcases he with z | z
    ·exact nown c b hc z
    ·rw[hc] at z;cases z;exact hb rfl
end
structure Un (fs ex:List Addr) (H H':Hp) (h h':Heap):Prop where
 keep:∀ b o,h.get? b=some o→H b=none→b∉fs→b∉ex→h'.get? b=some o
 slot:∀ b o,h.get? b=some o→H b=none→b∈fs→b∉ex→∃ sl,h'.get? b=some { o with slots:=sl }
 free:∀ b o,h.get? b=some o→H b=none→b∉ex→H' b=none
 there:∀ b o,h.get? b=some o→b∉ex→∃ o',h'.get? b=some o'
 tups:∀ b xs,H b=some (.tup xs)→H' b=some (.tup xs)
 frzs:∀ b o u,H b=some (.frz o u)→H' b=some (.frz o u)
 tbls:∀ b ps,H b=some (.tbl ps)→∃ more,H' b=some (.tbl (ps++more))
section
variable {fs fs' ex ex':List Addr} {H H1 H2:Hp} {h h1 h2 h':Heap} {a x e:Addr} {o:HO}
theorem Un.any (u:Un fs ex H H1 h h1){b:Addr}{ob:Obj}(q:h.get? b=some ob)(n:H b=none)(hx:b∉ex):∃ sl,h1.get? b=some { ob with slots:=sl }:=by
 by_cases hb:b∈fs
 ·exact u.slot b ob q n hb hx
 ·exact⟨ob.slots,u.keep b ob q n hb hx⟩
theorem Un.kept (k:∀ b u,h.get? b=some u→h'.get? b=some u):Un fs ex H H h h' :=
 ⟨λb ob q _ _ _=>k b ob q,λb ob q _ _ _=>⟨ob.slots,k b ob q⟩,λ_ _ _ n _=>n,λb ob q _=>⟨ob,k b ob q⟩,λ_ _ q=>q,λ_ _ _ q=>q,λ_ ps q=>⟨#[],by rw[q];simp⟩⟩
theorem Un.refl:Un fs ex H H h h:=Un.kept λ_ _ q=>q
theorem Un.laid (k:∀ b u,h.get? b=some u→h'.get? b=some u)(hp:h.objs.size≤a)(hn:H a=none):Un fs ex H (upd H a o) h h' where
 keep:=λb u q _ _ _=>k b u q
 slot:=λb u q _ _ _=>⟨u.slots,k b u q⟩
 free:=λb u q n _=>by rw[yai (Nat.ne_of_lt (Nat.lt_of_lt_of_le (Heap.lt_size q) hp))];exact n
 there:=λb u q _=>⟨u,k b u q⟩
 tups:=λb xs q=>by rw[yai (yad q hn)];exact q
 frzs:=λb u xs q=>by rw[yai (yad q hn)];exact q
 tbls:=λb ps q=>⟨#[],by rw[yai (yad q hn),q];simp⟩
theorem Un.write (mu:Mut (H x))(he:e=x∨H e=some (.own x))(k:∀ b u,b≠e→h.get? b=some u→h'.get? b=some u)(heo:∃ u,h'.get? e=some u):Un fs ex H (upd H x o) h h':=by
 have hx:∀ b,H b=none→b≠x:=λb n z=>by subst z;rw[n] at mu;exact mu
 have hb:∀ b,H b=none→b≠e:=λb n z=>by
  subst z
  rcases he with r | r
  ·exact hx b n r
  ·rw[n] at r;cases r
 have hm:∀ b u,H b=some u→¬ Mut (some u)→b≠x:=λb u q nm z=>by subst z;rw[q] at mu;exact nm mu
 refine⟨λb u q n _ _=>k b u (hb b n) q,λb u q n _ _=>⟨u.slots,k b u (hb b n) q⟩,λb u q n _=>by rw[yai (hx b n)];exact n,λb u q _=>?_,
  λb xs q=>by rw[yai (hm b _ q λz=>z)];exact q,λb u xs q=>by rw[yai (hm b _ q λz=>z)];exact q,λb ps q=>⟨#[],by rw[yai (hm b _ q λz=>z),q];simp⟩⟩
 by_cases hbe:b=e
 ·subst hbe;exact heo
 ·exact⟨u,k b u hbe q⟩
end
def trk (h:Heap)(H:Hp):List Addr:=(List.range h.objs.size).filter λa=>(H a).isSome
def yi5 (h:Heap)(H:Hp):Heap:=PySem.W.hideAll h (trk h H)
theorem yj3 (h:Heap)(H:Hp):(yi5 h H).objs.size=h.objs.size:=PySem.W.hideAll_size _ _
theorem ykI {h:Heap}{H:Hp}{b:Addr}{o:Obj}(e:h.get? b=some o)(n:H b=none):(yi5 h H).get? b=some o :=
 PySem.W.hideAll_get _ e λhm=>by
  have q:(H b).isSome=true:=(List.mem_filter.mp hm).2
  rw[n] at q;simp at q
theorem ymf {h:Heap}{H:Hp}{b:Addr}{o:Obj}(e:(yi5 h H).get? b=some o):h.get? b=some o∧H b=none:=by
 have e':h.get? b=some o:=PySem.W.of_hideAll (trk h H) e
 refine⟨e',?_⟩
 cases q:H b with
 | none=>rfl
 | some x =>
  have hm:b∈trk h H:=List.mem_filter.mpr ⟨List.mem_range.mpr (Heap.lt_size e'),by simp[q]⟩
  have z:(yi5 h H).get? b=none:=PySem.W.hideAll_none (trk h H) hm
  rw[z] at e;cases e
structure Mod (K:PySem.W.Frag) (mg:Str→Option Value) (base:Heap):Prop where
 kin:K.In base
 glob:base.Ns mainGlobals mg
 blt:∃ mb,base.Ns builtinsNs mb∧∀ x:Str,x≠"__name__" → mb x=bootBuiltins x
 nolimit:base.NoLimit
structure Cx where
 prog:Program
 w:World
 K:PySem.W.Frag
 mg:Str→Option Value
 base:Heap
 A:Around
 N:List Str
 s₀:Shared
 H₀:Hp
 env:Env
 outer:List Env
 stack:List Env
 ex:List Addr
 fn:Str→Bool
 calm:Bool
 pn:List (Addr×Obj)
 xe:Value→Shared→Prop
def frs (l:List Env):List Addr:=l.filterMap (·.frame)
abbrev Cx.fs (X:Cx):List Addr:=frs X.outer
def Vis (sc:Scope)(x:Str):Prop:=sc.names.lookup x=some .local∨sc.names.lookup x=some .cell∨sc.names.lookup x=some .free
def Loc (sc:Scope)(x:Str):Prop:=sc.names.lookup x=some .local∨sc.names.lookup x=some .cell
def yrq (env:Env)(h:Heap)(m:Str→Option Value)(x:Str)(u:Value):Prop :=
 (env.kindOf x=some .local∧m x=some u)∨((env.kindOf x=some .cell∨env.kindOf x=some .free)∧∃ c,env.cells.lookup x=some c∧h.IsCell c (some u))
structure Cx.Ok (X:Cx):Prop where
 mod:Mod X.K X.mg X.base
 kind:X.env.scope.kind=.function
 glob:X.env.globals=mainGlobals
 blt:X.env.builtins=builtinsNs
 above:X.s₀.heap.objs.size≤X.env.locals
 inj:∀ x y c,X.env.cells.lookup x=some c→X.env.cells.lookup y=some c→x=y
 has:∀ x,(X.env.kindOf x=some .cell∨X.env.kindOf x=some .free)→∃ c,X.env.cells.lookup x=some c
 cab:∀ x c,X.fn x=true→X.env.cells.lookup x=some c→X.s₀.heap.objs.size≤c
 hd:X.calm=true→X.A.handled=none
 frames:X.A.frames=some X.stack
 stk:X.stack=X.outer∨(X.stack=X.env :: X.outer∧X.env.frame=some X.env.locals)
 exf:∀ b∈X.ex,b≠X.env.locals∧∀ x c,X.env.cells.lookup x=some c→c≠b
 bs:∀ b o,X.base.get? b=some o→X.s₀.heap.get? b=some o∧X.H₀ b=none
 bsz:X.base.objs.size≤X.s₀.heap.objs.size
 noex:∀ b o,X.base.get? b=some o→b∉X.ex
 exfs:∀ b∈X.ex,b∉X.fs
 funs:X.s₀.heap.FunFrames X.base X.outer
 frf:∀ b∈X.fs,X.H₀ b=none
structure Inv (X:Cx) (pins:List (Addr×Obj)) (σ:List (Option V)) (H:Hp) (s:Shared):Prop where
 ok:X.Ok
 os:s.os=X.s₀.os
 bare:AllBare s.gens
 base:Un X.fs X.ex X.H₀ H X.s₀.heap s.heap
 loc:∃ m,s.heap.Ns X.env.locals m∧∀ (i:Nat) (x:Str) (v:V),X.N[i]?=some x→σ[i]?=some (some v)→Vis X.env.scope x→∃ u,RelV v u∧yrq X.env s.heap m x u
 cell:∀ x c,X.env.cells.lookup x=some c→∃ v,s.heap.IsCell c v
 free:H X.env.locals=none
 freeC:∀ x c,X.env.cells.lookup x=some c→H c=none
 pin:∀ p∈X.pn++pins,s.heap.get? p.1=some p.2∧H p.1=none∧p.1≠X.env.locals∧p.1∉X.fs∧∀ v,p.2.data≠.cell v
 hok:HOk X.prog X.w H s.heap
 len:σ.length=X.N.length
section
variable {X:Cx} {pins:List (Addr×Obj)} {σ:List (Option V)} {H H':Hp} {s:Shared} {h':Heap}
theorem Cx.Ok.nofr (ok:X.Ok){b:Addr}{o:Obj}(e:X.base.get? b=some o):b∉X.fs:=λhb=>by
 have:=(ok.funs.mem hb).1
 rw[e] at this;cases this
theorem Inv.bs (I:Inv X pins σ H s):∀ b o,X.base.get? b=some o→s.heap.get? b=some o∧H b=none:=λb o e =>
 ⟨I.base.keep b o (I.ok.bs b o e).1 (I.ok.bs b o e).2 (I.ok.nofr e) (I.ok.noex b o e),I.base.free b o (I.ok.bs b o e).1 (I.ok.bs b o e).2 (I.ok.noex b o e)⟩
theorem Inv.bk (I:Inv X pins σ H s):∀ b o,X.base.get? b=some o→s.heap.get? b=some o:=λb o e=>(I.bs b o e).1
theorem Inv.mod (I:Inv X pins σ H s):Mod X.K X.mg X.base:=I.ok.mod
theorem Inv.kIn (I:Inv X pins σ H s):X.K.In s.heap:=I.ok.mod.kin.keeps I.bk
theorem Inv.nolimit (I:Inv X pins σ H s):s.heap.NoLimit:=I.ok.mod.nolimit.keeps I.bk
theorem Inv.lt (I:Inv X pins σ H s):X.env.locals < s.heap.objs.size:=let ⟨_,hn,_⟩:=I.loc;hn.lt
theorem Inv.sz (I:Inv X pins σ H s):X.s₀.heap.objs.size≤s.heap.objs.size:=Nat.le_trans I.ok.above (Nat.le_of_lt I.lt)
theorem Inv.nofs (I:Inv X pins σ H s){a:Addr}(h:s.heap.objs.size≤a):a∉X.fs:=λhb=>by
 obtain⟨_,o,ho,_⟩:=I.ok.funs.mem hb
 exact absurd (Nat.lt_of_lt_of_le (Heap.lt_size ho) (Nat.le_trans I.sz h)) (Nat.lt_irrefl _)
theorem Inv.cne (I:Inv X pins σ H s):∀ x c,X.env.cells.lookup x=some c→c≠X.env.locals:=λx c e z=>by
 obtain⟨v,o,ho,hd⟩:=I.cell x c e
 obtain⟨m,⟨o',es,ep,ho',hd',_⟩,_⟩:=I.loc
 rw[z,ho'] at ho;cases ho;rw[hd'] at hd;cases hd
theorem Inv.funs (I:Inv X pins σ H s):s.heap.FunFrames X.base X.outer:=by
 have all:∀ (l:List Env),(∀ b∈frs l,b∈X.fs)→X.s₀.heap.FunFrames X.base l→s.heap.FunFrames X.base l:=by
  intro l
  induction l with
  | nil=>intro _ _;trivial
  | cons env r ih =>
   intro hs hl
   obtain⟨hk,⟨L,o,hf,hn,ho,hd⟩,hr⟩:=hl
   have hL:L∈X.fs:=hs L (by unfold frs;rw[List.filterMap_cons,hf];exact List.mem_cons_self)
   obtain⟨sl,e⟩:=I.base.slot L o ho (I.ok.frf L hL) hL λz=>I.ok.exfs L z hL
   exact⟨hk,⟨L,_,hf,hn,e,hd⟩,ih (λb hb=>hs b (by unfold frs;rw[List.filterMap_cons,hf];exact List.mem_cons_of_mem _ hb)) hr⟩
 exact all X.outer (λ_ hb=>hb) I.ok.funs
theorem Inv.stack (I:Inv X pins σ H s):s.heap.FunFrames X.base X.stack:=by
 rcases I.ok.stk with e | ⟨e,hf⟩
 ·rw[e];exact I.funs
 ·rw[e]
  obtain⟨m,hn,_⟩:=I.loc
  refine .cons (by rw[I.ok.kind];decide) hf hn ?_ I.funs
  exact Heap.get?_none_of_le (Nat.le_trans I.ok.bsz I.ok.above)
theorem Inv.stkSub (I:Inv X pins σ H s):∀ b∈frs X.stack,b∈X.env.locals :: X.fs:=λb hb=>by
 rcases I.ok.stk with e | ⟨e,hf⟩
 ·rw[e] at hb;exact List.mem_cons_of_mem _ hb
 ·rw[e] at hb
  unfold frs at hb
  rw[List.filterMap_cons,hf] at hb
  exact hb
theorem Inv.stkFree (I:Inv X pins σ H s):∀ b∈frs X.stack,H b=none:=λb hb=>by
 rcases List.mem_cons.mp (I.stkSub b hb) with e | hb
 ·rw[e];exact I.free
 ·obtain⟨_,o,ho,_⟩:=I.ok.funs.mem hb
  exact I.base.free b o ho (I.ok.frf b hb) λz=>I.ok.exfs b z hb
theorem Inv.step {g':Array GenState}{t':Nat}{d':Drawn}{ch:List Addr}(I:Inv X pins σ H s)
  (hch:∀ b∈ch,(b∈X.ex∨X.s₀.heap.objs.size≤b)∧b≠X.env.locals∧(∀ x c,X.env.cells.lookup x=some c→c≠b)∧∀ p∈X.pn++pins,p.1≠b)
  (keep:∀ b o,b≠X.env.locals→b∉X.fs→b∉ch→s.heap.get? b=some o→H b=none→h'.get? b=some o)
  (slot:∀ b o,b≠X.env.locals→b∈X.fs→b∉ch→s.heap.get? b=some o→H b=none→∃ sl,h'.get? b=some { o with slots:=sl }) (free:∀ b o,b∉ch→s.heap.get? b=some o→H b=none→H' b=none)
  (there:∀ b o,b∉ch→s.heap.get? b=some o→∃ o',h'.get? b=some o')
  (tups:∀ b xs,H b=some (.tup xs)→H' b=some (.tup xs)) (frzs:∀ b o u,H b=some (.frz o u)→H' b=some (.frz o u)) (tbls:∀ b ps,H b=some (.tbl ps)→∃ more,H' b=some (.tbl (ps++more)))
  (ns:∀ m,s.heap.Ns X.env.locals m→h'.Ns X.env.locals m) (hok:HOk X.prog X.w H' h') (hg:AllBare g') :
  Inv X pins σ H' { s with heap:=h',gens:=g',drawn:=d',toks:=t' }:=by
 have neL:∀ b o,X.s₀.heap.get? b=some o→b≠X.env.locals:=λb o e=>Nat.ne_of_lt (Nat.lt_of_lt_of_le (Heap.lt_size e) I.ok.above)
 have neC:∀ b o,X.s₀.heap.get? b=some o→b∉X.ex→b∉ch:=λb o e hx hb=>by
  rcases(hch b hb).1 with z | z
  ·exact hx z
  ·exact absurd (Nat.lt_of_lt_of_le (Heap.lt_size e) z) (Nat.lt_irrefl _)
 have cellK:∀ x c,X.env.cells.lookup x=some c→∀ v,s.heap.IsCell c v→h'.IsCell c v:=λx c e v ⟨o,ho,hd⟩=>by
  have nch:c∉ch:=λz=>(hch c z).2.2.1 x c e rfl
  by_cases hc:c∈X.fs
  ·obtain⟨sl,q⟩:=slot c o (I.cne x c e) hc nch ho (I.freeC x c e)
   exact⟨_,q,hd⟩
  ·exact⟨o,keep c o (I.cne x c e) hc nch ho (I.freeC x c e),hd⟩
 refine⟨I.ok,I.os,hg,⟨λb o e n hb hx=>?_,λb o e n hb hx=>?_,λb o e n hx=>?_,λb o e hx=>?_,λb xs e=>tups b xs (I.base.tups b xs e),λb o xs e=>frzs b o xs (I.base.frzs b o xs e),λb ps e=>?_⟩,?_,λx c e=>?_,?_,λx c e=>?_,λp hp=>?_,hok,I.len⟩
 ·exact keep b o (neL b o e) hb (neC b o e hx) (I.base.keep b o e n hb hx) (I.base.free b o e n hx)
 ·obtain⟨sl,e1⟩:=I.base.slot b o e n hb hx
  obtain⟨sl',e2⟩:=slot b _ (neL b o e) hb (neC b o e hx) e1 (I.base.free b o e n hx)
  exact⟨sl',e2⟩
 ·obtain⟨o',e1⟩:=I.base.there b o e hx
  exact free b o' (neC b o e hx) e1 (I.base.free b o e n hx)
 ·obtain⟨o',e1⟩:=I.base.there b o e hx
  exact there b o' (neC b o e hx) e1
 ·obtain⟨m1,e1⟩:=I.base.tbls b ps e
  obtain⟨m2,e2⟩:=tbls b _ e1
  exact⟨m1++m2,by rw[e2,Array.append_assoc]⟩
 ·obtain⟨m,hn,hl⟩:=I.loc
  refine⟨m,ns m hn,λi x v e1 e2 e3=>?_⟩
  obtain⟨u,r,l⟩:=hl i x v e1 e2 e3
  refine⟨u,r,?_⟩
  rcases l with l | ⟨k,c,e,z⟩
  ·exact .inl l
  ·exact .inr ⟨k,c,e,cellK x c e _ z⟩
 ·obtain⟨v,z⟩:=I.cell x c e
  exact⟨v,cellK x c e v z⟩
 ·obtain⟨m,⟨o,_,_,ho,_⟩,_⟩:=I.loc
  exact free _ o (λz=>(hch _ z).2.1 rfl) ho I.free
 ·obtain⟨v,o,ho,hd⟩:=I.cell x c e
  exact free c o (λz=>(hch c z).2.2.1 x c e rfl) ho (I.freeC x c e)
 ·obtain⟨e,n,ne,nf,d⟩:=I.pin p hp
  have nch:p.1∉ch:=λz=>(hch p.1 z).2.2.2 p hp rfl
  exact⟨keep p.1 p.2 ne nf nch e n,free p.1 p.2 nch e n,ne,nf,d⟩
theorem Inv.un {t':Nat}(I:Inv X pins σ H s)(u:Un X.fs [] H H' s.heap h')(hok:HOk X.prog X.w H' h'):Inv X pins σ H' { s with heap:=h',toks:=t' }:=by
 obtain⟨m,⟨o,es,ep,ho,r⟩,_⟩:=id I.loc
 obtain⟨sl,hL⟩:=u.any ho I.free (by simp)
 exact I.step (g':=s.gens) (d':=s.drawn) (ch:=[]) (λ_ z=>nomatch z) (λb o _ hb _ e n=>u.keep b o e n hb (by simp)) (λb o _ hb _ e n=>u.slot b o e n hb (by simp)) (λb o _ e n=>u.free b o e n (by simp)) (λb o _ e=>u.there b o e (by simp)) u.tups u.frzs u.tbls (λm' hm=>by
  obtain⟨o',es',ep',ho',r'⟩:=hm
  rw[ho] at ho';cases ho'
  exact⟨_,es',ep',hL,r'⟩) hok I.bare
theorem Inv.call {g':Array GenState}{t':Nat}{d':Drawn}{ch:List Addr}(I:Inv X pins σ H s)(u:Un (frs X.stack) ch H H' s.heap h')(hok:HOk X.prog X.w H' h')(hg:AllBare g')
  (hch:∀ b∈ch,(b∈X.ex∨X.s₀.heap.objs.size≤b)∧b≠X.env.locals∧(∀ x c,X.env.cells.lookup x=some c→c≠b)∧∀ p∈X.pn++pins,p.1≠b) :
  Inv X pins σ H' { s with heap:=h',gens:=g',drawn:=d',toks:=t' }:=by
 obtain⟨m,⟨o,es,ep,ho,r⟩,_⟩:=id I.loc
 obtain⟨sl,hL⟩:=u.any ho I.free λz=>(hch _ z).2.1 rfl
 exact I.step (ch:=ch) hch (λb o hL hb hc e n=>u.keep b o e n (λz=>(List.mem_cons.mp (I.stkSub b z)).elim hL hb) hc) (λb o _ _ hc e n=>u.any e n hc) (λb o hc e n=>u.free b o e n hc) (λb o hc e=>u.there b o e hc) u.tups u.frzs u.tbls (λm' hm=>by
  obtain⟨o',es',ep',ho',r'⟩:=hm
  rw[ho] at ho';cases ho'
  exact⟨_,es',ep',hL,r'⟩) hok hg
theorem Inv.turned {t':Nat}{it:Addr}(I:Inv X pins σ H s)(k:∀ b o,b≠it→s.heap.get? b=some o→h'.get? b=some o)(hn:H it=none)(hL:it≠X.env.locals)
  (h1:it∈X.ex∨X.s₀.heap.objs.size≤it) (h2:∀ x c,X.env.cells.lookup x=some c→c≠it) (h3:∀ p∈X.pn++pins,p.1≠it):Inv X pins σ H { s with heap:=h',toks:=t' }:=by
 have nit:∀ b u,H b=some u→b≠it:=λb u e z=>by rw[z,hn] at e;cases e
 refine I.step (g':=s.gens) (d':=s.drawn) (ch:=[it]) (λb hb=>?_) (λb o _ _ hc e _=>k b o (λz=>hc (by simp[z])) e) (λb o _ _ hc e _=>⟨o.slots,k b o (λz=>hc (by simp[z])) e⟩) (λ_ _ _ _ n=>n)
  (λb o hc e=>⟨o,k b o (λz=>hc (by simp[z])) e⟩) (λ_ _ e=>e) (λ_ _ _ e=>e) (λb ps e=>⟨#[],by rw[e];simp⟩) (λm hm=>?_) (λb u e=>?_) I.bare
 ·have e:b=it:=by simpa using hb
  subst e
  exact⟨h1,hL,h2,h3⟩
 ·obtain⟨o,es,ep,ho,r⟩:=hm
  exact⟨o,es,ep,k _ o (Ne.symm hL) ho,r⟩
 ·refine(I.hok b u e).stay (λc v hc q=>k c v ?_ q) (λ_ q=>q) λ_ _ q=>q
  rcases hc with z | z
  ·rw[z];exact nit b u e
  ·exact nit c _ z
theorem Inv.tok (I:Inv X pins σ H s)(t:Nat):Inv X pins σ H { s with toks:=t }:=I.un (h':=s.heap) (t':=t) Un.refl I.hok
theorem Inv.kept {t':Nat}(I:Inv X pins σ H s)(k:∀ b u,s.heap.get? b=some u→h'.get? b=some u):Inv X pins σ H { s with heap:=h',toks:=t' }:=I.un (Un.kept k) (I.hok.kept k)
theorem Inv.laid {a:Addr}{o:HO}{t':Nat}(I:Inv X pins σ H s)(k:∀ b u,s.heap.get? b=some u→h'.get? b=some u)(hp:s.heap.objs.size≤a)(new:ObjOk X.prog X.w (upd H a o) h' a o) :
  Inv X pins σ (upd H a o) { s with heap:=h',toks:=t' }:=I.un (Un.laid k hp (I.hok.fresh hp)) (I.hok.laid k hp new)
theorem Inv.write {x e:Addr}{o:HO}{t':Nat}(I:Inv X pins σ H s)(mu:Mut (H x))(he:e=x∨H e=some (.own x))(k:∀ b u,b≠e→s.heap.get? b=some u→h'.get? b=some u)(heo:∃ u,h'.get? e=some u)
  (new:ObjOk X.prog X.w (upd H x o) h' x o):Inv X pins σ (upd H x o) { s with heap:=h',toks:=t' }:=I.un (Un.write mu he k heo) (I.hok.write mu he k heo new)
theorem Inv.pins_of {pins':List (Addr×Obj)}(I:Inv X pins σ H s)(h:∀ p∈pins',s.heap.get? p.1=some p.2∧H p.1=none∧p.1≠X.env.locals∧p.1∉X.fs∧∀ v,p.2.data≠.cell v):Inv X pins' σ H s :=
 ⟨I.ok,I.os,I.bare,I.base,I.loc,I.cell,I.free,I.freeC,λp hp=>(List.mem_append.mp hp).elim (λz=>I.pin p (List.mem_append_left _ z)) (h p),I.hok,I.len⟩
theorem yhO {N:List Str}(hN:N.Nodup){i j:Nat}{x:Str}(a:N[i]?=some x)(b:N[j]?=some x):i=j:=by
 obtain⟨h1,e1⟩:=List.getElem?_eq_some_iff.mp a
 obtain⟨h2,e2⟩:=List.getElem?_eq_some_iff.mp b
 exact(List.getElem_inj hN).mp (e1.trans e2.symm)
theorem yf4 {M:Model}{A:Around}{E:Value→Shared→Prop}{i:Nat}{x:Str}{v:V}{u:Value}{Q:Unit→Shared→Prop}(I:Inv X pins σ H s)(hN:X.N.Nodup)(hi:X.N[i]?=some x)(hx:Loc X.env.scope x)(r:RelV v u)
  (h:∀ s',Inv X pins (σ.set i (some v)) H s'→(∃ a,Heap.SameBut a s.heap s'.heap∧(a=X.env.locals∨X.env.cells.lookup x=some a))→Q () s') (hf:X.fn x=true∨X.env.scope.names.lookup x=some .local:=by first | exact .inl rfl | exact .inr rfl | assumption):wpAny M A (storeName X.env x u) Q E s:=by
 obtain⟨m,hn,hl⟩:=id I.loc
 have hcls:(X.env.scope.kind==.class||(X.env.scope.kind==.module&&X.env.locals != X.env.globals))=false:=by rw[I.ok.kind];rfl
 have hiσ:i < σ.length:=by rw[I.len];exact(List.getElem?_eq_some_iff.mp hi).1
 have cne:=I.cne
 have tracked:∀ {a:Addr} {h':Heap},(∃ o,s.heap.get? a=some o∧H a=none)→Heap.SameBut a s.heap h'→HOk X.prog X.w H h':=λ{a h'} ha hs b ob e=>by
  obtain⟨_,_,hfree⟩:=ha
  refine(I.hok b ob e).stay (λc w' hc q=>(hs.2 c ?_).trans q) (λ_ q=>q) λ_ _ q=>q
  rintro rfl
  rcases hc with rfl | hc
  ·rw[hfree] at e;cases e
  ·rw[hfree] at hc;cases hc
 rcases hx with hk | hk
 ·refine wpAny_storeName_local hk hn (λh' hn' hs=>?_) hcls
  obtain⟨oL,_,_,hoL,_⟩:=id hn
  refine h _ ⟨I.ok,I.os,I.bare,⟨λb o e n hb hx=>?_,λb o e n hb hx=>?_,I.base.free,λb o e hx=>?_,I.base.tups,I.base.frzs,I.base.tbls⟩,⟨_,hn',λj y v' e1 e2 e3=>?_⟩,λy c e=>?_,I.free,I.freeC,λp hp=>?_,tracked ⟨oL,hoL,I.free⟩ hs,by simpa using I.len⟩ ⟨_,hs,.inl rfl⟩
  ·exact(hs.2 b (Nat.ne_of_lt (Nat.lt_of_lt_of_le (Heap.lt_size e) I.ok.above))).trans (I.base.keep b o e n hb hx)
  ·obtain⟨sl,e1⟩:=I.base.slot b o e n hb hx
   exact⟨sl,(hs.2 b (Nat.ne_of_lt (Nat.lt_of_lt_of_le (Heap.lt_size e) I.ok.above))).trans e1⟩
  ·obtain⟨o',e1⟩:=I.base.there b o e hx
   exact⟨o',(hs.2 b (Nat.ne_of_lt (Nat.lt_of_lt_of_le (Heap.lt_size e) I.ok.above))).trans e1⟩
  ·by_cases hj:j=i
   ·subst hj
    rw[hi] at e1;cases e1
    rw[List.getElem?_set_self hiσ] at e2
    cases e2
    exact⟨u,r,.inl ⟨hk,by simp⟩⟩
   ·rw[List.getElem?_set_ne (Ne.symm hj)] at e2
    obtain⟨u',r',q⟩:=hl j y v' e1 e2 e3
    refine⟨u',r',?_⟩
    rcases q with ⟨k,e⟩ | ⟨k,c,e,z⟩
    ·refine .inl ⟨k,?_⟩
     have:y≠x:=λe=>hj (yhO hN e1 (e▸hi))
     simp[this,e]
    ·exact .inr ⟨k,c,e,z.sameBut hs (cne y c e)⟩
  ·obtain⟨w',z⟩:=I.cell y c e
   exact⟨w',z.sameBut hs (cne y c e)⟩
  ·obtain⟨e,n,ne,nf,d⟩:=I.pin p hp
   exact⟨(hs.2 p.1 ne).trans e,n,ne,nf,d⟩
 ·have hfn:X.fn x=true:=by
   rcases hf with z | z
   ·exact z
   ·rw[z] at hk;cases hk
  obtain⟨c,hc⟩:=I.ok.has x (.inl hk)
  obtain⟨w',z⟩:=I.cell x c hc
  refine wpAny_storeName_cell I.ok.kind hk hc z (λh' hc' hs=>?_)
  obtain⟨oc,hoc,hocd⟩:=id z
  refine h { s with heap:=h' } ⟨I.ok,I.os,I.bare,⟨λb o e n hb hx=>?_,λb o e n hb hx=>?_,I.base.free,λb o e hx=>?_,I.base.tups,I.base.frzs,I.base.tbls⟩,⟨m,hn.sameBut hs (Ne.symm (cne x c hc)),λj y v' e1 e2 e3=>?_⟩,λy c' e=>?_,I.free,I.freeC,λp hp=>?_,tracked ⟨oc,hoc,I.freeC x c hc⟩ hs,by simpa using I.len⟩ ⟨c,hs,.inr hc⟩
  ·exact(hs.2 b (Nat.ne_of_lt (Nat.lt_of_lt_of_le (Heap.lt_size e) (I.ok.cab x c hfn hc)))).trans (I.base.keep b o e n hb hx)
  ·obtain⟨sl,e1⟩:=I.base.slot b o e n hb hx
   exact⟨sl,(hs.2 b (Nat.ne_of_lt (Nat.lt_of_lt_of_le (Heap.lt_size e) (I.ok.cab x c hfn hc)))).trans e1⟩
  ·obtain⟨o',e1⟩:=I.base.there b o e hx
   exact⟨o',(hs.2 b (Nat.ne_of_lt (Nat.lt_of_lt_of_le (Heap.lt_size e) (I.ok.cab x c hfn hc)))).trans e1⟩
  ·by_cases hj:j=i
   ·subst hj
    rw[hi] at e1;cases e1
    rw[List.getElem?_set_self hiσ] at e2
    cases e2
    exact⟨u,r,.inr ⟨.inl hk,c,hc,hc'⟩⟩
   ·rw[List.getElem?_set_ne (Ne.symm hj)] at e2
    obtain⟨u',r',q⟩:=hl j y v' e1 e2 e3
    refine⟨u',r',?_⟩
    rcases q with q | ⟨k,c',e,z'⟩
    ·exact .inl q
    ·refine .inr ⟨k,c',e,z'.sameBut hs ?_⟩
     rintro rfl
     exact hj (yhO hN e1 (I.ok.inj _ _ _ e hc▸hi))
  ·by_cases hcc:c'=c
   ·subst hcc;exact⟨_,hc'⟩
   ·obtain⟨w2,z2⟩:=I.cell y c' e
    exact⟨w2,z2.sameBut hs hcc⟩
  ·obtain⟨e,n,ne,nf,d⟩:=I.pin p hp
   refine⟨(hs.2 p.1 ?_).trans e,n,ne,nf,d⟩
   intro q
   rw[q,hoc] at e
   have q':oc=p.2:=Option.some.inj e
   exact d w' (by rw[← q'];exact hocd)
theorem ydJ {M:Model}{A:Around}{E:Value→Shared→Prop}{i:Nat}{x:Str}{v:V}{u:Value}{Q:Unit→Shared→Prop}(I:Inv X pins σ H s)(hN:X.N.Nodup)(hi:X.N[i]?=some x)(hx:Loc X.env.scope x)(r:RelV v u)
  (h:∀ s',Inv X pins (σ.set i (some v)) H s'→Q () s') (hf:X.fn x=true∨X.env.scope.names.lookup x=some .local:=by first | exact .inl rfl | exact .inr rfl | assumption):wpAny M A (storeName X.env x u) Q E s :=
 yf4 I hN hi hx r (λs' I' _=>h s' I') hf
theorem Inv.call' {s':Shared}{ch:List Addr}(I:Inv X pins σ H s)(ho:s'.os=s.os)(u:Un (frs X.stack) ch H H' s.heap s'.heap)(hok:HOk X.prog X.w H' s'.heap)(hg:AllBare s'.gens)
  (hch:∀ b∈ch,(b∈X.ex∨X.s₀.heap.objs.size≤b)∧b≠X.env.locals∧(∀ x c,X.env.cells.lookup x=some c→c≠b)∧∀ p∈X.pn++pins,p.1≠b):Inv X pins σ H' s':=by
 obtain⟨h',g',d',t',o'⟩:=s'
 have e:o'=s.os:=ho
 subst e
 exact I.call (g':=g') (t':=t') (d':=d') u hok hg hch
end
abbrev XK:=Value→Option Addr→Hp→Prop
abbrev St:=List (Option V)
abbrev VK:=V→Hp→Prop
abbrev TE:=St→Hp→VK→Prop
abbrev TT:=St→Hp→(Bool→Hp→Prop)→Prop
abbrev TA:=St→Hp→(List V→Hp→Prop)→Prop
structure ydn where
 nx:St→Hp→Prop
 rt:VK
 bk:St→Hp→Prop:=λ_ _=>False
 ct:St→Hp→Prop:=λ_ _=>False
abbrev TS:=ydn→St→Hp→Prop
def EP (X:Cx)(pins:List (Addr×Obj))(σ:St)(Q:VK)(u:Value)(s':Shared):Prop:=∃ v H',Inv X pins σ H' s'∧RelV v u∧Q v H'
def TP (X:Cx)(pins:List (Addr×Obj))(σ:St)(Q:Bool→Hp→Prop)(b:Bool)(s':Shared):Prop:=∃ H',Inv X pins σ H' s'∧Q b H'
def AP (X:Cx)(pins:List (Addr×Obj))(σ:St)(Q:List V→Hp→Prop)(us:List Value)(s':Shared):Prop:=∃ vs H',Inv X pins σ H' s'∧Vals vs us∧Q vs H'
def SP (X:Cx)(pins:List (Addr×Obj))(D:ydn)(f:Flow)(s':Shared):Prop :=
 match f with
 | .next=>∃ σ' H',Inv X pins σ' H' s'∧D.nx σ' H'
 | .brk=>∃ σ' H',Inv X pins σ' H' s'∧D.bk σ' H'
 | .cont=>∃ σ' H',Inv X pins σ' H' s'∧D.ct σ' H'
 | .ret u=>∃ v σ' H',Inv X pins σ' H' s'∧RelV v u∧D.rt v H'
def PE (X:Cx)(e:Expr)(t:TE):Prop :=
 ∀ (pins:List (Addr×Obj)) (s:Shared) (σ:St) (H:Hp) (Q:VK),Inv X pins σ H s→t σ H Q→wpAny (model X.prog X.w) X.A (eval e X.env) (EP X pins σ Q) X.xe s
def PT (X:Cx)(e:Expr)(t:TT):Prop :=
 ∀ (pins:List (Addr×Obj)) (s:Shared) (σ:St) (H:Hp) (Q:Bool→Hp→Prop),Inv X pins σ H s→t σ H Q→wpAny (model X.prog X.w) X.A (isTrue e X.env (eval e X.env)) (TP X pins σ Q) X.xe s
def PW (X:Cx)(e:Expr)(t:TT):Prop :=
 ∀ (whole:Sem Value) (pins:List (Addr×Obj)) (s:Shared) (σ:St) (H:Hp) (Q:Bool→Hp→Prop),Inv X pins σ H s→t σ H Q→wpAny (model X.prog X.w) X.A (isTrue e X.env whole) (TP X pins σ Q) X.xe s
theorem PW.pt {X:Cx}{e:Expr}{t:TT}(h:PW X e t):PT X e t:=h _
def PA (X:Cx)(es:List Expr)(t:TA):Prop :=
 ∀ (pos:Pos) (pins:List (Addr×Obj)) (s:Shared) (σ:St) (H:Hp) (Q:List V→Hp→Prop),Inv X pins σ H s→t σ H Q→wpAny (model X.prog X.w) X.A (spliced (backTo pos (starEach es X.env))) (AP X pins σ Q) X.xe s
def PS (X:Cx)(st:Stmt)(t:TS):Prop :=
 ∀ (pins:List (Addr×Obj)) (s:Shared) (σ:St) (H:Hp) (D:ydn),Inv X pins σ H s→t D σ H→wpAny (model X.prog X.w) X.A (exec st X.env) (SP X pins D) X.xe s
def PSs (X:Cx)(st:List Stmt)(t:TS):Prop :=
 ∀ (pins:List (Addr×Obj)) (s:Shared) (σ:St) (H:Hp) (D:ydn),Inv X pins σ H s→t D σ H→wpAny (model X.prog X.w) X.A (execs st X.env) (SP X pins D) X.xe s
theorem thn {α:Type}{t:Sem α}{Q Q':α→Shared→Prop}{M:Model}{A:Around}{E:Value→Shared→Prop}{s:Shared}(h:wpAny M A t Q E s)(hQ:∀ a s,Q a s→Q' a s):wpAny M A t Q' E s:=wpAny_mono h hQ λ_ _ x=>x
section
variable {X:Cx}
def ycv (i:Nat):TE:=fun σ H Q=>∃ v,σ[i]?=some (some v)∧Q v H
def tC (v:V):TE:=λ_ H Q=>Q v H
theorem ym8 {i:Nat}{x:Str}{pos:Pos}(hN:X.N[i]?=some x)(hv:Vis X.env.scope x)(hd:(x==("__debug__" : Str))=false:=by decide)(hcd:(x==("__classdict__" : Str))=false:=by decide):PE X (.Name x pos) (ycv i):=by
 intro pins s σ H Q I h
 obtain⟨v,e,h⟩:=h
 obtain⟨m,hn,hl⟩:=I.loc
 obtain⟨u,r,l⟩:=hl i x v hN e hv
 have fin:EP X pins σ Q u s:=⟨v,H,I,r,h⟩
 rcases l with ⟨hk,hm⟩ | ⟨hk,c,hc,hcell⟩
 ·exact wpAny_Name (wpAny_loadName_local I.ok.kind hk hn hm fin) hd
 ·rcases hk with hk | hk
  ·exact wpAny_Name (wpAny_loadName_cell I.ok.kind hk hc hcell fin) hd
  ·exact wpAny_Name (wpAny_loadName_free I.ok.kind hk hc hcell fin hcd) hd
theorem yag {i j pos}:PE X (.Constant (.int i) j pos) (tC (.int i)):=λ_ _ _ H _ I h=>wpAny_Constant_int ⟨.int i,H,I.tok _,⟨_,rfl⟩,h⟩
theorem yco {b j pos}:PE X (.Constant (.bool b) j pos) (tC (.bl b)):=λ_ _ _ H _ I h=>Constant_bool ⟨.bl b,H,I,rfl,h⟩
theorem yd9 {j pos}:PE X (.Constant .none j pos) (tC .non):=λ_ _ _ H _ I h=>Constant_none ⟨.non,H,I,rfl,h⟩
theorem yaF {x j pos}:PE X (.Constant (.str x) j pos) (tC (.str x)):=λ_ _ _ H _ I h=>Calls.Constant_str ⟨.str x,H,I.tok _,⟨_,rfl⟩,h⟩
def Gl (X:Cx)(x:Str):Prop:=X.env.kindOf x=some .globalImplicit
theorem ygZ {E:Value→Shared→Prop}{pins:List (Addr×Obj)}{s:Shared}{σ:St}{H:Hp}{x:Str}{u:Value}{pos:Pos}{Q:Value→Shared→Prop}(I:Inv X pins σ H s)(hg:Gl X x)(hm:X.mg x=some u)(h:Q u s)
  (hd:(x==("__debug__" : Str))=false:=by decide):wpAny (model X.prog X.w) X.A (eval (.Name x pos) X.env) Q E s :=
 Calls.Name_function_global I.ok.kind hg (Calls.loadGlobal_global (by rw[I.ok.glob];exact I.mod.glob.keeps I.bk) hm h) hd
theorem ydy {E:Value→Shared→Prop}{pins:List (Addr×Obj)}{s:Shared}{σ:St}{H:Hp}{x:Str}{u:Value}{pos:Pos}{Q:Value→Shared→Prop}(I:Inv X pins σ H s)(hg:Gl X x)(hm:X.mg x=none)(hv:bootBuiltins x=some u)(h:Q u s)
  (hn:x≠"__name__":= by decide) (hd:(x==("__debug__" : Str))=false:=by decide):wpAny (model X.prog X.w) X.A (eval (.Name x pos) X.env) Q E s:=by
 obtain⟨mb,h1,h2⟩:=I.mod.blt
 exact Calls.Name_function_global I.ok.kind hg (Calls.loadGlobal_builtin (by rw[I.ok.glob];exact I.mod.glob.keeps I.bk) hm (by rw[I.ok.blt];exact h1.keeps I.bk) ((h2 x hn).trans hv) h) hd
theorem yci {x:Str}{v:V}{u:Value}{pos:Pos}(hg:Gl X x)(hm:X.mg x=some u)(r:RelV v u)(hd:(x==("__debug__" : Str))=false:=by decide):PE X (.Name x pos) (tC v) :=
 λ_ _ _ H _ I h=>ygZ I hg hm ⟨v,H,I,r,h⟩ hd
theorem ylV {x:Str}{v:V}{u:Value}{pos:Pos}(hg:Gl X x)(hm:X.mg x=none)(hv:bootBuiltins x=some u)(r:RelV v u)(hn:x≠"__name__":= by decide)(hd:(x==("__debug__" : Str))=false:=by decide):PE X (.Name x pos) (tC v) :=
 λ_ _ _ H _ I h=>ydy I hg hm hv ⟨v,H,I,r,h⟩ hn hd
variable {a b:Expr} {ta tb:TE} {pos:Pos}
def PC (X:Cx)(op:CmpOp)(a b:Expr)(t:TE):Prop :=
 ∀ (pins:List (Addr×Obj)) (s:Shared) (σ:St) (H:Hp) (Q:VK),Inv X pins σ H s→t σ H Q →
  wpAny (model X.prog X.w) X.A (eval a X.env) (λv s₁=>wpAny (model X.prog X.w) X.A (eval b X.env) (λu s₂=>wpAny (model X.prog X.w) X.A (compareOp op v u) (EP X pins σ Q) X.xe s₂) X.xe s₁) X.xe s
def tB (t:TE):TT:=fun σ H Q=>t σ H λx H1=>∃ c,x=.bl c∧Q c H1
theorem ynK {op:CmpOp}{t:TE}(h:PC X op a b t)(h1:behindInMarks op b=false:=by first | exact nobehind _ (by decide) (by decide) | rfl):PT X (.Compare a [op] [b] pos) (tB t):=by
 intro pins s σ H Q I hw
 refine wpAny_isTrue_Compare1 (thn (h pins s σ H _ I hw) λv s1 h1=>thn h1 λu s2 h2=>thn h2 λc s3 ⟨x,H1,I1,r1,q1⟩=>?_) h1
 obtain⟨d,rfl,q⟩:=q1
 cases r1
 exact wpAny_truthy_bool ⟨H1,I1,q⟩
theorem ybj {e:Expr}{t:TE}(h:PE X e t)(he:∀ whole,isTrue e X.env whole=(do let v ← whole;standAt e.pos;holding [v] (truthy v)):=by intro _;rfl):PT X e (tB t):=by
 intro pins s σ H Q I hw
 refine isTrue_plain (thn (h pins s σ H _ I hw) λv s1 ⟨x,H1,I1,r1,q1⟩=>?_) (he _)
 obtain⟨d,rfl,q⟩:=q1
 cases r1
 exact wpAny_truthy_bool ⟨H1,I1,q⟩
variable {tA tB':TT} {rest:List Expr}
def yp1 (t u:TT):TT:=fun σ H Q=>t σ H λc H1=>if c=true then u σ H1 Q else Q false H1
def tOr (t u:TT):TT:=fun σ H Q=>t σ H λc H1=>if c=true then Q true H1 else u σ H1 Q
def ypn (t:TT):TT:=fun σ H Q=>t σ H λc H1=>Q (!c) H1
theorem ydo (ha:PT X a tA):PW X (.BoolOp .And [a] pos) tA:=by
 intro wh pins s σ H Q I h
 refine isTrue_and (thn (ha pins s σ H Q I h) λc s1 e=>?_)
 cases c with
 | true=>exact isTrue_and_nil e
 | false=>exact e
theorem yhn (ha:PT X a tA):PW X (.BoolOp .Or [a] pos) tA:=by
 intro wh pins s σ H Q I h
 refine isTrue_or (thn (ha pins s σ H Q I h) λc s1 e=>?_)
 cases c with
 | false=>exact isTrue_or_nil e
 | true=>exact e
theorem yeG (ha:PT X a tA)(hb:PW X (.BoolOp .And (b :: rest) pos) tB'):PW X (.BoolOp .And (a :: b :: rest) pos) (yp1 tA tB'):=by
 intro wh pins s σ H Q I h
 refine isTrue_and (thn (ha pins s σ H _ I h) λc s1 ⟨H1,I1,q1⟩=>?_)
 cases c with
 | true=>exact hb wh pins s1 σ H1 Q I1 q1
 | false=>exact⟨H1,I1,q1⟩
theorem yk6 (ha:PT X a tA)(hb:PW X (.BoolOp .Or (b :: rest) pos) tB'):PW X (.BoolOp .Or (a :: b :: rest) pos) (tOr tA tB'):=by
 intro wh pins s σ H Q I h
 refine isTrue_or (thn (ha pins s σ H _ I h) λc s1 ⟨H1,I1,q1⟩=>?_)
 cases c with
 | true=>exact⟨H1,I1,q1⟩
 | false=>exact hb wh pins s1 σ H1 Q I1 q1
theorem yhH (ha:PT X a tA):PT X (.UnaryOp .Not a pos) (ypn tA):=by
 intro pins s σ H Q I h
 exact isTrue_not (ha pins s σ H (λc H1=>Q (!c) H1) I h)
def ykm (ta tb:TE):TE:=fun σ H Q=>ta σ H λx H1=>∃ c,x=.bl c∧if c=true then tb σ H1 Q else Q (.bl false) H1
theorem yd0 {op}{t:TE}(h:PE X a t):PE X (.BoolOp op [a] pos) t:=λpins s σ H Q I hw=>BoolOp_one (h pins s σ H Q I hw)
theorem yd6 (ha:PE X a ta)(hb:PE X (.BoolOp .And (b :: rest) pos) tb):PE X (.BoolOp .And (a :: b :: rest) pos) (ykm ta tb):=by
 intro pins s σ H Q I h
 refine BoolOp_and (thn (ha pins s σ H _ I h) λv s1 ⟨x,H1,I1,r1,q1⟩=>?_)
 obtain⟨c,rfl,q1⟩:=q1
 cases r1
 refine wpAny_truthy_bool ?_
 cases c with
 | true=>exact hb pins s1 σ H1 Q I1 q1
 | false=>exact⟨.bl false,H1,I1,rfl,q1⟩
def tIf (t:TT)(ta tb:TE):TE:=fun σ H Q=>t σ H λc H1=>if c=true then ta σ H1 Q else tb σ H1 Q
theorem ybm {c:Expr}(hc:PT X c tA)(ha:PE X a ta)(hb:PE X b tb):PE X (.IfExp c a b pos) (tIf tA ta tb):=by
 intro pins s σ H Q I h
 refine wpAny_IfExp (thn (hc pins s σ H _ I h) λd s1 ⟨H1,I1,q1⟩=>?_)
 cases d with
 | true=>exact ha pins s1 σ H1 Q I1 q1
 | false=>exact hb pins s1 σ H1 Q I1 q1
end
def SqL (K:PySem.W.Frag)(H:Hp)(a:Addr)(xs:List V):Prop :=
 Rd H a (.lst xs) ∨
  ∃ (o:Obj) (its:Array Value) (n:Nat),K.lookup a=some o∧o.cls=.type "list" ∧ o.dict=none∧o.data=.seq its n∧its.size≤sizeLine∧Vals xs its.toList
def SqT (K:PySem.W.Frag)(H:Hp)(a:Addr)(xs:List V):Prop :=
 Rd H a (.tup xs) ∨
  ∃ (o:Obj) (its:Array Value) (n:Nat),K.lookup a=some o∧o.cls=.type "tuple" ∧ o.data=.seq its n∧its.size≤sizeLine∧Vals xs its.toList
def yqH:Value→Option V
 | .none=>some .non
 | .bool b=>some (.bl b)
 | .int i _=>some (.int i)
 | .str x _=>some (.str x)
 | .bytes b _=>some (.byt b)
 | .float b _=>some (.flt b)
 | .ref a=>some (.ref a)
 | .type n=>some (.ty n)
 | _=>none
theorem RelV.abs {x:V}{u:Value}(r:RelV x u):yqH u=some x:=by
 cases x with
 | non=>cases r;rfl
 | bl _=>cases r;rfl
 | int _=>obtain⟨t,rfl⟩:=r;rfl
 | str _=>obtain⟨t,rfl⟩:=r;rfl
 | byt _=>obtain⟨t,rfl⟩:=r;rfl
 | flt _=>obtain⟨t,rfl⟩:=r;rfl
 | ref _=>cases r;rfl
 | ty _=>cases r;rfl
theorem RelV.inj {x y:V}{u:Value}(r:RelV x u)(q:RelV y u):x=y:=Option.some.inj (r.abs.symm.trans q.abs)
theorem Vals.inj:∀ {xs ys:List V} {us:List Value},Vals xs us→Vals ys us→xs=ys
 | _,_,_,.nil,.nil=>rfl
 | _,_,_,.cons r t,.cons r' t'=>by rw[r.inj r',Vals.inj t t']
section
variable {X:Cx} {pins:List (Addr×Obj)} {σ:St} {H:Hp} {s:Shared} {a:Addr} {xs ys:List V}
theorem SqL.of {K:PySem.W.Frag}(h:H a=some (.lst xs)):SqL K H a xs:=.inl (.inl h)
theorem SqT.of {K:PySem.W.Frag}(h:H a=some (.tup xs)):SqT K H a xs:=.inl (.inl h)
theorem Inv.list (I:Inv X pins σ H s)(h:SqL X.K H a xs):∃ its:List Value,Vals xs its∧PlainL s.heap a its.toArray∧xs.length≤sizeLine:=by
 rcases h with h | ⟨o,its,n,hk,hc,hd,hs,hz,r⟩
 ·obtain⟨z,its,n,r,e⟩:=h.ok I.hok
  exact⟨its,r,⟨_,n,e,rfl,rfl,rfl⟩,z⟩
 ·refine⟨its.toList,r,⟨o,n,I.kIn a o hk,hc,hd,by simpa using hs⟩,?_⟩
  have e:=r.length
  simp only[Array.length_toList] at e
  omega
theorem Inv.tuple (I:Inv X pins σ H s)(h:SqT X.K H a xs):∃ its:List Value,Vals xs its∧IsTup s.heap a its.toArray∧xs.length≤sizeLine:=by
 rcases h with h | ⟨o,its,n,hk,hc,hs,hz,r⟩
 ·obtain⟨z,its,r,p⟩:=h.ok I.hok
  exact⟨its,r,p,z⟩
 ·refine⟨its.toList,r,⟨o,I.kIn a o hk,hc,n,by simpa using hs⟩,?_⟩
  have e:=r.length
  simp only[Array.length_toList] at e
  omega
theorem Inv.list_inj (I:Inv X pins σ H s)(h:SqL X.K H a xs)(h':SqL X.K H a ys):xs=ys:=by
 obtain⟨its,r,⟨o,n,e,_,_,d⟩,_⟩:=I.list h
 obtain⟨its',r',⟨o',n',e',_,_,d'⟩,_⟩:=I.list h'
 rw[e] at e';cases e'
 rw[d] at d'
 injection d' with d1 _
 have:its=its':=by simpa using congrArg Array.toList d1
 subst this
 exact r.inj r'
theorem Inv.tuple_inj (I:Inv X pins σ H s)(h:SqT X.K H a xs)(h':SqT X.K H a ys):xs=ys:=by
 obtain⟨its,r,⟨o,e,_,n,d⟩,_⟩:=I.tuple h
 obtain⟨its',r',⟨o',e',_,n',d'⟩,_⟩:=I.tuple h'
 rw[e] at e';cases e'
 rw[d] at d'
 injection d' with d1 _
 have:its=its':=by simpa using congrArg Array.toList d1
 subst this
 exact r.inj r'
end
abbrev Cx.wish (X:Cx)(E:Value→Shared→Prop):Cx:={ X with xe:=E }
abbrev Cx.nox (X:Cx):Cx:=X.wish λ_ _=>False
theorem Cx.Ok.wish {X:Cx}(ok:X.Ok)(E:Value→Shared→Prop):(X.wish E).Ok :=
 ⟨ok.mod,ok.kind,ok.glob,ok.blt,ok.above,ok.inj,ok.has,ok.cab,ok.hd,ok.frames,ok.stk,ok.exf,ok.bs,ok.bsz,ok.noex,ok.exfs,ok.funs,ok.frf⟩
theorem Cx.Ok.unwish {X:Cx}{E:Value→Shared→Prop}(ok:(X.wish E).Ok):X.Ok :=
 ⟨ok.mod,ok.kind,ok.glob,ok.blt,ok.above,ok.inj,ok.has,ok.cab,ok.hd,ok.frames,ok.stk,ok.exf,ok.bs,ok.bsz,ok.noex,ok.exfs,ok.funs,ok.frf⟩
section
variable {X:Cx} {pins:List (Addr×Obj)} {σ:St} {H:Hp} {s:Shared} {E:Value→Shared→Prop}
theorem Inv.wish (I:Inv X pins σ H s)(E:Value→Shared→Prop):Inv (X.wish E) pins σ H s:=⟨I.ok.wish E,I.os,I.bare,I.base,I.loc,I.cell,I.free,I.freeC,I.pin,I.hok,I.len⟩
theorem Inv.unwish (I:Inv (X.wish E) pins σ H s):Inv X pins σ H s:=⟨I.ok.unwish,I.os,I.bare,I.base,I.loc,I.cell,I.free,I.freeC,I.pin,I.hok,I.len⟩
theorem SP.unwish {D:ydn}{f:Flow}{s':Shared}(h:SP (X.wish E) pins D f s'):SP X pins D f s':=by
 cases f with
 | next=>obtain⟨σ',H',I,q⟩:=h;exact⟨σ',H',I.unwish,q⟩
 | brk=>obtain⟨σ',H',I,q⟩:=h;exact⟨σ',H',I.unwish,q⟩
 | cont=>obtain⟨σ',H',I,q⟩:=h;exact⟨σ',H',I.unwish,q⟩
 | ret u=>obtain⟨v,σ',H',I,r,q⟩:=h;exact⟨v,σ',H',I.unwish,r,q⟩
theorem PSs.nox {st:List Stmt}{t:TS}(h:PSs X.nox st t):PSs X st t:=λpins s σ H D I hw =>
 wpAny_mono (h pins s σ H D (I.wish _) hw) (λ_ _ q=>q.unwish) λ_ _ z=>False.elim z
end
section
variable {X:Cx} {st:Stmt} {rest:List Stmt} {t u:TS} {e:Expr} {te:TE} {pos:Pos}
def yl4:TS:=λD σ H=>D.nx σ H
def ylQ (t u:TS):TS:=λD σ H=>t { D with nx:=u D } σ H
theorem ya4:PSs X [] yl4:=λ_ _ σ H _ I h=>wpAny_execs_nil ⟨σ,H,I,h⟩
theorem yah (h1:PS X st t)(h2:PSs X rest u):PSs X (st :: rest) (ylQ t u):=by
 intro pins s σ H D I h
 refine wpAny_execs_cons (thn (h1 pins s σ H { D with nx:=u D } I h) λf s1 q=>?_)
 cases f with
 | next =>
  obtain⟨σ',H',I',q⟩:=q
  exact h2 pins s1 σ' H' D I' q
 | ret v=>exact q
 | brk=>exact q
 | cont=>exact q
theorem yaj (h1:PS X st t):PSs X [st] t:=by
 intro pins s σ H D I h
 refine wpAny_execs_cons (thn (h1 pins s σ H D I h) λf s1 q=>?_)
 cases f with
 | next=>exact wpAny_execs_nil q
 | ret v=>exact q
 | brk=>exact q
 | cont=>exact q
theorem Inv.quiet {pins:List (Addr×Obj)}{σ:St}{H:Hp}{s:Shared}(I:Inv X pins σ H s):interactive X.env=false:=by simp[interactive,I.ok.kind]
def yjK (te:TE):TS:=λD σ H=>te σ H λ_ H1=>D.nx σ H1
theorem yaO (he:PE X e te)(hs:swapsWith e none pos.line X.env=pure false:=by rfl):PS X (.Expr e pos) (yjK te):=by
 intro pins s σ H D I h
 exact wpAny_Expr_any (thn (he pins s σ H _ I h) λv s1 ⟨x,H1,I1,r1,q1⟩=>⟨σ,H1,I1,q1⟩) I.quiet hs
def ypK (te:TE):TS:=λD σ H=>te σ H D.rt
theorem yaG (he:PE X e te):PS X (.Return (some e) pos) (ypK te):=by
 intro pins s σ H D I h
 exact wpAny_Return_some (thn (he pins s σ H _ I h) λv s1 ⟨x,H1,I1,r1,q1⟩=>⟨x,σ,H1,I1,r1,q1⟩)
def yn1 (c:TT)(t u:TS):TS:=λD σ H=>c σ H λb H1=>if b=true then t D σ H1 else u D σ H1
theorem ybM {c:Expr}{a b:List Stmt}{tc:TT}(hc:PT X c tc)(ha:PSs X a t)(hb:PSs X b u):PS X (.If c a b pos) (yn1 tc t u):=by
 intro pins s σ H D I h
 refine wpAny_If (thn (hc pins s σ H _ I h) λd s1 ⟨H1,I1,q1⟩=>?_)
 cases d with
 | true=>exact ha pins s1 σ H1 D I1 q1
 | false=>exact hb pins s1 σ H1 D I1 q1
end
abbrev TG:=V→St→Hp→(St→Hp→Prop)→Prop
abbrev TGs:=List V→St→Hp→(St→Hp→Prop)→Prop
def PG (X:Cx)(target:Expr)(t:TG):Prop :=
 ∀ (pins:List (Addr×Obj)) (s:Shared) (σ:St) (H:Hp) (v:V) (u:Value) (Q:St→Hp→Prop),Inv X pins σ H s→RelV v u→t v σ H Q →
  wpAny (model X.prog X.w) X.A (assign target X.env u) (λ_ s'=>∃ σ' H',Inv X pins σ' H' s'∧Q σ' H') X.xe s
def PGs (X:Cx)(ts:List Expr)(t:TGs):Prop :=
 ∀ (pins:List (Addr×Obj)) (s:Shared) (σ:St) (H:Hp) (vs:List V) (us:List Value) (Q:St→Hp→Prop),Inv X pins σ H s→Vals vs us→t vs σ H Q →
  wpAny (model X.prog X.w) X.A (assignInOrder ((assignEach ts X.env).map (·.2)) us) (λ_ s'=>∃ σ' H',Inv X pins σ' H' s'∧Q σ' H') X.xe s
abbrev yn3:=V→V→V→Hp→(Hp→Prop)→Prop
def yql (X:Cx)(t:yn3):Prop :=
 ∀ (pins:List (Addr×Obj)) (s:Shared) (σ:St) (H:Hp) (o i v:V) (ov iv u:Value) (Q:Hp→Prop),Inv X pins σ H s→RelV o ov→RelV i iv→RelV v u→t o i v H Q →
  wpAny (model X.prog X.w) X.A (setItem ov iv u) (λ_ s'=>∃ H',Inv X pins σ H' s'∧Q H') X.xe s
abbrev TIp:=V→V→Hp→VK→Prop
def PIp (X:Cx)(op:Operator)(t:TIp):Prop :=
 ∀ (pins:List (Addr×Obj)) (s:Shared) (σ:St) (H:Hp) (x y:V) (v u:Value) (Q:VK),Inv X pins σ H s→RelV x v→RelV y u→t x y H Q →
  wpAny (model X.prog X.w) X.A (inplaceOp op v u) (EP X pins σ Q) X.xe s
section
variable {X:Cx} {pos:Pos}
def yce (i:Nat):TG:=λv σ H Q=>Q (σ.set i (some v)) H
theorem yan {i:Nat}{x:Str}(hN:X.N.Nodup)(hi:X.N[i]?=some x)(hx:Loc X.env.scope x)(hf:X.fn x=true∨X.env.scope.names.lookup x=some .local:=by first | exact .inl rfl | exact .inr rfl | assumption):PG X (.Name x pos) (yce i):=by
 intro pins s σ H v u Q I r h
 exact wpAny_assign_Name (ydJ I hN hi hx r (λs' I'=>⟨_,H,I',h⟩) hf)
def ymO:TGs:=λvs σ H Q=>vs=[]∧Q σ H
def yed (t:TG)(u:TGs):TGs:=λvs σ H Q=>∃ v r,vs=v :: r∧t v σ H fun σ' H'=>u r σ' H' Q
theorem ybG:PGs X [] ymO:=by
 intro pins s σ H vs us Q I r h
 obtain⟨e,h⟩:=h
 subst e
 cases r
 exact assignInOrder_nil ⟨σ,H,I,h⟩
theorem yaC {e:Expr}{es:List Expr}{t:TG}{u:TGs}(h1:PG X e t)(h2:PGs X es u)
  (hs:(assignEach (e :: es) X.env).map (·.2)=assign e X.env :: (assignEach es X.env).map (·.2):=by rfl):PGs X (e :: es) (yed t u):=by
 intro pins s σ H vs us Q I r h
 obtain⟨v,vr,e1,h⟩:=h
 subst e1
 cases r with
 | cons r rr =>
  rw[hs]
  refine assignInOrder_cons (thn (h1 pins s σ H _ _ _ I r h) λ_ s1 ⟨σ1,H1,I1,q1⟩=>?_)
  exact h2 pins s1 σ1 H1 _ _ Q I1 rr q1
def ymP (K:PySem.W.Frag)(n:Nat)(t:TGs):TG:=λv σ H Q=>∃ a xs,v=.ref a∧SqT K H a xs∧xs.length=n∧t xs σ H Q
theorem yca {es:List Expr}{k:Nat}{t:TGs}{n:Nat}(hc:X.calm=true)(h:PGs X es t)
  (hn:(assignEach es X.env).length=n:=by rfl) (hst:(assignEach es X.env).findIdx? (·.1)=none:=by rfl):PG X (.Tuple es k pos) (ymP X.K n t):=by
 intro pins s σ H v u Q I r hw
 obtain⟨a,xs,e1,hq,hl,hw⟩:=hw
 subst e1
 cases r
 obtain⟨its,rv,ht,hz⟩:=I.tuple hq
 refine assign_Tuple_tuple (I.ok.hd hc) ht (by simp[hn,← hl,rv.length]) hst λh' hx=>?_
 have I1:Inv X pins σ H { s with heap:=h' }:=I.kept (t':=s.toks) λb o e=>hx b o (Nat.ne_of_lt (Heap.lt_size e)) e
 exact h pins _ σ H xs _ Q I1 (by simpa using rv) hw
def ynr (to ti:TE)(t:yn3):TG:=λv σ H Q=>to σ H λo H1=>ti σ H1 λi H2=>t o i v H2 λH3=>Q σ H3
theorem yfW {o i:Expr}{to ti:TE}{t:yn3}(ho:PE X o to)(hi:PE X i ti)(hs:yql X t)
  (ha:∀ v,assign (.Subscript o i pos) X.env v=(do
   let ov ← holding [v] (eval o X.env)
   let iv ← holding [v,ov] (eval i X.env)
   standAt pos
   holding [v,ov,iv] (setItem ov iv v)
   release [v,ov,iv] []):=by intro _;rfl):PG X (.Subscript o i pos) (ynr to ti t):=by
 intro pins s σ H v u Q I r h
 rw[ha]
 refine wpAny_bind (wpAny_holding (thn (ho pins s σ H _ I h) λov s1 ⟨x,H1,I1,r1,q1⟩=>?_))
 refine wpAny_bind (wpAny_holding (thn (hi pins s1 σ H1 _ I1 q1) λiv s2 ⟨y,H2,I2,r2,q2⟩=>?_))
 refine wpAny_bind (wpAny_standAt (wpAny_bind (wpAny_holding (thn (hs pins s2 σ H2 x y v ov iv u _ I2 r1 r2 r q2) λ_ s3 ⟨H3,I3,q3⟩=>?_))))
 exact wpAny_release ⟨σ,H3,I3,q3⟩
def yku (te:TE)(g:TG):TS:=λD σ H=>te σ H λx H1=>g x σ H1 D.nx
theorem ygd {tg e:Expr}{te:TE}{g:TG}(he:PE X e te)(hg:PG X tg g)(hs:swapsWithSole [tg] e pos.line X.env=pure false:=by rfl)(hw:swappedStores [tg] e X.env=pure none:=by rfl)
  (h1:(assignEach [tg] X.env).map (·.2)=[assign tg X.env]:=by rfl):PS X (.Assign [tg] e pos) (yku te g):=by
 intro pins s σ H D I h
 refine wpAny_Assign_stores (thn (he pins s σ H _ I h) λv s1 ⟨x,H1,I1,r1,q1⟩=>?_) hs hw
 rw[h1]
 exact thn (hg pins s1 σ H1 x v _ I1 r1 q1) λ_ s2 q=>q
theorem yas {i:Nat}{x:Str}{e:Expr}{te:TE}{pos':Pos}(hN:X.N.Nodup)(hi:X.N[i]?=some x)(hx:Loc X.env.scope x)(he:PE X e te)(hs:swapsWith e (some (.Name x pos')) pos.line X.env=pure false:=by rfl)(hf:X.fn x=true∨X.env.scope.names.lookup x=some .local:=by first | exact .inl rfl | exact .inr rfl | assumption) :
  PS X (.Assign [.Name x pos'] e pos) (yku te (yce i)):=by
 intro pins s σ H D I h
 refine wpAny_Assign_Name (thn (he pins s σ H _ I h) λv s1 ⟨y,H1,I1,r1,q1⟩=>?_) hs
 exact ydJ I1 hN hi hx r1 (λs2 I2=>⟨_,H1,I2,q1⟩) hf
def yml (i:Nat)(te:TE)(ti:TIp):TS:=λD σ H=>∃ x,σ[i]?=some (some x)∧te σ H λy H1=>ti x y H1 λz H2=>D.nx (σ.set i (some z)) H2
theorem yiy {i:Nat}{x:Str}{e:Expr}{te:TE}{op:Operator}{ti:TIp}{pos':Pos}(hN:X.N.Nodup)(hi:X.N[i]?=some x)(hx:Loc X.env.scope x)(he:PE X e te)(ho:PIp X op ti)(hf:X.fn x=true∨X.env.scope.names.lookup x=some .local:=by first | exact .inl rfl | exact .inr rfl | assumption) :
  PS X (.AugAssign (.Name x pos') op e pos) (yml i te ti):=by
 intro pins s σ H D I h
 obtain⟨v,e1,h⟩:=h
 obtain⟨m,hn,hl⟩:=I.loc
 have vis:Vis X.env.scope x:=by rcases hx with k | k;exact .inl k;exact .inr (.inl k)
 obtain⟨u,r,l⟩:=hl i x v hi e1 vis
 refine wpAny_AugAssign_Name ?_
 have go:wpAny (model X.prog X.w) X.A (eval e X.env) (λw s₂=>wpAny (model X.prog X.w) X.A (inplaceOp op u w) (λr s₃=>wpAny (model X.prog X.w) X.A (storeName X.env x r) (λ_=>SP X pins D .next) X.xe s₃) X.xe s₂) X.xe s:=by
  refine thn (he pins s σ H _ I h) λw s1 ⟨y,H1,I1,r1,q1⟩=>?_
  refine thn (ho pins s1 σ H1 v y u w _ I1 r r1 q1) λz s2 ⟨zv,H2,I2,r2,q2⟩=>?_
  exact ydJ I2 hN hi hx r2 (λs3 I3=>⟨_,H2,I3,q2⟩) hf
 rcases l with ⟨hk,hm⟩ | ⟨hk,c,hc,hcell⟩
 ·exact wpAny_loadName_local I.ok.kind hk hn hm go
 ·rcases hk with hk | hk
  ·exact wpAny_loadName_cell I.ok.kind hk hc hcell go
  ·rcases hx with k | k
   ·have:X.env.scope.names.lookup x=some .free:=hk
    rw[k] at this;cases this
   ·have:X.env.scope.names.lookup x=some .free:=hk
    rw[k] at this;cases this
def ipI (f:Int→Int→Int):TIp:=λx y H Q=>∃ i j,x=.int i∧y=.int j∧Q (.int (f i j)) H
theorem yjd:PIp X .Add (ipI λi j=>i+j):=by
 intro pins s σ H x y v u Q I r1 r2 h
 obtain⟨i,j,e1,e2,q⟩:=h
 subst e1;subst e2
 obtain⟨t,rfl⟩:=r1
 obtain⟨t',rfl⟩:=r2
 exact iadd_int ⟨.int _,H,I.tok _,⟨_,rfl⟩,q⟩
def ynF (c:TT)(tb:TS):TS:=λD σ H=>∃ W:Nat→St→Hp→Prop,(∃ m,W m σ H)∧∀ m σ H,W m σ H →
 c σ H λb H1=>if b=true then ∃ N:St→Hp→Prop,(∀ σ' H',N σ' H'→∃ m',m' < m∧W m' σ' H')∧tb { D with nx:=N,ct:=N,bk:=D.nx } σ H1 else D.nx σ H1
theorem yk8 {c:Expr}{body:List Stmt}{tc:TT}{tb:TS}(hp:PassesOwn (model X.prog X.w) X.A X.env X.xe)(hc:PT X c tc)(hb:PSs X body tb):PS X (.While c body [] pos) (ynF tc tb):=by
 intro pins s σ H D I h
 obtain⟨W,⟨m0,w0⟩,turn⟩:=h
 refine wpAny_While (codeAny_whileLoop (λn s'=>∃ σ' H',Inv X pins σ' H' s'∧W n σ' H') ?_ m0 ⟨σ,H,I,w0⟩)
 rintro n s1 ⟨σ1,H1,I1,w1⟩
 refine wpAny_passesOwn hp (thn (hc pins s1 σ1 H1 _ I1 (turn n σ1 H1 w1)) λb s2 ⟨H2,I2,q2⟩=>?_)
 cases b with
 | true =>
  obtain⟨N,hN,q2⟩:=q2
  rw[if_pos rfl]
  refine wpAny_passesOwn hp (thn (hb pins s2 σ1 H2 _ I2 q2) λf s3 q3=>?_)
  cases f with
  | next =>
   obtain⟨σ3,H3,I3,n3⟩:=q3
   obtain⟨m',hm,w3⟩:=hN σ3 H3 n3
   exact⟨m',hm,σ3,H3,I3,w3⟩
  | cont =>
   obtain⟨σ3,H3,I3,n3⟩:=q3
   obtain⟨m',hm,w3⟩:=hN σ3 H3 n3
   exact⟨m',hm,σ3,H3,I3,w3⟩
  | brk=>exact q3
  | ret v=>exact q3
 | false =>
  rw[if_neg Bool.false_ne_true]
  exact wpAny_execs_nil ⟨σ1,H2,I2,q2⟩
end
structure It where
 go:Nat→Hp→Prop
 yld:Nat→Hp→V→Hp→Prop
 stop:Nat→Hp→Prop
def FpOk (X:Cx)(pins:List (Addr×Obj))(H:Hp)(b:Addr):Prop :=
 H b=none∧b≠X.env.locals∧b∉X.fs∧(b∈X.ex∨X.s₀.heap.objs.size≤b)∧(∀ x c,X.env.cells.lookup x=some c→c≠b)∧∀ p∈X.pn++pins,p.1≠b
theorem Inv.fpOk {X:Cx}{pins:List (Addr×Obj)}{σ:St}{H H':Hp}{s:Shared}{b:Addr}(I:Inv X pins σ H s)(hb:s.heap.objs.size≤b)(hn:H' b=none):FpOk X pins H' b:=by
 refine⟨hn,Nat.ne_of_gt (Nat.lt_of_lt_of_le I.lt hb),I.nofs hb,.inr (Nat.le_trans I.sz hb),λx c e z=>?_,λp hp z=>?_⟩
 ·obtain⟨v,q⟩:=I.cell x c e
  exact absurd (Nat.lt_of_lt_of_le q.lt (by rw[z];exact hb)) (Nat.lt_irrefl _)
 ·exact absurd (Nat.lt_of_lt_of_le (Heap.lt_size (I.pin p hp).1) (by rw[z];exact hb)) (Nat.lt_irrefl _)
structure ylH (P:Program) (w:World) (K:PySem.W.Frag) (tg:Expr) (J:It) (fp:List Addr) (it:Addr) (tn:Nat→Heap→Prop):Prop where
 mem:it∈fp
 obj:∀ i h,tn i h→∀ b∈fp,∃ o,h.get? b=some o∧∀ v,o.data≠.cell v
 keep:∀ i h h',tn i h→(∀ b∈fp,∀ o,h.get? b=some o→h'.get? b=some o)→tn i h'
 item:∀ (X:Cx),X.prog=P→X.w=w→X.K=K→X.calm=true→∀ (i:Nat) (pins:List (Addr×Obj)) (s:Shared) (σ:St) (H:Hp) (E:Value→Shared→Prop),Inv X pins σ H s→(∀ b∈fp,FpOk X pins H b)→tn i s.heap→J.go i H →
  wpAny (model P w) X.A (pyNext (.ref it)) (λr s1=>∃ u,r=some u ∧
   wpAny (model P w) X.A (letOwnedTupleGo tg (.ref it) u) (λ_ s2=>∃ x H',Inv X pins σ H' s2∧RelV x u∧J.yld i H x H'∧tn (i+1) s2.heap∧∀ b∈fp,H' b=none) E s1) E s
 done:∀ (X:Cx),X.prog=P→X.w=w→X.K=K→X.calm=true→∀ (i:Nat) (pins:List (Addr×Obj)) (s:Shared) (σ:St) (H:Hp) (E:Value→Shared→Prop),Inv X pins σ H s→(∀ b∈fp,FpOk X pins H b)→tn i s.heap→J.stop i H →
  wpAny (model P w) X.A (pyNext (.ref it)) (λr s1=>r=none∧Inv X pins σ H s1) E s
 self:∀ (A:Around) (i:Nat) (s:Shared) (Q:Value→Shared→Prop) (E:Value→Shared→Prop),tn i s.heap→Q (.ref it) s→wpAny (model P w) A (pyIter (.ref it)) Q E s
abbrev TI:=St→Hp→(It→Hp→Prop)→Prop
def PIE (X:Cx)(pins:List (Addr×Obj))(σ:St)(tg:Expr)(R:It→Hp→Prop)(itv:Value)(s2:Shared):Prop :=
 ∃ (it:Addr) (fp:List Addr) (tn:Nat→Heap→Prop) (J:It) (H':Hp),itv=.ref it∧Inv X pins σ H' s2∧ylH X.prog X.w X.K tg J fp it tn∧tn 0 s2.heap∧(∀ b∈fp,FpOk X pins H' b)∧R J H'
def PI (X:Cx)(tg iter:Expr)(wi:TI):Prop :=
 ∀ (pins:List (Addr×Obj)) (s:Shared) (σ:St) (H:Hp) (R:It→Hp→Prop),Inv X pins σ H s→wi σ H R →
  wpAny (model X.prog X.w) X.A (eval iter X.env) (λv s1=>wpAny (model X.prog X.w) X.A (pyIter v) (PIE X pins σ tg R) X.xe s1) X.xe s
theorem ymh {M:Model}{A:Around}{E:Value→Shared→Prop}{s:Shared}{tg:Expr}{it:Addr}{u:Value}{o:Obj}{n:String}{vs:Array Value}{Q:Unit→Shared→Prop}(ho:s.heap.get? it=some o)(hc:o.cls=.type n)(hd:o.data=.fields vs)
  (hn:["enumerate","zip","dict_itemiterator","dict_reverseitemiterator","odict_iterator","itertools.zip_longest","itertools.pairwise"].contains n=false) (hQ:Q () s):wpAny M A (letOwnedTupleGo tg (.ref it) u) Q E s:=by
 unfold letOwnedTupleGo
 cases tg<;>first
  | exact wpAny_pure hQ
  | (cases u<;>first
    | exact wpAny_pure hQ
    | (refine wpAny_bind (wpAny_load ho ?_)
       rw[hc,hd]
       show wpAny M A (if (["enumerate","zip","dict_itemiterator","dict_reverseitemiterator","odict_iterator","itertools.zip_longest","itertools.pairwise"].contains n&&vs[0]?==some (rawInt _))=true then _ else _) Q E s
       rw[if_neg (by intro h;rw[hn,Bool.false_and] at h;cases h)]
       exact wpAny_pure hQ))
def Itl (K:PySem.W.Frag)(a:Addr):It :=
 ⟨λi H=>∃ xs x,SqL K H a xs∧xs[i]?=some x,λi H x H'=>H'=H∧∀ xs,SqL K H a xs→xs[i]?=some x,λi H=>∃ xs,SqL K H a xs∧xs.length≤i⟩
def Itt (K:PySem.W.Frag)(a:Addr):It :=
 ⟨λi H=>∃ xs x,SqT K H a xs∧xs[i]?=some x,λi H x H'=>H'=H∧∀ xs,SqT K H a xs→xs[i]?=some x,λi H=>∃ xs,SqT K H a xs∧xs.length≤i⟩
def Itr (lo:Int)(n:Nat):It:=⟨λi _=>i < n,λi H x H'=>H'=H∧x=.int (lo+i),λi _=>n≤i⟩
theorem yjG {P:Program}{w:World}{K:PySem.W.Frag}{tg:Expr}(a it:Addr):ylH P w K tg (Itl K a) [it] it (λi h=>h.IsListIter it a i) where
 mem:=by simp
 obj:=λi h st b hb=>by
  have e:b=it:=by simpa using hb
  subst e
  obtain⟨o,e,c,d⟩:=st
  exact⟨o,e,λv z=>by rw[d] at z;cases z⟩
 keep:=λi h h' st k=>st.at λo e=>k it (by simp) o e
 item:=by
  intro X hP hw hK hc i pins s σ H E I hf st hg
  subst hP hw hK
  obtain⟨xs,x,hq,hx⟩:=hg
  obtain⟨its,rv,p,hz⟩:=I.list hq
  obtain⟨u,hu,ru⟩:=rv.get hx
  obtain⟨f0,f1,f2,f3,f4,f5⟩:=hf it (by simp)
  refine wpAny_pyNext_list_item st p.isList (x:=u) (by simpa using hu) λh' st' sb=>?_
  have I1:Inv X pins σ H { s with heap:=h' }:=I.turned (t':=s.toks) (λb o hb e=>(sb.2 b hb).trans e) f0 f1 f3 f4 f5
  obtain⟨o,e,c,d⟩:=id st'
  exact⟨u,rfl,ymh (s:={ s with heap:=h' }) e c d (by decide) ⟨x,H,I1,ru,⟨rfl,λys hy=>by rw[I.list_inj hy hq];exact hx⟩,st',λb hb=>(hf b hb).1⟩⟩
 done:=by
  intro X hP hw hK hc i pins s σ H E I hf st hg
  subst hP hw hK
  obtain⟨xs,hq,hx⟩:=hg
  obtain⟨its,rv,p,hz⟩:=I.list hq
  obtain⟨f0,f1,f2,f3,f4,f5⟩:=hf it (by simp)
  have hl:=rv.length
  exact wpAny_pyNext_list_end (I.ok.hd hc) st p.isList (by simp;omega) λh' eb=>⟨rfl,I.turned (t':=s.toks) (λb o hb e=>eb b o hb e) f0 f1 f3 f4 f5⟩
 self:=λ_ _ _ _ _ st h=>wpAny_pyIter_listiter st h
theorem yib {P:Program}{w:World}{K:PySem.W.Frag}{tg:Expr}(a it:Addr):ylH P w K tg (Itt K a) [it] it (λi h=>h.IsTupleIter it a i) where
 mem:=by simp
 obj:=λi h st b hb=>by
  have e:b=it:=by simpa using hb
  subst e
  obtain⟨o,e,c,d⟩:=st
  exact⟨o,e,λv z=>by rw[d] at z;cases z⟩
 keep:=λi h h' st k=>st.at λo e=>k it (by simp) o e
 item:=by
  intro X hP hw hK hc i pins s σ H E I hf st hg
  subst hP hw hK
  obtain⟨xs,x,hq,hx⟩:=hg
  obtain⟨its,rv,p,hz⟩:=I.tuple hq
  obtain⟨u,hu,ru⟩:=rv.get hx
  obtain⟨f0,f1,f2,f3,f4,f5⟩:=hf it (by simp)
  refine wpAny_pyNext_tuple_item st (show s.heap.IsTuple a its.toArray from p) (x:=u) (by simpa using hu) λh' st' sb=>?_
  have I1:Inv X pins σ H { s with heap:=h' }:=I.turned (t':=s.toks) (λb o hb e=>(sb.2 b hb).trans e) f0 f1 f3 f4 f5
  obtain⟨o,e,c,d⟩:=id st'
  exact⟨u,rfl,ymh (s:={ s with heap:=h' }) e c d (by decide) ⟨x,H,I1,ru,⟨rfl,λys hy=>by rw[I.tuple_inj hy hq];exact hx⟩,st',λb hb=>(hf b hb).1⟩⟩
 done:=by
  intro X hP hw hK hc i pins s σ H E I hf st hg
  subst hP hw hK
  obtain⟨xs,hq,hx⟩:=hg
  obtain⟨its,rv,p,hz⟩:=I.tuple hq
  obtain⟨f0,f1,f2,f3,f4,f5⟩:=hf it (by simp)
  have hl:=rv.length
  exact wpAny_pyNext_tuple_end (I.ok.hd hc) st (show s.heap.IsTuple a its.toArray from p) (by simp;omega) λh' eb=>⟨rfl,I.turned (t':=s.toks) (λb o hb e=>eb b o hb e) f0 f1 f3 f4 f5⟩
 self:=λ_ _ _ _ _ st h=>wpAny_pyIter_tupleiter st h
theorem yh4 {P:Program}{w:World}{K:PySem.W.Frag}{tg:Expr}(it:Addr)(lo:Int)(n:Nat):ylH P w K tg (Itr lo n) [it] it (λi h=>IsRangeIter h it (lo+(i:Nat)*1) ((n:Int) - (i:Nat)) 1) where
 mem:=by simp
 obj:=λi h st b hb=>by
  have e:b=it:=by simpa using hb
  subst e
  exact⟨_,st,λv z=>by
   have z':Data.fields _=Data.cell v:=z
   cases z'⟩
 keep:=λi h h' st k=>k it (by simp) _ st
 item:=by
  intro X hP hw hK hc i pins s σ H E I hf st hg
  subst hP hw hK
  obtain⟨f0,f1,f2,f3,f4,f5⟩:=hf it (by simp)
  have W:=Walks.range (prog:=X.prog) (w:=X.w) (I.ok.hd hc) it lo 1 n
  refine W.item i s _ _ hg st λv h' tk hv st' kk=>?_
  obtain⟨t,rfl⟩:=hv
  have I1:Inv X pins σ H { s with heap:=h',toks:=tk }:=I.turned (λb o hb e=>kk b o (by simpa using hb) e) f0 f1 f3 f4 f5
  refine⟨_,rfl,ymh (s:={ s with heap:=h',toks:=tk }) (n := "range_iterator") st' rfl rfl (by decide) ⟨.int (lo+i),H,I1,⟨t,?_⟩,⟨rfl,rfl⟩,st',λb hb=>(hf b hb).1⟩⟩
  rw[Int.mul_one]
 done:=by
  intro X hP hw hK hc i pins s σ H E I hf st hg
  subst hP hw hK
  obtain⟨f0,f1,f2,f3,f4,f5⟩:=hf it (by simp)
  exact wpAny_pyNext_range_end (I.ok.hd hc) st (by have:n≤i:=hg;omega) λh' eb=>⟨rfl,I.turned (t':=s.toks) (λb o hb e=>eb b o hb e) f0 f1 f3 f4 f5⟩
 self:=λ_ _ _ _ _ st h=>wpAny_pyIter_rangeiter st h
section
variable {X:Cx} {tg:Expr}
def yih (K:PySem.W.Frag)(tl:TE):TI:=fun σ H R=>tl σ H λx H1=>∃ a,x=.ref a∧(∃ xs,SqL K H1 a xs)∧R (Itl K a) H1
def ypY (K:PySem.W.Frag)(tl:TE):TI:=fun σ H R=>tl σ H λx H1=>∃ a,x=.ref a∧(∃ xs,SqT K H1 a xs)∧R (Itt K a) H1
theorem yaX {l:Expr}{tl:TE}(hl:PE X l tl):PI X tg l (yih X.K tl):=by
 intro pins s σ H R I h
 refine thn (hl pins s σ H _ I h) λv s1 ⟨x,H1,I1,r1,q1⟩=>?_
 obtain⟨a,e,⟨xs,hq⟩,q⟩:=q1
 subst e
 cases r1
 obtain⟨its,rv,p,hz⟩:=I1.list hq
 refine wpAny_pyIter_list p.isList ?_
 refine⟨s1.heap.objs.size,[s1.heap.objs.size],_,_,H1,rfl,I1.kept (t':=s1.toks) λb o e=>Heap.get?_push_of_some _ e,yjG a _,⟨_,Heap.get?_push_size _ rfl,rfl,rfl⟩,λb hb=>?_,q⟩
 have e:b=s1.heap.objs.size:=by simpa using hb
 subst e
 exact I1.fpOk (Nat.le_refl _) (I1.hok.fresh (Nat.le_refl _))
theorem yjJ {l:Expr}{tl:TE}(hl:PE X l tl):PI X tg l (ypY X.K tl):=by
 intro pins s σ H R I h
 refine thn (hl pins s σ H _ I h) λv s1 ⟨x,H1,I1,r1,q1⟩=>?_
 obtain⟨a,e,⟨xs,hq⟩,q⟩:=q1
 subst e
 cases r1
 obtain⟨its,rv,p,hz⟩:=I1.tuple hq
 refine wpAny_pyIter_tuple (show s1.heap.IsTuple a its.toArray from p) ?_
 refine⟨s1.heap.objs.size,[s1.heap.objs.size],_,_,H1,rfl,I1.kept (t':=s1.toks) λb o e=>Heap.get?_push_of_some _ e,yib a _,⟨_,Heap.get?_push_size _ rfl,rfl,rfl⟩,λb hb=>?_,q⟩
 have e:b=s1.heap.objs.size:=by simpa using hb
 subst e
 exact I1.fpOk (Nat.le_refl _) (I1.hok.fresh (Nat.le_refl _))
theorem ykG {pins:List (Addr×Obj)}{σ:St}{H:Hp}{s:Shared}{R:It→Hp→Prop}{E:Value→Shared→Prop}{lo hi:Int}{t u v:Tok}{tk:Nat}(I:Inv X pins σ H s)(h1:-(2 ^ 62)≤lo)(h2:lo < 2 ^ 62)(h3:-(2 ^ 62)≤hi)(h4:hi < 2 ^ 62)
  (q:R (Itr lo (hi - lo).toNat) H):wpAny (model X.prog X.w) X.A (pyIter (.ref s.heap.objs.size)) (PIE X pins σ tg R) E { s with heap:=s.heap.push { cls:=.type "range",data:=.fields #[.int lo t,.int hi u,.int 1 v] },toks:=tk }:=by
 refine wpAny_pyIter_range (IsRange.new ..) (small_one h1 h2 h3 h4) ?_
 have I1:Inv X pins σ H { s with heap:=s.heap.push { cls:=.type "range",data:=.fields #[.int lo t,.int hi u,.int 1 v] },toks:=tk }:=I.kept λb o e=>Heap.get?_push_of_some _ e
 refine⟨(s.heap.push { cls:=.type "range",data:=.fields #[.int lo t,.int hi u,.int 1 v] }).objs.size,[(s.heap.push { cls:=.type "range",data:=.fields #[.int lo t,.int hi u,.int 1 v] }).objs.size],_,_,H,rfl,
  I1.kept (t':=tk) λb o e=>Heap.get?_push_of_some _ e,yh4 _ lo (hi - lo).toNat,?_,λb hb=>?_,q⟩
 ·have e1:lo+((0:Nat):Int)*1=lo:=by simp
  have e2:(((hi - lo).toNat:Nat):Int) - ((0:Nat):Int)=Builtin.Range.rangeSize lo hi 1:=by rw[rangeSize_one];split<;>omega
  show IsRangeIter _ _ (lo+((0:Nat):Int)*1) ((((hi - lo).toNat:Nat):Int) - ((0:Nat):Int)) 1
  rw[e1,e2]
  exact Heap.get?_push_size _ rfl
 ·have e:b=(s.heap.push { cls:=.type "range",data:=.fields #[.int lo t,.int hi u,.int 1 v] }).objs.size:=by simpa using hb
  subst e
  exact I1.fpOk (Nat.le_refl _) (I1.hok.fresh (Nat.le_refl _))
def ykT (ta:TA):TI:=fun σ H R=>ta σ H λvs H1=>∃ j:Int,vs=[.int j]∧-(2 ^ 62)≤j∧j < 2 ^ 62∧R (Itr 0 j.toNat) H1
theorem ybX {a:Expr}{ta:TA}{p pos:Pos}(hg:Gl X "range")(hm:X.mg "range"=none)(ha:PA X [a] ta)(hs:starEach [a] X.env=[(false,eval a X.env)]:=by rfl):PI X tg (.Call (.Name "range" p) [a] [] pos) (ykT ta):=by
 intro pins s σ H R I h
 refine Call_ (ydy I hg hm boot_range (PyProof.Rows.callWith_type1 (thn (ha pos pins s σ H _ I h) λus s1 ⟨vs,H1,I1,r1,q1⟩=>?_) hs rfl))
 obtain⟨j,e,q1,q2,q⟩:=q1
 subst e
 cases r1 with
 | cons r rr =>
  cases rr
  obtain⟨t,rfl⟩:=r
  exact call_range_1 (ykG I1 (by omega) (by omega) q1 q2 (by simpa using q))
def ymM (wi:TI)(g:TG)(tb:TS):TS:=λD σ H=>wi σ H λJ H1=>∃ W:Nat→Nat→St→Hp→Prop,(∃ m,W 0 m σ H1)∧∀ i m σ H,W i m σ H →
 (J.stop i H∧D.nx σ H)∨(J.go i H∧∃ N:St→Hp→Prop,(∀ σ' H',N σ' H'→∃ m',m' < m∧W (i+1) m' σ' H')∧∀ x H',J.yld i H x H'→g x σ H' fun σ2 H2=>tb { D with nx:=N,ct:=N,bk:=D.nx } σ2 H2)
def ygg (fp:List Addr)(h:Heap):List (Addr×Obj):=fp.filterMap λb=>(h.get? b).map λo=>(b,o)
theorem ycN {fp:List Addr}{h:Heap}{b:Addr}{o:Obj}(hb:b∈fp)(e:h.get? b=some o):(b,o)∈ygg fp h:=List.mem_filterMap.mpr ⟨b,hb,by rw[e];rfl⟩
theorem yi3 {fp:List Addr}{h:Heap}{p:Addr×Obj}(hp:p∈ygg fp h):p.1∈fp∧h.get? p.1=some p.2:=by
 obtain⟨b,hb,e⟩:=List.mem_filterMap.mp hp
 cases q:h.get? b with
 | none=>rw[q] at e;cases e
 | some o =>
  rw[q] at e
  have e':(b,o)=p:=Option.some.inj e
  subst e'
  exact⟨hb,q⟩
theorem Inv.pinned {pins:List (Addr×Obj)}{σ:St}{H:Hp}{s:Shared}{fp:List Addr}(I:Inv X pins σ H s)(hf:∀ b∈fp,FpOk X pins H b)(ho:∀ b∈fp,∃ o,s.heap.get? b=some o∧∀ v,o.data≠.cell v):Inv X (pins++ygg fp s.heap) σ H s :=
 I.pins_of λp hp=>(List.mem_append.mp hp).elim (λz=>I.pin p (List.mem_append_right _ z)) λz=>by
  obtain⟨hb,e⟩:=yi3 z
  obtain⟨f0,f1,f2,_⟩:=hf p.1 hb
  obtain⟨o,e',d⟩:=ho p.1 hb
  rw[e] at e';cases e'
  exact⟨e,f0,f1,f2,d⟩
theorem Inv.unpinned {pins pl:List (Addr×Obj)}{σ:St}{H:Hp}{s:Shared}(I:Inv X (pins++pl) σ H s):Inv X pins σ H s:=I.pins_of λp hp=>I.pin p (List.mem_append_right _ (List.mem_append_left _ hp))
theorem ybf {iter:Expr}{body:List Stmt}{wi:TI}{g:TG}{tb:TS}{pos:Pos}(hp:PassesOwn (model X.prog X.w) X.A X.env X.xe)(hc:X.calm=true)(hi:PI X tg iter wi)(hg:PG X tg g)(hb:PSs X body tb)
  (hs:∀ x,foldedSetIterable iter X.env x=pure x:=by intro _;rfl):PS X (.For tg iter body [] pos) (ymM wi g tb):=by
 intro pins s σ H D I h
 refine wpAny_For (thn (hi pins s σ H _ I h) λv s1 h1=>thn h1 λitv s2 h2=>?_) hs
 obtain⟨it,fp,tn,J,H2,e,I2,T,st2,f2,W,⟨m0,w0⟩,turn⟩:=h2
 subst e
 have stat:∀ {H':Hp},(∀ b∈fp,H' b=none)→∀ b∈fp,FpOk X pins H' b:=λhn b hb=>⟨hn b hb,(f2 b hb).2⟩
 refine codeAny_forLoop_any (λn s'=>∃ i σ' H',Inv X pins σ' H' s'∧tn i s'.heap∧(∀ b∈fp,H' b=none)∧W i n σ' H') ?_ m0 ⟨0,σ,H2,I2,st2,λb hb=>(f2 b hb).1,w0⟩
 rintro n s3 ⟨i,σ3,H3,I3,st3,fr3,w3⟩
 rcases turn i n σ3 H3 w3 with ⟨stop,qn⟩ | ⟨go,N,hN,step⟩
 ·refine wpAny_passesOwn hp (thn (T.done X rfl rfl rfl hc i pins s3 σ3 H3 X.xe I3 (stat fr3) st3 stop) λr s4 ⟨hr,I4⟩=>?_)
  subst hr
  exact wpAny_execs_nil ⟨σ3,H3,I4,qn⟩
 ·refine wpAny_passesOwn hp (thn (T.item X rfl rfl rfl hc i pins s3 σ3 H3 X.xe I3 (stat fr3) st3 go) λr s4 ⟨u,hr,h4⟩=>?_)
  subst hr
  refine wpAny_passesOwn hp (thn h4 λ_ s5 ⟨x,H5,I5,r5,y5,st5,fr5⟩=>?_)
  have I5':=I5.pinned (stat fr5) (T.obj _ _ st5)
  refine wpAny_passesOwn hp (thn (hg _ s5 σ3 H5 x u _ I5' r5 (step x H5 y5)) λ_ s6 ⟨σ6,H6,I6,q6⟩=>?_)
  refine wpAny_passesOwn hp (thn (hb _ s6 σ6 H6 _ I6 q6) λf s7 q7=>?_)
  have again:∀ {σ7:St} {H7:Hp},Inv X (pins++ygg fp s5.heap) σ7 H7 s7→N σ7 H7→∃ m,m < n∧∃ i σ' H',Inv X pins σ' H' s7∧tn i s7.heap∧(∀ b∈fp,H' b=none)∧W i m σ' H':=λ{σ7 H7} I7 n7=>by
   obtain⟨m',hm,w7⟩:=hN σ7 H7 n7
   refine⟨m',hm,i+1,σ7,H7,I7.unpinned,T.keep _ _ _ st5 λb hb o e=>(I7.pin (b,o) (List.mem_append_right _ (List.mem_append_right _ (ycN hb e)))).1,λb hb=>?_,w7⟩
   obtain⟨o,e,d⟩:=T.obj _ _ st5 b hb
   exact(I7.pin (b,o) (List.mem_append_right _ (List.mem_append_right _ (ycN hb e)))).2.1
  cases f with
  | next=>obtain⟨σ7,H7,I7,n7⟩:=q7;exact again I7 n7
  | cont=>obtain⟨σ7,H7,I7,n7⟩:=q7;exact again I7 n7
  | brk=>obtain⟨σ7,H7,I7,q7⟩:=q7;exact⟨σ7,H7,I7.unpinned,q7⟩
  | ret v=>obtain⟨x7,σ7,H7,I7,r7,q7⟩:=q7;exact⟨x7,σ7,H7,I7.unpinned,r7,q7⟩
end
theorem ydF {K:PySem.W.Frag}{a:Addr}{xs:List V}{g:TG}{tb:TS}{D:ydn}{σ:St}{H:Hp}(Pv:Nat→St→Hp→Prop)(h0:Pv 0 σ H)(hl:∀ i σ H,i≤xs.length→Pv i σ H→SqL K H a xs)
  (hs:∀ i x σ H,xs[i]?=some x→Pv i σ H→g x σ H fun σ2 H2=>tb { D with nx:=Pv (i+1),ct:=Pv (i+1),bk:=D.nx } σ2 H2) (hd:∀ σ H,Pv xs.length σ H→D.nx σ H) :
  ∃ W:Nat→Nat→St→Hp→Prop,(∃ m,W 0 m σ H)∧∀ i m σ H,W i m σ H →
   ((Itl K a).stop i H∧D.nx σ H)∨((Itl K a).go i H∧∃ N:St→Hp→Prop,(∀ σ' H',N σ' H'→∃ m',m' < m∧W (i+1) m' σ' H')∧∀ x H',(Itl K a).yld i H x H'→g x σ H' fun σ2 H2=>tb { D with nx:=N,ct:=N,bk:=D.nx } σ2 H2):=by
 refine⟨λi m σ H=>m=xs.length - i∧i≤xs.length∧Pv i σ H,⟨xs.length,by simp,Nat.zero_le _,h0⟩,?_⟩
 rintro i m σ H ⟨rfl,hi,p⟩
 have q:=hl i σ H hi p
 by_cases hlt:i < xs.length
 ·refine .inr ⟨⟨xs,xs[i],q,by simp[hlt]⟩,Pv (i+1),fun σ' H' p'=>⟨xs.length - (i+1),by omega,rfl,hlt,p'⟩,λx H' y=>?_⟩
  obtain⟨e,y⟩:=y
  subst e
  exact hs i x σ _ (y xs q) p
 ·have e:i=xs.length:=by omega
  subst e
  exact .inl ⟨⟨xs,q,Nat.le_refl _⟩,hd σ H p⟩
theorem ymB {K:PySem.W.Frag}{a:Addr}{xs:List V}{g:TG}{tb:TS}{D:ydn}{σ:St}{H:Hp}(Pv:Nat→St→Hp→Prop)(h0:Pv 0 σ H)(hl:∀ i σ H,i≤xs.length→Pv i σ H→SqT K H a xs)
  (hs:∀ i x σ H,xs[i]?=some x→Pv i σ H→g x σ H fun σ2 H2=>tb { D with nx:=Pv (i+1),ct:=Pv (i+1),bk:=D.nx } σ2 H2) (hd:∀ σ H,Pv xs.length σ H→D.nx σ H) :
  ∃ W:Nat→Nat→St→Hp→Prop,(∃ m,W 0 m σ H)∧∀ i m σ H,W i m σ H →
   ((Itt K a).stop i H∧D.nx σ H)∨((Itt K a).go i H∧∃ N:St→Hp→Prop,(∀ σ' H',N σ' H'→∃ m',m' < m∧W (i+1) m' σ' H')∧∀ x H',(Itt K a).yld i H x H'→g x σ H' fun σ2 H2=>tb { D with nx:=N,ct:=N,bk:=D.nx } σ2 H2):=by
 refine⟨λi m σ H=>m=xs.length - i∧i≤xs.length∧Pv i σ H,⟨xs.length,by simp,Nat.zero_le _,h0⟩,?_⟩
 rintro i m σ H ⟨rfl,hi,p⟩
 have q:=hl i σ H hi p
 by_cases hlt:i < xs.length
 ·refine .inr ⟨⟨xs,xs[i],q,by simp[hlt]⟩,Pv (i+1),fun σ' H' p'=>⟨xs.length - (i+1),by omega,rfl,hlt,p'⟩,λx H' y=>?_⟩
  obtain⟨e,y⟩:=y
  subst e
  exact hs i x σ _ (y xs q) p
 ·have e:i=xs.length:=by omega
  subst e
  exact .inl ⟨⟨xs,q,Nat.le_refl _⟩,hd σ H p⟩
theorem yfS {lo:Int}{n:Nat}{g:TG}{tb:TS}{D:ydn}{σ:St}{H:Hp}(Pv:Nat→St→Hp→Prop)(h0:Pv 0 σ H)
  (hs:∀ i σ H,i < n→Pv i σ H→g (.int (lo+i)) σ H fun σ2 H2=>tb { D with nx:=Pv (i+1),ct:=Pv (i+1),bk:=D.nx } σ2 H2) (hd:∀ σ H,Pv n σ H→D.nx σ H) :
  ∃ W:Nat→Nat→St→Hp→Prop,(∃ m,W 0 m σ H)∧∀ i m σ H,W i m σ H →
   ((Itr lo n).stop i H∧D.nx σ H)∨((Itr lo n).go i H∧∃ N:St→Hp→Prop,(∀ σ' H',N σ' H'→∃ m',m' < m∧W (i+1) m' σ' H')∧∀ x H',(Itr lo n).yld i H x H'→g x σ H' fun σ2 H2=>tb { D with nx:=N,ct:=N,bk:=D.nx } σ2 H2):=by
 refine⟨λi m σ H=>m=n - i∧i≤n∧Pv i σ H,⟨n,by simp,Nat.zero_le _,h0⟩,?_⟩
 rintro i m σ H ⟨rfl,hi,p⟩
 by_cases hlt:i < n
 ·refine .inr ⟨hlt,Pv (i+1),fun σ' H' p'=>⟨n - (i+1),by omega,rfl,hlt,p'⟩,λx H' y=>?_⟩
  obtain⟨e,y⟩:=y
  subst e y
  exact hs i σ _ hlt p
 ·have e:i=n:=by omega
  subst e
  exact .inl ⟨Nat.le_refl _,hd σ H p⟩
abbrev R2:=V→V→Hp→VK→Prop
def OpR (X:Cx)(f:Value→Value→Sem Value)(r:R2):Prop :=
 ∀ (pins:List (Addr×Obj)) (s:Shared) (σ:St) (H:Hp) (x y:V) (v u:Value) (Q:VK),Inv X pins σ H s→RelV x v→RelV y u→r x y H Q →
  wpAny (model X.prog X.w) X.A (f v u) (EP X pins σ Q) X.xe s
def UnR (X:Cx)(f:Value→Sem Value)(r:V→Hp→VK→Prop):Prop :=
 ∀ (pins:List (Addr×Obj)) (s:Shared) (σ:St) (H:Hp) (x:V) (v:Value) (Q:VK),Inv X pins σ H s→RelV x v→r x H Q →
  wpAny (model X.prog X.w) X.A (f v) (EP X pins σ Q) X.xe s
def ycd (X:Cx)(f:Value)(r:List V→Hp→VK→Prop):Prop :=
 ∀ (pins:List (Addr×Obj)) (s:Shared) (σ:St) (H:Hp) (xs:List V) (us:List Value) (Q:VK),Inv X pins σ H s→Vals xs us→r xs H Q →
  wpAny (model X.prog X.w) X.A (call f us) (EP X pins σ Q) X.xe s
def tOp (r:R2)(ta tb:TE):TE:=fun σ H Q=>ta σ H λx H1=>tb σ H1 λy H2=>r x y H2 Q
def tUn (r:V→Hp→VK→Prop)(ta:TE):TE:=fun σ H Q=>ta σ H λx H1=>r x H1 Q
def rI (C:Int→Int→Prop)(g:Int→Int→V):R2:=λx y H Q=>∃ i j,x=.int i∧y=.int j∧C i j∧Q (g i j) H
def rI0 (g:Int→Int→V):R2:=λx y H Q=>∃ i j,x=.int i∧y=.int j∧Q (g i j) H
def rU (g:Int→V):V→Hp→VK→Prop:=λx H Q=>∃ i,x=.int i∧Q (g i) H
section
variable {X:Cx} {a b c:Expr} {ta tb tc:TE} {pos:Pos}
theorem yp5 (ha:PE X a ta)(hb:PE X b tb){pins:List (Addr×Obj)}{s:Shared}{σ:St}{H:Hp}{R:V→V→Hp→Prop}(I:Inv X pins σ H s)
  (h:ta σ H λx H1=>tb σ H1 λy H2=>R x y H2) {Q:Value→Shared→Prop} {f:Value→Value→Sem Value}
  (hf:∀ v u s2 x y H2,Inv X pins σ H2 s2→RelV x v→RelV y u→R x y H2→wpAny (model X.prog X.w) X.A (f v u) Q X.xe s2) :
  wpAny (model X.prog X.w) X.A (eval a X.env) (λv s₁=>wpAny (model X.prog X.w) X.A (eval b X.env) (λu s₂=>wpAny (model X.prog X.w) X.A (f v u) Q X.xe s₂) X.xe s₁) X.xe s:=by
 refine thn (ha pins s σ H _ I h) λv s1 ⟨x,H1,I1,r1,q1⟩=>?_
 refine thn (hb pins s1 σ H1 _ I1 q1) λu s2 ⟨y,H2,I2,r2,q2⟩=>?_
 exact hf v u s2 x y H2 I2 r1 r2 q2
theorem yau {op:Operator}{r:R2}(ho:OpR X (binaryOp op) r)(ha:PE X a ta)(hb:PE X b tb):PE X (.BinOp a op b pos) (tOp r ta tb):=by
 intro pins s σ H Q I h
 exact wpAny_BinOp (yp5 ha hb I h λv u s2 x y H2 I2 rx ry q=>ho pins s2 σ H2 x y v u Q I2 rx ry q)
theorem yc6 {op:UnaryOp}{r:V→Hp→VK→Prop}(ho:UnR X (unaryOp op) r)(ha:PE X a ta):PE X (.UnaryOp op a pos) (tUn r ta):=by
 intro pins s σ H Q I h
 exact UnaryOp_ (thn (ha pins s σ H _ I h) λv s1 ⟨x,H1,I1,r1,q1⟩=>ho pins s1 σ H1 x v Q I1 r1 q1)
theorem opI {f:Value→Value→Sem Value}{C:Int→Int→Prop}{g:Int→Int→Int}
  (rule:∀ (i j:Int) (t u:Tok) (s:Shared) (Q:Value→Shared→Prop) (E:Value→Shared→Prop),C i j→Q (.int (g i j) s.toks) { s with toks:=s.toks+1 }→wpAny (model X.prog X.w) X.A (f (.int i t) (.int j u)) Q E s) :
  OpR X f (rI C λi j=>.int (g i j)):=by
 intro pins s σ H x y v u Q I rx ry h
 obtain⟨i,j,rfl,rfl,hc,q⟩:=h
 obtain⟨t,rfl⟩:=rx
 obtain⟨t',rfl⟩:=ry
 exact rule i j t t' s _ _ hc ⟨.int (g i j),H,I.tok _,⟨_,rfl⟩,q⟩
theorem yqh {f:Value→Value→Sem Value}{g:Int→Int→Int}
  (rule:∀ (i j:Int) (t u:Tok) (s:Shared) (Q:Value→Shared→Prop) (E:Value→Shared→Prop),Q (.int (g i j) s.toks) { s with toks:=s.toks+1 }→wpAny (model X.prog X.w) X.A (f (.int i t) (.int j u)) Q E s) :
  OpR X f (rI0 λi j=>.int (g i j)):=by
 intro pins s σ H x y v u Q I rx ry h
 obtain⟨i,j,rfl,rfl,q⟩:=h
 obtain⟨t,rfl⟩:=rx
 obtain⟨t',rfl⟩:=ry
 exact rule i j t t' s _ _ ⟨.int (g i j),H,I.tok _,⟨_,rfl⟩,q⟩
theorem ypP {f:Value→Value→Sem Value}{g:Int→Int→Bool}
  (rule:∀ (i j:Int) (t u:Tok) (s:Shared) (Q:Value→Shared→Prop) (E:Value→Shared→Prop),Q (.bool (g i j)) s→wpAny (model X.prog X.w) X.A (f (.int i t) (.int j u)) Q E s) :
  OpR X f (rI0 λi j=>.bl (g i j)):=by
 intro pins s σ H x y v u Q I rx ry h
 obtain⟨i,j,rfl,rfl,q⟩:=h
 obtain⟨t,rfl⟩:=rx
 obtain⟨t',rfl⟩:=ry
 exact rule i j t t' s _ _ ⟨.bl (g i j),H,I,rfl,q⟩
def yqw (i j:Int):Prop:=0 < j∧j < 1073741824
def yrg (i j:Int):Prop:=0≤j∧j≤1000000∧i.natAbs < 2 ^ 64
def CMul (i j:Int):Prop:=(-(2 ^ 64) < i∧i < 2 ^ 64)∨(-(2 ^ 64) < j∧j < 2 ^ 64)
theorem CMul.ok {i j:Int}(h:CMul i j):IntMulOk i j:=by
 rcases h with ⟨h1,h2⟩ | ⟨h1,h2⟩
 ·exact .of_left (intBits_le_64 h1 h2)
 ·exact .of_right (intBits_le_64 h1 h2)
theorem ybt:OpR X (binaryOp .Add) (rI0 λi j=>.int (i+j)):=yqh λ_ _ _ _ _ _ _ q=>add_int q
theorem ycR:OpR X (binaryOp .Sub) (rI0 λi j=>.int (i - j)):=yqh λ_ _ _ _ _ _ _ q=>sub_int q
theorem yaP:OpR X (binaryOp .FloorDiv) (rI yqw λi j=>.int (i / j)):=opI λi j _ _ _ _ _ hc q=>by
 have h1:(0:Int) < j:=hc.1
 have h2:j < 1073741824:=hc.2
 exact floordiv_int (by omega) (by rw[Int.fdiv_eq_ediv_of_nonneg i (by omega)];exact q) (.inl (PyProof.noPylong_small (by omega)))
theorem ybw:OpR X (binaryOp .Mod) (rI (λ_ j=>0 < j) λi j=>.int (i%j)):=opI λi j _ _ _ _ _ hc q=>by
 have h1:(0:Int) < j:=hc
 exact mod_int' (by omega) (by rw[Int.fmod_eq_emod_of_nonneg i (by omega)];exact q)
theorem ynW:OpR X (binaryOp .Pow) (rI yrg λi j=>.int (i ^ j.toNat)):=opI λ_ _ _ _ _ _ _ hc q=>pow_int_small hc.1 hc.2.1 hc.2.2 q
theorem unI {f:Value→Sem Value}{g:Int→Int}
  (rule:∀ (i:Int) (t:Tok) (s:Shared) (Q:Value→Shared→Prop) (E:Value→Shared→Prop),Q (.int (g i) s.toks) { s with toks:=s.toks+1 }→wpAny (model X.prog X.w) X.A (f (.int i t)) Q E s) :
  UnR X f (rU λi=>.int (g i)):=by
 intro pins s σ H x v Q I rx h
 obtain⟨i,rfl,q⟩:=h
 obtain⟨t,rfl⟩:=rx
 exact rule i t s _ _ ⟨.int (g i),H,I.tok _,⟨_,rfl⟩,q⟩
theorem ybZ:UnR X (unaryOp .USub) (rU λi=>.int (-i)):=unI λ_ _ _ _ _ q=>neg_int q
end
def yog:V→V→Bool
 | .non,.non=>true | .non,.int _=>true | .int _,.non=>true | .non,.bl _=>true | .bl _,.non=>true | .non,.str _=>true | .str _,.non=>true
 | .int _,.int _=>true | .bl _,.bl _=>true | .str _,.str _=>true | .byt _,.byt _=>true
 | .int _,.str _=>true | .str _,.int _=>true | .bl _,.str _=>true | .str _,.bl _=>true
 | _,_=>false
def rEq:R2:=λx y H Q=>yog x y=true∧Q (.bl (decide (x=y))) H
def rNe:R2:=λx y H Q=>yog x y=true∧Q (.bl (!decide (x=y))) H
theorem yjt {i j:Int}:decide (V.int i=V.int j)=(i==j):=by
 rw[Bool.eq_iff_iff]
 simp
theorem ylD {i j:Bool}:decide (V.bl i=V.bl j)=(i==j):=by
 rw[Bool.eq_iff_iff]
 simp
theorem yiH {i j:Str}:decide (V.str i=V.str j)=(i==j):=by
 rw[Bool.eq_iff_iff]
 simp
theorem yjB {i j:Array UInt8}:decide (V.byt i=V.byt j)=(i.toList==j.toList):=by
 rw[Bool.eq_iff_iff]
 cases i
 cases j
 simp
section
variable {X:Cx} {a b c:Expr} {ta tb tc:TE} {pos:Pos}
theorem yaW {pins:List (Addr×Obj)}{σ:St}{H:Hp}{s:Shared}{Q:VK}{k k':Bool}(I:Inv X pins σ H s)(q:Q (.bl k) H)(e:k=k'):EP X pins σ Q (.bool k') s:=by
 subst e
 exact⟨.bl k,H,I,rfl,q⟩
theorem yfe:OpR X (compareOp .Eq) rEq:=by
 intro pins s σ H x y v u Q I rx ry h
 obtain⟨hs,q⟩:=h
 cases x with
 | non =>
  cases rx
  cases y with
  | non=>cases ry;exact PySem.EqNone.eq_none_none (yaW I q (by simp))
  | bl j=>cases ry;exact PySem.EqNone.eq_none_bool (yaW I q (by simp))
  | int j=>obtain⟨t',rfl⟩:=ry;exact PySem.EqNone.eq_none_int (yaW I q (by simp))
  | str j=>obtain⟨t',rfl⟩:=ry;exact PySem.EqNone.eq_none_str (yaW I q (by simp))
  | _=>exact absurd (show false=true from hs) Bool.false_ne_true
 | bl i =>
  cases rx
  cases y with
  | non=>cases ry;exact PySem.EqNone.eq_bool_none (yaW I q (by simp))
  | bl j=>cases ry;exact eq_bool (yaW I q ylD)
  | str j=>obtain⟨t',rfl⟩:=ry;exact PySem.EqMixed.eq_bool_str (yaW I q (by simp))
  | _=>exact absurd (show false=true from hs) Bool.false_ne_true
 | int i =>
  obtain⟨t,rfl⟩:=rx
  cases y with
  | non=>cases ry;exact PySem.EqNone.eq_int_none (yaW I q (by simp))
  | int j=>obtain⟨t',rfl⟩:=ry;exact eq_int (yaW I q yjt)
  | str j=>obtain⟨t',rfl⟩:=ry;exact PySem.EqMixed.eq_int_str (yaW I q (by simp))
  | _=>exact absurd (show false=true from hs) Bool.false_ne_true
 | str i =>
  obtain⟨t,rfl⟩:=rx
  cases y with
  | non=>cases ry;exact PySem.EqNone.eq_str_none (yaW I q (by simp))
  | bl j=>cases ry;exact PySem.EqMixed.eq_str_bool (yaW I q (by simp))
  | int j=>obtain⟨t',rfl⟩:=ry;exact PySem.EqMixed.eq_str_int (yaW I q (by simp))
  | str j=>obtain⟨t',rfl⟩:=ry;exact eq_str (yaW I q yiH)
  | _=>exact absurd (show false=true from hs) Bool.false_ne_true
 | byt i =>
  obtain⟨t,rfl⟩:=rx
  cases y with
  | byt j=>obtain⟨t',rfl⟩:=ry;exact PySem.W.eq_bytes (yaW I q yjB)
  | _=>exact absurd (show false=true from hs) Bool.false_ne_true
 | _=>cases y<;>exact absurd (show false=true from hs) Bool.false_ne_true
theorem ymU:OpR X (compareOp .NotEq) rNe:=by
 intro pins s σ H x y v u Q I rx ry h
 obtain⟨hs,q⟩:=h
 cases x with
 | non =>
  cases rx
  cases y with
  | non=>cases ry;exact PySem.EqNone.ne_none_none (yaW I q (by simp))
  | bl j=>cases ry;exact PySem.EqNone.ne_none_bool (yaW I q (by simp))
  | int j=>obtain⟨t',rfl⟩:=ry;exact PySem.EqNone.ne_none_int (yaW I q (by simp))
  | str j=>obtain⟨t',rfl⟩:=ry;exact PySem.EqNone.ne_none_str (yaW I q (by simp))
  | _=>exact absurd (show false=true from hs) Bool.false_ne_true
 | bl i =>
  cases rx
  cases y with
  | non=>cases ry;exact PySem.EqNone.ne_bool_none (yaW I q (by simp))
  | bl j=>cases ry;exact ne_bool (yaW I q (congrArg not ylD))
  | str j=>obtain⟨t',rfl⟩:=ry;exact PySem.EqMixed.ne_bool_str (yaW I q (by simp))
  | _=>exact absurd (show false=true from hs) Bool.false_ne_true
 | int i =>
  obtain⟨t,rfl⟩:=rx
  cases y with
  | non=>cases ry;exact PySem.EqNone.ne_int_none (yaW I q (by simp))
  | int j=>obtain⟨t',rfl⟩:=ry;exact ne_int (yaW I q (congrArg not yjt))
  | str j=>obtain⟨t',rfl⟩:=ry;exact PySem.EqMixed.ne_int_str (yaW I q (by simp))
  | _=>exact absurd (show false=true from hs) Bool.false_ne_true
 | str i =>
  obtain⟨t,rfl⟩:=rx
  cases y with
  | non=>cases ry;exact PySem.EqNone.ne_str_none (yaW I q (by simp))
  | bl j=>cases ry;exact PySem.EqMixed.ne_str_bool (yaW I q (by simp))
  | int j=>obtain⟨t',rfl⟩:=ry;exact PySem.EqMixed.ne_str_int (yaW I q (by simp))
  | str j=>obtain⟨t',rfl⟩:=ry;exact ne_str (yaW I q (congrArg not yiH))
  | _=>exact absurd (show false=true from hs) Bool.false_ne_true
 | byt i =>
  obtain⟨t,rfl⟩:=rx
  cases y with
  | byt j=>obtain⟨t',rfl⟩:=ry;exact PySem.W.ne_bytes (yaW I q (congrArg not yjB))
  | _=>exact absurd (show false=true from hs) Bool.false_ne_true
 | _=>cases y<;>exact absurd (show false=true from hs) Bool.false_ne_true
theorem ymk:OpR X (compareOp .Lt) (rI0 λi j=>.bl (decide (i < j))):=ypP λ_ _ _ _ _ _ _ q=>lt_int q
theorem yoW:OpR X (compareOp .LtE) (rI0 λi j=>.bl (decide (i≤j))):=ypP λ_ _ _ _ _ _ _ q=>le_int q
theorem ynb:OpR X (compareOp .Gt) (rI0 λi j=>.bl (decide (j < i))):=ypP λ_ _ _ _ _ _ _ q=>gt_int q
theorem ylF:OpR X (compareOp .Is) (λx y H Q=>y=.non∧Q (.bl (decide (x=.non))) H):=by
 intro pins s σ H x y v u Q I rx ry h
 obtain⟨rfl,q⟩:=h
 cases ry
 refine is_none_gen (yaW I q ?_)
 cases x<;>first
  | (cases rx;rfl)
  | (obtain⟨t,rfl⟩:=rx;rfl)
theorem yiP:OpR X (compareOp .IsNot) (λx y H Q=>y=.non∧Q (.bl (!decide (x=.non))) H):=by
 intro pins s σ H x y v u Q I rx ry h
 obtain⟨rfl,q⟩:=h
 cases ry
 refine isnot_none_gen (yaW I q ?_)
 cases x<;>first
  | (cases rx;rfl)
  | (obtain⟨t,rfl⟩:=rx;rfl)
theorem yaH (b:Expr){op:CmpOp}(h:op≠.In:=by decide)(h2:op≠.NotIn:=by decide):behindInMarks op b=false:=by
 have e1:(op==CmpOp.In)=false:=by cases op<;>first | rfl | exact absurd rfl h
 have e2:(op==CmpOp.NotIn)=false:=by cases op<;>first | rfl | exact absurd rfl h2
 cases b<;>simp[behindInMarks,e1,e2]
theorem ybT {op:CmpOp}{r:R2}(ho:OpR X (compareOp op) r)(ha:PE X a ta)(hb:PE X b tb)(hm:behindInMarks op b=false):PE X (.Compare a [op] [b] pos) (tOp r ta tb):=by
 intro pins s σ H Q I h
 exact wpAny_Compare1 (yp5 ha hb I h λv u s2 x y H2 I2 rx ry q=>ho pins s2 σ H2 x y v u Q I2 rx ry q) hm
def yl0 (t:TE):TT:=fun σ H Q=>t σ H λx H'=>∃ k,x=.bl k∧Q k H'
theorem yaL {op:CmpOp}{r:R2}(ho:OpR X (compareOp op) r)(ha:PE X a ta)(hb:PE X b tb)(hm:behindInMarks op b=false):PT X (.Compare a [op] [b] pos) (yl0 (tOp r ta tb)):=by
 intro pins s σ H Q I h
 refine wpAny_isTrue_Compare1 (thn (ha pins s σ H _ I h) λv s1 ⟨x,H1,I1,r1,q1⟩=>thn (hb pins s1 σ H1 _ I1 q1) λu s2 ⟨y,H2,I2,r2,q2⟩ =>
  thn (ho pins s2 σ H2 x y v u _ I2 r1 r2 q2) λc s3 ⟨z,H3,I3,r3,k,e,q3⟩=>?_) hm
 subst e
 cases r3
 exact wpAny_truthy_bool ⟨H3,I3,q3⟩
theorem yfL:(sizeLine:Nat) < 2 ^ 63:=by rw[sizeLine_eq];decide
theorem ygK {x:V}{us:List Value}(r:Vals [x] us):∃ u,us=[u]∧RelV x u:=by
 cases r with
 | cons r1 r2=>cases r2;exact⟨_,rfl,r1⟩
theorem yji {x y:V}{us:List Value}(r:Vals [x,y] us):∃ u w',us=[u,w']∧RelV x u∧RelV y w':=by
 cases r with
 | cons r1 r2 =>
  cases r2 with
  | cons r3 r4=>cases r4;exact⟨_,_,rfl,r1,r3⟩
theorem yjY (hc:X.calm=true):ycd X (.builtin "max") (λxs H Q=>∃ i j,xs=[.int i,.int j]∧Q (.int (if j > i then j else i)) H):=by
 intro pins s σ H xs us Q I r h
 obtain⟨i,j,rfl,q⟩:=h
 obtain⟨u,w',rfl,⟨t,rfl⟩,⟨t',rfl⟩⟩:=yji r
 refine max_two_ints (I.ok.hd hc) λh' tk k=>⟨_,H,I.kept k,?_,q⟩
 by_cases hj:j > i
 ·rw[if_pos hj,if_pos hj];exact⟨_,rfl⟩
 ·rw[if_neg hj,if_neg hj];exact⟨_,rfl⟩
theorem yec:ycd X (.type "int") (λxs H Q=>(∃ i,xs=[.int i]∧Q (.int i) H)∨∃ k,xs=[.bl k]∧Q (.int (if k then 1 else 0)) H):=by
 intro pins s σ H xs us Q I r h
 rcases h with ⟨i,rfl,q⟩ | ⟨k,rfl,q⟩
 ·obtain⟨u,rfl,t,rfl⟩:=ygK r
  exact call_int_int ⟨.int i,H,I,⟨_,rfl⟩,q⟩
 ·obtain⟨u,rfl,r1⟩:=ygK r
  cases r1
  exact call_int_bool ⟨.int (if k then 1 else 0),H,I.tok _,⟨_,rfl⟩,q⟩
def yq0 (K:PySem.W.Frag)(x:V)(H:Hp)(n:Nat):Prop :=
 match x with
 | .str y=>y.length≤sizeLine∧n=y.length
 | .byt y=>y.size≤sizeLine∧n=y.size
 | .ref p=>(∃ xs,SqL K H p xs∧n=xs.length)∨∃ xs,SqT K H p xs∧n=xs.length
 | _=>False
theorem yg9:ycd X (.builtin "len") (λxs H Q=>∃ x n,xs=[x]∧yq0 X.K x H n∧Q (.int n) H):=by
 intro pins s σ H xs us Q I r h
 obtain⟨x,n,rfl,e,q⟩:=h
 obtain⟨u,rfl,rx⟩:=ygK r
 have hl:=yfL
 have hs:sizeLine=16777216:=sizeLine_eq
 cases x with
 | str y =>
  obtain⟨t,rfl⟩:=rx
  obtain⟨hy,e'⟩:y.length≤sizeLine∧n=y.length:=e
  subst e'
  exact len_str (by omega) ⟨.int _,H,I.tok _,⟨_,rfl⟩,q⟩
 | byt y =>
  obtain⟨t,rfl⟩:=rx
  obtain⟨hy,e'⟩:y.size≤sizeLine∧n=y.size:=e
  subst e'
  exact PySem.W.len_bytes (by omega) ⟨.int _,H,I.tok _,⟨_,rfl⟩,q⟩
 | ref p =>
  cases rx
  have e':(∃ xs,SqL X.K H p xs∧n=xs.length)∨∃ xs,SqT X.K H p xs∧n=xs.length:=e
  rcases e' with ⟨xs,hx,e'⟩ | ⟨xs,hx,e'⟩
  ·subst e'
   obtain⟨its,r',pl,hz⟩:=I.list hx
   have hlen:=r'.length
   exact Calls.call_len_list pl.isList (by simp only[List.size_toArray];omega) ⟨.int xs.length,H,I.tok _,⟨_,by simp only[List.size_toArray];rw[hlen]⟩,q⟩
  ·subst e'
   obtain⟨its,r',pl,hz⟩:=I.tuple hx
   have hlen:=r'.length
   exact len_tuple pl (by simp only[List.size_toArray];omega) ⟨.int xs.length,H,I.tok _,⟨_,by simp only[List.size_toArray];rw[hlen]⟩,q⟩
 | _=>exact(show False from e).elim
end
structure ObjM (h:Heap) (x dx C:Addr) (mA:Str→Option Value):Prop where
 obj:h.get? x=some (PySem.W.instObj C dx)
 ns:h.Ns1 dx mA
 ne:dx≠x
theorem yj0 {h:Heap}{dx:Addr}{mA:Str→Option Value}(n:h.Ns1 dx mA):∃ od,h.get? dx=some od∧∀ name,PySem.W.lookIn name od=some (mA name):=by
 obtain⟨o,es,ep,ho,hd,hk,_,hm⟩:=n
 refine⟨o,ho,λname=>?_⟩
 have e:=hm name
 unfold nsFind findBy at e
 rw[← Array.find?_toList] at e
 unfold PySem.W.lookIn
 rw[hd]
 dsimp only
 split
 ·rename_i y q
  rw[q] at e
  exact congrArg some e
 ·rename_i q
  rw[q] at e
  have a:es.toList.any (·.refKey)=false:=by
   rw[List.any_eq_false]
   intro y hy
   obtain⟨z,t,hkey⟩:=hk y (Array.mem_toList_iff.mp hy)
   simp[DictEntry.refKey,hkey]
  have a':¬ es.toList.any (·.refKey)=true:=by rw[a];exact Bool.false_ne_true
  rw[if_neg a']
  exact congrArg some e
theorem ObjM.look {h:Heap}{x dx C:Addr}{mA:Str→Option Value}(I:ObjM h x dx C mA):∃ od,PySem.W.InstAt h x (PySem.W.instObj C dx) C (some od)∧∀ name,PySem.W.lookIn name od=some (mA name) :=
 let ⟨od,ho,hl⟩:=yj0 I.ns
 ⟨od,⟨I.obj,rfl,rfl,ho⟩,hl⟩
section
variable {prog:Program} {w:World} {A:Around} {E:Value→Shared→Prop} {s:Shared} {K:PySem.W.Frag} {x dx C f:Addr} {mA:Str→Option Value} {name:Str} {v:Value}
theorem ymA {expr:Bool}{Q:Value→Shared→Prop}(X:K.In s.heap)(I:ObjM s.heap x dx C mA)(hg:PySem.W.plainGet K C name=true)(hh:PySem.W.hasDictIn K C=true)
  (ha:PySem.W.findIn K (.ref C) name=some none) (hv:mA name=some v) (hv':PySem.W.handedIn v=true) (h:Q v { s with toks:=s.toks+1 }) :
  wpAny (model prog w) A (getAttr (.ref x) name expr) Q E s:=by
 obtain⟨od,J,hl⟩:=I.look
 exact PySem.W.get_value X J (PySem.W.plainGet_of hg).1 (PySem.W.findObj_own hh ha rfl (by rw[hl,hv])) hv' h
theorem ykg {pl:Sem Bool}{Q:Value×List Value→Shared→Prop}(X:K.In s.heap)(I:ObjM s.heap x dx C mA)(hg:PySem.W.plainGet K C name=true)
  (hf:PySem.W.findIn K (.ref C) name=some (some (.ref f))) (ht:PySem.W.isFn K (.ref f)=true) (hv:mA name=none) (h:Q (.ref f,[.ref x]) s) :
  wpAny (model prog w) A (getMethod (.ref x) name pl) Q E s:=by
 obtain⟨od,J,hl⟩:=I.look
 exact PySem.W.method_fn X J (PySem.W.plainGet_of hg).1 (PySem.W.plainGet_of hg).2 hf (beq_iff_eq.mp ht) (by show(PySem.W.lookIn name od).map (·.isSome)=some false;rw[hl,hv];rfl) h
theorem ymp {ns:List Str}{Q:Unit→Shared→Prop}(X:K.In s.heap)(I:ObjM s.heap x dx C mA)
  (hs:PySem.W.findIn K (.ref C) "__setattr__"=some (some (.builtin "object.__setattr__"))) (hp:PySem.W.plainOver K C=true) (ht:PySem.W.takerIn K C name=some none) (hh:PySem.W.hasDictIn K C=true)
  (hw:PySem.Within mA ns) (hsz:ns.length≤sizeLine)
  (h:∀ h',ObjM h' x dx C (λy=>if y=name then some v else mA y)→Heap.SameBut dx s.heap h'→Q () { s with heap:=h',toks:=s.toks+2 }) :
  wpAny (model prog w) A (setAttr (.ref x) name v) Q E s:=by
 obtain⟨od,J,hl⟩:=I.look
 refine PySem.W.set_plain X J hs (PySem.W.osa_open (s:={ s with toks:=s.toks+1 }) (r:=none) X J hp ht λb=>?_)
 obtain⟨cd,hc,hd'⟩:=PySem.W.any_some hh
 have hx:s.heap.get? x=some ⟨.ref C,some dx,.plain,#[]⟩:=I.obj
 refine wpAny_bind (wpAny_pure (wpAny_bind (wpAny_bind (wpAny_loadPart hx (wpAny_bind (PySem.W.Looks.here (s:={ s with toks:=s.toks+1 }) (PySem.W.looks_clsIn X hc) ?_))))))
 rw[hd']
 refine wpAny_pure (a:=some dx) (wpAny_bind (wpAny_pure (wpAny_bind ?_)))
 refine wpAny_nsSet1 (s:={ s with toks:=s.toks+1 }) I.ns λh' hn2 hs2=>?_
 obtain⟨oD,esD,epD,hoD,hdD,hcD⟩:=hn2.count (PySem.Within.cons name v hw)
 refine wpAny_bind (wpAny_lookBehind hoD (by rw[hdD];exact pastItsLine_dict (Nat.le_trans hcD (by rw[List.length_cons];omega))) ?_)
 exact wpAny_pure (h _ ⟨(hs2.2 _ (Ne.symm I.ne)).trans I.obj,hn2,I.ne⟩ hs2)
theorem ykS {R:Result→Shared→Prop}{vs:List Value}{kw:List (Str×Value)}(X:K.In s.heap)(hm:PySem.W.makesIn K C=true)
  (hi:PySem.W.findIn K (.ref C) "__init__"=some (some (.ref f))) (hf:PySem.W.typeIn K (.ref f)=some (.type "function"))
  (h:codeAny (model prog w) (A.under (.builtin "type.__call__" ⟨.ref C :: vs,kw⟩)) (.call (.ref f) ⟨.ref (s.heap.objs.size+1) :: vs,kw⟩) (PySem.W.InitBack (s.heap.objs.size+1) R)
   { s with heap:=(s.heap.push PySem.W.emptyDict).push (PySem.W.instObj C s.heap.objs.size) }) :
  codeAny (model prog w) A (.call (.ref C) ⟨vs,kw⟩) R s:=by
 obtain⟨hh,g,d,t,os⟩:=s
 exact PySem.W.make_core (PySem.W.makes_of X hm) (PySem.W.looks_findIn X hi) (λself=>PySem.W.bind_fn X self hf) (.inl rfl) h
end
def yep (f:Str)(v:V):List (Str×V)→List (Str×V)
 | []=>[(f,v)]
 | (g,x) :: r=>if g=f then (g,v) :: r else (g,x) :: yep f v r
theorem ydL (f g:Str)(v:V):∀ fs:List (Str×V),(yep f v fs).lookup g=if g=f then some v else fs.lookup g
 | []=>by
  show List.lookup g [(f,v)]=_
  by_cases h:g=f
  ·have hb:(g==f)=true:=beq_iff_eq.mpr h
   simp only[List.lookup,hb,if_pos h]
  ·have hb:(g==f)=false:=beq_eq_false_iff_ne.mpr h
   simp only[List.lookup,hb,if_neg h]
 | (k,x) :: r=>by
  have ih:=ydL f g v r
  rw[show yep f v ((k,x) :: r)=(if k=f then (k,v) :: r else (k,x) :: yep f v r) from rfl]
  by_cases hk:k=f
  ·rw[if_pos hk]
   by_cases h:g=k
   ·have hb:(g==k)=true:=beq_iff_eq.mpr h
    simp only[List.lookup,hb,if_pos (h.trans hk)]
   ·have hb:(g==k)=false:=beq_eq_false_iff_ne.mpr h
    simp only[List.lookup,hb,if_neg (λe:g=f=>h (e.trans hk.symm))]
  ·rw[if_neg hk]
   by_cases h:g=k
   ·have hb:(g==k)=true:=beq_iff_eq.mpr h
    simp only[List.lookup,hb,if_neg (λe:g=f=>hk (h.symm.trans e))]
   ·have hb:(g==k)=false:=beq_eq_false_iff_ne.mpr h
    simp only[List.lookup,hb]
    exact ih
theorem yem (f:Str)(v:V):∀ fs:List (Str×V),f∈(yep f v fs).map (·.1)∧∀ g,g∈fs.map (·.1)→g∈(yep f v fs).map (·.1)
 | []=>⟨by simp[yep],λg h=>by simp at h⟩
 | (k,x) :: r=>by
  obtain⟨i1,i2⟩:=yem f v r
  rw[show yep f v ((k,x) :: r)=(if k=f then (k,v) :: r else (k,x) :: yep f v r) from rfl]
  by_cases hk:k=f
  ·rw[if_pos hk]
   subst hk
   exact⟨by simp,λg h=>by simpa using h⟩
  ·rw[if_neg hk]
   refine⟨?_,λg h=>?_⟩
   ·rw[List.map_cons]
    exact List.mem_cons_of_mem _ i1
   ·rw[List.map_cons] at h ⊢
    rcases List.mem_cons.mp h with e | e
    ·exact List.mem_cons.mpr (.inl e)
    ·exact List.mem_cons_of_mem _ (i2 g e)
theorem ydN (f:Str)(v:V):∀ fs:List (Str×V),(yep f v fs).length≤fs.length+1
 | []=>by simp[yep]
 | (k,x) :: r=>by
  have ih:=ydN f v r
  rw[show yep f v ((k,x) :: r)=(if k=f then (k,v) :: r else (k,x) :: yep f v r) from rfl]
  by_cases hk:k=f
  ·rw[if_pos hk,List.length_cons,List.length_cons];omega
  ·rw[if_neg hk,List.length_cons,List.length_cons];omega
theorem RelO.some_of {v:V}{o:Option Value}(r:RelO (some v) o):∃ u,o=some u∧RelV v u:=by
 cases o with
 | none=>exact(show False from r).elim
 | some u=>exact⟨u,rfl,r⟩
theorem RelO.none_of {o:Option Value}(r:RelO none o):o=none:=by
 cases o with
 | none=>rfl
 | some u=>exact(show False from r).elim
theorem yiR {v:V}{u:Value}(r:RelV v u):PySem.W.handedIn u=true:=by
 cases v with
 | non=>cases (show u=Value.none from r);rfl
 | bl b=>cases (show u=Value.bool b from r);rfl
 | int i=>obtain⟨t,e⟩:=(show ∃ t,u=Value.int i t from r);cases e;rfl
 | str x=>obtain⟨t,e⟩:=(show ∃ t,u=Value.str x t from r);cases e;rfl
 | byt b=>obtain⟨t,e⟩:=(show ∃ t,u=Value.bytes b t from r);cases e;rfl
 | flt b=>obtain⟨t,e⟩:=(show ∃ t,u=Value.float b t from r);cases e;rfl
 | ref a=>cases (show u=Value.ref a from r);rfl
 | ty n=>cases (show u=Value.type n from r);rfl
section
variable {P:Program} {w:World} {H H':Hp} {h h':Heap} {a C dx:Addr} {fs fs':List (Str×V)}
theorem ye4 (hok:HOk P w H h)(e:H a=some (.ins C dx fs)):∃ mA,ObjM h a dx C mA∧(∀ f,RelO (fs.lookup f) (mA f))∧PySem.Within mA (fs.map (·.1))∧fs.length≤1000∧H dx=some (.own a):=by
 obtain⟨d,z,ne,ob,mA,n,r,q⟩:=(show ObjOk P w H h a (.ins C dx fs) from hok a _ e)
 exact⟨mA,⟨ob,n,ne⟩,r,q,z,d⟩
end
structure Cls (K:PySem.W.Frag) (C:Addr):Prop where
 pg:PySem.W.plainGet K C Str.empty=true
 hd:PySem.W.hasDictIn K C=true
 po:PySem.W.plainOver K C=true
 sa:PySem.W.findIn K (.ref C) "__setattr__"=some (some (.builtin "object.__setattr__"))
theorem Cls.get {K:PySem.W.Frag}{C:Addr}(c:Cls K C)(f:Str):PySem.W.plainGet K C f=true:=c.pg
def NoAttr (K:PySem.W.Frag)(C:Addr)(f:Str):Prop:=PySem.W.findIn K (.ref C) f=some none
theorem NoAttr.taker {K:PySem.W.Frag}{C:Addr}{f:Str}(n:NoAttr K C f):PySem.W.takerIn K C f=some none:=by
 unfold PySem.W.takerIn
 rw[show PySem.W.findIn K (.ref C) f=some none from n]
 rfl
structure Con (K:PySem.W.Frag) (C:Addr) (f:Str) (v:V) (u:Value):Prop where
 at_:PySem.W.findIn K (.ref C) f=some (some u)
 rel:RelV v u
 get:PySem.W.specialIn K u "__get__"=some none
 cp:PySem.W.copiedNames.contains f=false
structure ykc (K:PySem.W.Frag) (C:Addr) (m:Str) (f:Addr):Prop where
 at_:PySem.W.findIn K (.ref C) m=some (some (.ref f))
 fn:PySem.W.isFn K (.ref f)=true
 kp:PySem.W.keepIn K (.ref f)=true
section
variable {X:Cx} {pins:List (Addr×Obj)} {σ:St} {H:Hp} {s:Shared} {a C dx:Addr} {fs:List (Str×V)} {f:Str} {v:V} {A:Around} {E:Value→Shared→Prop}
theorem yeH {b:Bool}{Q:Value→Shared→Prop}(I:Inv X pins σ H s)(e:H a=some (.ins C dx fs))(c:Cls X.K C)(n:NoAttr X.K C f)(l:fs.lookup f=some v)
  (h:∀ u s',Inv X pins σ H s'→RelV v u→Q u s'):wpAny (model X.prog X.w) A (getAttr (.ref a) f b) Q E s:=by
 obtain⟨mA,O,r,_,_,_⟩:=ye4 I.hok e
 obtain⟨u,hu,ru⟩:=RelO.some_of (v:=v) (o:=mA f) (by rw[← l];exact r f)
 exact ymA I.kIn O (c.get f) c.hd n hu (yiR ru) (h u _ (I.tok _) ru)
theorem yhX {m:Str}{g:Addr}{pl:Sem Bool}{Q:Value×List Value→Shared→Prop}(I:Inv X pins σ H s)(e:H a=some (.ins C dx fs))(c:Cls X.K C)(k:ykc X.K C m g)(l:fs.lookup m=none)
  (h:Q (.ref g,[.ref a]) s):wpAny (model X.prog X.w) A (getMethod (.ref a) m pl) Q E s:=by
 obtain⟨mA,O,r,_,_,_⟩:=ye4 I.hok e
 have hn:mA m=none:=RelO.none_of (by rw[← l];exact r m)
 exact ykg I.kIn O (c.get m) k.at_ k.fn hn h
theorem yez {y:V}{u:Value}{Q:Unit→Shared→Prop}(I:Inv X pins σ H s)(e:H a=some (.ins C dx fs))(c:Cls X.K C)(n:NoAttr X.K C f)(hl:fs.length < 1000)(ry:RelV y u)
  (h:∀ s',Inv X pins σ (upd H a (.ins C dx (yep f y fs))) s'→Q () s'):wpAny (model X.prog X.w) A (setAttr (.ref a) f u) Q E s:=by
 obtain⟨mA,O,r,wi,_,ho⟩:=ye4 I.hok e
 have hz:(fs.map (·.1)).length≤sizeLine:=by rw[List.length_map,sizeLine_eq];omega
 refine ymp I.kIn O c.sa c.po n.taker c.hd wi hz λh' O' sb=>h _ ?_
 have hd:∃ o,h'.get? dx=some o:=let ⟨o,_,_,e',_⟩:=O'.ns;⟨o,e'⟩
 refine I.write (x:=a) (e:=dx) (by rw[e];exact True.intro) (.inr ho) (λb q hb z=>(sb.2 b hb).trans z) hd ?_
 refine⟨by rw[yai O.ne];exact ho,?_,O.ne,O'.obj,_,O'.ns,λg=>?_,λg hg=>?_⟩
 ·have:=ydN f y fs;omega
 ·show RelO ((yep f y fs).lookup g) (if g=f then some u else mA g)
  rw[ydL]
  by_cases q:g=f
  ·rw[if_pos q,if_pos q];exact ry
  ·rw[if_neg q,if_neg q];exact r g
 ·by_cases q:g=f
  ·rw[q];exact(yem f y fs).1
  ·refine(yem f y fs).2 g (wi g λz=>hg ?_)
   show(if g=f then some u else mA g)=none
   rw[if_neg q];exact z
theorem Inv.made (I:Inv X pins σ H s):Inv X pins σ (upd (upd H s.heap.objs.size (.own (s.heap.objs.size+1))) (s.heap.objs.size+1) (.ins C s.heap.objs.size []))
  { s with heap:=(s.heap.push PySem.W.emptyDict).push (PySem.W.instObj C s.heap.objs.size) }:=by
 have e1:(s.heap.push PySem.W.emptyDict).get? s.heap.objs.size=some PySem.W.emptyDict:=Heap.get?_push_size s.heap rfl
 have e2:((s.heap.push PySem.W.emptyDict).push (PySem.W.instObj C s.heap.objs.size)).get? (s.heap.objs.size+1)=some (PySem.W.instObj C s.heap.objs.size):=by
  have:=Heap.get?_push_size (s.heap.push PySem.W.emptyDict) (o:=PySem.W.instObj C s.heap.objs.size) rfl
  rwa [Heap.size_push] at this
 have e3:(s.heap.push PySem.W.emptyDict).Ns s.heap.objs.size (λ_=>none):=⟨PySem.W.emptyDict,#[],_,e1,rfl,(λe he=>absurd he (by simp)),λ_=>rfl⟩
 have I1:=I.laid (a:=s.heap.objs.size) (o:=.own (s.heap.objs.size+1)) (h':=s.heap.push PySem.W.emptyDict) (t':=s.toks) (λb u q=>Heap.get?_push_of_some _ q) (Nat.le_refl _) ⟨_,e1⟩
 refine I1.laid (a:=s.heap.objs.size+1) (o:=.ins C s.heap.objs.size []) (t':=s.toks) (λb u q=>Heap.get?_push_of_some _ q) (Nat.le_of_eq (Heap.size_push _ _)) ?_
 have ne:s.heap.objs.size≠s.heap.objs.size+1:=Nat.ne_of_lt (Nat.lt_succ_self _)
 refine⟨by rw[yai ne,yab],Nat.zero_le _,ne,e2,λ_=>none,(Heap.Ns1.of_empty e3).at λo q=>Heap.get?_push_of_some _ q,λ_=>True.intro,λy hy=>absurd rfl hy⟩
theorem ymd {prog:Program}{w:World}{env:Env}{e:Expr}{f:Str}{pos:Pos}{s:Shared}{Q:Value→Shared→Prop}(hb:attributeBase e f env (eval e env)=eval e env)
  (h:wpAny (model prog w) A (eval e env) (λo s₁=>wpAny (model prog w) A (getAttr o f true) Q E s₁) E s):wpAny (model prog w) A (eval (.Attribute e f pos) env) Q E s :=
 Attribute_any_ h (by rw[arm_eval_Attribute,hb])
end
def yn0 (K:PySem.W.Frag)(ta:TE)(f:Str):TE:=fun σ H Q=>ta σ H λx H1=>∃ a C dx fs v,x=.ref a∧H1 a=some (.ins C dx fs)∧Cls K C∧NoAttr K C f∧fs.lookup f=some v∧Q v H1
def yo4 (K:PySem.W.Frag)(ta tv:TE)(f:Str):TS:=λD σ H=>tv σ H λy H1=>ta σ H1 λx H2=>∃ a C dx fs,x=.ref a∧H2 a=some (.ins C dx fs)∧Cls K C∧NoAttr K C f∧fs.length < 1000 ∧
 D.nx σ (upd H2 a (.ins C dx (yep f y fs)))
def yqv (X:Cx)(op:Operator)(rd:V→V→Hp→VK→Prop):Prop :=
 ∀ (pins:List (Addr×Obj)) (s:Shared) (σ:St) (H:Hp) (x y:V) (u v:Value) (Q:VK),Inv X pins σ H s→RelV x u→RelV y v→rd x y H Q→wpAny (model X.prog X.w) X.A (inplaceOp op u v) (EP X pins σ Q) X.xe s
def yg1 (K:PySem.W.Frag)(ta tv:TE)(rd:V→V→Hp→VK→Prop)(f:Str):TS:=λD σ H=>ta σ H λx H1=>∃ a C dx fs v,x=.ref a∧H1 a=some (.ins C dx fs)∧Cls K C∧NoAttr K C f∧fs.lookup f=some v ∧
 tv σ H1 λy H2=>rd v y H2 λz H3=>∃ dx' fs',H3 a=some (.ins C dx' fs')∧fs'.length < 1000∧D.nx σ (upd H3 a (.ins C dx' (yep f z fs')))
section
variable {X:Cx} {o e value:Expr} {f:Str} {pos pos' tpos:Pos} {ta tv:TE}
theorem ya3 (he:PE X e ta)(hb:attributeBase e f X.env (eval e X.env)=eval e X.env):PE X (.Attribute e f pos) (yn0 X.K ta f):=by
 intro pins s σ H Q I h
 refine ymd hb (thn (he pins s σ H _ I h) λu s1 ⟨x,H1,I1,rx,a,C,dx,fs,v,ex,ea,c,n,l,q⟩=>?_)
 subst ex
 obtain rfl:u=Value.ref a:=rx
 exact yeH I1 ea c n l λu' s2 I2 ru=>⟨v,H1,I2,ru,q⟩
theorem ybL (ha:PE X o ta)(hv:PE X value tv)(hs:swapsWith value (some (.Attribute o f pos')) pos.line X.env=pure false):PS X (.Assign [.Attribute o f pos'] value pos) (yo4 X.K ta tv f):=by
 intro pins s σ H D I h
 refine plainObj_wpAny_Assign_Attribute (thn (hv pins s σ H _ I h) λu s1 ⟨y,H1,I1,ry,q⟩=>thn (ha pins s1 σ H1 _ I1 q) λov s2 ⟨x,H2,I2,rx,a,C,dx,fs,ex,ea,c,n,l,q2⟩=>?_) hs
 subst ex
 obtain rfl:ov=Value.ref a:=rx
 exact yez I2 ea c n l ry λs3 I3=>⟨σ,_,I3,q2⟩
theorem yiO {op:Operator}{rd:V→V→Hp→VK→Prop}(ha:PE X o ta)(hv:PE X value tv)(hop:yqv X op rd):PS X (.AugAssign (.Attribute o f tpos) op value pos) (yg1 X.K ta tv rd f):=by
 intro pins s σ H D I h
 refine wpAny_AugAssign_AttributeAny (thn (ha pins s σ H _ I h) λov s1 ⟨x,H1,I1,rx,a,C,dx,fs,v,ex,ea,c,n,l,q⟩=>?_)
 subst ex
 obtain rfl:ov=Value.ref a:=rx
 refine yeH I1 ea c n l λu s2 I2 ru=>thn (hv pins s2 σ H1 _ I2 q) λw3 s3 ⟨y,H2,I3,ry,q3⟩=>thn (hop pins s3 σ H2 v y u w3 _ I3 ru ry q3) λw4 s4 ⟨z,H3,I4,rz,dx',fs',ea',l',q4⟩=>?_
 exact yez I4 ea' c n l' rz λs5 I5=>⟨σ,_,I5,q4⟩
def ypH:V→V→Hp→VK→Prop:=λx y H Q=>∃ i j,x=.int i∧y=.int j∧Q (.int (i+j)) H
theorem ynp:yqv X .Add ypH:=by
 rintro pins s σ H x y u v Q I rx ry ⟨i,j,rfl,rfl,q⟩
 obtain⟨t,rfl⟩:=(show ∃ t,u=Value.int i t from rx)
 obtain⟨t',rfl⟩:=(show ∃ t',v=Value.int j t' from ry)
 exact PyProof.Rows.iadd_int ⟨.int (i+j),H,I.tok _,⟨_,rfl⟩,q⟩
end
section
variable {X:Cx} {pins:List (Addr×Obj)} {σ:St} {H:Hp} {s:Shared} {A:Around} {E:Value→Shared→Prop} {Q:Value→Shared→Prop} {c:Value} {b:Bool}
inductive yfm (K:PySem.W.Frag) (H:Hp):V→Value→Prop where
 | non:yfm K H .non (.type "NoneType")
 | bl (x:Bool):yfm K H (.bl x) (.type "bool")
 | int (i:Int):yfm K H (.int i) (.type "int")
 | str (x:Str):yfm K H (.str x) (.type "str")
 | flt (x:UInt64):yfm K H (.flt x) (.type "float")
 | lst {a:Addr} {xs:List V} (e:H a=some (.lst xs)):yfm K H (.ref a) (.type "list")
 | frz {a:Addr} {o:Obj} {xs:List V} (e:H a=some (.frz o (.lst xs))):yfm K H (.ref a) (.type "list")
 | tup {a:Addr} {xs:List V} (e:H a=some (.tup xs)):yfm K H (.ref a) (.type "tuple")
 | dK {a:Addr} {kvs:List (Key×V)} (e:H a=some (.dK kvs)):yfm K H (.ref a) (.type "dict")
 | dT {a:Addr} {kvs:List (List Key×V)} (e:H a=some (.dT kvs)):yfm K H (.ref a) (.type "dict")
 | ins {a C dx:Addr} {fs:List (Str×V)} (e:H a=some (.ins C dx fs)) (cl:Cls K C) (ha:PySem.W.findIn K (.ref C) "__class__"=some (some (.builtin "object.__class__")))
   (hn:PySem.W.specialIn K (.builtin "object.__class__") "__get__"=some (some (.builtin "getset_descriptor.__get__"))) (htk:PySem.W.takesIn K (.builtin "object.__class__")=some true)
   (hm:PySem.W.mroIn K C (.type "object")=some true):yfm K H (.ref a) (.ref C)
theorem yfH {x:V}{u t:Value}(I:Inv X pins σ H s)(rx:RelV x u)(ty:yfm X.K H x t)(e:PySem.W.kitOne X.K t c=some b)(h:∀ tk,Q (.bool b) { s with toks:=tk }) :
  wpAny (model X.prog X.w) A (call (.builtin "isinstance") [u,c]) Q E s:=by
 cases ty with
 | non=>cases (show u=Value.none from rx);exact PySem.W.kia_one PySem.W.kitx_none I.kIn True.intro e (λz=>nomatch z) h
 | bl y=>cases (show u=Value.bool y from rx);exact PySem.W.kia_one PySem.W.kitx_bool I.kIn True.intro e (λz=>nomatch z) h
 | int i=>obtain⟨t,q⟩:=(show ∃ t,u=Value.int i t from rx);cases q;exact PySem.W.kia_one PySem.W.kitx_int I.kIn True.intro e (λz=>nomatch z) h
 | str y=>obtain⟨t,q⟩:=(show ∃ t,u=Value.str y t from rx);cases q;exact PySem.W.kia_one PySem.W.kitx_str I.kIn True.intro e (λz=>nomatch z) h
 | flt y=>obtain⟨t,q⟩:=(show ∃ t,u=Value.float y t from rx);cases q;exact PySem.W.kia_one PySem.W.kitx_float I.kIn True.intro e (λz=>nomatch z) h
 | @lst a xs ea =>
  cases (show u=Value.ref a from rx)
  obtain⟨_,_,n,_,h1⟩:=(show ObjOk X.prog X.w H s.heap a (.lst xs) from I.hok a _ ea)
  exact PySem.W.kia_one PySem.W.kitx_list I.kIn ⟨_,h1,rfl⟩ e (λz=>nomatch z) h
 | @frz a ob xs ea =>
  cases (show u=Value.ref a from rx)
  obtain⟨_,_,_,n,_,h1⟩:=(show ObjOk X.prog X.w H s.heap a (.frz ob (.lst xs)) from I.hok a _ ea)
  exact PySem.W.kia_one PySem.W.kitx_list I.kIn ⟨_,h1,rfl⟩ e (λz=>nomatch z) h
 | @tup a xs ea =>
  cases (show u=Value.ref a from rx)
  obtain⟨_,_,_,p⟩:=(show ObjOk X.prog X.w H s.heap a (.tup xs) from I.hok a _ ea)
  obtain⟨o,h1,h2,_⟩:=p
  exact PySem.W.kia_one PySem.W.kitx_tuple I.kIn ⟨o,h1,h2⟩ e (λz=>nomatch z) h
 | @dK a kvs ea =>
  cases (show u=Value.ref a from rx)
  obtain⟨_,_,vs,_,p⟩:=(show ObjOk X.prog X.w H s.heap a (.dK kvs) from I.hok a _ ea)
  obtain⟨o,es,ep,h1,h2,_⟩:=p
  exact PySem.W.kia_one PySem.W.kitx_dict I.kIn ⟨o,h1,h2.1⟩ e (λz=>nomatch z) h
 | @dT a kvs ea =>
  cases (show u=Value.ref a from rx)
  obtain⟨_,_,xs,_,o,es,ep,h1,h2,_⟩:=(show ObjOk X.prog X.w H s.heap a (.dT kvs) from I.hok a _ ea)
  exact PySem.W.kia_one PySem.W.kitx_dict I.kIn ⟨o,h1,h2.1⟩ e (λz=>nomatch z) h
 | @ins a C dx fs ea cl ha hn htk hm =>
  cases (show u=Value.ref a from rx)
  obtain⟨mA,O,_⟩:=ye4 I.hok ea
  obtain⟨od,J,_⟩:=O.look
  exact PySem.W.kia_one (PySem.W.kitx_own (cl.get _) cl.hd ha hn htk hm) I.kIn J e (λz=>nomatch z) h
end
structure Room (k:Nat) (A:Around):Prop where
 hd:A.handled=none
 dp:A.depth+3*k+5 < recursionLimit
 un:A.units+16*k+200 < cLine
theorem Room.mono {j k:Nat}{A:Around}(r:Room k A)(h:j≤k):Room j A:=⟨r.hd,by have:=r.dp;omega,by have:=r.un;omega⟩
theorem Room.deeper {k:Nat}{A:Around}(r:Room (k+1) A)(env:Env):Room k (A.deeper env) :=
 ⟨r.hd,by have:=r.dp;show A.depth+1+3*k+5 < _;omega,by have:=r.un;show A.units+3+16*k+200 < _;omega⟩
theorem Room.in1 {k:Nat}{A:Around}(r:Room (k+1) A):Room k A.in1 :=
 ⟨r.hd,by have:=r.dp;show A.depth+3*k+5 < _;omega,by have:=r.un;show A.units+1+16*k+200 < _;omega⟩
theorem yhS {A:Around}{C:Addr}{us:List Value}{kw:List (Str×Value)}:(A.under (.builtin "type.__call__" ⟨.ref C :: us,kw⟩)).depth=A.depth+1:=by
 first | rfl | simp[Around.under,Code.weight,Code.isCreation,Code.isGuard,Code.isCaller,Code.frames,Code.isFrame,guardIds]
theorem yic {A:Around}{C:Addr}{us:List Value}{kw:List (Str×Value)}:(A.under (.builtin "type.__call__" ⟨.ref C :: us,kw⟩)).units=A.units+1:=by
 first | rfl | simp[Around.under,Code.cUnits,Code.frames,Code.isFrame]
theorem Room.make {k:Nat}{A:Around}(r:Room (k+1) A)(C:Addr)(us:List Value)(kw:List (Str×Value)):Room k (A.under (.builtin "type.__call__" ⟨.ref C :: us,kw⟩)) :=
 ⟨r.hd,by have:=r.dp;rw[yhS];omega,by have:=r.un;rw[yic];omega⟩
theorem Room.depth {k:Nat}{A:Around}(r:Room k A):A.depth < recursionLimit:=by have:=r.dp;omega
theorem Room.units {k:Nat}{A:Around}(r:Room k A):A.units+64 < cLine:=by have:=r.un;omega
def ygB:TA:=λ_ H Q=>Q [] H
def ybS (ta:TE)(tr:TA):TA:=fun σ H Q=>ta σ H λx H1=>tr σ H1 λxs H2=>Q (x :: xs) H2
section
variable {X:Cx} {e:Expr} {es:List Expr} {te:TE} {t:TA} {pos:Pos}
theorem yaf:PA X [] ygB:=λ_ _ _ _ H Q I h=>Calls.spliced_nil ⟨[],H,I,.nil,h⟩
theorem yaa (ha:PE X e te)(hr:PA X es t)(hs:starEach (e :: es) X.env=(false,eval e X.env) :: starEach es X.env:=by rfl):PA X (e :: es) (ybS te t):=by
 intro pos pins s σ H Q I h
 rw[hs]
 show wpAny _ _ (spliced ((false,eval e X.env) :: backTo pos (starEach es X.env))) _ _ s
 refine Calls.spliced_cons (thn (ha pins s σ H _ I h) λu s1 ⟨x,H1,I1,r1,q1⟩=>?_)
 exact thn (hr pos pins s1 σ H1 _ I1 q1) λus s2 ⟨xs,H2,I2,r2,q2⟩=>⟨x :: xs,H2,I2,.cons r1 r2,q2⟩
def ylo (t:TA):TE:=fun σ H Q=>t σ H λxs H1=>xs.length≤sizeLine∧∀ p,H1 p=none→Q (.ref p) (upd H1 p (.tup xs))
def yn5 (t:TA):TE:=fun σ H Q=>t σ H λxs H1=>xs.length≤sizeLine∧∀ p,H1 p=none→Q (.ref p) (upd H1 p (.lst xs))
theorem yaE {x1}(h:PA X es t):PE X (.Tuple es x1 pos) (ylo t):=by
 intro pins s σ H Q I hq
 refine wpAny_Tuple_spliced (thn (h pos pins s σ H _ I hq) λus s1 ⟨xs,H1,I1,r,z,q⟩=>⟨by rw[← r.length];exact z,?_⟩)
 have hf:H1 s1.heap.objs.size=none:=I1.hok.fresh (Nat.le_refl _)
 refine⟨.ref s1.heap.objs.size,upd H1 s1.heap.objs.size (.tup xs),I1.laid (t':=s1.toks) (λb u e=>Heap.get?_push_of_some _ e) (Nat.le_refl _) ?_,rfl,q _ hf⟩
 exact⟨z,us,r,⟨_,Heap.get?_push_size _ rfl,rfl,_,rfl⟩⟩
theorem yaZ (h:PA X es t):PE X (.List es pos) (yn5 t):=by
 intro pins s σ H Q I hq
 refine wpAny_List_spliced (thn (h pos pins s σ H _ I hq) λus s1 ⟨xs,H1,I1,r,z,q⟩=>⟨by rw[← r.length];exact z,?_⟩)
 have hf:H1 s1.heap.objs.size=none:=I1.hok.fresh (Nat.le_refl _)
 refine⟨.ref s1.heap.objs.size,upd H1 s1.heap.objs.size (.lst xs),I1.laid (t':=s1.toks) (λb u e=>Heap.get?_push_of_some _ e) (Nat.le_refl _) ?_,rfl,q _ hf⟩
 exact⟨z,us,0,r,Heap.get?_push_size _ rfl⟩
end
abbrev Sp:=List V→Hp→VK→XK→Prop
abbrev CXT:=List Env→Hp→Shared→XK→Value→Shared→Prop
structure Env0 (P:Program) (w:World) (K:PySem.W.Frag) (mg:Str→Option Value) (base:Heap) (A:Around) (outer:List Env) (s:Shared) (H:Hp):Prop where
 frames:A.frames=some outer
 mod:Mod K mg base
 bs:∀ b o,base.get? b=some o→s.heap.get? b=some o∧H b=none
 bsz:base.objs.size≤s.heap.objs.size
 funs:s.heap.FunFrames base outer
 frf:∀ b∈frs outer,H b=none
 hok:HOk P w H s.heap
 bare:AllBare s.gens
def CE (outer:List Env)(P:Program)(w:World)(H:Hp)(s:Shared)(Q:VK)(u:Value)(s':Shared):Prop :=
 ∃ v H',s'.os=s.os∧AllBare s'.gens∧Un (frs outer) [] H H' s.heap s'.heap∧HOk P w H' s'.heap∧RelV v u∧Q v H'
def CR (CX:CXT)(outer:List Env)(P:Program)(w:World)(H:Hp)(s:Shared)(Q:VK)(E:XK)(r:Result)(s':Shared):Prop :=
 match r with
 | .ok (.ret u)=>CE outer P w H s Q u s'
 | .ok _=>False
 | .error e=>CX outer H s E e s'
structure FnOk (P:Program) (w:World) (K:PySem.W.Frag) (mg:Str→Option Value) (base:Heap) (CX:CXT) (k:Nat) (f:Addr) (fd:FuncData) (ps:List Str) (sp:Sp):Prop where
 len:∀ vs H Q E,sp vs H Q E→vs.length=ps.length
 run:∀ (A:Around) (outer:List Env) (s:Shared) (H:Hp) (args:Args) (us:List Value) (vs:List V) (Q:VK) (E:XK),Room k A→Env0 P w K mg base A outer s H→BindsTo s fd args (ps.zip us)→Vals vs us→sp vs H Q E →
  codeAny (model P w) A (.call (.ref f) args) (CR CX outer P w H s Q E) s
theorem FnOk.mono {P:Program}{w:World}{K:PySem.W.Frag}{mg:Str→Option Value}{base:Heap}{CX:CXT}{j k:Nat}{f:Addr}{fd:FuncData}{ps:List Str}{sp:Sp}(F:FnOk P w K mg base CX j f fd ps sp)(h:j≤k) :
  FnOk P w K mg base CX k f fd ps sp:=⟨F.len,λA outer s H args us vs Q E hr=>F.run A outer s H args us vs Q E (hr.mono h)⟩
theorem FnOk.imp {P:Program}{w:World}{K:PySem.W.Frag}{mg:Str→Option Value}{base:Heap}{CX:CXT}{k:Nat}{f:Addr}{fd:FuncData}{ps:List Str}{sp sp':Sp}(F:FnOk P w K mg base CX k f fd ps sp)
  (h:∀ vs H Q E,sp' vs H Q E→sp vs H Q E):FnOk P w K mg base CX k f fd ps sp' :=
 ⟨λvs H Q E q=>F.len vs H Q E (h _ _ _ _ q),λA outer s H args us vs Q E hr he hb hv hs=>F.run A outer s H args us vs Q E hr he hb hv (h _ _ _ _ hs)⟩
theorem Env0.make {P:Program}{w:World}{K:PySem.W.Frag}{mg:Str→Option Value}{base:Heap}{A:Around}{outer:List Env}{s:Shared}{H:Hp}(e:Env0 P w K mg base A outer s H)(C:Addr)(us:List Value)(kw:List (Str×Value)) :
  Env0 P w K mg base (A.under (.builtin "type.__call__" ⟨.ref C :: us,kw⟩)) outer s H:=⟨by first | exact e.frames | (simpa [Around.under,Code.envs,Code.isFrame,pushEnvs] using e.frames),e.mod,e.bs,e.bsz,e.funs,e.frf,e.hok,e.bare⟩
theorem Env0.in1 {P:Program}{w:World}{K:PySem.W.Frag}{mg:Str→Option Value}{base:Heap}{A:Around}{outer:List Env}{s:Shared}{H:Hp}(e:Env0 P w K mg base A outer s H) :
  Env0 P w K mg base A.in1 outer s H:=⟨e.frames,e.mod,e.bs,e.bsz,e.funs,e.frf,e.hok,e.bare⟩
section
variable {X:Cx} {pins:List (Addr×Obj)} {σ:St} {H:Hp} {s s':Shared}
theorem Inv.env0 (I:Inv X pins σ H s):Env0 X.prog X.w X.K X.mg X.base X.A X.stack s H :=
 ⟨I.ok.frames,I.ok.mod,I.bs,Nat.le_trans I.ok.bsz I.sz,I.stack,I.stkFree,I.hok,I.bare⟩
theorem Inv.after {Q:VK}{u:Value}(I:Inv X pins σ H s)(h:CE X.stack X.prog X.w H s Q u s'):EP X pins σ Q u s':=by
 obtain⟨v,H',os,bare,un,hok,r,q⟩:=h
 obtain⟨hh,g,d,t,os'⟩:=s'
 obtain rfl:os'=s.os:=os
 exact⟨v,H',I.call (h':=hh) (g':=g) (d':=d) (t':=t) (ch:=[]) un hok bare (λb z=>absurd z (by simp)),r,q⟩
end
def yej (sp:Sp)(dvs:List V)(E:XK)(t:TA):TE:=fun σ H Q=>t σ H λvs H1=>sp (vs++dvs) H1 Q E
def yl8 (C:Addr)(sp:Sp)(dvs:List V)(E:XK)(t:TA):TE:=fun σ H Q=>t σ H λvs H1=>∀ x dx,H1 x=none→H1 dx=none→dx≠x →
 sp (.ref x :: (vs++dvs)) (upd (upd H1 dx (.own x)) x (.ins C dx [])) (λv H2=>v=.non∧Q (.ref x) H2) E
def Binds (K:PySem.W.Frag)(fd:FuncData)(ps:List Str)(ds:List Value):Prop :=
 ∀ (s:Shared) (us:List Value),K.In s.heap→(us++ds).length=ps.length→BindsTo s fd ⟨us,[]⟩ (ps.zip (us++ds))
theorem Binds.all {K:PySem.W.Frag}{fd:FuncData}{ps:List Str}(h:∀ us:List Value,us.length=ps.length→bindArgs fd ⟨us,[]⟩=pure (ps.zip us)):Binds K fd ps []:=λs us _ hl=>by
 rw[List.append_nil] at hl ⊢
 exact .of_eq (h us hl)
def ydV (CX:CXT)(X:Cx)(E:XK):Prop:=∀ (pins:List (Addr×Obj)) (σ:St) (H:Hp) (s:Shared) (e:Value) (s':Shared),Inv X pins σ H s→CX X.stack H s E e s'→X.xe e s'
section
variable {X:Cx} {CX:CXT} {k:Nat} {f C:Addr} {fd:FuncData} {ps:List Str} {sp:Sp} {dvs:List V} {ds:List Value} {E:XK} {x m:Str} {p pos apos:Pos} {e o:Expr} {es:List Expr} {ta:TE} {t:TA}
theorem yi9 {pins:List (Addr×Obj)}{σ:St}{H:Hp}{s:Shared}{Q:VK}{us:List Value}{vs:List V}(F:FnOk X.prog X.w X.K X.mg X.base CX k f fd ps sp)(hr:Room k X.A)(hb:Binds X.K fd ps ds)(hd:Vals dvs ds)(hx:ydV CX X E)
  (I:Inv X pins σ H s) (r:Vals vs us) (h:sp (vs++dvs) H Q E):wpAny (model X.prog X.w) X.A (call (.ref f) us) (EP X pins σ Q) X.xe s:=by
 have r2:Vals (vs++dvs) (us++ds):=r.append hd
 have hl:(us++ds).length=ps.length:=by rw[← r2.length];exact F.len _ _ _ _ h
 refine wpAny_call (codeAny_mono (F.run X.A X.stack s H ⟨us,[]⟩ (us++ds) (vs++dvs) Q E hr I.env0 (hb s us I.kIn hl) r2 h) λr s' hq=>?_)
 cases r with
 | error e=>exact hx pins σ H s e s' I hq
 | ok fl =>
  cases fl with
  | ret u=>exact I.after hq
  | next=>exact False.elim hq
  | brk=>exact False.elim hq
  | cont=>exact False.elim hq
theorem yaq (F:FnOk X.prog X.w X.K X.mg X.base CX k f fd ps sp)(hr:Room k X.A)(hg:Gl X x)(hm:X.mg x=some (.ref f))(hk:PySem.W.keepIn X.K (.ref f)=true)(hb:Binds X.K fd ps ds)(hd:Vals dvs ds)(hx:ydV CX X E)
  (ha:PA X (e :: es) t) (hdb:(x==("__debug__" : Str))=false:=by decide) (he:starEach (e :: es) X.env=(false,eval e X.env) :: starEach es X.env:=by rfl) (hpl:(backTo pos (starEach es X.env)).any (·.1)=false:=by rfl) :
  PE X (.Call (.Name x p) (e :: es) [] pos) (yej sp dvs E t):=by
 intro pins s σ H Q I h
 refine wpAny_Call_Name_kw (ygZ I hg hm ?_ hdb)
 refine PySem.W.callWith_K (h₀:=X.base) I.ok.mod.kin hk (thn (ha pos pins s σ H _ I h) λus s1 ⟨vs,H1,I1,r,q⟩=>⟨I1.kIn,?_⟩) he hpl
 exact yi9 F hr hb hd hx I1 r q
structure Mk (K:PySem.W.Frag) (C f:Addr):Prop where
 makes:PySem.W.makesIn K C=true
 init:PySem.W.findIn K (.ref C) "__init__"=some (some (.ref f))
 fn:PySem.W.isFn K (.ref f)=true
 kp:PySem.W.keepIn K (.ref C)=true
theorem yko {pins:List (Addr×Obj)}{σ:St}{H:Hp}{s:Shared}{Q:VK}{us:List Value}{vs:List V}(M:Mk X.K C f)(F:FnOk X.prog X.w X.K X.mg X.base CX k f fd ps sp)(hr:Room (k+1) X.A)(hb:Binds X.K fd ps ds)(hd:Vals dvs ds)
  (hx:ydV CX X E) (I:Inv X pins σ H s) (r:Vals vs us)
  (h:∀ x dx,H x=none→H dx=none→dx≠x→sp (.ref x :: (vs++dvs)) (upd (upd H dx (.own x)) x (.ins C dx [])) (λv H2=>v=.non∧Q (.ref x) H2) E) :
  wpAny (model X.prog X.w) X.A (call (.ref C) us) (EP X pins σ Q) X.xe s:=by
 have hq:=h (s.heap.objs.size+1) s.heap.objs.size (I.hok.fresh (Nat.le_succ _)) (I.hok.fresh (Nat.le_refl _)) (Nat.ne_of_lt (Nat.lt_succ_self _))
 have I2:=Inv.made (C:=C) I
 have r2:Vals (V.ref (s.heap.objs.size+1) :: (vs++dvs)) (Value.ref (s.heap.objs.size+1) :: (us++ds)):=.cons rfl (r.append hd)
 have hl:(Value.ref (s.heap.objs.size+1) :: us++ds).length=ps.length:=by
  have e:=r2.length
  rw[F.len _ _ _ _ hq] at e
  exact e.symm
 refine wpAny_call (ykS (f:=f) I.kIn M.makes M.init (beq_iff_eq.mp M.fn) (codeAny_mono (F.run _ X.stack _ _ ⟨Value.ref (s.heap.objs.size+1) :: us,[]⟩ (Value.ref (s.heap.objs.size+1) :: (us++ds)) _ _ E (hr.make C us [])
  (I2.env0.make C us []) (hb _ (Value.ref (s.heap.objs.size+1) :: us) I2.kIn hl) r2 hq) λr s' hq'=>?_))
 cases r with
 | error e=>exact hx pins σ _ _ e s' I2 hq'
 | ok fl =>
  cases fl with
  | ret u =>
   obtain⟨v,H',I3,rv,ev,q3⟩:=I2.after hq'
   subst ev
   exact⟨rv,⟨V.ref (s.heap.objs.size+1),H',I3,rfl,q3⟩⟩
  | next=>exact False.elim hq'
  | brk=>exact False.elim hq'
  | cont=>exact False.elim hq'
theorem ycj (M:Mk X.K C f)(F:FnOk X.prog X.w X.K X.mg X.base CX k f fd ps sp)(hr:Room (k+1) X.A)(hg:Gl X x)(hm:X.mg x=some (.ref C))(hb:Binds X.K fd ps ds)(hd:Vals dvs ds)(hx:ydV CX X E)
  (ha:PA X (e :: es) t) (hdb:(x==("__debug__" : Str))=false:=by decide) (he:starEach (e :: es) X.env=(false,eval e X.env) :: starEach es X.env:=by rfl) (hpl:(backTo pos (starEach es X.env)).any (·.1)=false:=by rfl) :
  PE X (.Call (.Name x p) (e :: es) [] pos) (yl8 C sp dvs E t):=by
 intro pins s σ H Q I h
 refine wpAny_Call_Name_kw (ygZ I hg hm ?_ hdb)
 refine PySem.W.callWith_K (h₀:=X.base) I.ok.mod.kin M.kp (thn (ha pos pins s σ H _ I h) λus s1 ⟨vs,H1,I1,r,q⟩=>⟨I1.kIn,?_⟩) he hpl
 exact yko M F hr hb hd hx I1 r q
end
section
variable {X:Cx} {CX:CXT} {k:Nat} {f C:Addr} {fd:FuncData} {ps ks:List Str} {sp:Sp} {E:XK} {x m:Str} {p pos apos kpos:Pos} {e o:Expr} {es:List Expr} {kws:List Keyword} {te ta:TE} {t tk:TA} {nm:Option Str}
structure yqF (K:PySem.W.Frag) (fd:FuncData) (ps ks:List Str) (g:List Value→List Value→List Value) (gV:List V→List V→List V):Prop where
 to:∀ (s:Shared) (us ws:List Value),K.In s.heap→(g us ws).length=ps.length→BindsTo s fd ⟨us,ks.zip ws⟩ (ps.zip (g us ws))
 rel:∀ {vs:List V} {us:List Value} {zs:List V} {ws:List Value},Vals vs us→Vals zs ws→Vals (gV vs zs) (g us ws)
variable {g:List Value→List Value→List Value} {gV:List V→List V→List V}
end
structure yat (N P:List Str) (sc:Scope):Prop where
 kind:sc.kind=.function
 co:sc.isCoroutine=false
 gen:sc.isGenerator=false
 nd:N.Nodup
 pre:N.take P.length=P
 par:∀ x∈P,sc.names.lookup x=some .local∨sc.names.lookup x=some .cell
 nofree:∀ y∈sc.names,y.2≠.free
theorem yfA {kindOf:Str→Option NameKind}{x:Str}:∀ {binds:List (Str×Value)} {m:Str→Option Value},(∀ v,(x,v)∉binds)→bindL kindOf binds m x=m x
 | [],_,_=>rfl
 | (n,v) :: r,m,h=>by
  unfold bindL
  rw[yfA λw hw=>h w (List.mem_cons_of_mem _ hw)]
  split
  ·have:x≠n:=by rintro rfl;exact h v List.mem_cons_self
   simp[this]
  ·rfl
theorem ygc {kindOf:Str→Option NameKind}{x:Str}:∀ {binds:List (Str×Value)} {m:Str→Option Value},(∀ v,(x,v)∉binds)→bindC kindOf binds m x=m x
 | [],_,_=>rfl
 | (n,v) :: r,m,h=>by
  unfold bindC
  rw[ygc λw hw=>h w (List.mem_cons_of_mem _ hw)]
  split
  ·rfl
  ·have:x≠n:=by rintro rfl;exact h v List.mem_cons_self
   simp[this]
theorem ygb {kindOf:Str→Option NameKind}{x:Str}{v:Value}:∀ {P:List Str} {vs:List Value} {i:Nat} {m:Str→Option Value},P.Nodup→P[i]?=some x→vs[i]?=some v→kindOf x=some .local →
  bindL kindOf (P.zip vs) m x=some v
 | [],_,_,_,_,h,_,_=>by simp at h
 | _ :: _,[],_,_,_,_,h,_=>by simp at h
 | p :: P,w :: vs,0,m,nd,h1,h2,hk=>by
  simp at h1 h2;subst h1;subst h2
  show bindL kindOf ((p,w) :: P.zip vs) m p=_
  unfold bindL
  rw[yfA λv hv=>(List.nodup_cons.mp nd).1 (List.of_mem_zip hv).1,if_pos hk]
  simp
 | p :: P,w :: vs,i+1,m,nd,h1,h2,hk=>by
  show bindL kindOf ((p,w) :: P.zip vs) m x=_
  unfold bindL
  exact ygb (i:=i) (List.nodup_cons.mp nd).2 (by simpa using h1) (by simpa using h2) hk
theorem yfT {kindOf:Str→Option NameKind}{x:Str}{v:Value}:∀ {P:List Str} {vs:List Value} {i:Nat} {m:Str→Option Value},P.Nodup→P[i]?=some x→vs[i]?=some v→kindOf x≠some .local →
  bindC kindOf (P.zip vs) m x=some v
 | [],_,_,_,_,h,_,_=>by simp at h
 | _ :: _,[],_,_,_,_,h,_=>by simp at h
 | p :: P,w :: vs,0,m,nd,h1,h2,hk=>by
  simp at h1 h2;subst h1;subst h2
  show bindC kindOf ((p,w) :: P.zip vs) m p=_
  unfold bindC
  rw[ygc λv hv=>(List.nodup_cons.mp nd).1 (List.of_mem_zip hv).1,if_neg hk]
  simp
 | p :: P,w :: vs,i+1,m,nd,h1,h2,hk=>by
  show bindC kindOf ((p,w) :: P.zip vs) m x=_
  unfold bindC
  exact yfT (i:=i) (List.nodup_cons.mp nd).2 (by simpa using h1) (by simpa using h2) hk
def start (N:List Str)(vs:List V):St:=vs.map some++List.replicate (N.length - vs.length) none
def ybz (CX:CXT)(P:Program)(w:World)(K:PySem.W.Frag)(mg:Str→Option Value)(base:Heap)(N:List Str)(qual:Str)(scope:Scope)(f:Addr)(cd:Value)(A:Around)(outer:List Env)(s:Shared)(H:Hp)(E:XK):Cx where
 prog:=P
 w:=w
 K:=K
 mg:=mg
 base:=base
 A:=A.deeper (envOfC qual scope s.heap.objs.size f cd)
 N:=N
 s₀:=s
 H₀:=H
 env:=envOfC qual scope s.heap.objs.size f cd
 outer:=outer
 stack:=envOfC qual scope s.heap.objs.size f cd :: outer
 ex:=[]
 calm:=true
 fn:=λ_=>true
 pn:=[]
 xe:=λe s'=>wpAny (model P w) (A.deeper (envOfC qual scope s.heap.objs.size f cd)) (leaving (envOfC qual scope s.heap.objs.size f cd) e) (λ_ s''=>CX outer H s E e s'') (λe' s''=>CX outer H s E e' s'') s'
theorem yhr {sc:Scope}{n:Nat}{x:Str}(h:sc.names.lookup x=some .cell):∃ c,(cellsFrom n sc.names []).lookup x=some c:=by
 have q:=PySem.W.cellsFrom_some sc.names n [] (.inl h)
 exact Option.isSome_iff_exists.mp q
theorem ygy {CX:CXT}{P:Program}{w:World}{K:PySem.W.Frag}{mg:Str→Option Value}{base:Heap}{N ps:List Str}{qual:Str}{scope:Scope}{f:Addr}{cd:Value}{A:Around}{outer:List Env}{s s1:Shared}{H:Hp}{E:XK}{us:List Value}{vs:List V}
  (S:yat N ps scope) (hd:A.handled=none) (e0:Env0 P w K mg base A outer s H) (hl:vs.length=ps.length) (r:Vals vs us)
  (x:InCallC s s.heap.objs.size (bindL (envOfC qual scope s.heap.objs.size f cd).kindOf (ps.zip us) λ_=>none) (cellsFrom (s.heap.objs.size+1) scope.names []) (bindC (envOfC qual scope s.heap.objs.size f cd).kindOf (ps.zip us) λ_=>none) s1) :
  Inv (ybz CX P w K mg base N qual scope f cd A outer s H E) [] (start N vs) H s1:=by
 have hpl:ps.length≤N.length:=by have:=congrArg List.length S.pre;rw[List.length_take] at this;omega
 obtain⟨h1,tk,rfl,hk⟩:=x.done
 have noA:∀ b:Addr,b∉(ybz CX P w K mg base N qual scope f cd A outer s H E).ex:=λb z=>absurd (show b∈([]:List Addr) from z) (by simp)
 refine⟨⟨e0.mod,S.kind,rfl,rfl,Nat.le_refl _,λy z c h1 h2=>?_,λy hy=>?_,λy c _ h=>?_,λ_=>hd,Around.frames_deeper e0.frames,.inr ⟨rfl,rfl⟩,λb z=>absurd z (noA b),e0.bs,e0.bsz,λb _ _=>noA b,λb z=>absurd z (noA b),e0.funs,e0.frf⟩,
  rfl,e0.bare,Un.kept hk,⟨_,x.toInCall.ns,λi y v h1 h2 h3=>?_⟩,λy c h=>⟨_,x.cell y c h⟩,e0.hok.fresh (Nat.le_refl _),λy c h=>?_,λp hp=>absurd (show p∈([]:List (Addr×Obj)) from hp) (by simp),e0.hok.kept hk,?_⟩
 ·exact name_of_addr x.apart (PySem.mem_of_lookup h1) (PySem.mem_of_lookup h2)
 ·have hy:scope.names.lookup y=some .cell∨scope.names.lookup y=some .free:=hy
  rcases hy with hy | hy
  ·exact yhr hy
  ·exact absurd rfl (S.nofree _ (PySem.mem_of_lookup hy))
 ·exact Nat.le_of_lt (x.above y c (PySem.mem_of_lookup h))
 ·have hi:i < vs.length:=by
   unfold start at h2
   by_cases hi:i < vs.length
   ·exact hi
   ·rw[List.getElem?_append_right (by simpa using hi)] at h2
    rw[List.getElem?_replicate] at h2
    split at h2<;>cases h2
  have ha:vs[i]?=some v:=by
   unfold start at h2
   rw[List.getElem?_append_left (by simpa using hi),List.getElem?_map] at h2
   cases e:vs[i]? with
   | none=>rw[e] at h2;cases h2
   | some a=>rw[e] at h2;cases h2;rfl
  obtain⟨u,hu,rv⟩:=r.get ha
  have hp:ps[i]?=some y:=by
   rw[← S.pre,List.getElem?_take_of_lt (by omega)];exact h1
  have ndP:ps.Nodup:=by rw[← S.pre];exact S.nd.sublist (List.take_sublist _ _)
  refine⟨u,rv,?_⟩
  rcases S.par y (List.mem_of_getElem? hp) with k | k
  ·exact .inl ⟨k,ygb ndP hp hu k⟩
  ·obtain⟨c,e⟩:=yhr (n:=s.heap.objs.size+1) k
   refine .inr ⟨.inl k,c,e,?_⟩
   have q:=x.cell y c e
   rw[yfT ndP hp hu (by show scope.names.lookup y≠_;rw[k];decide)] at q
   exact q
 ·exact e0.hok.fresh (Nat.le_of_lt (x.above y c (PySem.mem_of_lookup h)))
 ·unfold start
  show _=N.length
  rw[List.length_append,List.length_map,List.length_replicate]
  omega
theorem you {CX:CXT}{P:Program}{w:World}{K:PySem.W.Frag}{mg:Str→Option Value}{base:Heap}{k:Nat}{f:Addr}{name qual:Str}{params:Arguments}{body:List Stmt}{scope:Scope}{dV kV doc pm cdv ct oc:Value}{an od:Option Addr}
  {osl:Array (Option Value)} {N ps:List Str} {sp:Sp} (lk:K.lookup f=some ⟨oc,od,.func (PySem.W.fnOf name qual params body scope dV kV doc pm an cdv ct),osl⟩) (hcd:PySem.W.codeIn K cdv qual=true) (S:yat N ps scope)
  (len:∀ vs H Q E,sp vs H Q E→vs.length=ps.length)
  (hbody:∀ (A:Around) (outer:List Env) (s:Shared) (H:Hp) (vs:List V) (Q:VK) (E:XK),Room k (A.deeper (envOfC qual scope s.heap.objs.size f cdv))→sp vs H Q E →
   ∃ t,PSs (ybz CX P w K mg base N qual scope f cdv A outer s H E) body t∧t { nx:=λ_ H'=>Q .non H',rt:=Q } (start N vs) H) :
  FnOk P w K mg base CX (k+1) f (PySem.W.fnOf name qual params body scope dV kV doc pm an cdv ct) ps sp:=by
 refine⟨len,λA outer s H args us vs Q E hr e0 hb r hsp=>?_⟩
 have hl:=len _ _ _ _ hsp
 have KX:K.In s.heap:=e0.mod.kin.keeps λb o e=>(e0.bs b o e).1
 have lim:s.heap.NoLimit:=e0.mod.nolimit.keeps λb o e=>(e0.bs b o e).1
 have hkind:∀ y∈ps.zip us,scope.names.lookup y.1=some .local∨(scope.names.lookup y.1=some .cell∧((cellsFrom (s.heap.objs.size+1) scope.names []).lookup y.1).isSome=true):=λ⟨n,v⟩ hy=>by
  rcases S.par n (List.of_mem_zip hy).1 with q | q
  ·exact .inl q
  ·exact .inr ⟨q,PySem.W.cellsFrom_some _ _ _ (.inl q)⟩
 refine codeAny_call_function hr.depth (KX _ _ lk) rfl S.co S.gen rfl (PySem.W.codeRec_of KX hcd) (hb _ _ _ _ ?_)
 refine wpAny_newFunctionEnv_cells S.kind hkind λenv he s1 x=>?_
 subst he
 refine⟨lim.keeps x.toInCall.keep,codeAny_func ?_⟩
 obtain⟨t,ht,hq⟩:=hbody A outer s H vs Q E (hr.deeper _) hsp
 have I:Inv (ybz CX P w K mg base N qual scope f cdv A outer s H E) [] (start N vs) H s1:=ygy S hr.hd e0 hl r x
 refine wpAny_mono (ht [] s1 (start N vs) H _ I hq) (λfl s' hs=>?_) λe s' hs=>hs
 have fin:∀ {σ':St} {H':Hp} {v:V} {u:Value},Inv (ybz CX P w K mg base N qual scope f cdv A outer s H E) [] σ' H' s'→RelV v u→Q v H'→CE outer P w H s Q u s' :=
  λ{σ' H' v u} J rv q=>⟨v,H',J.os,J.bare,J.base,J.hok,rv,q⟩
 cases fl with
 | ret u =>
  obtain⟨v,σ',H',J,rv,q⟩:=hs
  exact fin J rv q
 | next =>
  obtain⟨σ',H',J,q⟩:=hs
  exact fin (v:=V.non) (u:=Value.none) J rfl q
 | brk =>
  obtain⟨_,_,_,q⟩:=hs
  exact False.elim q
 | cont =>
  obtain⟨_,_,_,q⟩:=hs
  exact False.elim q
section
variable {X:Cx} {x:Str} {p pos:Pos} {e:Expr} {es:List Expr} {t:TA} {id T:String} {r:List V→Hp→VK→Prop}
def tCB (r:List V→Hp→VK→Prop)(t:TA):TE:=fun σ H Q=>t σ H λvs H1=>r vs H1 Q
theorem yax (hc:ycd X (.builtin id) r)(hg:Gl X x)(hm:X.mg x=none)(hv:bootBuiltins x=some (.builtin id))(ha:PA X (e :: es) t)(hn:x≠"__name__":= by decide)(hdb:(x==("__debug__" : Str))=false:=by decide)
  (he:starEach (e :: es) X.env=(false,eval e X.env) :: starEach es X.env:=by rfl) (hpl:(backTo pos (starEach es X.env)).any (·.1)=false:=by rfl):PE X (.Call (.Name x p) (e :: es) [] pos) (tCB r t):=by
 intro pins s σ H Q I h
 refine wpAny_Call_Name_kw (ydy I hg hm hv ?_ hn hdb)
 exact PyProof.Rows.callWith_builtin1 (thn (ha pos pins s σ H _ I h) λus s1 ⟨vs,H1,I1,r1,q1⟩=>hc pins s1 σ H1 vs us Q I1 r1 q1) he hpl
theorem ybu (hc:ycd X (.type T) r)(hg:Gl X x)(hm:X.mg x=none)(hv:bootBuiltins x=some (.type T))(ha:PA X (e :: es) t)(hn:x≠"__name__":= by decide)(hdb:(x==("__debug__" : Str))=false:=by decide)
  (he:starEach (e :: es) X.env=(false,eval e X.env) :: starEach es X.env:=by rfl) (hpl:(backTo pos (starEach es X.env)).any (·.1)=false:=by rfl):PE X (.Call (.Name x p) (e :: es) [] pos) (tCB r t):=by
 intro pins s σ H Q I h
 refine wpAny_Call_Name_kw (ydy I hg hm hv ?_ hn hdb)
 exact PyProof.Rows.callWith_type1 (thn (ha pos pins s σ H _ I h) λus s1 ⟨vs,H1,I1,r1,q1⟩=>hc pins s1 σ H1 vs us Q I1 r1 q1) he hpl
end
end L2
namespace HT
open PySem PyProof.Rows
def lexLt:List Int→List Int→Bool
 | [],[]=>false
 | [],_ :: _=>true
 | _ :: _,[]=>false
 | x :: xs,y :: ys=>if x=y then lexLt xs ys else decide (x < y)
theorem lexLt_cons (x y:Int)(xs ys:List Int):lexLt (x :: xs) (y :: ys)=if x=y then lexLt xs ys else decide (x < y):=rfl
theorem lexLt_nil_cons (y:Int)(ys:List Int):lexLt [] (y :: ys)=true:=rfl
theorem lexLt_cons_nil (x:Int)(xs:List Int):lexLt (x :: xs) []=false:=rfl
section
open PySem.SeqAt
open PySem.AutoSeq1 (wpAny_loadPart')
open PySem.MeetsSeq PySem.MeetsSeq2 PySem.MeetsSeq3
end
section
variable {prog:Program} {w:World} {A:Around} {E:Value→Shared→Prop} {s:Shared}
theorem cat_tup {t b:Addr}{vs ws:List Value}{Q:Value→Shared→Prop}(ht:IsTup s.heap t vs.toArray)(hb:IsTup s.heap b ws.toArray)(hv:vs≠[])
  (h1:ws=[]→Q (.ref t) s) (h2:ws≠[]→Q (.ref s.heap.objs.size) { s with heap:=s.heap.push { cls:=.type "tuple",data:=.seq (vs++ws).toArray } })
  (hsz:vs.length+ws.length≤sizeLine):wpAny (model prog w) A (binaryOp .Add (.ref t) (.ref b)) Q E s:=by
 obtain⟨⟨cls,dd,data,sl⟩,ho,hc,n,hd⟩:=id ht
 obtain⟨⟨cls2,dd2,data2,sl2⟩,ho2,hc2,n2,hd2⟩:=id hb
 simp only at hc hd hc2 hd2
 subst hc hd hc2 hd2
 have e:vs.toArray++ws.toArray=(vs++ws).toArray:=by simp
 by_cases hw:ws=[]
 ·exact concat_meets ⟨_,ho,rfl⟩ ⟨_,ho2,rfl⟩ noFill_tuple_add seq_tuple_add PySem.F.slot_tuple_add PySem.F.entry_tuple_add (PySem.F.args_tuple_add_2 _ _)
   (tuple_addW1 t b vs.toArray ws.toArray n n2 dd dd2 sl sl2 (by simpa using hv) (by simp[hw])) ⟨ho,ho2,h1 hw⟩
 ·refine concat_meets ⟨_,ho,rfl⟩ ⟨_,ho2,rfl⟩ noFill_tuple_add seq_tuple_add PySem.F.slot_tuple_add PySem.F.entry_tuple_add (PySem.F.args_tuple_add_2 _ _)
   (tuple_addW2 t b vs.toArray ws.toArray n n2 dd dd2 sl sl2 (by simpa using hv) (by simpa using hw) (by rw[List.size_toArray,List.size_toArray];exact hsz)) ⟨ho,ho2,?_⟩
  rw[e]
  exact h2 hw
def sIx (n d:Nat):Option Int→Nat
 | none=>d
 | some v=>if v < 0 then (v+(n:Int)).toNat else min v.toNat n
theorem sIx_none (n d:Nat):sIx n d none=d:=rfl
theorem sIx_nat (n d k:Nat):sIx n d (some (k:Int))=min k n:=by
 show(if (k:Int) < 0 then ((k:Int)+(n:Int)).toNat else min (k:Int).toNat n)=min k n
 rw[if_neg (by omega),Int.toNat_natCast]
theorem ynC (n d:Nat)(hd:d≤n)(o:Option Int):sIx n d o≤n:=by
 cases o with
 | none=>exact hd
 | some v =>
  show(if v < 0 then (v+(n:Int)).toNat else min v.toNat n)≤n
  by_cases hv:v < 0
  ·rw[if_pos hv];omega
  ·rw[if_neg hv];exact Nat.min_le_right _ _
theorem yi1 (v:Int)(n d:Nat):(if v < 0 then max (v+(n:Int)) 0 else min v (n:Int))=((sIx n d (some v):Nat):Int):=by
 show(if v < 0 then max (v+(n:Int)) 0 else min v (n:Int))=(((if v < 0 then (v+(n:Int)).toNat else min v.toNat n):Nat):Int)
 by_cases hv:v < 0
 ·simp only[if_pos hv];omega
 ·simp only[if_neg hv];omega
theorem yia (lo hi:Option Int)(n:Nat):Builtin.Slice.sliceAdjust lo hi 1 (n:Int)=(((sIx n 0 lo:Nat):Int),((sIx n n hi:Nat):Int)):=by
 have h1:¬ ((1:Int) < 0):=by omega
 unfold Builtin.Slice.sliceAdjust
 simp only[h1,if_false]
 refine Prod.ext ?_ ?_
 ·cases lo with
  | none=>rfl
  | some v=>exact yi1 v n 0
 ·cases hi with
  | none=>rfl
  | some v=>exact yi1 v n n
theorem yii (i j:Nat):Builtin.Slice.slicePlaces (i:Int) (j:Int) 1=j - i:=by
 unfold Builtin.Slice.slicePlaces
 have h1:(1:Int) > 0:=by omega
 simp only[h1,if_true,Int.ediv_one]
 split<;>omega
theorem yeD {v:Value}{o:Option Int}{Q:Option Int→Shared→Prop}(p:IsPart v o)(h:Q o s):wpAny (model prog w) A (Builtin.Slice.slicePartIndex v) Q E s:=by
 cases p with
 | none=>exact slicePart_none h
 | int i t=>exact slicePart_int h
theorem ydA {sl:Addr}{vl vu:Value}{lo hi:Option Int}{n:Nat}{Q:Int×Int×Nat→Shared→Prop}(hs:s.heap.IsSliceOf sl vl vu .none)(pl:IsPart vl lo)(pu:IsPart vu hi)
  (h:Q (((sIx n 0 lo:Nat):Int),1,sIx n n hi - sIx n 0 lo) s):wpAny (model prog w) A (Builtin.Slice.sliceApplied (.ref sl) (pure (n:Int))) Q E s:=by
 obtain⟨os,hos,hcs,hds⟩:=id hs
 unfold Builtin.Slice.sliceApplied Builtin.Slice.sliceFields
 refine wpAny_bind (wpAny_bind (wpAny_field hos hds (x:=vl) rfl (wpAny_bind (wpAny_field hos hds (x:=vu) rfl (wpAny_bind (wpAny_field hos hds (x:=.none) rfl (wpAny_pure ?_)))))))
 refine wpAny_bind (slicePart_none ?_)
 show wpAny _ _ (if ((1:Int)==0)=true then _ else _) _ _ s
 rw[if_neg (by decide)]
 refine wpAny_bind (yeD pl (wpAny_bind (yeD pu (wpAny_bind (wpAny_pure ?_)))))
 show wpAny _ _ (match Builtin.Slice.sliceAdjust lo hi 1 (n:Int) with | (lo,hi)=>pure (lo,(1:Int),Builtin.Slice.slicePlaces lo hi 1)) _ _ s
 rw[yia lo hi n]
 show wpAny _ _ (pure (((sIx n 0 lo:Nat):Int),(1:Int),Builtin.Slice.slicePlaces ((sIx n 0 lo:Nat):Int) ((sIx n n hi:Nat):Int) 1)) _ _ s
 rw[yii]
 exact wpAny_pure h
theorem ykC (xs:Array Value)(i k:Nat):((List.range k).filterMap λ(m:Nat)=>xs[((i:Int)+(m:Int)*1).toNat]?).toArray=((xs.toList.drop i).take k).toArray:=by
 have e:(λ(m:Nat)=>xs[((i:Int)+(m:Int)*1).toNat]?)=λm=>xs[i+m]?:=by
  funext m
  have:((i:Int)+(m:Int)*1).toNat=i+m:=by omega
  rw[this]
 rw[e]
 have:=pick_run xs i k
 rw[List.filterMap_map] at this
 have e2:((λx=>xs[x]?) ∘ λx=>i+x)=λm=>xs[i+m]?:=rfl
 rw[e2] at this
 rw[this]
theorem getItem_tuple_cut {t sl:Addr}{items:Array Value}{vl vu:Value}{lo hi:Option Int}{Q:Value→Shared→Prop}(ht:IsTup s.heap t items)(hs:s.heap.IsSliceOf sl vl vu .none)(pl:IsPart vl lo)(pu:IsPart vu hi)
  (hw:¬ (sIx items.size 0 lo=0∧sIx items.size items.size hi=items.size))
  (h:Q (.ref s.heap.objs.size) { s with heap:=s.heap.push { cls:=.type "tuple",data:=.seq ((items.toList.drop (sIx items.size 0 lo)).take (sIx items.size items.size hi - sIx items.size 0 lo)).toArray } })
  (hsz:items.size≤sizeLine):wpAny (model prog w) A (getItem (.ref t) (.ref sl)) Q E s:=by
 have htake:sizeOk (.seq ((items.toList.drop (sIx items.size 0 lo)).take (sIx items.size items.size hi - sIx items.size 0 lo)).toArray):=by
  show((items.toList.drop (sIx items.size 0 lo)).take (sIx items.size items.size hi - sIx items.size 0 lo)).toArray.size≤sizeLine
  rw[List.size_toArray,List.length_take,List.length_drop,Array.length_toList]
  omega
 have hj:sIx items.size items.size hi≤items.size:=ynC _ _ (Nat.le_refl _) hi
 obtain⟨os,hos,hcs,hds⟩:=id hs
 have hTs:s.TypeIs (.ref sl) "slice":= ⟨os,hos,hcs⟩
 unfold getItem
 try with_reducible refine wpAny_holding ?_
 first | refine wpAny_bind (wpAny_pure ?_) | skip
 refine wpAny_bind (wpAny_sequenceKey ht.typeIs (by decide) ?_)
 refine wpAny_bind (wpAny_callSpecial?_slot (name:=Str.ofString "__getitem__") ht.typeIs PyProof.Rows.slot_tuple_getitem
  (wpAny_call_entry PyProof.Rows.slot_tuple_getitem ht.typeIs entry_tuple_getitem ?_ (args_tuple_getitem _ _)))
 show wpAny _ _ (Builtin.Tuple.tupleItemsOf (.ref t) >>= _) _ _ s
 refine wpAny_bind (tupleItemsOf_ ht ?_)
 refine wpAny_bind (wpAny_typeOf hTs ?_)
 rw[if_pos (by decide)]
 refine wpAny_bind (ydA hs pl pu ?_)
 have hno:¬ ((((sIx items.size 0 lo:Nat):Int)==0&&(1:Int)==1&&(sIx items.size items.size hi - sIx items.size 0 lo)==items.size)=true):=by
  intro q
  rw[Bool.and_eq_true,Bool.and_eq_true] at q
  have q1:((sIx items.size 0 lo:Nat):Int)=0:=eq_of_beq q.1.1
  have q2:sIx items.size items.size hi - sIx items.size 0 lo=items.size:=eq_of_beq q.2
  exact hw ⟨by omega,by omega⟩
 show wpAny _ _ (if (((sIx items.size 0 lo:Nat):Int)==0&&(1:Int)==1&&(sIx items.size items.size hi - sIx items.size 0 lo)==items.size)=true then _ else _) _ _ s
 rw[if_neg hno,ykC]
 first
  | exact wpAny_bind (m:=Builtin.Tuple.tupleExact _) (wpAny_newObj_type (wpAny_pure ⟨_,rfl,wpAny_pure h⟩) htake)
  | exact wpAny_bind (m:=Builtin.Tuple.tupleExact _) (wpAny_newObj_type (wpAny_bind (wpAny_pure (wpAny_pure ⟨_,rfl,wpAny_pure h⟩))) htake)
  | exact wpAny_bind (wpAny_bind (m:=Builtin.Tuple.tupleExact _) (wpAny_newObj_type (wpAny_pure (wpAny_pure ⟨_,rfl,wpAny_pure h⟩)) htake))
  | exact wpAny_bind (wpAny_bind (m:=Builtin.Tuple.tupleExact _) (wpAny_newObj_type (wpAny_pure ⟨_,rfl,wpAny_pure h⟩) htake))
end
end HT
namespace L2
open PySem PySem.Spec PyProof.Rows
abbrev TO:=St→Hp→(Option Int→Hp→Prop)→Prop
def PO (X:Cx)(e:Option Expr)(t:TO):Prop :=
 ∀ (pins:List (Addr×Obj)) (s:Shared) (σ:St) (H:Hp) (Q:Option Int→Hp→Prop),Inv X pins σ H s→t σ H Q →
  wpAny (model X.prog X.w) X.A (evalPart e X.env) (λu s'=>∃ o H',Inv X pins σ H' s'∧IsPart u o∧Q o H') X.xe s
def yi6:TO:=λ_ H Q=>Q none H
def ynm (t:TE):TO:=fun σ H Q=>t σ H λx H1=>∃ i,x=.int i∧Q (some i) H1
theorem yh6 {ns:List Int}:∀ {us:List Value},Vals (ns.map V.int) us→IntsAre us ns:=by
 induction ns with
 | nil=>intro us r;rw[List.map_nil] at r;cases r;exact .nil
 | cons n ns ih =>
  intro us r
  rw[List.map_cons] at r
  cases r with
  | cons r1 r2 =>
   obtain⟨t,e⟩:=r1
   subst e
   exact .cons n t (ih r2)
section
variable {X:Cx} {e:Expr} {te:TE} {lo hi:Option Expr} {tl th:TO} {pos p2:Pos}
theorem yb2:PO X none yi6:=by
 intro pins s σ H Q I h
 rw[evalPart_none]
 exact wpAny_pure ⟨none,H,I,.none,h⟩
theorem yb4 (h:PE X e te):PO X (some e) (ynm te):=by
 intro pins s σ H Q I hw
 rw[evalPart_some]
 refine thn (h pins s σ H _ I hw) λu s1 ⟨x,H1,I1,r1,q1⟩=>?_
 obtain⟨i,rfl,q⟩:=q1
 obtain⟨t,rfl⟩:=r1
 exact⟨some i,H1,I1,.int i t,q⟩
def SlR (X:Cx)(r:V→Option Int→Option Int→Hp→VK→Prop):Prop :=
 ∀ (pins:List (Addr×Obj)) (s:Shared) (σ:St) (H:Hp) (x:V) (v vl vu:Value) (lo hi:Option Int) (sl:Addr) (Q:VK),Inv X pins σ H s→RelV x v→s.heap.IsSliceOf sl vl vu .none→IsPart vl lo→IsPart vu hi→r x lo hi H Q →
  ∃ T id,typeLookup (.type T) "__getitem__"=pure (some (.builtin id))∧s.TypeIs v T∧wpAny (model X.prog X.w) X.A (getItem v (.ref sl)) (EP X pins σ Q) X.xe s
def tSl (r:V→Option Int→Option Int→Hp→VK→Prop)(te:TE)(tl th:TO):TE:=fun σ H Q=>te σ H λx H1=>tl σ H1 λl H2=>th σ H2 λu H3=>r x l u H3 Q
theorem ybJ {r:V→Option Int→Option Int→Hp→VK→Prop}(hr:SlR X r)(he:PE X e te)(hl:PO X lo tl)(hu:PO X hi th):PE X (.Subscript e (.Slice lo hi none p2) pos) (tSl r te tl th):=by
 intro pins s σ H Q I h
 refine Subscript_ (thn (he pins s σ H _ I h) λv s1 ⟨x,H1,I1,r1,q1⟩=>?_)
 refine wpAny_Slice (thn (hl pins s1 σ H1 _ I1 q1) λvl s2 ⟨l,H2,I2,pl,q2⟩=>thn (hu pins s2 σ H2 _ I2 q2) λvu s3 ⟨u,H3,I3,pu,q3⟩=>?_)
 rw[evalPart_none]
 refine wpAny_pure ?_
 have I4:Inv X pins σ H3 { s3 with heap:=s3.heap.push { cls:=.type "slice",data:=.fields #[vl,vu,.none] } }:=I3.kept (t':=s3.toks) λb ob q=>Heap.get?_push_of_some _ q
 obtain⟨T,id,hT,ht,hg⟩:=hr pins { s3 with heap:=s3.heap.push { cls:=.type "slice",data:=.fields #[vl,vu,.none] } } σ H3 x v vl vu l u s3.heap.objs.size Q I4 r1 (Heap.IsSliceOf.new ..) pl pu q3
 show wpAny (model X.prog X.w) X.A (subscriptTail e (.Slice lo hi none p2) v (.ref s3.heap.objs.size)) (EP X pins σ Q) X.xe { s3 with heap:=s3.heap.push { cls:=.type "slice",data:=.fields #[vl,vu,.none] } }
 exact tail_any (ops:=[.ref s3.heap.objs.size,v]) ht hT hg (by with_unfolding_all rfl)
def yif (xs:List V)(lo hi:Option Int):List V:=(xs.drop (HT.sIx xs.length 0 lo)).take (HT.sIx xs.length xs.length hi - HT.sIx xs.length 0 lo)
theorem yee (xs:List V)(lo hi:Option Int):(yif xs lo hi).length≤xs.length:=by
 unfold yif
 rw[List.length_take,List.length_drop]
 omega
def yqr (K:PySem.W.Frag):V→Option Int→Option Int→Hp→VK→Prop:=λx lo hi H Q=>∃ a xs,x=.ref a∧SqT K H a xs ∧
 ¬ (HT.sIx xs.length 0 lo=0∧HT.sIx xs.length xs.length hi=xs.length)∧∀ p,H p=none→Q (.ref p) (upd H p (.tup (yif xs lo hi)))
theorem ydO:SlR X (yqr X.K):=by
 intro pins s σ H x v vl vu lo hi sl Q I rx hs pl pu h
 obtain⟨a,xs,rfl,hx,hw,q⟩:=h
 cases rx
 obtain⟨its,r,ht,hz⟩:=I.tuple hx
 have hlen:its.toArray.size=xs.length:=by rw[List.size_toArray];exact r.length.symm
 refine⟨"tuple",_,PyProof.Rows.slot_tuple_getitem.lookup,ht.typeIs,?_⟩
 refine HT.getItem_tuple_cut ht hs pl pu (by rw[hlen];exact hw) ?_ (by rw[hlen];exact hz)
 rw[hlen]
 refine⟨.ref s.heap.objs.size,_,I.laid (t':=s.toks) (o:=.tup (yif xs lo hi)) (λb ob q=>Heap.get?_push_of_some _ q) (Nat.le_refl _) ?_,rfl,q _ (I.hok.fresh (Nat.le_refl _))⟩
 exact⟨Nat.le_trans (yee xs lo hi) hz,_,(r.drop (HT.sIx xs.length 0 lo)).take (HT.sIx xs.length xs.length hi - HT.sIx xs.length 0 lo),IsTup.new _ _⟩
def yl2 (K:PySem.W.Frag):R2:=λx y H Q=>∃ a b xs ys,x=.ref a∧y=.ref b∧SqT K H a xs∧SqT K H b ys∧xs≠[]∧xs.length+ys.length≤sizeLine ∧
 (ys=[]→Q (.ref a) H)∧(ys≠[]→∀ p,H p=none→Q (.ref p) (upd H p (.tup (xs++ys))))
theorem Vals.nil_iff {xs:List V}{us:List Value}(r:Vals xs us):us=[]↔xs=[]:=by
 cases r with
 | nil=>simp
 | cons _ _=>simp
theorem ydY:OpR X (binaryOp .Add) (yl2 X.K):=by
 intro pins s σ H x y v u Q I rx ry h
 obtain⟨a,b,xs,ys,rfl,rfl,ha,hb,hx,hz,q1,q2⟩:=h
 cases rx
 cases ry
 obtain⟨its,r1,p1,_⟩:=I.tuple ha
 obtain⟨its2,r2,p2,_⟩:=I.tuple hb
 refine HT.cat_tup p1 p2 (λz=>hx (r1.nil_iff.mp z)) (λz=>⟨.ref a,H,I,rfl,q1 (r2.nil_iff.mp z)⟩) (λz=>?_) (by rw[← r1.length,← r2.length];exact hz)
 refine⟨.ref s.heap.objs.size,_,I.laid (t':=s.toks) (o:=.tup (xs++ys)) (λb ob q=>Heap.get?_push_of_some _ q) (Nat.le_refl _) ?_,rfl,q2 (λw=>z (r2.nil_iff.mpr w)) _ (I.hok.fresh (Nat.le_refl _))⟩
 exact⟨by rw[List.length_append];exact hz,_,r1.append r2,IsTup.new _ _⟩
end
def ixN (n:Nat)(i:Int):Option Nat:=if 0≤i then (if i < n then some i.toNat else none) else if -(n:Int)≤i then some (i+n).toNat else none
def atI {α:Type}(xs:List α)(i:Int):Option α:=(ixN xs.length i).bind λj=>xs[j]?
theorem yjW {n:Nat}{i:Int}{j:Nat}(h:ixN n i=some j):seqIndex? i n=some j∧j < n∧-(n:Int)≤i∧i < n:=by
 unfold ixN at h
 by_cases h0:0≤i
 ·rw[if_pos h0] at h
  by_cases h1:i < n
  ·rw[if_pos h1] at h
   have e:i.toNat=j:=Option.some.inj h
   exact⟨by rw[seqIndex_of h0 h1,e],by omega,by omega,h1⟩
  ·rw[if_neg h1] at h;cases h
 ·rw[if_neg h0] at h
  by_cases h1:-(n:Int)≤i
  ·rw[if_pos h1] at h
   have e:(i+n).toNat=j:=Option.some.inj h
   exact⟨by rw[seqIndex_neg (by omega) h1,e],by omega,h1,by omega⟩
  ·rw[if_neg h1] at h;cases h
theorem yiL {α:Type}{xs:List α}{i:Int}{v:α}(h:atI xs i=some v):∃ j,seqIndex? i xs.length=some j∧xs[j]?=some v∧j < xs.length∧-(xs.length:Int)≤i∧i < xs.length:=by
 unfold atI at h
 cases e:ixN xs.length i with
 | none=>rw[e] at h;cases h
 | some j =>
  rw[e] at h
  obtain⟨h1,h2,h3,h4⟩:=yjW e
  exact⟨j,h1,h,h2,h3,h4⟩
theorem yak {α:Type}{xs:List α}{j:Nat}{v:α}(h:xs[j]?=some v):atI xs (j:Int)=some v:=by
 have hj:j < xs.length:=(List.getElem?_eq_some_iff.mp h).1
 have e:ixN xs.length (j:Int)=some j:=by
  unfold ixN
  rw[if_pos (by omega),if_pos (by omega)];simp
 unfold atI;rw[e];exact h
theorem ybP {α:Type}(xs:List α)(v:α):atI (xs++[v]) (-1)=some v:=by
 have hl:(xs++[v]).length=xs.length+1:=by simp
 have e:ixN (xs++[v]).length (-1)=some xs.length:=by
  unfold ixN
  rw[hl,if_neg (by decide),if_pos (by omega)]
  congr 1
  omega
 unfold atI
 rw[e]
 show(xs++[v])[xs.length]?=some v
 simp
def ylW (b:Expr):Prop:=∀ o i,subscripted b false o i=operate [o,i] (getItem o i)
def IxR (X:Cx)(r:R2):Prop :=
 ∀ (value slice:Expr) (pins:List (Addr×Obj)) (s:Shared) (σ:St) (H:Hp) (x y:V) (v u:Value) (Q:VK),Inv X pins σ H s→RelV x v→RelV y u→r x y H Q →
  subscripted slice false v u=operate [v,u] (getItem v u)→wpAny (model X.prog X.w) X.A (subscriptTail value slice v u) (EP X pins σ Q) X.xe s
def MtR (X:Cx)(id:String)(r:V→List V→Hp→VK→Prop):Prop :=
 ∀ (pins:List (Addr×Obj)) (s:Shared) (σ:St) (H:Hp) (x:V) (xs:List V) (v:Value) (us:List Value) (Q:VK),Inv X pins σ H s→RelV x v→Vals xs us→r x xs H Q →
  wpAny (model X.prog X.w) X.A (call (.builtin id) (v :: us)) (EP X pins σ Q) X.xe s
section
variable {X:Cx} {a b:Expr} {ta tb:TE} {pos:Pos}
theorem yav {r:R2}(hr:IxR X r)(ha:PE X a ta)(hb:PE X b tb)(hs:ylW b):PE X (.Subscript a b pos) (tOp r ta tb):=by
 intro pins s σ H Q I h
 exact Subscript_ (yp5 ha hb I h λv u s2 x y H2 I2 rx ry q=>hr a b pins s2 σ H2 x y v u Q I2 rx ry q (hs _ _))
def ykp (K:PySem.W.Frag):R2:=λx y H Q=>∃ p xs i v,x=.ref p∧y=.int i∧SqL K H p xs∧atI xs i=some v∧Q v H
def ymL (K:PySem.W.Frag):R2:=λx y H Q=>∃ p xs i v,x=.ref p∧y=.int i∧SqT K H p xs∧atI xs i=some v∧Q v H
theorem yaz:IxR X (ykp X.K):=by
 intro value slice pins s σ H x y v u Q I rx ry h hs
 obtain⟨p,xs,i,z,rfl,rfl,hq,he,q⟩:=h
 cases rx
 obtain⟨t,rfl⟩:=ry
 obtain⟨its,r,pl,hz⟩:=I.list hq
 obtain⟨j,h1,h2,h3,h4,h5⟩:=yiL he
 obtain⟨w,ew,rw'⟩:=r.get h2
 have hl:=r.length
 have hn:=yfL
 have fin:EP X pins σ Q w s:=⟨z,H,I,rw',q⟩
 by_cases h0:0≤i
 ·have hj:i.toNat=j:=by
   rw[seqIndex_of h0 h5] at h1
   exact Option.some.inj h1
  exact item_listR pl.isList h0 (by omega) (by rw[hj];simpa using ew) fin hs
 ·have hj:(i+(its.toArray.size:Int)).toNat=j:=by
   rw[seqIndex_neg (by omega) h4] at h1
   rw[List.size_toArray,← hl]
   exact Option.some.inj h1
  exact subscriptTail_builtinR (x:=w) pl.isList.typeIs slot_list_getitem.lookup
   (wpAny_getItem_list_neg (Q:=λr s'=>r=w∧EP X pins σ Q r s') pl.isList (by omega) (by rw[List.size_toArray]<;>omega) (by omega) (by rw[hj];simpa using ew) ⟨rfl,fin⟩) hs
theorem yaA:IxR X (ymL X.K):=by
 intro value slice pins s σ H x y v u Q I rx ry h hs
 obtain⟨p,xs,i,z,rfl,rfl,hq,he,q⟩:=h
 cases rx
 obtain⟨t,rfl⟩:=ry
 obtain⟨its,r,pl,hz⟩:=I.tuple hq
 obtain⟨j,h1,h2,h3,h4,h5⟩:=yiL he
 obtain⟨w,ew,rw'⟩:=r.get h2
 have hl:=r.length
 have hn:=yfL
 have fin:EP X pins σ Q w s:=⟨z,H,I,rw',q⟩
 exact subscriptTail_builtinR (x:=w) pl.typeIs slot_tuple_getitem.lookup
  (getItem_tuple (j:=j) (Q:=λr s'=>r=w∧EP X pins σ Q r s') pl (by omega) (by omega) (by rw[List.size_toArray,← hl];exact h1) (by simpa using ew) ⟨rfl,fin⟩) hs
theorem yhU (its:List Value)(n j:Nat)(u:Value):Obj.mapSeq (·.setIfInBounds j u) { cls:=.type "list",data:=.seq its.toArray n }={ cls:=.type "list",data:=.seq (its.set j u).toArray n }:=by
 simp[Obj.mapSeq]
theorem Inv.lst {pins:List (Addr×Obj)}{σ:St}{H:Hp}{s:Shared}{p:Addr}{xs:List V}(I:Inv X pins σ H s)(h:H p=some (.lst xs)) :
  ∃ (its:List Value) (n:Nat),Vals xs its∧s.heap.get? p=some { cls:=.type "list",data:=.seq its.toArray n }∧xs.length≤sizeLine:=by
 obtain⟨z,its,n,r,e⟩:=I.hok p _ h
 exact⟨its,n,r,e,z⟩
theorem Inv.lstUpd {pins:List (Addr×Obj)}{σ:St}{H:Hp}{s:Shared}{p:Addr}{xs ys:List V}{its its':List Value}{n n':Nat}{f:Obj→Obj}(I:Inv X pins σ H s)(h:H p=some (.lst xs))
  (ho:s.heap.get? p=some { cls:=.type "list",data:=.seq its.toArray n }) (hf:f { cls:=.type "list",data:=.seq its.toArray n }={ cls:=.type "list",data:=.seq its'.toArray n' }) (r:Vals ys its') (hz:ys.length≤sizeLine) (t:Nat) :
  Inv X pins σ (upd H p (.lst ys)) { s with heap:=s.heap.update p f,toks:=t }:=by
 have e:(s.heap.update p f).get? p=some { cls:=.type "list",data:=.seq its'.toArray n' }:=by
  rw[Heap.get?_update_self f ho (by rw[hf]<;>rfl),hf]
 refine I.write (x:=p) (e:=p) (by rw[h];trivial) (.inl rfl) (λb u hb q=>(Heap.get?_update_other _ _ (Ne.symm hb)).trans q) ⟨_,e⟩ ?_
 exact⟨hz,its',n',r,e⟩
def yk5:V→V→V→Hp→(Hp→Prop)→Prop:=λo i v H Q=>∃ p xs k j,o=.ref p∧i=.int k∧H p=some (.lst xs)∧ixN xs.length k=some j∧Q (upd H p (.lst (xs.set j v)))
theorem yc5:yql X yk5:=by
 intro pins s σ H o i v ov iv u Q I ro ri rv h
 obtain⟨p,xs,k,j,rfl,rfl,hp,hj,q⟩:=h
 cases ro
 obtain⟨t,rfl⟩:=ri
 obtain⟨its,n,r,ho,hz⟩:=I.lst hp
 obtain⟨h1,h2,h3,h4⟩:=yjW hj
 have hl:=r.length
 have hn:=yfL
 have I':Inv X pins σ (upd H p (.lst (xs.set j v))) { s with heap:=s.heap.update p (Obj.mapSeq (·.setIfInBounds j u)) } :=
  I.lstUpd hp ho (yhU its n j u) (r.set rv j) (by rw[List.length_set];exact hz) s.toks
 by_cases h0:0≤k
 ·have hk:k.toNat=j:=by
   rw[seqIndex_of h0 h4] at h1
   exact Option.some.inj h1
  exact PySem.W.ki_setAt ho h0 (by omega) (by rw[List.size_toArray,← hl];exact h4) (by rw[hk];exact⟨_,I',q⟩)
 ·have hk:(k+(its.toArray.size:Int)).toNat=j:=by
   rw[seqIndex_neg (by omega) h3] at h1
   rw[List.size_toArray,← hl]
   exact Option.some.inj h1
  exact PySem.W.ki_setBack ho (by omega) (by rw[List.size_toArray,← hl];exact h3) (by omega) (by rw[hk];exact⟨_,I',q⟩)
theorem ygm (lo hi:Option Int)(n:Nat):(sliceBounds lo hi none n).1=((HT.sIx n 0 lo:Nat):Int)∧(sliceBounds lo hi none n).2.1=((HT.sIx n n hi:Nat):Int)∧(sliceBounds lo hi none n).2.2=1:=by
 refine⟨?_,?_,rfl⟩
 ·cases lo with
  | none=>simp[sliceBounds,HT.sIx]
  | some i =>
   simp only[sliceBounds,HT.sIx,Option.getD_none,show(1:Int) > 0 by decide,if_true]
   by_cases h:i < 0
   ·simp only[h,if_true]<;>omega
   ·simp only[h,if_false]<;>omega
 ·cases hi with
  | none=>simp[sliceBounds,HT.sIx]
  | some i =>
   simp only[sliceBounds,HT.sIx,Option.getD_none,show(1:Int) > 0 by decide,if_true]
   by_cases h:i < 0
   ·simp only[h,if_true]<;>omega
   ·simp only[h,if_false]<;>omega
theorem yeK (its:List Value)(lo hi:Option Int):slicePick its.toArray lo hi none=((its.drop (HT.sIx its.length 0 lo)).take (HT.sIx its.length its.length hi - HT.sIx its.length 0 lo)).toArray:=by
 obtain⟨h1,h2,h3⟩:=ygm lo hi its.toArray.size
 unfold slicePick
 rw[h1,h2,h3]
 simp only[sliceRange_one,pick_run,List.size_toArray]<;>rfl
def yo9 (K:PySem.W.Frag):V→Option Int→Option Int→Hp→VK→Prop:=λx lo hi H Q=>∃ a xs,x=.ref a∧SqL K H a xs∧∀ p,H p=none→Q (.ref p) (upd H p (.lst (yif xs lo hi)))
theorem ygU:SlR X (yo9 X.K):=by
 intro pins s σ H x v vl vu lo hi sl Q I rx hs pl pu h
 obtain⟨a,xs,rfl,hx,q⟩:=h
 cases rx
 obtain⟨its,r,ht,hz⟩:=I.list hx
 have hlen:=r.length
 refine⟨"list",_,slot_list_getitem.lookup,ht.isList.typeIs,?_⟩
 refine wpAny_getItem_list_slice ht.isList hs pl pu .none (by simp) ?_ (by rw[List.size_toArray]<;>omega)
 rw[yeK,← hlen]
 refine⟨.ref s.heap.objs.size,_,I.laid (t':=s.toks) (o:=.lst (yif xs lo hi)) (λb ob q=>Heap.get?_push_of_some _ q) (Nat.le_refl _) ?_,rfl,q _ (I.hok.fresh (Nat.le_refl _))⟩
 exact⟨Nat.le_trans (yee xs lo hi) hz,_,0,(r.drop (HT.sIx xs.length 0 lo)).take (HT.sIx xs.length xs.length hi - HT.sIx xs.length 0 lo),Heap.get?_push_size _ rfl⟩
def ycg:V→Bool
 | .non=>true
 | .bl _=>true
 | .int _=>true
 | .str _=>true
 | _=>false
def eqV:V→V→Bool
 | .non,.non=>true
 | .bl a,.bl b=>a==b
 | .bl a,.int b=>(if a then 1 else 0)==b
 | .int a,.bl b=>a==(if b then 1 else 0)
 | .int a,.int b=>a==b
 | .str a,.str b=>a==b
 | _,_=>false
theorem yiN {A:Around}{s:Shared}{y x:V}{u v:Value}(ry:RelV y u)(rx:RelV x v)(fy:ycg y=true)(fx:ycg x=true):SeqAt.EqAt A s u v (eqV y x):=by
 cases y with
 | non =>
  cases ry
  cases x with
  | non=>cases rx;exact SeqAt.EqAt.same _
  | bl b=>cases rx;exact SeqAt.EqAt.none_bool b
  | int b=>obtain⟨t,rfl⟩:=rx;exact SeqAt.EqAt.none_int b t
  | str b=>obtain⟨t,rfl⟩:=rx;exact SeqAt.EqAt.none_str b t
  | _=>exact absurd (show false=true from fx) Bool.false_ne_true
 | bl a =>
  cases ry
  cases x with
  | non=>cases rx;exact SeqAt.EqAt.bool_none a
  | bl b=>cases rx;exact SeqAt.EqAt.bool_bool a b
  | int b=>obtain⟨t,rfl⟩:=rx;exact SeqAt.EqAt.bool_int a b t
  | str b=>obtain⟨t,rfl⟩:=rx;exact SeqAt.EqAt.bool_str a b t
  | _=>exact absurd (show false=true from fx) Bool.false_ne_true
 | int a =>
  obtain⟨t',rfl⟩:=ry
  cases x with
  | non=>cases rx;exact SeqAt.EqAt.int_none a t'
  | bl b=>cases rx;exact SeqAt.EqAt.int_bool a t' b
  | int b=>obtain⟨t,rfl⟩:=rx;exact SeqAt.EqAt.int_int a t' b t
  | str b=>obtain⟨t,rfl⟩:=rx;exact SeqAt.EqAt.int_str a t' b t
  | _=>exact absurd (show false=true from fx) Bool.false_ne_true
 | str a =>
  obtain⟨t',rfl⟩:=ry
  cases x with
  | non=>cases rx;exact SeqAt.EqAt.str_none a t'
  | bl b=>cases rx;exact SeqAt.EqAt.str_bool a t' b
  | int b=>obtain⟨t,rfl⟩:=rx;exact SeqAt.EqAt.str_int a t' b t
  | str b=>obtain⟨t,rfl⟩:=rx;exact SeqAt.EqAt.str_str a t' b t
  | _=>exact absurd (show false=true from fx) Bool.false_ne_true
 | _=>exact absurd (show false=true from fy) Bool.false_ne_true
def eqU (x:V)(u:Value):Bool:=match u with
 | .none=>eqV .non x
 | .bool b=>eqV (.bl b) x
 | .int i _=>eqV (.int i) x
 | .str z _=>eqV (.str z) x
 | _=>false
theorem ygk {x y:V}{u:Value}(r:RelV y u)(f:ycg y=true):eqU x u=eqV y x:=by
 cases y with
 | non=>cases r;rfl
 | bl b=>cases r;rfl
 | int i=>obtain⟨t,rfl⟩:=r;rfl
 | str z=>obtain⟨t,rfl⟩:=r;rfl
 | _=>exact absurd (show false=true from f) Bool.false_ne_true
theorem yhD {A:Around}{s:Shared}{x:V}{v:Value}(rx:RelV x v)(fx:ycg x=true):∀ {xs:List V} {us:List Value},Vals xs us→xs.all ycg=true→∀ u∈us,SeqAt.EqAt A s u v (eqU x u)
 | _,_,.nil,_=>λu hu=>by cases hu
 | y :: xs,u :: us,.cons r t,f=>λu' hu=>by
  rw[List.all_cons,Bool.and_eq_true] at f
  rcases List.mem_cons.mp hu with rfl | hu
  ·rw[ygk r f.1];exact yiN r rx f.1 fx
  ·exact yhD rx fx t f.2 u' hu
theorem yaU:ycd X (.builtin "len") (λxs H Q=>∃ p ys,xs=[.ref p]∧(SqL X.K H p ys∨SqT X.K H p ys)∧Q (.int ys.length) H):=by
 intro pins s σ H xs us Q I r h
 obtain⟨p,ys,rfl,hq,q⟩:=h
 obtain⟨u,rfl,rx⟩:=ygK r
 cases rx
 have hn:=yfL
 rcases hq with hq | hq
 ·obtain⟨its,r',pl,hz⟩:=I.list hq
  have hlen:=r'.length
  exact Calls.call_len_list pl.isList (by simp only[List.size_toArray]<;>omega) ⟨.int ys.length,H,I.tok _,⟨s.toks+1,by rw[List.size_toArray,hlen]⟩,q⟩
 ·obtain⟨its,r',pl,hz⟩:=I.tuple hq
  have hlen:=r'.length
  exact len_tuple pl (by simp only[List.size_toArray]<;>omega) ⟨.int ys.length,H,I.tok _,⟨s.toks+1,by rw[List.size_toArray,hlen]⟩,q⟩
theorem ybq:ycd X (.type "list") (λxs H Q=>∃ p ys,xs=[.ref p]∧(SqL X.K H p ys∨SqT X.K H p ys)∧∀ l,H l=none→Q (.ref l) (upd H l (.lst ys))):=by
 intro pins s σ H xs us Q I r h
 obtain⟨p,ys,rfl,hq,q⟩:=h
 obtain⟨u,rfl,rx⟩:=ygK r
 cases rx
 have fin:∀ (its:List Value),Vals ys its→ys.length≤sizeLine→∀ (h':Heap) (c':Nat),(∀ b o',s.heap.get? b=some o'→h'.get? b=some o') →
   h'.get? s.heap.objs.size=some { cls:=.type "list",dict:=none,data:=.seq its.toArray c',slots:=#[] }→EP X pins σ Q (.ref s.heap.objs.size) { s with heap:=h' }:=λits r' hz h' c' kp e =>
  ⟨.ref s.heap.objs.size,_,I.laid (t':=s.toks) kp (Nat.le_refl _) (show ObjOk X.prog X.w _ h' _ (.lst ys) from ⟨hz,its,c',r',e⟩),rfl,q _ (I.hok.fresh (Nat.le_refl _))⟩
 rcases hq with hq | hq
 ·obtain⟨its,r',pl,hz⟩:=I.list hq
  have hlen:=r'.length
  obtain⟨o,ho,hc,n,hd⟩:=pl.isList
  exact call_list_seq p (.inl rfl) ho hc hd (λh' c' kp e=>fin its r' hz h' c' kp e) (by simp only[List.size_toArray]<;>omega)
 ·obtain⟨its,r',pl,hz⟩:=I.tuple hq
  have hlen:=r'.length
  obtain⟨o,ho,hc,n,hd⟩:=pl
  exact call_list_seq p (.inr rfl) ho hc hd (λh' c' kp e=>fin its r' hz h' c' kp e) (by simp only[List.size_toArray]<;>omega)
def tyV (K:PySem.W.Frag)(T:String)(x:V)(H:Hp):Prop:=match x with
 | .str _=>T="str"
 | .int _=>T="int"
 | .ref p=>(T="list" ∧ ∃ xs,SqL K H p xs)∨(T="tuple" ∧ ∃ o,K.lookup p=some o∧o.cls=.type "tuple" ∧ o.dict=none) ∨
   (T="dict" ∧ ((∃ kvs,H p=some (.dK kvs))∨∃ kvs,H p=some (.dT kvs)))∨(T="set" ∧ ∃ S n,H p=some (.set S n))
 | _=>False
theorem ylP {pins:List (Addr×Obj)}{σ:St}{H:Hp}{s:Shared}{T:String}{x:V}{v:Value}(I:Inv X pins σ H s)(r:RelV x v)(ty:tyV X.K T x H) :
  s.TypeIs v T∧∀ a,v=.ref a→∃ ob,s.heap.get? a=some ob∧ob.dict=none:=by
 cases x with
 | str z =>
  obtain⟨t,rfl⟩:=r
  cases (show T="str" from ty)
  exact⟨typeIs_str s z t,λ_ e=>nomatch e⟩
 | int i =>
  obtain⟨t,rfl⟩:=r
  cases (show T="int" from ty)
  exact⟨typeIs_int s i t,λ_ e=>nomatch e⟩
 | ref p =>
  cases r
  rcases ty with ⟨rfl,xs,hq⟩ | ⟨rfl,o,hk,hc,hd⟩ | ⟨rfl,hk⟩ | ⟨rfl,S,n,hk⟩
  ·obtain⟨its,_,pl,_⟩:=I.list hq
   refine⟨pl.isList.typeIs,λa e=>?_⟩
   cases e
   obtain⟨o,n,e,c,hd,_⟩:=pl
   exact⟨o,e,hd⟩
  ·refine⟨⟨o,I.kIn p o hk,hc⟩,λa e=>?_⟩
   cases e
   exact⟨o,I.kIn _ o hk,hd⟩
  ·have z:∃ o,s.heap.get? p=some o∧o.ExactDict:=by
    rcases hk with ⟨kvs,hk⟩ | ⟨kvs,hk⟩
    ·obtain⟨_,_,_,_,o,_,_,e,ex,_⟩:=I.hok p _ hk
     exact⟨o,e,ex⟩
    ·obtain⟨_,_,_,_,o,_,_,e,ex,_⟩:=I.hok p _ hk
     exact⟨o,e,ex⟩
   obtain⟨o,e,ex⟩:=z
   refine⟨⟨o,e,ex.1⟩,λa e2=>?_⟩
   cases e2
   exact⟨o,e,ex.2.1⟩
  ·obtain⟨o,_,_,_,e,ex,_⟩:=I.hok p _ hk
   refine⟨⟨o,e,ex.1⟩,λa e2=>?_⟩
   cases e2
   exact⟨o,e,ex.2.1⟩
 | _=>exact False.elim ty
def yo0 (K:PySem.W.Frag)(T:String)(r:V→List V→Hp→VK→Prop)(to:TE):TE:=fun σ H Q=>to σ H λx H1=>tyV K T x H1∧r x [] H1 Q
def tBM (K:PySem.W.Frag)(T:String)(r:V→List V→Hp→VK→Prop)(to:TE)(t:TA):TE:=fun σ H Q=>to σ H λx H1=>tyV K T x H1∧t σ H1 λxs H2=>r x xs H2 Q
variable {o e:Expr} {es:List Expr} {to:TE} {t:TA} {name:Str} {apos cpos:Pos} {T id:String} {r:V→List V→Hp→VK→Prop}
theorem ynG (pa:PlainAttrs T)(slot:Slot T name id)(hty:typeOf (.builtin id)=pure (.type "method_descriptor"))(hm:MtR X id r)(ho:PE X o to)
  (hbase:attributeBase o name X.env (eval o X.env)=eval o X.env:=by rfl) (hline:(apos.endLine==cpos.line)=true:=by rfl):PE X (.Call (.Attribute o name apos) [] [] cpos) (yo0 X.K T r to):=by
 intro pins s σ H Q I h
 refine wpAny_Call_method0_late hbase hline (thn (ho pins s σ H _ I h) λv s1 ⟨x,H1,I1,r1,ty,q1⟩=>?_)
 obtain⟨h1,h2⟩:=ylP I1 r1 ty
 exact⟨T,id,pa,slot,hty,h1,h2,Calls.callWith_builtin rfl (PySem.evalArgs_none (hm pins s1 σ H1 x [] v [] Q I1 r1 .nil q1))⟩
theorem ybU (pa:PlainAttrs T)(slot:Slot T name id)(hty:typeOf (.builtin id)=pure (.type "method_descriptor"))(hm:MtR X id r)(ho:PE X o to)(ha:PA X (e :: es) t)
  (hbase:attributeBase o name X.env (eval o X.env)=eval o X.env:=by rfl)
  (hfew:((backTo cpos (starEach (e :: es) X.env)).all (λx=>!x.1)&&(backToKw cpos (keywordEach [] X.env)).all (λx=>x.1.isSome)
   && decide ((e :: es).length+([]:List Keyword).length+(if ([]:List Keyword).isEmpty then 0 else 1) < 30))=true:=by rfl)
  (hline:(apos.endLine==cpos.line)=true:=by rfl) (hs:starEach (e :: es) X.env=(false,eval e X.env) :: starEach es X.env:=by rfl) (hplain:(backTo cpos (starEach es X.env)).any (·.1)=false:=by rfl) :
  PE X (.Call (.Attribute o name apos) (e :: es) [] cpos) (tBM X.K T r to t):=by
 intro pins s σ H Q I h
 refine wpAny_Call_method_late hbase hfew hline rfl (thn (ho pins s σ H _ I h) λv s1 ⟨x,H1,I1,r1,ty,q1⟩=>?_)
 obtain⟨h1,h2⟩:=ylP I1 r1 ty
 refine⟨T,id,pa,slot,hty,h1,h2,?_⟩
 have hA:=ha cpos pins s1 σ H1 _ I1 q1
 rw[hs] at hA ⊢
 refine Calls.callWith_builtin (by show(false||(backTo cpos (starEach es X.env)).any (·.1))=false;rw[hplain]<;>rfl) (Calls.evalArgs_plain ?_)
 exact thn hA λus s2 ⟨vs,H2,I2,r2,q2⟩=>hm pins s2 σ H2 x vs v us Q I2 r1 r2 q2
end
def MtM (X:Cx)(id:String)(r:V→List V→Hp→VK→Prop):Prop :=
 ∀ (pins:List (Addr×Obj)) (s:Shared) (σ:St) (H:Hp) (x:V) (xs:List V) (v:Value) (us:List Value) (Q:VK),Inv X pins σ H s→RelV x v→Vals xs us→r x xs H Q →
  wpAny (model X.prog X.w) X.A (call (.builtin id) (v :: us)) (EP X pins σ Q) X.xe s
theorem Vals.one:∀ {x:V} {us:List Value},Vals [x] us→∃ u,us=[u]∧RelV x u
 | _,_,.cons r .nil=>⟨_,rfl,r⟩
theorem Vals.zero:∀ {us:List Value},Vals [] us→us=[]
 | _,.nil=>rfl
theorem Vals.dropLast {xs:List V}{us:List Value}(h:Vals xs us):Vals xs.dropLast us.dropLast:=by
 induction h with
 | nil=>exact .nil
 | cons r t ih =>
  cases t with
  | nil=>exact .nil
  | cons q t'=>exact .cons r ih
theorem Vals.reverse {xs:List V}{us:List Value}(h:Vals xs us):Vals xs.reverse us.reverse:=by
 induction h with
 | nil=>exact .nil
 | cons r t ih=>rw[List.reverse_cons,List.reverse_cons];exact Vals.append ih (.cons r .nil)
theorem yhY {α:Type}(l:List α):l.eraseIdx (l.length - 1)=l.dropLast:=by
 induction l with
 | nil=>rfl
 | cons a r ih =>
  cases r with
  | nil=>rfl
  | cons b r =>
   have e:(a :: b :: r).length - 1=((b :: r).length - 1)+1:=by
    have h1:(a :: b :: r).length=r.length+2:=rfl
    have h2:(b :: r).length=r.length+1:=rfl
    omega
   rw[e,List.eraseIdx_cons_succ,ih]
   all_goals rfl
section
variable {X:Cx} {pins:List (Addr×Obj)} {σ:St} {H:Hp} {s:Shared} {l b:Addr} {xs ys zs:List V}
theorem Inv.lset {its its':List Value}{n:Nat}{f:Array Value→Array Value}{t':Nat}(I:Inv X pins σ H s)(hH:H l=some (.lst xs))
  (e:s.heap.get? l=some { cls:=.type "list",data:=.seq its.toArray n }) (hf:f its.toArray=its'.toArray) (hv:Vals ys its') (hz:ys.length≤sizeLine) :
  Inv X pins σ (upd H l (.lst ys)) { s with heap:=s.heap.update l (Obj.mapSeq f),toks:=t' }:=by
 have q:=PySem.IsL.update e f
 rw[hf] at q
 refine I.write (x:=l) (e:=l) (by rw[hH];exact trivial) (.inl rfl) (λb' u hb hu=>(Heap.get?_update_other s.heap (Obj.mapSeq f) (Ne.symm hb)).trans hu) ⟨_,q⟩ ?_
 exact⟨hz,its',_,hv,q⟩
theorem Inv.lnew {its:List Value}{t':Nat}(I:Inv X pins σ H s)(hv:Vals ys its)(hz:ys.length≤sizeLine) :
  Inv X pins σ (upd H s.heap.objs.size (.lst ys)) { s with heap:=s.heap.push { cls:=.type "list",data:=.seq its.toArray },toks:=t' } :=
 I.laid (λ_ _ q=>Heap.get?_push_of_some _ q) (Nat.le_refl _) ⟨hz,its,0,hv,Heap.get?_push_size _ rfl⟩
theorem Inv.fresh (I:Inv X pins σ H s):H s.heap.objs.size=none:=I.hok.fresh (Nat.le_refl _)
theorem Inv.lstM (I:Inv X pins σ H s)(hH:H l=some (.lst xs)):xs.length≤sizeLine∧∃ (its:List Value) (n:Nat),Vals xs its∧xs.length=its.length∧s.heap.get? l=some { cls:=.type "list",data:=.seq its.toArray n }:=by
 obtain⟨z,its,n,r,e⟩:=I.hok l _ hH
 exact⟨z,its,n,r,r.length,e⟩
theorem ylm {n:Nat}(h:n≤sizeLine):Builtin.List.listTooLong n=false:=by
 unfold Builtin.List.listTooLong
 exact decide_eq_false (by omega)
end
section
variable {X:Cx}
def ydl:V→List V→Hp→VK→Prop:=λx vs H Q=>∃ l xs y,x=.ref l∧vs=[y]∧H l=some (.lst xs)∧xs.length < sizeLine∧Q .non (upd H l (.lst (xs++[y])))
theorem yaI:MtM X "list.append" ydl:=by
 intro pins s σ H x vs v us Q I rx rv h
 obtain⟨l,xs,y,rfl,rfl,hH,hz,q⟩:=h
 cases rx
 obtain⟨u,rfl,ru⟩:=rv.one
 obtain⟨z,its,n,r,hl,e⟩:=I.lstM hH
 refine call_meets F.slot_list_append ⟨_,e,rfl⟩ F.entry_list_append (F.args_list_append_2 _ _) (PySem.list_append l its.toArray n u (by rw[List.size_toArray];omega)) ⟨e,?_⟩
 refine⟨.non,_,I.lset (its':=its++[u]) hH e (by simp) (r.append (.cons ru .nil)) ?_,rfl,q⟩
 rw[List.length_append,List.length_singleton]
 omega
def yjz:V→List V→Hp→VK→Prop:=λx vs H Q=>∃ l b xs zs,x=.ref l∧vs=[.ref b]∧H l=some (.lst xs)∧H b=some (.lst zs)∧xs.length+zs.length≤sizeLine∧Q .non (upd H l (.lst (xs++zs)))
theorem yjn:MtM X "list.extend" yjz:=by
 intro pins s σ H x vs v us Q I rx rv h
 obtain⟨l,b,xs,zs,rfl,rfl,hH,hB,hz,q⟩:=h
 cases rx
 obtain⟨u,rfl,ru⟩:=rv.one
 cases ru
 obtain⟨z,its,n,r,hl,e⟩:=I.lstM hH
 obtain⟨z2,its2,n2,r2,hl2,e2⟩:=I.lstM hB
 have hsz:its.toArray.size+its2.toArray.size≤sizeLine:=by rw[List.size_toArray,List.size_toArray];omega
 have hlong:¬ (!its.toArray.isEmpty&&Builtin.List.listTooLong (its.toArray.size+its2.toArray.size))=true:=by
  rw[ylm hsz,Bool.and_false]
  exact Bool.false_ne_true
 refine call_meets F.slot_list_extend ⟨_,e,rfl⟩ F.entry_list_extend (F.args_list_extend_2 _ _)
  (AutoSeq1.list_extend_list_list_0 l its.toArray n b its2.toArray n2 hlong (by rw[List.size_toArray];omega) (by omega)) ⟨e,e2,?_⟩
 refine⟨.non,_,I.lset (its':=its++its2) hH e (by simp) (r.append r2) ?_,rfl,q⟩
 rw[List.length_append]
 omega
def yqL:V→List V→Hp→VK→Prop:=λx vs H Q=>∃ l xs y,x=.ref l∧vs=[]∧H l=some (.lst xs)∧xs[xs.length - 1]?=some y∧Q y (upd H l (.lst xs.dropLast))
theorem ynw:MtM X "list.pop" yqL:=by
 intro pins s σ H x vs v us Q I rx rv h
 obtain⟨l,xs,y,rfl,rfl,hH,hy,q⟩:=h
 cases rx
 have hus:=rv.zero
 subst hus
 obtain⟨z,its,n,r,hl,e⟩:=I.lstM hH
 obtain⟨u,hu,ru⟩:=r.get hy
 have hy':its.toArray[its.toArray.size - 1]?=some u:=by
  show its.toArray[its.length - 1]?=some u
  rw[← Array.getElem?_toList,← hl]
  exact hu
 refine call_meets F.slot_list_pop ⟨_,e,rfl⟩ F.entry_list_pop (F.args_list_pop_1 _) (MeetsSeq.list_pop_last l its.toArray n u hy' (by rw[List.size_toArray];omega)) ⟨e,?_⟩
 refine⟨y,_,I.lset (its':=its.dropLast) hH e ?_ r.dropLast ?_,ru,q⟩
 ·show its.toArray.eraseIdxIfInBounds (its.toArray.size - 1)=its.dropLast.toArray
  rw[List.size_toArray,List.eraseIdxIfInBounds_toArray,yhY]
 ·rw[List.length_dropLast]
  omega
def yqy:R2:=λx y H Q=>∃ l b xs zs,x=.ref l∧y=.ref b∧H l=some (.lst xs)∧H b=some (.lst zs)∧xs.length+zs.length≤sizeLine∧∀ p,H p=none→Q (.ref p) (upd H p (.lst (xs++zs)))
theorem yht:OpR X (binaryOp .Add) yqy:=by
 intro pins s σ H x y v u Q I rx ry h
 obtain⟨l,b,xs,zs,rfl,rfl,hH,hB,hz,q⟩:=h
 cases rx
 cases ry
 obtain⟨z,its,n,r,hl,e⟩:=I.lstM hH
 obtain⟨z2,its2,n2,r2,hl2,e2⟩:=I.lstM hB
 refine PySem.P.add_list e e2 ?_ (by rw[List.size_toArray,List.size_toArray];omega)
 have ea:its.toArray++its2.toArray=(its++its2).toArray:=by simp
 rw[ea]
 exact⟨.ref _,_,I.lnew (t':=s.toks) (r.append r2) (by rw[List.length_append];omega),rfl,q _ I.fresh⟩
end
section
variable {prog:Program} {w:World} {A:Around} {E:Value→Shared→Prop} {s:Shared}
set_option maxRecDepth 100000 in
end
section
variable {X:Cx}
end
end L2
namespace Att
open PySem PySem.W PySem.Calls PyProof.Rows
theorem ydR {P:Params}{h:Heap}:∀ (ns:List Int) (vs:List Value),WellAll P h vs (ns.map WData.int)→IntsAre vs ns:=by
 intro ns
 induction ns with
 | nil =>
  intro vs w
  rw[List.map_nil] at w
  cases w
  exact .nil
 | cons n ns ih =>
  intro vs w
  rw[List.map_cons] at w
  cases w with
  | cons a b =>
   cases a
   exact .cons _ _ (ih _ b)
theorem yjD {l:OpenLaw}{n:Nat}(hn:l.most=some n){P:Params}{h:Heap}{args:List WData}{vals:List Value}
  (hpre:l.row.toRowW.claim.pre args=true) (hwl:WellAll P h vals args) :
  ∃ a vs ns,vals=[Value.ref a]∧args=[WData.list (ns.map WData.int)]∧h.get? a=some { cls:=.type "list",data:=.seq vs.toArray }∧IntsAre vs ns∧ns.length≤n:=by
 have hsh:WShape.hasAll [] args [.list .int]=true:=(pre_splitW hpre).1
 have hc:l.pre.holds [] { args:=args }=true:=(pre_splitW hpre).2
 obtain⟨d,r,rfl,h1,h2⟩:=hasAllW_cons hsh
 obtain rfl:=hasAllW_nil h2
 obtain⟨xs,rfl,h3⟩:=hasW_list h1
 obtain⟨ns,rfl⟩:=items_int h3
 have hlen:ns.length≤n:=by
  unfold OpenLaw.pre at hc
  have h4:(WTm.not (.lt (.lit (.int (n:Int))) (.len (.arg 0)))).holds [] { args:=[.list (ns.map .int)] }=true:=by
   have h4:=(holds_andW hc).1
   rw[hn] at h4
   exact h4
  have h5:=condW_of h4 (w_not (w_lt w_lit (w_len_list (w_arg rfl))))
  rw[List.length_map] at h5
  refine Nat.le_of_not_lt λq=>?_
  have q':(n:Int) < ((ns.length:Nat):Int):=by omega
  first
   | (rw[decide_eq_true q'] at h5;exact absurd h5 (by decide))
   | (simp at h5;omega)
 cases hwl with
 | cons w1 w2 =>
  cases w2
  cases w1 with
  | list ho hall=>exact⟨_,_,ns,rfl,rfl,ho,ydR ns _ hall,hlen⟩
theorem yjb (l:OpenLaw)(args:List WData):l.row.toRowW.claim.post args (.bool true) args=true :=
 postW_of (r:=l.row.toRowW) (X:=(true==true))
  (show WShape.has [] (.bool true) .bool=true by first | rfl | decide | simp[WShape.has,WShape.arms,WShape.armsAll])
  (show(WTm.eq .res (.lit (.bool true))).value [] { args:=args,res:=some (.bool true),after:=args }=some (.bool (true==true)) from w_eq_bool (w_res rfl) w_lit) rfl
section
variable {prog:Program} {w:World} {A:Around} {E:Value→Shared→Prop} {s:Shared} {K:Frag}
end
end Att
namespace L2
open PySem PySem.Spec PyProof.Rows
theorem ygz:∀ {vs:List Value} {ns:List Int},IntsAre vs ns→Vals (ns.map V.int) vs
 | _,_,.nil=>.nil
 | _,_,.cons n t h=>.cons ⟨t,rfl⟩ (ygz h)
def yb1 (s:Stmt):Arguments:=match s with
 | .FunctionDef _ a _ _ _ _ _ _ _ _=>a
 | _=>{ posonlyargs:=[],args:=[],vararg:=none,kwonlyargs:=[],kw_defaults:=[],kwarg:=none,defaults:=[] }
def ybH (s:Stmt):List Stmt:=match s with
 | .FunctionDef _ _ b _ _ _ _ _ _ _=>b
 | _=>[]
def yac (s:Stmt):Scope:=match s with
 | .FunctionDef _ _ _ _ _ _ sc _ _ _=>sc
 | _=>{ kind:=.function,names:=[],isGenerator:=false,isCoroutine:=false }
abbrev CX0:CXT:=λ_ _ _ _ _ _=>False
abbrev E0:XK:=λ_ _ _=>False
theorem yaD {X:Cx}:ydV CX0 X E0:=λ_ _ _ _ _ _ _ h=>h.elim
structure Fun (K:PySem.W.Frag) (x qual:Str) (st:Stmt) (f:Addr) (fd:FuncData):Prop where
 ex:∃ (oc:Value) (od:Option Addr) (kV doc pm:Value) (an:Option Addr) (cdv ct:Value) (osl:Array (Option Value)),
  fd=PySem.W.fnOf x qual (yb1 st) (ybH st) (yac st) .none kV doc pm an cdv ct∧K.lookup f=some ⟨oc,od,.func fd,osl⟩∧PySem.W.codeIn K cdv qual=true
 kp:PySem.W.keepIn K (.ref f)=true
section
variable {P:Program} {w:World} {K:PySem.W.Frag} {mg:Str→Option Value} {base:Heap}
theorem Fun.ok {x qual:Str}{st:Stmt}{f:Addr}{fd:FuncData}{N ps:List Str}{k:Nat}{sp:Sp}(F:Fun K x qual st f fd)(S:yat N ps (yac st))(len:∀ vs H Q E,sp vs H Q E→vs.length=ps.length)
  (hbody:∀ (cdv:Value) (A:Around) (outer:List Env) (s:Shared) (H:Hp) (vs:List V) (Q:VK) (E:XK),Room k (A.deeper (envOfC qual (yac st) s.heap.objs.size f cdv))→sp vs H Q E →
   ∃ t,PSs (ybz CX0 P w K mg base N qual (yac st) f cdv A outer s H E).nox (ybH st) t∧t { nx:=λ_ H'=>Q .non H',rt:=Q } (start N vs) H):FnOk P w K mg base CX0 (k+1) f fd ps sp:=by
 obtain⟨oc,od,kV,doc,pm,an,cdv,ct,osl,rfl,lk,hcd⟩:=F.ex
 refine you lk hcd S len λA outer s H vs Q E hr hsp=>?_
 obtain⟨t,h,q⟩:=hbody cdv A outer s H vs Q E hr hsp
 exact⟨t,h.nox,q⟩
theorem Fun.binds {x qual:Str}{st:Stmt}{f:Addr}{fd:FuncData}{ps:List Str}(F:Fun K x qual st f fd)
  (h:∀ (kV doc pm:Value) (an:Option Addr) (cdv ct:Value) (us:List Value),us.length=ps.length→bindArgs (PySem.W.fnOf x qual (yb1 st) (ybH st) (yac st) .none kV doc pm an cdv ct) ⟨us,[]⟩=pure (ps.zip us)):Binds K fd ps []:=by
 obtain⟨oc,od,kV,doc,pm,an,cdv,ct,osl,rfl,lk,hcd⟩:=F.ex
 exact .all (h kV doc pm an cdv ct)
theorem yhp {x qual:Str}{st:Stmt}{f:Addr}{oc:Value}{od an:Option Addr}{osl:Array (Option Value)}{kV doc pm cdv ct:Value}(l:K.lookup f=some ⟨oc,od,.func (PySem.W.fnOf x qual (yb1 st) (ybH st) (yac st) .none kV doc pm an cdv ct),osl⟩)
  (c:PySem.W.codeIn K cdv qual=true) (k:PySem.W.keepIn K (.ref f)=true):Fun K x qual st f (PySem.W.fnOf x qual (yb1 st) (ybH st) (yac st) .none kV doc pm an cdv ct):=⟨⟨oc,od,kV,doc,pm,an,cdv,ct,osl,rfl,l,c⟩,k⟩
end
theorem yam {n:Nat}(h:n≤1000):n < sizeLine:=Nat.lt_of_le_of_lt h (by decide)
section
variable {X:Cx}
theorem pv (i:Nat){x:Str}{pos:Pos}(hN:X.N[i]?=some x:=by rfl)(hv:Vis X.env.scope x:=by first | exact Or.inl rfl | exact Or.inr (Or.inl rfl) | exact Or.inr (Or.inr rfl))(hd:(x==("__debug__" : Str))=false:=by decide)
  (hcd:(x==("__classdict__" : Str))=false:=by decide):PE X (.Name x pos) (ycv i):=ym8 hN hv hd hcd
end
def Same (H H':Hp):Prop:=∀ b o,H b=some o→H' b=some o
theorem Same.refl (H:Hp):Same H H:=λ_ _ h=>h
theorem Same.trans {H H1 H2:Hp}(a:Same H H1)(b:Same H1 H2):Same H H2:=λc o h=>b c o (a c o h)
theorem Same.free {H H':Hp}(e:Same H H'){l:Addr}(h:H' l=Option.none):H l=Option.none:=by
 cases q:H l with
 | none=>rfl
 | some o =>
  rw[e l o q] at h
  cases h
theorem Same.seq {K:PySem.W.Frag}{H H':Hp}{a:Addr}{xs:List V}(e:Same H H')(h:SqL K H a xs):SqL K H' a xs:=by
 rcases h with (h | ⟨o,h⟩) | h
 ·exact .inl (.inl (e _ _ h))
 ·exact .inl (.inr ⟨o,e _ _ h⟩)
 ·exact .inr h
section
variable {X:Cx} {pins:List (Addr×Obj)} {σ:St} {H:Hp} {s:Shared} {a:Addr} {y v:V} {u r:Value} {o:Option V} {A:Around} {E:Value→Shared→Prop}
theorem Inv.big (I:Inv X pins σ H s):sysModules < s.heap.objs.size:=by
 have h:mainGlobals < s.heap.objs.size:=(I.mod.glob.keeps I.bk).lt
 exact Nat.lt_trans (by decide) h
end
theorem ylh {P:Program}{w:World}{H:Hp}(h:Heap)(hb:sysModules < h.objs.size):ObjOk P w H (h.push { cls:=.type "dict",data:=.dict #[] }) h.objs.size (.dK []) :=
 ⟨Nat.zero_le _,beq_eq_false_iff_ne.mpr (Ne.symm (Nat.ne_of_lt hb)),[],.nil,Heap.DictOf.new h⟩
theorem ykx {P:Program}{w:World}{H:Hp}(h:Heap)(hb:sysModules < h.objs.size):ObjOk P w H (h.push { cls:=.type "dict",data:=.dict #[] }) h.objs.size (.dT []) :=
 ⟨Nat.zero_le _,beq_eq_false_iff_ne.mpr (Ne.symm (Nat.ne_of_lt hb)),[],.nil,_,#[],0,Heap.get?_push_size _ rfl,⟨rfl,rfl,rfl⟩,rfl,rfl,List.nodup_nil⟩
def ylI:TE:=λ_ H Q=>∀ p,H p=none→Q (.ref p) (upd H p (.dK []))
def ylL:TE:=λ_ H Q=>∀ p,H p=none→Q (.ref p) (upd H p (.dT []))
section
variable {X:Cx} {pos:Pos}
theorem yha:PE X (.Dict [] [] pos) ylI:=λpins s σ H Q I h =>
 wpAny_Dict_empty ⟨.ref s.heap.objs.size,_,I.laid (a:=s.heap.objs.size) (o:=.dK []) (t':=s.toks) (λ_ _ q=>Heap.get?_push_of_some _ q) (Nat.le_refl _) (ylh s.heap I.big),rfl,h _ (I.hok.fresh (Nat.le_refl _))⟩
theorem ye7:PE X (.Dict [] [] pos) ylL:=λpins s σ H Q I h =>
 wpAny_Dict_empty ⟨.ref s.heap.objs.size,_,I.laid (a:=s.heap.objs.size) (o:=.dT []) (t':=s.toks) (λ_ _ q=>Heap.get?_push_of_some _ q) (Nat.le_refl _) (ykx s.heap I.big),rfl,h _ (I.hok.fresh (Nat.le_refl _))⟩
end
section
variable {X:Cx}
def yqR (K:PySem.W.Frag):List V→Hp→VK→Prop:=λxs H Q=>∃ x n t b,xs=[x,.ty n]∧yfm K H x t∧PySem.W.kitOne K t (.type n)=some b∧Q (.bl b) H
theorem yln:ycd X (.builtin "isinstance") (yqR X.K):=by
 intro pins s σ H xs us Q I r h
 obtain⟨x,n,t,b,rfl,ty,e,q⟩:=h
 obtain⟨u,v,rfl,ru,rv⟩:=yji r
 obtain rfl:v=Value.type n:=rv
 exact yfH I ru ty e λtk=>⟨.bl b,H,I.tok tk,rfl,q⟩
theorem ygW {K:PySem.W.Frag}:PySem.W.kitOne K (.type "int") (.type "int")=some true:=by kernel_rfl
theorem yfV {K:PySem.W.Frag}:PySem.W.kitOne K (.type "int") (.type "bool")=some false:=by kernel_rfl
theorem ygC {K:PySem.W.Frag}:PySem.W.kitOne K (.type "int") (.type "str")=some false:=by kernel_rfl
theorem yfY {K:PySem.W.Frag}:PySem.W.kitOne K (.type "int") (.type "list")=some false:=by kernel_rfl
theorem yfc {K:PySem.W.Frag}:PySem.W.kitOne K (.type "int") (.type "tuple")=some false:=by kernel_rfl
theorem yf5 {K:PySem.W.Frag}:PySem.W.kitOne K (.type "bool") (.type "int")=some true:=by kernel_rfl
theorem yfs {K:PySem.W.Frag}:PySem.W.kitOne K (.type "bool") (.type "bool")=some true:=by kernel_rfl
theorem yfE {K:PySem.W.Frag}:PySem.W.kitOne K (.type "bool") (.type "str")=some false:=by kernel_rfl
theorem yfr {K:PySem.W.Frag}:PySem.W.kitOne K (.type "bool") (.type "list")=some false:=by kernel_rfl
theorem yen {K:PySem.W.Frag}:PySem.W.kitOne K (.type "bool") (.type "tuple")=some false:=by kernel_rfl
theorem ygG {K:PySem.W.Frag}:PySem.W.kitOne K (.type "str") (.type "int")=some false:=by kernel_rfl
theorem yf8 {K:PySem.W.Frag}:PySem.W.kitOne K (.type "str") (.type "bool")=some false:=by kernel_rfl
theorem yg5 {K:PySem.W.Frag}:PySem.W.kitOne K (.type "str") (.type "str")=some true:=by kernel_rfl
theorem ygq {K:PySem.W.Frag}:PySem.W.kitOne K (.type "str") (.type "list")=some false:=by kernel_rfl
theorem yfv {K:PySem.W.Frag}:PySem.W.kitOne K (.type "str") (.type "tuple")=some false:=by kernel_rfl
theorem yfU {K:PySem.W.Frag}:PySem.W.kitOne K (.type "NoneType") (.type "int")=some false:=by kernel_rfl
theorem yeU {K:PySem.W.Frag}:PySem.W.kitOne K (.type "NoneType") (.type "bool")=some false:=by kernel_rfl
theorem yfC {K:PySem.W.Frag}:PySem.W.kitOne K (.type "NoneType") (.type "str")=some false:=by kernel_rfl
theorem yfa {K:PySem.W.Frag}:PySem.W.kitOne K (.type "NoneType") (.type "list")=some false:=by kernel_rfl
theorem yet {K:PySem.W.Frag}:PySem.W.kitOne K (.type "NoneType") (.type "tuple")=some false:=by kernel_rfl
theorem ygs {K:PySem.W.Frag}:PySem.W.kitOne K (.type "list") (.type "int")=some false:=by kernel_rfl
theorem yfd {K:PySem.W.Frag}:PySem.W.kitOne K (.type "list") (.type "bool")=some false:=by kernel_rfl
theorem yfK {K:PySem.W.Frag}:PySem.W.kitOne K (.type "list") (.type "str")=some false:=by kernel_rfl
theorem ye1 {K:PySem.W.Frag}:PySem.W.kitOne K (.type "list") (.type "list")=some true:=by kernel_rfl
theorem yeo {K:PySem.W.Frag}:PySem.W.kitOne K (.type "list") (.type "tuple")=some false:=by kernel_rfl
theorem yfp {K:PySem.W.Frag}:PySem.W.kitOne K (.type "tuple") (.type "int")=some false:=by kernel_rfl
theorem yeq {K:PySem.W.Frag}:PySem.W.kitOne K (.type "tuple") (.type "bool")=some false:=by kernel_rfl
theorem yfx {K:PySem.W.Frag}:PySem.W.kitOne K (.type "tuple") (.type "str")=some false:=by kernel_rfl
theorem yer {K:PySem.W.Frag}:PySem.W.kitOne K (.type "tuple") (.type "list")=some false:=by kernel_rfl
theorem ydK {K:PySem.W.Frag}:PySem.W.kitOne K (.type "tuple") (.type "tuple")=some true:=by kernel_rfl
theorem yf3 {K:PySem.W.Frag}:PySem.W.kitOne K (.type "dict") (.type "int")=some false:=by kernel_rfl
theorem yeJ {K:PySem.W.Frag}:PySem.W.kitOne K (.type "dict") (.type "bool")=some false:=by kernel_rfl
theorem yf6 {K:PySem.W.Frag}:PySem.W.kitOne K (.type "dict") (.type "str")=some false:=by kernel_rfl
theorem yfg {K:PySem.W.Frag}:PySem.W.kitOne K (.type "dict") (.type "list")=some false:=by kernel_rfl
theorem yew {K:PySem.W.Frag}:PySem.W.kitOne K (.type "dict") (.type "tuple")=some false:=by kernel_rfl
inductive Knd | non | bl | int | str | lst | tup | dct
 deriving DecidableEq
def Knd.name:Knd→String
 | .non => "NoneType" | .bl => "bool" | .int => "int" | .str => "str" | .lst => "list" | .tup => "tuple" | .dct => "dict"
inductive KndOf (H:Hp):V→Knd→Prop where
 | non:KndOf H .non .non
 | bl (b:Bool):KndOf H (.bl b) .bl
 | int (i:Int):KndOf H (.int i) .int
 | str (x:Str):KndOf H (.str x) .str
 | lst {a:Addr} {xs:List V} (e:H a=some (.lst xs)):KndOf H (.ref a) .lst
 | tup {a:Addr} {xs:List V} (e:H a=some (.tup xs)):KndOf H (.ref a) .tup
 | dct {a:Addr} {kvs:List (Key×V)} (e:H a=some (.dK kvs)):KndOf H (.ref a) .dct
theorem KndOf.ty {K:PySem.W.Frag}{H:Hp}{x:V}{k:Knd}(h:KndOf H x k):yfm K H x (.type k.name):=by
 cases h with
 | non=>exact .non
 | bl b=>exact .bl b
 | int i=>exact .int i
 | str x=>exact .str x
 | lst e=>exact .lst e
 | tup e=>exact .tup e
 | dct e=>exact .dK e
def Knd.isA:Knd→String→Bool
 | .int, "int"=> true
 | .bl, "int"=> true
 | .bl, "bool"=> true
 | .str, "str"=> true
 | .lst, "list"=> true
 | .tup, "tuple"=> true
 | .dct, "dict"=> true
 | _,_=>false
def yg3 (n:String):Prop:=n="int" ∨ n="bool" ∨ n="str" ∨ n="list" ∨ n="tuple"
theorem yip {K:PySem.W.Frag}(k:Knd){n:String}(h:yg3 n):PySem.W.kitOne K (.type k.name) (.type n)=some (k.isA n):=by
 rcases h with rfl | rfl | rfl | rfl | rfl<;>cases k
 ·exact yfU
 ·exact yf5
 ·exact ygW
 ·exact ygG
 ·exact ygs
 ·exact yfp
 ·exact yf3
 ·exact yeU
 ·exact yfs
 ·exact yfV
 ·exact yf8
 ·exact yfd
 ·exact yeq
 ·exact yeJ
 ·exact yfC
 ·exact yfE
 ·exact ygC
 ·exact yg5
 ·exact yfK
 ·exact yfx
 ·exact yf6
 ·exact yfa
 ·exact yfr
 ·exact yfY
 ·exact ygq
 ·exact ye1
 ·exact yer
 ·exact yfg
 ·exact yet
 ·exact yen
 ·exact yfc
 ·exact yfv
 ·exact yeo
 ·exact ydK
 ·exact yew
def yqC:List V→Hp→VK→Prop:=λxs H Q=>∃ x n k,xs=[x,.ty n]∧yg3 n∧KndOf H x k∧Q (.bl (k.isA n)) H
theorem ycn:ycd X (.builtin "isinstance") yqC:=by
 intro pins s σ H xs us Q I r h
 obtain⟨x,n,k,rfl,hn,hk,q⟩:=h
 exact yln pins s σ H _ us Q I r ⟨x,n,_,_,rfl,hk.ty,yip k hn,q⟩
end
inductive Tr where
 | vl (v:V) | ls (ts:List Tr) | tp (ts:List Tr)
mutual
def eqT:Tr→Tr→Bool
 | .vl x,.vl y=>eqV x y
 | .ls xs,.ls ys=>eqTs xs ys
 | .tp xs,.tp ys=>eqTs xs ys
 | _,_=>false
def eqTs:List Tr→List Tr→Bool
 | [],[]=>true
 | x :: xs,y :: ys=>eqT x y&&eqTs xs ys
 | _,_=>false
end
mutual
def Rep (K:PySem.W.Frag)(H:Hp):V→Tr→Prop
 | v,.vl w=>v=w∧ycg w=true
 | v,.ls ts=>∃ a xs,v=.ref a∧SqL K H a xs∧Reps K H xs ts
 | v,.tp ts=>∃ a xs,v=.ref a∧SqT K H a xs∧Reps K H xs ts
def Reps (K:PySem.W.Frag)(H:Hp):List V→List Tr→Prop
 | xs,[]=>xs=[]
 | xs,t :: ts=>∃ x r,xs=x :: r∧Rep K H x t∧Reps K H r ts
end
mutual
def dep:Tr→Nat
 | .vl _=>0
 | .ls ts=>deps ts+1
 | .tp ts=>deps ts+1
def deps:List Tr→Nat
 | []=>0
 | t :: ts=>max (dep t) (deps ts)
end
def yiw (ts us:List Tr)(j:Nat):Bool:=match ts[j]?,us[j]? with
 | some t,some u=>eqT t u
 | _,_=>true
theorem yfb:∀ {ts us:List Tr},ts.length=us.length→eqTs ts us=(List.range ts.length).all (yiw ts us)
 | [],[],_=>rfl
 | t :: ts,u :: us,h=>by
  have h':ts.length=us.length:=by simpa using h
  rw[eqTs,List.length_cons,List.range_succ_eq_map,List.all_cons,List.all_map,yfb h']
  rfl
 | [],_ :: _,h=>by simp at h
 | _ :: _,[],h=>by simp at h
theorem yeN:∀ {ts us:List Tr},ts.length≠us.length→eqTs ts us=false
 | [],[],h=>absurd rfl h
 | t :: ts,u :: us,h=>by
  have h':ts.length≠us.length:=λz=>h (by simp[z])
  rw[eqTs,yeN h',Bool.and_false]
 | [],_ :: _,_=>rfl
 | _ :: _,[],_=>rfl
theorem Reps.length {K:PySem.W.Frag}{H:Hp}:∀ {xs:List V} {ts:List Tr},Reps K H xs ts→xs.length=ts.length
 | xs,[],h=>by rw[Reps] at h;subst h;rfl
 | xs,t :: ts,h=>by
  rw[Reps] at h
  obtain⟨x,r,rfl,_,h⟩:=h
  rw[List.length_cons,List.length_cons,Reps.length h]
theorem Reps.get {K:PySem.W.Frag}{H:Hp}:∀ {xs:List V} {ts:List Tr} {i:Nat} {x:V},Reps K H xs ts→xs[i]?=some x→∃ t,ts[i]?=some t∧Rep K H x t
 | xs,[],i,x,h,e=>by rw[Reps] at h;subst h;simp at e
 | xs,t :: ts,0,x,h,e=>by
  rw[Reps] at h
  obtain⟨y,r,rfl,hy,h⟩:=h
  simp at e
  subst e
  exact⟨t,rfl,hy⟩
 | xs,t :: ts,i+1,x,h,e=>by
  rw[Reps] at h
  obtain⟨y,r,rfl,hy,h⟩:=h
  obtain⟨u,h1,h2⟩:=Reps.get (i:=i) h (by simpa using e)
  exact⟨u,by simpa using h1,h2⟩
theorem yjk:∀ {ts:List Tr} {i:Nat} {t:Tr},ts[i]?=some t→dep t≤deps ts
 | [],_,_,e=>by simp at e
 | t :: ts,0,u,e=>by
  simp at e
  subst e
  rw[deps]
  exact Nat.le_max_left _ _
 | t :: ts,i+1,u,e=>by
  rw[deps]
  exact Nat.le_trans (yjk (ts:=ts) (i:=i) (by simpa using e)) (Nat.le_max_right _ _)
theorem yjI (x:V)(us:List Tr):eqT (.vl x) (.ls us)=false:=by simp[eqT]
theorem yjg (x:V)(us:List Tr):eqT (.vl x) (.tp us)=false:=by simp[eqT]
theorem yjV (x:V)(us:List Tr):eqT (.ls us) (.vl x)=false:=by simp[eqT]
theorem yis (x:V)(us:List Tr):eqT (.tp us) (.vl x)=false:=by simp[eqT]
theorem yiE (ts us:List Tr):eqT (.ls ts) (.tp us)=false:=by simp[eqT]
theorem yj6 (ts us:List Tr):eqT (.tp ts) (.ls us)=false:=by simp[eqT]
theorem ykF {v:V}(f:ycg v=true):eqV v v=true:=by
 cases v<;>first | (simp[ycg] at f;done) | rfl | (simp[eqV];done)
section
variable {X:Cx} {pins:List (Addr×Obj)} {σ:St} {H:Hp} {s:Shared}
theorem Inv.apart (I:Inv X pins σ H s){a:Addr}{xs ys:List V}(h:SqL X.K H a xs)(h':SqT X.K H a ys):False:=by
 obtain⟨its,_,p,_⟩:=I.list h
 obtain⟨its',_,p',_⟩:=I.tuple h'
 exact SeqAt.ne_of_list_tuple p.isList p' rfl
mutual
theorem yhz (I:Inv X pins σ H s):∀ (t u:Tr) (x:V),Rep X.K H x t→Rep X.K H x u→eqT t u=true
 | .vl v,.vl w,x,h1,h2=>by
  rw[Rep] at h1
  rw[Rep] at h2
  obtain⟨rfl,f⟩:=h1
  obtain⟨rfl,_⟩:=h2
  rw[eqT]
  exact ykF f
 | .vl v,.ls us,x,h1,h2=>by
  rw[Rep] at h1
  rw[Rep] at h2
  obtain⟨rfl,f⟩:=h1
  obtain⟨a,xs,rfl,_⟩:=h2
  cases f
 | .vl v,.tp us,x,h1,h2=>by
  rw[Rep] at h1
  rw[Rep] at h2
  obtain⟨rfl,f⟩:=h1
  obtain⟨a,xs,rfl,_⟩:=h2
  cases f
 | .ls ts,.vl v,x,h1,h2=>by
  rw[Rep] at h1
  rw[Rep] at h2
  obtain⟨rfl,f⟩:=h2
  obtain⟨a,xs,rfl,_⟩:=h1
  cases f
 | .tp ts,.vl v,x,h1,h2=>by
  rw[Rep] at h1
  rw[Rep] at h2
  obtain⟨rfl,f⟩:=h2
  obtain⟨a,xs,rfl,_⟩:=h1
  cases f
 | .ls ts,.ls us,x,h1,h2=>by
  rw[Rep] at h1
  rw[Rep] at h2
  obtain⟨a,xs,rfl,hx,hs⟩:=h1
  obtain⟨b,ys,e,hy,hu⟩:=h2
  cases e
  have e:=I.list_inj hx hy
  subst e
  rw[eqT]
  exact reps_same I ts us xs hs hu
 | .tp ts,.tp us,x,h1,h2=>by
  rw[Rep] at h1
  rw[Rep] at h2
  obtain⟨a,xs,rfl,hx,hs⟩:=h1
  obtain⟨b,ys,e,hy,hu⟩:=h2
  cases e
  have e:=I.tuple_inj hx hy
  subst e
  rw[eqT]
  exact reps_same I ts us xs hs hu
 | .ls ts,.tp us,x,h1,h2=>by
  rw[Rep] at h1
  rw[Rep] at h2
  obtain⟨a,xs,rfl,hx,hs⟩:=h1
  obtain⟨b,ys,e,hy,hu⟩:=h2
  cases e
  exact(I.apart hx hy).elim
 | .tp ts,.ls us,x,h1,h2=>by
  rw[Rep] at h1
  rw[Rep] at h2
  obtain⟨a,xs,rfl,hx,hs⟩:=h1
  obtain⟨b,ys,e,hy,hu⟩:=h2
  cases e
  exact(I.apart hy hx).elim
theorem reps_same (I:Inv X pins σ H s):∀ (ts us:List Tr) (xs:List V),Reps X.K H xs ts→Reps X.K H xs us→eqTs ts us=true
 | [],[],_,_,_=>by rw[eqTs]
 | [],u :: us,xs,h1,h2=>by
  rw[Reps] at h1
  rw[Reps] at h2
  obtain⟨x,r,e,_⟩:=h2
  rw[h1] at e
  cases e
 | t :: ts,[],xs,h1,h2=>by
  rw[Reps] at h1
  rw[Reps] at h2
  obtain⟨x,r,e,_⟩:=h1
  rw[h2] at e
  cases e
 | t :: ts,u :: us,xs,h1,h2=>by
  rw[Reps] at h1
  rw[Reps] at h2
  obtain⟨x,r,rfl,hx,hr⟩:=h1
  obtain⟨y,q,e,hy,hq⟩:=h2
  cases e
  rw[eqTs,yhz I t u x hx hy,reps_same I ts us r hr hq]
  rfl
end
theorem ynH {A:Around}{y x:V}{u v:Value}(ry:RelV y u)(rx:RelV x v)(fy:ycg y=true)(fx:ycg x=true):SeqAt.RcAt A s u v (eqV y x):=by
 cases y with
 | non =>
  cases ry
  cases x with
  | non=>cases rx;exact SeqAt.RcAt.none_none
  | bl b=>cases rx;exact SeqAt.RcAt.none_bool b
  | int b=>obtain⟨t,rfl⟩:=rx;exact SeqAt.RcAt.none_int b t
  | str b=>obtain⟨t,rfl⟩:=rx;exact SeqAt.RcAt.none_str b t
  | _=>exact absurd (show false=true from fx) Bool.false_ne_true
 | bl a =>
  cases ry
  cases x with
  | non=>cases rx;exact SeqAt.RcAt.bool_none a
  | bl b=>cases rx;exact SeqAt.RcAt.bool_bool a b
  | int b=>obtain⟨t,rfl⟩:=rx;exact SeqAt.RcAt.bool_int a b t
  | str b=>obtain⟨t,rfl⟩:=rx;exact SeqAt.RcAt.bool_str a b t
  | _=>exact absurd (show false=true from fx) Bool.false_ne_true
 | int a =>
  obtain⟨t',rfl⟩:=ry
  cases x with
  | non=>cases rx;exact SeqAt.RcAt.int_none a t'
  | bl b=>cases rx;exact SeqAt.RcAt.int_bool a t' b
  | int b=>obtain⟨t,rfl⟩:=rx;exact SeqAt.RcAt.int_int a t' b t
  | str b=>obtain⟨t,rfl⟩:=rx;exact SeqAt.RcAt.int_str a t' b t
  | _=>exact absurd (show false=true from fx) Bool.false_ne_true
 | str a =>
  obtain⟨t',rfl⟩:=ry
  cases x with
  | non=>cases rx;exact SeqAt.RcAt.str_none a t'
  | bl b=>cases rx;exact SeqAt.RcAt.str_bool a t' b
  | int b=>obtain⟨t,rfl⟩:=rx;exact SeqAt.RcAt.str_int a t' b t
  | str b=>obtain⟨t,rfl⟩:=rx;exact SeqAt.RcAt.str_str a t' b t
  | _=>exact absurd (show false=true from fx) Bool.false_ne_true
 | _=>exact absurd (show false=true from fy) Bool.false_ne_true
theorem ykt {A:Around}{y x:V}{u v:Value}(ry:RelV y u)(rx:RelV x v)(fy:ycg y=true)(fx:ycg x=true):SeqAt.RcNeAt A s u v (!eqV y x):=by
 cases y with
 | non =>
  cases ry
  cases x with
  | non=>cases rx;exact SeqAt.RcNeAt.none_none
  | bl b=>cases rx;exact SeqAt.RcNeAt.none_bool b
  | int b=>obtain⟨t,rfl⟩:=rx;exact SeqAt.RcNeAt.none_int b t
  | str b=>obtain⟨t,rfl⟩:=rx;exact SeqAt.RcNeAt.none_str b t
  | _=>exact absurd (show false=true from fx) Bool.false_ne_true
 | bl a =>
  cases ry
  cases x with
  | non=>cases rx;exact SeqAt.RcNeAt.bool_none a
  | bl b=>cases rx;exact SeqAt.RcNeAt.bool_bool a b
  | int b=>obtain⟨t,rfl⟩:=rx;exact SeqAt.RcNeAt.bool_int a b t
  | str b=>obtain⟨t,rfl⟩:=rx;exact SeqAt.RcNeAt.bool_str a b t
  | _=>exact absurd (show false=true from fx) Bool.false_ne_true
 | int a =>
  obtain⟨t',rfl⟩:=ry
  cases x with
  | non=>cases rx;exact SeqAt.RcNeAt.int_none a t'
  | bl b=>cases rx;exact SeqAt.RcNeAt.int_bool a t' b
  | int b=>obtain⟨t,rfl⟩:=rx;exact SeqAt.RcNeAt.int_int a t' b t
  | str b=>obtain⟨t,rfl⟩:=rx;exact SeqAt.RcNeAt.int_str a t' b t
  | _=>exact absurd (show false=true from fx) Bool.false_ne_true
 | str a =>
  obtain⟨t',rfl⟩:=ry
  cases x with
  | non=>cases rx;exact SeqAt.RcNeAt.str_none a t'
  | bl b=>cases rx;exact SeqAt.RcNeAt.str_bool a t' b
  | int b=>obtain⟨t,rfl⟩:=rx;exact SeqAt.RcNeAt.str_int a t' b t
  | str b=>obtain⟨t,rfl⟩:=rx;exact SeqAt.RcNeAt.str_str a t' b t
  | _=>exact absurd (show false=true from fx) Bool.false_ne_true
 | _=>exact absurd (show false=true from fy) Bool.false_ne_true
def yir (A:Around)(s:Shared)(ts us:List Tr)(its its':List Value):Prop :=
 ∀ j (h1:j < its.toArray.size) (h2:j < its'.toArray.size),SeqAt.EqAt A s its.toArray[j] its'.toArray[j] (yiw ts us j)
theorem yl1 {n m:Nat}{e:Nat→Bool}{ts us:List Tr}(hn:n=ts.length)(hm:m=us.length)(he:e=yiw ts us):((List.range (min n m)).all e&&n==m)=eqTs ts us:=by
 subst hn hm he
 by_cases h:ts.length=us.length
 ·rw[yfb h,h,Nat.min_self]
  simp
 ·rw[yeN h]
  have:(ts.length==us.length)=false:=by simpa using h
  rw[this,Bool.and_false]
theorem ynk (I:Inv X pins σ H s)(A:Around)(t u:Tr)(x y:V)(v w:Value)(hx:Rep X.K H x t)(hy:Rep X.K H y u)(rx:RelV x v)(ry:RelV y w)(hu:A.units+dep t < cLine)(hu':A.units+dep u < cLine)
  (ih:∀ ts us xs ys its its',(t=.ls ts∧u=.ls us∨t=.tp ts∧u=.tp us)→Reps X.K H xs ts→Reps X.K H ys us→Vals xs its→Vals ys its'→yir A.in1 s ts us its its') :
  SeqAt.RcAt A s v w (eqT t u)∧SeqAt.RcNeAt A s v w (!eqT t u):=by
 cases t with
 | vl p =>
  rw[Rep] at hx
  obtain⟨rfl,fx⟩:=hx
  cases u with
  | vl q =>
   rw[Rep] at hy
   obtain⟨rfl,fy⟩:=hy
   rw[eqT]
   exact⟨ynH rx ry fx fy,ykt rx ry fx fy⟩
  | ls us =>
   rw[Rep] at hy
   obtain⟨b,ys,rfl,hb,_⟩:=hy
   cases ry
   obtain⟨its,_,p,_⟩:=I.list hb
   have hA:A.units < cLine:=by omega
   rw[yjI]
   cases x with
   | non=>cases rx;exact⟨.none_list p.isList hA,.none_list p.isList hA⟩
   | bl c=>cases rx;exact⟨.bool_list c p.isList hA,.bool_list c p.isList hA⟩
   | int c=>obtain⟨t,rfl⟩:=rx;exact⟨.int_list c t p.isList hA,.int_list c t p.isList hA⟩
   | str c=>obtain⟨t,rfl⟩:=rx;exact⟨.str_list c t p.isList hA,.str_list c t p.isList hA⟩
   | _=>exact absurd (show false=true from fx) Bool.false_ne_true
  | tp us =>
   rw[Rep] at hy
   obtain⟨b,ys,rfl,hb,_⟩:=hy
   cases ry
   obtain⟨its,_,p,_⟩:=I.tuple hb
   have hA:A.units < cLine:=by omega
   rw[yjg]
   cases x with
   | non=>cases rx;exact⟨.none_tuple p hA,.none_tuple p hA⟩
   | bl c=>cases rx;exact⟨.bool_tuple c p hA,.bool_tuple c p hA⟩
   | int c=>obtain⟨t,rfl⟩:=rx;exact⟨.int_tuple c t p hA,.int_tuple c t p hA⟩
   | str c=>obtain⟨t,rfl⟩:=rx;exact⟨.str_tuple c t p hA,.str_tuple c t p hA⟩
   | _=>exact absurd (show false=true from fx) Bool.false_ne_true
 | ls ts =>
  rw[Rep] at hx
  obtain⟨a,xs,rfl,ha,hs⟩:=hx
  cases rx
  obtain⟨its,vr,p,_⟩:=I.list ha
  have hA:A.units < cLine:=by omega
  cases u with
  | vl q =>
   rw[Rep] at hy
   obtain⟨rfl,fy⟩:=hy
   rw[yjV]
   cases y with
   | non=>cases ry;exact⟨.list_none p.isList hA,.list_none p.isList hA⟩
   | bl c=>cases ry;exact⟨.list_bool c p.isList hA,.list_bool c p.isList hA⟩
   | int c=>obtain⟨t,rfl⟩:=ry;exact⟨.list_int c t p.isList hA,.list_int c t p.isList hA⟩
   | str c=>obtain⟨t,rfl⟩:=ry;exact⟨.list_str c t p.isList hA,.list_str c t p.isList hA⟩
   | _=>exact absurd (show false=true from fy) Bool.false_ne_true
  | ls us =>
   rw[Rep] at hy
   obtain⟨b,ys,rfl,hb,hs'⟩:=hy
   cases ry
   obtain⟨its',vr',p',_⟩:=I.list hb
   have l1:its.toArray.size=ts.length:=by rw[List.size_toArray,← vr.length,hs.length]
   have l2:its'.toArray.size=us.length:=by rw[List.size_toArray,← vr'.length,hs'.length]
   rw[eqT]
   by_cases hl:ts.length=us.length
   ·have hsz:its.toArray.size=its'.toArray.size:=by rw[l1,l2,hl]
    have q:=ih ts us xs ys its its' (.inl ⟨rfl,rfl⟩) hs hs' vr vr'
    rw[yfb hl,← l1]
    exact⟨.lists p.isList p'.isList hsz hA q,.lists p.isList p'.isList hsz hA q⟩
   ·have hsz:(its.toArray.size != its'.toArray.size)=true:=by rw[l1,l2];simpa using hl
    rw[yeN hl]
    exact⟨.lists_lengths p.isList p'.isList hsz hA,.lists_lengths p.isList p'.isList hsz hA⟩
  | tp us =>
   rw[Rep] at hy
   obtain⟨b,ys,rfl,hb,hs'⟩:=hy
   cases ry
   obtain⟨its',vr',p',_⟩:=I.tuple hb
   rw[yiE]
   exact⟨.list_tuple p.isList p' hA,.list_tuple p.isList p' hA⟩
 | tp ts =>
  rw[Rep] at hx
  obtain⟨a,xs,rfl,ha,hs⟩:=hx
  cases rx
  obtain⟨its,vr,p,_⟩:=I.tuple ha
  have hA:A.units < cLine:=by omega
  cases u with
  | vl q =>
   rw[Rep] at hy
   obtain⟨rfl,fy⟩:=hy
   rw[yis]
   cases y with
   | non=>cases ry;exact⟨.tuple_none p hA,.tuple_none p hA⟩
   | bl c=>cases ry;exact⟨.tuple_bool c p hA,.tuple_bool c p hA⟩
   | int c=>obtain⟨t,rfl⟩:=ry;exact⟨.tuple_int c t p hA,.tuple_int c t p hA⟩
   | str c=>obtain⟨t,rfl⟩:=ry;exact⟨.tuple_str c t p hA,.tuple_str c t p hA⟩
   | _=>exact absurd (show false=true from fy) Bool.false_ne_true
  | ls us =>
   rw[Rep] at hy
   obtain⟨b,ys,rfl,hb,hs'⟩:=hy
   cases ry
   obtain⟨its',vr',p',_⟩:=I.list hb
   rw[yj6]
   exact⟨.tuple_list p p'.isList hA,.tuple_list p p'.isList hA⟩
  | tp us =>
   rw[Rep] at hy
   obtain⟨b,ys,rfl,hb,hs'⟩:=hy
   cases ry
   obtain⟨its',vr',p',_⟩:=I.tuple hb
   have l1:its.toArray.size=ts.length:=by rw[List.size_toArray,← vr.length,hs.length]
   have l2:its'.toArray.size=us.length:=by rw[List.size_toArray,← vr'.length,hs'.length]
   have q:=ih ts us xs ys its its' (.inr ⟨rfl,rfl⟩) hs hs' vr vr'
   rw[eqT,← yl1 l1 l2 rfl]
   exact⟨.tuples p p' hA q,.tuples p p' hA q⟩
theorem yjF (I:Inv X pins σ H s):∀ (n:Nat) (A:Around) (t u:Tr) (x y:V) (v w:Value),dep t≤n→dep u≤n→Rep X.K H x t→Rep X.K H y u→RelV x v→RelV y w→A.units+n < cLine →
  SeqAt.EqAt A s v w (eqT t u)∧SeqAt.RcAt A s v w (eqT t u)∧SeqAt.RcNeAt A s v w (!eqT t u)
 | n,A,t,u,x,y,v,w,ht,hu,hx,hy,rx,ry,hA=>by
  have ih:∀ ts us xs ys its its',(t=.ls ts∧u=.ls us∨t=.tp ts∧u=.tp us)→Reps X.K H xs ts→Reps X.K H ys us→Vals xs its→Vals ys its'→yir A.in1 s ts us its its':=by
   intro ts us xs ys its its' htu h1 h2 r1 r2 j j1 j2
   have d:deps ts+1≤n∧deps us+1≤n:=by
    rcases htu with ⟨rfl,rfl⟩ | ⟨rfl,rfl⟩<;>exact⟨ht,hu⟩
   cases n with
   | zero=>omega
   | succ m =>
    rw[List.size_toArray] at j1 j2
    have k1:j < xs.length:=by rw[r1.length];exact j1
    have k2:j < ys.length:=by rw[r2.length];exact j2
    obtain⟨t1,e1,q1⟩:=h1.get (List.getElem?_eq_getElem k1)
    obtain⟨t2,e2,q2⟩:=h2.get (List.getElem?_eq_getElem k2)
    obtain⟨v1,f1,g1⟩:=r1.get (List.getElem?_eq_getElem k1)
    obtain⟨v2,f2,g2⟩:=r2.get (List.getElem?_eq_getElem k2)
    have z1:its.toArray[j]=v1:=by
     rw[List.getElem?_eq_getElem j1] at f1
     simpa using f1
    have z2:its'.toArray[j]=v2:=by
     rw[List.getElem?_eq_getElem j2] at f2
     simpa using f2
    have pe:yiw ts us j=eqT t1 t2:=by unfold yiw;rw[e1,e2]
    rw[z1,z2,pe]
    exact(yjF I m A.in1 t1 t2 _ _ v1 v2 (by have:=yjk e1;omega) (by have:=yjk e2;omega) q1 q2 g1 g2 (by show A.units+1+m < cLine;omega)).1
  have rc:=ynk I A t u x y v w hx hy rx ry (by omega) (by omega) ih
  refine⟨?_,rc⟩
  by_cases fl:ycg x=true∧ycg y=true
  ·cases t with
   | vl p =>
    cases u with
    | vl q =>
     rw[Rep] at hx
     rw[Rep] at hy
     obtain⟨rfl,fx⟩:=hx
     obtain⟨rfl,fy⟩:=hy
     rw[eqT]
     exact yiN rx ry fx fy
    | ls us=>rw[Rep] at hy;obtain⟨b,ys,rfl,_⟩:=hy;exact absurd (show false=true from fl.2) Bool.false_ne_true
    | tp us=>rw[Rep] at hy;obtain⟨b,ys,rfl,_⟩:=hy;exact absurd (show false=true from fl.2) Bool.false_ne_true
   | ls ts=>rw[Rep] at hx;obtain⟨b,ys,rfl,_⟩:=hx;exact absurd (show false=true from fl.1) Bool.false_ne_true
   | tp ts=>rw[Rep] at hx;obtain⟨b,ys,rfl,_⟩:=hx;exact absurd (show false=true from fl.1) Bool.false_ne_true
  ·intro prog w' E Q hq
   unfold eqBool
   refine wpAny_holding ?_
   have nf:∀ b tk,v≠Value.float b tk:=λb tk e=>by
    subst e
    cases t with
    | vl p =>
     rw[Rep] at hx
     obtain⟨rfl,fx⟩:=hx
     cases x<;>first | (simp[ycg] at fx;done) | (cases rx;done) | (obtain⟨_,z⟩:=rx;cases z;done)
    | ls ts=>rw[Rep] at hx;obtain⟨b,ys,rfl,_⟩:=hx;cases rx
    | tp ts=>rw[Rep] at hx;obtain⟨b,ys,rfl,_⟩:=hx;cases rx
   refine wpAny_ite_split (λhab=>?_) (λ_=>?_)
   ·have e:=eq_of_beq hab
    subst e
    have exy:x=y:=rx.inj ry
    subst exy
    rw[yhz I t u x hx hy] at hq
    exact wpAny_bind (wpAny_rule (wpAny_pure hq))
   ·have h2:=rc.1 prog w' E (λa s'=>wpAny (model prog w') A (truthOfDropped a) Q E s') (wpAny_truthy_bool hq)
    cases v with
    | float b tk=>exact absurd rfl (nf b tk)
    | _=>exact wpAny_bind h2
def ynS (K:PySem.W.Frag):R2:=λx y H Q=>∃ t u,Rep K H x t∧Rep K H y u∧dep t≤60∧dep u≤60∧Q (.bl (eqT t u)) H
def yqD (K:PySem.W.Frag):R2:=λx y H Q=>∃ t u,Rep K H x t∧Rep K H y u∧dep t≤60∧dep u≤60∧Q (.bl (!eqT t u)) H
end
theorem ycb {X:Cx}(hu:X.A.units+64 < cLine):OpR X (compareOp .Eq) (ynS X.K):=by
 intro pins s σ H x y v u Q I rx ry h
 obtain⟨t,t',h1,h2,d1,d2,q⟩:=h
 exact(yjF I 60 X.A t t' x y v u d1 d2 h1 h2 rx ry (by omega)).2.1 _ _ _ _ ⟨.bl _,H,I,rfl,q⟩
theorem ym1 {X:Cx}(hu:X.A.units+64 < cLine):OpR X (compareOp .NotEq) (yqD X.K):=by
 intro pins s σ H x y v u Q I rx ry h
 obtain⟨t,t',h1,h2,d1,d2,q⟩:=h
 exact(yjF I 60 X.A t t' x y v u d1 d2 h1 h2 rx ry (by omega)).2.2 _ _ _ _ ⟨.bl _,H,I,rfl,q⟩
end L2
namespace L2
open PySem PySem.Spec PyProof.Rows
def yeW (cells:List (Str×Addr)):List (Str×NameKind)→List (Str×Addr)→List (Str×Addr)
 | [],acc=>acc
 | (n,k) :: r,acc=>match k==.free,cells.lookup n with
  | true,some c=>yeW cells r ((n,c) :: acc)
  | _,_=>yeW cells r acc
theorem yie {scope:Scope}{env:Env}(hf:∀ y∈scope.names,y.2=.free→∃ c,env.cells.lookup y.1=some c):closureFor scope env=pure (yeW env.cells scope.names []):=by
 unfold closureFor
 have key:∀ (names:List (Str×NameKind)) (acc:List (Str×Addr)),(∀ y∈names,y.2=.free→∃ c,env.cells.lookup y.1=some c) →
   (forIn names acc λx r=>match x with | (name,kind)=>if (kind==NameKind.free)=true then do let a ← cellOf env name;pure (ForInStep.yield ((name,a) :: r)) else pure (ForInStep.yield r):Sem _)=pure (yeW env.cells names acc):=by
  intro names
  induction names with
  | nil=>intro acc _;rfl
  | cons y r ih =>
   intro acc h
   obtain⟨n,k⟩:=y
   rw[List.forIn_cons]
   have hr:∀ y∈r,y.2=.free→∃ c,env.cells.lookup y.1=some c:=λy hy=>h y (List.mem_cons_of_mem _ hy)
   by_cases hk:k=.free
   ·subst hk
    obtain⟨c,hc⟩:=h _ List.mem_cons_self rfl
    have e:cellOf env n=pure c:=by unfold cellOf;rw[show env.cells.lookup n=some c from hc]
    simp only[beq_self_eq_true,if_true,e]
    show(forIn r ((n,c) :: acc) _:Sem _)=_
    rw[ih _ hr]
    simp only[yeW,beq_self_eq_true,show env.cells.lookup n=some c from hc]
   ·have hb:(k==NameKind.free)=false:=by simpa using hk
    simp only[hb,Bool.false_eq_true,if_false]
    show(forIn r acc _:Sem _)=_
    rw[ih _ hr]
    simp only[yeW,hb]
 exact(congrArg (λm:Sem (List (Str×Addr))=>m >>= λcs=>pure cs) (key scope.names [] hf)).trans rfl
theorem yft (cells:List (Str×Addr)):∀ (names:List (Str×NameKind)) (acc:List (Str×Addr)) (x:Str) (c:Addr),(x,c)∈yeW cells names acc→(x,c)∈acc∨cells.lookup x=some c
 | [],acc,x,c,h=>.inl h
 | (n,k) :: r,acc,x,c,h=>by
  rw[yeW] at h
  split at h
  ·rename_i c' h1 h2
   rcases yft cells r _ x c h with q | q
   ·rcases List.mem_cons.mp q with q | q
    ·cases q;exact .inr h2
    ·exact .inl q
   ·exact .inr q
  ·exact yft cells r _ x c h
theorem yeR (cells:List (Str×Addr)):∀ (names:List (Str×NameKind)) (acc:List (Str×Addr)) (p:Str×Addr),p∈acc→p∈yeW cells names acc
 | [],acc,p,h=>h
 | (n,k) :: r,acc,p,h=>by
  rw[yeW]
  split
  ·exact yeR cells r _ p (List.mem_cons_of_mem _ h)
  ·exact yeR cells r _ p h
theorem yeV (cells:List (Str×Addr)):∀ (names:List (Str×NameKind)) (acc:List (Str×Addr)) (x:Str) (c:Addr),(x,.free)∈names→cells.lookup x=some c→(x,c)∈yeW cells names acc
 | [],acc,x,c,h,_=>by simp at h
 | (n,k) :: r,acc,x,c,h,e=>by
  rw[yeW]
  rcases List.mem_cons.mp h with q | q
  ·cases q
   simp only[beq_self_eq_true,e]
   exact yeR cells r _ _ List.mem_cons_self
  ·split
   ·exact yeV cells r _ x c q e
   ·exact yeV cells r _ x c q e
theorem yda:∀ {l:List (Str×Addr)} {x:Str} {c:Addr},(x,c)∈l→∃ c',l.lookup x=some c'
 | [],_,_,h=>by simp at h
 | (n,d) :: r,x,c,h=>by
  rw[List.lookup_cons]
  cases q:x==n with
  | true=>exact⟨d,rfl⟩
  | false =>
   rcases List.mem_cons.mp h with z | z
   ·cases z;simp at q
   ·exact yda z
theorem yeE:∀ {l:List (Str×Addr)} {x:Str} {c:Addr},l.lookup x=some c→(x,c)∈l
 | [],_,_,h=>by simp at h
 | (n,d) :: r,x,c,h=>by
  rw[List.lookup_cons] at h
  cases q:x==n with
  | true =>
   rw[q] at h
   have e:x=n:=by simpa using q
   cases h
   rw[e]
   exact List.mem_cons_self
  | false =>
   rw[q] at h
   exact List.mem_cons_of_mem _ (yeE h)
theorem ybp {cells:List (Str×Addr)}{names:List (Str×NameKind)}{x:Str}{c:Addr}(h:(yeW cells names []).lookup x=some c):cells.lookup x=some c:=by
 rcases yft cells names [] x c (yeE h) with q | q
 ·simp at q
 ·exact q
theorem yf9 {cells:List (Str×Addr)}{names:List (Str×NameKind)}{x:Str}{c:Addr}(h:(x,.free)∈names)(e:cells.lookup x=some c):(yeW cells names []).lookup x=some c:=by
 obtain⟨c',q⟩:=yda (yeV cells names [] x c h e)
 have:=ybp q
 rw[e] at this
 cases this
 exact q
theorem yig {prog:Program}{w:World}{A:Around}{R:Result→Shared→Prop}{s:Shared}{elt:Expr}{gs:List Comprehension}{scope:Scope}{pos:Pos}{it acc:Value}{env:Env}(St:Nat→Shared→Prop)
  (one:∀ n s,St n s→wpAny (model prog w) A (compTurn (.ListComp elt gs scope pos) 0 it acc env) (λf s'=>(∃ r,f=.done r∧R (.ok r) s')∨(f=.again (.compLoop (.ListComp elt gs scope pos) 0 it acc env)∧∃ m,m < n∧St m s')) (notedBy (model prog w) A env λe s'=>R (.error e) s') s)
  (n:Nat) (h:St n s):codeAny (model prog w) A (.compLoop (.ListComp elt gs scope pos) 0 it acc env) R s :=
 codeAny_loop rfl St (λn s hn=>(wpAny_noted (thn (one n s hn) λf s' z=>by
  rcases z with ⟨r,e,z⟩ | ⟨e,z⟩<;>subst e
  ·exact z
  ·exact⟨rfl,z⟩):wpAny (model prog w) A ((compTurn (.ListComp elt gs scope pos) 0 it acc env).onRaise _) _ _ s)) n h
def cxB (X:Cx)(scope:Scope)(NB:List Str)(C:Addr)(s:Shared)(H:Hp)(ex:List Addr):Cx where
 prog:=X.prog
 w:=X.w
 K:=X.K
 mg:=X.mg
 base:=X.base
 A:=X.A
 N:=NB
 s₀:=s
 H₀:=H
 env:=compEnvC scope (yeW X.env.cells scope.names []) C X.env
 outer:=X.stack
 stack:=X.stack
 ex:=ex
 fn:=λ_=>false
 calm:=X.calm
 pn:=X.pn
 xe:=λ_ _=>False
def stB (cap:List (Option Nat))(σ:St):St:=cap.map λo=>match o with
 | none=>none
 | some j=>(σ[j]?).getD none
structure BlockOk (X:Cx) (scope:Scope) (NB:List Str) (cap:List (Option Nat)):Prop where
 kind:scope.kind=.function
 cell:∀ y∈scope.names,y.2≠.cell
 names:∀ y∈scope.names,y.2=.local→scope.names.lookup y.1=some .local
 free:∀ y∈scope.names,y.2=.free→(X.env.kindOf y.1=some .cell∨X.env.kindOf y.1=some .free)
 len:cap.length=NB.length
 caps:∀ (i:Nat) (x:Str) (j:Nat),NB[i]?=some x→cap[i]?=some (some j)→X.N[j]?=some x∧(x,NameKind.free)∈scope.names∧((relabel scope X.env).names.lookup x=some .cell∨(relabel scope X.env).names.lookup x=some .free)
theorem ydP:∀ {l:List (Str×NameKind)} {x:Str} {c:NameKind},l.lookup x=some c→(x,c)∈l
 | [],_,_,h=>by simp at h
 | (n,d) :: r,x,c,h=>by
  rw[List.lookup_cons] at h
  cases q:x==n with
  | true =>
   rw[q] at h
   have e:x=n:=by simpa using q
   cases h
   rw[e]
   exact List.mem_cons_self
  | false =>
   rw[q] at h
   exact List.mem_cons_of_mem _ (ydP h)
theorem yfP {scope:Scope}{env:Env}{x:Str}(hc:∀ y∈scope.names,y.2≠.cell)(h:(relabel scope env).names.lookup x=some .cell∨(relabel scope env).names.lookup x=some .free):(x,NameKind.free)∈scope.names:=by
 have key:∀ k,(relabel scope env).names.lookup x=some k→(k=.cell∨k=.free)→(x,NameKind.free)∈scope.names:=by
  intro k hk hkk
  obtain⟨⟨n,k0⟩,hm,e⟩:=List.mem_map.mp (ydP hk)
  dsimp only at e
  split at e
  ·rename_i c
   cases e
   have:k0=.free:=by
    simp only[Bool.and_eq_true] at c
    simpa using c.1.1
   subst this
   exact hm
  ·cases e
   rcases hkk with rfl | rfl
   ·exact absurd rfl (hc _ hm)
   ·exact hm
 rcases h with h | h
 ·exact key _ h (.inl rfl)
 ·exact key _ h (.inr rfl)
section
variable {X:Cx} {pins:List (Addr×Obj)} {σ:St} {H:Hp} {s:Shared} {scope:Scope} {NB:List Str} {cap:List (Option Nat)}
theorem BlockOk.closure (B:BlockOk X scope NB cap)(ok:X.Ok):closureFor scope X.env=pure (yeW X.env.cells scope.names []):=yie λy hy e=>ok.has y.1 (B.free y hy e)
theorem yiI {h₁:Heap}{m:Str→Option Value}{fp:List Addr}{tk:Nat}(B:BlockOk X scope NB cap)(I:Inv X pins σ H s)(hk:∀ b o,s.heap.get? b=some o→h₁.get? b=some o)(hn:h₁.Ns s.heap.objs.size m)
  (hf:∀ b∈fp,FpOk X pins H b) (hlt:∀ b∈fp,b < s.heap.objs.size):Inv (cxB X scope NB s.heap.objs.size s H fp) pins (stB cap σ) H { s with heap:=h₁,toks:=tk }:=by
 have ltC:∀ {b:Addr} {o:Obj},s.heap.get? b=some o→b≠s.heap.objs.size:=λe=>Nat.ne_of_lt (Heap.lt_size e)
 refine⟨⟨I.ok.mod,B.kind,I.ok.glob,I.ok.blt,Nat.le_refl _,λx y c h1 h2=>I.ok.inj x y c (ybp h1) (ybp h2),λx hx=>?_,λx c h _=>absurd h (by simp[cxB]),I.ok.hd,I.ok.frames,.inl rfl,λb hb=>⟨Nat.ne_of_lt (hlt b hb),λx c e=>(hf b hb).2.2.2.2.1 x c (ybp e)⟩,
  I.bs,Nat.le_trans I.ok.bsz I.sz,λb o e hb=>?_,λb hb hs=>?_,I.stack,I.stkFree⟩,rfl,I.bare,Un.kept hk,⟨m,hn,λi x v e1 e2 e3=>?_⟩,λx c e=>?_,I.hok.fresh (Nat.le_refl _),λx c e=>I.freeC x c (ybp e),λp hp=>?_,I.hok.kept hk,?_⟩
 ·have hm:=yfP B.cell hx
  obtain⟨c,hc⟩:=I.ok.has x (B.free _ hm rfl)
  exact⟨c,yf9 hm hc⟩
 ·rcases(hf b hb).2.2.2.1 with z | z
  ·exact I.ok.noex b o e z
  ·exact absurd (Nat.lt_of_lt_of_le (Heap.lt_size e) (Nat.le_trans I.ok.bsz z)) (Nat.lt_irrefl _)
 ·rcases List.mem_cons.mp (I.stkSub b hs) with z | z
  ·exact(hf b hb).2.1 z
  ·exact(hf b hb).2.2.1 z
 ·have e1:NB[i]?=some x:=e1
  have e2:(stB cap σ)[i]?=some (some v):=e2
  unfold stB at e2
  rw[List.getElem?_map] at e2
  cases q:cap[i]? with
  | none=>rw[q] at e2;cases e2
  | some o =>
   rw[q] at e2
   cases o with
   | none=>cases e2
   | some j =>
    have e2':(σ[j]?).getD none=some v:=by simpa using e2
    have e2'':σ[j]?=some (some v):=by
     cases z:σ[j]? with
     | none=>rw[z] at e2';cases e2'
     | some y=>rw[z] at e2';rw[show y=some v from e2']
    obtain⟨hN,hm,hk2⟩:=B.caps i x j e1 q
    obtain⟨m',hn',hl⟩:=I.loc
    have hkx:=B.free _ hm rfl
    obtain⟨u,ru,lk⟩:=hl j x v hN e2'' (.inr hkx)
    refine⟨u,ru,?_⟩
    rcases lk with ⟨kl,_⟩ | ⟨_,c,hc,hcell⟩
    ·rcases hkx with z | z<;>(rw[z] at kl;cases kl)
    ·obtain⟨oc,ho,hd⟩:=hcell
     exact .inr ⟨hk2,c,yf9 hm hc,oc,hk c oc ho,hd⟩
 ·obtain⟨v,oc,ho,hd⟩:=I.cell x c (ybp e)
  exact⟨v,oc,hk c oc ho,hd⟩
 ·obtain⟨e,n,ne,nf,d⟩:=I.pin p hp
  refine⟨hk _ _ e,n,ltC e,λz=>?_,d⟩
  rcases List.mem_cons.mp (I.stkSub p.1 z) with z | z
  ·exact ne z
  ·exact nf z
 ·unfold stB
  rw[List.length_map]
  exact B.len
def ymQ (X:Cx)(ifs:List Expr)(t:TT):Prop :=
 ∀ (pins:List (Addr×Obj)) (s:Shared) (σ:St) (H:Hp) (Q:Bool→Hp→Prop),Inv X pins σ H s→t σ H Q →
  wpAny (model X.prog X.w) X.A (forIn ifs true λc r=>if r=true then do let ok ← isTrue c X.env (eval c X.env);pure (ForInStep.yield ok) else pure (ForInStep.yield r)) (TP X pins σ Q) X.xe s
def yg4:TT:=λ_ H Q=>Q true H
theorem yaT:ymQ X [] yg4:=λpins s σ H Q I h=>wpAny_tests_nil ⟨H,I,h⟩
theorem ykB {c:Expr}{t:TT}(h:PT X c t):ymQ X [c] t:=λpins s σ H Q I q=>wpAny_tests_one (h pins s σ H Q I q)
def yey (J:It)(g:TG)(tc:TT)(te:TE)(D:Addr)(Fin:Hp→Prop)(W:Nat→Nat→St→Hp→Prop):Prop :=
 ∀ i m σ H,W i m σ H→(J.stop i H∧Fin H)∨(J.go i H∧∃ N:St→Hp→Prop,(∀ σ' H',N σ' H'→∃ m',m' < m∧W (i+1) m' σ' H') ∧
  ∀ x H',J.yld i H x H'→g x σ H' fun σ2 H2=>tc σ2 H2 λb H3=>if b=true then te σ2 H3 λy H4=>∃ ys,H4 D=some (.lst ys)∧ys.length < sizeLine∧N σ2 (upd H4 D (.lst (ys++[y]))) else N σ2 H3)
def yhV (wi:TI)(cap:List (Option Nat))(g:TG)(tc:TT)(te:TE):TE:=fun σ H Q=>wi σ H λJ H1=>∀ D,H1 D=none →
 ∃ W:Nat→Nat→St→Hp→Prop,(∃ m,W 0 m (stB cap σ) (upd H1 D (.lst [])))∧yey J g tc te D (λH'=>Q (.ref D) H') W
theorem yf2 {elt tg iter:Expr}{ifs:List Expr}{pos:Pos}{it:Addr}{fp:List Addr}{tn:Nat→Heap→Prop}{J:It}{g:TG}{tc:TT}{te:TE}{E:Value→Shared→Prop}{RR:Value→Addr→Result→Shared→Prop}{Qd:Addr→Hp→Prop}
  (B:BlockOk X scope NB cap) (hc:X.calm=true) (hg:∀ C s H ex,PG (cxB X scope NB C s H ex) tg g) (ht:∀ C s H ex,ymQ (cxB X scope NB C s H ex) ifs tc) (he:∀ C s H ex,PE (cxB X scope NB C s H ex) elt te)
  (I:Inv X pins σ H s) (T:ylH X.prog X.w X.K tg J fp it tn) (st:tn 0 s.heap) (hf:∀ b∈fp,FpOk X pins H b)
  (rd:∀ D,H D=none→∃ W:Nat→Nat→St→Hp→Prop,(∃ m,W 0 m (stB cap σ) (upd H D (.lst [])))∧yey J g tc te D (Qd D) W)
  (hRR:∀ D C H' s' m',Inv X pins σ H' s'→s'.heap.Ns C m'→FpOk X pins H' C→Qd D H'→RR (.ref D) C (.ok .next) s') :
  wpAny (model X.prog X.w) X.A (newList []) (λacc s₃=>wpAny (model X.prog X.w) X.A (newFunctionEnv scope X.env.globals (yeW X.env.cells scope.names []) [] X.env.qual none .none (some X.env)) (λcenv s₄ =>
   codeAny (model X.prog X.w) X.A (.compStart (.ListComp elt [⟨tg,iter,ifs,0⟩] scope pos) 0 (.ref it) acc { cenv with scope:=relabel scope X.env }) (RR acc cenv.locals) s₄) E s₃) E s:=by
 have hlt:∀ b∈fp,b < s.heap.objs.size:=λb hb=>by
  obtain⟨o,e,_⟩:=T.obj _ _ st b hb
  exact Heap.lt_size e
 have hD:H s.heap.objs.size=none:=I.hok.fresh (Nat.le_refl _)
 obtain⟨W,⟨m0,w0⟩,cw⟩:=rd _ hD
 refine wpAny_newObj_type (wpAny_newFunctionEnv B.cell (by intro y hy;simp at hy) (λh₁ hns₁ hsb₁=>?_) B.kind)
 dsimp only at hns₁ hsb₁ ⊢
 have I3:Inv X pins σ (upd H s.heap.objs.size (.lst [])) { s with heap:=s.heap.push { cls:=.type "list",dict:=none,data:=.seq ([]:List Value).toArray } } :=
  I.laid (t':=s.toks) (λb o e=>Heap.get?_push_of_some _ e) (Nat.le_refl _) ⟨Nat.zero_le _,[],0,.nil,Heap.get?_push_size _ rfl⟩
 have up:∀ b o,s.heap.get? b=some o→(s.heap.push { cls:=.type "list",dict:=none,data:=.seq ([]:List Value).toArray }).get? b=some o:=λb o e=>Heap.get?_push_of_some _ e
 have hf3:∀ b∈fp,FpOk X pins (upd H s.heap.objs.size (.lst [])) b:=λb hb=>⟨by rw[yai (Nat.ne_of_lt (hlt b hb))];exact(hf b hb).1,(hf b hb).2⟩
 generalize hH2:s.heap.push { cls:=.type "list",dict:=none,data:=.seq ([]:List Value).toArray }=H2 at hns₁ hsb₁ I3 up ⊢
 have hlt3:∀ b∈fp,b < H2.objs.size:=λb hb=>by
  rw[← hH2,Heap.size_push]
  exact Nat.lt_succ_of_lt (hlt b hb)
 have keep:∀ b o,H2.get? b=some o→h₁.get? b=some o:=λb o e=>hsb₁.extBut b o (Nat.ne_of_lt (Heap.lt_size e)) (Heap.get?_push_of_some _ e)
 have IB:=λtk=>yiI (tk:=tk) (s:={ s with heap:=H2 }) B I3 keep hns₁ hf3 hlt3
 have st1:tn 0 h₁:=T.keep _ _ _ st λb hb o e=>keep b o (up b o e)
 generalize hX':cxB X scope NB H2.objs.size { s with heap:=H2 } (upd H s.heap.objs.size (.lst [])) fp=X' at IB
 have fpB:∀ {pins':List (Addr×Obj)} {H':Hp},pins'=pins→(∀ b∈fp,H' b=none)→∀ b∈fp,FpOk X' pins' H' b:=λ{pins' H'} ep hn b hb=>by
  subst ep
  subst hX'
  obtain⟨_,f1,f2,f3,f4,f5⟩:=hf b hb
  refine⟨hn b hb,Nat.ne_of_lt (hlt3 b hb),λz=>?_,.inl hb,λx c e=>f4 x c (ybp e),f5⟩
  rcases List.mem_cons.mp (I3.stkSub b z) with z | z
  ·exact f1 z
  ·exact f2 z
 have hg':=hg H2.objs.size { s with heap:=H2 } (upd H s.heap.objs.size (.lst [])) fp
 have ht':=ht H2.objs.size { s with heap:=H2 } (upd H s.heap.objs.size (.lst [])) fp
 have he':=he H2.objs.size { s with heap:=H2 } (upd H s.heap.objs.size (.lst [])) fp
 rw[hX'] at hg' ht' he'
 have pP:X'.prog=X.prog:=by subst hX';rfl
 have pw:X'.w=X.w:=by subst hX';rfl
 have pK:X'.K=X.K:=by subst hX';rfl
 have pA:X'.A=X.A:=by subst hX';rfl
 have pc:X'.calm=true:=by subst hX';exact hc
 have pe:X'.env=compEnvC scope (yeW X.env.cells scope.names []) H2.objs.size X.env:=by subst hX';rfl
 have px:X'.xe=λ_ _=>False:=by subst hX';rfl
 have fin:∀ {σ':St} {H':Hp} {s':Shared},Inv X' pins σ' H' s'→Qd s.heap.objs.size H'→RR (.ref s.heap.objs.size) H2.objs.size (.ok .next) s':=λ{σ' H' s'} I' q=>by
  have os':s'.os=s.os:=by have:=I'.os;subst hX';exact this
  have un':Un (frs X.stack) fp (upd H s.heap.objs.size (.lst [])) H' H2 s'.heap:=by have:=I'.base;subst hX';exact this
  have IX:Inv X pins σ H' s':=I3.call' (s':=s') (ch:=fp) os' un' (by have:=I'.hok;rw[pP,pw] at this;exact this) I'.bare λb hb=>⟨(hf b hb).2.2.2.1,(hf b hb).2.1,(hf b hb).2.2.2.2.1,(hf b hb).2.2.2.2.2⟩
  obtain⟨m,hn,_⟩:=I'.loc
  have hfr:=I'.free
  rw[pe] at hn hfr
  exact hRR _ _ H' s' m IX hn (I3.fpOk (Nat.le_refl _) hfr) q
 have loop:∀ s₃:Shared,s₃={ s with heap:=h₁,toks:=s.toks+([]:List (Str×Value)).length } →
   codeAny (model X.prog X.w) X.A (.compLoop (.ListComp elt [⟨tg,iter,ifs,0⟩] scope pos) 0 (.ref it) (.ref s.heap.objs.size) (compEnvC scope (yeW X.env.cells scope.names []) H2.objs.size X.env))
    (RR (.ref s.heap.objs.size) H2.objs.size) s₃:=by
  rintro s₃ rfl
  refine yig (λn s'=>∃ i σ' H',Inv X' pins σ' H' s'∧tn i s'.heap∧(∀ b∈fp,H' b=none)∧W i n σ' H') ?_ m0 ⟨0,stB cap σ,_,IB _,st1,λb hb=>(hf3 b hb).1,w0⟩
  rintro n s3 ⟨i,σ3,H3,I3',st3,fr3,w3⟩
  rw[← pe]
  rw[← pP,← pw,← pK] at T
  rw[← pP,← pw,← pA]
  rw[compTurn_list]
  refine wpAny_bind (wpAny_standAt (wpAny_bind ?_))
  rcases cw i n σ3 H3 w3 with ⟨stop,qn⟩ | ⟨go,N,hN,step⟩
  ·refine thn (T.done X' rfl rfl rfl pc i pins s3 σ3 H3 _ I3' (fpB rfl fr3) st3 stop) λr s4 ⟨hr,I4⟩=>?_
   subst hr
   exact wpAny_pure (.inl ⟨_,rfl,fin I4 qn⟩)
  ·refine thn (T.item X' rfl rfl rfl pc i pins s3 σ3 H3 _ I3' (fpB rfl fr3) st3 go) λr s4 ⟨u,hr,h4⟩=>?_
   subst hr
   refine wpAny_bind (thn h4 λ_ s5 ⟨x,H5,I5,r5,y5,st5,fr5⟩=>?_)
   have I5':=I5.pinned (fpB rfl fr5) (T.obj _ _ st5)
   have no:∀ {E':Value→Shared→Prop} (e:Value) (s':Shared),X'.xe e s'→E' e s':=λe s' z=>by rw[px] at z;exact z.elim
   refine wpAny_bind (wpAny_mono (hg' _ s5 σ3 H5 x u _ I5' r5 (step x H5 y5)) (λ_ s6 ⟨σ6,H6,I6,q6⟩=>?_) no)
   have again:∀ {σ7:St} {H7:Hp} {s7:Shared},Inv X' (pins++ygg fp s5.heap) σ7 H7 s7→N σ7 H7→∃ m,m < n∧∃ i σ' H',Inv X' pins σ' H' s7∧tn i s7.heap∧(∀ b∈fp,H' b=none)∧W i m σ' H':=λ{σ7 H7 s7} I7 n7=>by
    obtain⟨m',hm,w7⟩:=hN σ7 H7 n7
    refine⟨m',hm,i+1,σ7,H7,I7.unpinned,T.keep _ _ _ st5 λb hb o e=>(I7.pin (b,o) (List.mem_append_right _ (List.mem_append_right _ (ycN hb e)))).1,λb hb=>?_,w7⟩
    obtain⟨o,e,d⟩:=T.obj _ _ st5 b hb
    exact(I7.pin (b,o) (List.mem_append_right _ (List.mem_append_right _ (ycN hb e)))).2.1
   refine wpAny_bind (wpAny_mono (ht' _ s6 σ6 H6 _ I6 q6) (λb s7 ⟨H7,I7,q7⟩=>?_) no)
   cases b with
   | false=>exact wpAny_pure (.inr ⟨rfl,again I7 q7⟩)
   | true =>
    refine wpAny_bind (wpAny_bind (wpAny_mono (he' _ s7 σ6 H7 _ I7 q7) (λyv s8 ⟨y,H8,I8,r8,ys,hy,hz,q8⟩=>?_) no))
    refine wpAny_bind (wpAny_mono (yaI (X:=X') _ s8 σ6 H8 (.ref s.heap.objs.size) [y] _ [yv] (λ_ H9=>N σ6 H9) I8 rfl (.cons r8 .nil) ⟨_,ys,y,rfl,rfl,hy,hz,q8⟩) (λ_ s9 ⟨_,H9,I9,_,q9⟩=>wpAny_pure (wpAny_pure (.inr ⟨rfl,again I9 q9⟩))) no)
 exact codeAny_compStart_list (loop _ rfl) (T.self _ 0 _ _ _ st1 (loop _ rfl))
theorem yb5 {elt tg iter:Expr}{ifs:List Expr}{pos:Pos}{wi:TI}{g:TG}{tc:TT}{te:TE}(B:BlockOk X scope NB cap)(hc:X.calm=true)(hi:PI X tg iter wi)
  (hg:∀ C s H ex,PG (cxB X scope NB C s H ex) tg g) (ht:∀ C s H ex,ymQ (cxB X scope NB C s H ex) ifs tc) (he:∀ C s H ex,PE (cxB X scope NB C s H ex) elt te) (hs:∀ x,foldedSetIterable iter X.env x=pure x:=by intro _;rfl) :
  PE X (.ListComp elt [⟨tg,iter,ifs,0⟩] scope pos) (yhV wi cap g tc te):=by
 intro pins s σ H Q I h
 rw[eval_ListComp]
 refine wpAny_comprehension_free (use:=none) rfl hs (B.closure I.ok) B.kind B.names (thn (hi pins s σ H _ I h) λv s1 h1=>thn h1 λitv s2 h2=>?_)
 obtain⟨it,fp,tn,J,H2,e,I2,T,st2,f2,rd⟩:=h2
 subst e
 refine yf2 (RR:=λacc C=>compPost (model X.prog X.w) X.A X.xe none (EP X pins σ Q) acc C) (Qd:=λD H'=>Q (.ref D) H') B hc hg ht he I2 T st2 f2 rd ?_
 intro D C H' s' m' I' hn hfp q
 obtain⟨f0,f1,f2',f3,f4,f5⟩:=hfp
 refine⟨m',hn,λh' sb=>⟨.ref D,H',I'.turned (t':=s'.toks) (it:=C) (λb o hb e=>(sb.2 b hb).trans e) f0 f1 f3 f4 f5,rfl,q⟩⟩
def yhk (i:Nat)(te:TE):TS:=λD σ H=>te σ H λx H1=>D.nx (σ.set i (some x)) H1
theorem yba {i:Nat}{y:Str}{elt tg iter:Expr}{ifs:List Expr}{pos spos py:Pos}{wi:TI}{g:TG}{tc:TT}{te:TE}(hN:X.N.Nodup)(hi':X.N[i]?=some y)(hx:Loc X.env.scope y)(B:BlockOk X scope NB cap)(hc:X.calm=true)(hi:PI X tg iter wi)
  (hg:∀ C s H ex,PG (cxB X scope NB C s H ex) tg g) (ht:∀ C s H ex,ymQ (cxB X scope NB C s H ex) ifs tc) (he:∀ C s H ex,PE (cxB X scope NB C s H ex) elt te)
  (hsw:swapsWith (.ListComp elt [⟨tg,iter,ifs,0⟩] scope pos) (some (.Name y py)) spos.line X.env=pure true:=by rfl)
  (hf:X.fn y=true∨X.env.scope.names.lookup y=some .local:=by first | exact .inl rfl | exact .inr rfl | assumption) (hs:∀ x,foldedSetIterable iter X.env x=pure x:=by intro _;rfl) :
  PS X (.Assign [.Name y py] (.ListComp elt [⟨tg,iter,ifs,0⟩] scope pos) spos) (yhk i (yhV wi cap g tc te)):=by
 intro pins s σ H D I h
 rw[exec_Assign_Name_used _ _ _ _ hsw]
 refine wpAny_bind (wpAny_standAt (wpAny_bind ?_))
 show wpAny _ X.A (do let _ ← comprehension (.ListComp elt [⟨tg,iter,ifs,0⟩] scope pos) scope X.env _ (newList []) false (eval iter X.env) (some (assign (.Name y py) X.env))) _ _ s
 refine wpAny_bind (wpAny_mono (wpAny_comprehension_free (use:=some (assign (.Name y py) X.env)) (Q:=λ_ s'=>SP X pins D .next s') rfl hs (B.closure I.ok) B.kind B.names
  (thn (hi pins s σ H _ I h) λv s1 h1=>thn h1 λitv s2 h2=>?_)) (λ_ s' hq=>wpAny_pure (wpAny_pure hq)) λ_ _ e=>e)
 obtain⟨it,fp,tn,J,H2,e,I2,T,st2,f2,rd⟩:=h2
 subst e
 refine yf2 (RR:=λacc C=>compPost (model X.prog X.w) X.A X.xe (some (assign (.Name y py) X.env)) (λ_ s'=>SP X pins D .next s') acc C) (Qd:=λd H'=>D.nx (σ.set i (some (.ref d))) H') B hc hg ht he I2 T st2 f2 rd ?_
 intro d C H' s' m' I' hn hfp q
 show wpAny _ X.A (assign (.Name y py) X.env (.ref d)) _ _ _
 refine wpAny_assign_Name (yf4 (v:=.ref d) I' hN hi' hx rfl (λs'' I'' sb=>?_) hf)
 obtain⟨f0,f1,f2',f3,f4,f5⟩:=hfp
 obtain⟨a,sa,ha⟩:=sb
 have haC:C≠a:=by
  rcases ha with z | z
  ·rw[z];exact f1
  ·exact λe=>f4 y a z e.symm
 refine⟨m',hn.sameBut sa haC,λh' sb=>⟨_,H',I''.turned (t':=s''.toks) (it:=C) (λb o hb e=>(sb.2 b hb).trans e) f0 f1 f3 f4 f5,q⟩⟩
end
end L2
namespace L2
section
open PySem PySem.SeqAt
open AutoSeq1 (wpAny_loadPart')
open MeetsSeq MeetsSeq2 MeetsSeq3 SeqRoads2
theorem ye0 (l:Addr)(items:Array Value)(n:Nat)(dd:Option Addr)(sl:Array (Option Value))(x:Value)(e:Nat→Bool)(j:Nat)(hj:j < items.size)(hit:e j=true)(hno:∀ m,m < j→e m=false) :
  Meets (Builtin.«tuple.index» ⟨[.ref l,x],[]⟩)
   (λA R s=>s.heap.get? l=some { cls:=.type "tuple",dict:=dd,data:=.seq items n,slots:=sl }∧(∀ i (h:i < items.size),EqAt A.in1 s items[i] x (e i)) ∧
    R (.ok (.ret (.int j s.toks))) { s with toks:=s.toks+1 }) :=
 .of_wp λprog w A R s h=>by
  obtain⟨hp,g,d,tk,os⟩:=s;obtain⟨hl,he,h⟩:=h
  unfold Builtin.«tuple.index»
  simp only[Std.Legacy.Range.forIn_eq_forIn_range']
  wp_walk using wpAny_loadPart' hl,wpAny_forIn_list _ (λrest b s'=>b.1=none∧s'=⟨hp,g,d,tk,os⟩∧∃ i,i≤j∧rest=(List.range items.size).drop i) _
  case turn =>
   rintro i rest b s' ⟨hb,rfl,i',hi',hr⟩
   have hlt:i' < (List.range items.size).length:=by simp;omega
   rw[List.drop_eq_getElem_cons hlt] at hr
   injection hr with h1 h2
   have e1:i=i':=by simpa using h1
   subst e1
   have hi:i < items.size:=by simpa using hlt
   have e2:items[i]?=some items[i]:=by simp[hi]
   rw[e2]
   refine wpAny_bind (he i hi prog w _ _ ?_)
   cases hy:e i with
   | true =>
    have:i=j:=by
     rcases Nat.lt_or_ge i j with q | q
     ·rw[hno i q] at hy;cases hy
     ·omega
    subst this
    wp_walk
    exact⟨_,rfl,h⟩
   | false =>
    have:i≠j:=λq=>by subst q;rw[hit] at hy;cases hy
    wp_walk
    exact⟨rfl,rfl,i+1,by omega,h2⟩
  case fin =>
   rintro⟨b1,b2⟩ s' ⟨hb,rfl,i,hi,hr⟩
   have:(List.range items.size).drop i≠[]:=by
    intro q
    have:=congrArg List.length q
    simp at this
    omega
   exact absurd hr.symm this
  case h =>
   exact⟨rfl,rfl,0,Nat.zero_le _,by simp[List.range_eq_range']⟩
end
open PySem PySem.Spec PyProof.Rows
section
variable {X:Cx}
def yqf (K:PySem.W.Frag):V→List V→Hp→VK→Prop:=λx vs H Q=>∃ a xs y j z,x=.ref a∧vs=[y]∧SqT K H a xs∧ycg y=true∧xs.all ycg=true∧xs[j]?=some z∧eqV z y=true ∧
 (∀ m z',m < j→xs[m]?=some z'→eqV z' y=false)∧Q (.int (j:Nat)) H
theorem yjC:MtR X "tuple.index" (yqf X.K):=by
 intro pins s σ H x vs v us Q I rx rv h
 obtain⟨a,xs,y,j,z,rfl,rfl,hq,fy,fs,hj,hit,hno,q⟩:=h
 cases rx
 obtain⟨u,rfl,ru⟩:=rv.one
 obtain⟨its,r,pl,hz⟩:=I.tuple hq
 obtain⟨⟨cls,dd,data,sl⟩,ho,hc,n,hd⟩:=id pl
 simp only at hc hd
 subst hc hd
 obtain⟨w',ew,rw'⟩:=r.get hj
 have all1:∀ (i:Nat) (k:V),xs[i]?=some k→ycg k=true:=λi k hk=>by
  rw[List.all_eq_true] at fs
  exact fs k (List.mem_of_getElem? hk)
 have hjl:j < its.length:=(List.getElem?_eq_some_iff.mp ew).1
 refine call_meets F.slot_tuple_index ⟨_,ho,rfl⟩ F.entry_tuple_index (F.args_tuple_index_2 _ _) (ye0 a its.toArray n dd sl u (λi=>match its[i]? with | some k=>eqU y k | none=>false) j (by simpa using hjl) ?_ ?_) ⟨ho,λi hi=>?_,?_⟩
 ·show(match its[j]? with | some k=>eqU y k | none=>false)=true
  rw[ew]
  show eqU y w'=true
  rw[ygk rw' (all1 _ _ hj)]
  exact hit
 ·intro m hm
  show(match its[m]? with | some k=>eqU y k | none=>false)=false
  have hm':m < its.length:=Nat.lt_trans hm hjl
  have hmx:m < xs.length:=by rw[r.length];exact hm'
  obtain⟨w2,e2,r2⟩:=r.get (List.getElem?_eq_getElem hmx)
  rw[e2]
  show eqU y w2=false
  rw[ygk r2 (all1 _ _ (List.getElem?_eq_getElem hmx))]
  exact hno m _ hm (List.getElem?_eq_getElem hmx)
 ·have hi':i < its.length:=by simpa using hi
  have hx':i < xs.length:=by rw[r.length];exact hi'
  obtain⟨w2,e2,r2⟩:=r.get (List.getElem?_eq_getElem hx')
  have e3:its.toArray[i]=w2:=by
   rw[List.getElem?_eq_getElem hi'] at e2
   simpa using e2
  show SeqAt.EqAt _ _ its.toArray[i] u (match its[i]? with | some k=>eqU y k | none=>false)
  rw[e3,e2]
  show SeqAt.EqAt _ _ w2 u (eqU y w2)
  rw[ygk r2 (all1 _ _ (List.getElem?_eq_getElem hx'))]
  exact yiN r2 ru (all1 _ _ (List.getElem?_eq_getElem hx')) fy
 ·exact⟨.int _,H,I.tok _,⟨_,rfl⟩,q⟩
theorem yjr (bs:List Bool):(List.range bs.length).all (λi=>(bs[i]?).getD true)=bs.all id:=by
 induction bs with
 | nil=>rfl
 | cons b r ih =>
  rw[List.length_cons,List.range_succ_eq_map,List.all_cons,List.all_map,List.all_cons,← ih]
  rfl
def yqB (K:PySem.W.Frag):List V→Hp→VK→Prop:=λxs H Q=>∃ (p:Addr) (bs:List Bool),xs=[.ref p]∧SqL K H p (bs.map V.bl)∧Q (.bl (bs.all id)) H
theorem yla (hc:X.calm=true):ycd X (.builtin "all") (yqB X.K):=by
 intro pins s σ H xs us Q I r h
 obtain⟨p,bs,rfl,hq,q⟩:=h
 obtain⟨u,rfl,ru⟩:=ygK r
 cases ru
 obtain⟨its,rv,pl,hz⟩:=I.list hq
 have hlt:p < s.heap.objs.size:=by obtain⟨_,e,_⟩:=pl.isList;exact Heap.lt_size e
 refine call_all_walk (wpAny_pyIter_list pl.isList ?_)
 refine⟨s.heap.objs.size,_,_,_,_,_,(λi=>(bs[i]?).getD true),rfl,Walks.list (A:=X.A.in1) (I.ok.hd hc) s.heap.objs.size p (Nat.ne_of_lt hlt) its.toArray,⟨⟨_,Heap.get?_push_size _ rfl,rfl,rfl⟩,pl.isList.push _⟩,?_,?_⟩
 ·intro i v s' Q' E' hP hQ'
  have hv:its[i]?=some v:=by simpa using hP
  have hi:i < its.length:=(List.getElem?_eq_some_iff.mp hv).1
  have hb:i < bs.length:=by
   have:=rv.length
   rw[List.length_map] at this
   omega
  obtain⟨w',e',r'⟩:=rv.get (x:=.bl bs[i]) (i:=i) (by rw[List.getElem?_map,List.getElem?_eq_getElem hb];rfl)
  rw[e'] at hv
  cases hv
  cases r'
  have hQ2:Q' ((bs[i]?).getD true) s':=hQ'
  rw[List.getElem?_eq_getElem hb] at hQ2
  exact wpAny_truthy_bool hQ2
 ·intro h' tk hk
  have e:(List.range its.toArray.size).all (λi=>(bs[i]?).getD true)=bs.all id:=by
   have:=rv.length
   rw[List.length_map] at this
   rw[List.size_toArray,← this]
   exact yjr bs
  rw[e]
  refine⟨.bl _,H,I.kept (t':=tk) λb o e=>hk b o ?_ (Heap.get?_push_of_some _ e),rfl,q⟩
  intro z
  have:b=s.heap.objs.size:=by simpa using z
  exact absurd (Heap.lt_size e) (by rw[this];exact Nat.lt_irrefl _)
def Ite (K:PySem.W.Frag)(a:Addr):It :=
 ⟨λi H=>∃ xs x,SqL K H a xs∧xs[i]?=some x,λi H x H'=>∃ p v,x=.ref p∧H p=none∧H'=upd H p (.tup [.int (i:Nat),v])∧∀ xs,SqL K H a xs→xs[i]?=some v,λi H=>∃ xs,SqL K H a xs∧xs.length≤i⟩
theorem yiU {P:Program}{w:World}{K:PySem.W.Frag}{elts:List Expr}{x1}{tp:Pos}(a e it:Addr)(hne:e≠it):ylH P w K (.Tuple elts x1 tp) (Ite K a) [e,it] e (λi h=>∃ old,IsEnum h e it (i:Nat) old∧h.IsListIter it a i) where
 mem:=by simp
 obj:=λi h st b hb=>by
  obtain⟨old,st1,st2⟩:=st
  rcases List.mem_cons.mp hb with rfl | hb
  ·exact⟨_,st1,λv z=>by cases z⟩
  ·have e':b=it:=by simpa using hb
   subst e'
   obtain⟨o,eo,c,d⟩:=st2
   exact⟨o,eo,λv z=>by rw[d] at z;cases z⟩
 keep:=λi h h' st k=>by
  obtain⟨old,st1,st2⟩:=st
  exact⟨old,k e (by simp) _ st1,st2.at λo eo=>k it (by simp) o eo⟩
 item:=by
  intro X hP hw hK hc i pins s σ H E I hf st hg
  subst hP hw hK
  obtain⟨old,st1,st2⟩:=st
  obtain⟨xs,x,hq,hx⟩:=hg
  obtain⟨its,rv,p,hz⟩:=I.list hq
  obtain⟨u,hu,ru⟩:=rv.get hx
  obtain⟨f0,f1,f2,f3,f4,f5⟩:=hf e (by simp)
  obtain⟨g0,g1,g2,g3,g4,g5⟩:=hf it (by simp)
  have hel:e < s.heap.objs.size:=Heap.lt_size st1
  refine wpAny_pyNext_enum_item st1 st2 p.isList (x:=u) (by simpa using hu) hne λh' heo hit' ht' hz' hk'=>?_
  refine⟨.ref s.heap.objs.size,rfl,wpAny_letOwnedTupleGo_enum heo λh2 he2 sb2=>?_⟩
  have sb2:Heap.SameBut e h' h2:=sb2
  have fr:H s.heap.objs.size=none:=I.hok.fresh (Nat.le_refl _)
  have kp:∀ b o,b≠e→b≠it→s.heap.get? b=some o→h2.get? b=some o:=λb o h1 h3 h4=>(sb2.2 b h1).trans (hk' b o h1 h3 h4)
  have tne:∀ b u,H b=some u→b≠e∧b≠it:=λb u hb=>⟨λz=>(by rw[z,f0] at hb;cases hb),λz=>(by rw[z,g0] at hb;cases hb)⟩
  have ltp:∀ {b:Addr} {o:Obj},s.heap.get? b=some o→b≠s.heap.objs.size:=λh=>Nat.ne_of_lt (Heap.lt_size h)
  refine⟨.ref s.heap.objs.size,upd H s.heap.objs.size (.tup [.int (i:Nat),x]),?_,rfl,⟨_,x,rfl,fr,rfl,λys hy=>by rw[I.list_inj hy hq];exact hx⟩,⟨u,?_,?_⟩,λb hb=>?_⟩
  ·refine Inv.step (s:=s) (h':=h2) (g':=s.gens) (d':=s.drawn) (t':=s.toks+1) (ch:=[e,it]) I (λb hb=>?_) (λb o _ _ hcn he _=>kp b o (λz=>hcn (by simp[z])) (λz=>hcn (by simp[z])) he)
    (λb o _ _ hcn he _=>⟨o.slots,kp b o (λz=>hcn (by simp[z])) (λz=>hcn (by simp[z])) he⟩) (λb o _ he hn=>by rw[yai (ltp he)];exact hn) (λb o hcn he=>⟨o,kp b o (λz=>hcn (by simp[z])) (λz=>hcn (by simp[z])) he⟩)
    (λb ys hb=>by rw[yai (yad hb fr)];exact hb) (λb o ys hb=>by rw[yai (yad hb fr)];exact hb) (λb ps hb=>⟨#[],by rw[yai (yad hb fr),hb];simp⟩) (λm hm=>?_) (λb ob hb=>?_) I.bare
   ·rcases List.mem_cons.mp hb with rfl | hb
    ·exact⟨f3,f1,f4,f5⟩
    ·have e':b=it:=by simpa using hb
     subst e'
     exact⟨g3,g1,g4,g5⟩
   ·obtain⟨o,es,ep,ho,r⟩:=hm
    exact⟨o,es,ep,kp _ o (Ne.symm f1) (Ne.symm g1) ho,r⟩
   ·by_cases hbp:b=s.heap.objs.size
    ·subst hbp
     rw[yab] at hb
     cases hb
     refine⟨by show 2≤sizeLine;decide,[.int (i:Nat) s.toks,u],.cons ⟨_,rfl⟩ (.cons ru .nil),_,(sb2.2 _ (Nat.ne_of_gt hel)).trans ht',rfl,_,rfl⟩
    ·rw[yai hbp] at hb
     refine(I.hok b ob hb).stay (λc v hcv q=>?_) (λc hc'=>by rw[yai (yad hc' fr)];exact hc') λc ys hc'=>by rw[yai (yad hc' fr)];exact hc'
     rcases hcv with z | z
     ·rw[z] at q ⊢
      exact kp b v (tne b ob hb).1 (tne b ob hb).2 q
     ·exact kp c v (tne c _ z).1 (tne c _ z).2 q
  ·have:((i:Int)+1)=((i+1:Nat):Int):=by omega
   rw[← this]
   exact he2
  ·exact hit'.extBut sb2.extBut (Ne.symm hne)
  ·have hbl:b≠s.heap.objs.size:=by
    rcases List.mem_cons.mp hb with rfl | hb
    ·exact Nat.ne_of_lt hel
    ·have e':b=it:=by simpa using hb
     subst e'
     obtain⟨o,eo,_⟩:=st2
     exact Nat.ne_of_lt (Heap.lt_size eo)
   rw[yai hbl]
   exact(hf b hb).1
 done:=by
  intro X hP hw hK hc i pins s σ H E I hf st hg
  subst hP hw hK
  obtain⟨old,st1,st2⟩:=st
  obtain⟨xs,hq,hx⟩:=hg
  obtain⟨its,rv,p,hz⟩:=I.list hq
  obtain⟨f0,f1,f2,f3,f4,f5⟩:=hf it (by simp)
  have hl:=rv.length
  exact wpAny_pyNext_enum_end (I.ok.hd hc) st1 st2 p.isList (by simp;omega) λh' eb=>⟨rfl,I.turned (t':=s.toks) (λb o hb e=>eb b o hb e) f0 f1 f3 f4 f5⟩
 self:=λ_ _ _ _ _ st h=>by
  obtain⟨old,st1,_⟩:=st
  exact wpAny_pyIter_enum st1 h
def ymy (K:PySem.W.Frag)(ta:TA):TI:=fun σ H R=>ta σ H λvs H1=>∃ a,vs=[.ref a]∧(∃ xs,SqL K H1 a xs)∧R (Ite K a) H1
theorem ych {elts:List Expr}{x1}{tp:Pos}{a:Expr}{ta:TA}{p pos:Pos}(hg:Gl X "enumerate")(hm:X.mg "enumerate"=none)(ha:PA X [a] ta)(hs:starEach [a] X.env=[(false,eval a X.env)]:=by rfl) :
  PI X (.Tuple elts x1 tp) (.Call (.Name "enumerate" p) [a] [] pos) (ymy X.K ta):=by
 intro pins s σ H R I h
 refine Call_ (ydy I hg hm boot_enumerate (PyProof.Rows.callWith_type1 (thn (ha pos pins s σ H _ I h) λus s1 ⟨vs,H1,I1,r1,q1⟩=>?_) hs rfl))
 obtain⟨l,e,⟨xs,hq⟩,q⟩:=q1
 subst e
 obtain⟨u,rfl,ru⟩:=ygK r1
 cases ru
 obtain⟨its,rv,pl,hz⟩:=I1.list hq
 refine call_enumerate_list pl.isList λh' he hit hsz hk=>?_
 refine wpAny_pyIter_enum he ?_
 refine⟨s1.heap.objs.size+1,[s1.heap.objs.size+1,s1.heap.objs.size],_,_,H1,rfl,I1.kept (t':=s1.toks) hk,yiU l _ _ (Nat.succ_ne_self _),⟨_,he,hit⟩,λb hb=>?_,q⟩
 rcases List.mem_cons.mp hb with rfl | hb
 ·exact I1.fpOk (Nat.le_succ _) (I1.hok.fresh (Nat.le_succ _))
 ·have e':b=s1.heap.objs.size:=by simpa using hb
  subst e'
  exact I1.fpOk (Nat.le_refl _) (I1.hok.fresh (Nat.le_refl _))
theorem yns {x:Str}{z:Int}{pos:Pos}(hg:Gl X x)(hm:∃ k,X.mg x=some (.int z k))(hd:(x==("__debug__" : Str))=false:=by decide):PE X (.Name x pos) (tC (.int z)):=by
 obtain⟨k,e⟩:=hm
 exact yci hg e ⟨k,rfl⟩ hd
theorem ybW:OpR X (binaryOp .Mult) (rI IntMulOk λi j=>.int (i*j)):=opI λ_ _ _ _ _ _ _ hc q=>mul_int q hc
end
def TupIn (K:PySem.W.Frag)(a:Addr)(xs:List V):Prop :=
 ∃ (o:Obj) (its:Array Value) (n:Nat),K.lookup a=some o∧o.cls=.type "tuple" ∧ o.dict=none∧o.data=.seq its n∧its.size≤sizeLine∧Vals xs its.toList
theorem TupIn.sq {K:PySem.W.Frag}{a:Addr}{xs:List V}(h:TupIn K a xs)(H:Hp):SqT K H a xs:=by
 obtain⟨o,its,n,h1,h2,h3,h4,h5,h6⟩:=h
 exact .inr ⟨o,its,n,h1,h2,h4,h5,h6⟩
theorem TupIn.ty {K:PySem.W.Frag}{a:Addr}{xs:List V}(h:TupIn K a xs)(H:Hp):tyV K "tuple" (.ref a) H:=by
 obtain⟨o,its,n,h1,h2,h3,h4,h5,h6⟩:=h
 exact .inr (.inl ⟨rfl,o,h1,h2,h3⟩)
def yo2:V→Value→Bool
 | .non,.none=>true
 | .bl b,.bool c=>b==c
 | .int i,.int j _=>i==j
 | .str x,.str y _=>x==y
 | _,_=>false
def yiZ:List V→List Value→Bool
 | [],[]=>true
 | x :: xs,u :: us=>yo2 x u&&yiZ xs us
 | _,_=>false
theorem ykA {x:V}{u:Value}(h:yo2 x u=true):RelV x u:=by
 cases x<;>cases u<;>simp[yo2] at h
 ·rfl
 ·subst h;rfl
 ·subst h;exact⟨_,rfl⟩
 ·subst h;exact⟨_,rfl⟩
theorem yfO:∀ {xs:List V} {us:List Value},yiZ xs us=true→Vals xs us
 | [],[],_=>.nil
 | x :: xs,u :: us,h=>by
  rw[yiZ,Bool.and_eq_true] at h
  exact .cons (ykA h.1) (yfO h.2)
 | [],_ :: _,h=>by cases h
 | _ :: _,[],h=>by cases h
theorem ylk {K:PySem.W.Frag}{a:Addr}{xs:List V}{its:Array Value}{n:Nat}{sl:Array (Option Value)}(l:K.lookup a=some ⟨.type "tuple",none,.seq its n,sl⟩)(v:yiZ xs its.toList=true)(hz:its.size≤1000:=by decide):TupIn K a xs :=
 ⟨_,its,n,l,rfl,rfl,rfl,Nat.le_trans hz (by decide),yfO v⟩
def ylK (scope:Scope)(env:Env)(N NB:List Str)(cap:List (Option Nat)):Bool :=
 decide (scope.kind=.function)&&scope.names.all (λy=>decide (y.2≠.cell))&&scope.names.all (λy=>decide (y.2≠.local)||decide (scope.names.lookup y.1=some .local)) &&
 scope.names.all (λy=>decide (y.2≠.free)||decide (env.kindOf y.1=some .cell)||decide (env.kindOf y.1=some .free))&&decide (cap.length=NB.length) &&
 (List.range NB.length).all (λi=>match NB[i]?,cap[i]? with
  | some x,some (some j)=>decide (N[j]?=some x)&&decide ((x,NameKind.free)∈scope.names)&&(decide ((relabel scope env).names.lookup x=some .cell)||decide ((relabel scope env).names.lookup x=some .free))
  | _,_=>true)
theorem yaQ {X:Cx}{scope:Scope}{NB:List Str}{cap:List (Option Nat)}(h:ylK scope X.env X.N NB cap=true):BlockOk X scope NB cap:=by
 unfold ylK at h
 simp only[Bool.and_eq_true,decide_eq_true_eq,List.all_eq_true,Bool.or_eq_true] at h
 obtain⟨⟨⟨⟨⟨h1,h2⟩,h3⟩,h4⟩,h5⟩,h6⟩:=h
 refine⟨h1,h2,λy hy e=>?_,λy hy e=>?_,h5,λi x j e1 e2=>?_⟩
 ·rcases h3 y hy with z | z
  ·exact absurd e z
  ·exact z
 ·rcases h4 y hy with (z | z) | z
  ·exact absurd e z
  ·exact .inl z
  ·exact .inr z
 ·have hi:i < NB.length:=(List.getElem?_eq_some_iff.mp e1).1
  have q:=h6 i (List.mem_range.mpr hi)
  rw[e1,e2] at q
  simp only[Bool.and_eq_true,decide_eq_true_eq,Bool.or_eq_true] at q
  exact⟨q.1.1,q.1.2,q.2⟩
end L2
namespace Att
open PySem PySem.W PySem.Calls PyProof.Rows
theorem yhL:∀ {ns:List Int},WData.weightAll (ns.map WData.int)≤2 ^ 20→∀ v∈ns,Builtin.Int.intBits v≤2 ^ 20
 | [],_,v,h=>by simp at h
 | n :: ns,h,v,hv=>by
  rw[List.map_cons,WData.weightAll] at h
  rcases List.mem_cons.mp hv with rfl | hv
  ·have:WData.weight (.int v)≤2 ^ 20:=by omega
   simpa only[WData.weight,Builtin.Int.intBits] using this
  ·exact yhL (by omega) v hv
theorem ymz {ns:List Int}(h:WData.layableAll [WData.list (ns.map WData.int)]=true):∀ v∈ns,Builtin.Int.intBits v≤2 ^ 20:=by
 simp only[WData.layableAll,List.all_cons,WData.layable,Bool.and_eq_true,decide_eq_true_eq] at h
 exact yhL (by have:=h.1.2;rw[WData.weight] at this;exact this)
theorem attach_callB {l:OpenLaw}{n:Nat}{q:Program}{loose:List Str}{XP:(Str→Option Value)→Heap→Prop}{YP:World→Heap→Prop}{d:DefRec}
  (hn:l.most=some n) (hdf:d.params.defaults=[])
  (call:∀ (w:World) (s₀ s₁:Shared) (mg mb:Str→Option Value) (fa:Addr) (o:Obj) (pm cd doc:Value) (a:Addr) (vs:List Value) (ns:List Int),
   Ground q loose [] XP w s₀ mg mb s₁.heap→YP w s₁.heap →
   s₁.heap.get? fa=some o→o.data=.func (docDef d.name d.params d.body d.scope pm cd doc)→s₁.heap.CodeRec cd d.name→mg d.name=some (.ref fa) →
   s₁.heap.get? a=some { cls:=.type "list",data:=.seq vs.toArray }→IntsAre vs ns→ns.length≤n→(∀ v∈ns,Builtin.Int.intBits v≤2 ^ 20)→s₁.gens=#[] →
   codeAny (model l.prog w) callerA (.call (.ref fa) ⟨[.ref a],[]⟩) (λr s'=>r=.ok (.ret (.bool true))∧OldK s₁.heap s'.heap∧s'.os=s₁.os∧AllBare s'.gens) s₁) :
  WalkO q loose XP YP l.row.toRowW d [] (λf vs=>PySem.call f vs):=by
 intro w s₀ s₁ mg mb G Y fa o pm cd doc dV kV ho hd hcd hD hmg hg args vals as hpre hlay hrd hwl hlo
 obtain rfl:dV=.none:=Dflts.none hD hdf
 obtain rfl:kV=.none:=Dflts.noKw hD
 obtain⟨a,vs,ns,rfl,rfl,hobj,hints,hlen⟩:=yjD hn hpre hwl
 refine enter_call (codeAny_mono (call w s₀ s₁ mg mb fa o pm cd doc a vs ns G Y ho (fd_plain hd) hcd hmg hobj hints hlen (ymz hlay) hg) λr s' hq=>?_)
 obtain⟨rfl,h2,h3,h4⟩:=hq
 exact⟨.inl ⟨.bool true,.bool true,[],rfl,λ_=>rfl,.bool true,yjb l _,λ_=>⟨List.Pairwise.nil,λ_ hm=>(nomatch hm)⟩⟩,h2,h3,h4⟩
end Att
namespace L2
open PySem PySem.Spec PyProof.Rows
section
variable {X:Cx}
theorem ycE {x:Str}{n:String}{pos:Pos}(hg:Gl X x)(hm:X.mg x=none)(hv:bootBuiltins x=some (.type n))(hn:x≠"__name__":= by decide)(hd:(x==("__debug__" : Str))=false:=by decide):PE X (.Name x pos) (tC (.ty n)):=ylV (v:=.ty n) hg hm hv rfl hn hd
theorem ym4 {x:Str}{a:Addr}{pos:Pos}(hg:Gl X x)(hm:X.mg x=some (.ref a))(hd:(x==("__debug__" : Str))=false:=by decide):PE X (.Name x pos) (tC (.ref a)):=yci (v:=.ref a) hg hm rfl hd
end
theorem yae {H:Hp}{p:Addr}(h:H p=none)(o:HO):Same H (upd H p o):=λb u q=>by rw[yai (yad q h)];exact q
theorem ya2 {A:Around}{k:Nat}(hr:Room k A):A.units+64 < cLine:=hr.units
end L2
namespace L2
theorem yk3 (k:Knd):k.isA "bool"=decide (k=.bl):=by cases k<;>rfl
theorem yhQ (k:Knd):k.isA "list"=decide (k=.lst):=by cases k<;>rfl
theorem yfB (k:Knd):k.isA "tuple"=decide (k=.tup):=by cases k<;>rfl
theorem ylU:yg3 "bool":= .inr (.inl rfl)
theorem yka:yg3 "list":= .inr (.inr (.inr (.inl rfl)))
theorem ykD:yg3 "tuple":= .inr (.inr (.inr (.inr rfl)))
theorem yk4:yg3 "bool"=True:=eq_true ylU
theorem yke:yg3 "list"=True:=eq_true yka
end L2
namespace L2
open PySem
end L2
namespace L2
open PySem
theorem ybQ {K:PySem.W.Frag}{a:Addr}{xs:List V}{g:TG}{tb:TS}{D:ydn}{σ:St}{H:Hp}(Pv:Nat→St→Hp→Prop)(h0:Pv 0 σ H)(hl:∀ i σ H,i≤xs.length→Pv i σ H→SqL K H a xs)
  (hs:∀ i x σ H p,xs[i]?=some x→Pv i σ H→H p=none→g (.ref p) σ (upd H p (.tup [.int (i:Nat),x])) fun σ2 H2=>tb { D with nx:=Pv (i+1),ct:=Pv (i+1),bk:=D.nx } σ2 H2) (hd:∀ σ H,Pv xs.length σ H→D.nx σ H) :
  ∃ W:Nat→Nat→St→Hp→Prop,(∃ m,W 0 m σ H)∧∀ i m σ H,W i m σ H →
   ((Ite K a).stop i H∧D.nx σ H)∨((Ite K a).go i H∧∃ N:St→Hp→Prop,(∀ σ' H',N σ' H'→∃ m',m' < m∧W (i+1) m' σ' H')∧∀ x H',(Ite K a).yld i H x H'→g x σ H' fun σ2 H2=>tb { D with nx:=N,ct:=N,bk:=D.nx } σ2 H2):=by
 refine⟨λi m σ H=>m=xs.length - i∧i≤xs.length∧Pv i σ H,⟨xs.length,by simp,Nat.zero_le _,h0⟩,?_⟩
 rintro i m σ H ⟨rfl,hi,p⟩
 have q:=hl i σ H hi p
 by_cases hlt:i < xs.length
 ·refine .inr ⟨⟨xs,xs[i],q,by simp[hlt]⟩,Pv (i+1),fun σ' H' p'=>⟨xs.length - (i+1),by omega,rfl,hlt,p'⟩,λx H' y=>?_⟩
  obtain⟨b,v,e1,e2,e3,y⟩:=y
  subst e1 e3
  exact hs i v σ H b (y xs q) p e2
 ·have e:i=xs.length:=by omega
  subst e
  exact .inl ⟨⟨xs,q,Nat.le_refl _⟩,hd σ H p⟩
theorem yio {K:PySem.W.Frag}{a D:Addr}{xs:List V}{g:TG}{tc:TT}{te:TE}{Fin:Hp→Prop}{σ:St}{H:Hp}(Pv:Nat→St→Hp→Prop)(h0:Pv 0 σ H)(hl:∀ i σ H,i≤xs.length→Pv i σ H→SqL K H a xs)
  (hs:∀ i x σ H,xs[i]?=some x→Pv i σ H→g x σ H fun σ2 H2=>tc σ2 H2 λb H3=>if b=true then te σ2 H3 λy H4=>∃ ys,H4 D=some (.lst ys)∧ys.length < sizeLine∧Pv (i+1) σ2 (upd H4 D (.lst (ys++[y]))) else Pv (i+1) σ2 H3)
  (hd:∀ σ H,Pv xs.length σ H→Fin H):∃ W:Nat→Nat→St→Hp→Prop,(∃ m,W 0 m σ H)∧yey (Itl K a) g tc te D Fin W:=by
 refine⟨λi m σ H=>m=xs.length - i∧i≤xs.length∧Pv i σ H,⟨xs.length,by simp,Nat.zero_le _,h0⟩,?_⟩
 rintro i m σ H ⟨rfl,hi,p⟩
 have q:=hl i σ H hi p
 by_cases hlt:i < xs.length
 ·refine .inr ⟨⟨xs,xs[i],q,by simp[hlt]⟩,Pv (i+1),fun σ' H' p'=>⟨xs.length - (i+1),by omega,rfl,hlt,p'⟩,λx H' y=>?_⟩
  obtain⟨e,y⟩:=y
  subst e
  exact hs i x σ _ (y xs q) p
 ·have e:i=xs.length:=by omega
  subst e
  exact .inl ⟨⟨xs,q,Nat.le_refl _⟩,hd σ H p⟩
theorem ylf {K:PySem.W.Frag}{a D:Addr}{xs:List V}{g:TG}{tc:TT}{te:TE}{Fin:Hp→Prop}{σ:St}{H:Hp}(Pv:Nat→St→Hp→Prop)(h0:Pv 0 σ H)(hl:∀ i σ H,i≤xs.length→Pv i σ H→SqT K H a xs)
  (hs:∀ i x σ H,xs[i]?=some x→Pv i σ H→g x σ H fun σ2 H2=>tc σ2 H2 λb H3=>if b=true then te σ2 H3 λy H4=>∃ ys,H4 D=some (.lst ys)∧ys.length < sizeLine∧Pv (i+1) σ2 (upd H4 D (.lst (ys++[y]))) else Pv (i+1) σ2 H3)
  (hd:∀ σ H,Pv xs.length σ H→Fin H):∃ W:Nat→Nat→St→Hp→Prop,(∃ m,W 0 m σ H)∧yey (Itt K a) g tc te D Fin W:=by
 refine⟨λi m σ H=>m=xs.length - i∧i≤xs.length∧Pv i σ H,⟨xs.length,by simp,Nat.zero_le _,h0⟩,?_⟩
 rintro i m σ H ⟨rfl,hi,p⟩
 have q:=hl i σ H hi p
 by_cases hlt:i < xs.length
 ·refine .inr ⟨⟨xs,xs[i],q,by simp[hlt]⟩,Pv (i+1),fun σ' H' p'=>⟨xs.length - (i+1),by omega,rfl,hlt,p'⟩,λx H' y=>?_⟩
  obtain⟨e,y⟩:=y
  subst e
  exact hs i x σ _ (y xs q) p
 ·have e:i=xs.length:=by omega
  subst e
  exact .inl ⟨⟨xs,q,Nat.le_refl _⟩,hd σ H p⟩
theorem ydj {lo:Int}{n:Nat}{D:Addr}{g:TG}{tc:TT}{te:TE}{Fin:Hp→Prop}{σ:St}{H:Hp}(Pv:Nat→St→Hp→Prop)(h0:Pv 0 σ H)
  (hs:∀ i σ H,i < n→Pv i σ H→g (.int (lo+i)) σ H fun σ2 H2=>tc σ2 H2 λb H3=>if b=true then te σ2 H3 λy H4=>∃ ys,H4 D=some (.lst ys)∧ys.length < sizeLine∧Pv (i+1) σ2 (upd H4 D (.lst (ys++[y]))) else Pv (i+1) σ2 H3)
  (hd:∀ σ H,Pv n σ H→Fin H):∃ W:Nat→Nat→St→Hp→Prop,(∃ m,W 0 m σ H)∧yey (Itr lo n) g tc te D Fin W:=by
 refine⟨λi m σ H=>m=n - i∧i≤n∧Pv i σ H,⟨n,by simp,Nat.zero_le _,h0⟩,?_⟩
 rintro i m σ H ⟨rfl,hi,p⟩
 by_cases hlt:i < n
 ·refine .inr ⟨hlt,Pv (i+1),fun σ' H' p'=>⟨n - (i+1),by omega,rfl,hlt,p'⟩,λx H' y=>?_⟩
  obtain⟨e,y⟩:=y
  subst e y
  exact hs i σ _ hlt p
 ·have e:i=n:=by omega
  subst e
  exact .inl ⟨Nat.le_refl _,hd σ H p⟩
end L2
namespace L2
open PySem PySem.Spec PyProof.Rows
def stays (a:Addr)(o:Obj):HO:=.ext λh=>h.get? a=some o
section
variable {P:Program} {w:World} {H:Hp} {h:Heap} {a:Addr}
theorem ObjOk.stays {o:Obj}(e:h.get? a=some o):ObjOk P w H h a (stays a o):=⟨e,⟨o,e⟩,λ_ _ p k=>k _ p⟩
theorem HOk.stays {o:Obj}(ok:HOk P w H h)(e:H a=some (stays a o)):h.get? a=some o:=(ok a _ e).1
end
theorem Inv.tbl {X:Cx}{pins:List (Addr×Obj)}{σ:St}{H:Hp}{s:Shared}{h':Heap}{T:Addr}{ps more:Array Value}{tk:Nat}(I:Inv X pins σ H s)(e:H T=some (.tbl ps))(hx:Heap.ExtBut T s.heap h')(hT:h'.get? T=some { cls:=.none,data:=.fields (ps++more) }) :
  Inv X pins σ (upd H T (.tbl (ps++more))) { s with heap:=h',toks:=tk }:=by
 have ne:∀ {b:Addr},H b=none→b≠T:=λq z=>by rw[z,e] at q;cases q
 refine I.step (ch:=[]) (λb z=>absurd z (by simp)) (λb o _ _ _ g n=>hx b o (ne n) g) (λb o _ _ _ g n=>⟨o.slots,hx b o (ne n) g⟩) (λb o _ g n=>by rw[yai (ne n)];exact n) (λb o _ g=>?_) (λb xs q=>?_) (λb o u q=>?_) (λb qs q=>?_) (λm hn=>hn.extBut hx (ne I.free)) (λb o q=>?_) I.bare
 ·by_cases z:b=T
  ·subst z;exact⟨_,hT⟩
  ·exact⟨o,hx b o z g⟩
 ·rw[yai (λz=>by rw[z,e] at q;cases q)];exact q
 ·rw[yai (λz=>by rw[z,e] at q;cases q)];exact q
 ·by_cases z:b=T
  ·subst z
   rw[e] at q
   cases q
   exact⟨more,yab⟩
  ·exact⟨#[],by rw[yai z,q];simp⟩
 ·by_cases z:b=T
  ·subst z
   rw[yab] at q
   cases q
   exact hT
  ·rw[yai z] at q
   refine(I.hok b o q).stay (λc u hc g=>hx c u ?_ g) (λc hc=>?_) (λc xs hc=>?_)
   ·rintro rfl
    rcases hc with hc | hc
    ·exact z hc.symm
    ·rw[e] at hc;cases hc
   ·rw[yai (λz=>by rw[z,e] at hc;cases hc)];exact hc
   ·rw[yai (λz=>by rw[z,e] at hc;cases hc)];exact hc
theorem ynT {CX:CXT}{P:Program}{w:World}{K:PySem.W.Frag}{mg:Str→Option Value}{base:Heap}{k:Nat}{f:Addr}{name qual:Str}{params:Arguments}{body:List Stmt}{scope:Scope}{dV kV doc pm cdv ct oc:Value}{an od:Option Addr}
  {osl:Array (Option Value)} {N ps:List Str} {sp:Sp} (lk:K.lookup f=some ⟨oc,od,.func (PySem.W.fnOf name qual params body scope dV kV doc pm an cdv ct),osl⟩) (hcd:PySem.W.codeIn K cdv qual=true) (S:yat N ps scope)
  (len:∀ vs H Q E,sp vs H Q E→vs.length=ps.length)
  (hbody:∀ (A:Around) (outer:List Env) (s s1:Shared) (H:Hp) (vs:List V) (Q:VK) (E:XK),Room k (A.deeper (envOfC qual scope s.heap.objs.size f cdv))→sp vs H Q E→Inv (ybz CX P w K mg base N qual scope f cdv A outer s H E) [] (start N vs) H s1 →
   wpAny (model P w) (A.deeper (envOfC qual scope s.heap.objs.size f cdv)) (execs body (envOfC qual scope s.heap.objs.size f cdv)) (λfl s'=>∃ u,fl=.ret u∧CE outer P w H s Q u s') (ybz CX P w K mg base N qual scope f cdv A outer s H E).xe s1) :
  FnOk P w K mg base CX (k+1) f (PySem.W.fnOf name qual params body scope dV kV doc pm an cdv ct) ps sp:=by
 refine⟨len,λA outer s H args us vs Q E hr e0 hb r hsp=>?_⟩
 have hl:=len _ _ _ _ hsp
 have KX:K.In s.heap:=e0.mod.kin.keeps λb o e=>(e0.bs b o e).1
 have lim:s.heap.NoLimit:=e0.mod.nolimit.keeps λb o e=>(e0.bs b o e).1
 have hkind:∀ y∈ps.zip us,scope.names.lookup y.1=some .local∨(scope.names.lookup y.1=some .cell∧((cellsFrom (s.heap.objs.size+1) scope.names []).lookup y.1).isSome=true):=λ⟨n,v⟩ hy=>by
  rcases S.par n (List.of_mem_zip hy).1 with q | q
  ·exact .inl q
  ·exact .inr ⟨q,PySem.W.cellsFrom_some _ _ _ (.inl q)⟩
 refine codeAny_call_function hr.depth (KX _ _ lk) rfl S.co S.gen rfl (PySem.W.codeRec_of KX hcd) (hb _ _ _ _ ?_)
 refine wpAny_newFunctionEnv_cells S.kind hkind λenv he s1 x=>?_
 subst he
 refine⟨lim.keeps x.toInCall.keep,codeAny_func ?_⟩
 have I:Inv (ybz CX P w K mg base N qual scope f cdv A outer s H E) [] (start N vs) H s1:=ygy S hr.hd e0 hl r x
 refine wpAny_mono (hbody A outer s s1 H vs Q E (hr.deeper _) hsp I) (λfl s' hs=>?_) λe s' hs=>hs
 obtain⟨u,rfl,ce⟩:=hs
 exact ce
theorem Inv.note {X:Cx}{pins:List (Addr×Obj)}{σ:St}{H:Hp}{s:Shared}{a:Addr}{o:Obj}{u:HO}(I:Inv X pins σ H s)(hn:H a=none)(ha:X.s₀.heap.objs.size≤a)(hl:a≠X.env.locals)(hc:∀ x c,X.env.cells.lookup x=some c→c≠a)(hp:∀ p∈X.pn++pins,p.1≠a)
  (g:s.heap.get? a=some o) (new:ObjOk X.prog X.w (upd H a u) s.heap a u):Inv X pins σ (upd H a u) s:=by
 have ne:∀ {b:Addr} {v:HO},H b=some v→b≠a:=λq z=>by rw[z,hn] at q;cases q
 have:=I.step (ch:=[a]) (h':=s.heap) (H':=upd H a u) (g':=s.gens) (d':=s.drawn) (t':=s.toks) (λb z=>by
   have:b=a:=by simpa using z
   subst this
   exact⟨.inr ha,hl,hc,hp⟩) (λb o _ _ _ g n=>g) (λb o _ _ _ g n=>⟨o.slots,g⟩) (λb o z g n=>by rw[yai (λq=>z (by rw[q];simp))];exact n) (λb o _ g=>⟨o,g⟩) (λb xs q=>by rw[yai (ne q)];exact q) (λb o u q=>by rw[yai (ne q)];exact q) (λb ps q=>⟨#[],by rw[yai (ne q),q];simp⟩) (λm h=>h) (λb v q=>?_) I.bare
 ·exact this
 ·by_cases z:b=a
  ·subst z
   rw[yab] at q
   cases q
   exact new
  ·rw[yai z] at q
   exact(I.hok b v q).stay (λ_ _ _ g=>g) (λc hc=>by rw[yai (ne hc)];exact hc) (λc xs hc=>by rw[yai (ne hc)];exact hc)
def SameT (T:Addr)(H H':Hp):Prop:=∀ b o,b≠T→H b=some o→H' b=some o
theorem SameT.refl {T:Addr}{H:Hp}:SameT T H H:=λ_ _ _ q=>q
theorem Same.t {T:Addr}{H H':Hp}(a:Same H H'):SameT T H H':=λc o _ q=>a c o q
def CodeK (H:Hp)(c:Addr)(qual:Str):Prop:=∃ o vs t,H c=some (stays c o)∧o.data=.fields vs∧vs[1]?=some (.str qual t)
def TabK (H:Hp)(T:Addr)(pos:Pos)(qual:Str):Prop:=∃ ps,H T=some (.tbl ps)∧TriplesOk ps.toList∧(codeAmong pos ps.toList=none∨∃ c',c'≠T∧codeAmong pos ps.toList=some (.ref c')∧CodeK H c' qual)
def FnK (H:Hp)(fa:Addr)(name qual:Str)(params:Arguments)(body:List Stmt)(scope:Scope)(clos:List (Str×Addr)):Prop :=
 ∃ doc pm c' ctv,H fa=some (stays fa (PySem.W.fnMade name qual params body scope clos doc pm c' ctv))∧CodeK H c' qual
theorem CodeK.rec {P:Program}{w:World}{H:Hp}{h:Heap}{c:Addr}{qual:Str}(x:CodeK H c qual)(ok:HOk P w H h):h.CodeRec (.ref c) qual:=by
 obtain⟨o,vs,t,e,hd,hv⟩:=x
 exact⟨c,o,vs,t,rfl,ok.stays e,hd,hv⟩
theorem lk2 {α:Type}{x y a:Str}{m n d:α}(h:([(x,m),(y,n)]:List (Str×α)).lookup a=some d):(a=x∧d=m)∨(a=y∧d=n):=by
 rw[List.lookup_cons] at h
 cases q:a==x with
 | true=>rw[q] at h;cases h;exact .inl ⟨by simpa using q,rfl⟩
 | false =>
  rw[q] at h
  rw[List.lookup_cons] at h
  cases q2:a==y with
  | true=>rw[q2] at h;cases h;exact .inr ⟨by simpa using q2,rfl⟩
  | false=>rw[q2] at h;cases h
def ymb (T:Addr)(H:Hp):Prop:=∀ b,b≠T→H b=none∨∃ o xs,H b=some (.frz o (.lst xs))
theorem yje {P:Program}{w:World}{K:PySem.W.Frag}{mg mb:Str→Option Value}{CX:CXT}{k:Nat}{fa a cc T:Addr}{fd:FuncData}{x:Str}{sp:Sp}{s₁:Shared}{vs:List Value}{ns:List Int}
  (KX:K.In s₁.heap) (hns:s₁.heap.Ns mainGlobals mg) (hb:s₁.heap.Ns builtinsNs mb) (hbb:∀ x:Str,x≠"__name__" → mb x=bootBuiltins x) (hlim:s₁.heap.NoLimit) (hg:s₁.gens=#[])
  (ha:s₁.heap.get? a=some { cls:=.type "list",data:=.seq vs.toArray }) (hi:IntsAre vs ns) (hl:ns.length≤sizeLine) (hr:Room k callerA)
  (C:PySem.W.CodeHd s₁.heap cc T) (hT:s₁.heap.get? T=some (PySem.W.tabObj #[])) (hKT:K.lookup T=none) (hB:∃ bm ob,mg "__builtins__"=some (.ref bm)∧bm≠builtinsNs∧s₁.heap.get? bm=some ob∧ob.cls=.type "module" ∧ ob.dict=some builtinsNs∧ob.data=.plain)
  (F:∀ base:Heap,K.In base→base.Ns mainGlobals mg→PySem.W.CodeHd base cc T→base.BuiltinsAt mg T→mainGlobals≠T→FnOk P w K mg base CX k fa fd [x] sp) (hbind:∀ (s:Shared) (u:Value),BindsTo s fd ⟨[u],[]⟩ [(x,u)])
  (hsp:∀ H:Hp,ymb T H→H T=some (.tbl #[])→SqL K H a (ns.map V.int)→sp [.ref a] H (λv _=>v=.bl true) λ_ _ _=>False)
  (hCX:∀ H e s',CX [] H s₁ (λ_ _ _=>False) e s'→False) :
  codeAny (model P w) callerA (.call (.ref fa) ⟨[.ref a],[]⟩) (λr s'=>r=.ok (.ret (.bool true))∧OldK s₁.heap s'.heap∧s'.os=s₁.os∧AllBare s'.gens) s₁:=by
 have rv:=ygz hi
 have lenV:=hi.length
 have naT:a≠T:=λz=>by
  rw[z,hT] at ha
  have d:Data.fields #[]=Data.seq vs.toArray _:=congrArg Obj.data (Option.some.inj ha)
  cases d
 have core:∀ H:Hp,ymb T H→H T=some (.tbl #[])→SqL K H a (ns.map V.int)→HOk P w H s₁.heap→(∀ b,H b≠none→b=a∨b=T)→(H a≠none→K.lookup a=none) →
   codeAny (model P w) callerA (.call (.ref fa) ⟨[.ref a],[]⟩) (λr s'=>r=.ok (.ret (.bool true))∧OldK s₁.heap s'.heap∧s'.os=s₁.os∧AllBare s'.gens) s₁:=by
  intro H hO hHT hS hok hA hK
  have base_of:∀ {b:Addr} {o:Obj},s₁.heap.get? b=some o→H b=none→(yi5 s₁.heap H).get? b=some o:=λe n=>ykI e n
  have noH:∀ {b:Addr} {o:Obj},s₁.heap.get? b=some o→(∀ xs n,o.data≠.seq xs n)→(∀ ps,o≠PySem.W.tabObj ps)→H b=none:=λ{b o} e d d2=>by
   cases q:H b with
   | none=>rfl
   | some u =>
    rcases hA b (by rw[q];simp) with rfl | rfl
    ·rw[ha] at e;cases e;exact absurd rfl (d _ _)
    ·rw[hT] at e;cases e;exact absurd rfl (d2 _)
  have nsK:∀ {b:Addr} {m:Str→Option Value},s₁.heap.Ns b m→(yi5 s₁.heap H).Ns b m:=λ{b m} ⟨o,es,ep,e,d,r⟩=>⟨o,es,ep,base_of e (noH e (λxs n z=>by rw[d] at z;cases z) (λps z=>by rw[z] at d;cases d)),d,r⟩
  have hKb:K.In (yi5 s₁.heap H):=λb o e=>base_of (KX b o e) (by
   cases q:H b with
   | none=>rfl
   | some u =>
    rcases hA b (by rw[q];simp) with rfl | rfl
    ·rw[hK (by rw[q];simp)] at e;cases e
    ·rw[hKT] at e;cases e)
  have hM:Mod K mg (yi5 s₁.heap H):=⟨hKb,nsK hns,⟨mb,nsK hb,hbb⟩,let ⟨mc,h1,h2⟩:=hlim;⟨mc,nsK h1,h2⟩⟩
  have e0:Env0 P w K mg (yi5 s₁.heap H) callerA [] s₁ H:=⟨rfl,hM,λb o e=>ymf e,Nat.le_of_eq (yj3 _ _),trivial,λb hb=>absurd (show b∈([]:List Addr) from hb) (by simp),hok,.of_eq hg⟩
  have hgT:mainGlobals≠T:=λz=>by
   obtain⟨o,es,ep,e,d,_⟩:=hns
   rw[z,hT] at e;cases e;cases d
  have Cb:PySem.W.CodeHd (yi5 s₁.heap H) cc T:=by
   obtain⟨o,vs',file,tf,flags,tg,inF,text,tt,e1,e2,e3,r⟩:=C
   exact⟨o,vs',file,tf,flags,tg,inF,text,tt,base_of e1 (noH e1 (λxs n z=>by rw[e3] at z;cases z) (λps z=>by rw[z] at e2;cases e2)),e2,e3,r⟩
  have Bb:(yi5 s₁.heap H).BuiltinsAt mg T:=by
   obtain⟨bm,ob,b1,b2,b3,b4,b5,b6⟩:=hB
   refine⟨bm,ob,b1,b2,λz=>?_,λz=>?_,base_of b3 (noH b3 (λxs n z=>by rw[b6] at z;cases z) (λps z=>by rw[z] at b4;cases b4)),b4,b5,b6⟩
   ·obtain⟨o,es,ep,e,d,_⟩:=hns
    rw[← z,b3] at e;cases e;rw[b6] at d;cases d
   ·rw[z,hT] at b3;cases b3;cases b4
  refine codeAny_mono ((F _ hKb (nsK hns) Cb Bb hgT).run callerA [] s₁ H ⟨[.ref a],[]⟩ [.ref a] [.ref a] _ _ hr e0 (hbind s₁ (.ref a)) (.cons rfl .nil) (hsp H hO hHT hS)) λr s' h=>?_
  cases r with
  | error e=>exact(hCX H e s' h).elim
  | ok fl =>
   cases fl with
   | next=>exact False.elim h
   | brk=>exact False.elim h
   | cont=>exact False.elim h
   | ret u =>
    obtain⟨v,H',os,bare,un,hok',r',q⟩:=h
    have q':v=.bl true:=q
    subst q'
    obtain rfl:u=Value.bool true:=r'
    have keep:∀ b o,b≠T→s₁.heap.get? b=some o→s'.heap.get? b=some o:=λb o nb e=>by
     cases q:H b with
     | none=>exact un.keep b o e q (by intro z;exact absurd (show b∈([]:List Addr) from z) (by simp)) (by simp)
     | some u =>
      rcases hO b nb with z | ⟨ob,xs,z⟩
      ·rw[q] at z;cases z
      ·have z2:=un.frzs b ob _ z
       obtain⟨e1,_⟩:=hok b _ z
       obtain⟨e2,_⟩:=hok' b _ z2
       rw[e] at e1;cases e1
       exact e2
    obtain⟨more,em⟩:=un.tbls T #[] hHT
    have gT:s'.heap.get? T=some (PySem.W.tabObj (#[]++more)):=hok' T _ em
    refine⟨rfl,⟨λb o e=>?_,λb o e=>?_⟩,os,bare⟩
    ·by_cases z:b=T
     ·subst z
      rw[hT] at e
      cases e
      exact .inr (.inl ⟨(C.tab hT).isCodeTable,rfl,#[],more,rfl,gT⟩)
     ·exact .inl (keep b o z e)
    ·by_cases z:b=T
     ·subst z;exact⟨_,gT⟩
     ·exact⟨o,keep b o z e⟩
 cases hk:K.lookup a with
 | some o =>
  have e:=KX a o hk
  rw[ha] at e
  cases e
  refine core (λb=>if b=T then some (.tbl #[]) else none) (λb nb=>.inl (if_neg nb)) (if_pos rfl) (.inr ⟨_,vs.toArray,_,hk,rfl,rfl,rfl,by rw[List.size_toArray,lenV];exact hl,by simpa using rv⟩) (λb u z=>?_) (λb z=>?_) λz=>absurd (if_neg naT) z
  ·by_cases hb:b=T
   ·have z':=(if_pos hb).symm.trans z
    cases z'
    subst hb
    exact hT
   ·have z':=(if_neg hb).symm.trans z
    cases z'
  ·by_cases hb:b=T
   ·exact .inr hb
   ·exact absurd (if_neg hb) z
 | none =>
  refine core (λb=>if b=T then some (.tbl #[]) else if b=a then some (.frz { cls:=.type "list",data:=.seq vs.toArray } (.lst (ns.map V.int))) else none) (λb nb=>?_) (if_pos rfl) (.inl (.inr ⟨{ cls:=.type "list",data:=.seq vs.toArray },(if_neg naT).trans (if_pos rfl)⟩)) (λb u z=>?_) (λb z=>?_) λ_=>hk
  ·by_cases hb:b=a
   ·exact .inr ⟨_,_,(if_neg nb).trans (if_pos hb)⟩
   ·exact .inl ((if_neg nb).trans (if_neg hb))
  ·by_cases hbT:b=T
   ·have z':=(if_pos hbT).symm.trans z
    cases z'
    subst hbT
    exact hT
   ·by_cases hb:b=a
    ·have z':=(if_pos hb).symm.trans ((if_neg hbT).symm.trans z)
     cases z'
     subst hb
     exact⟨ha,by rw[List.length_map];exact hl,vs,_,rv,ha⟩
    ·have z':=(if_neg hb).symm.trans ((if_neg hbT).symm.trans z)
     cases z'
  ·by_cases hbT:b=T
   ·exact .inr hbT
   ·by_cases hb:b=a
    ·exact .inl hb
    ·exact absurd ((if_neg hbT).trans (if_neg hb)) z
theorem walk_ofT {l:PySem.W.OpenLaw}{n k:Nat}{q:Program}{loose:List Str}{XP:(Str→Option Value)→Heap→Prop}{YP:World→Heap→Prop}{d dm:DefRec}{maker:Str}{K:Params→PySem.W.Frag}{CX:World→CXT}{sp:World→Addr→Sp}{x:Str}
  (hn:l.most=some n) (hn2:n≤sizeLine) (hdf:d.params.defaults=[]) (hr:Room k callerA)
  (hY:∀ (w:World) (h:Heap),YP w h→(K w.params).In h) (hrec:(recsOf q).find? (λe=>e.name==maker)=some dm)
  (F:∀ (w:World) (mg:Str→Option Value) (fa:Addr) (h:Heap),(K w.params).In h→h.Ns mainGlobals mg→mg d.name=some (.ref fa) →
   ∃ fd cc T,PySem.W.tabIn (K w.params) maker=some (cc,T)∧(K w.params).lookup T=none∧(∀ (s:Shared) (u:Value),BindsTo s fd ⟨[u],[]⟩ [(x,u)]) ∧
    ∀ base:Heap,(K w.params).In base→base.Ns mainGlobals mg→PySem.W.CodeHd base cc T→base.BuiltinsAt mg T→mainGlobals≠T→FnOk l.prog w (K w.params) mg base (CX w) k fa fd [x] (sp w T))
  (hsp:∀ (w:World) (H:Hp) (a T:Addr) (ns:List Int),ns.length≤n→(∀ v∈ns,Builtin.Int.intBits v≤2 ^ 20)→ymb T H→H T=some (.tbl #[])→SqL (K w.params) H a (ns.map V.int)→sp w T [.ref a] H (λv _=>v=.bl true) λ_ _ _=>False)
  (hCX:∀ (w:World) (H:Hp) (s:Shared) (e:Value) (s':Shared),CX w [] H s (λ_ _ _=>False) e s'→False) :
  PySem.W.WalkO q loose XP YP l.row.toRowW d [] (λf vs=>PySem.call f vs):=by
 refine Att.attach_callB hn hdf λw s₀ s₁ mg mb fa o pm cd doc a vs ns G Y ho hd hcd hmg hobj hints hlen hbits hg=>?_
 have KX:=hY w _ Y
 obtain⟨fd,cc,T,ht,hKT,hb,hF⟩:=F w mg fa _ KX G.T.g hmg
 obtain⟨C,hT⟩:=PySem.W.tab_of G.T KX hrec ht
 exact yje KX G.T.g G.T.b G.T.builtins G.T.nolimit hg hobj hints (Nat.le_trans hlen hn2) hr C hT hKT G.T.bmain hF hb (λH hO hHT hS=>hsp w H a T ns hlen hbits hO hHT hS) λH e s'=>hCX w H s₁ e s'
def yoZ (H:Hp)(fa:Addr):Prop:=∃ oc od fd sl,H fa=some (stays fa ⟨oc,od,.func fd,sl⟩)
theorem FnK.isFn {H:Hp}{fa:Addr}{name qual:Str}{params:Arguments}{body:List Stmt}{scope:Scope}{clos:List (Str×Addr)}(F:FnK H fa name qual params body scope clos):yoZ H fa:=by
 obtain⟨doc,pm,c',ctv,e,_⟩:=F
 exact⟨_,_,_,_,e⟩
structure yqx (P:Program) (w:World) (K:PySem.W.Frag) (mg:Str→Option Value) (base:Heap) (k:Nat) (spX:Addr→V→Hp→VK→Prop):Prop where
 run:∀ (A:Around) (outer:List Env) (s:Shared) (H:Hp) (fa:Addr) (u:Value) (xv:V) (Q:VK) (E:XK),Room k A→Env0 P w K mg base A outer s H→RelV xv u→spX fa xv H Q→codeAny (model P w) A (.call (.ref fa) ⟨[u],[]⟩) (CR CX0 outer P w H s Q E) s
section
variable {X:Cx} {k i:Nat} {x:Str} {p pos:Pos} {e:Expr} {t:TA} {spX:Addr→V→Hp→VK→Prop}
end
section
variable {X:Cx}
end
structure yqm (X:Cx) (scope:Scope) (NB:List Str) (cap:List (Option Nat)) (v:Str):Prop where
 kind:scope.kind=.function
 cell:∀ y∈scope.names,y.2=.cell→y.1=v
 nv:∀ y∈scope.names,y.2=.free→y.1≠v
 names:∀ y∈scope.names,y.2=.local→scope.names.lookup y.1=some .local
 free:∀ y∈scope.names,y.2=.free→(X.env.kindOf y.1=some .cell∨X.env.kindOf y.1=some .free)
 len:cap.length=NB.length
 caps:∀ (i:Nat) (x:Str) (j:Nat),NB[i]?=some x→cap[i]?=some (some j)→X.N[j]?=some x∧(x,NameKind.free)∈scope.names∧((relabel scope X.env).names.lookup x=some .cell∨(relabel scope X.env).names.lookup x=some .free)
 cf:∀ n cl,cellsFrom n scope.names cl=(v,n) :: cl
 pc:∀ h,pushCells h scope.names=h.push { cls:=.type "cell",data:=.cell none }
section
variable {X:Cx} {pins:List (Addr×Obj)} {σ:St} {H:Hp} {s:Shared} {scope:Scope} {NB:List Str} {cap:List (Option Nat)} {v:Str}
end
section
variable {X:Cx}
def yiG (K:PySem.W.Frag):R2:=λx y H Q=>∃ a b xs,x=.ref a∧y=.ref b∧SqL K H a xs∧SqL K H b []∧Q (.bl (!xs.isEmpty)) H
theorem yeO (hu:X.A.units+64 < cLine):OpR X (compareOp .NotEq) (yiG X.K):=by
 intro pins s σ H x y v u Q I rx ry h
 obtain⟨a,b,xs,rfl,rfl,ha,hb,q⟩:=h
 cases rx
 cases ry
 obtain⟨its,r,p,_⟩:=I.list ha
 obtain⟨its',r',p',_⟩:=I.list hb
 cases r'
 have hA:X.A.units < cLine:=by omega
 cases r with
 | nil=>exact SeqAt.RcNeAt.lists p.isList p'.isList rfl hA (e:=λ_=>true) (λj h1 _=>absurd h1 (Nat.not_lt_zero _)) _ _ _ _ ⟨.bl false,H,I,rfl,q⟩
 | cons _ _=>exact SeqAt.RcNeAt.lists_lengths p.isList p'.isList (by simp) hA _ _ _ _ ⟨.bl true,H,I,rfl,q⟩
theorem yme {K:PySem.W.Frag}(k:Knd):PySem.W.kitAny K (.type k.name) [.type "tuple",.type "list"]=some (decide (k=.tup)||decide (k=.lst)):=by
 have a:=yip (K:=K) k ykD
 have b:=yip (K:=K) k yka
 rw[yfB] at a
 rw[yhQ] at b
 unfold PySem.W.kitAny
 rw[a]
 cases k<;>first | rfl | (unfold PySem.W.kitAny;rw[b];rfl)
def ylC:List V→Hp→VK→Prop:=λxs H Q=>∃ x p k,xs=[x,.ref p]∧H p=some (.tup [.ty "tuple",.ty "list"])∧KndOf H x k∧k≠.dct∧Q (.bl (decide (k=.tup)||decide (k=.lst))) H
theorem yb7:ycd X (.builtin "isinstance") ylC:=by
 intro pins s σ H xs us Q I r h
 obtain⟨x,p,k,rfl,hp,hk,nd,q⟩:=h
 obtain⟨u,v,rfl,rx,rv⟩:=yji r
 cases rv
 obtain⟨_,its,rt,ob,hob,hc,n,hd⟩:=(show ObjOk X.prog X.w H s.heap p (.tup [.ty "tuple",.ty "list"]) from I.hok p _ hp)
 obtain⟨c,dd,dt,sl⟩:=ob
 dsimp only at hc hd
 subst hc hd
 match its,rt with
 | [_,_],.cons e1 (.cons e2 .nil) =>
  cases (show _=Value.type "tuple" from e1)
  cases (show _=Value.type "list" from e2)
  have fin:∀ tk,EP X pins σ Q (.bool (decide (k=.tup)||decide (k=.lst))) { s with toks:=tk }:=λtk=>⟨.bl _,H,I.tok tk,rfl,q⟩
  have e:=yme (K:=X.K) k
  cases hk with
  | non=>cases (show u=Value.none from rx);exact PySem.W.kia_tup PySem.W.kitx_none I.kIn True.intro hob e (λz=>nomatch z) fin
  | bl b=>cases (show u=Value.bool b from rx);exact PySem.W.kia_tup PySem.W.kitx_bool I.kIn True.intro hob e (λz=>nomatch z) fin
  | int i=>obtain⟨t,q'⟩:=(show ∃ t,u=Value.int i t from rx);cases q';exact PySem.W.kia_tup PySem.W.kitx_int I.kIn True.intro hob e (λz=>nomatch z) fin
  | str y=>obtain⟨t,q'⟩:=(show ∃ t,u=Value.str y t from rx);cases q';exact PySem.W.kia_tup PySem.W.kitx_str I.kIn True.intro hob e (λz=>nomatch z) fin
  | @lst a xs ea =>
   cases (show u=Value.ref a from rx)
   obtain⟨_,_,n',_,h1⟩:=(show ObjOk X.prog X.w H s.heap a (.lst xs) from I.hok a _ ea)
   exact PySem.W.kia_tup PySem.W.kitx_list I.kIn ⟨_,h1,rfl⟩ hob e (λz=>nomatch z) fin
  | @tup a xs ea =>
   cases (show u=Value.ref a from rx)
   obtain⟨_,_,_,o,h1,h2,_⟩:=(show ObjOk X.prog X.w H s.heap a (.tup xs) from I.hok a _ ea)
   exact PySem.W.kia_tup PySem.W.kitx_tuple I.kIn ⟨_,h1,h2⟩ hob e (λz=>nomatch z) fin
  | dct ea=>exact absurd rfl nd
theorem Inv.tupBut {pins:List (Addr×Obj)}{σ:St}{H:Hp}{s:Shared}{ch:List Addr}{vs:List V}{its:List Value}{h':Heap}{t':Nat}(I:Inv X pins σ H s)(hf:∀ b∈ch,FpOk X pins H b)
  (kp:∀ b o,b∉ch→s.heap.get? b=some o→h'.get? b=some o) (z:vs.length≤sizeLine) (r:Vals vs its) (g:IsTup h' s.heap.objs.size its.toArray):Inv X pins σ (upd H s.heap.objs.size (.tup vs)) { s with heap:=h',toks:=t' }:=by
 have fr:H s.heap.objs.size=none:=I.hok.fresh (Nat.le_refl _)
 have new:∀ {b:Addr} {o:Obj},s.heap.get? b=some o→b≠s.heap.objs.size:=λh=>Nat.ne_of_lt (Heap.lt_size h)
 have old:∀ {b:Addr} {u:HO},H b=some u→upd H s.heap.objs.size (.tup vs) b=some u:=λh=>by rw[yai (yad h fr)];exact h
 have off:∀ b u,H b=some u→b∉ch:=λb u h m=>by rw[(hf b m).1] at h;cases h
 refine I.step (g':=s.gens) (d':=s.drawn) (ch:=ch) (λb hb=>⟨(hf b hb).2.2.2.1,(hf b hb).2.1,(hf b hb).2.2.2.2⟩) (λb o _ _ n e _=>kp b o n e) (λb o _ _ n e _=>⟨o.slots,kp b o n e⟩) (λb o _ e n=>by rw[yai (new e)];exact n)
  (λb o n e=>⟨o,kp b o n e⟩) (λ_ _ h=>old h) (λ_ _ _ h=>old h) (λ_ ps h=>⟨#[],by rw[old h];simp⟩) (λm hm=>?_) (λb u h=>?_) I.bare
 ·exact hm.at λo e=>kp _ o (λn=>(hf _ n).2.1 rfl) e
 ·by_cases hb:b=s.heap.objs.size
  ·subst hb
   rw[yab] at h
   cases h
   exact⟨z,its,r,g⟩
  ·rw[yai hb] at h
   refine(I.hok b u h).stay (λc v hc q=>kp c v ?_ q) (λ_ h=>old h) λ_ _ h=>old h
   exact hc.elim (λe=>e▸off b u h) λe=>off c _ e
def Itz (K:PySem.W.Frag)(a b:Addr):It :=
 ⟨λi H=>∃ xs ys x y,SqL K H a xs∧SqL K H b ys∧xs[i]?=some x∧ys[i]?=some y,λi H x H'=>∃ p v u,x=.ref p∧H p=none∧H'=upd H p (.tup [v,u])∧∀ xs ys,SqL K H a xs→SqL K H b ys→xs[i]?=some v∧ys[i]?=some u,
  λi H=>∃ xs ys,SqL K H a xs∧SqL K H b ys∧(xs.length≤i∨ys.length≤i)⟩
structure ynj (z TI TO i1 i2:Addr):Prop where
 a1:TI≠z
 a2:TO≠z
 a3:i1≠z
 a4:i2≠z
 a5:TI≠TO
 a6:TI≠i1
 a7:TI≠i2
 a8:TO≠i1
 a9:TO≠i2
 a0:i1≠i2
def ym7 (z TI TO i1 i2 a b:Addr)(i:Nat)(h:Heap):Prop:=IsZip h z TI TO .none∧IsPair h TI (.ref i1) (.ref i2)∧(∃ u v,IsPair h TO u v)∧h.IsListIter i1 a i∧h.IsListIter i2 b i
theorem ybO {h:Heap}{a b:Addr}{o p:Obj}(ga:h.get? a=some o)(gb:h.get? b=some p)(n:o.cls≠p.cls):a≠b:=λe=>n (by rw[e] at ga;rw[Option.some.inj (ga.symm.trans gb)])
theorem yfz {h:Heap}{z TI TO i1 i2 a b:Addr}{i:Nat}{xs ys:Array Value}(F:ynj z TI TO i1 i2)(st:ym7 z TI TO i1 i2 a b i h)(ha:h.IsList a xs)(hb:h.IsList b ys):ZipApart z TI TO i1 i2 a b:=by
 obtain⟨s1,s2,⟨u,v,s3⟩,⟨o4,s4,c4,_⟩,⟨o5,s5,c5,_⟩⟩:=st
 obtain⟨oa,ga,ca,_⟩:=ha
 obtain⟨ob,gb,cb,_⟩:=hb
 exact⟨F.a1,F.a2,F.a3,F.a4,F.a5,F.a6,F.a7,F.a8,F.a9,F.a0,ybO ga s1 (by rw[ca];show Value.type "list" ≠ .type "zip";decide),ybO ga s3 (by rw[ca];show Value.type "list" ≠ .type "tuple";decide),ybO ga s4 (by rw[ca,c4];decide),ybO ga s5 (by rw[ca,c5];decide),
  ybO gb s1 (by rw[cb];show Value.type "list" ≠ .type "zip";decide),ybO gb s3 (by rw[cb];show Value.type "list" ≠ .type "tuple";decide),ybO gb s4 (by rw[cb,c4];decide),ybO gb s5 (by rw[cb,c5];decide)⟩
theorem ykV {P:Program}{w:World}{K:PySem.W.Frag}{elts:List Expr}{x1}{tp:Pos}{z TI TO i1 i2 a b:Addr}(F:ynj z TI TO i1 i2):ylH P w K (.Tuple elts x1 tp) (Itz K a b) [z,TI,TO,i1,i2] z (ym7 z TI TO i1 i2 a b) where
 mem:=by simp
 obj:=λi h st c hc=>by
  obtain⟨s1,s2,⟨u,v,s3⟩,⟨o4,s4,_,d4⟩,⟨o5,s5,_,d5⟩⟩:=st
  simp only[List.mem_cons,List.not_mem_nil,or_false] at hc
  rcases hc with rfl | rfl | rfl | rfl | rfl
  ·exact⟨_,s1,λv=>nofun⟩
  ·exact⟨_,s2,λv=>nofun⟩
  ·exact⟨_,s3,λv=>nofun⟩
  ·exact⟨_,s4,λv e=>by rw[d4] at e;cases e⟩
  ·exact⟨_,s5,λv e=>by rw[d5] at e;cases e⟩
 keep:=λi h h' st k=>by
  obtain⟨s1,s2,⟨u,v,s3⟩,s4,s5⟩:=st
  exact⟨k _ (by simp) _ s1,k _ (by simp) _ s2,⟨u,v,k _ (by simp) _ s3⟩,s4.at λo e=>k _ (by simp) o e,s5.at λo e=>k _ (by simp) o e⟩
 item:=by
  intro X hP hw hK hc i pins s σ H E I hf st hg
  subst hP hw hK
  obtain⟨xs,ys,x,y,hx,hy,ex,ey⟩:=hg
  obtain⟨itx,rx,px,_⟩:=I.list hx
  obtain⟨ity,ry,py,_⟩:=I.list hy
  obtain⟨u,eu,ru⟩:=rx.get ex
  obtain⟨v,ev,rv⟩:=ry.get ey
  have D:=yfz F st px.isList py.isList
  obtain⟨s1,s2,⟨p,q,s3⟩,s4,s5⟩:=st
  refine wpAny_pyNext_zip_item D s1 s2 s3 s4 s5 px.isList py.isList (x:=u) (y:=v) (by simpa using eu) (by simpa using ev) λh1 b1 b2 b3 b4 b5 b6 kp=>?_
  refine⟨_,rfl,wpAny_letOwnedTupleGo_zip b1 λh2 c1 sb=>?_⟩
  have sb:Heap.SameBut z h1 h2:=sb
  have zl:s.heap.objs.size≠z:=Nat.ne_of_gt (Heap.lt_size s1)
  have fr:H s.heap.objs.size=none:=I.hok.fresh (Nat.le_refl _)
  have k2:∀ c o,c∉[z,TI,TO,i1,i2]→s.heap.get? c=some o→h2.get? c=some o:=λc o n e=>by
   simp only[List.mem_cons,List.not_mem_nil,or_false,not_or] at n
   exact(sb.2 c n.1).trans (kp c o n.1 n.2.2.1 n.2.2.2.1 n.2.2.2.2 e)
  have T2:IsPair h2 TI (.ref i1) (.ref i2):=(sb.2 _ F.a1).trans (kp _ _ F.a1 F.a5 F.a6 F.a7 s2)
  refine⟨.ref s.heap.objs.size,_,I.tupBut (t':=s.toks) hf k2 (vs:=[x,y]) (its:=[u,v]) (by show 2≤sizeLine;decide) (.cons ru (.cons rv .nil)) ⟨_,(sb.2 _ zl).trans b5,rfl,_,rfl⟩,rfl,⟨_,x,y,rfl,fr,rfl,λxs' ys' hx' hy'=>by rw[I.list_inj hx' hx,I.list_inj hy' hy];exact⟨ex,ey⟩⟩,
   ⟨c1,T2,⟨_,_,(sb.2 _ F.a2).trans b2⟩,b3.extBut sb.extBut F.a3,b4.extBut sb.extBut F.a4⟩,λc hcm=>?_⟩
  have nb:c≠s.heap.objs.size:=by
   obtain⟨o4,g4,_⟩:=s4
   obtain⟨o5,g5,_⟩:=s5
   simp only[List.mem_cons,List.not_mem_nil,or_false] at hcm
   rcases hcm with rfl | rfl | rfl | rfl | rfl
   ·exact zl.symm
   ·exact Nat.ne_of_lt (Heap.lt_size s2)
   ·exact Nat.ne_of_lt (Heap.lt_size s3)
   ·exact Nat.ne_of_lt (Heap.lt_size g4)
   ·exact Nat.ne_of_lt (Heap.lt_size g5)
  rw[yai nb]
  exact(hf c hcm).1
 done:=by
  intro X hP hw hK hc i pins s σ H E I hf st hg
  subst hP hw hK
  obtain⟨xs,ys,hx,hy,he⟩:=hg
  obtain⟨itx,rx,px,_⟩:=I.list hx
  obtain⟨ity,ry,py,_⟩:=I.list hy
  have D:=yfz F st px.isList py.isList
  obtain⟨s1,s2,⟨p,q,s3⟩,s4,s5⟩:=st
  have l1:=rx.length
  have l2:=ry.length
  refine wpAny_pyNext_zip_end (I.ok.hd hc) D s1 s2 s3 s4 s5 px.isList py.isList (he.imp (λh=>by simp;omega) λh=>by simp;omega) λh1 kp=>⟨rfl,?_⟩
  have off:∀ b u,H b=some u→b∉[z,TI,TO,i1,i2]:=λb u h m=>by rw[(hf b m).1] at h;cases h
  have k2:∀ c o,c∉[z,TI,TO,i1,i2]→s.heap.get? c=some o→h1.get? c=some o:=λc o n e=>by
   simp only[List.mem_cons,List.not_mem_nil,or_false,not_or] at n
   exact kp c o n.1 n.2.2.1 n.2.2.2.1 n.2.2.2.2 e
  exact I.step (g':=s.gens) (d':=s.drawn) (t':=s.toks) (ch:=[z,TI,TO,i1,i2]) (λb hb=>⟨(hf b hb).2.2.2.1,(hf b hb).2.1,(hf b hb).2.2.2.2⟩) (λb o _ _ n e _=>k2 b o n e) (λb o _ _ n e _=>⟨o.slots,k2 b o n e⟩) (λ_ _ _ _ n=>n)
   (λb o n e=>⟨o,k2 b o n e⟩) (λ_ _ h=>h) (λ_ _ _ h=>h) (λ_ ps h=>⟨#[],by rw[h];simp⟩) (λm hm=>hm.at λo e=>k2 _ o (λn=>(hf _ n).2.1 rfl) e) (λb u h=>(I.hok b u h).stay (λc v hc q=>k2 c v (hc.elim (λe=>e▸off b u h) λe=>off c _ e) q) (λ_ h=>h) λ_ _ h=>h) I.bare
 self:=λ_ _ _ _ _ st h=>wpAny_pyIter_zip st.1 h
theorem ykq:bootBuiltins "zip"=some (.type "zip"):=by decide +kernel
theorem ykk {K:PySem.W.Frag}{a b D:Addr}{xs ys:List V}{g:TG}{tc:TT}{te:TE}{Fin:Hp→Prop}{σ:St}{H:Hp}(Pv:Nat→St→Hp→Prop)(h0:Pv 0 σ H)(hl:∀ i σ H,Pv i σ H→SqL K H a xs∧SqL K H b ys)
  (hs:∀ i x y σ H p,xs[i]?=some x→ys[i]?=some y→Pv i σ H→H p=none→g (.ref p) σ (upd H p (.tup [x,y])) fun σ2 H2=>tc σ2 H2 λb H3=>if b=true then te σ2 H3 λy H4=>∃ ys,H4 D=some (.lst ys)∧ys.length < sizeLine∧Pv (i+1) σ2 (upd H4 D (.lst (ys++[y]))) else Pv (i+1) σ2 H3)
  (hd:∀ i σ H,i=min xs.length ys.length→Pv i σ H→Fin H):∃ W:Nat→Nat→St→Hp→Prop,(∃ m,W 0 m σ H)∧yey (Itz K a b) g tc te D Fin W:=by
 refine⟨λi m σ H=>m=min xs.length ys.length - i∧i≤min xs.length ys.length∧Pv i σ H,⟨min xs.length ys.length,by simp,Nat.zero_le _,h0⟩,?_⟩
 rintro i m σ H ⟨rfl,hi,p⟩
 obtain⟨q1,q2⟩:=hl i σ H p
 by_cases hlt:i < min xs.length ys.length
 ·have l1:i < xs.length:=by omega
  have l2:i < ys.length:=by omega
  refine .inr ⟨⟨xs,ys,xs[i],ys[i],q1,q2,by simp[l1],by simp[l2]⟩,Pv (i+1),fun σ' H' p'=>⟨min xs.length ys.length - (i+1),by omega,rfl,hlt,p'⟩,λx H' y=>?_⟩
  obtain⟨c,v,u,e1,e2,e3,y⟩:=y
  subst e1 e3
  obtain⟨y1,y2⟩:=y xs ys q1 q2
  exact hs i v u σ H c y1 y2 p e2
 ·exact .inl ⟨⟨xs,ys,q1,q2,by omega⟩,hd i σ H (by omega) p⟩
end
def yq8:Int×Int→DictEntry→Bool
 | (k,v),⟨h,.int k' _,.int v' _⟩=>decide (h=hashInt k)&&decide (k=k')&&decide (v=v')
 | _,_=>false
def ynD:List (Int×Int)→List DictEntry→Bool
 | [],[]=>true
 | q :: qs,e :: es=>yq8 q e&&ynD qs es
 | _,_=>false
structure yq9 (K:PySem.W.Frag) (a:Addr) (qs:List (Int×Int)):Prop where
 ne:(a==sysModules)=false
 nd:(qs.map (·.1)).Nodup
 at':∃ (es:Array DictEntry) (ep:Nat),K.lookup a=some ⟨.type "dict",none,.dict es ep,#[]⟩∧ynD qs es.toList=true
section
variable {X:Cx}
end
section
variable {X:Cx} {pins l:List (Addr×Obj)} {σ:St} {H:Hp} {s:Shared} {A:Around} {E:Value→Shared→Prop} {a kS:Addr} {b:Bool} {vs:List Value} {kz:List Int} {e1 n:Nat} {f:Value}
theorem Inv.hold {o:Obj}(I:Inv X (pins++l) σ H s)(fp:FpOk X pins H a)(g:s.heap.get? a=some o)(nc:∀ v,o.data≠.cell v):Inv X (pins++(a,o) :: l) σ H s :=
 I.pins_of λp hp=>(List.mem_append.mp hp).elim (λz=>I.pin p (by simp[z])) λz=>(List.mem_cons.mp z).elim (λe=>e▸⟨g,fp.1,fp.2.1,fp.2.2.1,nc⟩) λz=>I.pin p (by simp[z])
theorem Inv.lose {q:Addr×Obj}(I:Inv X (pins++q :: l) σ H s):Inv X (pins++l) σ H s :=
 I.pins_of λp hp=>I.pin p ((List.mem_append.mp hp).elim (λz=>by simp[z]) λz=>by simp[z])
theorem Inv.held {q:Addr×Obj}(I:Inv X (pins++q :: l) σ H s):s.heap.get? q.1=some q.2:=(I.pin q (by simp)).1
theorem ycm {xs:Array Value}{e:Nat}{g:Array Value→Array Value}{Q:Unit→Shared→Prop}{M:Model}(I:Inv X (pins++(a,seqObj "list" xs e) :: l) σ H s)(fp:FpOk X pins H a)(nl:∀ p∈l,p.1≠a)
  (z1:xs.size≤sizeLine) (z2:(g xs).size≤sizeLine+1) (q:∀ s' e',Inv X (pins++(a,seqObj "list" (g xs) e') :: l) σ H s'→Q () s'):wpAny M A (Builtin.List.listUpdate (.ref a) g) Q E s:=by
 have free:∀ p∈X.pn++(pins++l),p.1≠a:=λp hp=>by
  rw[← List.append_assoc] at hp
  exact(List.mem_append.mp hp).elim (fp.2.2.2.2.2 p) (nl p)
 refine listUpdate_at I.held rfl (q _ _ (Inv.hold ?_ fp (get?_update_seq I.held g) λv=>nofun)) z1 z2
 exact I.lose.turned (t':=s.toks) (λb o n u=>((Heap.SameBut.update s.heap a (Obj.mapSeq g)).2 b n).trans u) fp.1 fp.2.1 fp.2.2.2.1 fp.2.2.2.2.1 free
end
section
variable {X:Cx} {C:Addr→V→Int→Hp→Prop} {e ke:Expr} {te tk:TE} {p pos kp rp bp:Pos} {jb:Nat}
end
section
variable {κ:Type} [DecidableEq κ]
def yb8 (kvs:List (κ×V))(k:κ):Option V:=(kvs.find? λkv=>decide (kv.1=k)).map (·.2)
def ydq (kvs:List (κ×V))(k:κ)(v:V):List (κ×V) :=
 if (kvs.any λkv=>decide (kv.1=k))=true then kvs.map (λkv=>if kv.1=k then (kv.1,v) else kv) else kvs++[(k,v)]
theorem ybi {p:κ×V}{r:List (κ×V)}{k:κ}(e:p.1=k):yb8 (p :: r) k=some p.2:=by simp[yb8,List.find?_cons,e]
theorem ya7 {p:κ×V}{r:List (κ×V)}{k:κ}(e:¬ p.1=k):yb8 (p :: r) k=yb8 r k:=by simp[yb8,List.find?_cons,e]
theorem yc3 (k:κ):∀ kvs:List (κ×V),(kvs.any λkv=>decide (kv.1=k))=(yb8 kvs k).isSome
 | []=>rfl
 | p :: r=>by
  rw[List.any_cons]
  by_cases e:p.1=k
  ·simp only[ybi e,decide_eq_true e,Bool.true_or,Option.isSome_some]
  ·rw[ya7 e,decide_eq_false e,Bool.false_or];exact yc3 k r
theorem yhN (k j:κ)(y:V):∀ kvs:List (κ×V),yb8 (kvs.map λkv=>if kv.1=k then (kv.1,y) else kv) j=(yb8 kvs j).map λx=>if j=k then y else x
 | []=>rfl
 | p :: r=>by
  have ih:=yhN k j y r
  rw[List.map_cons]
  by_cases h:p.1=k
  ·rw[if_pos h]
   by_cases e:p.1=j
   ·rw[ybi (p:=(p.1,y)) e,ybi e,Option.map_some,if_pos (e.symm.trans h)]
   ·rw[ya7 (p:=(p.1,y)) e,ya7 e,ih]
  ·rw[if_neg h]
   by_cases e:p.1=j
   ·rw[ybi (p:=p) e,ybi e,Option.map_some,if_neg (λz=>h (e.trans z))]
   ·rw[ya7 (p:=p) e,ya7 e,ih]
theorem yfJ (k j:κ)(y:V):∀ kvs:List (κ×V),yb8 kvs k=none→yb8 (kvs++[(k,y)]) j=if j=k then some y else yb8 kvs j
 | [],_=>by
  by_cases e:k=j
  ·rw[if_pos e.symm];exact ybi (p:=(k,y)) e
  ·rw[if_neg (λz=>e z.symm)];exact ya7 (p:=(k,y)) e
 | p :: r,hn=>by
  rw[List.cons_append]
  have hk:¬ p.1=k:=λz=>by rw[ybi z] at hn;cases hn
  rw[ya7 hk] at hn
  have ih:=yfJ k j y r hn
  by_cases e:p.1=j
  ·rw[ybi e,ybi e,if_neg (λz=>hk (e.trans z))]
  ·rw[ya7 e,ya7 e,ih]
theorem ycG (kvs:List (κ×V))(k j:κ)(y:V):yb8 (ydq kvs k y) j=if j=k then some y else yb8 kvs j:=by
 unfold ydq
 by_cases a:(kvs.any λkv=>decide (kv.1=k))=true
 ·rw[if_pos a,yhN]
  rw[yc3] at a
  by_cases e:j=k
  ·obtain⟨x,hx⟩:=Option.isSome_iff_exists.mp a
   rw[if_pos e,e,hx,Option.map_some,if_pos rfl]
  ·rw[if_neg e]
   cases yb8 kvs j with
   | none=>rfl
   | some x=>rw[Option.map_some,if_neg e]
 ·rw[if_neg a]
  refine yfJ k j y kvs ?_
  rw[yc3] at a
  cases q:yb8 kvs k with
  | none=>rfl
  | some x=>rw[q] at a;exact(a rfl).elim
theorem ybF (kvs:List (κ×V))(k:κ)(v:V):(ydq kvs k v).length≤kvs.length+1:=by
 unfold ydq
 split
 ·rw[List.length_map];omega
 ·rw[List.length_append,List.length_cons,List.length_nil];omega
theorem ykK {kvs:List (κ×V)}{k:κ}(v:V)(h:yb8 kvs k=none):ydq kvs k v=kvs++[(k,v)]:=by
 unfold ydq
 rw[yc3,h]
 exact if_neg (by decide)
theorem RelO.isSome_eq {o:Option V}{u:Option Value}(r:RelO o u):o.isSome=u.isSome:=by
 cases o with
 | none=>cases u with
  | none=>rfl
  | some _=>exact(show False from r).elim
 | some _=>cases u with
  | none=>exact(show False from r).elim
  | some _=>rfl
theorem RelO.getD {o:Option V}{u:Option Value}{d:V}{d':Value}(r:RelO o u)(rd:RelV d d'):RelV (o.getD d) (u.getD d'):=by
 cases o with
 | none=>cases u with
  | none=>exact rd
  | some _=>exact(show False from r).elim
 | some _=>cases u with
  | none=>exact(show False from r).elim
  | some _=>exact r
theorem KV.val {kvs:List (κ×V)}{vs:List (κ×Value)}(r:KV kvs vs)(k:κ):RelO (yb8 kvs k) (valueAt vs k):=by
 unfold KV at r
 induction r with
 | nil=>exact True.intro
 | @cons p q ps qs h t ih =>
  obtain⟨h1,h2⟩:=h
  by_cases e:p.1=k
  ·have e':q.1=k:=h1.symm.trans e
   have b:valueAt (q :: qs) k=some q.2:=by simp[valueAt,List.find?_cons,e']
   rw[ybi e,b];exact h2
  ·have e':¬ q.1=k:=λz=>e (h1.trans z)
   have b:valueAt (q :: qs) k=valueAt qs k:=by simp[valueAt,List.find?_cons,e']
   rw[ya7 e,b];exact ih
theorem KV.any {kvs:List (κ×V)}{vs:List (κ×Value)}(r:KV kvs vs)(k:κ):(kvs.any λkv=>decide (kv.1=k))=vs.any λkv=>decide (kv.1=k):=by
 unfold KV at r
 induction r with
 | nil=>rfl
 | cons h t ih=>rw[List.any_cons,List.any_cons,ih,h.1]
theorem KV.repl {kvs:List (κ×V)}{vs:List (κ×Value)}(r:KV kvs vs)(k:κ){y:V}{u:Value}(ry:RelV y u) :
  KV (kvs.map λkv=>if kv.1=k then (kv.1,y) else kv) (vs.map λkv=>if kv.1=k then (kv.1,u) else kv):=by
 unfold KV at r ⊢
 induction r with
 | nil=>exact .nil
 | @cons p q ps qs h t ih =>
  rw[List.map_cons,List.map_cons]
  refine .cons ?_ ih
  obtain⟨h1,h2⟩:=h
  by_cases e:p.1=k
  ·rw[if_pos e,if_pos (h1.symm.trans e)];exact⟨h1,ry⟩
  ·rw[if_neg e,if_neg (λz=>e (h1.trans z))];exact⟨h1,h2⟩
theorem KV.put {kvs:List (κ×V)}{vs:List (κ×Value)}(r:KV kvs vs)(k:κ){y:V}{u:Value}(ry:RelV y u):KV (ydq kvs k y) (stored vs k u):=by
 unfold ydq stored
 rw[r.any k]
 by_cases e:(vs.any λkv=>decide (kv.1=k))=true
 ·rw[if_pos e,if_pos e];exact r.repl k ry
 ·rw[if_neg e,if_neg e];exact Paired.snoc r ⟨rfl,ry⟩
theorem KV.length {kvs:List (κ×V)}{vs:List (κ×Value)}(r:KV kvs vs):kvs.length=vs.length:=Paired.length r
end
theorem yj4 {P:Program}{w:World}{k:Key}{u:Value}(r:RelV (kV k) u):(ybn P w).is k u=true:=by
 cases k with
 | inl i=>obtain⟨t,e⟩:=(show ∃ t,u=Value.int i t from r);subst e;exact ygI P w i t
 | inr x=>obtain⟨t,e⟩:=(show ∃ t,u=Value.str x t from r);subst e;exact ygO P w x t
theorem yfZ {P:Program}{w:World}:∀ {ks:List Key} {us:List Value},Vals (ks.map kV) us→ItemsAre (ybn P w) ks us
 | [],_,r=>by rw[List.map_nil] at r;cases r;exact .nil
 | k :: ks,_,r=>by
  rw[List.map_cons] at r
  cases r with
  | cons h t=>exact .cons (yj4 h) (yfZ t)
abbrev KT (H:Hp):List (List Key×V)→List (List Key×Addr×Value)→Prop:=Paired λp q=>p.1=q.1∧H q.2.1=some (.tup (p.1.map kV))∧RelV p.2 q.2.2
theorem KT.val {H:Hp}{kvs:List (List Key×V)}{xs:List (List Key×Addr×Value)}(r:KT H kvs xs)(k:List Key):RelO (yb8 kvs k) ((atKey xs k).map (·.2)):=by
 induction r with
 | nil=>exact True.intro
 | @cons p q ps qs h t ih =>
  obtain⟨h1,_,h2⟩:=h
  by_cases e:p.1=k
  ·have e':q.1=k:=h1.symm.trans e
   have b:atKey (q :: qs) k=some q.2:=by simp[atKey,List.find?_cons,e']
   rw[ybi e,b];exact h2
  ·have e':¬ q.1=k:=λz=>e (h1.trans z)
   have b:atKey (q :: qs) k=atKey qs k:=by simp[atKey,List.find?_cons,e']
   rw[ya7 e,b];exact ih
theorem KT.repl {H:Hp}{kvs:List (List Key×V)}{xs:List (List Key×Addr×Value)}(r:KT H kvs xs)(k:List Key){y:V}{u:Value}(ry:RelV y u) :
  KT H (kvs.map λkv=>if kv.1=k then (kv.1,y) else kv) (xs.map (putAt k u)):=by
 induction r with
 | nil=>exact .nil
 | @cons p q ps qs h t ih =>
  rw[List.map_cons,List.map_cons]
  refine .cons ?_ ih
  obtain⟨h1,h2,h3⟩:=h
  unfold putAt
  by_cases e:p.1=k
  ·rw[if_pos e,if_pos (h1.symm.trans e)];exact⟨h1,h2,ry⟩
  ·rw[if_neg e,if_neg (λz=>e (h1.trans z))];exact⟨h1,h2,h3⟩
theorem KT.put {H:Hp}{kvs:List (List Key×V)}{xs:List (List Key×Addr×Value)}(r:KT H kvs xs)(k:List Key){b:Addr}{y:V}{u:Value}(hb:H b=some (.tup (k.map kV)))(ry:RelV y u) :
  KT H (ydq kvs k y) (storedH xs k b u):=by
 have e:(kvs.any λkv=>decide (kv.1=k))=(atKey xs k).isSome:=by
  rw[yc3,(r.val k).isSome_eq,Option.isSome_map]
 unfold ydq storedH
 rw[e]
 by_cases q:(atKey xs k).isSome=true
 ·rw[if_pos q,if_pos q];exact r.repl k ry
 ·rw[if_neg q,if_neg q];exact Paired.snoc r ⟨rfl,hb,ry⟩
theorem KT.keeps {H H':Hp}{kvs:List (List Key×V)}{xs:List (List Key×Addr×Value)}(r:KT H kvs xs)(ht:∀ b ys,H b=some (.tup ys)→H' b=some (.tup ys)):KT H' kvs xs :=
 Paired.mapP r λ_ _ z=>⟨z.1,ht _ _ z.2.1,z.2.2⟩
section
variable {P:Program} {w:World} {H:Hp} {h:Heap} {a:Addr}
theorem ynd {u:HO}(ok:HOk P w H h)(e:Rd H a u):ObjOk P w H h a u:=e.ok ok
theorem yh1 {kvs:List (Key×V)}(ok:HOk P w H h)(e:Rd H a (.dK kvs)):kvs.length≤sizeLine∧(a==sysModules)=false∧∃ vs,KV kvs vs∧h.DictOf (ybn P w) a vs :=
 show ObjOk P w H h a (.dK kvs) from ynd ok e
theorem ypx {kvs:List (Key×V)}(ok:HOk P w H h)(e:H a=some (.dK kvs)):kvs.length≤sizeLine∧(a==sysModules)=false∧∃ vs,KV kvs vs∧h.DictOf (ybn P w) a vs:=yh1 ok (.inl e)
theorem yfF {ks:List Key}(ok:HOk P w H h)(e:H a=some (.tup (ks.map kV))):(tupleKind (ybn P w)).is h ks a:=by
 obtain⟨_,its,r,o,h1,h2,n,h3⟩:=(show ObjOk P w H h a (.tup (ks.map kV)) from ok a _ e)
 exact⟨o,its.toArray,n,h1,h2,h3,by simpa using yfZ r⟩
theorem yh5 {kvs:List (List Key×V)}(ok:HOk P w H h)(e:Rd H a (.dT kvs)):kvs.length≤sizeLine∧(a==sysModules)=false ∧
  ∃ xs,KT H kvs xs∧h.DictOfH (tupleKind (ybn P w)) a xs:=by
 obtain⟨z,y,xs,r,o,es,ep,h1,h2,h3,h4,h5⟩:=(show ObjOk P w H h a (.dT kvs) from ynd ok e)
 refine⟨z,y,xs,r,o,es,ep,h1,h2,h3,h4,λx hx=>?_,h5⟩
 have all:∀ {l:List (List Key×V)} {m:List (List Key×Addr×Value)},KT H l m→∀ x∈m,(tupleKind (ybn P w)).is h x.1 x.2.1:=by
  intro l m q
  induction q with
  | nil=>intro x hx;exact nomatch hx
  | @cons p q ps qs hq t ih =>
   intro x hx
   rcases List.mem_cons.mp hx with e | hx
   ·subst e
    exact yfF ok (by rw[← hq.1];exact hq.2.1)
   ·exact ih x hx
 exact all r x hx
theorem yoz {kvs:List (List Key×V)}(ok:HOk P w H h)(e:H a=some (.dT kvs)):kvs.length≤sizeLine∧(a==sysModules)=false ∧
  ∃ xs,KT H kvs xs∧h.DictOfH (tupleKind (ybn P w)) a xs:=yh5 ok (.inl e)
end
def DGet (H:Hp)(a:Addr)(y:V)(r:Option V):Prop :=
 (∃ kvs k,Rd H a (.dK kvs)∧y=kV k∧r=yb8 kvs k)∨∃ kvs k b,Rd H a (.dT kvs)∧y=.ref b∧H b=some (.tup (k.map kV))∧r=yb8 kvs k
def DPut (H:Hp)(a:Addr)(y v:V)(H':Hp):Prop :=
 (∃ kvs k,H a=some (.dK kvs)∧y=kV k∧kvs.length < sizeLine∧H'=upd H a (.dK (ydq kvs k v))) ∨
 ∃ kvs k b,H a=some (.dT kvs)∧y=.ref b∧H b=some (.tup (k.map kV))∧kvs.length < sizeLine∧H'=upd H a (.dT (ydq kvs k v))
theorem DGet.k {H:Hp}{a:Addr}{kvs:List (Key×V)}{k:Key}(e:H a=some (.dK kvs)):DGet H a (kV k) (yb8 kvs k):=.inl ⟨kvs,k,.inl e,rfl,rfl⟩
theorem DGet.t {H:Hp}{a b:Addr}{kvs:List (List Key×V)}{k:List Key}(e:H a=some (.dT kvs))(eb:H b=some (.tup (k.map kV))):DGet H a (.ref b) (yb8 kvs k):=.inr ⟨kvs,k,b,.inl e,rfl,eb,rfl⟩
theorem DPut.k {H:Hp}{a:Addr}{kvs:List (Key×V)}{k:Key}{v:V}(e:H a=some (.dK kvs))(hl:kvs.length < sizeLine):DPut H a (kV k) v (upd H a (.dK (ydq kvs k v))):=.inl ⟨kvs,k,e,rfl,hl,rfl⟩
theorem DPut.t {H:Hp}{a b:Addr}{kvs:List (List Key×V)}{k:List Key}{v:V}(e:H a=some (.dT kvs))(eb:H b=some (.tup (k.map kV)))(hl:kvs.length < sizeLine) :
  DPut H a (.ref b) v (upd H a (.dT (ydq kvs k v))):=.inr ⟨kvs,k,b,e,rfl,eb,hl,rfl⟩
section
variable {X:Cx} {pins:List (Addr×Obj)} {σ:St} {H:Hp} {s:Shared} {a:Addr} {y v:V} {u r:Value} {o:Option V} {A:Around} {E:Value→Shared→Prop}
theorem yj7 {Q:Value→Shared→Prop}(hu:A.units+1 < cLine)(I:Inv X pins σ H s)(g:DGet H a y (some v))(ry:RelV y u)(h:∀ w' s',Inv X pins σ H s'→RelV v w'→Q w' s') :
  wpAny (model X.prog X.w) A (getItem (.ref a) u) Q E s:=by
 rcases g with ⟨kvs,k,e,ey,l⟩ | ⟨kvs,k,b,e,ey,eb,l⟩
 ·subst ey
  obtain⟨z,hd,vs,rel,dd⟩:=yh1 I.hok e
  obtain⟨w',hw,rw'⟩:=RelO.some_of (v:=v) (o:=valueAt vs k) (by rw[l];exact rel.val k)
  exact wpAny_getItem_of (yj4 ry) dd.mapOf hw (h w' _ (I.tok _) rw')
 ·subst ey
  cases (show u=Value.ref b from ry)
  obtain⟨z,hd,xs,rel,dd⟩:=yh5 I.hok e
  obtain⟨w',hw,rw'⟩:=RelO.some_of (v:=v) (o:=(atKey xs k).map (·.2)) (by rw[l];exact rel.val k)
  obtain⟨p,hp,hp2⟩:=Option.map_eq_some_iff.mp hw
  refine wpAny_getItem_heap (tupleKind_room_in1 hu) (yfF I.hok eb) dd hp ?_
  rw[hp2]
  exact h w' _ (I.tok _) rw'
theorem yru {Q:Value→Shared→Prop}(hu:A.units+1 < cLine)(I:Inv X pins σ H s)(g:DGet H a y o)(ry:RelV y u)(h:∀ s',Inv X pins σ H s'→Q (.bool o.isSome) s') :
  wpAny (model X.prog X.w) A (compareOp .In u (.ref a)) Q E s:=by
 rcases g with ⟨kvs,k,e,ey,l⟩ | ⟨kvs,k,b,e,ey,eb,l⟩
 ·subst ey
  obtain⟨z,hd,vs,rel,dd⟩:=yh1 I.hok e
  refine wpAny_in_of (yj4 ry) hd dd.mapOf ?_
  rw[← (rel.val k).isSome_eq,← l]
  exact h _ (I.tok _)
 ·subst ey
  cases (show u=Value.ref b from ry)
  obtain⟨z,hd,xs,rel,dd⟩:=yh5 I.hok e
  refine wpAny_in_heap (tupleKind_room_in1 hu) (yfF I.hok eb) hd dd ?_
  have q:=(rel.val k).isSome_eq
  rw[Option.isSome_map] at q
  rw[← q,← l]
  exact h _ (I.tok _)
theorem yj5 {h':Heap}{t':Nat}{ob:HO}(I:Inv X pins σ H s)(mu:Mut (H a))(hs:Heap.SameBut a s.heap h')(he:∃ q,h'.get? a=some q)(new:ObjOk X.prog X.w (upd H a ob) h' a ob) :
  Inv X pins σ (upd H a ob) { s with heap:=h',toks:=t' } :=
 I.write (x:=a) (e:=a) mu (.inl rfl) (λb q hb z=>(hs.2 b hb).trans z) he new
theorem ym0 {P:Program}{w:World}{H':Hp}{h':Heap}{kvs:List (Key×V)}{vs:List (Key×Value)}(z:kvs.length≤sizeLine)(hd:(a==sysModules)=false)(rel:KV kvs vs)(dd:h'.DictOf (ybn P w) a vs) :
  ObjOk P w H' h' a (.dK kvs):=⟨z,hd,vs,rel,dd⟩
theorem yiS {H':Hp}{Q:Unit→Shared→Prop}(hu:A.units+1 < cLine)(I:Inv X pins σ H s)(g:DPut H a y v H')(ry:RelV y u)(rv:RelV v r)(h:∀ s',Inv X pins σ H' s'→Q () s') :
  wpAny (model X.prog X.w) A (setItem (.ref a) u r) Q E s:=by
 rcases g with ⟨kvs,k,e,ey,l,eH⟩ | ⟨kvs,k,b,e,ey,eb,l,eH⟩
 ·subst ey eH
  obtain⟨z,hd,vs,rel,dd⟩:=ypx I.hok e
  have hz:vs.length≤sizeLine:=by rw[← rel.length];exact z
  have hl:(ydq kvs k v).length≤sizeLine:=by have:=ybF kvs k v;omega
  refine wpAny_setItem_pairs (hsz:=hz) (yj4 ry) dd λh' dd' hs=>h _ ?_
  have he:∃ q,h'.get? a=some q:=let ⟨q,_,_,hq,_⟩:=dd';⟨q,hq⟩
  exact yj5 I (by rw[e];exact True.intro) hs he (ym0 hl hd (rel.put k rv) dd')
 ·subst ey eH
  cases (show u=Value.ref b from ry)
  obtain⟨z,hd,xs,rel,dd⟩:=yoz I.hok e
  have hz:xs.length≤sizeLine:=by rw[← Paired.length rel];exact z
  have hl:(ydq kvs k v).length≤sizeLine:=by have:=ybF kvs k v;omega
  refine wpAny_setItem_heap (hsz:=hz) (tupleKind_room_in1 hu) (yfF I.hok eb) dd λh' dd' hs=>h _ ?_
  obtain⟨q,es,ep,hq,h2,h3,h4,_,h5⟩:=dd'
  refine yj5 I (by rw[e];exact True.intro) hs ⟨q,hq⟩ ⟨hl,hd,_,(rel.put k eb rv).keeps λc ys ec=>?_,q,es,ep,hq,h2,h3,h4,h5⟩
  rw[yai (ypT ec e (λz=>nomatch z))]
  exact ec
end
section
variable {X:Cx} {pins:List (Addr×Obj)} {σ:St} {H:Hp} {s:Shared} {a:Addr} {kvs:List (Key×V)} {k:Key} {u:Value} {A:Around} {E:Value→Shared→Prop}
end
def yqg (i:Expr):Prop:=∀ ov iv,subscripted i false ov iv=operate [ov,iv] (getItem ov iv)
theorem ymw {prog:Program}{w:World}{A:Around}{E:Value→Shared→Prop}{s:Shared}{env:Env}{value slice:Expr}{pos:Pos}{T id:String}{Q:Value→Shared→Prop}
  (hl:typeLookup (.type T) "__getitem__"=pure (some (.builtin id))) (hs:yqg slice)
  (h:wpAny (model prog w) A (eval value env) (λo s₁=>wpAny (model prog w) A (eval slice env) (λi s₂=>s₂.TypeIs o T∧wpAny (model prog w) A (getItem o i) Q E s₂) E s₁) E s) :
  wpAny (model prog w) A (eval (.Subscript value slice pos) env) Q E s:=by
 refine Subscript_ (wpAny_mono h (λo s₁ h₁=>wpAny_mono h₁ (λi s₂ h₂=>?_) λ_ _ x=>x) λ_ _ x=>x)
 obtain⟨hT,h₂⟩:=h₂
 unfold subscriptTail
 refine wpAny_bind ?_
 rw[getitemInPython_of_ne hT.not_modules]
 refine wpAny_bind (wpAny_specialOf hT hl ?_)
 have fin:wpAny (model prog w) A (subscripted slice false o i) (λr s₃=>wpAny (model prog w) A (letTemporaryGo value o r >>= λ_=>pure r) Q E s₃) E s₂:=by
  rw[hs o i]
  exact wpAny_operating (wpAny_mono h₂ (λr s₃ h₃=>wpAny_bind (wpAny_letTemporaryGo (wpAny_pure h₃))) λ_ _ x=>x)
 first
  | exact wpAny_pure (wpAny_bind fin)
  | exact wpAny_bind (wpAny_pure (wpAny_bind fin))
  | exact wpAny_bind fin
theorem ygM {X:Cx}{pins:List (Addr×Obj)}{σ:St}{H:Hp}{s:Shared}{a:Addr}{y:V}{o:Option V}(I:Inv X pins σ H s)(g:DGet H a y o):s.TypeIs (.ref a) "dict":= by
 rcases g with ⟨kvs,k,e,_,_⟩ | ⟨kvs,k,b,e,_,_,_⟩
 ·obtain⟨_,_,vs,_,dd⟩:=yh1 I.hok e
  exact dd.typeIs
 ·obtain⟨_,_,xs,_,dd⟩:=yh5 I.hok e
  exact dd.typeIs
def ylj (td ty:TE):TE:=fun σ H Q=>td σ H λx H1=>ty σ H1 λy H2=>∃ a v,x=.ref a∧DGet H2 a y (some v)∧Q v H2
def yqs (ty td:TE):TE:=fun σ H Q=>ty σ H λy H1=>td σ H1 λx H2=>∃ a o,x=.ref a∧DGet H2 a y o∧Q (.bl o.isSome) H2
def yl5 (td ty tv:TE):TS:=λD σ H=>tv σ H λv H1=>td σ H1 λx H2=>ty σ H2 λy H3=>∃ a H4,x=.ref a∧DPut H3 a y v H4∧D.nx σ H4
section
variable {X:Cx} {o i e value:Expr} {pos pos' tpos:Pos} {td ty tv:TE}
theorem yg0 (hu:X.A.units+1 < cLine)(ho:PE X o td)(hi:PE X i ty)(hs:yqg i):PE X (.Subscript o i pos) (ylj td ty):=by
 intro pins s σ H Q I h
 refine ymw PySem.F.slot_dict_getitem.lookup hs (thn (ho pins s σ H _ I h) λu s1 ⟨x,H1,I1,rx,q1⟩=>thn (hi pins s1 σ H1 _ I1 q1) λiv s2 ⟨y,H2,I2,ry,a,v,ex,g,q2⟩=>?_)
 subst ex
 obtain rfl:u=Value.ref a:=rx
 exact⟨ygM I2 g,yj7 hu I2 g ry λw' s3 I3 rw'=>⟨v,H2,I3,rw',q2⟩⟩
theorem ynB (hu:X.A.units+1 < cLine)(hi:PE X i ty)(ho:PE X o td):PC X .In i o (yqs ty td):=by
 intro pins s σ H Q I h
 refine thn (hi pins s σ H _ I h) λiv s1 ⟨y,H1,I1,ry,q1⟩=>thn (ho pins s1 σ H1 _ I1 q1) λu s2 ⟨x,H2,I2,rx,a,ov,ex,g,q2⟩=>?_
 subst ex
 obtain rfl:u=Value.ref a:=rx
 exact yru hu I2 g ry λs3 I3=>⟨.bl ov.isSome,H2,I3,rfl,q2⟩
theorem yd1 (hu:X.A.units+1 < cLine)(ho:PE X o td)(hi:PE X i ty)(hv:PE X value tv)(hs:swapsWith value (some (.Subscript o i pos')) pos.line X.env=pure false) :
  PS X (.Assign [.Subscript o i pos'] value pos) (yl5 td ty tv):=by
 intro pins s σ H D I h
 refine wpAny_Assign_Subscript (thn (hv pins s σ H _ I h) λr s1 ⟨v,H1,I1,rv,q1⟩=>thn (ho pins s1 σ H1 _ I1 q1) λu s2 ⟨x,H2,I2,rx,q2⟩=>thn (hi pins s2 σ H2 _ I2 q2) λiv s3 ⟨y,H3,I3,ry,a,H4,ex,g,q3⟩=>?_) hs
 subst ex
 obtain rfl:u=Value.ref a:=rx
 exact yiS hu I3 g ry rv λs4 I4=>⟨σ,H4,I4,q3⟩
end
structure M1 (X:Cx) (o:Expr) (m:Str) (apos:Pos) (e:Expr) (cpos:Pos):Prop where
 base:attributeBase o m X.env (eval o X.env)=eval o X.env
 few:((backTo cpos (starEach [e] X.env)).all (λx=>!x.1)&&(backToKw cpos (keywordEach [] X.env)).all (λx=>x.1.isSome)
  && decide (([e]:List Expr).length+([]:List Keyword).length+(if ([]:List Keyword).isEmpty then 0 else 1) < 30))=true
 line:(apos.endLine==cpos.line)=true
 trees:backTo cpos (starEach [e] X.env)=[(false,eval e X.env)]
structure M2 (X:Cx) (o:Expr) (m:Str) (apos:Pos) (e f:Expr) (cpos:Pos):Prop where
 base:attributeBase o m X.env (eval o X.env)=eval o X.env
 few:((backTo cpos (starEach [e,f] X.env)).all (λx=>!x.1)&&(backToKw cpos (keywordEach [] X.env)).all (λx=>x.1.isSome)
  && decide (([e,f]:List Expr).length+([]:List Keyword).length+(if ([]:List Keyword).isEmpty then 0 else 1) < 30))=true
 line:(apos.endLine==cpos.line)=true
 trees:backTo cpos (starEach [e,f] X.env)=[(false,eval e X.env),(false,eval f X.env)]
def IsD (H:Hp)(a:Addr):Prop:=(∃ kvs,Rd H a (.dK kvs))∨∃ kvs,Rd H a (.dT kvs)
theorem ym6 {X:Cx}{pins:List (Addr×Obj)}{σ:St}{H:Hp}{s:Shared}{a:Addr}(I:Inv X pins σ H s)(d:IsD H a) :
  s.TypeIs (.ref a) "dict" ∧ (∀ b,Value.ref a=.ref b→∃ ob,s.heap.get? b=some ob∧ob.dict=none)∧(a==sysModules)=false:=by
 rcases d with ⟨kvs,e⟩ | ⟨kvs,e⟩
 ·obtain⟨_,hd,vs,_,dd⟩:=yh1 I.hok e
  refine⟨dd.typeIs,λb q=>?_,hd⟩
  cases q
  obtain⟨ob,_,_,h1,h2,_⟩:=dd
  exact⟨ob,h1,h2.2.1⟩
 ·obtain⟨_,hd,xs,_,dd⟩:=yh5 I.hok e
  refine⟨dd.typeIs,λb q=>?_,hd⟩
  cases q
  obtain⟨ob,_,_,h1,h2,_⟩:=dd
  exact⟨ob,h1,h2.2.1⟩
section
variable {X:Cx} {pins:List (Addr×Obj)} {σ:St} {H:Hp} {s:Shared} {a:Addr} {y d:V} {u r:Value} {o:Option V} {A:Around} {E:Value→Shared→Prop}
theorem ymV {Q:Value→Shared→Prop}(hu:A.units+1 < cLine)(I:Inv X pins σ H s)(g:DGet H a y o)(ry:RelV y u)(rd:RelV d r)(h:∀ w' s',Inv X pins σ H s'→RelV (o.getD d) w'→Q w' s') :
  wpAny (model X.prog X.w) A (call (.builtin "dict.get") [.ref a,u,r]) Q E s:=by
 rcases g with ⟨kvs,k,e,ey,l⟩ | ⟨kvs,k,b,e,ey,eb,l⟩
 ·subst ey
  obtain⟨z,hd,vs,rel,dd⟩:=yh1 I.hok e
  refine call_meetsIn PySem.F.slot_dict_get dd.typeIs PySem.F.entry_dict_get (PySem.F.args_dict_get_3 _ _ _) (meets_dict_get_default (ybn X.prog X.w) a (yj4 ry) hd r) ⟨_,dd.mapOf,h _ _ (I.tok _) ?_⟩
  rw[l]
  exact(rel.val k).getD rd
 ·subst ey
  cases (show u=Value.ref b from ry)
  obtain⟨z,hd,xs,rel,dd⟩:=yh5 I.hok e
  refine call_meetsIn PySem.F.slot_dict_get dd.typeIs PySem.F.entry_dict_get (PySem.F.args_dict_get_3 _ _ _) (meetsH_dict_get_default (tupleKind (ybn X.prog X.w)) a b hd r) ⟨tupleKind_room_in1 hu,k,xs,yfF I.hok eb,dd,h _ _ (I.tok _) ?_⟩
  rw[l]
  exact(rel.val k).getD rd
end
def yhu (td ty tx:TE):TE:=fun σ H Q=>td σ H λx H1=>∃ a,x=.ref a∧IsD H1 a∧ty σ H1 λy H2=>tx σ H2 λz H3=>∃ o,DGet H3 a y o∧Q (o.getD z) H3
section
variable {X:Cx} {o e f:Expr} {apos cpos:Pos} {td ty tx:TE}
theorem yeQ (hu:X.A.units+1 < cLine)(ho:PE X o td)(he:PE X e ty)(hf:PE X f tx)(m:M2 X o "get" apos e f cpos):PE X (.Call (.Attribute o "get" apos) [e,f] [] cpos) (yhu td ty tx):=by
 intro pins s σ H Q I h
 refine wpAny_Call_method m.base m.few m.line PySem.F.plainAttrs_dict PySem.F.slot_dict_get PySem.F.type_dict_get (thn (ho pins s σ H _ I h) λu s1 ⟨x,H1,I1,rx,a,ex,d,q1⟩=>?_)
 subst ex
 obtain rfl:u=Value.ref a:=rx
 obtain⟨t1,t2,_⟩:=ym6 I1 d
 refine⟨t1,t2,?_⟩
 rw[m.trees]
 refine Calls.callWith_builtin rfl (Calls.evalArgs_plain (Calls.spliced_cons (thn (he pins s1 σ H1 _ I1 q1) λiv s2 ⟨y,H2,I2,ry,q2⟩ =>
  Calls.spliced_cons (thn (hf pins s2 σ H2 _ I2 q2) λfv s3 ⟨z,H3,I3,rz,ov,g,q3⟩=>Calls.spliced_nil ?_))))
 exact ymV hu I3 g ry rz λw' s4 I4 rw'=>⟨_,H3,I4,rw',q3⟩
end
end L2
namespace L2
open PySem PySem.W PyProof.Rows
section
variable {c:Nat→Nat→Bool} {n:Nat}
def Sat (c:Nat→Nat→Bool)(n:Nat){α:Type}:KasT α→(α→Prop)→Prop
 | .ret a,Q=>Q a
 | .ask i j k,Q=>i < n∧j < n∧Sat c n (k (c i j)) Q
theorem ycH {α β:Type}{f:α→KasT β}{Q:β→Prop}:∀ {t:KasT α},Sat c n t (λa=>Sat c n (f a) Q)→Sat c n (t.bind f) Q
 | .ret a,h=>h
 | .ask i j k,h=>⟨h.1,h.2.1,ycH h.2.2⟩
theorem yi7 {α:Type}{cmp:Nat→Nat→(Bool→Shared→Prop)→Shared→Prop}{s:Shared}{R:α→Shared→Prop}{Q:α→Prop}(hc:∀ i j C,i < n→j < n→C (c i j) s→cmp i j C s)(q:∀ a,Q a→R a s) :
  ∀ {t:KasT α},Sat c n t Q→t.kasWp cmp R s
 | .ret a,h=>q a h
 | .ask i j k,h=>hc i j _ h.1 h.2.1 (yi7 hc q h.2.2)
structure Strict (c:Nat→Nat→Bool) (n:Nat):Prop where
 irr:∀ i,i < n→c i i=false
 tr:∀ i j k,i < n→j < n→k < n→c i j=true→c j k=true→c i k=true
 tot:∀ i j,i < n→j < n→c i j=false→c j i=false→i=j
theorem Strict.asy (o:Strict c n){i j:Nat}(hi:i < n)(hj:j < n)(h:c i j=true):c j i=false:=by
 cases z:c j i with
 | false=>rfl
 | true =>
  have:=o.tr i j i hi hj hi h z
  rw[o.irr i hi] at this
  cases this
theorem Strict.le_trans (o:Strict c n){i j k:Nat}(hi:i < n)(hj:j < n)(hk:k < n)(h1:c j i=false)(h2:c k j=false):c k i=false:=by
 cases z:c k i with
 | false=>rfl
 | true =>
  cases y:c i j with
  | true=>rw[o.tr k i j hk hi hj z y] at h2;cases h2
  | false =>
   have:=o.tot i j hi hj y h1
   rw[this,h2] at z
   cases z
def G (p:Array Nat)(k:Nat):Nat:=p.getD k 0
theorem yij (p:Array Nat)(k:Nat):G p k=(p[k]?).getD 0:=by
 unfold G
 rw[Array.getD_eq_getD_getElem?]
theorem yhK {p:Array Nat}{k d:Nat}(hs:k < p.size)(hd:d≤k)(j:Nat):G (bubble p k d) j=if j=k - d then G p k else if k - d < j∧j≤k then G p (j - 1) else G p j:=by
 rw[yij,getElem?_bubble hs d hd,yij,yij,yij]
 split
 ·rfl
 ·split<;>rfl
theorem yny {p:Array Nat}{i j:Nat}(hj:j≤p.size)(k:Nat):G (kas_rev p i j) k=if i≤k∧k < j then G p (i+j - 1 - k) else G p k:=by
 unfold kas_rev
 rw[yij,getElem?_mirror_all hj,yij,yij]
 split<;>rfl
structure Shuf (n:Nat) (p:Array Nat):Prop where
 size:p.size=n
 perm:p.toList.Perm (List.range n)
theorem Shuf.lt {p:Array Nat}(b:Shuf n p){k:Nat}(h:k < n):G p k < n:=by
 have hk:k < p.size:=b.size▸h
 have:p[k]∈p.toList:=Array.getElem_mem_toList hk
 have:=b.perm.mem_iff.mp this
 rw[yij,Array.getElem?_eq_getElem hk]
 exact List.mem_range.mp this
theorem Shuf.ne {p:Array Nat}(b:Shuf n p){j k:Nat}(hj:j < n)(hk:k < n)(h:G p j=G p k):j=k:=by
 have nd:p.toList.Nodup:=b.perm.nodup_iff.mpr List.nodup_range
 have h1:j < p.toList.length:=by rw[Array.length_toList,b.size];exact hj
 have h2:k < p.toList.length:=by rw[Array.length_toList,b.size];exact hk
 rw[yij,yij,Array.getElem?_eq_getElem (b.size▸hj),Array.getElem?_eq_getElem (b.size▸hk)] at h
 exact(List.getElem_inj nd (h₀:=h1) (h₁:=h2)).mp (by simpa using h)
theorem Shuf.rev {p:Array Nat}(b:Shuf n p)(i j:Nat):Shuf n (kas_rev p i j) :=
 ⟨(mirror_size _ _ _ _).trans b.size,(mirror_perm p i j _).toList.trans b.perm⟩
theorem Shuf.bub {p:Array Nat}(b:Shuf n p)(k d:Nat):Shuf n (bubble p k d) :=
 ⟨(bubble_size _ _ _).trans b.size,(bubble_perm p k d).toList.trans b.perm⟩
def Up (c:Nat→Nat→Bool)(p:Array Nat)(k:Nat):Prop:=∀ a b,a≤b→b < k→c (G p b) (G p a)=false
def Down (c:Nat→Nat→Bool)(p:Array Nat)(k:Nat):Prop:=∀ a b,a≤b→b < k→c (G p a) (G p b)=false
theorem Up.snoc (o:Strict c n){p:Array Nat}(b:Shuf n p){k:Nat}(h1:1≤k)(hk:k < n)(u:Up c p k)(h:c (G p k) (G p (k - 1))=false):Up c p (k+1):=λa d l z=>by
 by_cases e:d=k
 ·subst e
  by_cases e2:a=d
  ·rw[e2];exact o.irr _ (b.lt hk)
  ·exact o.le_trans (b.lt (by omega)) (b.lt (by omega)) (b.lt hk) (u a (d - 1) (by omega) (by omega)) h
 ·exact u a d l (by omega)
theorem Down.snoc (o:Strict c n){p:Array Nat}(b:Shuf n p){k:Nat}(h1:1≤k)(hk:k < n)(u:Down c p k)(h:c (G p (k - 1)) (G p k)=false):Down c p (k+1):=λa d l z=>by
 by_cases e:d=k
 ·subst e
  by_cases e2:a=d
  ·rw[e2];exact o.irr _ (b.lt hk)
  ·exact o.le_trans (b.lt hk) (b.lt (by omega)) (b.lt (by omega)) h (u a (d - 1) (by omega) (by omega))
 ·exact u a d l (by omega)
theorem ygJ (o:Strict c n){p:Array Nat}(b:Shuf n p){Q:Nat→Prop}:∀ (f a:Nat),1≤a→a+f≤n→Up c p a→(∀ m,a≤m→m≤a+f→Up c p m→(m=a+f∨c (G p m) (G p (m - 1))=true)→Q m)→Sat c n (kas_asc p f a) Q
 | 0,a,_,_,u,q=>q a (Nat.le_refl _) (Nat.le_refl _) u (.inl rfl)
 | f+1,a,h1,hn,u,q=>by
  refine⟨b.lt (by omega),b.lt (by omega),?_⟩
  show Sat c n (if c (G p a) (G p (a - 1))=true then _ else _) Q
  cases z:c (G p a) (G p (a - 1)) with
  | true=>exact q a (Nat.le_refl _) (by omega) u (.inr z)
  | false=>exact ygJ o b f (a+1) (by omega) (by omega) (u.snoc o b h1 (by omega) z) λm l1 l2 um e=>q m (by omega) (by omega) um (e.imp (λe=>by omega) λe=>e)
theorem yhP (o:Strict c n){p:Array Nat}(b:Shuf n p){Q:Array Nat×Nat×Nat→Prop}:∀ (f a:Nat),1≤a→a+f≤n→Down c p a→(∀ m,a≤m→m≤a+f→Down c p m→Q (p,m,0))→Sat c n (kas_desc f p a 0) Q
 | 0,a,_,_,u,q=>q a (Nat.le_refl _) (Nat.le_refl _) u
 | f+1,a,h1,hn,u,q=>by
  refine⟨b.lt (by omega),b.lt (by omega),?_⟩
  show Sat c n (if c (G p a) (G p (a - 1))=true then _ else _) Q
  cases z:c (G p a) (G p (a - 1)) with
  | true=>exact yhP o b f (a+1) (by omega) (by omega) (u.snoc o b h1 (by omega) (o.asy (b.lt (by omega)) (b.lt (by omega)) z)) λm l1 l2 um=>q m (by omega) (by omega) um
  | false =>
   refine⟨b.lt (by omega),b.lt (by omega),?_⟩
   show Sat c n (if c (G p (a - 1)) (G p a)=true then _ else _) Q
   cases y:c (G p (a - 1)) (G p a) with
   | true=>exact q a (Nat.le_refl _) (by omega) u
   | false =>
    have:=b.ne (by omega) (by omega) (o.tot _ _ (b.lt (by omega)) (b.lt (by omega)) z y)
    omega
theorem Down.rev {p:Array Nat}(b:Shuf n p){m:Nat}(hm:m≤n)(u:Down c p m):Up c (kas_rev p 0 m) m:=λa d l z=>by
 rw[yny (by rw[b.size];exact hm),yny (by rw[b.size];exact hm),if_pos (by omega),if_pos (by omega)]
 exact u _ _ (by omega) (by omega)
theorem yjL (o:Strict c n){p:Array Nat}(b:Shuf n p)(h2:2≤n){Q:Nat×Array Nat→Prop}(q:∀ m p',Shuf n p'→1≤m→m≤n→Up c p' m→Q (m,p')):Sat c n (kas_count n p) Q:=by
 have one:Up c p 1:=λa d l z=>by
  have:a=d:=by omega
  rw[this]
  exact o.irr _ (b.lt (by omega))
 refine ycH (ygJ o b (n - 1) 1 (Nat.le_refl _) (by omega) one λm l1 l2 um e=>?_)
 by_cases hm:m=n
 ·rw[if_pos (by simp[hm])]
  exact q m p b l1 (by omega) um
 rw[if_neg (by simp[hm])]
 have hz:c (G p m) (G p (m - 1))=true:=e.resolve_left (by omega)
 by_cases h1:m > 1
 ·rw[if_pos h1]
  refine⟨b.lt (by omega),b.lt (by omega),?_⟩
  show Sat c n (if c (G p 0) (G p (m - 1))=true then _ else _) Q
  cases y:c (G p 0) (G p (m - 1)) with
  | true=>exact q m p b l1 (by omega) um
  | false =>
   have:=b.ne (by omega) (by omega) (o.tot _ _ (b.lt (by omega)) (b.lt (by omega)) y (um 0 (m - 1) (by omega) (by omega)))
   omega
 ·rw[if_neg h1]
  have m1:m=1:=by omega
  subst m1
  have two:Down c p 2:=Down.snoc o b (k:=1) (Nat.le_refl _) (by omega) (λa d l z=>by
   have:a=d:=by omega
   rw[this]
   exact o.irr _ (b.lt (by omega))) (o.asy (b.lt (by omega)) (b.lt (by omega)) hz)
  refine ycH (yhP o b (n - 2) 2 (by omega) (by omega) two λk k1 k2 uk=>?_)
  rw[if_neg (by simp)]
  refine ycH (ygJ o (b.rev 0 k) (n - k) k (by omega) (by omega) (uk.rev b (by omega)) λj j1 j2 uj _=>?_)
  exact q j _ (b.rev 0 k) (by omega) (by omega) uj
theorem yd7 (o:Strict c n){p:Array Nat}(b:Shuf n p){k:Nat}(hk:k < n)(u:Up c p k){Q:Nat→Prop}(q:∀ l,l≤k→(∀ a,a < l→c (G p k) (G p a)=false)→(∀ a,l≤a→a < k→c (G p k) (G p a)=true)→Q l) :
  ∀ (f l r:Nat),r≤l+f→l≤r→r≤k→(∀ a,a < l→c (G p k) (G p a)=false)→(∀ a,r≤a→a < k→c (G p k) (G p a)=true)→Sat c n (kas_place p k f l r) Q
 | 0,l,r,hf,lr,rk,h1,h2=>q l (by omega) h1 λa l1 l2=>h2 a (by omega) l2
 | f+1,l,r,hf,lr,rk,h1,h2=>by
  unfold kas_place
  by_cases e:l≥r
  ·rw[if_pos e]
   exact q l (by omega) h1 λa l1 l2=>h2 a (by omega) l2
  ·rw[if_neg e]
   refine⟨b.lt hk,b.lt (by omega),?_⟩
   show Sat c n (if c (G p k) (G p ((l+r) / 2))=true then _ else _) Q
   cases z:c (G p k) (G p ((l+r) / 2)) with
   | true =>
    refine yd7 o b hk u q f l ((l+r) / 2) (by omega) (by omega) (by omega) h1 λa l1 l2=>?_
    cases y:c (G p k) (G p a) with
    | true=>rfl
    | false =>
     have:=o.le_trans (i:=G p ((l+r) / 2)) (j:=G p a) (k:=G p k) (b.lt (by omega)) (b.lt (by omega)) (b.lt hk) (u _ _ l1 l2) y
     rw[z] at this
     cases this
   | false =>
    exact yd7 o b hk u q f ((l+r) / 2+1) r (by omega) (by omega) rk (λa l1=>o.le_trans (b.lt (by omega)) (b.lt (by omega)) (b.lt hk) (u a ((l+r) / 2) (by omega) (by omega)) z) h2
theorem Up.put (o:Strict c n){p:Array Nat}(b:Shuf n p){k l:Nat}(hk:k < n)(hl:l≤k)(u:Up c p k)(h1:∀ a,a < l→c (G p k) (G p a)=false)(h2:∀ a,l≤a→a < k→c (G p k) (G p a)=true):Up c (bubble p k (k - l)) (k+1):=λa d le z=>by
 have hs:k < p.size:=b.size▸hk
 have e:k - (k - l)=l:=by omega
 rw[yhK hs (by omega),yhK hs (by omega),e]
 have asy:∀ a,l≤a→a < k→c (G p a) (G p k)=false:=λa q1 q2=>o.asy (b.lt hk) (b.lt (by omega)) (h2 a q1 q2)
 have ir:=o.irr _ (b.lt hk)
 repeat' split
 all_goals first
  | exact ir
  | (exfalso;omega)
  | exact h1 _ (by omega)
  | exact asy _ (by omega) (by omega)
  | exact u _ _ (by omega) (by omega)
theorem yix (o:Strict c n){Q:Array Nat→Prop}(q:∀ p,Shuf n p→Up c p n→Q p):∀ (f k:Nat) (p:Array Nat),k+f=n→Shuf n p→Up c p k→Sat c n (kas_bin f p k) Q
 | 0,k,p,e,b,u=>q p b (by rw[← e];exact u)
 | f+1,k,p,e,b,u=>ycH (yd7 o b (by omega) u (λl lk h1 h2=>yix o q f (k+1) _ (by omega) (b.bub k (k - l)) (u.put o b (by omega) lk h1 h2)) k 0 k (by omega) (by omega) (Nat.le_refl _) (λa h=>nomatch h) λa h1 h2=>by omega)
theorem yhi (o:Strict c n)(h2:2≤n){Q:Array Nat→Prop}(q:∀ p,Shuf n p→Up c p n→Q p):Sat c n (kas_sort n) Q:=by
 refine ycH (yjL o (p:=(List.range n).toArray) ⟨by simp,by simp⟩ h2 λm p' b l1 l2 u=>?_)
 show Sat c n (if m < n then kas_bin (n - max m 1) p' (max m 1) else .ret p') Q
 by_cases h:m < n
 ·rw[if_pos h,show max m 1=m by omega]
  exact yix o q (n - m) m p' (by omega) b u
 ·rw[if_neg h]
  have:m=n:=by omega
  exact q p' b (this▸u)
theorem yiT (o:Strict c n){p:Array Nat}(b:Shuf n p)(u:Up c p n):p.toList.Pairwise λi j=>c i j=true:=by
 rw[List.pairwise_iff_getElem]
 intro i j hi hj l
 rw[Array.length_toList,b.size] at hi hj
 have e1:p.toList[i]=G p i:=by rw[yij,Array.getElem?_eq_getElem (b.size▸hi)];simp
 have e2:p.toList[j]=G p j:=by rw[yij,Array.getElem?_eq_getElem (b.size▸hj)];simp
 rw[e1,e2]
 cases z:c (G p i) (G p j) with
 | true=>rfl
 | false =>
  have:=b.ne hi hj (o.tot _ _ (b.lt hi) (b.lt hj) z (u i j (by omega) hj))
  omega
end
end L2
namespace L2
open PySem PySem.Spec PySem.W PyProof.Rows
section
variable {X:Cx} {pins:List (Addr×Obj)} {σ:St} {H:Hp} {s:Shared} {A:Around} {E:Value→Shared→Prop} {a kS:Addr} {vs ks:List Value} {e e1 n:Nat} {f:Value}
theorem yhM {st:SortSt}{keys:Array Value}{P:PySem.Fin→Shared→Prop}(I:Inv X (pins++[(kS,seqObj "list" keys e),(a,seqObj "list" #[] e1)]) σ H s)(fk:FpOk X pins H kS)(fa:FpOk X pins H a)(ne:kS≠a)
  (hf:failedOf st=none) (z1:keys.size≤1000) (z2:(arrOf st).size≤1000)
  (h:∀ s3 c,Inv X pins σ H s3→s3.heap.get? a=some (seqObj "list" ((arrOf st).map (·.2)) c)→P (.done (.ret .none)) s3):wpAny (model X.prog X.w) A (ksk_tail a false e1 (.ref kS) st) P E s:=by
 have big:1000≤sizeLine:=by decide
 unfold ksk_tail
 refine wpAny_bind (ycm (g:=λ_=>#[]) I fk (by simp[Ne.symm ne]) (by omega) (Nat.zero_le _) λs1 c1 I1=>wpAny_bind (wpAny_letGo ?_))
 have I2:=I1.lose
 refine wpAny_bind (seqEpoch_at I2.held rfl (wpAny_bind (ycm (g:=λ_=>if false=true then ((arrOf st).map (·.2)).reverse else (arrOf st).map (·.2)) I2 fa (λp hp=>nomatch hp) (Nat.zero_le _) (by simp;omega) λs3 c3 I3=>?_)))
 rw[hf]
 simp only[bne_self_eq_false,Bool.false_eq_true,if_false]
 have I4:=I3.lose
 rw[List.append_nil] at I4
 exact wpAny_pure (h s3 c3 I4 (by have:=I3.held;simpa using this))
structure ynQ (X:Cx) (A:Around) (ks:List Value) (c:Nat→Nat→Bool) (n:Nat) (s:Shared):Prop where
 ord:Strict c n
 kind:2≤n→∃ κ,(∀ (Q:SortKind→Shared→Prop) (E:Value→Shared→Prop),Q κ s→wpAny (model X.prog X.w) A (keyKind' ks.toArray) Q E s)∧∀ i j C,i < n→j < n→C (c i j) s→kas_ask X.prog X.w A κ ks i j C s
structure ycs (c:Nat→Nat→Bool) (n:Nat) (p:Array Nat):Prop where
 shuf:Shuf n p
 up:Up c p n
theorem yeA {α:Type}(vs:List α)(d:α):(List.range vs.length).map (λi=>vs.getD i d)=vs:=by
 apply List.ext_getElem (by simp)
 intro i h1 h2
 simp at h1
 simp[List.getD_eq_getElem?_getD,h1]
theorem ygj {c:Nat→Nat→Bool}(o:Strict c n)(h:n < 2):ycs c n (List.range n).toArray:=by
 refine⟨⟨by simp,by simp⟩,λi j l z=>?_⟩
 have:i=j:=by omega
 subst this
 exact o.irr _ (Shuf.lt ⟨by simp,by simp⟩ z)
theorem ymi {c:Nat→Nat→Bool}{P:PySem.Fin→Shared→Prop}(I:Inv X (pins++[(kS,seqObj "list" ks.toArray e),(a,seqObj "list" #[] e1)]) σ H s)(fk:FpOk X pins H kS)(fa:FpOk X pins H a)(ne:kS≠a)
  (hl:ks.length=vs.length) (h64:vs.length < 64) (q:ynQ X A ks c vs.length s)
  (h:∀ s3 p d,Inv X pins σ H s3→s3.heap.get? a=some (seqObj "list" (p.toList.map λi=>vs.getD i Value.none).toArray d)→ycs c vs.length p→P (.done (.ret .none)) s3) :
  wpAny (model X.prog X.w) A (ksk_end a false vs.toArray e1 (.ref kS) ks.toArray) P E s:=by
 unfold ksk_end
 dsimp only
 simp only[Bool.false_eq_true,if_false]
 by_cases h2:vs.length < 2
 ·rw[if_pos (by simpa using h2),if_pos (by simpa using h2)]
  refine wpAny_bind (wpAny_pure (wpAny_bind (wpAny_pure ?_)))
  refine yhM I fk fa ne rfl (by simp;omega) (by show(ks.toArray.zip vs.toArray).size≤1000;simp;omega) λs3 d I3 g3=>h s3 (List.range vs.length).toArray d I3 ?_ (ygj q.ord h2)
  rw[g3,List.toList_toArray,yeA]
  have:(arrOf (SortSt.mk' general' (ks.toArray.zip vs.toArray) #[] 7 none)).map (·.2)=vs.toArray:=by
   show(ks.toArray.zip vs.toArray).map (·.2)=vs.toArray
   apply Array.ext'
   simp[List.map_snd_zip,hl]
  rw[this]
 ·rw[if_neg (by simpa using h2),if_neg (by simpa using h2)]
  obtain⟨κ,hk,hc⟩:=q.kind (by omega)
  refine wpAny_bind (hk _ _ (wpAny_bind (wpAny_mono (kat_run (A:=A) (Q:=λst' s'=>s'=s∧∃ p:Array Nat,ycs c vs.length p∧arrOf st'=p.map (kas_item (ks.toArray.zip vs.toArray))∧failedOf st'=none) (G:=λp s'=>s'=s∧ycs c vs.length p) hl (by omega) h64
   (λp st' s' z1 z2 z3 z4=>⟨z4.1,p,z4.2,z2,z3⟩) (yi7 hc (λp cp=>⟨rfl,cp⟩) (yhi q.ord (by omega) λp b u=>⟨b,u⟩))) ?_ λ_ _ z=>z)))
  rintro⟨⟨⟩,st'⟩ s' ⟨es,p,cp,ea,ef⟩
  subst es
  refine yhM I fk fa ne ef (by simp;omega) (by rw[ea];simp[cp.shuf.size];omega) λs3 d I3 g3=>h s3 p d I3 ?_ cp
  rw[g3,kat_snds hl ea]
end
end L2
namespace L2
open PySem PySem.Spec PySem.W PyProof.Rows
section
variable {X:Cx} {pins:List (Addr×Obj)} {σ:St} {H:Hp} {s:Shared} {A:Around} {E:Value→Shared→Prop} {a kS:Addr} {vs:List Value} {e1 n:Nat} {f:Value}
def ygF (X:Cx)(σ:St)(A:Around)(f:Value)(vs:List Value)(Kp:Nat→List V→Hp→Prop):Prop :=
 ∀ (i:Nat) (v:Value) (kv:List V) (H:Hp),vs[i]?=some v→Kp i kv H→∀ (pins:List (Addr×Obj)) (s:Shared),Inv X pins σ H s →
  wpAny (model X.prog X.w) A (call f [v]) (λr s'=>∃ k H',RelV k r∧Kp (i+1) (kv++[k]) H'∧Inv X pins σ H' s') (λ_ _=>False) s
theorem FpOk.now {o:Obj}{l m:List (Addr×Obj)}{H':Hp}{s':Shared}(I:Inv X (pins++l) σ H' s')(hm:(a,o)∈l)(h:FpOk X pins H a):FpOk X pins H' a :=
 ⟨(I.pin (a,o) (by simp[hm])).2.1,h.2⟩
theorem ygn {xs:List V}{us:List Value}{x:V}{u:Value}(r:Vals xs us)(h:RelV x u):Vals (xs++[x]) (us++[u]):=by
 induction r with
 | nil=>exact .cons h .nil
 | cons a _ ih=>exact .cons a ih
theorem ykJ {c:Nat→Nat→Bool}{Kp:Nat→List V→Hp→Prop}{P:PySem.Fin→Shared→Prop}(I:Inv X (pins++[(kS,seqObj "list" #[] 0),(a,seqObj "list" #[] e1)]) σ H s)(fk:FpOk X pins H kS)(fa:FpOk X pins H a)(ne:kS≠a)(h64:vs.length < 64)
  (k0:Kp 0 [] H) (turn:ygF X σ A f vs Kp) (q:∀ kv H' ks l s',Kp vs.length kv H'→Vals kv ks→ks.length=vs.length→Inv X l σ H' s'→ynQ X A ks c vs.length s')
  (h:∀ s3 p d kv H',Kp vs.length kv H'→FpOk X pins H' a→Inv X pins σ H' s3→s3.heap.get? a=some (seqObj "list" (p.toList.map λi=>vs.getD i Value.none).toArray d)→ycs c vs.length p→P (.done (.ret .none)) s3) :
  wpAny (model X.prog X.w) A (ksk_rest a f false vs.toArray e1 (.ref kS)) P E s:=by
 have big:1000≤sizeLine:=by decide
 refine wpAny_bind (wpAny_rule ?_)
 rw[List.forIn_toArray]
 refine wpAny_bind (ksk_fold (λi s'=>∃ kv ks H' e,Kp i kv H'∧Vals kv ks∧ks.length=i∧Inv X (pins++[(kS,seqObj "list" ks.toArray e),(a,seqObj "list" #[] e1)]) σ H' s') vs 0 s ⟨[],[],H,0,k0,.nil,rfl,I⟩ (λj x s' hx hj=>?_) λs' hj=>?_)
 ·rw[Nat.zero_add] at hj ⊢
  obtain⟨kv,ks,H',e,hk,rv,el,I'⟩:=hj
  have lt:j < vs.length:=(List.getElem?_eq_some_iff.mp hx).1
  refine wpAny_bind (wpAny_attempt (wpAny_mono (turn j x kv H' hx hk _ s' I') (λr s2 ⟨k,H2,rk,hk2,I2⟩=>?_) λ_ _=>False.elim))
  have fk2:FpOk X pins H2 kS:=fk.now (l:=[(kS,seqObj "list" ks.toArray e),(a,seqObj "list" #[] e1)]) (m:=[]) I2 List.mem_cons_self
  refine wpAny_bind (ycm (g:=(·.push r)) I2 fk2 (by simp[Ne.symm ne]) (by simp;omega) (by simp;omega) λs3 e3 I3=>wpAny_pure ⟨rfl,kv++[k],ks++[r],H2,e3,hk2,ygn rv rk,by simp[el],?_⟩)
  have:(ks++[r]).toArray=ks.toArray.push r:=by simp
  rw[this]
  exact I3
 ·rw[Nat.zero_add] at hj
  obtain⟨kv,ks,H',e,hk,rv,el,I'⟩:=hj
  have fk2:FpOk X pins H' kS:=fk.now (l:=[(kS,seqObj "list" ks.toArray e),(a,seqObj "list" #[] e1)]) (m:=[]) I' List.mem_cons_self
  have fa2:FpOk X pins H' a:=fa.now (l:=[(kS,seqObj "list" ks.toArray e),(a,seqObj "list" #[] e1)]) (m:=[]) I' (List.mem_cons_of_mem _ List.mem_cons_self)
  exact wpAny_bind (listItems_at I'.held rfl (ymi I' fk2 fa2 ne el h64 (q kv H' ks _ s' hk rv el I') λs3 p d I3 g3 cp=>h s3 p d kv H' hk fa2 I3 g3 cp))
theorem ykv {c:Nat→Nat→Bool}{Kp:Nat→List V→Hp→Prop}{P:PySem.Fin→Shared→Prop}(I:Inv X pins σ H s)(ga:s.heap.get? a=some (seqObj "list" vs.toArray n))(fa:FpOk X pins H a)(h64:vs.length < 64)
  (k0:Kp 0 [] H) (turn:ygF X σ A f vs Kp) (q:∀ kv H' ks l s',Kp vs.length kv H'→Vals kv ks→ks.length=vs.length→Inv X l σ H' s'→ynQ X A ks c vs.length s')
  (h:∀ s3 p d kv H',Kp vs.length kv H'→FpOk X pins H' a→Inv X pins σ H' s3→s3.heap.get? a=some (seqObj "list" (p.toList.map λi=>vs.getD i Value.none).toArray d)→ycs c vs.length p→P (.done (.ret .none)) s3) :
  wpAny (model X.prog X.w) A (ksk_tree a f false) P E s:=by
 have big:64≤sizeLine:=by decide
 have small:vs.toArray.size≤sizeLine:=by simp;omega
 have I0:Inv X (pins++[(a,seqObj "list" vs.toArray n)]) σ H s:=Inv.hold (l:=[]) (by rw[List.append_nil];exact I) fa ga λv=>nofun
 refine wpAny_bind (listItems_at ga rfl (wpAny_bind (ycm (g:=λ_=>#[]) I0 fa (λp hp=>nomatch hp) small (Nat.zero_le _) λs1 e1 I1=>?_)))
 refine wpAny_bind (seqEpoch_at I1.held rfl (wpAny_bind (wpAny_newTuple (wpAny_bind (wpAny_newList (wpAny_holding ?_) (Nat.zero_le _))) (by simpa using small))))
 generalize hT:s1.heap.push { cls:=.type "tuple",data:=.seq vs.toArray.toList.toArray }=T
 have I2:Inv X (pins++[(a,seqObj "list" #[] e1)]) σ H { s1 with heap:=T }:=I1.kept (t':=s1.toks) λb o g=>hT▸Heap.get?_push_of_some _ g
 have I3:Inv X (pins++[(a,seqObj "list" #[] e1)]) σ H { s1 with heap:=T.push (seqObj "list" #[] 0) }:=I2.kept (t':=s1.toks) λb o g=>Heap.get?_push_of_some _ g
 have fk:FpOk X pins H T.objs.size:=I2.unpinned.fpOk (Nat.le_refl _) (I2.hok.fresh (Nat.le_refl _))
 exact ykJ (Inv.hold I3 fk (Heap.get?_push_size _ rfl) λv=>nofun) fk fa (Nat.ne_of_gt (Heap.lt_size (I2.held))) h64 k0 turn q h
theorem yiW {c:Nat→Nat→Bool}{P:PySem.Fin→Shared→Prop}(I:Inv X pins σ H s)(ga:s.heap.get? a=some (seqObj "list" vs.toArray n))(fa:FpOk X pins H a)(h64:vs.length < 64)
  (q:∀ l s',Inv X l σ H s'→ynQ X A vs c vs.length s')
  (h:∀ s3 p d,Inv X pins σ H s3→s3.heap.get? a=some (seqObj "list" (p.toList.map λi=>vs.getD i Value.none).toArray d)→ycs c vs.length p→P (.done (.ret .none)) s3) :
  wpAny (model X.prog X.w) A (Builtin.«list.sort» ⟨[.ref a],[]⟩) P E s:=by
 have big:64≤sizeLine:=by decide
 have small:vs.toArray.size≤sizeLine:=by simp;omega
 have I0:Inv X (pins++[(a,seqObj "list" vs.toArray n)]) σ H s:=Inv.hold (l:=[]) (by rw[List.append_nil];exact I) fa ga λv=>nofun
 rw[list_sort_plain]
 refine wpAny_bind (listItems_at ga rfl (wpAny_bind (ycm (g:=λ_=>#[]) I0 fa (λp hp=>nomatch hp) small (Nat.zero_le _) λs1 e1 I1=>?_)))
 refine wpAny_bind (seqEpoch_at I1.held rfl (wpAny_bind (wpAny_newTuple (wpAny_bind (wpAny_newList (wpAny_holding ?_) (Nat.zero_le _))) (by simpa using small))))
 generalize hT:s1.heap.push { cls:=.type "tuple",data:=.seq vs.toArray.toList.toArray }=T
 have I2:Inv X (pins++[(a,seqObj "list" #[] e1)]) σ H { s1 with heap:=T }:=I1.kept (t':=s1.toks) λb o g=>hT▸Heap.get?_push_of_some _ g
 have I3:Inv X (pins++[(a,seqObj "list" #[] e1)]) σ H { s1 with heap:=T.push (seqObj "list" #[] 0) }:=I2.kept (t':=s1.toks) λb o g=>Heap.get?_push_of_some _ g
 have ask:=q _ _ I3
 dsimp only
 by_cases h2:vs.length < 2
 ·rw[if_pos (by simpa using h2),if_pos (by simpa using h2)]
  refine wpAny_bind (wpAny_pure (wpAny_bind (wpAny_pure ?_)))
  refine wpAny_bind (seqEpoch_at I3.held rfl (wpAny_bind (ycm I3 fa (λp hp=>nomatch hp) (Nat.zero_le _) (by show((vs.toArray.zip vs.toArray).map (·.2)).size≤sizeLine+1;simp;omega) λs3 d I4=>?_)))
  rw[show failedOf ((),SortSt.mk' general' (vs.toArray.zip vs.toArray) #[] 7 none).snd=none from rfl]
  simp only[bne_self_eq_false,reduceCtorEq,if_false,Bool.false_eq_true]
  have I5:=I4.lose
  rw[List.append_nil] at I5
  refine wpAny_pure (h s3 (List.range vs.length).toArray d I5 ?_ (ygj ask.ord h2))
  rw[I4.held,List.toList_toArray,yeA]
  have:(vs.toArray.zip vs.toArray).map (·.2)=vs.toArray:=by
   apply Array.ext'
   simp[List.map_snd_zip]
  rw[show(arrOf (SortSt.mk' general' (vs.toArray.zip vs.toArray) #[] 7 none)).map (·.2)=(vs.toArray.zip vs.toArray).map (·.2) from rfl,this]
 ·rw[if_neg (by simpa using h2),if_neg (by simpa using h2)]
  obtain⟨κ,hk,hc⟩:=ask.kind (by omega)
  refine wpAny_bind (hk _ _ (wpAny_bind (wpAny_mono (kat_run (A:=A) (ks:=vs) (vs:=vs) (Q:=λst' s'=>s'={ s1 with heap:=T.push (seqObj "list" #[] 0) }∧∃ p:Array Nat,ycs c vs.length p∧arrOf st'=p.map (kas_item (vs.toArray.zip vs.toArray))∧failedOf st'=none) (G:=λp s'=>s'={ s1 with heap:=T.push (seqObj "list" #[] 0) }∧ycs c vs.length p) rfl (by omega) h64
   (λp st' s' z1 z2 z3 z4=>⟨z4.1,p,z4.2,z2,z3⟩) (yi7 hc (λp cp=>⟨rfl,cp⟩) (yhi ask.ord (by omega) λp b u=>⟨b,u⟩))) ?_ λ_ _ z=>z)))
  rintro⟨⟨⟩,st'⟩ s' ⟨es,p,cp,ea,ef⟩
  subst es
  refine wpAny_bind (seqEpoch_at I3.held rfl (wpAny_bind (ycm (g:=λ_=>(arrOf st').map (·.2)) I3 fa (λp hp=>nomatch hp) (Nat.zero_le _) (by rw[ea];simp[cp.shuf.size];omega) λs3 d I4=>?_)))
  dsimp only
  rw[ef]
  simp only[bne_self_eq_false,reduceCtorEq,if_false,Bool.false_eq_true]
  have I5:=I4.lose
  rw[List.append_nil] at I5
  refine wpAny_pure (h s3 p d I5 (by rw[I4.held,kat_snds rfl ea]) cp)
end
end L2
namespace L2
open PySem PySem.Spec PySem.W PyProof.Rows
section
variable {X:Cx} {pins l:List (Addr×Obj)} {σ:St} {H:Hp} {s:Shared} {A:Around} {E:Value→Shared→Prop}
theorem yiD {fin:Bool}{Q:Bool→Shared→Prop}:∀ {us vs:List Value} {ns ms:List Int} (i:Nat),IntsAre us ns→IntsAre vs ms→ns.length=ms.length→Q (HT.lexLt ns ms) s →
  fin=false→KatLex X.prog X.w A true fin Q (us.zip vs) i s
 | _,_,_,_,i,.nil,.nil,_,h,e=>by subst e;exact h
 | _,_,_,_,i,.cons (n:=x) (t:=t) a,.cons (n:=y) (t:=u) b,hl,h,e=>by
  refine kat_cons (wpAny_eqBool_int (kat_go (λz=>kat_yes ?_) λz=>kat_no ?_))
  ·have z:x=y:=by simpa using z
   rw[HT.lexLt_cons,if_pos z] at h
   exact yiD (i+1) a b (by simpa using hl) h e
  ·have z:x≠y:=by simpa using z
   rw[HT.lexLt_cons,if_neg z] at h
   cases i with
   | zero=>exact oneLt_int h
   | succ i=>exact kat_one _ _ (wpAny_lt_int h)
def yeI (K:PySem.W.Frag)(H:Hp)(n m:Nat)(N:Nat→List Int)(kv:List V):Prop:=kv.length=n∧0 < m∧∀ i,i < n→∃ a,kv[i]?=some (.ref a)∧SqT K H a ((N i).map V.int)∧(N i).length=m
theorem yhE (h:Heap):∀ {ks:List Value},(∀ k∈ks,∃ a o xs n i t,k=.ref a∧h.get? a=some o∧o.cls=.type "tuple" ∧ o.data=.seq xs n∧xs[0]?=some (.int i t))→∃ fs:List Value,KatTups h ks fs∧fs.length=ks.length∧∀ f∈fs,∃ i t,f=.int i t
 | [],_=>⟨[],trivial,rfl,λf hf=>nomatch hf⟩
 | k :: ks,hk=>by
  obtain⟨a,o,xs,n,i,t,rfl,g,c,d,f⟩:=hk k List.mem_cons_self
  obtain⟨fs,h1,h2,h3⟩:=yhE h λk' hk'=>hk k' (List.mem_cons_of_mem _ hk')
  exact⟨.int i t :: fs,.cons g c d f h1,by rw[List.length_cons,List.length_cons,h2],λf' hf'=>(List.mem_cons.mp hf').elim (λz=>⟨i,t,z⟩) (h3 f')⟩
theorem ygv {n m:Nat}{N:Nat→List Int}{kv:List V}{ks:List Value}(o:Strict (λi j=>HT.lexLt (N i) (N j)) n)(tk:yeI X.K H n m N kv)(rv:Vals kv ks)(I:Inv X l σ H s):ynQ X A ks (λi j=>HT.lexLt (N i) (N j)) n s:=by
 obtain⟨hn,hm,hk⟩:=tk
 have one:∀ i,i < n→∃ a its,ks[i]?=some (.ref a)∧IsTup s.heap a its∧IntsAre its.toList (N i)∧(N i).length=m:=λi hi=>by
  obtain⟨a,e,sq,z⟩:=hk i hi
  obtain⟨u,eu,ru⟩:=rv.get e
  cases ru
  obtain⟨its,r1,p1,_⟩:=I.tuple sq
  exact⟨a,its.toArray,eu,p1,yh6 r1,z⟩
 refine⟨o,λh2=>⟨tuples' true,λQ E q=>?_,λi j C hi hj q=>?_⟩⟩
 ·obtain⟨fs,h1,hlen,h3⟩:=yhE s.heap (ks:=ks) λk hk'=>by
   obtain⟨i,hi,e⟩:=List.getElem_of_mem hk'
   have hin:i < n:=by rw[← hn,rv.length];exact hi
   obtain⟨a,its,ea,⟨o',g,c,k',d⟩,ia,z⟩:=one i hin
   rw[List.getElem?_eq_getElem hi,e] at ea
   obtain⟨v0,hv0⟩:∃ v,its.toList[0]?=some v:=⟨_,List.getElem?_eq_getElem (by have:=ia.length;omega)⟩
   obtain⟨i0,t0,rfl⟩:=ia.all v0 (List.mem_of_getElem? hv0)
   exact⟨a,o',its,k',i0,t0,by simpa using ea,g,c,d,by rw[← hv0,Array.getElem?_toList]⟩
  refine kat_kind (T:=.type "int") h1 (by rw[hlen,← rv.length,hn];omega) (λv hv=>?_) (by decide) q
  obtain⟨i,t,rfl⟩:=h3 v hv
  exact Looks.now
 ·obtain⟨a,its,ea,⟨o1,g1,c1,k1,d1⟩,ia,z1⟩:=one i hi
  obtain⟨b,its2,eb,⟨o2,g2,c2,k2,d2⟩,ib,z2⟩:=one j hj
  unfold kas_ask
  rw[List.getD_eq_getElem?_getD,List.getD_eq_getElem?_getD,ea,eb]
  have l1:its.size=its2.size:=by have:=ia.length;have:=ib.length;simp at *;omega
  exact kat_lt g1 d1 g2 d2 (yiD 0 ia ib (by omega) q (by simp;omega))
theorem ygR:∀ ns:List Int,HT.lexLt ns ns=false
 | []=>rfl
 | n :: ns=>by rw[HT.lexLt_cons,if_pos rfl];exact ygR ns
theorem ylB:∀ {a b c:List Int},HT.lexLt a b=true→HT.lexLt b c=true→HT.lexLt a c=true
 | [],[],c,h1,h2=>h2
 | [],y :: b,[],h1,h2=>by rw[HT.lexLt_cons_nil] at h2;cases h2
 | [],y :: b,z :: c,h1,h2=>rfl
 | x :: a,[],c,h1,h2=>by rw[HT.lexLt_cons_nil] at h1;cases h1
 | x :: a,y :: b,[],h1,h2=>by rw[HT.lexLt_cons_nil] at h2;cases h2
 | x :: a,y :: b,z :: c,h1,h2=>by
  rw[HT.lexLt_cons] at h1 h2 ⊢
  by_cases e1:x=y<;>by_cases e2:y=z
  ·rw[if_pos e1] at h1
   rw[if_pos e2] at h2
   rw[if_pos (e1.trans e2)]
   exact ylB h1 h2
  ·rw[if_neg e2] at h2
   rw[if_neg (e1▸e2),e1]
   exact h2
  ·rw[if_neg e1] at h1
   rw[if_neg (e2▸e1),← e2]
   exact h1
  ·rw[if_neg e1] at h1
   rw[if_neg e2] at h2
   have h1:x < y:=by simpa using h1
   have h2:y < z:=by simpa using h2
   rw[if_neg (by omega)]
   simp
   omega
theorem yiF:∀ {a b:List Int},HT.lexLt a b=false→HT.lexLt b a=false→a=b
 | [],[],_,_=>rfl
 | [],y :: b,h,_=>by rw[HT.lexLt_nil_cons] at h;cases h
 | x :: a,[],_,h=>by rw[HT.lexLt_nil_cons] at h;cases h
 | x :: a,y :: b,h1,h2=>by
  rw[HT.lexLt_cons] at h1 h2
  by_cases e:x=y
  ·rw[if_pos e] at h1
   rw[if_pos e.symm] at h2
   rw[e,yiF h1 h2]
  ·rw[if_neg e] at h1
   rw[if_neg (Ne.symm e)] at h2
   simp at h1 h2
   omega
theorem ydt {n:Nat}{N:Nat→List Int}(inj:∀ i j,i < n→j < n→N i=N j→i=j):Strict (λi j=>HT.lexLt (N i) (N j)) n :=
 ⟨λi _=>ygR _,λi j k _ _ _ h1 h2=>ylB h1 h2,λi j hi hj h1 h2=>inj i j hi hj (yiF h1 h2)⟩
end
end L2
namespace L2
open PySem PySem.Spec PySem.W PyProof.Rows
section
variable {X:Cx} {pins:List (Addr×Obj)} {σ:St} {H:Hp} {s:Shared} {A:Around} {E:Value→Shared→Prop}
def nV (i:Nat):V:=.int (i:Int)
def Col (X:Cx)(A:Around)(pins:List (Addr×Obj))(σ:St)(H:Hp)(src:Value)(xs:List V)(s:Shared):Prop :=
 ∀ (Q:List Value→Shared→Prop) (E:Value→Shared→Prop),(∀ vs s',Vals xs vs→Inv X pins σ H s'→Q vs s')→wpAny (model X.prog X.w) A (collect src) Q E s
theorem ykj {l:Addr}{xs:List V}(I:Inv X pins σ H s)(h:SqL X.K H l xs):Col X A pins σ H (.ref l) xs s:=λQ E q=>by
 obtain⟨its,rv,pl,hz⟩:=I.list h
 refine collect_list (vs:=its) pl.isList (q _ _ rv (I.kept (t':=s.toks) λb o g=>?_)) (by rw[← rv.length];exact hz)
 exact(Heap.get?_update_other _ _ (Nat.ne_of_gt (Heap.lt_size g))).trans (Heap.get?_push_of_some _ g)
def yqu (S:Addr)(Q:List Value→Shared→Prop)(E:Value→Shared→Prop)(r:Result)(s':Shared):Prop:=match r with
 | .ok (.ret v)=>∃ o xs k,v=.ref S∧s'.heap.get? S=some o∧o.data=.seq xs k∧Q xs.toList s'
 | .ok _=>False
 | .error e=>E e s'
theorem yh8 {x:Value}{Q:List Value→Shared→Prop}
  (h:∀ R:Result→Shared→Prop,(∀ s' o xs k,s'.heap.get? s.heap.objs.size=some o→o.data=.seq xs k→Q xs.toList s'→R (.ok (.ret (.ref s.heap.objs.size))) s') →
   wpAny (model X.prog X.w) A.in1 (Builtin.List.listExtendWith (.ref s.heap.objs.size) x (.ref s.heap.objs.size)) (λfin s'=>match fin with | .done f=>R (.ok f) s' | .again c'=>c'.quiet=true∧codeAny (model X.prog X.w) A c' R s') (λe s'=>R (.error e) s') { s with heap:=s.heap.push (seqObj "list" #[] 0) }) :
  wpAny (model X.prog X.w) A (collect x) Q E s:=by
 have start:codeAny (model X.prog X.w) A (.builtin "proto.collect" ⟨[x],[]⟩) (yqu s.heap.objs.size Q E) s:=by
  refine codeAny_builtin F.entry_proto_collect (Around.under_plainId F.plain_proto_collect ⟨[x],[]⟩▸wpAny_bind (wpAny_newList (wpAny_pure ⟨plainId_quiet F.plain_list_iadd _,codeAny_builtin F.entry_list_iadd ?_⟩) (Nat.zero_le _)))
  rw[Around.under_plainId F.plain_list_iadd]
  exact h (yqu s.heap.objs.size Q E) λs' o xs k g d q=>⟨o,xs,k,rfl,g,d,q⟩
 refine wpAny_bind (wpAny_runValue (codeAny_mono start λr s' hr=>?_))
 match r,hr with
 | .ok (.ret v),⟨o,xs,k,e,g,d,q⟩ =>
  subst e
  exact wpAny_bind (wpAny_load g (by rw[d];exact wpAny_pure q))
 | .error e,hr=>exact hr
theorem yl9 {r:Addr}{n:Nat}{t u v:Tok}(hh:A.handled=none)(I:Inv X pins σ H s)(hr:IsRange s.heap r 0 n 1 t u v)(hn:n < 1000):Col X A pins σ H (.ref r) ((List.range n).map nV) s:=λQ E q=>by
 refine yh8 (A:=A) λR k=>?_
 refine wpAny_extend_range (n:=n) (c₀:=0) hh (Heap.get?_push_of_some _ hr) (small_one (by omega) (by omega) (by omega) (by omega)) (by rw[rangeSize_one];split<;>omega) (by omega) s.heap.objs.size _ (Heap.get?_push_size _ rfl) λh' tk acc c kp g ho=>?_
 refine k _ _ _ _ g rfl (q _ _ ?_ (I.kept λb o e=>kp b o (Nat.ne_of_lt (Heap.lt_size e)) (Heap.get?_push_of_some _ e)))
 have gen:∀ (m:Nat) (as:List Value),as.length=m→(∀ (j:Nat) (v:Value),as[j]?=some v→∃ t,v=Value.int (j:Int) t)→Vals ((List.range m).map nV) as:=by
  intro m
  induction m with
  | zero=>intro as e _;rw[List.length_eq_zero_iff.mp e];exact .nil
  | succ m ih =>
   intro as e hv
   rcases List.eq_nil_or_concat as with z | ⟨bs,b,z⟩
   ·rw[z] at e;cases e
   ·subst z
    have eb:bs.length=m:=by simpa using e
    rw[List.range_succ,List.map_append,List.concat_eq_append]
    show Vals (_++[nV m]) (bs++[b])
    refine ygn (ih bs eb λj v hj=>hv j v (by rw[List.concat_eq_append,List.getElem?_append_left (List.getElem?_eq_some_iff.mp hj).1];exact hj)) ?_
    ·exact hv m b (by rw[List.concat_eq_append,List.getElem?_append_right (by omega)];simp[eb])
 have:=gen n acc.toList (by rw[Array.length_toList];exact ho.1) λj v hj=>by
  obtain⟨t,rfl⟩:=ho.2 j v (by rw[Array.getElem?_toList] at hj;exact hj)
  exact⟨t,by simp⟩
 exact this
theorem yfQ {src:Value}{kw:List (Str×Value)}{xs:List V}{Q:VK}{R:Hp→Array Nat→Prop}(few:xs.length < 64)(col:Col X A.in1 pins σ H src xs s)
  (ha1:argsOk "sorted" ⟨[src],kw⟩) (ha2:∀ x,argsOk "list.sort" ⟨[.ref x],kw⟩)
  (body:∀ a vs s',Vals xs vs→vs.length=xs.length→Inv X pins σ H s'→s'.heap.get? a=some (seqObj "list" vs.toArray 0)→FpOk X pins H a→∀ (P:PySem.Fin→Shared→Prop) (E:Value→Shared→Prop),
   (∀ s3 p d H',R H' p→Shuf xs.length p→FpOk X pins H' a→Inv X pins σ H' s3→s3.heap.get? a=some (seqObj "list" (p.toList.map λi=>vs.getD i Value.none).toArray d)→P (.done (.ret .none)) s3) →
   wpAny (model X.prog X.w) A.in1.in1 (Builtin.«list.sort» ⟨[.ref a],kw⟩) P E s')
  (h:∀ H' a p,R H' p→Shuf xs.length p→H' a=none→Q (.ref a) (upd H' a (.lst (p.toList.map λi=>xs.getD i .non)))) :
  wpAny (model X.prog X.w) A (call (.builtin "sorted") [src] kw) (EP X pins σ Q) E s:=by
 have big:64≤sizeLine:=by decide
 refine call_function_entry_kw kind_sorted plain_sorted entry_sorted ha1 (wpAny_bind (m:=checkCount "sorted" 1 1 _) (wpAny_pure (wpAny_bind (col _ _ λvs s1 rv I1=>?_))))
 have el:=rv.length
 refine wpAny_bind (wpAny_newList ?_ (by omega))
 have fa:FpOk X pins H s1.heap.objs.size:=I1.fpOk (Nat.le_refl _) (I1.hok.fresh (Nat.le_refl _))
 have gN:(s1.heap.push (seqObj "list" vs.toArray 0)).get? s1.heap.objs.size=some (seqObj "list" vs.toArray 0):=Heap.get?_push_size _ rfl
 refine wpAny_bind (wpAny_holding (wpAny_call_entry_kw slot_list_sort ⟨_,gN,rfl⟩ entry_list_sort ?_ (ha2 _)))
 refine body _ vs _ rv el.symm (I1.kept (t':=s1.toks) λx o g=>Heap.get?_push_of_some _ g) gN fa _ _ λs3 p d H' hR sh fa3 I3 g3=>⟨_,rfl,wpAny_pure ⟨_,rfl,?_⟩⟩
 have ry:Vals (p.toList.map λi=>xs.getD i .non) (p.toList.map λi=>vs.getD i Value.none):=by
  have one:∀ i,RelV (xs.getD i .non) (vs.getD i Value.none):=λi=>by
   rw[List.getD_eq_getElem?_getD,List.getD_eq_getElem?_getD]
   cases e:xs[i]? with
   | none =>
    rw[List.getElem?_eq_none_iff.mpr (by rw[← el];exact List.getElem?_eq_none_iff.mp e)]
    rfl
   | some x =>
    obtain⟨u,eu,ru⟩:=rv.get e
    rw[eu]
    exact ru
  induction p.toList with
  | nil=>exact .nil
  | cons i l ih=>exact .cons (one i) ih
 have z:(p.toList.map λi=>xs.getD i V.non).length≤sizeLine:=by rw[List.length_map,Array.length_toList,sh.size];omega
 exact⟨.ref _,_,I3.note (u:=.lst (p.toList.map λi=>xs.getD i .non)) fa3.1 I1.sz fa3.2.1 fa3.2.2.2.2.1 fa3.2.2.2.2.2 g3 ⟨z,_,d,ry,g3⟩,rfl,h _ _ _ hR sh fa3.1⟩
def ylx (K:PySem.W.Frag):List V→Hp→VK→Prop:=λvs H Q=>∃ l xs m N,vs=[.ref l]∧SqL K H l xs∧xs.length < 64∧yeI K H xs.length m N xs∧(∀ i j,i < xs.length→j < xs.length→N i=N j→i=j) ∧
 ∀ a p,H a=none→ycs (λi j=>HT.lexLt (N i) (N j)) xs.length p→Q (.ref a) (upd H a (.lst (p.toList.map λi=>xs.getD i .non)))
theorem yh2:ycd X (.builtin "sorted") (ylx X.K):=by
 intro pins s σ H vs us Q I rv h
 obtain⟨l,xs,m,N,rfl,hl,few,tk,inj,q⟩:=h
 cases rv with
 | cons r rr =>
  cases rr
  cases r
  refine yfQ (kw:=[]) (R:=λH' p=>H'=H∧ycs (λi j=>HT.lexLt (N i) (N j)) xs.length p) few (ykj I hl) (args_sorted1 _) (λx=>args_list_sort _) (λa vs s' rv el I' ga fa P E k=>?_) λH' a p hR sh hn=>?_
  ·refine yiW (c:=λi j=>HT.lexLt (N i) (N j)) I' ga fa (by omega) (λl s2 J=>?_) λs3 p d J g cp=>k s3 p d H ⟨rfl,el▸cp⟩ (el▸cp.shuf) fa J g
   rw[el]
   exact ygv (ydt inj) tk rv J
  ·obtain⟨rfl,cp⟩:=hR
   exact q a p hn cp
def yqc (X:Cx)(sk:St→Addr→V→Hp→VK→Prop):Prop :=
 ∀ (q:Addr) (x:V) (pins:List (Addr×Obj)) (σ:St) (H:Hp) (s:Shared) (u:Value) (Q:VK),sk σ q x H Q→Inv X pins σ H s→RelV x u→wpAny (model X.prog X.w) X.A.in1.in1 (call (.ref q) [u]) (EP X pins σ Q) (λ_ _=>False) s
def ylw (K:PySem.W.Frag)(sk:St→Addr→V→Hp→VK→Prop)(te tk:TE):TE:=fun σ H Q=>te σ H λx H1=>∃ n:Nat,x=.int (n:Int)∧n < 64∧tk σ H1 λf H2=>∃ q m N,∃ Kp:Nat→List V→Hp→Prop,f=.ref q∧Kp 0 [] H2 ∧
 (∀ i kv H',i < n→Kp i kv H'→sk σ q (.int (i:Int)) H' λk H''=>Kp (i+1) (kv++[k]) H'')∧(∀ kv H',Kp n kv H'→yeI K H' n m N kv)∧(∀ i j,i < n→j < n→N i=N j→i=j) ∧
 ∀ kv H' a p,Kp n kv H'→H' a=none→ycs (λi j=>HT.lexLt (N i) (N j)) n p→Q (.ref a) (upd H' a (.lst (p.toList.map nV)))
theorem ykN {sk:St→Addr→V→Hp→VK→Prop}{x r:Str}{e ke:Expr}{te tk:TE}{p rp pos rpos kp:Pos}(hC:yqc X sk)(hc:X.calm=true)(hg:Gl X x)(hm:X.mg x=none)(hv:bootBuiltins x=some (.builtin "sorted"))
  (hgr:Gl X r) (hmr:X.mg r=none) (hvr:bootBuiltins r=some (.type "range")) (he:PE X e te) (hk:PE X ke tk) (hn:x≠"__name__":= by decide) (hdb:(x==("__debug__" : Str))=false:=by decide) (hn2:r≠"__name__":= by decide) (hdb2:(r==("__debug__" : Str))=false:=by decide)
  (he1:starEach [Expr.Call (.Name r rp) [e] [] rpos] X.env=[(false,eval (.Call (.Name r rp) [e] [] rpos) X.env)]:=by rfl) (he2:starEach [e] X.env=[(false,eval e X.env)]:=by rfl) :
  PE X (.Call (.Name x p) [.Call (.Name r rp) [e] [] rpos] [⟨some "key",ke,kp⟩] pos) (ylw X.K sk te tk):=by
 intro pins s σ H Q I h
 refine wpAny_Call_Name_kw (ydy I hg hm hv ?_ hn hdb)
 refine callWith_kw ?_ (by rw[he1];rfl) (by rw[he1];rfl)
 rw[he1]
 show wpAny _ _ (spliced [(false,eval (.Call (.Name r rp) [e] [] rpos) X.env)]) _ _ s
 refine Calls.spliced_cons (Call_ (ydy I hgr hmr hvr (PyProof.Rows.callWith_type1 (thn ((yaa he yaf he2) rpos pins s σ H (λvs H1=>match vs with
  | [x]=>∃ n:Nat,x=.int (n:Int)∧n < 64∧tk σ H1 λf H2=>∃ q m N,∃ Kp:Nat→List V→Hp→Prop,f=.ref q∧Kp 0 [] H2 ∧
    (∀ i kv H',i < n→Kp i kv H'→sk σ q (.int (i:Int)) H' λk H''=>Kp (i+1) (kv++[k]) H'')∧(∀ kv H',Kp n kv H'→yeI X.K H' n m N kv)∧(∀ i j,i < n→j < n→N i=N j→i=j) ∧
    ∀ kv H' a p,Kp n kv H'→H' a=none→ycs (λi j=>HT.lexLt (N i) (N j)) n p→Q (.ref a) (upd H' a (.lst (p.toList.map nV)))
  | _=>False) I h) λus s1 ⟨vs,H1,I1,r1,q1⟩=>?_) he2 rfl) hn2 hdb2))
 match vs,us,r1,q1 with
 | [x1],_,.cons a .nil,⟨n,ex,few,q1⟩ =>
  subst ex
  obtain⟨t,rfl⟩:=a
  refine call_range_1 (wpAny_pure ?_)
  have IR:Inv X (pins++[(s1.heap.objs.size,⟨.type "range",none,.fields #[Value.int 0 s1.toks,Value.int (n:Int) t,Value.int 1 (s1.toks+1)],#[]⟩)]) σ H1 { s1 with heap:=s1.heap.push ⟨.type "range",none,.fields #[Value.int 0 s1.toks,Value.int (n:Int) t,Value.int 1 (s1.toks+1)],#[]⟩,toks:=s1.toks+1+1 } :=
   Inv.hold (l:=[]) (by rw[List.append_nil];exact I1.kept λb o g=>Heap.get?_push_of_some _ g) (I1.fpOk (Nat.le_refl _) (I1.hok.fresh (Nat.le_refl _))) (Heap.get?_push_size _ rfl) λv=>nofun
  refine kws_cons (thn (hk _ _ σ H1 _ IR q1) λfv s2 ⟨f,H2,I2,rf,q2⟩=>kws_nil ?_)
  obtain⟨q,m,N,Kp,rfl,k0,ks,kt,inj,fin⟩:=q2
  cases rf
  have hr:IsRange s2.heap s1.heap.objs.size 0 n 1 s1.toks t (s1.toks+1):=I2.held
  have I3:=I2.lose
  rw[List.append_nil] at I3
  have ln:((List.range n).map nV).length=n:=by simp
  refine yfQ (xs:=(List.range n).map nV) (R:=λH' p=>(∃ kv,Kp n kv H')∧ycs (λi j=>HT.lexLt (N i) (N j)) n p) (by omega) (yl9 (I3.ok.hd hc) I3 hr (by omega)) (ksk_s1 _ _) (λx=>ksk_l1 _ _) (λa vs s' rv el I' ga fa P E k=>?_) λH' a p hR sh hn=>?_
  ·show wpAny _ _ (Builtin.«list.sort» ⟨[.ref a],[(Str.ofString "key",.ref q)]⟩) P E s'
   rw[ksk_t1]
   rw[ln] at el
   have ru:ygF X σ X.A.in1.in1 (.ref q) vs Kp:=λi v kv H' hv hkp pins' s3 J=>by
    have hi:i < n:=by rw[← el];exact(List.getElem?_eq_some_iff.mp hv).1
    obtain⟨u,eu,ru⟩:=rv.get (i:=i) (x:=nV i) (by simp[hi])
    rw[hv] at eu
    cases eu
    exact thn (hC q (nV i) pins' σ H' s3 v _ (ks i kv H' hi hkp) J ru) λr s4 ⟨k',H4,J4,rk,kp⟩=>⟨k',H4,rk,kp,J4⟩
   refine ykv (c:=λi j=>HT.lexLt (N i) (N j)) (Kp:=Kp) I' ga fa (by omega) k0 ru (λkv H' ks' l s3 hkp rk ek J=>?_) λs3 p d kv H' hkp fa3 J g cp=>?_
   ·rw[el] at hkp ⊢
    exact ygv (ydt inj) (kt kv H' hkp) rk J
   ·rw[el] at hkp cp
    exact k s3 p d H' ⟨⟨kv,hkp⟩,cp⟩ (ln.symm▸cp.shuf) fa3 J g
  ·obtain⟨⟨kv,hkp⟩,cp⟩:=hR
   have:=fin kv H' a p hkp hn cp
   have e:p.toList.map (λi=>((List.range n).map nV).getD i V.non)=p.toList.map nV:=List.map_congr_left λi hi=>by
    have:i < n:=List.mem_range.mp (cp.shuf.perm.mem_iff.mp hi)
    simp[List.getD_eq_getElem?_getD,this]
   rw[e]
   exact this
end
end L2
namespace L2
open PySem PySem.Spec PyProof.Rows
def yn2 (H:Hp)(fa:Addr)(qual:Str)(params:Arguments)(body:Expr)(scope:Scope)(clos:List (Str×Addr)):Prop :=
 ∃ pm c' ctv,H fa=some (stays fa (PySem.W.kla_obj "<lambda>" qual params body scope clos pm c' ctv))∧CodeK H c' qual
def cxL (P:Program)(w:World)(K:PySem.W.Frag)(mg:Str→Option Value)(base:Heap)(x y:Str)(qual:Str)(scope:Scope)(f:Addr)(cd:Value)(c:Addr)(A:Around)(outer:List Env)(s:Shared)(H:Hp):Cx where
 prog:=P
 w:=w
 K:=K
 mg:=mg
 base:=base
 A:=A.deeper (PySem.W.envX qual scope s.heap.objs.size f cd [(y,c)])
 N:=[x,y]
 s₀:=s
 H₀:=H
 env:=PySem.W.envX qual scope s.heap.objs.size f cd [(y,c)]
 outer:=outer
 stack:=PySem.W.envX qual scope s.heap.objs.size f cd [(y,c)] :: outer
 ex:=[]
 calm:=true
 fn:=λz=>z==x
 pn:=[]
 xe:=λ_ _=>False
theorem lk1 {α:Type}{y a:Str}{n d:α}(h:([(y,n)]:List (Str×α)).lookup a=some d):a=y∧d=n:=by
 rw[List.lookup_cons] at h
 cases q:a==y with
 | true=>rw[q] at h;cases h;exact⟨by simpa using q,rfl⟩
 | false=>rw[q] at h;cases h
theorem yqz {α:Type}{y:Str}{n:α}:([(y,n)]:List (Str×α)).lookup y=some n:=by simp
theorem yjP {P:Program}{w:World}{K:PySem.W.Frag}{mg:Str→Option Value}{base:Heap}{k:Nat}{A:Around}{outer:List Env}{s:Shared}{H:Hp}{fa c:Addr}{qual:Str}{params:Arguments}{body:Expr}{scope:Scope}{x y:Str}{lv xv:V}{v u:Value}{Q:VK}{E:XK}
  (hr:Room (k+1) A) (e0:Env0 P w K mg base A outer s H) (F:yn2 H fa qual params body scope [(y,c)]) (hc:H c=none) (hcell:s.heap.IsCell c (some v)) (rl:RelV lv v) (ru:RelV xv u)
  (hs:scope.names=[(x,.local),(y,.free)]) (hxy:x≠y) (hk:scope.kind=.function) (hco:scope.isCoroutine=false) (hgen:scope.isGenerator=false)
  (hb:∀ pm c' ctv,bindArgs (PySem.W.kla_fn "<lambda>" qual params body scope [(y,c)] pm (.ref c') ctv) ⟨[u],[]⟩=pure [(x,u)])
  (he:∀ cd,Room k (A.deeper (PySem.W.envX qual scope s.heap.objs.size fa cd [(y,c)]))→∃ t,PE (cxL P w K mg base x y qual scope fa cd c A outer s H) body t∧t [some xv,some lv] H Q) :
  codeAny (model P w) A (.call (.ref fa) ⟨[u],[]⟩) (CR CX0 outer P w H s Q E) s:=by
 obtain⟨pm,c',ctv,eF,ck⟩:=F
 have hF:=e0.hok.stays eF
 have hcl:c < s.heap.objs.size:=let ⟨_,g,_⟩:=hcell;Heap.lt_size g
 have lkx:scope.names.lookup x=some .local:=by rw[hs];simp
 have lky:scope.names.lookup y=some .free:=by rw[hs];simp[List.lookup_cons,beq_eq_false_iff_ne.mpr (Ne.symm hxy)]
 refine PySem.W.kla_callFunE hr.depth hF rfl hco hgen rfl (ck.rec e0.hok) ?_
 rw[hb]
 refine wpAny_pure ?_
 simp only[newFunctionEnv,Option.isSome_none,Bool.false_eq_true,if_false]
 refine wpAny_bind (wpAny_alloc ?_)
 refine wpAny_bind (wpAny_layCells _ (λname kind cells=>by cases hkc:kind==NameKind.cell<;>simp[hkc]) _ _ _ _ ?_)
 have eP:pushCells (s.heap.push { cls:=.type "frame",data:=.dict #[] }) scope.names=s.heap.push { cls:=.type "frame",data:=.dict #[] }:=by rw[hs];rfl
 have eC:cellsFrom (s.heap.push { cls:=.type "frame",data:=.dict #[] }).objs.size scope.names [(y,c)]=[(y,c)]:=by rw[hs];rfl
 show wpAny _ _ _ _ _ { s with heap:=pushCells (s.heap.push { cls:=.type "frame",data:=.dict #[] }) scope.names }
 rw[eP,eC]
 have kp:∀ b o,s.heap.get? b=some o→(s.heap.push { cls:=.type "frame",data:=.dict #[] }).get? b=some o:=λb o g=>Heap.get?_push_of_some _ g
 have I:Inv (cxL P w K mg base x y qual scope fa (.ref c') c A outer s H) [] [none,some lv] H { s with heap:=s.heap.push { cls:=.type "frame",data:=.dict #[] } }:=by
  refine⟨⟨e0.mod,hk,rfl,rfl,Nat.le_refl _,λa b d h1 h2=>(lk1 h1).1.trans (lk1 h2).1.symm,λa ha=>?_,λa d ha hd=>?_,λ_=>hr.hd,Around.frames_deeper e0.frames,.inr ⟨rfl,rfl⟩,λb z=>absurd (show b∈([]:List Addr) from z) (by simp),e0.bs,e0.bsz,λb _ _ z=>absurd (show b∈([]:List Addr) from z) (by simp),λb z=>absurd (show b∈([]:List Addr) from z) (by simp),e0.funs,e0.frf⟩,
   rfl,e0.bare,Un.kept kp,⟨_,Heap.Ns.new s.heap (.type "frame"),λi z v' h1 h2 h3=>?_⟩,λa d ha=>?_,e0.hok.fresh (Nat.le_refl _),λa d ha=>?_,λp hp=>absurd (show p∈([]:List (Addr×Obj)) from hp) (by simp),e0.hok.kept kp,rfl⟩
  ·have ha:scope.names.lookup a=some .cell∨scope.names.lookup a=some .free:=ha
   rw[hs] at ha
   rcases ha with ha | ha<;>rcases lk2 ha with ⟨rfl,z⟩ | ⟨rfl,z⟩
   ·cases z
   ·cases z
   ·cases z
   ·exact⟨_,yqz⟩
  ·have ha:(a==x)=true:=ha
   have:a=x:=by simpa using ha
   subst this
   exact absurd (lk1 hd).1 hxy
  ·match i,h1,h2 with
   | 0,h1,h2=>cases h2
   | 1,h1,h2 =>
    cases h2
    cases h1
    exact⟨v,rl,.inr ⟨.inr (show scope.names.lookup y=some .free from lky),c,yqz,let ⟨o,g,d⟩:=hcell;⟨o,kp _ _ g,d⟩⟩⟩
   | i+2,h1,h2=>simp at h2
  ·obtain⟨rfl,rfl⟩:=lk1 ha
   obtain⟨o,g,d⟩:=hcell
   exact⟨_,o,kp _ _ g,d⟩
  ·obtain⟨rfl,rfl⟩:=lk1 ha
   exact hc
 rw[List.forIn_cons]
 refine wpAny_bind (wpAny_bind (wpAny_bind ?_))
 refine ydJ (X:=cxL P w K mg base x y qual scope fa (.ref c') c A outer s H) (i:=0) I (show List.Nodup [x,y] by simp[hxy]) rfl (.inl lkx) ru (λs' I'=>?_) (.inl (show(x==x)=true by simp))
 refine wpAny_pure ?_
 show wpAny _ _ (forIn ([]:List (Str×Value)) PUnit.unit _) _ _ s'
 rw[List.forIn_nil]
 refine wpAny_pure ?_
 refine wpAny_pure ?_
 obtain⟨t,ht,hq⟩:=he (.ref c') (hr.deeper _)
 refine⟨I'.nolimit,PySem.W.kla_codeExpr ?_⟩
 refine wpAny_mono (ht [] s' _ _ _ I' hq) (λu' s1 hs1=>?_) λ_ _ z=>z.elim
 obtain⟨v',H',J,rv,q⟩:=hs1
 exact⟨v',H',J.os,J.bare,J.base,J.hok,rv,q⟩
def ynz (T:Addr)(pos:Pos)(qual:Str)(params:Arguments)(body:Expr)(scope:Scope)(clos:List (Str×Addr)):TE:=λ_ H Q=>TabK H T pos qual∧∀ fa H',SameT T H H'→TabK H' T pos qual→yn2 H' fa qual params body scope clos→H fa=none→Q (.ref fa) H'
theorem ylS {X:Cx}{cc T:Addr}{params:Arguments}{body:Expr}{scope:Scope}{clos:List (Str×Addr)}{pos:Pos}(hc:X.env.code=.ref cc)(C:PySem.W.CodeHd X.base cc T)(hB:X.base.BuiltinsAt X.mg T)(hgT:mainGlobals≠T)(hcl:closureFor scope X.env=pure clos)
  (hdef:defaultsOf params X.env=([],[])):PE X (.Lambda params body scope pos) (ynz T pos (X.env.qual ++ "<lambda>") params body scope clos):=by
 intro pins s σ H Q I h
 obtain⟨⟨ps,eT,ht,hcase⟩,h⟩:=h
 refine PySem.W.kla_eval hdef ?_
 have hP:s.heap.get? T=some (PySem.W.tabObj ps):=I.hok T _ eT
 have hg:=I.ok.mod.glob.keeps I.bk
 rcases hcase with hnf | ⟨c',hne,hf',ck⟩
 ·refine PySem.W.kla_makeFunction hcl I.ok.glob hg hc (C.keeps I.bk) hP ht hnf hgT (hB.keeps I.bk) λc' ctv h' tk hx' hge hlt hrec hT'=>?_
  obtain⟨c2,o,vs,t,ec,ho,hd,hv⟩:=hrec
  cases ec
  have I1:=I.tbl (tk:=tk) eT hx' hT'
  have old:∀ {b:Addr} {u:Obj},s.heap.get? b=some u→b≠c':=λg z=>absurd (Heap.lt_size g) (by rw[z];exact Nat.not_lt_of_le hge)
  have nH:H c'=none:=I.hok.fresh hge
  have nT:c'≠T:=λz=>by rw[z,eT] at nH;cases nH
  have I2:=I1.note (a:=c') (u:=stays c' o) (by rw[yai nT];exact nH) (Nat.le_trans I.sz hge) (λz=>absurd I.lt (by rw[← z];exact Nat.not_lt_of_le hge)) (λx c e z=>by obtain⟨v,oc,g,_⟩:=I.cell x c e;exact old g z) (λp hp z=>old (I.pin p hp).1 z) ho (ObjOk.stays ho)
  have nF:(upd (upd H T (.tbl (ps++#[rawInt pos.line,rawInt pos.col,.ref c']))) c' (stays c' o)) h'.objs.size=none:=I2.hok.fresh (Nat.le_refl _)
  have I3:=I2.laid (a:=h'.objs.size) (o:=stays h'.objs.size (PySem.W.kla_obj "<lambda>" (X.env.qual ++ "<lambda>") params body scope clos ((X.mg "__name__").getD .none) c' ctv)) (t':=tk) (λb u e=>Heap.get?_push_of_some _ e) (Nat.le_refl _) (ObjOk.stays (Heap.get?_push_size _ rfl))
  have nc:c'≠h'.objs.size:=Nat.ne_of_lt hlt
  have nTf:T≠h'.objs.size:=λz=>by rw[← z,yai (Ne.symm nT),yab] at nF;cases nF
  have ck:CodeK (upd (upd (upd H T (.tbl (ps++#[rawInt pos.line,rawInt pos.col,.ref c']))) c' (stays c' o)) h'.objs.size (stays h'.objs.size (PySem.W.kla_obj "<lambda>" (X.env.qual ++ "<lambda>") params body scope clos ((X.mg "__name__").getD .none) c' ctv))) c' (X.env.qual ++ "<lambda>") :=
   ⟨o,vs,t,by rw[yai nc,yab],hd,hv⟩
  refine⟨.ref _,_,I3,rfl,h _ _ (λb u nb q=>?_) ⟨_,by rw[yai nTf,yai (Ne.symm nT),yab],?_,.inr ⟨c',nT,?_,ck⟩⟩ ⟨_,c',ctv,yab,ck⟩ ?_⟩
  ·rw[yai (yad (show(upd (upd H T (.tbl (ps++#[rawInt pos.line,rawInt pos.col,.ref c']))) c' (stays c' o)) b=some u by rw[yai (yad q nH),yai nb];exact q) nF),yai (yad q nH),yai nb]
   exact q
  ·rw[Array.toList_append]
   exact TriplesOk_snoc _ _ _ _ ht
  ·rw[Array.toList_append]
   exact codeAmong_snoc _ ht hnf
  ·exact I.hok.fresh (Nat.le_trans hge (Nat.le_of_lt hlt))
 ·refine PySem.W.kla_makeFunctionHit (cv:=.ref c') hcl I.ok.glob hg hc (C.keeps I.bk) hP ht hf' (hB.keeps I.bk) λctv h' tk keep hsz=>?_
  have nF:H h'.objs.size=none:=I.hok.fresh hsz
  have I3:=I.laid (h':=h'.push (PySem.W.kla_obj "<lambda>" (X.env.qual ++ "<lambda>") params body scope clos ((X.mg "__name__").getD .none) c' ctv)) (a:=h'.objs.size) (o:=stays h'.objs.size (PySem.W.kla_obj "<lambda>" (X.env.qual ++ "<lambda>") params body scope clos ((X.mg "__name__").getD .none) c' ctv)) (t':=tk) (λb u e=>Heap.get?_push_of_some _ (keep b u e)) hsz (ObjOk.stays (Heap.get?_push_size _ rfl))
  obtain⟨o,vs,t,e,hd,hv⟩:=ck
  have ck:CodeK (upd H h'.objs.size (stays h'.objs.size (PySem.W.kla_obj "<lambda>" (X.env.qual ++ "<lambda>") params body scope clos ((X.mg "__name__").getD .none) c' ctv))) c' (X.env.qual ++ "<lambda>"):=⟨o,vs,t,by rw[yai (yad e nF)];exact e,hd,hv⟩
  exact⟨.ref _,_,I3,rfl,h _ _ (λb u nb q=>by rw[yai (yad q nF)];exact q) ⟨ps,by rw[yai (yad eT nF)];exact eT,ht,.inr ⟨c',hne,hf',ck⟩⟩ ⟨_,c',ctv,yab,ck⟩ nF⟩
theorem ykP {X:Cx}{k i:Nat}{c:Addr}{qual:Str}{params:Arguments}{body:Expr}{scope:Scope}{x y:Str}{spL:V→V→Hp→VK→Prop}(hr:Room (k+3) X.A)(hN:X.N[i]?=some y)(hcl:X.env.cells.lookup y=some c)(hky:X.env.scope.names.lookup y=some .cell)
  (hs:scope.names=[(x,.local),(y,.free)]) (hxy:x≠y) (hk:scope.kind=.function) (hco:scope.isCoroutine=false) (hgen:scope.isGenerator=false)
  (hb:∀ pm c' ctv u,bindArgs (PySem.W.kla_fn "<lambda>" qual params body scope [(y,c)] pm (.ref c') ctv) ⟨[u],[]⟩=pure [(x,u)])
  (he:∀ (cd:Value) (A:Around) (outer:List Env) (s:Shared) (H:Hp) (fa:Addr) (lv xv:V) (Q:VK),spL lv xv H Q→Room k (A.deeper (PySem.W.envX qual scope s.heap.objs.size fa cd [(y,c)])) →
   ∃ t,PE (cxL X.prog X.w X.K X.mg X.base x y qual scope fa cd c A outer s H) body t∧t [some xv,some lv] H Q) :
  yqc X (fun σ q x H Q=>∃ lv,σ[i]?=some (some lv)∧yn2 H q qual params body scope [(y,c)]∧spL lv x H Q):=by
 rintro q xv pins σ H s u Q ⟨lv,hσ,F,h⟩ I ru
 obtain⟨m,hn,hl⟩:=I.loc
 obtain⟨v,rl,lo⟩:=hl i y lv hN hσ (.inr (.inl hky))
 have hcell:s.heap.IsCell c (some v):=by
  rcases lo with ⟨z,_⟩ | ⟨_,c2,e2,ic⟩
  ·exact absurd ((show X.env.scope.names.lookup y=some .local from z).symm.trans hky) (by simp)
  ·rw[hcl] at e2;cases e2;exact ic
 refine wpAny_call (codeAny_mono (yjP (k:=k) (E:=E0) hr.in1.in1 I.env0.in1.in1 F (I.freeC y c hcl) hcell rl ru hs hxy hk hco hgen (λpm c' ctv=>hb pm c' ctv u) λcd hr'=>he cd _ _ s H q lv xv Q h hr') λr s' hq=>?_)
 cases r with
 | error e=>exact False.elim hq
 | ok fl =>
  cases fl with
  | ret u=>exact I.after hq
  | next=>exact False.elim hq
  | brk=>exact False.elim hq
  | cont=>exact False.elim hq
theorem PSs.run {X:Cx}{st:List Stmt}{t:TS}(h:PSs X st t){pins:List (Addr×Obj)}{s:Shared}{σ:St}{H:Hp}{D:ydn}(I:Inv X pins σ H s)(q:t D σ H):wpAny (model X.prog X.w) X.A (execs st X.env) (SP X pins D) X.xe s:=h pins s σ H D I q
section
variable {X:Cx}
def ylO (K:PySem.W.Frag):V→List V→Hp→VK→Prop:=λx vs H Q=>∃ (l:Addr) (xs:List V) (y:V) (j:Nat),x=.ref l∧vs=[y]∧SqL K H l xs∧ycg y=true∧xs.all ycg=true∧j < xs.length∧(∀ z,xs[j]?=some z→eqV z y=true)∧(∀ i z,i < j→xs[i]?=some z→eqV z y=false)∧Q (.int (j:Int)) H
theorem ye6:MtM X "list.index" (ylO X.K):=by
 intro pins s σ H x vs v us Q I rx rv h
 obtain⟨l,xs,y,j,rfl,rfl,hq,fy,fs,hj,hit,hno,q⟩:=h
 cases rx
 obtain⟨u,rfl,ru⟩:=rv.one
 obtain⟨its,r,pl,hz⟩:=I.list hq
 have el:=r.length
 have big:sizeLine < 2 ^ 62:=by decide
 have at':∀ i (hi:i < its.length),eqU y its[i]=eqV xs[i] y:=λi hi=>by
  obtain⟨w,ew,rw'⟩:=r.get (List.getElem?_eq_getElem (show i < xs.length by omega))
  have:w=its[i]:=by rw[List.getElem?_eq_getElem hi] at ew;exact(Option.some.inj ew).symm
  rw[← this]
  exact ygk rw' (List.all_eq_true.mp fs _ (List.getElem_mem _))
 obtain⟨o,n,e,hc,hd,hsl⟩:=pl
 obtain⟨cls,dd,data,sl⟩:=o
 simp only at hc hd hsl
 subst hc
 subst hsl
 refine call_meets F.slot_list_index ⟨_,e,rfl⟩ F.entry_list_index (F.args_list_index_2 _ _) (SeqAt.list_indexAt l its.toArray n dd sl u (eqU y) j (by simp;omega) (by omega) ?_ λm hm lt=>?_) ⟨e,λw hw=>yhD ru fy r fs w (by simpa using hw),⟨.int (j:Int),H,?_,⟨_,rfl⟩,q⟩⟩
 ·have:=at' j (by omega)
  simp only[List.getElem_toArray]
  rw[this]
  exact hit _ (List.getElem?_eq_getElem hj)
 ·have hm':m < its.length:=by simpa using hm
  have:=at' m hm'
  simp only[List.getElem_toArray]
  rw[this]
  exact hno m _ lt (List.getElem?_eq_getElem (by omega))
 ·exact I.kept (h':=s.heap) (t':=s.toks+1) λb o g=>g
def yoE (K:PySem.W.Frag)(te ts:TE):TE:=fun σ H Q=>te σ H λx H1=>ts σ H1 λz H2=>z=.int (-1)∧∃ a xs,x=.ref a∧SqL K H2 a xs∧∀ p,H2 p=none→Q (.ref p) (upd H2 p (.lst xs.reverse))
theorem ynP {e st:Expr}{te ts:TE}{p2 pos:Pos}(he:PE X e te)(hst:PE X st ts)(hsub:∀ o i,subscripted (.Slice none none (some st) p2) false o i=operate [o,i] (getItem o i)):PE X (.Subscript e (.Slice none none (some st) p2) pos) (yoE X.K te ts):=by
 intro pins s σ H Q I h
 refine Subscript_ (thn (he pins s σ H _ I h) λv s1 ⟨x,H1,I1,r1,q1⟩=>?_)
 refine wpAny_Slice ?_
 rw[evalPart_none,evalPart_some]
 refine wpAny_pure (wpAny_pure (thn (hst pins s1 σ H1 _ I1 q1) λvs s3 ⟨z,H3,I3,rz,ez,a,xs,ex,hx,q3⟩=>?_))
 subst ex ez
 cases r1
 obtain⟨t,rfl⟩:=rz
 have I4:Inv X pins σ H3 { s3 with heap:=s3.heap.push { cls:=.type "slice",data:=.fields #[.none,.none,.int (-1) t] } }:=I3.kept (t':=s3.toks) λb ob q=>Heap.get?_push_of_some _ q
 obtain⟨its,r,ht,hz⟩:=I4.list hx
 have hlen:=r.length
 show wpAny (model X.prog X.w) X.A (subscriptTail e (.Slice none none (some st) p2) (.ref a) (.ref s3.heap.objs.size)) (EP X pins σ Q) X.xe { s3 with heap:=s3.heap.push { cls:=.type "slice",data:=.fields #[.none,.none,.int (-1) t] } }
 refine tail_any (ops:=[.ref a,.ref s3.heap.objs.size]) ht.isList.typeIs slot_list_getitem.lookup ?_ (hsub _ _)
 refine wpAny_getItem_list_slice ht.isList (Heap.IsSliceOf.new ..) .none .none (.int _ _) (by simp) ?_ (by rw[List.size_toArray]<;>omega)
 rw[PySem.W.krv_pick,show its.toArray.toList.reverse.toArray=its.reverse.toArray by simp]
 refine⟨.ref _,_,I4.laid (t':=s3.toks) (o:=.lst xs.reverse) (λb ob q=>Heap.get?_push_of_some _ q) (Nat.le_refl _) ?_,rfl,q3 _ (I4.hok.fresh (Nat.le_refl _))⟩
 exact⟨by rw[List.length_reverse];exact hz,its.reverse,0,r.reverse,Heap.get?_push_size _ rfl⟩
end
theorem ylY {K:PySem.W.Frag}{a b:Addr}{xs ys:List V}{g:TG}{tb:TS}{D:ydn}{σ:St}{H:Hp}(len:xs.length=ys.length)(Pv:Nat→St→Hp→Prop)(h0:Pv 0 σ H)(hl:∀ i σ H,Pv i σ H→SqL K H a xs∧SqL K H b ys)
  (hs:∀ i x y σ H p,xs[i]?=some x→ys[i]?=some y→Pv i σ H→H p=none→g (.ref p) σ (upd H p (.tup [x,y])) fun σ2 H2=>tb { D with nx:=Pv (i+1),ct:=Pv (i+1),bk:=D.nx } σ2 H2) (hd:∀ σ H,Pv xs.length σ H→D.nx σ H) :
  ∃ W:Nat→Nat→St→Hp→Prop,(∃ m,W 0 m σ H)∧∀ i m σ H,W i m σ H →
   ((Itz K a b).stop i H∧D.nx σ H)∨((Itz K a b).go i H∧∃ N:St→Hp→Prop,(∀ σ' H',N σ' H'→∃ m',m' < m∧W (i+1) m' σ' H')∧∀ x H',(Itz K a b).yld i H x H'→g x σ H' fun σ2 H2=>tb { D with nx:=N,ct:=N,bk:=D.nx } σ2 H2):=by
 refine⟨λi m σ H=>m+i=xs.length∧Pv i σ H,⟨xs.length,rfl,h0⟩,?_⟩
 rintro i m σ H ⟨em,p⟩
 obtain⟨q1,q2⟩:=hl i σ H p
 cases m with
 | zero =>
  have e:i=xs.length:=by omega
  subst e
  exact .inl ⟨⟨xs,ys,q1,q2,.inl (Nat.le_refl _)⟩,hd σ H p⟩
 | succ m =>
  have l1:i < xs.length:=by omega
  have l2:i < ys.length:=by omega
  refine .inr ⟨⟨xs,ys,xs[i],ys[i],q1,q2,List.getElem?_eq_getElem l1,List.getElem?_eq_getElem l2⟩,Pv (i+1),fun σ' H' p'=>⟨m,by omega,by omega,p'⟩,λx H' y=>?_⟩
  obtain⟨c,v,u,e1,e2,e3,y⟩:=y
  subst e1 e3
  obtain⟨y1,y2⟩:=y xs ys q1 q2
  exact hs i v u σ H c y1 y2 p e2
end L2
namespace L2
open PySem
section
variable {prog:Program} {w:World} {A:Around} {E:Value→Shared→Prop} {s:Shared}
theorem yfk {it t:Addr}{i:Nat}{items:Array Value}{x:Value}{Q:Value→Shared→Prop}(hit:s.heap.IsTupleIter it t i)(ht:s.heap.IsTuple t items)(hx:items[i]?=some x)
  (hQ:∀ h',h'.IsTupleIter it t (i+1)→Heap.SameBut it s.heap h'→Q x { s with heap:=h' }):wpAny (model prog w) A (Builtin.SmallTypes.nextOf (.ref it)) Q E s:=by
 have ty:=hit.typeIs
 obtain⟨⟨c,dc,dt,sl⟩,ho,hc,hd⟩:=hit
 obtain⟨⟨c',dc',dt',sl'⟩,ho',hc',n,hd'⟩:=ht
 dsimp only at hc hd hc' hd'
 subst hc hd hc' hd'
 unfold Builtin.SmallTypes.nextOf
 refine wpAny_bind (wpAny_callSpecial?_slot (name:=Str.ofString "__next__") ty F.slot_tuple_iterator_next (wpAny_call_entry F.slot_tuple_iterator_next ty F.entry_tuple_iterator_next ?_ (F.args_tuple_iterator_next_1 _)))
 wp_walk
 rw[Int.toNat_natCast,hx]
 wp_walk
 refine⟨x,rfl,wpAny_pure (hQ _ ?_ (Heap.SameBut.update ..))⟩
 exact⟨_,Heap.get?_update_self _ ho rfl,rfl,rfl⟩
theorem yfI {it t:Addr}{i:Nat}{items:Array Value}{Q:Value→Shared→Prop}(hh:A.handled=none)(hit:s.heap.IsTupleIter it t i)(ht:s.heap.IsTuple t items)(hx:items[i]?=none)
  (hE:∀ h' e,Heap.ExtBut it s.heap h'→(∃ o,h'.get? e=some o∧o.cls=.type "StopIteration")→E (.ref e) { s with heap:=h' }):wpAny (model prog w) A (Builtin.SmallTypes.nextOf (.ref it)) Q E s:=by
 have ty:=hit.typeIs
 obtain⟨⟨c,dc,dt,sl⟩,ho,hc,hd⟩:=hit
 obtain⟨⟨c',dc',dt',sl'⟩,ho',hc',n,hd'⟩:=ht
 dsimp only at hc hd hc' hd'
 subst hc hd hc' hd'
 have hh':A.in1.handled=none:=hh
 unfold Builtin.SmallTypes.nextOf
 refine wpAny_bind (wpAny_callSpecial?_slot (name:=Str.ofString "__next__") ty F.slot_tuple_iterator_next (wpAny_call_entry F.slot_tuple_iterator_next ty F.entry_tuple_iterator_next ?_ (F.args_tuple_iterator_next_1 _)))
 wp_walk
 rw[Int.toNat_natCast,hx]
 wp_walk
 unfold raiseNew
 wp_walk
 exact hE _ _ (((Heap.SameBut.update ..).extBut.push _).push _) ⟨_,Heap.get?_push_size _ rfl,rfl⟩
theorem yd4 (hh:A.handled=none)(it t:Addr)(ne:t≠it)(items:Array Value):Draws prog w A it [it,t] items.size (λi v=>items[i]?=some v) (λi h=>h.IsTupleIter it t i∧h.IsTuple t items) where
 live:=λ_ _ ⟨⟨o,e,_⟩,_⟩=>⟨o,e⟩
 frame:=λ_ _ _ ⟨⟨o,e,r⟩,⟨p,f,q⟩⟩ k=>⟨⟨o,k _ (by simp) _ e,r⟩,⟨p,k _ (by simp) _ f,q⟩⟩
 item:=λi s Q E hi ⟨a,b⟩ hQ=>yfk a b (Array.getElem?_eq_getElem hi) λh' e k=>hQ _ h' s.toks (Array.getElem?_eq_getElem hi) ⟨e,b.extBut k.extBut ne⟩ k
 done:=λs Q E ⟨a,b⟩ hE=>yfI hh a b (Array.getElem?_eq_none (Nat.le_refl _)) hE
def ypz (prog:Program)(w:World)(A:Around)(it:Addr)(Q:Value→Shared→Prop)(E:Value→Shared→Prop)(s:Shared):Prop:=wpAny (model prog w) A (Builtin.SmallTypes.nextOf (.ref it)) Q E s
theorem yki {it:Addr}{Q:Value→Shared→Prop}(h:ypz prog w A it Q E s):wpAny (model prog w) A (Builtin.SmallTypes.nextOf (.ref it)) Q E s:=h
structure yj8 (z TO i1 i2:Addr) (f1 f2:List Addr):Prop where
 z1:z∉f1
 z2:z∉f2
 o1:TO∉f1
 o2:TO∉f2
 a2:i1∉f2
 b1:i2∉f1
 oz:TO≠z
 az:i1≠z
 bz:i2≠z
 oa:TO≠i1
 ob:TO≠i2
theorem yjv {z TI TO i1 i2:Addr}{f1 f2:List Addr}{n1 n2 k:Nat}{P1 P2:Nat→Value→Prop}{S1 S2:Nat→Heap→Prop}{a b:Value}{Q:Value→Shared→Prop}(D1:Draws prog w A i1 f1 n1 P1 S1)(D2:Draws prog w A i2 f2 n2 P2 S2)(F:yj8 z TO i1 i2 f1 f2)
  (hz:IsZip s.heap z TI TO .none) (hi:IsPair s.heap TI (.ref i1) (.ref i2)) (ho:IsPair s.heap TO a b) (h1:S1 k s.heap) (h2:S2 k s.heap) (k1:k < n1) (k2:k < n2)
  (hQ:∀ x y h' tk,P1 k x→P2 k y→IsZip h' z TI TO (rawInt s.heap.objs.size)→IsPair h' TO x y→S1 (k+1) h'→S2 (k+1) h'→IsPair h' s.heap.objs.size x y →
   (∀ c o,c≠z→c≠TO→c≠i1→c≠i2→s.heap.get? c=some o→h'.get? c=some o)→Q (.ref s.heap.objs.size) { s with heap:=h',toks:=tk }) :
  wpAny (model prog w) A (Builtin.«zip.__next__» ⟨[.ref z],[]⟩) (λfin s'=>∃ v,fin=.done (.ret v)∧Q v s') E s:=by
 unfold Builtin.«zip.__next__»
 wp_walk using yki,wpAny_onRaise
 have u1:Heap.SameBut z s.heap (s.heap.update z (Obj.mapFields λx=>x.setIfInBounds 0 Value.ellipsis)):=Heap.SameBut.update ..
 have v1:IsZip (s.heap.update z (Obj.mapFields λx=>x.setIfInBounds 0 Value.ellipsis)) z TI TO .ellipsis:=Heap.get?_update_self _ hz rfl
 generalize s.heap.update z (Obj.mapFields λx=>x.setIfInBounds 0 Value.ellipsis)=g1 at u1 v1 ⊢
 refine D1.item k _ _ _ k1 (D1.frame _ _ _ h1 λc hc o e=>(u1.2 c λq=>F.z1 (q▸hc)).trans e) λx g2 tk2 px st1 u2=>?_
 have u2:Heap.SameBut i1 g1 g2:=u2
 have ho2:IsPair g2 TO a b:=(u2.2 _ F.oa).trans ((u1.2 _ F.oz).trans ho)
 wp_walk using yki,wpAny_onRaise
 have u3:Heap.SameBut TO g2 (g2.update TO (Obj.mapSeq λy=>y.setIfInBounds 0 x)):=Heap.SameBut.update ..
 have v3:IsPair (g2.update TO (Obj.mapSeq λy=>y.setIfInBounds 0 x)) TO x b:=Heap.get?_update_self _ ho2 rfl
 generalize g2.update TO (Obj.mapSeq λy=>y.setIfInBounds 0 x)=g3 at u3 v3 ⊢
 refine D2.item k _ _ _ k2 (D2.frame _ _ _ h2 λc hc o e=>(u3.2 c λq=>F.o2 (q▸hc)).trans ((u2.2 c λq=>F.a2 (q▸hc)).trans ((u1.2 c λq=>F.z2 (q▸hc)).trans e))) λy g4 tk4 py st2 u4=>?_
 have u4:Heap.SameBut i2 g3 g4:=u4
 have v4:IsPair g4 TO x b:=(u4.2 _ F.ob).trans v3
 have w4:IsZip g4 z TI TO .ellipsis:=(u4.2 _ F.bz.symm).trans ((u3.2 _ F.oz.symm).trans ((u2.2 _ F.az.symm).trans v1))
 have w5:IsZip (g4.update TO (Obj.mapSeq λv=>v.setIfInBounds (0+1) y)) z TI TO .ellipsis:=Heap.get?_update_of_ne _ F.oz w4
 have v5:IsPair (g4.update TO (Obj.mapSeq λv=>v.setIfInBounds (0+1) y)) TO x y:=Heap.get?_update_self _ v4 rfl
 have u5:Heap.SameBut TO g4 (g4.update TO (Obj.mapSeq λv=>v.setIfInBounds (0+1) y)):=Heap.SameBut.update ..
 wp_walk using yki,wpAny_onRaise
 generalize g4.update TO (Obj.mapSeq λv=>v.setIfInBounds (0+1) y)=g5 at w5 v5 u5 ⊢
 have sz:g5.objs.size=s.heap.objs.size:=by rw[u5.1,u4.1,u3.1,u2.1,u1.1]
 have zl:s.heap.objs.size≠z:=Nat.ne_of_gt (Heap.lt_size hz)
 rw[sz]
 have g6:IsPair (g5.push { cls:=Value.type "tuple",data:=Data.seq #[x,y] }) s.heap.objs.size x y:=by rw[← sz];exact Heap.get?_push_size _ rfl
 have g7:IsZip (g5.push { cls:=Value.type "tuple",data:=Data.seq #[x,y] }) z TI TO .ellipsis:=Heap.get?_push_of_some _ w5
 have up:∀ c o,c≠z→g5.get? c=some o→(((g5.push { cls:=Value.type "tuple",data:=Data.seq #[x,y] }).update z (Obj.mapFields λv=>v.setIfInBounds 0 (rawInt s.heap.objs.size))).update z (Obj.mapFields λv=>v.setIfInBounds 1 (Value.bool false))).get? c=some o:=λc o n e =>
  Heap.get?_update_of_ne _ n.symm (Heap.get?_update_of_ne _ n.symm (Heap.get?_push_of_some _ e))
 refine⟨_,rfl,hQ x y _ tk4 px py (Heap.get?_update_self _ (Heap.get?_update_self _ g7 rfl) rfl) (up _ _ F.oz v5) (D1.frame _ _ _ st1 λc hc o e=>up c o (λq=>F.z1 (q▸hc)) ?_) (D2.frame _ _ _ st2 λc hc o e=>up c o (λq=>F.z2 (q▸hc)) ?_) (Heap.get?_update_of_ne _ zl.symm (Heap.get?_update_of_ne _ zl.symm g6)) λc o n1 n2 n3 n4 e=>up c o n1 ?_⟩
 ·exact(u5.2 c λq=>F.o1 (q▸hc)).trans ((u4.2 c λq=>F.b1 (q▸hc)).trans ((u3.2 c λq=>F.o1 (q▸hc)).trans e))
 ·exact(u5.2 c λq=>F.o2 (q▸hc)).trans e
 ·exact(u5.2 c n2).trans ((u4.2 c n4).trans ((u3.2 c n2).trans ((u2.2 c n3).trans ((u1.2 c n1).trans e))))
theorem ylg {z TI TO i1 i2:Addr}{f1:List Addr}{n1:Nat}{P1:Nat→Value→Prop}{S1:Nat→Heap→Prop}{a b:Value}{Q:Fin→Shared→Prop}(D1:Draws prog w A i1 f1 n1 P1 S1)(z1:z∉f1)(az:i1≠z)
  (hz:IsZip s.heap z TI TO .none) (hi:IsPair s.heap TI (.ref i1) (.ref i2)) (ho:IsPair s.heap TO a b) (h1:S1 n1 s.heap)
  (hE:∀ h' e,(∀ c o,c≠z→c≠i1→s.heap.get? c=some o→h'.get? c=some o)→(∃ o,h'.get? e=some o∧o.cls=.type "StopIteration")→E (.ref e) { s with heap:=h' }) :
  wpAny (model prog w) A (Builtin.«zip.__next__» ⟨[.ref z],[]⟩) Q E s:=by
 unfold Builtin.«zip.__next__»
 wp_walk using yki,wpAny_onRaise
 have u1:Heap.SameBut z s.heap (s.heap.update z (Obj.mapFields λx=>x.setIfInBounds 0 Value.ellipsis)):=Heap.SameBut.update ..
 have v1:IsZip (s.heap.update z (Obj.mapFields λx=>x.setIfInBounds 0 Value.ellipsis)) z TI TO .ellipsis:=Heap.get?_update_self _ hz rfl
 generalize s.heap.update z (Obj.mapFields λx=>x.setIfInBounds 0 Value.ellipsis)=g1 at u1 v1 ⊢
 refine D1.done _ _ _ (D1.frame _ _ _ h1 λc hc o e=>(u1.2 c λq=>z1 (q▸hc)).trans e) λg2 e u2 he=>?_
 have u2:Heap.ExtBut i1 g1 g2:=u2
 have v2:IsZip g2 z TI TO .ellipsis:=u2 _ _ az.symm v1
 wp_walk
 obtain⟨o,eo,co⟩:=he
 have ez:e≠z:=λq=>by rw[q,v2] at eo;cases eo;simp at co
 exact hE _ _ (λc o n1 n2 q=>Heap.get?_update_of_ne _ n1.symm (u2 _ _ n2 ((u1.2 _ n1).trans q))) ⟨o,Heap.get?_update_of_ne _ ez.symm eo,co⟩
end
end L2
namespace L2
open PySem
section
variable {prog:Program} {w:World} {A:Around} {E:Value→Shared→Prop} {s:Shared}
theorem ydD {z TI TO i1 i2:Addr}{f1 f2:List Addr}{n1 n2 k:Nat}{P1 P2:Nat→Value→Prop}{S1 S2:Nat→Heap→Prop}{a b:Value}{Q:Option Value→Shared→Prop}(D1:Draws prog w A.in1 i1 f1 n1 P1 S1)(D2:Draws prog w A.in1 i2 f2 n2 P2 S2)(F:yj8 z TO i1 i2 f1 f2)
  (hz:IsZip s.heap z TI TO .none) (hi:IsPair s.heap TI (.ref i1) (.ref i2)) (ho:IsPair s.heap TO a b) (h1:S1 k s.heap) (h2:S2 k s.heap) (k1:k < n1) (k2:k < n2)
  (hQ:∀ x y h' tk,P1 k x→P2 k y→IsZip h' z TI TO (rawInt s.heap.objs.size)→IsPair h' TO x y→S1 (k+1) h'→S2 (k+1) h'→IsPair h' s.heap.objs.size x y →
   (∀ c o,c≠z→c≠TO→c≠i1→c≠i2→s.heap.get? c=some o→h'.get? c=some o)→Q (some (.ref s.heap.objs.size)) { s with heap:=h',toks:=tk }) :
  wpAny (model prog w) A (pyNext (.ref z)) Q E s:=by
 have ty:s.TypeIs (.ref z) "zip":= ⟨_,hz,rfl⟩
 unfold pyNext
 refine wpAny_bind (wpAny_attempt (wpAny_callSpecial?_slot (name:=Str.ofString "__next__") ty PySem.F.slot_zip_next (wpAny_call_entry PySem.F.slot_zip_next ty PySem.F.entry_zip_next ?_ (PySem.F.args_zip_next_1 _))))
 exact yjv D1 D2 F hz hi ho h1 h2 k1 k2 λx y h' tk p1 p2 a1 a2 a3 a4 a5 a6=>wpAny_pure (hQ x y h' tk p1 p2 a1 a2 a3 a4 a5 a6)
theorem yeb {z TI TO i1 i2:Addr}{f1:List Addr}{n1:Nat}{P1:Nat→Value→Prop}{S1:Nat→Heap→Prop}{a b:Value}{Q:Option Value→Shared→Prop}(D1:Draws prog w A.in1 i1 f1 n1 P1 S1)(z1:z∉f1)(az:i1≠z)
  (hz:IsZip s.heap z TI TO .none) (hi:IsPair s.heap TI (.ref i1) (.ref i2)) (ho:IsPair s.heap TO a b) (h1:S1 n1 s.heap)
  (hQ:∀ h',(∀ c o,c≠z→c≠i1→s.heap.get? c=some o→h'.get? c=some o)→Q none { s with heap:=h' }):wpAny (model prog w) A (pyNext (.ref z)) Q E s:=by
 have ty:s.TypeIs (.ref z) "zip":= ⟨_,hz,rfl⟩
 unfold pyNext
 refine wpAny_bind (wpAny_attempt (wpAny_callSpecial?_slot (name:=Str.ofString "__next__") ty PySem.F.slot_zip_next (wpAny_call_entry PySem.F.slot_zip_next ty PySem.F.entry_zip_next ?_ (PySem.F.args_zip_next_1 _))))
 exact ylg D1 z1 az hz hi ho h1 λh' e k ⟨o,eo,co⟩=>wpAny_bind (wpAny_isInstance (T := "StopIteration") (b:=true) ⟨o,eo,co⟩ isSubtype_stop (wpAny_pure (hQ h' k)))
end
theorem ype (h:Heap)(o0 o1 o2 o3 o4:Obj)(f0:o0.isFreed=false)(f1:o1.isFreed=false)(f2:o2.isFreed=false)(f3:o3.isFreed=false)(f4:o4.isFreed=false) :
  (((((h.push o0).push o1).push o2).push o3).push o4).get? h.objs.size=some o0∧(((((h.push o0).push o1).push o2).push o3).push o4).get? (h.objs.size+1)=some o1∧(((((h.push o0).push o1).push o2).push o3).push o4).get? (h.objs.size+2)=some o2 ∧
  (((((h.push o0).push o1).push o2).push o3).push o4).get? (h.objs.size+3)=some o3∧(((((h.push o0).push o1).push o2).push o3).push o4).get? (h.objs.size+4)=some o4∧∀ c o,h.get? c=some o→(((((h.push o0).push o1).push o2).push o3).push o4).get? c=some o:=by
 have z1:(h.push o0).objs.size=h.objs.size+1:=Heap.size_push ..
 have z2:((h.push o0).push o1).objs.size=h.objs.size+2:=(Heap.size_push ..).trans (by rw[z1])
 have z3:(((h.push o0).push o1).push o2).objs.size=h.objs.size+3:=(Heap.size_push ..).trans (by rw[z2])
 have z4:((((h.push o0).push o1).push o2).push o3).objs.size=h.objs.size+4:=(Heap.size_push ..).trans (by rw[z3])
 have up:∀ {g:Heap} {c:Addr} {u v:Obj},g.get? c=some u→(g.push v).get? c=some u:=λe=>Heap.get?_push_of_some _ e
 refine⟨up (up (up (up (Heap.get?_push_size _ f0)))),?_,?_,?_,?_,λc o e=>up (up (up (up (up e))))⟩
 ·rw[← z1];exact up (up (up (Heap.get?_push_size _ f1)))
 ·rw[← z2];exact up (up (Heap.get?_push_size _ f2))
 ·rw[← z3];exact up (Heap.get?_push_size _ f3)
 ·rw[← z4];exact Heap.get?_push_size _ f4
theorem yh3 (l1 l2:Addr)(xs ys:Array Value):Meets (Builtin.«zip.__new__» ⟨[.type "zip",.ref l1,.ref l2],[]⟩) (λ_ R s=>s.heap.IsTuple l1 xs∧s.heap.IsTuple l2 ys ∧
  ∀ h',IsZip h' (s.heap.objs.size+4) (s.heap.objs.size+2) (s.heap.objs.size+3) .none→IsPair h' (s.heap.objs.size+2) (.ref s.heap.objs.size) (.ref (s.heap.objs.size+1))→IsPair h' (s.heap.objs.size+3) .none .none →
   h'.IsTupleIter s.heap.objs.size l1 0→h'.IsTupleIter (s.heap.objs.size+1) l2 0→(∀ c o,s.heap.get? c=some o→h'.get? c=some o)→R (.ok (.ret (.ref (s.heap.objs.size+4)))) { s with heap:=h' }) :=
 .of_wp λprog w A R s h=>by
  obtain⟨hp,g,d,tk,os⟩:=s
  obtain⟨t1,t2,h⟩:=h
  have sub:=sub_zip
  have p1:Heap.IsTuple (Shared.heap ⟨hp,g,d,tk,os⟩) l1 xs:=t1
  have p2:Heap.IsTuple (Shared.heap ⟨hp.push { cls:=.type "tuple_iterator",data:=.fields #[.ref l1,.int 0 0] },g,d,tk,os⟩) l2 ys:=Heap.IsTuple.push t2 _
  wp_walk using wpAny_pyIter_tuple p1,wpAny_pyIter_tuple p2
  obtain⟨q0,q1,q2,q3,q4,q5⟩:=ype hp { cls:=.type "tuple_iterator",data:=.fields #[.ref l1,.int 0 0] } { cls:=.type "tuple_iterator",data:=.fields #[.ref l2,.int 0 0] } { cls:=.type "tuple",data:=.seq #[.ref hp.objs.size,.ref (hp.objs.size+1)] } { cls:=.type "tuple",data:=.seq #[.none,.none] } { cls:=.type "zip",data:=.fields #[.none,.bool false,.bool false,.ref (hp.objs.size+2),.ref (hp.objs.size+3)] } rfl rfl rfl rfl rfl
  have fin:=h _ q4 q2 q3 ⟨_,q0,rfl,rfl⟩ ⟨_,q1,rfl,rfl⟩ q5
  simp only[Heap.size_push]
  exact⟨_,rfl,fin⟩
theorem yiJ {prog:Program}{w:World}{A:Around}{E:Value→Shared→Prop}{s:Shared}{l1 l2:Addr}{xs ys:Array Value}{Q:Value→Shared→Prop}(t1:s.heap.IsTuple l1 xs)(t2:s.heap.IsTuple l2 ys)
  (h:∀ h',IsZip h' (s.heap.objs.size+4) (s.heap.objs.size+2) (s.heap.objs.size+3) .none→IsPair h' (s.heap.objs.size+2) (.ref s.heap.objs.size) (.ref (s.heap.objs.size+1))→IsPair h' (s.heap.objs.size+3) .none .none →
   h'.IsTupleIter s.heap.objs.size l1 0→h'.IsTupleIter (s.heap.objs.size+1) l2 0→(∀ c o,s.heap.get? c=some o→h'.get? c=some o)→Q (.ref (s.heap.objs.size+4)) { s with heap:=h' }) :
  wpAny (model prog w) A (call (.type "zip") [.ref l1,.ref l2]) Q E s:=by
 refine callType_new PySem.F.called_zip (by decide) (PySem.F.typeCall_zip_2 _ _) (PySem.F.newCall_zip_2 _ _) (λo=>PySem.F.args_object_init_3 o _ _) PySem.F.entry_zip_new (yh3 l1 l2 xs ys) ⟨t1,t2,λh' a1 a2 a3 a4 a5 a6=>?_⟩
 exact⟨⟨_,a1,rfl⟩,h h' a1 a2 a3 a4 a5 a6⟩
end L2
namespace L2
open PySem PySem.Spec PyProof.Rows
section
variable {X:Cx}
def ynZ (K:PySem.W.Frag)(a b:Addr):It :=
 ⟨λi H=>∃ xs ys x y,SqT K H a xs∧SqT K H b ys∧xs[i]?=some x∧ys[i]?=some y,λi H x H'=>∃ p v u,x=.ref p∧H p=none∧H'=upd H p (.tup [v,u])∧∀ xs ys,SqT K H a xs→SqT K H b ys→xs[i]?=some v∧ys[i]?=some u,
  λi H=>∃ xs,SqT K H a xs∧xs.length=i⟩
def ylA (z TI TO i1 i2 a b:Addr)(i:Nat)(h:Heap):Prop:=IsZip h z TI TO .none∧IsPair h TI (.ref i1) (.ref i2)∧(∃ u v,IsPair h TO u v)∧h.IsTupleIter i1 a i∧h.IsTupleIter i2 b i∧a≠TO∧b≠TO
theorem yd5 {h:Heap}{a:Addr}{xs:Array Value}(p:IsTup h a xs):h.IsTuple a xs:=p
theorem yl6 {h:Heap}{z TI TO i1 i2 a b:Addr}{i:Nat}{xs ys:Array Value}(F:ynj z TI TO i1 i2)(st:ylA z TI TO i1 i2 a b i h)(ha:h.IsTuple a xs)(hb:h.IsTuple b ys):yj8 z TO i1 i2 [i1,a] [i2,b]∧a≠i1∧b≠i2:=by
 obtain⟨s1,s2,⟨u,v,s3⟩,⟨o4,s4,c4,_⟩,⟨o5,s5,c5,_⟩,n1,n2⟩:=st
 obtain⟨oa,ga,ca,_⟩:=ha
 obtain⟨ob,gb,cb,_⟩:=hb
 have az:a≠z:=ybO ga s1 (by rw[ca];show Value.type "tuple" ≠ .type "zip";decide)
 have bz:b≠z:=ybO gb s1 (by rw[cb];show Value.type "tuple" ≠ .type "zip";decide)
 have a1:a≠i1:=ybO ga s4 (by rw[ca,c4];decide)
 have a2:a≠i2:=ybO ga s5 (by rw[ca,c5];decide)
 have b1:b≠i1:=ybO gb s4 (by rw[cb,c4];decide)
 have b2:b≠i2:=ybO gb s5 (by rw[cb,c5];decide)
 have off:∀ {x y c:Addr},c≠x→c≠y→c∉[x,y]:=λp q m=>by
  simp only[List.mem_cons,List.not_mem_nil,or_false] at m
  exact m.elim p q
 exact⟨⟨off F.a3.symm az.symm,off F.a4.symm bz.symm,off F.a8 n1.symm,off F.a9 n2.symm,off F.a0 b1.symm,off F.a0.symm a2.symm,F.a2,F.a3,F.a4,F.a8,F.a9⟩,a1,b2⟩
theorem yjo {P:Program}{w:World}{K:PySem.W.Frag}{elts:List Expr}{x1}{tp:Pos}{z TI TO i1 i2 a b:Addr}(F:ynj z TI TO i1 i2):ylH P w K (.Tuple elts x1 tp) (ynZ K a b) [z,TI,TO,i1,i2] z (ylA z TI TO i1 i2 a b) where
 mem:=by simp
 obj:=λi h st c hc=>by
  obtain⟨s1,s2,⟨u,v,s3⟩,⟨o4,s4,_,d4⟩,⟨o5,s5,_,d5⟩,_⟩:=st
  simp only[List.mem_cons,List.not_mem_nil,or_false] at hc
  rcases hc with rfl | rfl | rfl | rfl | rfl
  ·exact⟨_,s1,λv=>nofun⟩
  ·exact⟨_,s2,λv=>nofun⟩
  ·exact⟨_,s3,λv=>nofun⟩
  ·exact⟨_,s4,λv e=>by rw[d4] at e;cases e⟩
  ·exact⟨_,s5,λv e=>by rw[d5] at e;cases e⟩
 keep:=λi h h' st k=>by
  obtain⟨s1,s2,⟨u,v,s3⟩,s4,s5,n⟩:=st
  exact⟨k _ (by simp) _ s1,k _ (by simp) _ s2,⟨u,v,k _ (by simp) _ s3⟩,s4.at λo e=>k _ (by simp) o e,s5.at λo e=>k _ (by simp) o e,n⟩
 item:=by
  intro X hP hw hK hc i pins s σ H E I hf st hg
  subst hP hw hK
  obtain⟨xs,ys,x,y,hx,hy,ex,ey⟩:=hg
  obtain⟨itx,rx,px,_⟩:=I.tuple hx
  obtain⟨ity,ry,py,_⟩:=I.tuple hy
  obtain⟨u,eu,ru⟩:=rx.get ex
  obtain⟨v,ev,rv⟩:=ry.get ey
  obtain⟨O,na,nb⟩:=yl6 F st (yd5 px) (yd5 py)
  obtain⟨s1,s2,⟨p,q,s3⟩,s4,s5,no⟩:=st
  have hd:X.A.in1.handled=none:=I.ok.hd hc
  have li:i < itx.toArray.size:=by have:=(List.getElem?_eq_some_iff.mp eu).1;simpa using this
  have lj:i < ity.toArray.size:=by have:=(List.getElem?_eq_some_iff.mp ev).1;simpa using this
  refine ydD (yd4 hd i1 a na itx.toArray) (yd4 hd i2 b nb ity.toArray) O s1 s2 s3 ⟨s4,(yd5 px)⟩ ⟨s5,(yd5 py)⟩ li lj λu' v' h1 tk e1 e2 b1 b2 b3 b4 b5 kp=>?_
  have e1:itx[i]?=some u':=by simpa using e1
  have e2:ity[i]?=some v':=by simpa using e2
  rw[eu] at e1
  rw[ev] at e2
  cases e1
  cases e2
  refine⟨_,rfl,wpAny_letOwnedTupleGo_zip b1 λh2 c1 sb=>?_⟩
  have sb:Heap.SameBut z h1 h2:=sb
  have zl:s.heap.objs.size≠z:=Nat.ne_of_gt (Heap.lt_size s1)
  have fr:H s.heap.objs.size=none:=I.hok.fresh (Nat.le_refl _)
  have k2:∀ c o,c∉[z,TI,TO,i1,i2]→s.heap.get? c=some o→h2.get? c=some o:=λc o n e=>by
   simp only[List.mem_cons,List.not_mem_nil,or_false,not_or] at n
   exact(sb.2 c n.1).trans (kp c o n.1 n.2.2.1 n.2.2.2.1 n.2.2.2.2 e)
  have T2:IsPair h2 TI (.ref i1) (.ref i2):=(sb.2 _ F.a1).trans (kp _ _ F.a1 F.a5 F.a6 F.a7 s2)
  refine⟨.ref s.heap.objs.size,_,I.tupBut (t':=tk) hf k2 (vs:=[x,y]) (its:=[u,v]) (by show 2≤sizeLine;decide) (.cons ru (.cons rv .nil)) ⟨_,(sb.2 _ zl).trans b5,rfl,_,rfl⟩,rfl,⟨_,x,y,rfl,fr,rfl,λxs' ys' hx' hy'=>by rw[I.tuple_inj hx' hx,I.tuple_inj hy' hy];exact⟨ex,ey⟩⟩,
   ⟨c1,T2,⟨_,_,(sb.2 _ F.a2).trans b2⟩,b3.1.extBut sb.extBut F.a3,b4.1.extBut sb.extBut F.a4,no⟩,λc hcm=>?_⟩
  have nb:c≠s.heap.objs.size:=by
   obtain⟨o4,g4,_⟩:=s4
   obtain⟨o5,g5,_⟩:=s5
   simp only[List.mem_cons,List.not_mem_nil,or_false] at hcm
   rcases hcm with rfl | rfl | rfl | rfl | rfl
   ·exact zl.symm
   ·exact Nat.ne_of_lt (Heap.lt_size s2)
   ·exact Nat.ne_of_lt (Heap.lt_size s3)
   ·exact Nat.ne_of_lt (Heap.lt_size g4)
   ·exact Nat.ne_of_lt (Heap.lt_size g5)
  rw[yai nb]
  exact(hf c hcm).1
 done:=by
  intro X hP hw hK hc i pins s σ H E I hf st hg
  subst hP hw hK
  obtain⟨xs,hx,he⟩:=hg
  obtain⟨itx,rx,px,_⟩:=I.tuple hx
  have hd:X.A.in1.handled=none:=I.ok.hd hc
  obtain⟨s1,s2,⟨p,q,s3⟩,s4,s5,no⟩:=st
  have na:a≠i1:=by
   obtain⟨o,e,c,_⟩:=(yd5 px)
   obtain⟨o4,e4,c4,_⟩:=id s4
   exact ybO e e4 (by rw[c,c4];decide)
  have az:a≠z:=by
   obtain⟨o,e,c,_⟩:=(yd5 px)
   exact ybO e s1 (by rw[c];show Value.type "tuple" ≠ .type "zip";decide)
  have en:itx.toArray.size=i:=by rw[← he,rx.length];simp
  refine yeb (yd4 hd i1 a na itx.toArray) (λm=>?_) F.a3 s1 s2 s3 ⟨by rw[en];exact s4,(yd5 px)⟩ λh1 kp=>⟨rfl,?_⟩
  ·simp only[List.mem_cons,List.not_mem_nil,or_false] at m
   exact m.elim (λe=>F.a3 e.symm) λe=>az e.symm
  have off:∀ b u,H b=some u→b∉[z,TI,TO,i1,i2]:=λb u h m=>by rw[(hf b m).1] at h;cases h
  have k2:∀ c o,c∉[z,TI,TO,i1,i2]→s.heap.get? c=some o→h1.get? c=some o:=λc o n e=>by
   simp only[List.mem_cons,List.not_mem_nil,or_false,not_or] at n
   exact kp c o n.1 n.2.2.2.1 e
  exact I.step (g':=s.gens) (d':=s.drawn) (t':=s.toks) (ch:=[z,TI,TO,i1,i2]) (λb hb=>⟨(hf b hb).2.2.2.1,(hf b hb).2.1,(hf b hb).2.2.2.2⟩) (λb o _ _ n e _=>k2 b o n e) (λb o _ _ n e _=>⟨o.slots,k2 b o n e⟩) (λ_ _ _ _ n=>n)
   (λb o n e=>⟨o,k2 b o n e⟩) (λ_ _ h=>h) (λ_ _ _ h=>h) (λ_ ps h=>⟨#[],by rw[h];simp⟩) (λm hm=>hm.at λo e=>k2 _ o (λn=>(hf _ n).2.1 rfl) e) (λb u h=>(I.hok b u h).stay (λc v hc q=>k2 c v (hc.elim (λe=>e▸off b u h) λe=>off c _ e) q) (λ_ h=>h) λ_ _ h=>h) I.bare
 self:=λ_ _ _ _ _ st h=>wpAny_pyIter_zip st.1 h
def ynt (K:PySem.W.Frag)(ta:TA):TI:=fun σ H R=>ta σ H λvs H1=>∃ a b,vs=[.ref a,.ref b]∧(((∃ xs,SqL K H1 a xs)∧(∃ ys,SqL K H1 b ys)∧R (Itz K a b) H1)∨((∃ xs,SqT K H1 a xs)∧(∃ ys,SqT K H1 b ys)∧R (ynZ K a b) H1))
theorem yiK {elts:List Expr}{x1}{tp:Pos}{a b:Expr}{ta:TA}{p pos:Pos}(hg:Gl X "zip")(hm:X.mg "zip"=none)(ha:PA X [a,b] ta)(hs:starEach [a,b] X.env=[(false,eval a X.env),(false,eval b X.env)]:=by rfl)(hs2:starEach [b] X.env=[(false,eval b X.env)]:=by rfl) :
  PI X (.Tuple elts x1 tp) (.Call (.Name "zip" p) [a,b] [] pos) (ynt X.K ta):=by
 intro pins s σ H R I h
 refine Call_ (ydy I hg hm ykq (PyProof.Rows.callWith_type1 (thn (ha pos pins s σ H _ I h) λus s1 ⟨vs,H1,I1,r1,q1⟩=>?_) (by rw[hs,hs2]) (by rw[hs2];rfl)))
 obtain⟨la,lb,e,q⟩:=q1
 subst e
 obtain⟨u,v,rfl,ru,rv⟩:=yji r1
 cases ru
 cases rv
 have lt:∀ n,FpOk X pins H1 (s1.heap.objs.size+n):=λn=>I1.fpOk (Nat.le_add_right _ _) (I1.hok.fresh (Nat.le_add_right _ _))
 have ne:∀ {n m:Nat},n≠m→s1.heap.objs.size+n≠s1.heap.objs.size+m:=λh e=>h (Nat.add_left_cancel e)
 have five:ynj (s1.heap.objs.size+4) (s1.heap.objs.size+2) (s1.heap.objs.size+3) (s1.heap.objs.size+0) (s1.heap.objs.size+1):=⟨ne (by decide),ne (by decide),ne (by decide),ne (by decide),ne (by decide),ne (by decide),ne (by decide),ne (by decide),ne (by decide),ne (by decide)⟩
 have fp:∀ c∈[s1.heap.objs.size+4,s1.heap.objs.size+2,s1.heap.objs.size+3,s1.heap.objs.size+0,s1.heap.objs.size+1],FpOk X pins H1 c:=λc hc=>by
  simp only[List.mem_cons,List.not_mem_nil,or_false] at hc
  rcases hc with rfl | rfl | rfl | rfl | rfl<;>exact lt _
 rcases q with ⟨⟨xs,hx⟩,⟨ys,hy⟩,q⟩ | ⟨⟨xs,hx⟩,⟨ys,hy⟩,q⟩
 ·obtain⟨itx,rx,px,_⟩:=I1.list hx
  obtain⟨ity,ry,py,_⟩:=I1.list hy
  exact call_zip_2 px.isList py.isList λh' b1 b2 b3 b4 b5 sz kp=>wpAny_pyIter_zip b1 ⟨_,[s1.heap.objs.size+4,s1.heap.objs.size+2,s1.heap.objs.size+3,s1.heap.objs.size+0,s1.heap.objs.size+1],_,_,H1,rfl,I1.kept (t':=s1.toks) kp,ykV five,⟨b1,b2,⟨_,_,b3⟩,b4,b5⟩,fp,q⟩
 ·obtain⟨itx,rx,px,_⟩:=I1.tuple hx
  obtain⟨ity,ry,py,_⟩:=I1.tuple hy
  have old:∀ {c:Addr} {o:Obj},s1.heap.get? c=some o→c≠s1.heap.objs.size+3:=λe=>Nat.ne_of_lt (Nat.lt_of_lt_of_le (Heap.lt_size e) (Nat.le_add_right _ _))
  obtain⟨oa,ea,_⟩:=(yd5 px)
  obtain⟨ob,eb,_⟩:=(yd5 py)
  exact yiJ (yd5 px) (yd5 py) λh' b1 b2 b3 b4 b5 kp=>wpAny_pyIter_zip b1 ⟨_,[s1.heap.objs.size+4,s1.heap.objs.size+2,s1.heap.objs.size+3,s1.heap.objs.size+0,s1.heap.objs.size+1],_,_,H1,rfl,I1.kept (t':=s1.toks) kp,yjo five,⟨b1,b2,⟨_,_,b3⟩,b4,b5,old ea,old eb⟩,fp,q⟩
theorem yjR {K:PySem.W.Frag}{a b D:Addr}{xs ys:List V}{g:TG}{tc:TT}{te:TE}{Fin:Hp→Prop}{σ:St}{H:Hp}(len:xs.length=ys.length)(Pv:Nat→St→Hp→Prop)(h0:Pv 0 σ H)(hl:∀ i σ H,Pv i σ H→SqT K H a xs∧SqT K H b ys)
  (hs:∀ i x y σ H p,xs[i]?=some x→ys[i]?=some y→Pv i σ H→H p=none→g (.ref p) σ (upd H p (.tup [x,y])) fun σ2 H2=>tc σ2 H2 λb H3=>if b=true then te σ2 H3 λy H4=>∃ ys,H4 D=some (.lst ys)∧ys.length < sizeLine∧Pv (i+1) σ2 (upd H4 D (.lst (ys++[y]))) else Pv (i+1) σ2 H3)
  (hd:∀ σ H,Pv xs.length σ H→Fin H):∃ W:Nat→Nat→St→Hp→Prop,(∃ m,W 0 m σ H)∧yey (ynZ K a b) g tc te D Fin W:=by
 refine⟨λi m σ H=>m+i=xs.length∧Pv i σ H,⟨xs.length,rfl,h0⟩,?_⟩
 rintro i m σ H ⟨em,p⟩
 obtain⟨q1,q2⟩:=hl i σ H p
 cases m with
 | zero =>
  have e:i=xs.length:=by omega
  subst e
  exact .inl ⟨⟨xs,q1,rfl⟩,hd σ H p⟩
 | succ m =>
  have l1:i < xs.length:=by omega
  have l2:i < ys.length:=by omega
  refine .inr ⟨⟨xs,ys,xs[i],ys[i],q1,q2,List.getElem?_eq_getElem l1,List.getElem?_eq_getElem l2⟩,Pv (i+1),fun σ' H' p'=>⟨m,by omega,by omega,p'⟩,λx H' y=>?_⟩
  obtain⟨c,v,u,e1,e2,e3,y⟩:=y
  subst e1 e3
  obtain⟨y1,y2⟩:=y xs ys q1 q2
  exact hs i v u σ H c y1 y2 p e2
end
end L2
namespace L2
open PySem PySem.Spec PyProof.Rows PySem.SeqAt
open AutoSeq1 (wpAny_loadPart')
open MeetsSeq MeetsSeq2 MeetsSeq3
end L2
namespace L2
open PySem PySem.Spec PyProof.Rows
section
variable {prog:Program} {w:World} {A:Around} {E:Value→Shared→Prop} {s:Shared}
def ymT (A:Around)(s:Shared)(y x:Value)(b:Bool):Prop:=∀ (prog:Program) (w:World) (E:Value→Shared→Prop) (Q:Value→Shared→Prop),Q (.bool b) s→wpAny (model prog w) A (richCompare .Lt y x) Q E s
end
section
variable {X:Cx} {pins l1 l2:List (Addr×Obj)} {σ:St} {H:Hp} {s:Shared} {h':Heap} {a:Addr} {o o':Obj}
end
structure yrt (X:Cx) (σ:St) (A:Around) (f:Value) (vs:List Value) (H:Hp) (KV:Nat→V→Hp→Prop) (lt:Nat→Nat→Bool):Prop where
 call:∀ (i:Nat) (v:Value),vs[i]?=some v→∀ (pins:List (Addr×Obj)) (H1:Hp) (s:Shared),Same H H1→Inv X pins σ H1 s →
  wpAny (model X.prog X.w) A (PySem.call f [v]) (λr s'=>∃ k H2,Same H1 H2∧Inv X pins σ H2 s'∧RelV k r∧KV i k H2) (λ_ _=>False) s
 same:∀ i k H1 H2,KV i k H1→Same H1 H2→KV i k H2
 cmp:∀ (i j:Nat) (k k':V) (r r':Value) (pins:List (Addr×Obj)) (H1:Hp) (s:Shared),KV i k H1→KV j k' H1→RelV k r→RelV k' r'→Inv X pins σ H1 s→ymT A s r r' (lt i j)
section
variable {X:Cx} {pins:List (Addr×Obj)} {σ:St} {H:Hp} {A:Around} {B J l q:Addr} {vs:List Value} {KV:Nat→V→Hp→Prop} {lt:Nat→Nat→Bool} {R:Result→Shared→Prop}
structure yrJ (X:Cx) (pins:List (Addr×Obj)) (σ:St) (H:Hp) (A:Around) (B J l q:Addr) (vs:List Value) (KV:Nat→V→Hp→Prop) (lt:Nat→Nat→Bool):Prop where
 M:yrt X σ A.in1 (.ref q) vs H KV lt
 hh:A.in1.handled=none
 hl:∀ (pins:List (Addr×Obj)) (H1:Hp) (s:Shared),Same H H1→Inv X pins σ H1 s→s.heap.IsList l vs.toArray
 ne:B≠J
 fB:∀ H1,Same H H1→H1 B=none→FpOk X pins H1 B
 fJ:∀ H1,Same H H1→H1 J=none→FpOk X pins H1 J
end
section
variable {X:Cx} {pins:List (Addr×Obj)} {σ:St} {H:Hp} {s:Shared} {A:Around} {E:Value→Shared→Prop} {l q:Addr} {vs:List Value} {KV:Nat→V→Hp→Prop} {lt:Nat→Nat→Bool} {Q:Value→Shared→Prop}
end
end L2
namespace L2
open PySem PySem.Spec PyProof.Rows PySem.SeqAt
section
variable {X:Cx} {pins:List (Addr×Obj)} {σ:St} {H:Hp} {s:Shared} {A:Around}
end
end L2
namespace L2
open PySem PySem.Spec PyProof.Rows
section
variable {X:Cx} {tg:Expr}
end
section
variable {prog:Program} {w:World} {A:Around} {E:Value→Shared→Prop} {s:Shared}
end
section
variable {X:Cx} {tg:Expr}
end
section
variable {prog:Program} {w:World} {A:Around} {E:Value→Shared→Prop} {s:Shared}
end
set_option maxHeartbeats 200000 in
set_option maxHeartbeats 200000 in
section
variable {X:Cx}
set_option maxHeartbeats 400000 in
end
theorem ycy {K:PySem.W.Frag}{a:Addr}{xs:List V}{g:TG}{tb:TS}{D:ydn}{σ:St}{H:Hp}(Pv:Nat→St→Hp→Prop)(h0:Pv 0 σ H)(hl:∀ i σ H,i≤xs.length→Pv i σ H→SqL K H a xs)
  (hs:∀ i x σ H (N:St→Hp→Prop),(∀ σ' H',Pv (i+1) σ' H'→N σ' H')→xs[i]?=some x→Pv i σ H→g x σ H fun σ2 H2=>tb { D with nx:=N,ct:=N,bk:=D.nx } σ2 H2) (hd:∀ σ H,Pv xs.length σ H→D.nx σ H) :
  ∃ W:Nat→Nat→St→Hp→Prop,(∃ m,W 0 m σ H)∧∀ i m σ H,W i m σ H →
   ((Itl K a).stop i H∧D.nx σ H)∨((Itl K a).go i H∧∃ N:St→Hp→Prop,(∀ σ' H',N σ' H'→∃ m',m' < m∧W (i+1) m' σ' H')∧∀ x H',(Itl K a).yld i H x H'→g x σ H' fun σ2 H2=>tb { D with nx:=N,ct:=N,bk:=D.nx } σ2 H2) :=
 ydF Pv h0 hl (λi x σ H hx p=>hs i x σ H _ (λ_ _ z=>z) hx p) hd
theorem ydv {lo:Int}{n:Nat}{g:TG}{tb:TS}{D:ydn}{σ:St}{H:Hp}(Pv:Nat→St→Hp→Prop)(h0:Pv 0 σ H)
  (hs:∀ i σ H (N:St→Hp→Prop),(∀ σ' H',Pv (i+1) σ' H'→N σ' H')→i < n→Pv i σ H→g (.int (lo+i)) σ H fun σ2 H2=>tb { D with nx:=N,ct:=N,bk:=D.nx } σ2 H2) (hd:∀ σ H,Pv n σ H→D.nx σ H) :
  ∃ W:Nat→Nat→St→Hp→Prop,(∃ m,W 0 m σ H)∧∀ i m σ H,W i m σ H →
   ((Itr lo n).stop i H∧D.nx σ H)∨((Itr lo n).go i H∧∃ N:St→Hp→Prop,(∀ σ' H',N σ' H'→∃ m',m' < m∧W (i+1) m' σ' H')∧∀ x H',(Itr lo n).yld i H x H'→g x σ H' fun σ2 H2=>tb { D with nx:=N,ct:=N,bk:=D.nx } σ2 H2) :=
 yfS Pv h0 (λi σ H hx p=>hs i σ H _ (λ_ _ z=>z) hx p) hd
theorem ybb {K:PySem.W.Frag}{a D:Addr}{xs:List V}{g:TG}{tc:TT}{te:TE}{Fin:Hp→Prop}{σ:St}{H:Hp}(Pv:Nat→St→Hp→Prop)(h0:Pv 0 σ H)(hl:∀ i σ H,i≤xs.length→Pv i σ H→SqL K H a xs)
  (hs:∀ i x σ H (N:St→Hp→Prop),(∀ σ' H',Pv (i+1) σ' H'→N σ' H')→xs[i]?=some x→Pv i σ H→g x σ H fun σ2 H2=>tc σ2 H2 λb H3=>if b=true then te σ2 H3 λy H4=>∃ ys,H4 D=some (.lst ys)∧ys.length < sizeLine∧N σ2 (upd H4 D (.lst (ys++[y]))) else N σ2 H3)
  (hd:∀ σ H,Pv xs.length σ H→Fin H):∃ W:Nat→Nat→St→Hp→Prop,(∃ m,W 0 m σ H)∧yey (Itl K a) g tc te D Fin W :=
 yio Pv h0 hl (λi x σ H hx p=>hs i x σ H _ (λ_ _ z=>z) hx p) hd
section
variable {σ:St} {H:Hp} {Q:VK} {D:ydn} {ta tb tc te:TE} {r:R2} {v x y:V} {i:Nat} {K:PySem.W.Frag}
theorem yev (e:σ[i]?=some (some v))(q:Q v H):ycv i σ H Q:=⟨v,e,q⟩
theorem i_c (q:Q v H):tC v σ H Q:=q
theorem yqj (q:ta σ H λx H1=>tb σ H1 λy H2=>r x y H2 Q):tOp r ta tb σ H Q:=q
theorem yqY {r:V→Hp→VK→Prop}(q:ta σ H λx H1=>r x H1 Q):tUn r ta σ H Q:=q
theorem yoR {g:Int→Int→V}{a b:Int}(q:Q (g a b) H):rI0 g (.int a) (.int b) H Q:=⟨a,b,rfl,rfl,q⟩
theorem i_I {C:Int→Int→Prop}{g:Int→Int→V}{a b:Int}(c:C a b)(q:Q (g a b) H):rI C g (.int a) (.int b) H Q:=⟨a,b,rfl,rfl,c,q⟩
theorem i_U {g:Int→V}{a:Int}(q:Q (g a) H):rU g (.int a) H Q:=⟨a,rfl,q⟩
theorem yoB {a b:Int}(q:Q (.bl (decide (a=b))) H):rEq (.int a) (.int b) H Q:=⟨rfl,by rw[show decide (V.int a=V.int b)=decide (a=b) by rw[Bool.eq_iff_iff];simp];exact q⟩
theorem ymW {tr:TA}{Q:List V→Hp→Prop}(q:ta σ H λx H1=>tr σ H1 λxs H2=>Q (x :: xs) H2):ybS ta tr σ H Q:=q
theorem ymx {Q:List V→Hp→Prop}(q:Q [] H):ygB σ H Q:=q
theorem ymZ {sp:Sp}{E:XK}{t:TA}(q:t σ H λvs H1=>sp (vs++[]) H1 Q E):yej sp [] E t σ H Q:=q
theorem yqS {r:List V→Hp→VK→Prop}{t:TA}(q:t σ H λvs H1=>r vs H1 Q):tCB r t σ H Q:=q
theorem ybe {t u:TS}(q:t { D with nx:=u D } σ H):ylQ t u D σ H:=q
theorem yls (q:D.nx σ H):yl4 D σ H:=q
theorem ymm {g:TG}(q:te σ H λx H1=>g x σ H1 D.nx):yku te g D σ H:=q
theorem ybN {N:St→Hp→Prop}(q:N (σ.set i (some v)) H):yce i v σ H N:=q
theorem yof (q:te σ H D.rt):ypK te D σ H:=q
theorem ymR (q:te σ H λ_ H1=>D.nx σ H1):yjK te D σ H:=q
theorem yqa {c:TT}{t u:TS}(q:c σ H λb H1=>if b=true then t D σ H1 else u D σ H1):yn1 c t u D σ H:=q
theorem yqP {c:TT}(q:c σ H λb H1=>if b=true then ta σ H1 Q else tb σ H1 Q):tIf c ta tb σ H Q:=q
theorem ynq {R:Bool→Hp→Prop}(q:te σ H λx H'=>∃ k,x=.bl k∧R k H'):yl0 te σ H R:=q
theorem yrA {R:Bool→Hp→Prop}(q:te σ H λx H'=>∃ k,x=.bl k∧R k H'):tB te σ H R:=q
theorem ydz {b:Bool}{R:Bool→Prop}(q:R b):∃ k,V.bl b=V.bl k∧R k:=⟨b,rfl,q⟩
theorem yoi {t u:TT}{R:Bool→Hp→Prop}(q:t σ H λc H1=>if c=true then u σ H1 R else R false H1):yp1 t u σ H R:=q
theorem yrF {t u:TT}{R:Bool→Hp→Prop}(q:t σ H λc H1=>if c=true then R true H1 else u σ H1 R):tOr t u σ H R:=q
theorem yoS {t:TT}{R:Bool→Hp→Prop}(q:t σ H λc H1=>R (!c) H1):ypn t σ H R:=q
theorem ynO (q:ta σ H λx H1=>∃ c,x=.bl c∧if c=true then tb σ H1 Q else Q (.bl false) H1):ykm ta tb σ H Q:=q
theorem ybc {p:Addr}{xs:List V}{k:Int}(s:SqL K H p xs)(a:atI xs k=some v)(q:Q v H):ykp K (.ref p) (.int k) H Q:=⟨p,xs,k,v,rfl,rfl,s,a,q⟩
theorem ya0 {p:Addr}{xs:List V}{k:Int}(s:SqT K H p xs)(a:atI xs k=some v)(q:Q v H):ymL K (.ref p) (.int k) H Q:=⟨p,xs,k,v,rfl,rfl,s,a,q⟩
theorem ycQ {R:Bool→Hp→Prop}(q:R true H):yg4 σ H R:=q
theorem yex {p:Addr}{a b:V}{m n:Nat}{N:St→Hp→Prop}(s:SqT K H p [a,b])(q:N ((σ.set m (some a)).set n (some b)) H):ymP K 2 (yed (yce m) (yed (yce n) ymO)) (.ref p) σ H N:=⟨p,_,rfl,s,rfl,a,_,rfl,b,_,rfl,rfl,q⟩
theorem i_T {A B:Prop}(q:A):if true=true then A else B:=by rw[if_pos rfl];exact q
theorem i_F {A B:Prop}(q:B):if false=true then A else B:=by rw[if_neg (by simp)];exact q
theorem yoX {t:TA}(q:t σ H λxs H1=>xs.length≤sizeLine∧∀ p,H1 p=none→Q (.ref p) (upd H1 p (.lst xs))):yn5 t σ H Q:=q
theorem ynl {t:TA}(q:t σ H λxs H1=>xs.length≤sizeLine∧∀ p,H1 p=none→Q (.ref p) (upd H1 p (.tup xs))):ylo t σ H Q:=q
theorem ydb {l:Addr}{xs:List V}(h:H l=some (.lst xs))(n:xs.length < sizeLine)(q:Q .non (upd H l (.lst (xs++[y])))):ydl (.ref l) [y] H Q:=⟨l,xs,y,rfl,rfl,h,n,q⟩
theorem i_d {p:Prop}[Decidable p]{A B:Prop}(h1:p→A)(h2:¬ p→B):if decide p=true then A else B:=by
 by_cases z:p
 ·rw[if_pos (decide_eq_true z)];exact h1 z
 ·rw[if_neg (by rw[decide_eq_false z];simp)];exact h2 z
theorem i_b {b:Bool}{A B:Prop}(h1:b=true→A)(h2:b=false→B):if b=true then A else B:=by
 cases b
 ·exact h2 rfl
 ·exact h1 rfl
end
section
variable {X:Cx} {CX:CXT} {k:Nat} {E:XK} {x m:Str} {p pos apos:Pos} {e o:Expr} {es:List Expr} {ta:TE} {t:TA}
def ylc (K:PySem.W.Frag):List V→Hp→VK→Prop:=λxs H Q=>∃ x C t b,xs=[x,.ref C]∧yfm K H x t∧PySem.W.kitOne K t (.ref C)=some b∧Q (.bl b) H
theorem ycL:ycd X (.builtin "isinstance") (ylc X.K):=by
 intro pins s σ H xs us Q I r h
 obtain⟨x,C,t,b,rfl,ty,hk,q⟩:=h
 obtain⟨u,v,rfl,ru,rv⟩:=yji r
 cases (show v=Value.ref C from rv)
 exact yfH I ru ty hk λtk=>⟨.bl b,H,I.tok _,rfl,q⟩
def ydx {ι:Type}(C:ι→Addr)(m:Str)(sp:ι→Sp)(E:XK)(ta:TE):TE:=fun σ H Q=>ta σ H λx H1=>∃ i a dx fs,x=.ref a∧H1 a=some (.ins (C i) dx fs)∧fs.lookup m=none∧sp i [x] H1 Q E
theorem ycI {pl:Sem Bool}{ι:Type}{C f:ι→Addr}{fd:ι→FuncData}{ps:ι→List Str}{sp:ι→Sp}(he:PE X o ta)(c:∀ i,Cls X.K (C i))(hm:∀ i,ykc X.K (C i) m (f i))
  (F:∀ i,FnOk X.prog X.w X.K X.mg X.base CX k (f i) (fd i) (ps i) (sp i)) (hr:Room k X.A) (hb:∀ i,Binds X.K (fd i) (ps i) []) (hx:ydV CX X E)
  (ht:eval (.Call (.Attribute o m apos) [] [] pos) X.env=(do
   let ov ← eval o X.env
   standAt apos.atName
   let (f,first) ← holding [ov] (getMethod ov m pl)
   callWith pos f first (backTo pos (starEach [] X.env)) (backToKw pos (keywordEach [] X.env))):=by rfl) :
  PE X (.Call (.Attribute o m apos) [] [] pos) (ydx C m sp E ta):=by
 intro pins s σ H Q I h
 refine PySem.W.methodCall_KW (pl:=pl) (thn (he pins s σ H _ I h) λu s1 ⟨x,H1,I1,rx,i,a,dx,fs,ex,ea,l,q⟩=>?_) ht
 subst ex
 obtain rfl:u=Value.ref a:=rx
 exact yhX I1 ea (c i) (hm i) l (PySem.W.callWith_K0 (first:=[.ref a]) I1.kIn (hm i).kp (yi9 (us:=[.ref a]) (vs:=[.ref a]) (F i) hr (hb i) .nil hx I1 (.cons rfl .nil) q))
structure ymH (K:PySem.W.Frag) (C:Addr) (m:Str) (f:Addr):Prop where
 ga:PySem.W.specialIn K (.ref C) "__getattribute__"=some (some (.builtin "type.__getattribute__"))
 rd:PySem.W.readsIn K C (.type "type")=true
 at_:PySem.W.findCls K (.ref C) (.type "type") m=some (.val (.ref f))
 hh:PySem.W.handedIn (.ref f)=true
 kp:PySem.W.keepIn K (.ref f)=true
theorem yk7 {pl:Sem Bool}{C f:Addr}{fd:FuncData}{ps:List Str}{sp:Sp}(he:PE X o (tC (.ref C)))(c:ymH X.K C m f)(F:FnOk X.prog X.w X.K X.mg X.base CX k f fd ps sp)(hr:Room k X.A)(hb:Binds X.K fd ps [])(hx:ydV CX X E)(ha:PA X (e :: es) t)
  (hst:starEach (e :: es) X.env=(false,eval e X.env) :: starEach es X.env:=by rfl) (hpl:(backTo pos (starEach es X.env)).any (·.1)=false:=by rfl)
  (ht:eval (.Call (.Attribute o m apos) (e :: es) [] pos) X.env=(do
   let ov ← eval o X.env
   standAt apos.atName
   let (f,first) ← holding [ov] (getMethod ov m pl)
   callWith pos f first (backTo pos (starEach (e :: es) X.env)) (backToKw pos (keywordEach [] X.env))):=by rfl) :
  PE X (.Call (.Attribute o m apos) (e :: es) [] pos) (yej sp [] E t):=by
 intro pins s σ H Q I h
 refine PySem.W.methodCall_KW (pl:=pl) (thn (he pins s σ H (λx H1=>x=.ref C∧yej sp [] E t σ H1 Q) I ⟨rfl,h⟩) λu s1 ⟨x,H1,I1,rx,ex,q⟩=>?_) ht
 subst ex
 obtain rfl:u=Value.ref C:=rx
 refine PySem.W.method_cls I1.kIn c.ga (PySem.W.cls_value I1.kIn c.rd c.at_ c.hh ?_)
 have I2:=I1.tok (s1.toks+1)
 refine PySem.W.callWith_K (first:=[]) (h₀:=X.base) I.ok.mod.kin c.kp (thn (ha pos pins _ σ H1 _ I2 q) λus s2 ⟨vs,H2,I3,r,q2⟩=>⟨I3.kIn,?_⟩) hst hpl
 exact yi9 (us:=us) (vs:=vs) F hr hb .nil hx I3 r q2
end
structure ClsObj (K:PySem.W.Frag) (C:Addr):Prop where
 ha:PySem.W.findIn K (.ref C) "__class__"=some (some (.builtin "object.__class__"))
 hn:PySem.W.specialIn K (.builtin "object.__class__") "__get__"=some (some (.builtin "getset_descriptor.__get__"))
 htk:PySem.W.takesIn K (.builtin "object.__class__")=some true
 hm:PySem.W.mroIn K C (.type "object")=some true
theorem ClsObj.ty {K:PySem.W.Frag}{C a dx:Addr}{H:Hp}{fs:List (Str×V)}(o:ClsObj K C)(c:Cls K C)(e:H a=some (.ins C dx fs)):yfm K H (.ref a) (.ref C):=.ins e c o.ha o.hn o.htk o.hm
section
variable {K:PySem.W.Frag} {σ:St} {H:Hp} {Q:VK} {ta tb:TE} {f:Str} {a C dx:Addr} {fs:List (Str×V)} {v y:V} {D:ydn}
theorem yp9 (q:ta σ H λx H1=>∃ a C dx fs v,x=.ref a∧H1 a=some (.ins C dx fs)∧Cls K C∧NoAttr K C f∧fs.lookup f=some v∧Q v H1):yn0 K ta f σ H Q:=q
theorem i_f (h:H a=some (.ins C dx fs))(c:Cls K C)(n:NoAttr K C f)(l:fs.lookup f=some v)(q:Q v H):∃ a' C' dx' fs' v',V.ref a=.ref a'∧H a'=some (.ins C' dx' fs')∧Cls K C'∧NoAttr K C' f∧fs'.lookup f=some v'∧Q v' H:=⟨a,C,dx,fs,v,rfl,h,c,n,l,q⟩
theorem ynE (q:tb σ H λy H1=>ta σ H1 λx H2=>∃ a C dx fs,x=.ref a∧H2 a=some (.ins C dx fs)∧Cls K C∧NoAttr K C f∧fs.length < 1000∧D.nx σ (upd H2 a (.ins C dx (yep f y fs)))):yo4 K ta tb f D σ H:=q
end
section
variable {H:Hp} {Q:VK}
theorem yjh {g:Int→Int→V}{a b:Int}(h:0 < b∧b < 1073741824)(q:Q (g a b) H):rI yqw g (.int a) (.int b) H Q:=⟨a,b,rfl,rfl,h,q⟩
end
def yna (J:It)(g:TG)(tb:TS)(D:ydn)(σ:St)(H:Hp):Prop:=ymM (λ_ H R=>R J H) g tb D σ H
def ymc (J:It)(cap:List (Option Nat))(g:TG)(tc:TT)(te:TE)(σ:St)(H:Hp)(Q:VK):Prop:=yhV (λ_ H R=>R J H) cap g tc te σ H Q
section
variable {K:PySem.W.Frag} {σ:St} {H:Hp} {Q:VK} {ta:TA} {te to ti:TE} {g:TG} {tb:TS} {D:ydn} {cap:List (Option Nat)} {tc:TT}
theorem yo5 (q:ta σ H λvs H1=>∃ j:Int,vs=[.int j]∧-(2 ^ 62)≤j∧j < 2 ^ 62∧yna (Itr 0 j.toNat) g tb D σ H1):ymM (ykT ta) g tb D σ H:=q
theorem yps (q:te σ H λx H1=>∃ a,x=.ref a∧(∃ xs,SqL K H1 a xs)∧yna (Itl K a) g tb D σ H1):ymM (yih K te) g tb D σ H:=q
theorem ypE (q:ta σ H λvs H1=>∃ a,vs=[.ref a]∧(∃ xs,SqL K H1 a xs)∧yna (Ite K a) g tb D σ H1):ymM (ymy K ta) g tb D σ H:=q
theorem ypG (q:to σ H λx H1=>∃ a,x=.ref a∧(∃ xs,SqL K H1 a xs)∧ymc (Itl K a) cap g tc te σ H1 Q):yhV (yih K to) cap g tc te σ H Q:=q
theorem yp3 (q:to σ H λx H1=>∃ a,x=.ref a∧(∃ xs,SqT K H1 a xs)∧ymc (Itt K a) cap g tc te σ H1 Q):yhV (ypY K to) cap g tc te σ H Q:=q
theorem yoV (q:ta σ H λvs H1=>∃ j:Int,vs=[.int j]∧-(2 ^ 62)≤j∧j < 2 ^ 62∧ymc (Itr 0 j.toNat) cap g tc te σ H1 Q):yhV (ykT ta) cap g tc te σ H Q:=q
theorem ynf {i:Nat}(q:te σ H λx H1=>D.nx (σ.set i (some x)) H1):yhk i te D σ H:=q
theorem yqQ {T:String}{r:V→List V→Hp→VK→Prop}(q:to σ H λx H1=>tyV K T x H1∧ta σ H1 λxs H2=>r x xs H2 Q):tBM K T r to ta σ H Q:=q
theorem ypX {T:String}{r:V→List V→Hp→VK→Prop}(q:to σ H λx H1=>tyV K T x H1∧r x [] H1 Q):yo0 K T r to σ H Q:=q
theorem yqb {t:yn3}{v:V}{N:St→Hp→Prop}(q:to σ H λo H1=>ti σ H1 λi H2=>t o i v H2 λH3=>N σ H3):ynr to ti t v σ H N:=q
theorem yqt {r:V→Option Int→Option Int→Hp→VK→Prop}{tl th:TO}(q:te σ H λx H1=>tl σ H1 λl H2=>th σ H2 λu H3=>r x l u H3 Q):tSl r te tl th σ H Q:=q
theorem ypo {i:Nat}{t:TIp}{x:V}(e:σ[i]?=some (some x))(q:te σ H λy H1=>t x y H1 λz H2=>D.nx (σ.set i (some z)) H2):yml i te t D σ H:=⟨x,e,q⟩
theorem yrE {f:Int→Int→Int}{a b:Int}(q:Q (.int (f a b)) H):ipI f (.int a) (.int b) H Q:=⟨a,b,rfl,rfl,q⟩
theorem ynv {C:Addr}{sp:Sp}{E:XK}(q:ta σ H λvs H1=>∀ x dx,H1 x=none→H1 dx=none→dx≠x→sp (.ref x :: (vs++[])) (upd (upd H1 dx (.own x)) x (.ins C dx [])) (λv H2=>v=.non∧Q (.ref x) H2) E):yl8 C sp [] E ta σ H Q:=q
theorem ylz {ι:Type}{C:ι→Addr}{m:Str}{sp:ι→Sp}{E:XK}(q:te σ H λx H1=>∃ i a dx fs,x=.ref a∧H1 a=some (.ins (C i) dx fs)∧fs.lookup m=none∧sp i [x] H1 Q E):ydx C m sp E te σ H Q:=q
theorem yrd (q:to σ H λx H1=>ti σ H1 λy H2=>∃ a v,x=.ref a∧DGet H2 a y (some v)∧Q v H2):ylj to ti σ H Q:=q
theorem ylr {g:Int→Int→V}{a b:Int}(h:(-(2 ^ 62)≤a∧a≤2 ^ 62)∨(-(2 ^ 62)≤b∧b≤2 ^ 62))(q:Q (g a b) H):rI IntMulOk g (.int a) (.int b) H Q:=⟨a,b,rfl,rfl,CMul.ok (h.imp (λz=>⟨by omega,by omega⟩) λz=>⟨by omega,by omega⟩),q⟩
end
section
variable {X:Cx}
theorem ykQ {A:Around}{s:Shared}(c:Addr):SeqAt.EqAt A s (.ref c) (.ref c) true:=by
 intro prog w' E Q hq
 unfold eqBool
 refine wpAny_holding ?_
 refine wpAny_ite_split (λhab=>wpAny_bind (wpAny_rule (wpAny_pure hq))) (λhn=>absurd hn (by simp))
theorem yhj:∀ {xs:List V} {its its':List Value},(∀ z∈xs,∃ c,z=.ref c)→Vals xs its→Vals xs its'→its=its'∧∀ v∈its,∃ c,v=Value.ref c
 | [],_,_,_,r,r'=>by cases r;cases r';exact⟨rfl,λ_ h=>by cases h⟩
 | x :: xs,_,_,h,r,r'=>by
  cases r with
  | cons a b =>
   cases r' with
   | cons a' b' =>
    obtain⟨c,rfl⟩:=h x List.mem_cons_self
    cases a
    cases a'
    obtain⟨e,k⟩:=yhj (λz hz=>h z (List.mem_cons_of_mem _ hz)) b b'
    rw[e] at k ⊢
    refine⟨rfl,λv hv=>?_⟩
    rcases List.mem_cons.mp hv with rfl | hv
    ·exact⟨c,rfl⟩
    ·exact k v hv
def yjl (K:PySem.W.Frag):R2:=λx y H Q=>∃ a b xs,x=.ref a∧y=.ref b∧SqL K H a xs∧SqL K H b xs∧(∀ z∈xs,∃ c,z=.ref c)∧Q (.bl false) H
theorem yit (hu:X.A.units+64 < cLine):OpR X (compareOp .NotEq) (yjl X.K):=by
 intro pins s σ H x y v u Q I rx ry h
 obtain⟨a,b,xs,rfl,rfl,ha,hb,hz,q⟩:=h
 cases rx
 cases ry
 obtain⟨its,r,p,_⟩:=I.list ha
 obtain⟨its',r',p',_⟩:=I.list hb
 have hA:X.A.units < cLine:=by omega
 obtain⟨rfl,k⟩:=yhj hz r r'
 have key:=SeqAt.RcNeAt.lists p.isList p'.isList rfl hA (e:=λ_=>true) (λj h1 h2=>by
  obtain⟨c,e⟩:=k its.toArray[j] (by simp)
  rw[e]
  exact ykQ c)
 have e:(!(List.range its.toArray.size).all λ_=>true)=false:=by simp
 rw[e] at key
 exact key _ _ _ _ ⟨.bl false,H,I,rfl,q⟩
end
end L2
namespace KG
open PySem L2
theorem yap:bootBuiltins "isinstance"=some (.builtin "isinstance"):=by decide +kernel
theorem ykL:bootBuiltins "all"=some (.builtin "all"):=by decide +kernel
theorem yd8:bootBuiltins "sorted"=some (.builtin "sorted"):=by decide +kernel
theorem ykE:bootBuiltins "max"=some (.builtin "max"):=by decide +kernel
theorem ye3:bootBuiltins "int"=some (.type "int"):=by decide +kernel
theorem ygo:bootBuiltins "bool"=some (.type "bool"):=by decide +kernel
theorem ycc:bootBuiltins "tuple"=some (.type "tuple"):=by decide +kernel
theorem yaR:bootBuiltins "list"=some (.type "list"):=by decide +kernel
theorem boot_range:bootBuiltins "range"=some (.type "range"):=by decide +kernel
def yqn (i:Nat):Stmt:=PySem.Challenge.pw_barwright_k33_bars_by_hand.main.body.getD i (.Pass ⟨0,0,0,0⟩)
def ypi:Stmt→List Stmt
 | .ClassDef _ _ _ body _ _ _ _ _ _ _=>body
 | _=>[]
def top (i:Nat):Stmt:=cond (Nat.ble 1000 i) ((ypi (yqn (i / 1000 - 1))).getD (i%1000) (.Pass ⟨0,0,0,0⟩)) (yqn i)
structure Ad where
 (f_zr f_zU f_zQ f_zJ f_zM f_zT f_zN f_zh f_zx f_zc f_zo f_zb f_zk f_zd f_zO f_ze f_zI f_zi f_zp f_zR f_zW f_zg f_zD f_zj f_zF f_za f_zE f_zt f_zH f_zy f_zA f_zG f_zK f_zu f_zB f_zq f_zL f_zP f_zf f_zw f_zn f_zS f_zC f_zY QJ QK QL QM QN QO QP QQ QR:Addr)
 (d_zr d_zU d_zQ d_zJ d_zM d_zT d_zN d_zh d_zx d_zc d_zo d_zb d_zk d_zd d_zO d_ze d_zI d_zi d_zp d_zR d_zW d_zg d_zD d_zj d_zF d_za d_zE d_zt d_zH d_zy d_zA d_zG d_zK d_zu d_zB d_zq d_zL d_zP d_zf d_zw d_zn d_zS d_zC d_zY:FuncData)
structure FM (K:PySem.W.Frag) (mg:Str→Option Value) (n:Str) (m:Nat) (ps:List Str) (f:Addr) (d:FuncData):Prop where
 F:Fun K n n (top m) f d
 B:Binds K d ps []
 M:mg n=some (.ref f)
structure FN (K:PySem.W.Frag) (n q:Str) (m:Nat) (ps:List Str) (f:Addr) (d:FuncData):Prop where
 F:Fun K n q (top m) f d
 B:Binds K d ps []
structure Txt (K:PySem.W.Frag) (mg:Str→Option Value) (t:Ad):Prop where
 JC:mg "Note"=some (.ref t.QL)
 JJ:mg "Pause"=some (.ref t.QM)
 JV:mg "Whole"=some (.ref t.QN)
 Qf:mg "Sound"=some (.ref t.QO)
 JY:mg "Rest"=some (.ref t.QP)
 Qg:mg "Tones"=some (.ref t.QQ)
 Qy:mg "Bar"=some (.ref t.QR)
 JZ:Mk K t.QL t.f_zh
 JW:Mk K t.QM t.f_zc
 JX:Mk K t.QN t.f_zb
 Qt:Mk K t.QP t.f_zd
 Qh:Mk K t.QQ t.f_ze
 Qz:Mk K t.QR t.f_zi
 QC:ykc K t.QL "grains" t.f_zx
 QD:ykc K t.QM "grains" t.f_zo
 QE:ykc K t.QN "grains" t.f_zk
 QF:ykc K t.QP "told" t.f_zO
 QG:ykc K t.QQ "told" t.f_zI
 QH:ymH K t.QO "__init__" t.f_zd
 zr:FM K mg "piece_grains" 8 ["piece"] t.f_zr t.d_zr
 zU:FM K mg "fifths" 3 ["pitch"] t.f_zU t.d_zU
 zQ:FM K mg "key_lean" 5 ["key","step"] t.f_zQ t.d_zQ
 zJ:FM K mg "head_line" 14 ["head"] t.f_zJ t.d_zJ
 zM:FM K mg "leans_for" 18 ["key","rows"] t.f_zM t.d_zM
 zT:FM K mg "in_time" 19 ["rows"] t.f_zT t.d_zT
 zN:FM K mg "put_heads" 20 ["key","heads","counting"] t.f_zN t.d_zN
 zh:FN K "__init__" "Note.__init__" 12000 ["self","heads","piece","is_tied","is_beamed","word","opens","closes"] t.f_zh t.d_zh
 zx:FN K "grains" "Note.grains" 12003 ["self"] t.f_zx t.d_zx
 zc:FN K "__init__" "Pause.__init__" 13000 ["self","piece"] t.f_zc t.d_zc
 zo:FN K "grains" "Pause.grains" 13003 ["self"] t.f_zo t.d_zo
 zb:FN K "__init__" "Whole.__init__" 14000 ["self","length"] t.f_zb t.d_zb
 zk:FN K "grains" "Whole.grains" 14003 ["self"] t.f_zk t.d_zk
 zd:FN K "__init__" "Sound.__init__" 23000 ["self","length"] t.f_zd t.d_zd
 zO:FN K "told" "Rest.told" 24000 ["self"] t.f_zO t.d_zO
 ze:FN K "__init__" "Tones.__init__" 25000 ["self","pitches","length","word","opens","closes"] t.f_ze t.d_ze
 zI:FN K "told" "Tones.told" 25001 ["self"] t.f_zI t.d_zI
 zi:FN K "__init__" "Bar.__init__" 28000 ["self","key","metre","voices"] t.f_zi t.d_zi
 zp:FM K mg "ends_in_rest" 25 ["sounds"] t.f_zp t.d_zp
 zR:FM K mg "own_sign" 28 ["sign"] t.f_zR t.d_zR
 zW:FM K mg "hear" 29 ["bars"] t.f_zW t.d_zW
 zg:FM K mg "pitches_begun" 30 ["bar","ties"] t.f_zg t.d_zg
 zD:FM K mg "rows_begun" 31 ["voice","signs","comes"] t.f_zD t.d_zD
 zj:FM K mg "is_tied_note" 32 ["sign"] t.f_zj t.d_zj
 zF:FM K mg "hear_signs" 33 ["sounds","voice","signs","begun"] t.f_zF t.d_zF
 za:FM K mg "told_without_end_rest" 34 ["sounds"] t.f_za t.d_za
 zE:FM K mg "_law_alike" 36 ["_law_found","_law_due"] t.f_zE t.d_zE
 zt:FM K mg "_law_longer" 37 ["_law_told"] t.f_zt t.d_zt
 zH:FM K mg "_law_mixed" 38 ["_law_cell","_law_k"] t.f_zH t.d_zH
 zy:FM K mg "_law_grains" 39 ["_law_piece"] t.f_zy t.d_zy
 zA:FM K mg "_law_pieces" 40 ["_law_room"] t.f_zA t.d_zA
 zG:FM K mg "_law_heads" 41 ["_law_number"] t.f_zG t.d_zG
 zK:FM K mg "_law_note" 42 ["_law_number","_law_piece","_law_held","_law_far"] t.f_zK t.d_zK
 zu:FM K mg "_law_filled" 43 ["_law_room"] t.f_zu t.d_zu
 zB:FM K mg "_law_voice" 44 ["_law_cells","_law_size","_law_shift"] t.f_zB t.d_zB
 zq:FM K mg "_law_resting" 45 ["_law_size","_law_count","_law_number"] t.f_zq t.d_zq
 zL:FM K mg "_law_sign" 46 ["_law_told"] t.f_zL t.d_zL
 zP:FM K mg "_law_time" 47 ["_law_told"] t.f_zP t.d_zP
 zf:FM K mg "_law_key_lean" 48 ["_law_key","_law_step"] t.f_zf t.d_zf
 zw:FM K mg "_law_begins" 49 ["_law_voices","_law_ties"] t.f_zw t.d_zw
 zn:FM K mg "_law_pitches" 50 ["_law_key","_law_voices","_law_ties"] t.f_zn t.d_zn
 zS:FM K mg "_law_add" 51 ["_law_sounds","_law_told","_law_tied","_law_pitches_here"] t.f_zS t.d_zS
 zC:FM K mg "_law_heard" 52 ["_law_keys","_law_voices"] t.f_zC t.d_zC
 zY:FM K mg "law" 53 ["_law_script"] t.f_zY t.d_zY
 QA:mg "all"=none
 Qa:mg "bool"=none
 Jc:mg "enumerate"=none
 Qb:mg "int"=none
 Ja:mg "isinstance"=none
 Jr:mg "len"=none
 Jf:mg "list"=none
 QB:mg "max"=none
 Jj:mg "range"=none
 JQ:mg "sorted"=none
 Jw:mg "tuple"=none
 Qp:mg "zip"=none
 JE:mg "STEP_FIFTHS"=some (.ref t.QJ)
 JF:TupIn K t.QJ [.int 0,.int 2,.int 4,.int (-1),.int 1,.int 3,.int 5]
 Qc:∃ k,mg "GRAINS"=some (.int (96) k)
 JK:mg "LEAN_MARKS"=some (.ref t.QK)
 Jx:TupIn K t.QK [.str "--",.str "-",.str "=",.str "+",.str "++"]
 JL:∃ k,mg "LEAST_LEAN"=some (.int (-2) k)
 Jb:Cls K t.QL
 Qu:ClsObj K t.QL
 Jo:NoAttr K t.QL "heads"
 Jp:NoAttr K t.QL "piece"
 Jg:NoAttr K t.QL "is_tied"
 Jn:NoAttr K t.QL "is_beamed"
 Jt:NoAttr K t.QL "word"
 Jq:NoAttr K t.QL "opens"
 Jk:NoAttr K t.QL "closes"
 JR:PySem.W.kitOne K (.ref t.QL) (.ref t.QL)=some true
 JM:PySem.W.kitOne K (.ref t.QL) (.ref t.QM)=some false
 Qq:PySem.W.kitOne K (.ref t.QL) (.ref t.QP)=some false
 Jy:Cls K t.QM
 Qi:ClsObj K t.QM
 Jl:NoAttr K t.QM "piece"
 JN:PySem.W.kitOne K (.ref t.QM) (.ref t.QL)=some false
 JG:PySem.W.kitOne K (.ref t.QM) (.ref t.QM)=some true
 Qj:PySem.W.kitOne K (.ref t.QM) (.ref t.QP)=some false
 Jz:Cls K t.QN
 Qk:ClsObj K t.QN
 Jh:NoAttr K t.QN "length"
 JO:PySem.W.kitOne K (.ref t.QN) (.ref t.QL)=some false
 JH:PySem.W.kitOne K (.ref t.QN) (.ref t.QM)=some false
 Ql:PySem.W.kitOne K (.ref t.QN) (.ref t.QP)=some false
 JD:Cls K t.QP
 Qv:ClsObj K t.QP
 Jm:NoAttr K t.QP "length"
 Qr:PySem.W.kitOne K (.ref t.QP) (.ref t.QL)=some false
 Qm:PySem.W.kitOne K (.ref t.QP) (.ref t.QM)=some false
 JT:PySem.W.kitOne K (.ref t.QP) (.ref t.QP)=some true
 Jd:Cls K t.QQ
 Qn:ClsObj K t.QQ
 Ji:NoAttr K t.QQ "length"
 Js:NoAttr K t.QQ "pitches"
 JA:NoAttr K t.QQ "word"
 Jv:NoAttr K t.QQ "opens"
 Ju:NoAttr K t.QQ "closes"
 Qo:PySem.W.kitOne K (.ref t.QQ) (.ref t.QL)=some false
 Qe:PySem.W.kitOne K (.ref t.QQ) (.ref t.QM)=some false
 JP:PySem.W.kitOne K (.ref t.QQ) (.ref t.QP)=some false
 JB:Cls K t.QR
 QI:ClsObj K t.QR
 JI:NoAttr K t.QR "key"
 JU:NoAttr K t.QR "metre"
 Je:NoAttr K t.QR "voices"
 Qw:PySem.W.kitOne K (.ref t.QR) (.ref t.QL)=some false
 Qs:PySem.W.kitOne K (.ref t.QR) (.ref t.QM)=some false
 Qx:PySem.W.kitOne K (.ref t.QR) (.ref t.QP)=some false
theorem sc_zr:yat ["piece","more","grains","dot"] ["piece"] (yac (top 8)):=⟨rfl,rfl,rfl,by decide +kernel,rfl,by decide +kernel,by decide +kernel⟩
theorem ypj:yat ["pitch"] ["pitch"] (yac (top 3)):=⟨rfl,rfl,rfl,by decide +kernel,rfl,by decide +kernel,by decide +kernel⟩
theorem yox:yat ["key","step"] ["key","step"] (yac (top 5)):=⟨rfl,rfl,rfl,by decide +kernel,rfl,by decide +kernel,by decide +kernel⟩
theorem ypR:yat ["head"] ["head"] (yac (top 14)):=⟨rfl,rfl,rfl,by decide +kernel,rfl,by decide +kernel,by decide +kernel⟩
theorem sc_zM:yat ["key","rows","counting","told","number","row"] ["key","rows"] (yac (top 18)):=⟨rfl,rfl,rfl,by decide +kernel,rfl,by decide +kernel,by decide +kernel⟩
theorem ypm:yat ["rows"] ["rows"] (yac (top 19)):=⟨rfl,rfl,rfl,by decide +kernel,rfl,by decide +kernel,by decide +kernel⟩
theorem sc_zN:yat ["key","heads","counting","pitches","head","lean"] ["key","heads","counting"] (yac (top 20)):=⟨rfl,rfl,rfl,by decide +kernel,rfl,by decide +kernel,by decide +kernel⟩
theorem yoG:yat ["self","heads","piece","is_tied","is_beamed","word","opens","closes"] ["self","heads","piece","is_tied","is_beamed","word","opens","closes"] (yac (top 12000)):=⟨rfl,rfl,rfl,by decide +kernel,rfl,by decide +kernel,by decide +kernel⟩
theorem yot:yat ["self"] ["self"] (yac (top 12003)):=⟨rfl,rfl,rfl,by decide +kernel,rfl,by decide +kernel,by decide +kernel⟩
theorem ypS:yat ["self","piece"] ["self","piece"] (yac (top 13000)):=⟨rfl,rfl,rfl,by decide +kernel,rfl,by decide +kernel,by decide +kernel⟩
theorem yp7:yat ["self"] ["self"] (yac (top 13003)):=⟨rfl,rfl,rfl,by decide +kernel,rfl,by decide +kernel,by decide +kernel⟩
theorem yo8:yat ["self","length"] ["self","length"] (yac (top 14000)):=⟨rfl,rfl,rfl,by decide +kernel,rfl,by decide +kernel,by decide +kernel⟩
theorem yoF:yat ["self"] ["self"] (yac (top 14003)):=⟨rfl,rfl,rfl,by decide +kernel,rfl,by decide +kernel,by decide +kernel⟩
theorem ypF:yat ["self","length"] ["self","length"] (yac (top 23000)):=⟨rfl,rfl,rfl,by decide +kernel,rfl,by decide +kernel,by decide +kernel⟩
theorem yoH:yat ["self"] ["self"] (yac (top 24000)):=⟨rfl,rfl,rfl,by decide +kernel,rfl,by decide +kernel,by decide +kernel⟩
theorem yom:yat ["self","pitches","length","word","opens","closes"] ["self","pitches","length","word","opens","closes"] (yac (top 25000)):=⟨rfl,rfl,rfl,by decide +kernel,rfl,by decide +kernel,by decide +kernel⟩
theorem yoA:yat ["self"] ["self"] (yac (top 25001)):=⟨rfl,rfl,rfl,by decide +kernel,rfl,by decide +kernel,by decide +kernel⟩
theorem yoP:yat ["self","key","metre","voices"] ["self","key","metre","voices"] (yac (top 28000)):=⟨rfl,rfl,rfl,by decide +kernel,rfl,by decide +kernel,by decide +kernel⟩
theorem yo6:yat ["sounds"] ["sounds"] (yac (top 25)):=⟨rfl,rfl,rfl,by decide +kernel,rfl,by decide +kernel,by decide +kernel⟩
theorem yoY:yat ["sign"] ["sign"] (yac (top 28)):=⟨rfl,rfl,rfl,by decide +kernel,rfl,by decide +kernel,by decide +kernel⟩
theorem sc_zW:yat ["bars","voices","ties","bar","begun","voice","signs"] ["bars"] (yac (top 29)):=⟨rfl,rfl,rfl,by decide +kernel,rfl,by decide +kernel,by decide +kernel⟩
theorem sc_zg:yat ["bar","ties","rows","voice","signs","begun","row","pitches"] ["bar","ties"] (yac (top 30)):=⟨rfl,rfl,rfl,by decide +kernel,rfl,by decide +kernel,by decide +kernel⟩
theorem sc_zD:yat ["voice","signs","comes","rows","at","sign"] ["voice","signs","comes"] (yac (top 31)):=⟨rfl,rfl,rfl,by decide +kernel,rfl,by decide +kernel,by decide +kernel⟩
theorem yoj:yat ["sign"] ["sign"] (yac (top 32)):=⟨rfl,rfl,rfl,by decide +kernel,rfl,by decide +kernel,by decide +kernel⟩
theorem sc_zF:yat ["sounds","voice","signs","begun","at","sign","last"] ["sounds","voice","signs","begun"] (yac (top 33)):=⟨rfl,rfl,rfl,by decide +kernel,rfl,by decide +kernel,by decide +kernel⟩
theorem sc_za:yat ["sounds","kept"] ["sounds"] (yac (top 34)):=⟨rfl,rfl,rfl,by decide +kernel,rfl,by decide +kernel,by decide +kernel⟩
theorem yoD:yat ["_law_found","_law_due"] ["_law_found","_law_due"] (yac (top 36)):=⟨rfl,rfl,rfl,by decide +kernel,rfl,by decide +kernel,by decide +kernel⟩
theorem sc_zt:yat ["_law_told","_law_one"] ["_law_told"] (yac (top 37)):=⟨rfl,rfl,rfl,by decide +kernel,rfl,by decide +kernel,by decide +kernel⟩
theorem sc_zH:yat ["_law_cell","_law_k","_law_number"] ["_law_cell","_law_k"] (yac (top 38)):=⟨rfl,rfl,rfl,by decide +kernel,rfl,by decide +kernel,by decide +kernel⟩
theorem sc_zy:yat ["_law_piece","_law_whole"] ["_law_piece"] (yac (top 39)):=⟨rfl,rfl,rfl,by decide +kernel,rfl,by decide +kernel,by decide +kernel⟩
theorem sc_zA:yat ["_law_room","_law_some"] ["_law_room"] (yac (top 40)):=⟨rfl,rfl,rfl,by decide +kernel,rfl,by decide +kernel,by decide +kernel⟩
theorem sc_zG:yat ["_law_number","_law_place","_law_found","_law_k","_law_mark"] ["_law_number"] (yac (top 41)):=⟨rfl,rfl,rfl,by decide +kernel,rfl,by decide +kernel,by decide +kernel⟩
theorem sc_zK:yat ["_law_number","_law_piece","_law_held","_law_far","_law_heads_here","_law_flags","_law_word"] ["_law_number","_law_piece","_law_held","_law_far"] (yac (top 42)):=⟨rfl,rfl,rfl,by decide +kernel,rfl,by decide +kernel,by decide +kernel⟩
theorem sc_zu:yat ["_law_room","_law_found"] ["_law_room"] (yac (top 43)):=⟨rfl,rfl,rfl,by decide +kernel,rfl,by decide +kernel,by decide +kernel⟩
theorem sc_zB:yat ["_law_cells","_law_size","_law_shift","_law_bars","_law_room","_law_held","_law_far","_law_k","_law_cell","_law_number","_law_some","_law_piece","_law_told"] ["_law_cells","_law_size","_law_shift"] (yac (top 44)):=⟨rfl,rfl,rfl,by decide +kernel,rfl,by decide +kernel,by decide +kernel⟩
theorem sc_zq:yat ["_law_size","_law_count","_law_number","_law_found","_law_k"] ["_law_size","_law_count","_law_number"] (yac (top 45)):=⟨rfl,rfl,rfl,by decide +kernel,rfl,by decide +kernel,by decide +kernel⟩
theorem yos:yat ["_law_told"] ["_law_told"] (yac (top 46)):=⟨rfl,rfl,rfl,by decide +kernel,rfl,by decide +kernel,by decide +kernel⟩
theorem yop:yat ["_law_told"] ["_law_told"] (yac (top 47)):=⟨rfl,rfl,rfl,by decide +kernel,rfl,by decide +kernel,by decide +kernel⟩
theorem sc_zf:yat ["_law_key","_law_step","_law_sharps"] ["_law_key","_law_step"] (yac (top 48)):=⟨rfl,rfl,rfl,by decide +kernel,rfl,by decide +kernel,by decide +kernel⟩
theorem sc_zw:yat ["_law_voices","_law_ties","_law_found","_law_k","_law_signs","_law_at","_law_tied","_law_j","_law_told"] ["_law_voices","_law_ties"] (yac (top 49)):=⟨rfl,rfl,rfl,by decide +kernel,rfl,by decide +kernel,by decide +kernel⟩
theorem sc_zn:yat ["_law_key","_law_voices","_law_ties","_law_put","_law_found","_law_at","_law_k","_law_j","_law_mark","_law_step","_law_octave"] ["_law_key","_law_voices","_law_ties"] (yac (top 50)):=⟨rfl,rfl,rfl,by decide +kernel,rfl,by decide +kernel,by decide +kernel⟩
theorem sc_zS:yat ["_law_sounds","_law_told","_law_tied","_law_pitches_here","_law_last"] ["_law_sounds","_law_told","_law_tied","_law_pitches_here"] (yac (top 51)):=⟨rfl,rfl,rfl,by decide +kernel,rfl,by decide +kernel,by decide +kernel⟩
theorem sc_zC:yat ["_law_keys","_law_voices","_law_found","_law_ties","_law_number","_law_key","_law_here","_law_pitches_here","_law_k","_law_signs","_law_j","_law_told"] ["_law_keys","_law_voices"] (yac (top 52)):=⟨rfl,rfl,rfl,by decide +kernel,rfl,by decide +kernel,by decide +kernel⟩
theorem sc_zY:yat ["_law_script","_law_cells","_law_number","_law_size","_law_voices","_law_other","_law_least","_law_keys","_law_bars","_law_k","_law_key","_law_signs","_law_due","_law_turn","_law_handed","_law_found"] ["_law_script"] (yac (top 53)):=⟨rfl,rfl,rfl,by decide +kernel,rfl,by decide +kernel,by decide +kernel⟩
end KG
namespace KG
open PySem L2
seal PE PS PSs PT PW PA PG PGs PI ymQ
local macro_rules | `(tactic| walk_at "rd") => `(tactic| simp only [ypK, ykm, yp1, tOr, ypn, tIf, yn1, yl0, tB, tCB, ybS, ygB, ycv, tC, tOp, tUn, yej, tSl, ynm, yi6, ylo, yn5, tBM, yo0, ylQ, yl4, yku, yce, ymO, yed, ymP, ynr, yjK, rI, rI0, rU, rEq, rNe, yqC, ykp, ymL, ynS, yqD, yqB, yqf, ydl, yk5, yqy, yl2, yih, ypY, ykT, ymy, ylI, yjz, yiG, yo9, ylC, ylj, yhu, yl5, ylL, ylO, yoE, ylx, ylw, yn0, ydx, yl8, yo4, yg1, ypH, ylc, yqs, yml, ipI, yog, yk4, yke, yk3, yhQ, yfB, L2.start, List.map_cons, List.map_nil, List.length_cons, List.length_nil, List.replicate, List.cons_append, List.nil_append, List.append_nil, List.getElem?_cons_zero, List.getElem?_cons_succ, List.set_cons_zero, List.set_cons_succ, Nat.reduceAdd, Nat.reduceSub, Option.some.injEq, List.cons.injEq, and_true, true_and, exists_eq_left', exists_eq_left, exists_eq_right, exists_eq_right', V.ty.injEq, V.int.injEq, V.bl.injEq, V.str.injEq, V.ref.injEq, and_assoc, exists_and_left, reduceCtorEq, false_and, and_false, exists_false, or_false, false_or, Bool.not_eq_true', Bool.false_eq_true, if_false, if_true, Bool.not_true, Bool.not_false, decide_eq_true_eq, decide_eq_false_iff_not, Bool.or_eq_true, Bool.and_eq_true, Int.reduceLT, Int.reduceNeg])
local macro_rules | `(tactic| walk_at "st") => `(tactic| repeat (first | (with_reducible refine ybe ?_) | (with_reducible refine ymm ?_) | (with_reducible refine yqj ?_) | (with_reducible refine i_c ?_) | (with_reducible refine yoR ?_) | (with_reducible refine yqa ?_) | (with_reducible refine ynq ?_) | (with_reducible refine ydz ?_) | (with_reducible refine yoi ?_) | (with_reducible refine yoS ?_) | (with_reducible refine ybN ?_) | (with_reducible refine ymW ?_) | (with_reducible refine ymx ?_) | (with_reducible refine ymZ ?_) | (with_reducible refine yqS ?_) | (with_reducible refine yrA ?_) | (with_reducible refine yoB ?_) | (with_reducible refine yof ?_) | (with_reducible refine yls ?_) | (with_reducible refine yqY ?_) | (with_reducible refine i_U ?_) | (with_reducible refine yrF ?_) | (with_reducible refine ynO ?_) | (with_reducible refine i_notV ?_) | (with_reducible refine yqP ?_) | (with_reducible refine ymR ?_) | (with_reducible refine ycQ ?_) | (with_reducible refine i_T ?_) | (with_reducible refine i_F ?_) | (with_reducible refine yoX ?_) | (with_reducible refine yp9 ?_) | (with_reducible refine yo5 ?_) | (with_reducible refine yps ?_) | (with_reducible refine i_itt ?_) | (with_reducible refine ypE ?_) | (with_reducible refine ypG ?_) | (with_reducible refine yp3 ?_) | (with_reducible refine yoV ?_) | (with_reducible refine ynf ?_) | (with_reducible refine yqQ ?_) | (with_reducible refine ypX ?_) | (with_reducible refine yqb ?_) | (with_reducible refine yqt ?_) | (with_reducible refine yrE ?_) | (with_reducible refine ynv ?_) | (with_reducible refine ylz ?_) | (with_reducible refine yrd ?_) | (with_reducible refine ynE ?_) | (with_reducible refine ylr (.inl (by decide)) ?_) | (with_reducible refine ylr (.inr (by decide)) ?_) | (with_reducible refine ypo (by with_unfolding_all rfl) ?_) | (with_reducible refine i_I (by decide) ?_) | (with_reducible refine yjh (by decide) ?_) | (with_reducible refine ynl ?_) | (with_reducible refine yev (by with_unfolding_all rfl) ?_)))
section
variable {P:Program} {w:World} {K:PySem.W.Frag} {mg:Str→Option Value} {base:Heap} {t:Ad}
theorem small {n:Nat}(h:n≤1000):n≤sizeLine:=Nat.le_of_lt (yam h)
theorem yaJ {H H':Hp}{D:Addr}{o:HO}(hD:H D=none)(sm:Same H H'):Same H (upd H' D o):=λb u hb=>by
 rw[yai (yad hb hD)]
 exact sm _ _ hb
inductive Th where
 | im (v:V) | ls (ts:List Th) | tp (ts:List Th) | dk
def imV:V→Bool
 | .non=>true
 | .bl _=>true
 | .int _=>true
 | .str _=>true
 | _=>false
mutual
def Is (H:Hp):V→Th→Prop
 | x,.im v=>x=v∧imV v=true
 | x,.ls ts=>∃ a xs,x=.ref a∧H a=some (.lst xs)∧Iss H xs ts
 | x,.tp ts=>∃ a xs,x=.ref a∧H a=some (.tup xs)∧Iss H xs ts
 | x,.dk=>∃ a kvs,x=.ref a∧H a=some (.dK kvs)
def Iss (H:Hp):List V→List Th→Prop
 | xs,[]=>xs=[]
 | xs,t :: ts=>∃ x r,xs=x :: r∧Is H x t∧Iss H r ts
end
mutual
theorem Is.same {H H':Hp}(s:Same H H'):∀ {v:V} {t:Th},Is H v t→Is H' v t
 | v,.im w,h=>by rw[Is] at h ⊢;exact h
 | v,.ls ts,h=>by
  rw[Is] at h ⊢
  obtain⟨a,xs,e,q,r⟩:=h
  exact⟨a,xs,e,s _ _ q,Iss.same s r⟩
 | v,.tp ts,h=>by
  rw[Is] at h ⊢
  obtain⟨a,xs,e,q,r⟩:=h
  exact⟨a,xs,e,s _ _ q,Iss.same s r⟩
 | v,.dk,h=>by
  rw[Is] at h ⊢
  obtain⟨a,xs,e,q⟩:=h
  exact⟨a,xs,e,s _ _ q⟩
theorem Iss.same {H H':Hp}(s:Same H H'):∀ {xs:List V} {ts:List Th},Iss H xs ts→Iss H' xs ts
 | xs,[],h=>by rw[Iss] at h ⊢;exact h
 | xs,t :: ts,h=>by
  rw[Iss] at h ⊢
  obtain⟨x,r,e,q,z⟩:=h
  exact⟨x,r,e,Is.same s q,Iss.same s z⟩
end
theorem Iss.len {H:Hp}:∀ {xs:List V} {ts:List Th},Iss H xs ts→xs.length=ts.length
 | xs,[],h=>by rw[Iss] at h;rw[h];rfl
 | xs,t :: ts,h=>by
  rw[Iss] at h
  obtain⟨x,r,rfl,q,z⟩:=h
  rw[List.length_cons,List.length_cons,Iss.len z]
theorem Iss.app {H:Hp}:∀ {xs ys:List V} {ts us:List Th},Iss H xs ts→Iss H ys us→Iss H (xs++ys) (ts++us)
 | xs,ys,[],us,h,g=>by rw[Iss] at h;rw[h];exact g
 | xs,ys,t :: ts,us,h,g=>by
  rw[Iss] at h
  obtain⟨x,r,rfl,q,z⟩:=h
  rw[List.cons_append,List.cons_append,Iss]
  exact⟨x,_,rfl,q,Iss.app z g⟩
theorem Iss.at' {H:Hp}:∀ {xs:List V} {ts:List Th} (j:Nat) (h:Iss H xs ts) (hj:j < ts.length),∃ x,xs[j]?=some x∧Is H x ts[j]
 | xs,t :: ts,0,h,_=>by
  rw[Iss] at h
  obtain⟨x,r,rfl,q,z⟩:=h
  exact⟨x,rfl,q⟩
 | xs,t :: ts,j+1,h,hj=>by
  rw[Iss] at h
  obtain⟨x,r,rfl,q,z⟩:=h
  obtain⟨y,e,i⟩:=Iss.at' j z (by simpa using hj)
  exact⟨y,by rw[List.getElem?_cons_succ];exact e,by rw[List.getElem_cons_succ];exact i⟩
def kT:Th→Knd
 | .im .non=>.non
 | .im (.bl _)=>.bl
 | .im (.int _)=>.int
 | .im (.str _)=>.str
 | .im _=>.non
 | .ls _=>.lst
 | .tp _=>.tup
 | .dk=>.dct
theorem Is.knd {H:Hp}{x:V}{tr:Th}(h:Is H x tr):KndOf H x (kT tr):=by
 cases tr with
 | im v =>
  rw[Is] at h
  obtain⟨rfl,h⟩:=h
  cases x<;>first | exact .non | exact .bl _ | exact .int _ | exact .str _ | cases h
 | ls ts=>rw[Is] at h;obtain⟨a,xs,rfl,e,_⟩:=h;exact .lst e
 | tp ts=>rw[Is] at h;obtain⟨a,xs,rfl,e,_⟩:=h;exact .tup e
 | dk=>rw[Is] at h;obtain⟨a,xs,rfl,e⟩:=h;exact .dct e
def nT (i:Int):Th:=.im (.int i)
theorem Iss.ints {H:Hp}:∀ {ns:List Int} {xs:List V},Iss H xs (ns.map nT)→xs=ns.map V.int
 | [],xs,h=>by rw[List.map_nil,Iss] at h;rw[h];rfl
 | n :: ns,xs,h=>by
  rw[List.map_cons,Iss] at h
  obtain⟨x,r,rfl,i,z⟩:=h
  rw[nT,Is] at i
  rw[i.1,Iss.ints z]
  rfl
theorem yn8 {K:PySem.W.Frag}{H:Hp}{x:Str}:Rep K H (.str x) (.vl (.str x)):=by rw[Rep];exact⟨rfl,rfl⟩
theorem ymN {v:V}:dep (.vl v)≤60:=by simp[dep]
theorem yqi (x y:Str):eqT (.vl (.str x)) (.vl (.str y))=(x==y):=by simp[eqT,eqV]
def rm (H:Hp)(c:Addr):Hp:=λb=>if b=c then none else H b
def fr (H H':Hp):Hp:=λb=>if H b=none then H' b else none
theorem yaB {H:Hp}{b c:Addr}(h:b≠c):rm H c b=H b:=by unfold rm;rw[if_neg h]
theorem yeS {H:Hp}{c:Addr}:rm H c c=none:=by unfold rm;rw[if_pos rfl]
theorem yao {H:Hp}{b c:Addr}{u:HO}(h:rm H c b=some u):b≠c∧H b=some u:=by
 by_cases z:b=c
 ·rw[z,yeS] at h;cases h
 ·exact⟨z,by rw[yaB z] at h;exact h⟩
theorem yby {H H':Hp}{b:Addr}(h:H b=none):fr H H' b=H' b:=by unfold fr;rw[if_pos h]
theorem ya1 {H H':Hp}{b:Addr}{u:HO}(h:fr H H' b=some u):H b=none∧H' b=some u:=by
 by_cases z:H b=none
 ·exact⟨z,by rw[yby z] at h;exact h⟩
 ·unfold fr at h;rw[if_neg z] at h;cases h
theorem yaK (H:Hp)(c:Addr):Same (rm H c) H:=λb u h=>(yao h).2
theorem ydT (H H':Hp):Same (fr H H') H':=λb u h=>(ya1 h).2
theorem yb3 {H H1 H2:Hp}(s:Same H1 H2):Same (fr H H1) (fr H H2):=λb u h=>by
 obtain⟨n,e⟩:=ya1 h
 rw[yby n]
 exact s _ _ e
theorem yjS {H H1 H2:Hp}(s:Same H H1):Same (fr H1 H2) (fr H H2):=λb u h=>by
 obtain⟨n,e⟩:=ya1 h
 rw[yby (s.free n)]
 exact e
theorem yoc {H H1 H2:Hp}{c:Addr}{u:HO}(s:Same H H1)(hc:H1 c=some u):Same (fr H1 H2) (rm (fr H H2) c):=λb v h=>by
 obtain⟨n,e⟩:=ya1 h
 rw[yaB (λz=>by rw[z,hc] at n;cases n),yby (s.free n)]
 exact e
theorem ynn {H1 H2:Hp}{c:Addr}{u:HO}(hc:H1 c=some u):Same (fr H1 H2) (rm H2 c):=λb v h=>by
 obtain⟨n,e⟩:=ya1 h
 rw[yaB (λz=>by rw[z,hc] at n;cases n)]
 exact e
theorem ya8 {H H':Hp}{c:Addr}(s:∀ b u,b≠c→H b=some u→H' b=some u):Same (rm H c) (rm H' c):=λb u h=>by
 obtain⟨n,e⟩:=yao h
 rw[yaB n]
 exact s b u n e
theorem ye8 (H:Hp):∀ ns:List Int,Iss H (ns.map V.int) (ns.map nT)
 | []=>by rw[List.map_nil,List.map_nil,Iss]
 | n :: ns=>by
  rw[List.map_cons,List.map_cons,Iss]
  exact⟨_,_,rfl,by rw[nT,Is];exact⟨rfl,rfl⟩,ye8 H ns⟩
theorem ybA {H:Hp}{v:V}(h:imV v=true):Is H v (.im v):=by rw[Is];exact⟨rfl,h⟩
theorem ymD (H:Hp)(i:Int):Is H (.int i) (nT i):=ybA rfl
theorem yay (H:Hp):Iss H [] []:=by rw[Iss]
theorem yal {H:Hp}{x:V}{xs:List V}{tr:Th}{ts:List Th}(a:Is H x tr)(b:Iss H xs ts):Iss H (x :: xs) (tr :: ts):=by rw[Iss];exact⟨x,xs,rfl,a,b⟩
theorem ybB {H:Hp}{a:Addr}{xs:List V}{ts:List Th}(e:H a=some (.lst xs))(h:Iss H xs ts):Is H (.ref a) (.ls ts):=by rw[Is];exact⟨a,xs,rfl,e,h⟩
theorem ydB {H:Hp}{a:Addr}{xs:List V}{ts:List Th}(e:H a=some (.tup xs))(h:Iss H xs ts):Is H (.ref a) (.tp ts):=by rw[Is];exact⟨a,xs,rfl,e,h⟩
theorem yeB {H H4:Hp}{D:Addr}{o:HO}:Same (rm (fr H H4) D) (rm (fr H (upd H4 D o)) D):=λb u h=>by
 obtain⟨n,e⟩:=yao h
 obtain⟨n2,e2⟩:=ya1 e
 rw[yaB n,yby n2,yai n]
 exact e2
theorem ykh {H H' H4:Hp}{D:Addr}{xs:List V}{ts:List Th}{x:V}{tr:Th}{o u:HO}(s:Same H H')(hd:H' D=some u)(s4:Same H' H4)(is:Iss (rm (fr H H') D) xs ts)(i:Is (fr H' H4) x tr) :
  Iss (rm (fr H (upd H4 D o)) D) (xs++[x]) (ts++[tr]) :=
 Iss.app ((is.same (ya8 λb v _ e=>yb3 s4 b v e)).same yeB) (yal ((i.same (yoc s hd)).same yeB) (yay _))
def yaV (k i:Nat):Stmt:=(ybH (top k)).getD i (.Pass ⟨0,0,0,0⟩)
def Tr (X:Cx)(st:Stmt)(Pre Post:St→Hp→Prop):Prop:=∃ t,PS X st t∧∀ D σ H,Pre σ H→(∀ σ' H',Post σ' H'→D.nx σ' H')→t D σ H
section
variable {C:St→Hp→Prop}
end
theorem SameT.trans {c:Addr}{H H1 H2:Hp}(a:SameT c H H1)(b:SameT c H1 H2):SameT c H H2:=λd u n e=>b d u n (a d u n e)
theorem ycM {c:Addr}{H H1:Hp}{o:HO}(a:SameT c H H1):SameT c H (upd H1 c o):=λd u n e=>by rw[yai n];exact a d u n e
theorem ygh {c f:Addr}{H H1:Hp}{o:HO}(a:SameT c H H1)(hf:H f=none):SameT c H (upd H1 f o):=λd u n e=>by rw[yai (yad e hf)];exact a d u n e
theorem ykM {c:Addr}{H H':Hp}(s:SameT c H H'):Same (rm H c) (rm H' c):=ya8 s
theorem ycF {H:Hp}{r:Addr}{o:HO}:Same (rm H r) (rm (upd H r o) r):=λb u h=>by
 obtain⟨n,e⟩:=yao h
 rw[yaB n,yai n]
 exact e
theorem ylX {n:Nat}{a:Int}(h:Builtin.Int.intBits a≤n)(hn:n+n≤2097200):IntMulOk a a:=by
 unfold IntMulOk
 have z:Builtin.Int.intTooBig (Builtin.Int.intBits a+Builtin.Int.intBits a)=false:=by
  unfold Builtin.Int.intTooBig bitsLine
  exact decide_eq_false (by omega)
 rw[z]
 simp
def TrG {γ:Type}(X:Cx)(st:Stmt)(Pre Post:γ→St→Hp→Prop):Prop:=∃ te,PS X st te∧∀ g D σ H,Pre g σ H→(∀ σ' H',Post g σ' H'→D.nx σ' H')→te D σ H
def yb9:Stmt→List Stmt
 | .For _ _ b _ _=>b
 | _=>[]
def ygQ:Sp:=λ_ _ _ _=>False
theorem never {k:Nat}{f:Addr}{fd:FuncData}{qs:List Str}:FnOk P w K mg base CX0 k f fd qs ygQ:=⟨λ_ _ _ _ h=>h.elim,λ_ _ _ _ _ _ _ _ _ _ _ _ _ h=>h.elim⟩
theorem h1 {n:Nat}(h:n+64 < cLine):n+1 < cLine:=Nat.lt_of_le_of_lt (by omega) h
structure Pit where
 st:Int
 ln:Int
 oc:Int
structure Row where
 at':Int
 vo:Int
 ps:List Pit
 td:Bool
def pT (p:Pit):Th:=.tp [nT p.st,nT p.ln,nT p.oc]
def rT (r:Row):Th:=.tp [nT r.at',nT r.vo,.ls (r.ps.map pT),.im (.bl r.td)]
def yc4 (p:Pit):Int:=7*p.oc+p.st
def fifs:List Int:=[0,2,4,-1,1,3,5]
def ynY (st:Int):Int:=fifs.getD st.toNat 0
def klV (key st:Int):Int:=(key+5 - ynY st) / 7
def yi4:List Str:=["--","-","=","+","++"]
def Cn:=Int→Option Int
def ynM (c:Cn)(l v:Int):Cn:=λj=>if j=l then some v else c j
def ymC (p:Pit):Prop:=0≤p.st∧p.st < 7∧-2≤p.ln∧p.ln≤2∧0≤p.oc∧p.oc≤100
def Cnt (kvs:List (Key×V))(c:Cn):Prop:=∀ l:Int,yb8 kvs (.inl l)=(c l).map V.int
theorem Cnt.put {kvs:List (Key×V)}{c:Cn}(h:Cnt kvs c)(l v:Int):Cnt (ydq kvs (.inl l) (.int v)) (ynM c l v):=λj=>by
 rw[ycG]
 unfold ynM
 by_cases e:j=l
 ·rw[if_pos (by rw[e]),if_pos e];rfl
 ·rw[if_neg (λz=>e (Sum.inl.inj z)),if_neg e];exact h j
theorem ynA {st:Int}(h0:0≤st)(h7:st < 7):atI [V.int 0,V.int 2,V.int 4,V.int (-1),V.int 1,V.int 3,V.int 5] st=some (.int (ynY st)):=by
 obtain⟨n,rfl⟩:=Int.eq_ofNat_of_zero_le h0
 have:n=0∨n=1∨n=2∨n=3∨n=4∨n=5∨n=6:=by omega
 rcases this with rfl | rfl | rfl | rfl | rfl | rfl | rfl<;>rfl
theorem Is.pit {H:Hp}{x:V}{p:Pit}(h:Is H x (pT p)):∃ a,x=.ref a∧H a=some (.tup [.int p.st,.int p.ln,.int p.oc]):=by
 unfold pT at h
 rw[Is] at h
 obtain⟨a,xs,rfl,e,is⟩:=h
 exact⟨a,rfl,by rw[e,Iss.ints (ns:=[p.st,p.ln,p.oc]) is];rfl⟩
theorem yeC {H:Hp}{a:Addr}{p:Pit}(h:H a=some (.tup [.int p.st,.int p.ln,.int p.oc])):Is H (.ref a) (pT p):=ydB h (ye8 H [p.st,p.ln,p.oc])
def yhh:Sp:=λvs H Q _=>∃ (a:Addr) (p:Pit),vs=[.ref a]∧H a=some (.tup [.int p.st,.int p.ln,.int p.oc])∧0≤p.st∧p.st < 7∧∀ H',Same H H'→Q (.int (ynY p.st+7*p.ln)) H'
theorem ypB (T:Txt K mg t):FnOk P w K mg base CX0 1 t.f_zU t.d_zU ["pitch"] yhh:=by
 refine T.zU.F.ok ypj (λvs H Q E h=>?_) (λcdv A outer s H vs Q E hr h=>?_)
 ·obtain⟨a,p,rfl,_⟩:=h;rfl
 obtain⟨a,p,rfl,ha,s0,s7,q⟩:=h
 have hu:=ya2 hr
 refine⟨_,(yaj (yaG (yau ybt (yav yaA (ym4 rfl T.JE) (yav yaA (pv 0) yag (λ_ _=>rfl)) (λ_ _=>rfl)) (yau ybW yag (yav yaA (pv 0) yag (λ_ _=>rfl)))))),?_⟩
 walk_at "rd"
 exact⟨_,SqT.of ha,_,yak (j:=0) rfl,_,_,rfl,T.JF.sq H,_,ynA s0 s7,_,SqT.of ha,_,yak (j:=1) rfl,_,rfl,CMul.ok (.inl ⟨by decide,by decide⟩),_,rfl,q _ (Same.refl H)⟩
def yf0:Sp:=λvs H Q _=>∃ key st,vs=[.int key,.int st]∧0≤st∧st < 7∧∀ H',Same H H'→Q (.int (klV key st)) H'
theorem ypk (T:Txt K mg t)(G_zU:FnOk P w K mg base CX0 1 t.f_zU t.d_zU ["pitch"] yhh):FnOk P w K mg base CX0 2 t.f_zQ t.d_zQ ["key","step"] yf0:=by
 refine T.zQ.F.ok yox (λvs H Q E h=>?_) (λcdv A outer s H vs Q E hr h=>?_)
 ·obtain⟨key,st,rfl,_⟩:=h;rfl
 obtain⟨key,st,rfl,s0,s7,q⟩:=h
 have hu:=ya2 hr
 refine⟨_,(yaj (yaG (yau yaP (yau ycR (yau ybt (pv 0) yag) (yaq G_zU (hr.mono (by first | decide | omega)) rfl T.zU.M T.zU.F.kp T.zU.B .nil yaD (yaa (yaE (yaa (pv 1) (yaa yag (yaa yag yaf)))) yaf))) yag))),?_⟩
 walk_at "rd"
 refine⟨by decide,λp hp=>⟨p,⟨st,0,0⟩,rfl,yab,s0,s7,λH2 s2=>⟨_,rfl,⟨by decide,by decide⟩,?_⟩⟩⟩
 have:=q H2 ((yae hp _).trans s2)
 unfold klV at this
 simpa using this
def yid:Expr:=match (yaV 19 0) with
 | .Return (some (.Call _ _ (⟨_,e,_⟩ :: _) _)) _=>e
 | _=>.Name "" ⟨0,0,0,0⟩
def yp4:Expr→Arguments
 | .Lambda a _ _ _=>a
 | _=>⟨[],[],none,[],[],none,[]⟩
def yn7:Expr→Expr
 | .Lambda _ b _ _=>b
 | e=>e
def yoe:Expr→Scope
 | .Lambda _ _ s _=>s
 | _=>yac (top 53)
def ypw:Expr→Pos
 | .Lambda _ _ _ p=>p
 | _=>⟨0,0,0,0⟩
def ypQ:Str := "in_time.<locals>.<lambda>"
structure Tab (K:PySem.W.Frag) (mg:Str→Option Value) (base:Heap) (cc Tb:Addr):Prop where
 ki:K.In base
 gn:base.Ns mainGlobals mg
 ht:PySem.W.tabIn K "in_time"=some (cc,Tb)
 C:PySem.W.CodeHd base cc Tb
 B:base.BuiltinsAt mg Tb
 g:mainGlobals≠Tb
abbrev TK (H:Hp)(Tb:Addr):Prop:=TabK H Tb (ypw yid) ypQ
theorem _root_.L2.CodeK.same {H H':Hp}{c:Addr}{q:Str}(x:CodeK H c q)(e:Same H H'):CodeK H' c q:=by
 obtain⟨o,vs,t,h,r⟩:=x
 exact⟨o,vs,t,e _ _ h,r⟩
theorem _root_.L2.TabK.same {H H':Hp}{T:Addr}{p:Pos}{q:Str}(x:TabK H T p q)(e:Same H H'):TabK H' T p q:=by
 obtain⟨ps,h,ht,z⟩:=x
 refine⟨ps,e _ _ h,ht,?_⟩
 rcases z with z | ⟨c',n,z1,z2⟩
 ·exact .inl z
 ·exact .inr ⟨c',n,z1,z2.same e⟩
def ym5 (K:PySem.W.Frag)(lv xv:V)(H:Hp)(Q:VK):Prop:=∃ (l:Addr) (i:Nat) (xs:List V) (r:Addr) (a v:Int) (y z:V),lv=.ref l∧xv=.int (i:Int)∧H l=some (.lst xs)∧xs[i]?=some (.ref r)∧H r=some (.tup [.int a,.int v,y,z])∧∀ p,H p=none→Q (.ref p) (upd H p (.tup [.int a,.int v]))
theorem ymo {X:Cx}{c:Addr}(hP:X.prog=P)(hw:X.w=w)(hK:X.K=K)(hmg:X.mg=mg)(hb:X.base=base)(T:Txt K mg t)(hr:Room 3 X.A)(hN:X.N[0]?=some (Str.ofString "rows"))(hcl:X.env.cells.lookup (Str.ofString "rows")=some c)(hky:X.env.scope.names.lookup (Str.ofString "rows")=some .cell) :
  yqc X (fun σ q x H Q=>∃ lv,σ[0]?=some (some lv)∧yn2 H q ypQ (yp4 yid) (yn7 yid) (yoe yid) [("rows",c)]∧ym5 K lv x H Q):=by
 subst hP hw hK hmg hb
 refine ykP (k:=0) (x := "number") (y := "rows") (spL:=ym5 X.K) hr hN hcl hky rfl (by decide) rfl rfl rfl (λpm c' ctv u=>rfl) λcd A outer s H fa lv xv Q h hr'=>?_
 obtain⟨l,i,xs,r,a,v,y,z,rfl,rfl,hl,hx,hr0,q⟩:=h
 refine⟨_,show PE _ (yn7 yid) _ from (ybJ ydO (yav yaz (pv 1) (pv 0) (λ_ _=>rfl)) yb2 (yb4 yag)),?_⟩
 exact⟨_,rfl,_,rfl,l,xs,_,_,rfl,rfl,SqL.of hl,yak hx,2,rfl,r,_,rfl,SqT.of hr0,λz=>absurd (show HT.sIx 4 4 (some 2)=4 from z.2) (by decide),λp hp=>q p hp⟩
mutual
theorem Is.offT {H:Hp}{c:Addr}{ps:Array Value}(hc:H c=some (.tbl ps)):∀ {v:V} {t:Th},Is H v t→Is (rm H c) v t
 | v,.im w,h=>by rw[Is] at h ⊢;exact h
 | v,.ls ts,h=>by
  rw[Is] at h ⊢
  obtain⟨a,xs,e,q,r⟩:=h
  exact⟨a,xs,e,by rw[yaB (λz=>by rw[z,hc] at q;cases q)];exact q,Iss.offT hc r⟩
 | v,.tp ts,h=>by
  rw[Is] at h ⊢
  obtain⟨a,xs,e,q,r⟩:=h
  exact⟨a,xs,e,by rw[yaB (λz=>by rw[z,hc] at q;cases q)];exact q,Iss.offT hc r⟩
 | v,.dk,h=>by
  rw[Is] at h ⊢
  obtain⟨a,xs,e,q⟩:=h
  exact⟨a,xs,e,by rw[yaB (λz=>by rw[z,hc] at q;cases q)];exact q⟩
theorem Iss.offT {H:Hp}{c:Addr}{ps:Array Value}(hc:H c=some (.tbl ps)):∀ {xs:List V} {ts:List Th},Iss H xs ts→Iss (rm H c) xs ts
 | xs,[],h=>by rw[Iss] at h ⊢;exact h
 | xs,t :: ts,h=>by
  rw[Iss] at h ⊢
  obtain⟨x,r,e,q,z⟩:=h
  exact⟨x,r,e,Is.offT hc q,Iss.offT hc z⟩
end
theorem ykU {c:Addr}{H H':Hp}(s:SameT c H H'):Same (rm H c) H':=(ykM s).trans (yaK _ _)
def yin (r:Row):List Int:=[r.at',r.vo]
def yjc (rows:List Row)(p:Array Nat):Prop:=ycs (λi j=>HT.lexLt (((rows.map yin)[i]?).getD []) (((rows.map yin)[j]?).getD [])) rows.length p
def Apart (rows:List Row):Prop:=(rows.map yin).Nodup
theorem Apart.inj {rows:List Row}(h:Apart rows):∀ i j,i < rows.length→j < rows.length→((rows.map yin)[i]?).getD []=((rows.map yin)[j]?).getD []→i=j:=λi j hi hj e=>by
 have l1:i < (rows.map yin).length:=by rw[List.length_map];exact hi
 have l2:j < (rows.map yin).length:=by rw[List.length_map];exact hj
 rw[List.getElem?_eq_getElem l1,List.getElem?_eq_getElem l2] at e
 exact(List.getElem_inj (h₀:=l1) (h₁:=l2) h).mp e
theorem Is.row {H:Hp}{x:V}{r:Row}(h:Is H x (rT r)):∃ a l xs,x=.ref a∧H a=some (.tup [.int r.at',.int r.vo,.ref l,.bl r.td])∧H l=some (.lst xs)∧Iss H xs (r.ps.map pT):=by
 unfold rT at h
 rw[Is] at h
 obtain⟨a,ys,rfl,e,is⟩:=h
 rw[Iss] at is
 obtain⟨y0,r0,rfl,i0,is⟩:=is
 rw[Iss] at is
 obtain⟨y1,r1,rfl,i1,is⟩:=is
 rw[Iss] at is
 obtain⟨y2,r2,rfl,i2,is⟩:=is
 rw[Iss] at is
 obtain⟨y3,r3,rfl,i3,is⟩:=is
 rw[Iss] at is
 subst is
 rw[nT,Is] at i0
 rw[nT,Is] at i1
 rw[Is] at i2
 rw[Is] at i3
 obtain⟨l,xs,rfl,e2,j2⟩:=i2
 obtain⟨rfl,_⟩:=i0
 obtain⟨rfl,_⟩:=i1
 obtain⟨rfl,_⟩:=i3
 exact⟨a,l,xs,rfl,e,e2,j2⟩
def KeyRows (H:Hp)(xs:List V)(rows:List Row):Prop:=xs.length=rows.length∧∀ i (h:i < rows.length),∃ r y z,xs[i]?=some (.ref r)∧H r=some (.tup [.int rows[i].at',.int rows[i].vo,y,z])
theorem KeyRows.keepT {H H':Hp}{xs:List V}{rows:List Row}{Tb:Addr}{ps:Array Value}(h:KeyRows H xs rows)(eT:H Tb=some (.tbl ps))(s:SameT Tb H H'):KeyRows H' xs rows :=
 ⟨h.1,λi hi=>let ⟨r,y,z,e,q⟩:=h.2 i hi;⟨r,y,z,e,s _ _ (λw=>by rw[w,eT] at q;cases q) q⟩⟩
def yho (Tb:Addr):Sp:=λvs H Q _=>∃ (l:Addr) (xs:List V) (rows:List Row),vs=[.ref l]∧H l=some (.lst xs)∧KeyRows H xs rows∧rows.length < 64∧Apart rows∧TK H Tb ∧
 ∀ d H' p,SameT Tb H H'→TK H' Tb→H d=none→H' d=some (.lst (p.toList.map nV))→yjc rows p→Q (.ref d) H'
theorem yoJ {cc Tb:Addr}(T:Txt K mg t)(TB:Tab K mg base cc Tb):FnOk P w K mg base CX0 4 t.f_zT t.d_zT ["rows"] (yho Tb):=by
 obtain⟨oc,od,kV,doc,pm,an,cdv,ct,osl,e,lk,hcd⟩:=T.zT.F.ex
 rw[e] at lk ⊢
 have hcc:cdv=.ref cc:=PySem.W.law_code TB.ki TB.gn TB.ht T.zT.M (TB.ki _ _ lk) rfl
 refine ynT lk hcd ypm (λvs H Q E h=>?_) λA outer s s1 H vs Q E hr h I=>?_
 ·obtain⟨l,xs,rows,rfl,_⟩:=h;rfl
 obtain⟨l,xs,rows,rfl,hl,is,few,ap,tk,q⟩:=h
 have hu:=ya2 hr
 have KL:=ymo (X:=ybz CX0 P w K mg base ["rows"] "in_time" (yac (top 19)) t.f_zT cdv A outer s H E) (c:=s.heap.objs.size+1) rfl rfl rfl rfl rfl T hr rfl rfl rfl
 have PL:PE (ybz CX0 P w K mg base ["rows"] "in_time" (yac (top 19)) t.f_zT cdv A outer s H E) (.Lambda (yp4 yid) (yn7 yid) (yoe yid) (ypw yid)) (ynz Tb (ypw yid) ypQ (yp4 yid) (yn7 yid) (yoe yid) [("rows",s.heap.objs.size+1)]) :=
  ylS (X:=ybz CX0 P w K mg base ["rows"] "in_time" (yac (top 19)) t.f_zT cdv A outer s H E) (cc:=cc) hcc TB.C TB.B TB.g rfl rfl
 have PT:PSs (ybz CX0 P w K mg base ["rows"] "in_time" (yac (top 19)) t.f_zT cdv A outer s H E) (ybH (top 19)) _:=(yaj (yaG (ykN KL rfl rfl T.JQ yd8 rfl T.Jj boot_range (yax yaU rfl T.Jr PySem.boot_len (yaa (pv 0) yaf)) PL)))
 refine wpAny_mono (PSs.run (D:={ nx:=λ_ _=>False,rt:=Q }) PT I ?_) (λfl s' hs=>?_) λ_ _ z=>z
 ·obtain⟨pt,eT,_⟩:=id tk
  have en:xs.length=rows.length:=is.1
  refine⟨_,rfl,l,xs,rfl,.inl (SqL.of hl),rows.length,by rw[en],few,tk,λfa H2 st tk2 lk nfa=>?_⟩
  have nl:l≠Tb:=λz=>by rw[z,eT] at hl;cases hl
  have hl2:=st _ _ nl hl
  have is2:=is.keepT eT st
  refine⟨fa,2,λi=>((rows.map yin)[i]?).getD [],λi kv H'=>Same H2 H'∧kv.length=i∧∀ j,j < i→∃ a,kv[j]?=some (.ref a)∧H' a=some (.tup ((((rows.map yin)[j]?).getD []).map V.int)),rfl,⟨Same.refl _,rfl,λj hj=>nomatch hj⟩,λi kv H' hi hk=>?_,λkv H' hk=>?_,ap.inj,λkv H' a p hk hn cp=>?_⟩
  ·obtain⟨sm,lk',hk⟩:=hk
   obtain⟨r,y2,z2,hx,er⟩:=is2.2 i hi
   obtain⟨pm2,c2,ctv2,eF,ck⟩:=lk
   have eN:((rows.map yin)[i]?).getD []=[rows[i].at',rows[i].vo]:=by rw[List.getElem?_map,List.getElem?_eq_getElem hi];rfl
   refine⟨_,rfl,⟨pm2,c2,ctv2,sm _ _ eF,ck.same sm⟩,l,i,xs,r,rows[i].at',rows[i].vo,y2,z2,rfl,rfl,sm _ _ hl2,hx,sm _ _ er,λp hp=>⟨sm.trans (yae hp _),by rw[List.length_append,lk'];rfl,λj hj=>?_⟩⟩
   by_cases e:j=i
   ·subst e
    exact⟨p,by rw[List.getElem?_append_right (by omega),lk'];simp,by rw[yab,eN];rfl⟩
   ·obtain⟨a,ea,eh⟩:=hk j (by omega)
    exact⟨a,by rw[List.getElem?_append_left (by omega)];exact ea,yae hp _ _ _ eh⟩
  ·obtain⟨sm,lk',hk⟩:=hk
   refine⟨lk',by decide,λi hi=>?_⟩
   obtain⟨a,ea,eh⟩:=hk i hi
   exact⟨a,ea,SqT.of eh,by show(((rows.map yin)[i]?).getD []).length=2;rw[List.getElem?_map,List.getElem?_eq_getElem hi];rfl⟩
  ·obtain⟨sm,_,_⟩:=hk
   have s3:SameT Tb H (upd H' a (.lst (p.toList.map nV))):=SameT.trans st (Same.t (sm.trans (yae hn _)))
   refine q a _ p s3 (tk2.same (sm.trans (yae hn _))) ?_ yab cp
   cases e2:H a with
   | none=>rfl
   | some u =>
    have na:a≠Tb:=λz=>by
     obtain⟨p2,z2,_⟩:=id tk2
     rw[z,sm _ _ z2] at hn
     cases hn
    rw[sm _ _ (st _ _ na e2)] at hn
    cases hn
 ·cases fl with
  | ret u =>
   obtain⟨v,σ',H',J,rv,q'⟩:=hs
   exact⟨u,rfl,v,H',J.os,J.bare,J.base,J.hok,rv,q'⟩
  | next=>obtain⟨_,_,_,z⟩:=hs;exact z.elim
  | brk=>obtain⟨_,_,_,z⟩:=hs;exact z.elim
  | cont=>obtain⟨_,_,_,z⟩:=hs;exact z.elim
def r0:Row:=⟨0,0,[],false⟩
def c0:Cn:=λ_=>none
def sT (x:Str):Th:=.im (.str x)
def Told (H:Hp):List (Key×V)→List (Nat×List Str)→Prop
 | [],[]=>True
 | (k,v) :: kvs,(i,ms) :: gs=>k=.inl (i:Int)∧(∃ a,v=.ref a∧H a=some (.lst (ms.map V.str)))∧Told H kvs gs
 | _,_=>False
theorem Told.len {H:Hp}:∀ {kvs:List (Key×V)} {gs:List (Nat×List Str)},Told H kvs gs→kvs.length=gs.length
 | [],[],_=>rfl
 | (k,v) :: kvs,(i,ms) :: gs,h=>by rw[List.length_cons,List.length_cons,Told.len h.2.2]
 | [],_ :: _,h=>h.elim
 | _ :: _,[],h=>h.elim
theorem Told.none {H:Hp}{i:Nat}:∀ {kvs:List (Key×V)} {gs:List (Nat×List Str)},Told H kvs gs→i∉gs.map (·.1)→yb8 kvs (.inl (i:Int))=none
 | [],[],_,_=>rfl
 | (k,v) :: kvs,(j,ns) :: gs,h,n=>by
  obtain⟨rfl,_,h⟩:=h
  rw[List.map_cons,List.mem_cons,not_or] at n
  rw[ya7 (λz=>n.1 (by have:=Sum.inl.inj z;omega))]
  exact Told.none h n.2
 | [],_ :: _,h,_=>h.elim
 | _ :: _,[],h,_=>h.elim
theorem Told.some {H:Hp}{i:Nat}:∀ {kvs:List (Key×V)} {gs:List (Nat×List Str)},Told H kvs gs→i∈gs.map (·.1)→∃ a,yb8 kvs (.inl (i:Int))=some (.ref a)∧H a=some (.lst (((gs.lookup i).getD []).map V.str))
 | [],[],_,n=>nomatch n
 | (k,v) :: kvs,(j,ns) :: gs,h,n=>by
  obtain⟨rfl,⟨a,rfl,ha⟩,h⟩:=h
  by_cases e:i=j
  ·subst e
   exact⟨a,ybi rfl,by rw[List.lookup_cons_self];exact ha⟩
  ·rw[List.map_cons,List.mem_cons] at n
   obtain⟨b,eb,hb⟩:=Told.some h (n.resolve_left e)
   rw[ya7 (λz=>e (by have:=Sum.inl.inj z;omega)),List.lookup_cons,beq_eq_false_iff_ne.mpr e]
   exact⟨b,eb,hb⟩
 | [],_ :: _,h,_=>h.elim
 | _ :: _,[],h,_=>h.elim
theorem _root_.L2.TabK.but {H H':Hp}{T c:Addr}{p:Pos}{q:Str}{kv:List (Key×V)}(x:TabK H T p q)(hc:H c=some (.dK kv))(e:SameT c H H'):TabK H' T p q:=by
 obtain⟨ps,h,ht,z⟩:=x
 refine⟨ps,e _ _ (λz=>by rw[z,hc] at h;cases h) h,ht,?_⟩
 rcases z with z | ⟨c',n,z1,o,vs,t,h2,r⟩
 ·exact .inl z
 ·exact .inr ⟨c',n,z1,o,vs,t,e _ _ (λz=>by rw[z,hc] at h2;cases h2) h2,r⟩
def ynI (r:Row):Prop:=(∀ p∈r.ps,ymC p)∧r.ps.length≤10
def unm (m:Str):Int:=if m="--" then -2 else if m="-" then -1 else if m="=" then 0 else if m="+" then 1 else 2
def hrC (c:Cn)(p:Pit)(m:Str):Cn:=if m="" then c else ynM c (yc4 p) (unm m)
def hrP (key:Int)(c:Cn)(p:Pit)(m:Str):Pit:=⟨p.st,(hrC c p m (yc4 p)).getD (klV key p.st),p.oc⟩
def ycP (key:Int):Cn→List Pit→List Str→List Pit
 | c,p :: ps,m :: ms=>hrP key c p m :: ycP key (hrC c p m) ps ms
 | _,_,_=>[]
def ybk:Cn→List Pit→List Str→Cn
 | c,p :: ps,m :: ms=>ybk (hrC c p m) ps ms
 | c,_,_=>c
def yh0 (c:Cn)(r:Row)(ms:List Str):Cn:=if r.td then c else ybk c r.ps ms
def ygX (rows:List Row)(mk:Nat→List Str):Cn→List Nat→Cn
 | c,[]=>c
 | c,i :: is=>ygX rows mk (yh0 c (rows.getD i r0) (mk i)) is
theorem yea (rows:List Row)(mk:Nat→List Str)(i:Nat):∀ (is:List Nat) (c:Cn),ygX rows mk c (is++[i])=yh0 (ygX rows mk c is) (rows.getD i r0) (mk i)
 | [],c=>rfl
 | j :: is,c=>by rw[List.cons_append,ygX,yea rows mk i is,ygX]
def CntT (kvs:List (List Key×V))(c:Cn):Prop:=∀ st oc:Int,0≤st→st < 7→yb8 kvs [.inl st,.inl oc]=(c (7*oc+st)).map V.int
theorem CntT.put {kvs:List (List Key×V)}{c:Cn}(h:CntT kvs c){st oc:Int}(s0:0≤st)(s7:st < 7)(v:Int):CntT (ydq kvs [.inl st,.inl oc] (.int v)) (ynM c (7*oc+st) v):=λa b a0 a7=>by
 rw[ycG]
 unfold ynM
 by_cases e:7*b+a=7*oc+st
 ·have e1:a=st:=by omega
  have e2:b=oc:=by omega
  rw[if_pos e,if_pos (by rw[e1,e2])]
  rfl
 ·rw[if_neg e,if_neg (λz=>e (by
   injection z with z1 z2
   injection z2 with z2 _
   rw[Sum.inl.inj z1,Sum.inl.inj z2]))]
  exact h a b a0 a7
theorem ycK (key:Int)(p:Pit)(m:Str):∀ (ps:List Pit) (ms:List Str) (c:Cn),ps.length=ms.length→ycP key c (ps++[p]) (ms++[m])=ycP key c ps ms++[hrP key (ybk c ps ms) p m]
 | [],[],c,_=>rfl
 | q :: ps,n :: ms,c,h=>by rw[List.cons_append,List.cons_append,ycP,ycK key p m ps ms _ (by simpa using h),ycP,ybk,List.cons_append]
 | [],_ :: _,_,h=>nomatch h
 | _ :: _,[],_,h=>nomatch h
theorem ycJ (p:Pit)(m:Str):∀ (ps:List Pit) (ms:List Str) (c:Cn),ps.length=ms.length→ybk c (ps++[p]) (ms++[m])=hrC (ybk c ps ms) p m
 | [],[],c,_=>rfl
 | q :: ps,n :: ms,c,h=>by rw[List.cons_append,List.cons_append,ybk,ycJ p m ps ms _ (by simpa using h),ybk]
 | [],_ :: _,_,h=>nomatch h
 | _ :: _,[],_,h=>nomatch h
theorem ycC (key:Int):∀ (ps:List Pit) (ms:List Str) (c:Cn),(ycP key c ps ms).length≤ps.length
 | [],ms,c=>by cases ms<;>exact Nat.le_refl _
 | p :: ps,[],c=>Nat.zero_le _
 | p :: ps,m :: ms,c=>by rw[ycP,List.length_cons,List.length_cons];exact Nat.succ_le_succ (ycC key ps ms _)
def OkM (m:Str):Prop:=m="" ∨ m∈yi4
theorem yjT {m:Str}(h:m∈yi4):m≠"" ∧ ∃ j:Nat,j < 5∧(∀ z,[V.str "--",V.str "-",V.str "=",V.str "+",V.str "++"][j]?=some z→eqV z (.str m)=true)∧(∀ i z,i < j→[V.str "--",V.str "-",V.str "=",V.str "+",V.str "++"][i]?=some z→eqV z (.str m)=false)∧(j:Int) - 2=unm m:=by
 simp only[yi4,List.mem_cons,List.not_mem_nil,or_false] at h
 have low:∀ {n i:Nat},i < n→n≤4→i=0∨i=1∨i=2∨i=3:=λh1 h2=>by omega
 rcases h with rfl | rfl | rfl | rfl | rfl
 ·exact⟨by decide,0,by decide,λz e=>by cases e;decide,λi z hi=>by omega,by decide⟩
 ·refine⟨by decide,1,by decide,λz e=>by cases e;decide,λi z hi e=>?_,by decide⟩
  rcases low hi (by decide) with rfl | rfl | rfl | rfl<;>first | omega | (cases e;decide)
 ·refine⟨by decide,2,by decide,λz e=>by cases e;decide,λi z hi e=>?_,by decide⟩
  rcases low hi (by decide) with rfl | rfl | rfl | rfl<;>first | omega | (cases e;decide)
 ·refine⟨by decide,3,by decide,λz e=>by cases e;decide,λi z hi e=>?_,by decide⟩
  rcases low hi (by decide) with rfl | rfl | rfl | rfl<;>first | omega | (cases e;decide)
 ·refine⟨by decide,4,by decide,λz e=>by cases e;decide,λi z hi e=>?_,by decide⟩
  rcases low hi (by decide) with rfl | rfl | rfl | rfl<;>first | omega | (cases e;decide)
def mkF (mk:List (List Str))(i:Nat):List Str:=mk.getD i []
theorem yfM {α:Type}{n j:Nat}(v:α)(h:j≠n):∀ L:List (Nat×α),(L++[(n,v)]).lookup j=L.lookup j
 | []=>by rw[List.nil_append,List.lookup_cons,beq_eq_false_iff_ne.mpr h]
 | (k,w) :: L=>by rw[List.cons_append,List.lookup_cons,List.lookup_cons,yfM v h L]
theorem yfN {α:Type}{n:Nat}(v:α):∀ L:List (Nat×α),n∉L.map (·.1)→L.lookup n=none∧(L++[(n,v)]).lookup n=some v
 | [],_=>⟨rfl,by rw[List.nil_append,List.lookup_cons_self]⟩
 | (k,w) :: L,h=>by
  rw[List.map_cons,List.mem_cons,not_or] at h
  have ih:=yfN v L h.2
  rw[List.cons_append,List.lookup_cons,List.lookup_cons,beq_eq_false_iff_ne.mpr h.1]
  exact ih
theorem ylM {H:Hp}:∀ {xs:List V} {ts:List Th},xs.length=ts.length→(∀ (j:Nat) (u:Th),ts[j]?=some u→∃ x,xs[j]?=some x∧Is H x u)→Iss H xs ts
 | [],[],_,_=>yay H
 | x :: xs,t :: ts,hl,h=>by
  obtain⟨y,e,i⟩:=h 0 t rfl
  cases e
  refine yal i (ylM (by simpa using hl) λj u hj=>?_)
  obtain⟨z,e,i⟩:=h (j+1) u (by rw[List.getElem?_cons_succ];exact hj)
  exact⟨z,by rw[List.getElem?_cons_succ] at e;exact e,i⟩
 | [],_ :: _,hl,_=>nomatch hl
 | _ :: _,[],hl,_=>nomatch hl
theorem yj2 {n j:Nat}(h:j < n):ixN n (j:Int)=some j:=by
 unfold ixN
 simp[h]
def hdT (h:Pit×Str):Th:=.tp [sT h.2,nT h.1.st,nT h.1.oc]
theorem Is.head {H:Hp}{x:V}{h:Pit×Str}(i:Is H x (hdT h)):∃ a,x=.ref a∧H a=some (.tup [.str h.2,.int h.1.st,.int h.1.oc]):=by
 unfold hdT at i
 rw[Is] at i
 obtain⟨a,ys,rfl,e,is⟩:=i
 rw[Iss] at is
 obtain⟨y0,r0,rfl,i0,is⟩:=is
 have:=Iss.ints (ns:=[h.1.st,h.1.oc]) is
 rw[this] at e
 rw[sT,Is] at i0
 rw[i0.1] at e
 exact⟨a,rfl,e⟩
theorem yiM {H:Hp}{a:Addr}{h:Pit×Str}(e:H a=some (.tup [.str h.2,.int h.1.st,.int h.1.oc])):Is H (.ref a) (hdT h):=ydB e (yal (ybA rfl) (ye8 H [h.1.st,h.1.oc]))
def yjy:Sp:=λvs H Q _=>∃ (a:Addr) (h:Pit×Str),vs=[.ref a]∧H a=some (.tup [.str h.2,.int h.1.st,.int h.1.oc])∧∀ H',Same H H'→Q (.int (yc4 h.1)) H'
theorem yoU (T:Txt K mg t):FnOk P w K mg base CX0 1 t.f_zJ t.d_zJ ["head"] yjy:=by
 refine T.zJ.F.ok ypR (λvs H Q E h=>?_) (λcdv A outer s H vs Q E hr h=>?_)
 ·obtain⟨a,h,rfl,_⟩:=h;rfl
 obtain⟨a,h,rfl,ha,q⟩:=h
 have hu:=ya2 hr
 refine⟨_,(yaj (yaG (yau ybt (yau ybW yag (yav yaA (pv 0) yag (λ_ _=>rfl))) (yav yaA (pv 0) yag (λ_ _=>rfl))))),?_⟩
 walk_at "rd"
 exact⟨_,SqT.of ha,_,yak (j:=2) rfl,_,rfl,CMul.ok (.inl ⟨by decide,by decide⟩),_,SqT.of ha,_,yak (j:=1) rfl,_,rfl,q _ (Same.refl H)⟩
def ylJ:Sp:=λvs H Q _=>∃ (key:Int) (l cd:Addr) (xs:List V) (ps:List Pit) (ms:List Str) (kvs:List (Key×V)) (c:Cn),vs=[.int key,.ref l,.ref cd]∧H l=some (.lst xs)∧Iss (rm H cd) xs ((ps.zip ms).map hdT)∧l≠cd∧ps.length=ms.length∧(∀ p∈ps,ymC p)∧(∀ s∈ms,OkM s)∧ps.length≤10∧H cd=some (.dK kvs)∧Cnt kvs c∧kvs.length≤500 ∧
 ∀ d H' ys kvs',SameT cd H H'→H d=none→H' d=some (.lst ys)→Iss (rm (rm (fr H H') cd) d) ys ((ycP key c ps ms).map pT)→H' cd=some (.dK kvs')→Cnt kvs' (ybk c ps ms)→kvs'.length≤kvs.length+ps.length→Q (.ref d) H'
theorem ypV (T:Txt K mg t)(G_zJ:FnOk P w K mg base CX0 1 t.f_zJ t.d_zJ ["head"] yjy)(G_zQ:FnOk P w K mg base CX0 2 t.f_zQ t.d_zQ ["key","step"] yf0):FnOk P w K mg base CX0 3 t.f_zN t.d_zN ["key","heads","counting"] ylJ:=by
 refine T.zN.F.ok sc_zN (λvs H Q E h=>?_) (λcdv A outer s H vs Q E hr h=>?_)
 ·obtain⟨key,l,cd,xs,ps,ms,kvs,c,rfl,_⟩:=h;rfl
 obtain⟨key,l,cd,xs,ps,ms,kvs,c,rfl,hl,is,nl,pm,gp,mok,l10,hcd,hc,lk,q⟩:=h
 have hu:=ya2 hr
 refine⟨_,(yah (yas (i:=3) sc_zN.nd rfl (Or.inl rfl) (yaZ yaf)) (yah (ybf PassesOwn.never rfl (yaX (pv 1)) (yan (i:=4) sc_zN.nd rfl (Or.inl rfl)) (yah (ybM (yaL (ym1 hu) (yav yaA (pv 4) yag (λ_ _=>rfl)) yaF (yaH _)) (yaj (yd1 (h1 hu) (pv 2) (yaq G_zJ (hr.mono (by first | decide | omega)) rfl T.zJ.M T.zJ.F.kp T.zJ.B .nil yaD (yaa (pv 4) yaf)) (yau ybt (ybU PySem.F.plainAttrs_tuple PySem.F.slot_tuple_index PySem.F.type_tuple_index yjC (ym4 rfl T.JK) (yaa (yav yaA (pv 4) yag (λ_ _=>rfl)) yaf)) (yns rfl T.JL)) rfl)) ya4) (yah (yas (i:=5) sc_zN.nd rfl (Or.inl rfl) (yeQ (h1 hu) (pv 2) (yaq G_zJ (hr.mono (by first | decide | omega)) rfl T.zJ.M T.zJ.F.kp T.zJ.B .nil yaD (yaa (pv 4) yaf)) (yaq G_zQ (hr.mono (by first | decide | omega)) rfl T.zQ.M T.zQ.F.kp T.zQ.B .nil yaD (yaa (pv 0) (yaa (yav yaA (pv 4) yag (λ_ _=>rfl)) yaf))) ⟨rfl,rfl,rfl,rfl⟩)) (yaj (yaO (ybU PySem.F.plainAttrs_list PySem.F.slot_list_append PySem.F.type_list_append yaI (pv 3) (yaa (yaE (yaa (yav yaA (pv 4) yag (λ_ _=>rfl)) (yaa (pv 5) (yaa (yav yaA (pv 4) yag (λ_ _=>rfl)) yaf)))) yaf))))))) (yaj (yaG (pv 3))))),?_⟩
 walk_at "rd"
 refine⟨Nat.zero_le _,λd hd0=>?_⟩
 have nd:d≠cd:=(yad hcd hd0).symm
 have s1:=yae hd0 (.lst [])
 have nd2:l≠d:=yad hl hd0
 have zl:(ps.zip ms).length=ps.length:=by rw[List.length_zip,pm];exact Nat.min_self _
 have xl:xs.length=ps.length:=by rw[is.len,List.length_map,zl]
 refine⟨_,rfl,l,rfl,⟨_,SqL.of (s1 _ _ hl)⟩,ydF (xs:=xs) (λi σ H'=>(∃ o4 o5,σ=[some (.int key),some (.ref l),some (.ref cd),some (.ref d),o4,o5])∧SameT cd H H'∧(∃ ys,H' d=some (.lst ys)∧Iss (rm (rm (fr H H') cd) d) ys ((ycP key c (ps.take i) (ms.take i)).map pT))∧∃ kvs',H' cd=some (.dK kvs')∧Cnt kvs' (ybk c (ps.take i) (ms.take i))∧kvs'.length≤kvs.length+i) ⟨⟨_,_,rfl⟩,Same.t s1,⟨[],yab,yay _⟩,kvs,s1 _ _ hcd,hc,Nat.le_refl _⟩ (λ_ _ _ _ h=>SqL.of (h.2.1 _ _ nl hl)) ?_ ?_⟩
 ·rintro i x σ H' hx ⟨⟨o4,o5,rfl⟩,st,⟨ys,hd,iy⟩,kvs',hk,hcn,hlen⟩
  have hi:i < ps.length:=by have:=(List.getElem?_eq_some_iff.mp hx).1;omega
  have hi2:i < ms.length:=by omega
  obtain⟨y,hy,ix⟩:=is.at' i (by rw[List.length_map,zl];exact hi)
  rw[hx] at hy
  cases hy
  rw[List.getElem_map,List.getElem_zip] at ix
  obtain⟨a,rfl,ea⟩:=ix.head
  obtain⟨na,ea⟩:=yao ea
  have ea':=st _ _ na ea
  have gp':=gp ps[i] (List.getElem_mem hi)
  have om:=mok ms[i] (List.getElem_mem hi2)
  have t1:=List.take_succ_eq_append_getElem hi
  have t2:=List.take_succ_eq_append_getElem hi2
  have tl:(ps.take i).length=(ms.take i).length:=by rw[List.length_take,List.length_take,pm]
  generalize ms[i]=mark at om t2 ea' ea
  generalize ps[i]=pit at gp' t1 ea' ea
  walk_at "rd"
  refine⟨_,SqT.of ea',.str mark,yak (j:=0) rfl,_,yn8,_,yn8,ymN,ymN,?_⟩
  rw[yqi]
  by_cases em:mark=""
  ·rw[if_neg (by rw[em];simp)]
   have hp5:=hk
   have hd5:=hd
   have ea5:=ea'
   have st5:=st
   have iy5:=iy
   obtain⟨kvs3,rfl⟩:∃ kvs3,kvs3=kvs':=⟨_,rfl⟩
   have cn5:Cnt kvs3 (hrC (ybk c (ps.take i) (ms.take i)) pit mark):=by
    unfold hrC
    rw[if_pos em]
    exact hcn
   have ln5:kvs3.length≤kvs.length+(i+1):=by omega
   refine⟨.inl ⟨kvs3,.inl hp5⟩,a,(pit,mark),rfl,ea5,λH6 s6=>⟨_,SqT.of (s6 _ _ ea5),_,yak (j:=1) rfl,key,pit.st,rfl,gp'.1,gp'.2.1,λH7 s7=>⟨_,DGet.k (k:=.inl (yc4 pit)) (s7 _ _ (s6 _ _ hp5)),.inl ⟨rfl,_,SqL.of (s7 _ _ (s6 _ _ hd5))⟩,_,SqT.of (s7 _ _ (s6 _ _ ea5)),_,yak (j:=1) rfl,_,SqT.of (s7 _ _ (s6 _ _ ea5)),_,yak (j:=2) rfl,by decide,λq hq=>?_⟩⟩⟩
   have s67:=s6.trans s7
   have eo:(yb8 kvs3 (.inl (yc4 pit))).getD (.int (klV key pit.st))=.int (hrP key (ybk c (ps.take i) (ms.take i)) pit mark).ln:=by
    rw[cn5]
    show _=V.int ((hrC (ybk c (ps.take i) (ms.take i)) pit mark (yc4 pit)).getD (klV key pit.st))
    cases hrC (ybk c (ps.take i) (ms.take i)) pit mark (yc4 pit)<;>rfl
   rw[eo]
   have qd:q≠d:=(yad (s67 _ _ hd5) hq).symm
   have qc:q≠cd:=(yad (s67 _ _ hp5) hq).symm
   have s8:=yae hq (.tup [V.int pit.st,.int (hrP key (ybk c (ps.take i) (ms.take i)) pit mark).ln,V.int pit.oc])
   have s68:=s67.trans s8
   have nq:H q=none:=by
    cases z:H q with
    | none=>rfl
    | some u=>rw[s67 _ _ (st5 q u qc z)] at hq;cases hq
   refine⟨ys,s68 _ _ hd5,yam (by rw[iy.len,List.length_map];have:=ycC key (ps.take i) (ms.take i) c;rw[List.length_take] at this;omega),⟨_,rfl⟩,ygh (SameT.trans st5 (Same.t s68)) hd0,⟨_,yab,?_⟩,kvs3,by rw[yai nd.symm];exact s68 _ _ hp5,by rw[t1,t2,ycJ _ _ _ _ _ tl];exact cn5,ln5⟩
   rw[t1,t2,ycK _ _ _ _ _ _ tl,List.map_append]
   refine Iss.app (iy5.same λb u e=>?_) (yal (yeC ?_) (yay _))
   ·obtain⟨b1,e⟩:=yao e
    obtain⟨b2,e⟩:=yao e
    obtain⟨b3,e⟩:=ya1 e
    rw[yaB b1,yaB b2,yby b3,yai b1]
    exact s68 _ _ e
   ·rw[yaB qd,yaB qc,yby nq,yai qd,yab]
    rfl
  ·rw[if_pos (by simpa using em)]
   obtain⟨_,jx,j5,hit,hno,ej⟩:=yjT (om.resolve_left em)
   have hz:∃ z,[V.str "--",V.str "-",V.str "=",V.str "+",V.str "++"][jx]?=some z:=⟨_,List.getElem?_eq_getElem (show jx < [V.str "--",V.str "-",V.str "=",V.str "+",V.str "++"].length from j5)⟩
   obtain⟨z,ez⟩:=hz
   refine⟨T.Jx.ty _,_,SqT.of ea',.str mark,yak (j:=0) rfl,_,T.Jx.sq _,rfl,rfl,jx,z,ez,hit z ez,hno,a,(pit,mark),rfl,ea',λH4 s4=>⟨_,DPut.k (k:=.inl (yc4 pit)) (s4 _ _ hk) (yam (by omega)),?_⟩⟩
   rw[show(jx:Int)+-2=unm mark by omega]
   obtain⟨kvs3,ek3⟩:∃ kvs3,kvs3=ydq kvs' (.inl (yc4 pit)) (.int (unm mark)):=⟨_,rfl⟩
   rw[← ek3]
   have acd:a≠cd:=λw'=>by rw[w',hk] at ea';cases ea'
   have hp5:upd H4 cd (.dK kvs3) cd=some (.dK kvs3):=yab
   have hd5:upd H4 cd (.dK kvs3) d=some (.lst ys):=by rw[yai nd];exact s4 _ _ hd
   have ea5:upd H4 cd (.dK kvs3) a=some (.tup [.str mark,.int pit.st,.int pit.oc]):=by rw[yai acd];exact s4 _ _ ea'
   have st5:SameT cd H (upd H4 cd (.dK kvs3)):=ycM (SameT.trans st (Same.t s4))
   have iy5:Iss (rm (rm (fr H (upd H4 cd (.dK kvs3))) cd) d) ys ((ycP key c (ps.take i) (ms.take i)).map pT):=iy.same λb u e=>by
    obtain⟨b1,e⟩:=yao e
    obtain⟨b2,e⟩:=yao e
    obtain⟨b3,e⟩:=ya1 e
    rw[yaB b1,yaB b2,yby b3,yai b2]
    exact s4 _ _ e
   have cn5:Cnt kvs3 (hrC (ybk c (ps.take i) (ms.take i)) pit mark):=by
    unfold hrC
    rw[if_neg em,ek3]
    exact hcn.put _ _
   have ln5:kvs3.length≤kvs.length+(i+1):=by rw[ek3];have:=ybF kvs' (.inl (yc4 pit)) (.int (unm mark));omega
   generalize upd H4 cd (.dK kvs3)=H5 at hp5 hd5 ea5 st5 iy5 ⊢
   refine⟨.inl ⟨kvs3,.inl hp5⟩,a,(pit,mark),rfl,ea5,λH6 s6=>⟨_,SqT.of (s6 _ _ ea5),_,yak (j:=1) rfl,key,pit.st,rfl,gp'.1,gp'.2.1,λH7 s7=>⟨_,DGet.k (k:=.inl (yc4 pit)) (s7 _ _ (s6 _ _ hp5)),.inl ⟨rfl,_,SqL.of (s7 _ _ (s6 _ _ hd5))⟩,_,SqT.of (s7 _ _ (s6 _ _ ea5)),_,yak (j:=1) rfl,_,SqT.of (s7 _ _ (s6 _ _ ea5)),_,yak (j:=2) rfl,by decide,λq hq=>?_⟩⟩⟩
   have s67:=s6.trans s7
   have eo:(yb8 kvs3 (.inl (yc4 pit))).getD (.int (klV key pit.st))=.int (hrP key (ybk c (ps.take i) (ms.take i)) pit mark).ln:=by
    rw[cn5]
    show _=V.int ((hrC (ybk c (ps.take i) (ms.take i)) pit mark (yc4 pit)).getD (klV key pit.st))
    cases hrC (ybk c (ps.take i) (ms.take i)) pit mark (yc4 pit)<;>rfl
   rw[eo]
   have qd:q≠d:=(yad (s67 _ _ hd5) hq).symm
   have qc:q≠cd:=(yad (s67 _ _ hp5) hq).symm
   have s8:=yae hq (.tup [V.int pit.st,.int (hrP key (ybk c (ps.take i) (ms.take i)) pit mark).ln,V.int pit.oc])
   have s68:=s67.trans s8
   have nq:H q=none:=by
    cases z:H q with
    | none=>rfl
    | some u=>rw[s67 _ _ (st5 q u qc z)] at hq;cases hq
   refine⟨ys,s68 _ _ hd5,yam (by rw[iy.len,List.length_map];have:=ycC key (ps.take i) (ms.take i) c;rw[List.length_take] at this;omega),⟨_,rfl⟩,ygh (SameT.trans st5 (Same.t s68)) hd0,⟨_,yab,?_⟩,kvs3,by rw[yai nd.symm];exact s68 _ _ hp5,by rw[t1,t2,ycJ _ _ _ _ _ tl];exact cn5,ln5⟩
   rw[t1,t2,ycK _ _ _ _ _ _ tl,List.map_append]
   refine Iss.app (iy5.same λb u e=>?_) (yal (yeC ?_) (yay _))
   ·obtain⟨b1,e⟩:=yao e
    obtain⟨b2,e⟩:=yao e
    obtain⟨b3,e⟩:=ya1 e
    rw[yaB b1,yaB b2,yby b3,yai b1]
    exact s68 _ _ e
   ·rw[yaB qd,yaB qc,yby nq,yai qd,yab]
    rfl
 ·rintro σ H' ⟨⟨o4,o5,rfl⟩,st,⟨ys,hd,iy⟩,kvs',hk,hcn,hlen⟩
  rw[xl,List.take_length] at iy hcn
  rw[show ps.length=ms.length from pm,List.take_length] at iy hcn
  exact⟨_,rfl,q d H' ys kvs' st hd0 hd iy hk hcn (by omega)⟩
def ylq (r:Row)(ms:List Str):Th:=.tp [nT r.at',nT r.vo,.ls ((r.ps.zip ms).map hdT),if r.td then .ls (r.ps.map pT) else .im .non]
theorem Is.hnd {H:Hp}{x:V}{r:Row}{ms:List Str}(h:Is H x (ylq r ms)):∃ a l xs z,x=.ref a∧H a=some (.tup [.int r.at',.int r.vo,.ref l,z])∧H l=some (.lst xs)∧Iss H xs ((r.ps.zip ms).map hdT)∧Is H z (if r.td then .ls (r.ps.map pT) else .im .non):=by
 unfold ylq at h
 rw[Is] at h
 obtain⟨a,ys,rfl,e,is⟩:=h
 rw[Iss] at is
 obtain⟨y0,r0,rfl,i0,is⟩:=is
 rw[Iss] at is
 obtain⟨y1,r1,rfl,i1,is⟩:=is
 rw[Iss] at is
 obtain⟨y2,r2,rfl,i2,is⟩:=is
 rw[Iss] at is
 obtain⟨y3,r3,rfl,i3,is⟩:=is
 rw[Iss] at is
 subst is
 rw[nT,Is] at i0
 rw[nT,Is] at i1
 rw[Is] at i2
 obtain⟨l,xs,rfl,e2,j2⟩:=i2
 obtain⟨rfl,_⟩:=i0
 obtain⟨rfl,_⟩:=i1
 exact⟨a,l,xs,y3,rfl,e,e2,j2,i3⟩
def yfD (rows:List Row)(mk:List (List Str)):List Th:=(List.range rows.length).map λi=>ylq (rows.getD i r0) (mkF mk i)
def ylv (key:Int)(c:Cn)(r:Row)(ms:List Str):List Pit:=if r.td then r.ps else ycP key c r.ps ms
def goL (key:Int)(rows:List Row)(mk:Nat→List Str):Cn→List Nat→List (Nat×List Pit)
 | _,[]=>[]
 | c,i :: is=>(i,ylv key c (rows.getD i r0) (mk i)) :: goL key rows mk (yh0 c (rows.getD i r0) (mk i)) is
theorem ydI (key:Int)(rows:List Row)(mk:Nat→List Str)(i:Nat):∀ (is:List Nat) (c:Cn),goL key rows mk c (is++[i])=goL key rows mk c is++[(i,ylv key (ygX rows mk c is) (rows.getD i r0) (mk i))]
 | [],c=>rfl
 | j :: is,c=>by rw[List.cons_append,goL,ydI key rows mk i is,goL,ygX,List.cons_append]
theorem yc0 (key:Int)(rows:List Row)(mk:Nat→List Str):∀ (is:List Nat) (c:Cn),(goL key rows mk c is).map (·.1)=is
 | [],c=>rfl
 | j :: is,c=>by rw[goL,List.map_cons,yc0 key rows mk is]
def ycr (key:Int)(rows:List Row)(mk:List (List Str))(ord:List Nat)(i:Nat):List Pit:=((goL key rows (mkF mk) c0 ord).lookup i).getD []
def lT (ps:List Pit):Th:=.ls (ps.map pT)
def ydd (key:Int)(rows:List Row)(mk:List (List Str))(ord:List Nat):List (List Pit):=(List.range rows.length).map (ycr key rows mk ord)
def ToldL (H0 H:Hp):List (Key×V)→List (Nat×List Pit)→Prop
 | [],[]=>True
 | (k,v) :: kvs,(i,ms) :: gs=>k=.inl (i:Int)∧(Is H v (lT ms)∧∃ a,v=.ref a∧H0 a=none)∧ToldL H0 H kvs gs
 | _,_=>False
theorem ToldL.same {H0 H H':Hp}(s:Same H H'):∀ {kvs:List (Key×V)} {gs:List (Nat×List Pit)},ToldL H0 H kvs gs→ToldL H0 H' kvs gs
 | [],[],_=>trivial
 | (k,v) :: kvs,(i,ms) :: gs,h=>⟨h.1,⟨h.2.1.1.same s,h.2.1.2⟩,ToldL.same s h.2.2⟩
 | [],_ :: _,h=>h.elim
 | _ :: _,[],h=>h.elim
theorem ToldL.len {H0 H:Hp}:∀ {kvs:List (Key×V)} {gs:List (Nat×List Pit)},ToldL H0 H kvs gs→kvs.length=gs.length
 | [],[],_=>rfl
 | (k,v) :: kvs,(i,ms) :: gs,h=>by rw[List.length_cons,List.length_cons,ToldL.len h.2.2]
 | [],_ :: _,h=>h.elim
 | _ :: _,[],h=>h.elim
theorem ToldL.snoc {H0 H:Hp}{i:Nat}{ms:List Pit}{v:V}(hv:Is H v (lT ms)∧∃ a,v=.ref a∧H0 a=none):∀ {kvs:List (Key×V)} {gs:List (Nat×List Pit)},ToldL H0 H kvs gs→ToldL H0 H (kvs++[(.inl (i:Int),v)]) (gs++[(i,ms)])
 | [],[],_=>⟨rfl,hv,trivial⟩
 | (k,w) :: kvs,(j,ns) :: gs,h=>⟨h.1,h.2.1,ToldL.snoc hv h.2.2⟩
 | [],_ :: _,h=>h.elim
 | _ :: _,[],h=>h.elim
theorem ToldL.none {H0 H:Hp}{i:Nat}:∀ {kvs:List (Key×V)} {gs:List (Nat×List Pit)},ToldL H0 H kvs gs→i∉gs.map (·.1)→yb8 kvs (.inl (i:Int))=none
 | [],[],_,_=>rfl
 | (k,v) :: kvs,(j,ns) :: gs,h,n=>by
  obtain⟨rfl,_,h⟩:=h
  rw[List.map_cons,List.mem_cons,not_or] at n
  rw[ya7 (λz=>n.1 (by have:=Sum.inl.inj z;omega))]
  exact ToldL.none h n.2
 | [],_ :: _,h,_=>h.elim
 | _ :: _,[],h,_=>h.elim
theorem ToldL.some {H0 H:Hp}{i:Nat}:∀ {kvs:List (Key×V)} {gs:List (Nat×List Pit)},ToldL H0 H kvs gs→i∈gs.map (·.1)→∃ v,yb8 kvs (.inl (i:Int))=some v∧Is H v (lT ((gs.lookup i).getD []))∧∃ a,v=.ref a∧H0 a=Option.none
 | [],[],_,n=>nomatch n
 | (k,v) :: kvs,(j,ns) :: gs,h,n=>by
  obtain⟨rfl,hv,h⟩:=h
  by_cases e:i=j
  ·subst e
   exact⟨v,ybi rfl,by rw[List.lookup_cons_self];exact hv⟩
  ·rw[List.map_cons,List.mem_cons] at n
   obtain⟨b,eb,hb⟩:=ToldL.some h (n.resolve_left e)
   rw[ya7 (λz=>e (by have:=Sum.inl.inj z;omega)),List.lookup_cons,beq_eq_false_iff_ne.mpr e]
   exact⟨b,eb,hb⟩
 | [],_ :: _,h,_=>h.elim
 | _ :: _,[],h,_=>h.elim
def ygD (Tb:Addr):Sp:=λvs H Q _=>∃ (key:Int) (l:Addr) (xs:List V) (rows:List Row) (mk:List (List Str)),vs=[.int key,.ref l]∧H l=some (.lst xs)∧Iss H xs (yfD rows mk)∧rows.length≤46∧(∀ r∈rows,ynI r)∧Apart rows∧(∀ i,i < rows.length→(mkF mk i).length=(rows.getD i r0).ps.length∧∀ s∈mkF mk i,OkM s)∧TK H Tb ∧
 ∀ d H' ys p,SameT Tb H H'→TK H' Tb→H d=none→H' d=some (.lst ys)→Iss (rm H' d) ys ((ydd key rows mk p.toList).map lT)→(∀ y∈ys,∃ a,y=.ref a∧H a=none)→yjc rows p→Q (.ref d) H'
theorem ypO {Tb:Addr}(T:Txt K mg t)(G_zT:FnOk P w K mg base CX0 4 t.f_zT t.d_zT ["rows"] (yho Tb))(G_zN:FnOk P w K mg base CX0 3 t.f_zN t.d_zN ["key","heads","counting"] ylJ):FnOk P w K mg base CX0 5 t.f_zM t.d_zM ["key","rows"] (ygD Tb):=by
 refine T.zM.F.ok sc_zM (λvs H Q E h=>?_) (λcdv A outer s H vs Q E hr h=>?_)
 ·obtain⟨key,l,xs,rows,mk,rfl,_⟩:=h;rfl
 obtain⟨key,l,xs,rows,mk,rfl,hl,is,l20,gr,ap,mok,tk,q⟩:=h
 have hu:=ya2 hr
 refine⟨_,(yah (yas (i:=2) sc_zM.nd rfl (Or.inl rfl) yha) (yah (yas (i:=3) sc_zM.nd rfl (Or.inr rfl) yha) (yah (ybf PassesOwn.never rfl (yaX (yaq G_zT (hr.mono (by first | decide | omega)) rfl T.zT.M T.zT.F.kp T.zT.B .nil yaD (yaa (pv 1) yaf))) (yan (i:=4) sc_zM.nd rfl (Or.inl rfl)) (yah (yas (i:=5) sc_zM.nd rfl (Or.inl rfl) (yav yaz (pv 1) (pv 4) (λ_ _=>rfl))) (yaj (yd1 (h1 hu) (pv 3) (pv 4) (ybm (yaL ylF (yav yaA (pv 5) yag (λ_ _=>rfl)) yd9 (yaH _)) (yaq G_zN (hr.mono (by first | decide | omega)) rfl T.zN.M T.zN.F.kp T.zN.B .nil yaD (yaa (pv 0) (yaa (yav yaA (pv 5) yag (λ_ _=>rfl)) (yaa (pv 2) yaf)))) (ybu ybq rfl T.Jf yaR (yaa (yav yaA (pv 5) yag (λ_ _=>rfl)) yaf))) rfl)))) (yaj (yaG (yb5 (yaQ (NB:=["number","told"]) (cap:=[none,some 3]) rfl) rfl (ybX rfl T.Jj (yaa (yax yaU rfl T.Jr PySem.boot_len (yaa (pv 1) yaf)) yaf)) (λ_ _ _ _=>(yan (i:=0) (show List.Nodup (["number","told"]:List Str) by decide) rfl (Or.inl rfl))) (λ_ _ _ _=>yaT) (λ_ _ _ _=>(yg0 (h1 hu) (pv 1) (pv 0) (λ_ _=>rfl))))))))),?_⟩
 walk_at "rd"
 intro cd hcd0 td htd0
 have ncd:td≠cd:=λz=>by rw[z,yab] at htd0;cases htd0
 have s1:Same H (upd (upd H cd (.dK [])) td (.dK [])):=(yae hcd0 _).trans (yae htd0 _)
 have htd:H td=none:=(yae hcd0 (.dK [])).free htd0
 have ecd:upd (upd H cd (.dK [])) td (.dK []) cd=some (.dK []):=by rw[yai ncd.symm];exact yab
 have etd:upd (upd H cd (.dK [])) td (.dK []) td=some (.dK []):=yab
 generalize upd (upd H cd (.dK [])) td (.dK [])=H1 at s1 ecd etd ⊢
 obtain⟨pt,eT,_⟩:=id tk
 have nl:l≠Tb:=λz=>by rw[z,eT] at hl;cases hl
 have nTc:cd≠Tb:=λz=>by rw[z,eT] at hcd0;cases hcd0
 have nTt:td≠Tb:=λz=>by rw[z,eT] at htd;cases htd
 have isT:=is.offT eT
 have hlen:(yfD rows mk).length=rows.length:=by unfold yfD;rw[List.length_map,List.length_range]
 have en:xs.length=rows.length:=by rw[is.len,hlen]
 have eAt:∀ i (h:i < rows.length),(yfD rows mk)[i]'(by rw[hlen];exact h)=ylq rows[i] (mkF mk i):=λi h=>by
  have h1:(yfD rows mk)[i]?=some (ylq rows[i] (mkF mk i)):=by
   unfold yfD
   rw[List.getElem?_map,List.getElem?_range h]
   show some (ylq (rows.getD i r0) (mkF mk i))=_
   rw[List.getD_eq_getElem?_getD,List.getElem?_eq_getElem h]
   rfl
  exact(List.getElem?_eq_some_iff.mp h1).2
 have kr:KeyRows H1 xs rows:=⟨en,λi hi=>by
  obtain⟨x,hx,ix⟩:=(is.same s1).at' i (by rw[hlen];exact hi)
  rw[eAt i hi] at ix
  obtain⟨r,l2,ys,z,rfl,er,_,_,_⟩:=ix.hnd
  exact⟨r,_,_,hx,er⟩⟩
 refine⟨_,rfl,l,xs,rows,rfl,s1 _ _ hl,kr,by omega,ap,tk.same s1,λd0 H2 p st2 tk2 nd0 hd0 tm=>?_⟩
 have d0c:d0≠cd:=(yad ecd nd0).symm
 have d0t:d0≠td:=(yad etd nd0).symm
 have hd00:H d0=none:=s1.free nd0
 have d0T:d0≠Tb:=λz=>by rw[z,eT] at hd00;cases hd00
 have stH:SameT Tb H H2:=SameT.trans (Same.t s1) st2
 have ord:=tm.shuf
 refine⟨d0,rfl,⟨_,SqL.of hd0⟩,ydF (xs:=p.toList.map nV) (λi σ H'=>(∃ o4 o5,σ=[some (.int key),some (.ref l),some (.ref cd),some (.ref td),o4,o5])∧SameT Tb H H'∧TK H' Tb∧H' d0=some (.lst (p.toList.map nV))∧∃ kc kt,H' cd=some (.dK kc)∧Cnt kc (ygX rows (mkF mk) c0 (p.toList.take i))∧kc.length≤10*i∧H' td=some (.dK kt)∧ToldL H (rm (rm (rm H' cd) td) d0) kt (goL key rows (mkF mk) c0 (p.toList.take i)))
  ⟨⟨_,_,rfl⟩,stH,tk2,hd0,[],[],st2 _ _ nTc ecd,λl=>rfl,Nat.zero_le _,st2 _ _ nTt etd,trivial⟩ (λ_ _ _ _ h=>SqL.of h.2.2.2.1) ?_ ?_⟩
 ·rintro i x σ H' hx ⟨⟨o4,o5,rfl⟩,st,tk',hd,kc,kt,hkc,hcn,lkc,hkt,tl⟩
  have hi:i < p.toList.length:=by have:=(List.getElem?_eq_some_iff.mp hx).1;rw[List.length_map] at this;exact this
  have ex:x=nV p.toList[i]:=by rw[List.getElem?_map,List.getElem?_eq_getElem hi] at hx;exact(Option.some.inj hx).symm
  subst ex
  have hlt:p.toList[i] < rows.length:=List.mem_range.mp (ord.perm.mem_iff.mp (List.getElem_mem hi))
  generalize hn:p.toList[i]=n at hlt
  have grow:=gr _ (List.getElem_mem hlt)
  obtain⟨y,hy,iy⟩:=isT.at' n (by rw[hlen];exact hlt)
  rw[eAt n hlt] at iy
  have srow:Same (rm H Tb) (rm H' cd):=λb u e=>by
   obtain⟨nb,e⟩:=yao e
   rw[yaB (yad e hcd0)]
   exact st b u nb e
  obtain⟨ra,rl,ys,rz,rfl,er,el,ir,iz⟩:=iy.hnd
  have nrl:rl≠cd:=(yao (srow _ _ el)).1
  have er':=yaK _ _ _ _ (srow _ _ er)
  have el':=yaK _ _ _ _ (srow _ _ el)
  have iz':=(iz.same srow).same (yaK _ _)
  have eg:rows.getD n r0=rows[n]:=by rw[List.getD_eq_getElem?_getD,List.getElem?_eq_getElem hlt];rfl
  have mok':=mok n hlt
  rw[eg] at mok'
  have nd:n∉(goL key rows (mkF mk) c0 (p.toList.take i)).map (·.1):=by
   rw[yc0,← hn]
   have nodup:p.toList.Nodup:=ord.perm.nodup_iff.mpr List.nodup_range
   intro hm
   obtain⟨j,hj,e⟩:=List.getElem_of_mem hm
   rw[List.getElem_take] at e
   rw[List.length_take] at hj
   have:=(List.getElem_inj nodup).mp e
   omega
  have tlen:kt.length=i:=by rw[tl.len,← List.length_map (f:=(·.1)),yc0,List.length_take];omega
  have i20:i < 46:=by rw[Array.length_toList,ord.size] at hi;omega
  have etake:p.toList.take (i+1)=p.toList.take i++[n]:=by rw[List.take_succ_eq_append_getElem hi,hn]
  have off:∀ {b:Addr},H' b=none→H b=none:=λ{b} nv=>by
   cases z:H b with
   | none=>rfl
   | some u =>
    have nT:b≠Tb:=λz=>by
     obtain⟨p2,z2,_⟩:=id tk'
     rw[z,z2] at nv
     cases nv
    rw[st _ _ nT z] at nv
    cases nv
  have fin:∀ (v0:Addr) (H3:Hp) (ws:List V) (kc':List (Key×V)),SameT cd H' H3→H' v0=none→H3 v0=some (.lst ws)→Iss (rm (rm (rm H3 cd) td) d0) ws ((ylv key (ygX rows (mkF mk) c0 (p.toList.take i)) rows[n] (mkF mk n)).map pT)→H3 cd=some (.dK kc')→Cnt kc' (yh0 (ygX rows (mkF mk) c0 (p.toList.take i)) rows[n] (mkF mk n))→kc'.length≤10*(i+1) →
    ∃ x,DPut H3 td (nV n) (.ref v0) x∧(∃ o4,some (nV n)=o4)∧SameT Tb H x∧TK x Tb∧x d0=some (.lst (p.toList.map nV))∧∃ kc,x cd=some (.dK kc)∧Cnt kc (ygX rows (mkF mk) c0 (p.toList.take (i+1)))∧kc.length≤10*(i+1)∧∃ kt',x td=some (.dK kt')∧ToldL H (rm (rm (rm x cd) td) d0) kt' (goL key rows (mkF mk) c0 (p.toList.take (i+1))):=by
   intro v0 H3 ws kc' s3 nv hv iw hc3 hcn3 lc3
   have hkt3:=s3 _ _ ncd hkt
   have vc:v0≠cd:=(yad hkc nv).symm
   have vt:v0≠td:=(yad hkt nv).symm
   have vd:v0≠d0:=(yad hd nv).symm
   have nv0:H v0=none:=off nv
   have up3:Same (rm (rm (rm H3 cd) td) d0) (rm (rm (rm (upd H3 td (.dK (ydq kt (.inl (n:Int)) (.ref v0)))) cd) td) d0):=λb u e=>by
    obtain⟨b3,e⟩:=yao e
    obtain⟨b2,e⟩:=yao e
    obtain⟨b1,e⟩:=yao e
    rw[yaB b3,yaB b2,yaB b1,yai b2]
    exact e
   refine⟨_,DPut.k (k:=.inl (n:Int)) hkt3 (yam (by omega)),⟨_,rfl⟩,λb u nb e=>?_,?_,?_,kc',?_,?_,lc3,_,yab,?_⟩
   ·rw[yai (yad e htd)]
    exact s3 _ _ (yad e hcd0) (st b u nb e)
   ·exact(tk'.but hkc s3).but hkt3 (ycM SameT.refl)
   ·rw[yai d0t]
    exact s3 _ _ d0c hd
   ·rw[yai ncd.symm]
    exact hc3
   ·rw[etake,yea,eg]
    exact hcn3
   ·rw[etake,ydI,eg]
    rw[ykK _ (tl.none nd)] at up3 ⊢
    refine ToldL.snoc ⟨ybB ?_ (iw.same up3),v0,rfl,nv0⟩ ((tl.same λb u e=>?_).same up3)
    ·rw[yaB vd,yaB vt,yaB vc,yai vt]
     exact hv
    ·obtain⟨b3,e⟩:=yao e
     obtain⟨b2,e⟩:=yao e
     obtain⟨b1,e⟩:=yao e
     rw[yaB b3,yaB b2,yaB b1]
     exact s3 _ _ b1 e
  have srow3:∀ {H3:Hp},SameT cd H' H3→Same (rm H Tb) (rm (rm (rm H3 cd) td) d0):=λs3 b u e=>by
   obtain⟨nb,e⟩:=yao e
   have b1:=yad e hcd0
   rw[yaB (yad e hd00),yaB (yad e htd),yaB b1]
   exact s3 _ _ b1 (st b u nb e)
  walk_at "rd"
  refine⟨xs,_,rfl,SqL.of (st _ _ nl hl),.ref ra,yak hy,ra,rfl,_,SqT.of er',rz,yak (j:=3) rfl,?_⟩
  have y10:=grow.2
  cases etd':rows[n].td with
  | true =>
   rw[etd',if_pos rfl] at iz
   rw[Is] at iz
   obtain⟨b,ws,rfl,eb,iw⟩:=iz
   rw[if_neg nofun]
   refine⟨ra,rfl,_,SqT.of er',.ref b,yak (j:=3) rfl,b,rfl,ws,.inl (SqL.of (yaK _ _ _ _ (srow _ _ eb))),λv0 hv0=>?_⟩
   refine fin v0 _ ws kc (Same.t (yae hv0 _)) hv0 yab ?_ (yae hv0 _ _ _ hkc) ?_ (by omega)
   ·unfold ylv
    rw[etd',if_pos rfl]
    exact iw.same (srow3 (Same.t (yae hv0 _)))
   ·unfold yh0
    rw[etd',if_pos rfl]
    exact hcn
  | false =>
   rw[etd',if_neg (by simp)] at iz
   rw[Is] at iz
   obtain⟨rfl,_⟩:=iz
   rw[if_pos rfl]
   refine⟨ra,rfl,_,SqT.of er',.ref rl,yak (j:=2) rfl,key,rl,cd,ys,rows[n].ps,mkF mk n,kc,_,rfl,el',ir.same srow,nrl,mok'.1.symm,grow.1,mok'.2,grow.2,hkc,hcn,by omega,λd H3 ws kc' s3 n3 e3 i3 c3 cn3 l3=>fin d H3 ws kc' s3 n3 e3 ?_ c3 ?_ (by have:=grow.2;omega)⟩
   ·unfold ylv
    rw[etd',if_neg (by simp)]
    refine i3.same λb u e=>?_
    obtain⟨b1,e⟩:=yao e
    obtain⟨b2,e⟩:=yao e
    obtain⟨b3,e⟩:=ya1 e
    rw[yaB (yad hd b3).symm,yaB (yad hkt b3).symm,yaB b2]
    exact e
   ·unfold yh0
    rw[etd',if_neg (by simp)]
    exact cn3
 ·rintro σ H' ⟨⟨o4,o5,rfl⟩,st,tk',hd,kc,kt,hkc,hcn,lkc,hkt,tl⟩
  rw[List.length_map,List.take_length] at hcn tl
  walk_at "rd"
  have nTb:∀ {b:Addr},H' b=none→b≠Tb:=λe z=>by
   obtain⟨p2,z2,_⟩:=id tk'
   rw[z,z2] at e
   cases e
  have hT:((xs.length:Int)).toNat=rows.length:=by omega
  refine⟨_,rfl,l,rfl,xs,.inl (SqL.of (st _ _ nl hl)),_,rfl,by omega,by omega,λD hD=>ydj (lo:=0) (n:=((xs.length:Int)).toNat) (λi σ H2=>(∃ o,σ=[o,some (.ref td)])∧Same H' H2∧∃ ys,H2 D=some (.lst ys)∧ys.length=i∧Iss (rm H2 D) ys (((List.range i).map (ycr key rows mk p.toList)).map lT)∧∀ y∈ys,∃ a,y=.ref a∧H a=none) ⟨⟨_,rfl⟩,yae hD _,[],yab,rfl,yay _,λy hy=>by cases hy⟩ ?_ ?_⟩
  ·rintro i σ H2 hi ⟨⟨o,rfl⟩,s2,ys,hD2,ly,iy,yn⟩
   rw[Int.zero_add]
   have hi':i < rows.length:=by omega
   obtain⟨v,ea,ha,hv⟩:=tl.some (i:=i) (by rw[yc0];exact ord.perm.mem_iff.mpr (List.mem_range.mpr hi'))
   have g:=DGet.k (k:=.inl (i:Int)) (s2 _ _ hkt)
   rw[ea] at g
   walk_at "rd"
   simp only[yg4,if_true]
   refine⟨_,g,ys,hD2,yam (by omega),⟨_,rfl⟩,yaJ hD s2,ys++[v],yab,by rw[List.length_append,ly];rfl,?_,λy hy=>?_⟩
   ·rw[List.range_succ,List.map_append,List.map_append]
    refine Iss.app (iy.same ycF) (yal (ha.same λb u e=>?_) (yay _))
    obtain⟨b3,e⟩:=yao e
    obtain⟨b2,e⟩:=yao e
    obtain⟨b1,e⟩:=yao e
    have bD:b≠D:=yad e hD
    rw[yaB bD,yai bD]
    exact s2 _ _ e
   ·rcases List.mem_append.mp hy with hy | hy
    ·exact yn y hy
    ·rw[List.mem_singleton.mp hy];exact hv
  ·rintro σ H2 ⟨⟨o,rfl⟩,s2,ys,hD2,ly,iy,yn⟩
   rw[hT] at iy
   refine q D H2 ys p (SameT.trans st (Same.t s2)) (tk'.same s2) ?_ hD2 iy yn tm
   cases z:H D with
   | none=>rfl
   | some u =>
    rw[st _ _ (nTb hD) z] at hD
    cases hD
def ykn:V→Knd
 | .non=>.non
 | .bl _=>.bl
 | .int _=>.int
 | _=>.str
theorem ygx {H:Hp}{v:V}(h:imV v=true):KndOf H v (ykn v):=by
 cases v with
 | non=>exact .non
 | bl b=>exact .bl b
 | int i=>exact .int i
 | str x=>exact .str x
 | _=>cases h
theorem ygw {v:V}(h:imV v=true):ykn v≠.tup∧ykn v≠.lst∧ykn v≠.dct:=by
 cases v<;>first | exact⟨nofun,nofun,nofun⟩ | cases h
def yrm:Sp:=λvs H Q _=>∃ x,vs=[x]∧imV x=true∧∀ H',Same H H'→Q .non H'
theorem yeX (T:Txt K mg t):FnOk P w K mg base CX0 1 t.f_zt t.d_zt ["_law_told"] yrm:=by
 have G_zt:FnOk P w K mg base CX0 0 t.f_zt t.d_zt ["_law_told"] ygQ:=never
 refine T.zt.F.ok sc_zt (λvs H Q E h=>?_) (λcdv A outer s H vs Q E hr h=>?_)
 ·obtain⟨x,rfl,_⟩:=h;rfl
 obtain⟨x,rfl,im,q⟩:=h
 have hu:=ya2 hr
 refine⟨_,(yah (ybM (ybj (yax yb7 rfl T.Ja yap (yaa (pv 0) (yaa (yaE (yaa (ycE rfl T.Jw ycc) (yaa (ycE rfl T.Jf yaR) yaf))) yaf)))) (yaj (ybf PassesOwn.never rfl (yjJ (pv 0)) (yan (i:=1) sc_zt.nd rfl (Or.inl rfl)) (yaj (yaO (yaq G_zt (hr.mono (by first | decide | omega)) rfl T.zt.M T.zt.F.kp T.zt.B .nil yaD (yaa (pv 1) yaf)))))) ya4) (yaj (ybM (ybj (yax ycn rfl T.Ja yap (yaa (pv 0) (yaa (ycE rfl T.Jf yaR) yaf)))) (yaj (yaO (ybU PySem.F.plainAttrs_list PySem.F.slot_list_append PySem.F.type_list_append yaI (pv 0) (yaa yaF yaf)))) ya4))),?_⟩
 walk_at "rd"
 have pl:=ygw im
 refine⟨by decide,λp hp=>⟨yab,ykn x,ygx im,pl.2.2,?_⟩⟩
 rw[if_neg (λz=>z.elim pl.1 pl.2.1)]
 refine⟨ykn x,ygx im,?_⟩
 rw[if_neg pl.2.1]
 exact q _ (yae hp _)
def ymF (sp:Sp):Sp:=λvs H Q _=>∃ (a:Addr) (xs:List V) (J:Nat→Hp→Prop),vs=[.ref a]∧H a=some (.tup xs)∧(∀ H',Same H H'→J 0 H')∧(∀ i H',J i H'→H' a=some (.tup xs))∧(∀ i x H' (Q':VK),xs[i]?=some x→J i H'→(∀ v H'',J (i+1) H''→Q' v H'')→sp [x] H' Q' E0)∧∀ H',J xs.length H'→Q .non H'
theorem yhx {j:Nat}{sp:Sp}(T:Txt K mg t)(G_zt:FnOk P w K mg base CX0 j t.f_zt t.d_zt ["_law_told"] sp):FnOk P w K mg base CX0 (j+1) t.f_zt t.d_zt ["_law_told"] (ymF sp):=by
 refine T.zt.F.ok sc_zt (λvs H Q E h=>?_) (λcdv A outer s H vs Q E hr h=>?_)
 ·obtain⟨a,xs,J,rfl,_⟩:=h;rfl
 obtain⟨a,xs,J,rfl,ha,j0,jt,js,q⟩:=h
 have hu:=ya2 hr
 refine⟨_,(yah (ybM (ybj (yax yb7 rfl T.Ja yap (yaa (pv 0) (yaa (yaE (yaa (ycE rfl T.Jw ycc) (yaa (ycE rfl T.Jf yaR) yaf))) yaf)))) (yaj (ybf PassesOwn.never rfl (yjJ (pv 0)) (yan (i:=1) sc_zt.nd rfl (Or.inl rfl)) (yaj (yaO (yaq G_zt (hr.mono (by first | decide | omega)) rfl T.zt.M T.zt.F.kp T.zt.B .nil yaD (yaa (pv 1) yaf)))))) ya4) (yaj (ybM (ybj (yax ycn rfl T.Ja yap (yaa (pv 0) (yaa (ycE rfl T.Jf yaR) yaf)))) (yaj (yaO (ybU PySem.F.plainAttrs_list PySem.F.slot_list_append PySem.F.type_list_append yaI (pv 0) (yaa yaF yaf)))) ya4))),?_⟩
 walk_at "rd"
 refine⟨by decide,λp hp=>⟨yab,.tup,.tup (yae hp _ _ _ ha),nofun,?_⟩⟩
 rw[if_pos (.inl rfl)]
 refine⟨_,rfl,a,rfl,⟨_,SqT.of (yae hp _ _ _ ha)⟩,ymB (xs:=xs) (λi σ H'=>(∃ o,σ=[some (.ref a),o])∧J i H') ⟨⟨_,rfl⟩,j0 _ (yae hp _)⟩ (λi σ H' _ h=>SqT.of (jt i H' h.2)) ?_ ?_⟩
 ·rintro i x σ H' hx ⟨⟨o,rfl⟩,ji⟩
  walk_at "rd"
  exact js i x H' _ hx ji λv H'' j'=>⟨⟨_,rfl⟩,j'⟩
 ·rintro σ H' ⟨⟨o,rfl⟩,ji⟩
  walk_at "rd"
  refine⟨.tup,.tup (jt _ _ ji),?_⟩
  rw[if_neg nofun]
  exact q _ ji
theorem yno {n:Nat}(h:n≤200000):n < sizeLine:=Nat.lt_of_le_of_lt h (by decide)
def ylZ (sp:Sp):Sp:=λvs H Q _=>∃ (a:Addr) (xs:List V) (J:Nat→Hp→Prop),vs=[.ref a]∧H a=some (.lst xs)∧(∀ H',Same H H'→J 0 H')∧(∀ i H',J i H'→H' a=some (.lst xs))∧(∀ i x H' (Q':VK),xs[i]?=some x→J i H'→(∀ v H'',J (i+1) H''→Q' v H'')→sp [x] H' Q' E0)∧xs.length≤100000∧∀ H',J xs.length H'→Q .non (upd H' a (.lst (xs++[.str "more"])))
theorem ye9 {j:Nat}{sp:Sp}(T:Txt K mg t)(G_zt:FnOk P w K mg base CX0 j t.f_zt t.d_zt ["_law_told"] sp):FnOk P w K mg base CX0 (j+1) t.f_zt t.d_zt ["_law_told"] (ylZ sp):=by
 refine T.zt.F.ok sc_zt (λvs H Q E h=>?_) (λcdv A outer s H vs Q E hr h=>?_)
 ·obtain⟨a,xs,J,rfl,_⟩:=h;rfl
 obtain⟨a,xs,J,rfl,ha,j0,jt,js,l9,q⟩:=h
 have hu:=ya2 hr
 refine⟨_,(yah (ybM (ybj (yax yb7 rfl T.Ja yap (yaa (pv 0) (yaa (yaE (yaa (ycE rfl T.Jw ycc) (yaa (ycE rfl T.Jf yaR) yaf))) yaf)))) (yaj (ybf PassesOwn.never rfl (yaX (pv 0)) (yan (i:=1) sc_zt.nd rfl (Or.inl rfl)) (yaj (yaO (yaq G_zt (hr.mono (by first | decide | omega)) rfl T.zt.M T.zt.F.kp T.zt.B .nil yaD (yaa (pv 1) yaf)))))) ya4) (yaj (ybM (ybj (yax ycn rfl T.Ja yap (yaa (pv 0) (yaa (ycE rfl T.Jf yaR) yaf)))) (yaj (yaO (ybU PySem.F.plainAttrs_list PySem.F.slot_list_append PySem.F.type_list_append yaI (pv 0) (yaa yaF yaf)))) ya4))),?_⟩
 walk_at "rd"
 refine⟨by decide,λp hp=>⟨yab,.lst,.lst (yae hp _ _ _ ha),nofun,?_⟩⟩
 rw[if_pos (.inr rfl)]
 refine⟨_,rfl,a,rfl,⟨_,SqL.of (yae hp _ _ _ ha)⟩,ydF (xs:=xs) (λi σ H'=>(∃ o,σ=[some (.ref a),o])∧J i H') ⟨⟨_,rfl⟩,j0 _ (yae hp _)⟩ (λi σ H' _ h=>SqL.of (jt i H' h.2)) ?_ ?_⟩
 ·rintro i x σ H' hx ⟨⟨o,rfl⟩,ji⟩
  walk_at "rd"
  exact js i x H' _ hx ji λv H'' j'=>⟨⟨_,rfl⟩,j'⟩
 ·rintro σ H' ⟨⟨o,rfl⟩,ji⟩
  walk_at "rd"
  refine⟨.lst,.lst (jt _ _ ji),?_⟩
  rw[if_pos rfl]
  exact⟨.inl ⟨rfl,_,SqL.of (jt _ _ ji)⟩,xs,jt _ _ ji,yno (by omega),q _ ji⟩
def yqV (sp sp':Sp):Sp:=λvs H Q E=>sp vs H Q E∨sp' vs H Q E
theorem ykY {j:Nat}{f:Addr}{fd:FuncData}{qs:List Str}{sp sp':Sp}(a:FnOk P w K mg base CX0 j f fd qs sp)(b:FnOk P w K mg base CX0 j f fd qs sp'):FnOk P w K mg base CX0 j f fd qs (yqV sp sp') :=
 ⟨λvs H Q E h=>h.elim (a.len vs H Q E) (b.len vs H Q E),λA outer s H args us vs Q E hr he hb hv h=>h.elim (a.run A outer s H args us vs Q E hr he hb hv) (b.run A outer s H args us vs Q E hr he hb hv)⟩
def Pl (H:Hp)(z:V):Prop:=imV z=true∨∃ b xs,z=.ref b∧H b=some (.tup xs)∧∀ y∈xs,imV y=true
theorem Pl.same {H H':Hp}{z:V}(s:∀ b xs,H b=some (.tup xs)→H' b=some (.tup xs))(h:Pl H z):Pl H' z :=
 h.imp (λh=>h) λ⟨b,xs,e,x,i⟩=>⟨b,xs,e,s _ _ x,i⟩
def yq2:Sp:=λvs H Q _=>∃ z,vs=[z]∧Pl H z∧∀ H',Same H H'→Q .non H'
theorem ykf (T:Txt K mg t):FnOk P w K mg base CX0 2 t.f_zt t.d_zt ["_law_told"] yq2:=by
 have g0:=yeX (P:=P) (w:=w) (base:=base) T
 refine(ykY (g0.mono (by decide)) (yhx T g0)).imp λvs H Q E h=>?_
 obtain⟨z,rfl,pl,q⟩:=h
 rcases pl with im | ⟨b,xs,rfl,e,im⟩
 ·exact .inl ⟨z,rfl,im,q⟩
 ·exact .inr ⟨b,xs,λ_ H'=>Same H H',rfl,e,λH' s=>s,λ_ H' s=>s _ _ e,λi x H' Q' hx s k=>⟨x,rfl,im x (List.mem_of_getElem? hx),λH'' s'=>k _ _ (s.trans s')⟩,λH' s=>q H' s⟩
def yow:Sp:=λvs H Q _=>∃ (l:Addr) (zs:List V),vs=[.ref l]∧H l=some (.lst zs)∧zs.length≤90000∧(∀ z∈zs,Pl H z)∧∀ H',SameT l H H'→H' l=some (.lst (zs++[.str "more"]))→Q .non H'
theorem yjE (T:Txt K mg t):FnOk P w K mg base CX0 3 t.f_zt t.d_zt ["_law_told"] yow:=by
 refine(ye9 T (ykf (P:=P) (w:=w) (base:=base) T)).imp λvs H Q E h=>?_
 obtain⟨l,zs,rfl,e,len,pl,q⟩:=h
 refine⟨l,zs,λ_ H'=>Same H H',rfl,e,λH' s=>s,λ_ H' s=>s _ _ e,λi x H' Q' hx s k=>⟨x,rfl,(pl x (List.mem_of_getElem? hx)).same λb xs y=>s _ _ y,λH'' s'=>k _ _ (s.trans s')⟩,by omega,λH' s=>q _ (ycM (Same.t s)) yab⟩
def AlR (sp:Sp)(tr:Th):Prop:=(∃ v,tr=.im v)∨∃ ts,(tr=.ls ts∨tr=.tp ts)∧ts.length≤500∧∀ u∈ts,∀ (x y:V) (H:Hp) (Q:VK),Is H x u→Is H y u→(∀ H',Same H H'→Q (.bl true) H')→sp [x,y] H Q E0
def yni (sp:Sp):Sp:=λvs H Q _=>∃ x y tr,vs=[x,y]∧AlR sp tr∧Is H x tr∧Is H y tr∧∀ H',Same H H'→Q (.bl true) H'
theorem yoT {v:V}(h:imV v=true):eqT (.vl v) (.vl v)=true:=by
 cases v with
 | non=>simp[eqT,eqV]
 | bl b=>cases b<;>simp[eqT,eqV]
 | int i=>simp[eqT,eqV]
 | str x=>simp[eqT,eqV]
 | _=>cases h
theorem ylu {K:PySem.W.Frag}{H:Hp}{v:V}(h:imV v=true):Rep K H v (.vl v):=by
 rw[Rep]
 refine⟨rfl,?_⟩
 cases v<;>first | rfl | cases h
theorem yjf (n:Nat):(List.replicate n true).all id=true:=by simp
theorem yhf {j:Nat}{sp:Sp}(T:Txt K mg t)(G_zE:FnOk P w K mg base CX0 j t.f_zE t.d_zE ["_law_found","_law_due"] sp):FnOk P w K mg base CX0 (j+1) t.f_zE t.d_zE ["_law_found","_law_due"] (yni sp):=by
 refine T.zE.F.ok yoD (λvs H Q E h=>?_) (λcdv A outer s H vs Q E hr h=>?_)
 ·obtain⟨x,y,tr,rfl,_⟩:=h;rfl
 obtain⟨x,y,tr,rfl,al,ix,iy,q⟩:=h
 have hu:=ya2 hr
 refine⟨_,(yah (ybM (ybj (yax yb7 rfl T.Ja yap (yaa (pv 1) (yaa (yaE (yaa (ycE rfl T.Jw ycc) (yaa (ycE rfl T.Jf yaR) yaf))) yaf)))) (yah (ybM (PW.pt (yk6 (yaL ymU (yax ycn rfl T.Ja yap (yaa (pv 0) (yaa (ycE rfl T.Jf yaR) yaf))) (yax ycn rfl T.Ja yap (yaa (pv 1) (yaa (ycE rfl T.Jf yaR) yaf))) (yaH _)) (yhn (yhH (ybj (yax yb7 rfl T.Ja yap (yaa (pv 0) (yaa (yaE (yaa (ycE rfl T.Jw ycc) (yaa (ycE rfl T.Jf yaR) yaf))) yaf)))))))) (yaj (yaG yco)) ya4) (yaj (yaG (yd6 (ybT yfe (yax yg9 rfl T.Jr PySem.boot_len (yaa (pv 0) yaf)) (yax yg9 rfl T.Jr PySem.boot_len (yaa (pv 1) yaf)) (yaH _)) (yd0 (yax (yla rfl) rfl T.QA ykL (yaa (yb5 (yaQ (NB:=["_law_one","_law_other"]) (cap:=[none,none]) rfl) rfl (yiK rfl T.Qp (yaa (pv 0) (yaa (pv 1) yaf))) (λ_ _ _ _=>by exact(show PG _ _ (ymP K 2 (yed (yce 0) (yed (yce 1) ymO))) from yca (n:=2) rfl (yaC (yan (i:=0) (show List.Nodup (["_law_one","_law_other"]:List Str) by decide) rfl (Or.inl rfl)) (yaC (yan (i:=1) (show List.Nodup (["_law_one","_law_other"]:List Str) by decide) rfl (Or.inl rfl)) ybG)))) (λ_ _ _ _=>yaT) (λ_ _ _ _=>(yaq G_zE (hr.mono (by first | decide | omega)) rfl T.zE.M T.zE.F.kp T.zE.B .nil yaD (yaa (pv 0) (yaa (pv 1) yaf))))) yaf))))))) ya4) (yaj (yaG (yd6 (ybT yfe (yax ycn rfl T.Ja yap (yaa (pv 0) (yaa (ycE rfl T.Qa ygo) yaf))) (yax ycn rfl T.Ja yap (yaa (pv 1) (yaa (ycE rfl T.Qa ygo) yaf))) (yaH _)) (yd0 (ybT (ycb hu) (pv 0) (pv 1) (yaH _))))))),?_⟩
 walk_at "rd"
 rcases al with ⟨v,rfl⟩ | ⟨ts,al,len,low⟩
 ·rw[Is] at ix iy
  obtain⟨rfl,im⟩:=ix
  obtain⟨rfl,_⟩:=iy
  have pl:=ygw im
  refine⟨by decide,λp hp=>⟨yab,ykn y,ygx im,pl.2.2,?_⟩⟩
  rw[if_neg (λz=>z.elim pl.1 pl.2.1)]
  refine⟨ykn y,ygx im,ykn y,ygx im,?_⟩
  rw[if_pos rfl]
  refine⟨.vl y,ylu im,.vl y,ylu im,ymN,ymN,?_⟩
  rw[yoT im]
  exact q _ (yae hp _)
 ·obtain⟨a,b,xs,ys,rfl,rfl,isx,isy,lk,hab⟩:∃ (a b:Addr) (xs ys:List V),x=.ref a∧y=.ref b∧Iss H xs ts∧Iss H ys ts∧(kT tr=.tup∨kT tr=.lst)∧((H a=some (.lst xs)∧H b=some (.lst ys))∨(H a=some (.tup xs)∧H b=some (.tup ys))):=by
   rcases al with rfl | rfl
   ·rw[Is] at ix iy
    obtain⟨a,xs,rfl,ea,ia⟩:=ix
    obtain⟨b,ys,rfl,eb,ib⟩:=iy
    exact⟨a,b,xs,ys,rfl,rfl,ia,ib,.inr rfl,.inl ⟨ea,eb⟩⟩
   ·rw[Is] at ix iy
    obtain⟨a,xs,rfl,ea,ia⟩:=ix
    obtain⟨b,ys,rfl,eb,ib⟩:=iy
    exact⟨a,b,xs,ys,rfl,rfl,ia,ib,.inl rfl,.inr ⟨ea,eb⟩⟩
  have nd:kT tr≠.dct:=λz=>by
   rcases lk with e | e
   ·rw[e] at z;cases z
   ·rw[e] at z;cases z
  refine⟨by decide,λp hp=>?_⟩
  have s1:=yae hp (.tup [V.ty "tuple",V.ty "list"])
  refine⟨yab,kT tr,(iy.same s1).knd,nd,?_⟩
  rw[if_pos lk]
  refine⟨_,(ix.same s1).knd,_,(iy.same s1).knd,?_⟩
  rw[if_neg (λz=>z rfl)]
  refine⟨by decide,λp1 h1=>?_⟩
  have s2:=s1.trans (yae h1 (.tup [V.ty "tuple",V.ty "list"]))
  refine⟨yab,_,(ix.same s2).knd,nd,?_⟩
  rw[if_neg (by rcases lk with e | e<;>rw[e]<;>decide)]
  generalize upd (upd H p (.tup [V.ty "tuple",V.ty "list"])) p1 (.tup [V.ty "tuple",V.ty "list"])=H2 at s2 ⊢
  have lx:=isx.len
  have ly:=isy.len
  have turn:∀ (F:Addr) (i:Nat) (u v:V) (H':Hp) (c:Addr),H2 F=none→xs[i]?=some u→ys[i]?=some v→Same H2 H'→H' F=some (.lst ((List.replicate i true).map V.bl))→H' c=none→∀ o1 o2:Option V,
    ymP K 2 (yed (yce 0) (yed (yce 1) ymO)) (.ref c) [o1,o2] (upd H' c (.tup [u,v])) fun σ2 H2'=>yg4 σ2 H2' λb H3=>if b=true then yej sp [] E0 (ybS (ycv 0) (ybS (ycv 1) ygB)) σ2 H3 λy H4=>∃ ys,H4 F=some (.lst ys)∧ys.length < sizeLine∧(∃ o1 o2,σ2=[o1,o2])∧Same H2 (upd H4 F (.lst (ys++[y])))∧upd H4 F (.lst (ys++[y])) F=some (.lst ((List.replicate (i+1) true).map V.bl)) else (∃ o1 o2,σ2=[o1,o2])∧Same H2 H3∧H3 F=some (.lst ((List.replicate (i+1) true).map V.bl)):=by
   intro F i u v H' c hF hx hy sj hF' hc o1 o2
   have hi:i < ts.length:=by have:=(List.getElem?_eq_some_iff.mp hx).1;omega
   obtain⟨u',eu,iu⟩:=isx.at' i hi
   obtain⟨v',ev,iv⟩:=isy.at' i hi
   rw[hx] at eu
   rw[hy] at ev
   cases eu
   cases ev
   have s3:=yae hc (.tup [u,v])
   have s23:=(s2.trans sj).trans s3
   walk_at "rd"
   refine⟨_,SqT.of yab,rfl,_,_,rfl,_,_,rfl,rfl,?_⟩
   simp only[yg4,if_true]
   refine low ts[i] (List.getElem_mem hi) u v _ _ (iu.same s23) (iv.same s23) λH4 s4=>⟨_,s4 _ _ (s3 _ _ hF'),?_,⟨_,rfl⟩,yaJ hF ((sj.trans s3).trans s4),?_⟩
   ·rw[List.length_map,List.length_replicate]
    exact yam (by omega)
   ·rw[yab,List.map_replicate,← List.replicate_succ',List.replicate_succ]
  rcases hab with ⟨ea,eb⟩ | ⟨ea,eb⟩
  ·have ea2:=s2 _ _ ea
   have eb2:=s2 _ _ eb
   refine⟨_,.inl ⟨_,SqL.of ea2,rfl⟩,_,.inl ⟨_,SqL.of eb2,rfl⟩,?_⟩
   rw[if_pos (by rw[lx,ly])]
   refine⟨_,rfl,_,rfl,a,b,rfl,.inl ⟨⟨_,SqL.of ea2⟩,⟨_,SqL.of eb2⟩,λF hF=>ykk (xs:=xs) (ys:=ys) (λi σ H'=>(∃ o1 o2,σ=[o1,o2])∧Same H2 H'∧H' F=some (.lst ((List.replicate i true).map V.bl))) ⟨⟨_,_,rfl⟩,yae hF _,yab⟩ (λi σ H' h=>⟨SqL.of (h.2.1 _ _ ea2),SqL.of (h.2.1 _ _ eb2)⟩) ?_ ?_⟩⟩
   ·rintro i u v σ H' c hx hy ⟨⟨o1,o2,rfl⟩,sj,hF'⟩ hc
    exact turn F i u v H' c hF hx hy sj hF' hc o1 o2
   ·rintro i σ H' hi ⟨⟨o1,o2,rfl⟩,sj,hF'⟩
    refine⟨F,rfl,_,SqL.of hF',?_⟩
    rw[yjf]
    exact q _ (s2.trans sj)
  ·have ea2:=s2 _ _ ea
   have eb2:=s2 _ _ eb
   refine⟨_,.inr ⟨_,SqT.of ea2,rfl⟩,_,.inr ⟨_,SqT.of eb2,rfl⟩,?_⟩
   rw[if_pos (by rw[lx,ly])]
   refine⟨_,rfl,_,rfl,a,b,rfl,.inr ⟨⟨_,SqT.of ea2⟩,⟨_,SqT.of eb2⟩,λF hF=>yjR (xs:=xs) (ys:=ys) (by rw[lx,ly]) (λi σ H'=>(∃ o1 o2,σ=[o1,o2])∧Same H2 H'∧H' F=some (.lst ((List.replicate i true).map V.bl))) ⟨⟨_,_,rfl⟩,yae hF _,yab⟩ (λi σ H' h=>⟨SqT.of (h.2.1 _ _ ea2),SqT.of (h.2.1 _ _ eb2)⟩) ?_ ?_⟩⟩
   ·rintro i u v σ H' c hx hy ⟨⟨o1,o2,rfl⟩,sj,hF'⟩ hc
    exact turn F i u v H' c hF hx hy sj hF' hc o1 o2
   ·rintro σ H' ⟨⟨o1,o2,rfl⟩,sj,hF'⟩
    refine⟨F,rfl,_,SqL.of hF',?_⟩
    rw[yjf]
    exact q _ (s2.trans sj)
def OkT:Nat→Th→Prop
 | 0,tr=>∃ v,tr=.im v
 | k+1,tr=>(∃ v,tr=.im v)∨∃ ts,(tr=.ls ts∨tr=.tp ts)∧ts.length≤500∧∀ u∈ts,OkT k u
def ymr (k:Nat):Sp:=λvs H Q _=>∃ x y tr,vs=[x,y]∧OkT k tr∧Is H x tr∧Is H y tr∧∀ H',Same H H'→Q (.bl true) H'
theorem ylG (T:Txt K mg t):∀ k:Nat,FnOk P w K mg base CX0 (k+1) t.f_zE t.d_zE ["_law_found","_law_due"] (ymr k)
 | 0=>by
  refine(yhf T (j:=0) (sp:=ygQ) never).imp λvs H Q E h=>?_
  obtain⟨x,y,tr,rfl,ok,ix,iy,q⟩:=h
  exact⟨x,y,tr,rfl,.inl ok,ix,iy,q⟩
 | k+1=>by
  refine(yhf T (ylG T k)).imp λvs H Q E h=>?_
  obtain⟨x,y,tr,rfl,ok,ix,iy,q⟩:=h
  refine⟨x,y,tr,rfl,ok.imp id λ⟨ts,e,l,g⟩=>⟨ts,e,l,λu hu x y H Q ix iy q=>?_⟩,ix,iy,q⟩
  exact⟨x,y,u,rfl,g u hu,ix,iy,q⟩
def ixV (st:Int):Int:=([1,3,5,0,2,4,6]:List Int).getD st.toNat 0
theorem ymn {key st:Int}(k0:-7≤key)(k7:key≤7)(s0:0≤st)(s7:st < 7):(if ixV st < key then 1 else 0) - (if 6 - ixV st < 0 - key then 1 else 0)=klV key st:=by
 have:st=0∨st=1∨st=2∨st=3∨st=4∨st=5∨st=6:=by omega
 unfold klV
 rcases this with rfl | rfl | rfl | rfl | rfl | rfl | rfl<;>simp only[ixV,ynY,fifs,Int.toNat_zero,Int.toNat_one,Int.reduceToNat,List.getD_cons_zero,List.getD_cons_succ]<;>split<;>split<;>omega
theorem ypt {st:Int}(s0:0≤st)(s7:st < 7):∃ j:Nat,(j:Int)=ixV st∧j < ([V.int 3,V.int 0,V.int 4,V.int 1,V.int 5,V.int 2,V.int 6]:List V).length∧(∀ z,([V.int 3,V.int 0,V.int 4,V.int 1,V.int 5,V.int 2,V.int 6]:List V)[j]?=some z→eqV z (V.int st)=true)∧∀ i z,i < j→([V.int 3,V.int 0,V.int 4,V.int 1,V.int 5,V.int 2,V.int 6]:List V)[i]?=some z→eqV z (V.int st)=false:=by
 have:st=0∨st=1∨st=2∨st=3∨st=4∨st=5∨st=6:=by omega
 have low:∀ (k i:Nat),i < k→k≤6→i=0∨i=1∨i=2∨i=3∨i=4∨i=5:=by omega
 rcases this with rfl | rfl | rfl | rfl | rfl | rfl | rfl
 ·refine⟨1,rfl,by decide,λz e=>by cases e;rfl,λi z hi e=>?_⟩
  rcases low _ i hi (by decide) with rfl | rfl | rfl | rfl | rfl | rfl<;>first | omega | (cases e;rfl)
 ·refine⟨3,rfl,by decide,λz e=>by cases e;rfl,λi z hi e=>?_⟩
  rcases low _ i hi (by decide) with rfl | rfl | rfl | rfl | rfl | rfl<;>first | omega | (cases e;rfl)
 ·refine⟨5,rfl,by decide,λz e=>by cases e;rfl,λi z hi e=>?_⟩
  rcases low _ i hi (by decide) with rfl | rfl | rfl | rfl | rfl | rfl<;>first | omega | (cases e;rfl)
 ·refine⟨0,rfl,by decide,λz e=>by cases e;rfl,λi z hi e=>?_⟩
  rcases low _ i hi (by decide) with rfl | rfl | rfl | rfl | rfl | rfl<;>first | omega | (cases e;rfl)
 ·refine⟨2,rfl,by decide,λz e=>by cases e;rfl,λi z hi e=>?_⟩
  rcases low _ i hi (by decide) with rfl | rfl | rfl | rfl | rfl | rfl<;>first | omega | (cases e;rfl)
 ·refine⟨4,rfl,by decide,λz e=>by cases e;rfl,λi z hi e=>?_⟩
  rcases low _ i hi (by decide) with rfl | rfl | rfl | rfl | rfl | rfl<;>first | omega | (cases e;rfl)
 ·refine⟨6,rfl,by decide,λz e=>by cases e;rfl,λi z hi e=>?_⟩
  rcases low _ i hi (by decide) with rfl | rfl | rfl | rfl | rfl | rfl<;>first | omega | (cases e;rfl)
def yge:Sp:=λvs H Q _=>∃ key st,vs=[.int key,.int st]∧-7≤key∧key≤7∧0≤st∧st < 7∧∀ H',Same H H'→Q (.int (klV key st)) H'
theorem yor (T:Txt K mg t):FnOk P w K mg base CX0 1 t.f_zf t.d_zf ["_law_key","_law_step"] yge:=by
 refine T.zf.F.ok sc_zf (λvs H Q E h=>?_) (λcdv A outer s H vs Q E hr h=>?_)
 ·obtain⟨key,st,rfl,_⟩:=h;rfl
 obtain⟨key,st,rfl,k0,k7,s0,s7,q⟩:=h
 have hu:=ya2 hr
 refine⟨_,(yah (yas (i:=2) sc_zf.nd rfl (Or.inl rfl) (yaZ (yaa yag (yaa yag (yaa yag (yaa yag (yaa yag (yaa yag (yaa yag yaf))))))))) (yaj (yaG (yau ycR (ybu yec rfl T.Qb ye3 (yaa (ybT ymk (ybU PySem.F.plainAttrs_list PySem.F.slot_list_index PySem.F.type_list_index ye6 (pv 2) (yaa (pv 1) yaf)) (pv 0) (yaH _)) yaf)) (ybu yec rfl T.Qb ye3 (yaa (ybT ymk (yau ycR yag (ybU PySem.F.plainAttrs_list PySem.F.slot_list_index PySem.F.type_list_index ye6 (pv 2) (yaa (pv 1) yaf))) (yau ycR yag (pv 0)) (yaH _)) yaf)))))),?_⟩
 walk_at "rd"
 have ix:=ypt s0 s7
 obtain⟨j,ej,hj,hit,hno⟩:=ix
 refine⟨by decide,λp hp=>?_⟩
 have t1:tyV K "list" (V.ref p) (upd H p (.lst [V.int 3,V.int 0,V.int 4,V.int 1,V.int 5,V.int 2,V.int 6])):=.inl ⟨rfl,_,SqL.of yab⟩
 refine⟨t1,_,SqL.of yab,rfl,rfl,j,hj,hit,hno,t1,_,SqL.of yab,rfl,rfl,j,hj,hit,hno,?_⟩
 rw[ej,ymn k0 k7 s0 s7]
 exact q _ (yae hp _)
def mo (v:Int):Nat→Int
 | 0=>96 / v
 | j+1=>mo v j / 2
def gr (v:Int):Nat→Int
 | 0=>96 / v
 | j+1=>gr v j+mo v (j+1)
abbrev Pc:=Int×Nat
def pcs:List Pc:=[(1,0),(2,0),(2,1),(4,0),(4,1),(8,0),(8,1),(16,0),(16,1),(32,0),(4,2),(2,2),(8,2)]
def pg (p:Pc):Int:=gr p.1 p.2
def bT (b:Bool):Th:=.im (.bl b)
def pcT (p:Pc):Th:=.tp [nT p.1,nT p.2,bT false]
theorem Is.pc {H:Hp}{x:V}{p:Pc}(h:Is H x (pcT p)):∃ a,x=.ref a∧H a=some (.tup [.int p.1,.int p.2,.bl false]):=by
 unfold pcT at h
 rw[Is] at h
 obtain⟨a,ys,rfl,e,is⟩:=h
 rw[Iss] at is
 obtain⟨y0,r0,rfl,i0,is⟩:=is
 rw[Iss] at is
 obtain⟨y1,r1,rfl,i1,is⟩:=is
 rw[Iss] at is
 obtain⟨y2,r2,rfl,i2,is⟩:=is
 rw[Iss] at is
 rw[nT,Is] at i0 i1
 rw[bT,Is] at i2
 rw[is,i0.1,i1.1,i2.1] at e
 exact⟨a,rfl,e⟩
theorem yg6 {q:Pc→Prop}(h:q (1,0)∧q (2,0)∧q (2,1)∧q (4,0)∧q (4,1)∧q (8,0)∧q (8,1)∧q (16,0)∧q (16,1)∧q (32,0)∧q (4,2)∧q (2,2)∧q (8,2)):∀ p∈pcs,q p:=by
 intro p hp
 simp only[pcs,List.mem_cons,List.not_mem_nil,or_false] at hp
 rcases hp with rfl | rfl | rfl | rfl | rfl | rfl | rfl | rfl | rfl | rfl | rfl | rfl | rfl
 all_goals simp_all only
theorem ylE:∀ p∈pcs,1≤p.1∧p.1≤32∧p.2≤2:=yg6 (by decide)
theorem yfq:∀ p∈pcs,3≤pg p∧pg p≤96∧pg p%3=0:=yg6 (by decide)
def ycW:Sp:=λvs H Q _=>∃ c k,vs=[.int c,.int k]∧(0≤k∧k≤1000)∧∀ n,0≤n→n≤100000000→Q (.int n) H
theorem yoy (T:Txt K mg t):FnOk P w K mg base CX0 1 t.f_zH t.d_zH ["_law_cell","_law_k"] ycW:=by
 refine T.zH.F.ok sc_zH (λvs H Q E h=>?_) (λcdv A outer s' H vs Q E hr h=>?_)
 ·obtain⟨c,k,rfl,_⟩:=h;rfl
 obtain⟨c,k,rfl,hk,q⟩:=h
 refine⟨_,(yah (yas (i:=2) sc_zH.nd rfl (Or.inl rfl) (yau ybt (yau ybt (yau ybw (pv 0) (yau ynW yag yag)) (yau ybW yag (pv 1))) yag)) (yaj (yaG (yau yaP (yau ybw (yau ybW (yau ybw (yau ybW (pv 2) (pv 2)) yag) yag) yag) yag)))),?_⟩
 walk_at "rd"
 have e:(10:Int) ^ Int.toNat 30=1000000000000000000000000000000:=by decide
 refine⟨⟨by decide,by decide,by decide⟩,by rw[e];decide,CMul.ok (.inl ⟨by decide,by decide⟩),?_,CMul.ok (.inr ⟨by decide,by decide⟩),⟨by decide,by decide⟩,q _ (by omega) (by omega)⟩
 rw[e]
 have h0:=Int.emod_nonneg c (show(1000000000000000000000000000000:Int)≠0 by decide)
 have h1:=Int.emod_lt_of_pos c (show(0:Int) < 1000000000000000000000000000000 by decide)
 generalize c%1000000000000000000000000000000=m at h0 h1
 refine ylX (n:=200) ?_ (by decide)
 rw[PySem.intBits_le_iff]
 omega
def yc2:Sp:=λvs H Q _=>∃ x p,vs=[x]∧p∈pcs∧Is H x (pcT p)∧Q (.int (pg p)) H
theorem ypr (T:Txt K mg t):FnOk P w K mg base CX0 1 t.f_zr t.d_zr ["piece"] yc2:=by
 refine T.zr.F.ok sc_zr (λvs H Q E h=>?_) (λcdv A outer s' H vs Q E hr h=>?_)
 ·obtain⟨x,p,rfl,_⟩:=h;rfl
 have hu:=ya2 hr
 obtain⟨x,⟨v,d⟩,rfl,hp,ix,q⟩:=h
 obtain⟨h0,h1,h2⟩:=ylE _ hp
 obtain⟨p,rfl,e⟩:=ix.pc
 refine⟨_,(yah (yas (i:=1) sc_zr.nd rfl (Or.inl rfl) (yau yaP (yns rfl T.Qc) (yav yaA (pv 0) yag (λ_ _=>rfl)))) (yah (yas (i:=2) sc_zr.nd rfl (Or.inl rfl) (pv 1)) (yah (ybf PassesOwn.never rfl (ybX rfl T.Jj (yaa (yav yaA (pv 0) yag (λ_ _=>rfl)) yaf)) (yan (i:=3) sc_zr.nd rfl (Or.inl rfl)) (yah (yas (i:=1) sc_zr.nd rfl (Or.inl rfl) (yau yaP (pv 1) yag)) (yaj (yiy (i:=2) sc_zr.nd rfl (Or.inl rfl) (pv 1) yjd)))) (yaj (yaG (ybm (ybj (yav yaA (pv 0) yag (λ_ _=>rfl))) (yau yaP (yau ybW (pv 2) yag) yag) (pv 2))))))),?_⟩
 walk_at "rd"
 have hq:=SqT.of (K:=K) e
 refine⟨_,hq,_,rfl,v,rfl,⟨by omega,by omega⟩,?_⟩
 refine⟨_,rfl,p,_,_,_,rfl,rfl,hq,rfl,_,rfl,by omega,by omega,yfS (lo:=0) (n:=((d:Nat):Int).toNat) (λj σ H'=>(∃ x3,σ=[some (.ref p),some (.int (mo v j)),some (.int (gr v j)),x3])∧H'=H) ⟨⟨none,rfl⟩,rfl⟩ ?_ ?_⟩
 ·rintro j σ H' hj ⟨⟨x3,rfl⟩,rfl⟩
  walk_at "rd"
  exact⟨⟨by decide,by decide⟩,rfl,rfl⟩
 ·rintro σ H' ⟨⟨x3,rfl⟩,rfl⟩
  walk_at "rd"
  refine⟨_,hq,_,rfl,false,rfl,?_⟩
  rw[if_neg (by decide)]
  exact q
def ybK:Sp:=λvs H Q _=>∃ x p,vs=[x]∧p∈pcs∧Is H x (pcT p)∧∀ H',Same H H'→Q (.int (pg p)) H'
def lg3 (p:Pc):Int:=[96 / p.1,96 / p.1*3 / 2,96 / p.1*7 / 4].getD p.2 0
theorem yoL:∀ p∈pcs,lg3 p=pg p:=yg6 (by decide)
theorem yod (T:Txt K mg t):FnOk P w K mg base CX0 1 t.f_zy t.d_zy ["_law_piece"] ybK:=by
 refine T.zy.F.ok sc_zy (λvs H Q E h=>?_) (λcdv A outer s' H vs Q E hr h=>?_)
 ·obtain⟨x,p,rfl,_⟩:=h;rfl
 have hu:=ya2 hr
 obtain⟨x,⟨v,d⟩,rfl,hp,ix,q⟩:=h
 obtain⟨h0,h1,h2⟩:=ylE _ hp
 have eg:=yoL _ hp
 obtain⟨p,rfl,e⟩:=ix.pc
 refine⟨_,(yah (yas (i:=1) sc_zy.nd rfl (Or.inl rfl) (yau yaP yag (yav yaA (pv 0) yag (λ_ _=>rfl)))) (yah (yas (i:=1) sc_zy.nd rfl (Or.inl rfl) (yav yaz (yaZ (yaa (pv 1) (yaa (yau yaP (yau ybW (pv 1) yag) yag) (yaa (yau yaP (yau ybW (pv 1) yag) yag) yaf)))) (yav yaA (pv 0) yag (λ_ _=>rfl)) (λ_ _=>rfl))) (yaj (yaG (ybm (ybj (yav yaA (pv 0) yag (λ_ _=>rfl))) (yau yaP (yau ybW (pv 1) yag) yag) (pv 1)))))),?_⟩
 walk_at "rd"
 have hq:=SqT.of (K:=K) e
 refine⟨_,hq,_,rfl,v,rfl,⟨by omega,by omega⟩,CMul.ok (.inr ⟨by decide,by decide⟩),⟨by decide,by decide⟩,CMul.ok (.inr ⟨by decide,by decide⟩),⟨by decide,by decide⟩,by decide,λl hl=>?_⟩
 have s1:=yae hl (.lst [V.int (96 / v),V.int (96 / v*3 / 2),V.int (96 / v*7 / 4)])
 refine⟨_,SqT.of (s1 _ _ e),_,yak (j:=1) rfl,_,_,rfl,SqL.of yab,.int (lg3 (v,d)),?_,_,SqT.of (s1 _ _ e),_,yak (j:=2) rfl,false,rfl,?_⟩
 ·refine yak (j:=d) ?_
  have:d=0∨d=1∨d=2:=by have:d≤2:=h2;omega
  rcases this with rfl | rfl | rfl<;>rfl
 ·rw[if_neg (by decide),eg]
  exact q _ s1
def nw (Hs H H':Hp):Hp:=λb=>if H b=none then H' b else Hs b
theorem yaw {Hs H H':Hp}{b:Addr}(h:H b=none):nw Hs H H' b=H' b:=by unfold nw;rw[if_pos h]
theorem yaM {Hs H H':Hp}{b:Addr}{u:HO}(h:H b=some u):nw Hs H H' b=Hs b:=by unfold nw;rw[if_neg (by rw[h];simp)]
theorem yjU {Hs H H':Hp}(a:Same Hs H)(b:Same H H'):Same (nw Hs H H') H':=λc u e=>by
 cases h:H c with
 | none=>rw[yaw h] at e;exact e
 | some v=>rw[yaM h] at e;exact b _ _ (a _ _ e)
theorem yeP {Hs H H':Hp}(a:Same Hs H):Same Hs (nw Hs H H'):=λc u e=>by rw[yaM (a _ _ e)];exact e
theorem ycx {Hs H H' H'':Hp}(s:Same H' H''):Same (nw Hs H H') (nw Hs H H''):=λc u e=>by
 cases h:H c with
 | none=>rw[yaw h] at e ⊢;exact s _ _ e
 | some v=>rw[yaM h] at e ⊢;exact e
def Al {α:Type}(S:V→α→Prop)(xs:List V)(us:List α):Prop:=xs.length=us.length∧∀ i (h:i < us.length),∃ x,xs[i]?=some x∧S x us[i]
section
variable {α β:Type}
theorem Al.nil {S:V→α→Prop}:Al S [] []:=⟨rfl,λ_ h=>nomatch h⟩
theorem Al.imp {S S':V→α→Prop}{xs:List V}{us:List α}(h:Al S xs us)(k:∀ x u,u∈us→S x u→S' x u):Al S' xs us :=
 ⟨h.1,λi hi=>let ⟨x,e,s⟩:=h.2 i hi;⟨x,e,k _ _ (List.getElem_mem hi) s⟩⟩
theorem Al.snoc {S:V→α→Prop}{xs:List V}{us:List α}{x:V}{u:α}(h:Al S xs us)(s:S x u):Al S (xs++[x]) (us++[u]):=by
 refine⟨by rw[List.length_append,List.length_append,h.1];rfl,λi hi=>?_⟩
 rw[List.length_append,List.length_singleton] at hi
 by_cases e:i < us.length
 ·obtain⟨y,e1,e2⟩:=h.2 i e
  exact⟨y,by rw[List.getElem?_append_left (by rw[h.1];exact e)];exact e1,by rw[List.getElem_append_left e];exact e2⟩
 ·have:i=us.length:=by omega
  subst this
  refine⟨x,by rw[List.getElem?_append_right (by rw[h.1];exact Nat.le_refl _),h.1];simp,by simpa using s⟩
theorem ydW {H:Hp}{f:α→Th}:∀ {xs:List V} {us:List α},Iss H xs (us.map f)→Al (λx u=>Is H x (f u)) xs us:=λ{xs us} h =>
 ⟨by rw[h.len,List.length_map],λi hi=>by
  obtain⟨x,e,s⟩:=h.at' i (by rw[List.length_map];exact hi)
  rw[List.getElem_map] at s
  exact⟨x,e,s⟩⟩
theorem ydf {H:Hp}{f:α→Th}{xs:List V}{us:List α}(h:Al (λx u=>Is H x (f u)) xs us):Iss H xs (us.map f):=by
 refine ylM (by rw[List.length_map,h.1]) λj u e=>?_
 rw[List.getElem?_map] at e
 have hj:j < us.length:=by
  cases z:us[j]? with
  | none=>rw[z] at e;cases e
  | some v=>exact(List.getElem?_eq_some_iff.mp z).1
 rw[List.getElem?_eq_getElem hj] at e
 obtain⟨x,e1,s⟩:=h.2 j hj
 cases e
 exact⟨x,e1,s⟩
def yk2 (R:Hp→V→α→Prop):Prop:=∀ {H H':Hp} {x:V} {u:α},Same H H'→R H x u→R H' x u
theorem ydc {f:α→Th}:yk2 (λH x u=>Is H x (f u)):=λs h=>h.same s
theorem yel {K:PySem.W.Frag}{a D:Addr}{xs:List V}{us:List α}{te:TE}{Fin:Hp→Prop}{o:Option V}{r:St}{H Hs:Hp}{R:Hp→V→α→Prop}{S:Hp→V→β→Prop}(hR:yk2 R)(hS:yk2 S)(f:α→β)
  (sH:Same Hs H) (ha:H a=some (.lst xs)) (al:Al (R Hs) xs us) (hD:H D=none) (hz:us.length≤900)
  (hte:∀ x u (H' Hs':Hp) (Q':VK),u∈us→Same Hs Hs'→Same H H'→Same Hs' H'→R Hs' x u→(∀ y H'',Same H' H''→S (nw Hs' H' H'') y (f u)→Q' y H'')→te (some x :: r) H' Q')
  (fin:∀ ys H',Same H H'→H' D=some (.lst ys)→Al (S (nw Hs H (rm H' D))) ys (us.map f)→Fin H') :
  ∃ W:Nat→Nat→St→Hp→Prop,(∃ m,W 0 m (o :: r) (upd H D (.lst [])))∧yey (Itl K a) (yce 0) yg4 te D Fin W:=by
 refine ybb (xs:=xs) (λi σ' H'=>(∃ o,σ'=o :: r)∧Same H H'∧∃ ys,H' D=some (.lst ys)∧Al (S (nw Hs H (rm H' D))) ys ((us.take i).map f)) ⟨⟨_,rfl⟩,yae hD _,[],yab,Al.nil⟩ (λ_ _ _ _ h=>SqL.of (h.2.1 _ _ ha)) ?_ ?_
 ·rintro i x σ' H' N hN hx ⟨⟨o,rfl⟩,sm,ys,hd,as⟩
  have hi:i < us.length:=by have:=(List.getElem?_eq_some_iff.mp hx).1;rw[al.1] at this;exact this
  obtain⟨x',e,rx⟩:=al.2 i hi
  rw[hx] at e
  cases e
  refine ybN (ycQ (i_T ?_))
  have s1:Same Hs (nw Hs H (rm H' D)):=yeP sH
  have s2:Same (nw Hs H (rm H' D)) H':=λc u e=>by
   cases h:H c with
   | none=>rw[yaw h] at e;exact(yao e).2
   | some v=>rw[yaM h] at e;exact sm _ _ (sH _ _ e)
  refine hte x us[i] H' _ _ (List.getElem_mem hi) s1 sm s2 (hR s1 rx) λy H2 t2 sy=>⟨ys,t2 _ _ hd,?_,hN _ _ ⟨⟨_,rfl⟩,yaJ hD (sm.trans t2),_,yab,?_⟩⟩
  ·rw[as.1,List.length_map,List.length_take]
   exact yam (by omega)
  ·have up:Same (nw (nw Hs H (rm H' D)) H' H2) (nw Hs H (rm (upd H2 D (.lst (ys++[y]))) D)):=λc u e=>by
    have key:∀ {u},H2 c=some u→c≠D→H c=none→nw Hs H (rm (upd H2 D (.lst (ys++[y]))) D) c=some u:=λe n h=>by rw[yaw h,yaB n,yai n];exact e
    cases h1:H' c with
    | none =>
     rw[yaw h1] at e
     exact key e (λz=>by rw[z,hd] at h1;cases h1) (sm.free h1)
    | some v =>
     rw[yaM h1] at e
     cases h:H c with
     | none =>
      rw[yaw h] at e
      obtain⟨n,e⟩:=yao e
      exact key (t2 _ _ e) n h
     | some w=>rw[yaM h] at e ⊢;exact e
   rw[List.take_succ_eq_append_getElem hi,List.map_append]
   refine Al.snoc (as.imp λ_ _ _ z=>hS ?_ z) (hS up sy)
   exact λc u e=>up c u (yeP s2 _ _ e)
 ·rintro σ' H' ⟨_,sm,ys,hd,as⟩
  rw[al.1,List.take_length] at as
  exact fin ys H' sm hd as
end
def ymK (te:TE)(tr:Th):Prop:=∀ σ H Q,(∀ x H',Same H H'→Is (fr H H') x tr→Q x H')→te σ H Q
def yjQ (ta:TA)(ts:List Th):Prop:=∀ σ H Q,(∀ xs H',Same H H'→Iss (fr H H') xs ts→Q xs H')→ta σ H Q
theorem yqo {v:V}(h:imV v=true):ymK (tC v) (.im v):=fun σ H Q q=>q v H (Same.refl H) (ybA h)
theorem yqp:yjQ ygB []:=fun σ H Q q=>q _ _ (Same.refl H) (yay _)
theorem yqq {ta:TE}{tr:TA}{t:Th}{ts:List Th}(a:ymK ta t)(b:yjQ tr ts):yjQ (ybS ta tr) (t :: ts):=fun σ H Q q =>
 a σ H _ λx H1 s1 i1=>b σ H1 _ λxs H2 s2 i2=>q _ _ (s1.trans s2) (yal (i1.same (yb3 s2)) (i2.same (yjS s1)))
theorem ynx {H H1:Hp}{p:Addr}{o:HO}(hp:H1 p=none):Same (fr H H1) (fr H (upd H1 p o)):=yb3 (yae hp o)
theorem yqE {tr:TA}{ts:List Th}(a:yjQ tr ts)(h:ts.length≤1000):ymK (ylo tr) (.tp ts):=fun σ H Q q=>a σ H _ λxs H1 s1 i1 =>
 ⟨small (by rw[i1.len];exact h),λp hp=>q _ _ (s1.trans (yae hp _)) (ydB (by rw[yby (s1.free hp)];exact yab) (i1.same (ynx hp)))⟩
theorem yqk {tr:TA}{ts:List Th}(a:yjQ tr ts)(h:ts.length≤1000):ymK (yn5 tr) (.ls ts):=fun σ H Q q=>a σ H _ λxs H1 s1 i1 =>
 ⟨small (by rw[i1.len];exact h),λp hp=>q _ _ (s1.trans (yae hp _)) (ybB (by rw[yby (s1.free hp)];exact yab) (i1.same (ynx hp)))⟩
def yhT (room:Int):List Pc:=pcs.filter λp=>decide (pg p≤room)
theorem yiB {room:Int}(h:3≤room):(32,0)∈yhT room:=List.mem_filter.mpr ⟨by decide,by simpa using show pg (32,0)≤room from (show pg (32,0)=3 by decide)▸h⟩
theorem ycl {room:Int}{p:Pc}(h:p∈yhT room):p∈pcs∧pg p≤room:=by
 have:=List.mem_filter.mp h
 exact⟨this.1,by simpa using this.2⟩
theorem yky (room:Int):(yhT room).length≤13:=List.length_filter_le _ _
def yc7:Sp:=λvs H Q _=>∃ room:Int,vs=[.int room]∧∀ x H',Same H H'→Is (fr H H') x (.ls ((yhT room).map pcT))→Q x H'
theorem yov (T:Txt K mg t)(G_zy:FnOk P w K mg base CX0 1 t.f_zy t.d_zy ["_law_piece"] ybK):FnOk P w K mg base CX0 2 t.f_zA t.d_zA ["_law_room"] yc7:=by
 refine T.zA.F.ok sc_zA (λvs H Q E h=>?_) (λcdv A outer s' H vs Q E hr h=>?_)
 ·obtain⟨x,rfl,_⟩:=h;rfl
 have hu:=ya2 hr
 obtain⟨room,rfl,q⟩:=h
 refine⟨_,(yah (yas (i:=1) sc_zA.nd rfl (Or.inl rfl) (yaZ (yaa (yaE (yaa yag (yaa yag (yaa yco yaf)))) (yaa (yaE (yaa yag (yaa yag (yaa yco yaf)))) (yaa (yaE (yaa yag (yaa yag (yaa yco yaf)))) (yaa (yaE (yaa yag (yaa yag (yaa yco yaf)))) (yaa (yaE (yaa yag (yaa yag (yaa yco yaf)))) (yaa (yaE (yaa yag (yaa yag (yaa yco yaf)))) (yaa (yaE (yaa yag (yaa yag (yaa yco yaf)))) yaf))))))))) (yah (yas (i:=1) sc_zA.nd rfl (Or.inl rfl) (yau yht (pv 1) (yaZ (yaa (yaE (yaa yag (yaa yag (yaa yco yaf)))) (yaa (yaE (yaa yag (yaa yag (yaa yco yaf)))) (yaa (yaE (yaa yag (yaa yag (yaa yco yaf)))) (yaa (yaE (yaa yag (yaa yag (yaa yco yaf)))) (yaa (yaE (yaa yag (yaa yag (yaa yco yaf)))) (yaa (yaE (yaa yag (yaa yag (yaa yco yaf)))) yaf))))))))) (yaj (yaG (yb5 (yaQ (NB:=["_law_piece","_law_room"]) (cap:=[none,some 0]) rfl) rfl (yaX (pv 1)) (λ_ _ _ _=>(yan (i:=0) (show List.Nodup (["_law_piece","_law_room"]:List Str) by decide) rfl (Or.inl rfl))) (λ_ _ _ _=>(ykB (yaL yoW (yaq G_zy (hr.mono (by first | decide | omega)) rfl T.zy.M T.zy.F.kp T.zy.B .nil yaD (yaa (pv 0) yaf)) (pv 1) (yaH _)))) (λ_ _ _ _=>(pv 0))))))),?_⟩
 refine ybe (ymm ?_)
 refine(show ymK _ (.ls ((pcs.take 7).map pcT)) from ?_) _ _ _ λx H1 s1 i1=>?_
 ·refine yqk ?_ (by decide)
  repeat (first | exact yqp | refine yqq ?_ ?_ | refine yqE ?_ (by decide) | exact yqo rfl)
 rw[Is] at i1
 obtain⟨a,xs,rfl,ea,ia⟩:=i1
 refine ybN (ybe (ymm (yqj (yev rfl ?_))))
 refine(show ymK _ (.ls ((pcs.drop 7).map pcT)) from ?_) _ _ _ λy H2 s2 i2=>?_
 ·refine yqk ?_ (by decide)
  repeat (first | exact yqp | refine yqq ?_ ?_ | refine yqE ?_ (by decide) | exact yqo rfl)
 rw[Is] at i2
 obtain⟨b,ys,rfl,eb,ib⟩:=i2
 have la:=ia.len
 have lb:=ib.len
 rw[List.length_map] at la lb
 have e7:(pcs.take 7).length=7:=rfl
 have e6:(pcs.drop 7).length=6:=rfl
 have is:Iss (fr H H2) (xs++ys) (pcs.map pcT):=Iss.app (ia.same (yb3 s2)) (ib.same (yjS s1))
 have ea':=(ya1 ea).2
 have eb':=(ya1 eb).2
 refine⟨a,b,xs,ys,rfl,rfl,s2 _ _ ea',eb',by rw[la,lb,e7,e6];decide,λc hc=>?_⟩
 walk_at "st"
 have s3:=yae hc (.lst (xs++ys))
 have ec:upd H2 c (.lst (xs++ys)) c=some (.lst (xs++ys)):=yab
 generalize upd H2 c (.lst (xs++ys))=H3 at s3 ec ⊢
 have is3:Iss (fr H H3) (xs++ys) (pcs.map pcT):=is.same (yb3 s3)
 refine⟨c,rfl,⟨_,SqL.of ec⟩,λD hD=>ybb (xs:=xs++ys) (λi σ' H'=>(∃ o,σ'=[o,some (.int room)])∧Same H3 H'∧∃ zs,H' D=some (.lst zs)∧Iss (rm (fr H H') D) zs (((pcs.take i).filter λp=>decide (pg p≤room)).map pcT)) ⟨⟨_,rfl⟩,yae hD _,[],yab,yay _⟩ (λ_ _ _ _ h=>SqL.of (h.2.1 _ _ ec)) ?_ ?_⟩
 ·rintro i x σ' H' N hN hx ⟨⟨o,rfl⟩,sm,zs,hd,iz⟩
  have hi:i < pcs.length:=by have:=(List.getElem?_eq_some_iff.mp hx).1;rw[is.len,List.length_map] at this;exact this
  obtain⟨y,hy,iy⟩:=is3.at' i (by rw[List.length_map];exact hi)
  rw[hx] at hy
  cases hy
  rw[List.getElem_map] at iy
  have hm:pcs[i]∈pcs:=List.getElem_mem hi
  have off:Same (fr H H3) (rm (fr H H') D):=λb u e=>by
   obtain⟨n,e⟩:=ya1 e
   rw[yaB (yad e hD),yby n]
   exact sm _ _ e
  have ll:zs.length≤13:=by
   rw[iz.len,List.length_map]
   exact Nat.le_trans (List.length_filter_le _ _) (by rw[List.length_take];exact Nat.min_le_right _ _)
  walk_at "st"
  refine⟨x,pcs[i],rfl,hm,(iy.same (ydT _ _)).same sm,λH4 s4=>?_⟩
  have off4:Same (rm (fr H H') D) (rm (fr H H4) D):=ya8 λb u _ e=>yb3 s4 b u e
  walk_at "st"
  refine i_d (λz=>?_) λz=>?_
  ·walk_at "st"
   refine⟨zs,s4 _ _ hd,yam (by omega),hN _ _ ⟨⟨_,rfl⟩,yaJ hD (sm.trans s4),_,yab,?_⟩⟩
   rw[List.take_succ_eq_append_getElem hi,List.filter_append,List.map_append,List.filter_cons_of_pos (by simpa using z)]
   exact Iss.app ((iz.same off4).same yeB) (yal (((iy.same off).same off4).same yeB) (yay _))
  ·refine hN _ _ ⟨⟨_,rfl⟩,sm.trans s4,zs,s4 _ _ hd,?_⟩
   rw[List.take_succ_eq_append_getElem hi,List.filter_append,List.map_append,List.filter_cons_of_neg (by simpa using z)]
   simpa using iz.same off4
 ·rintro σ' H' ⟨_,sm,zs,hd,iz⟩
  rw[is.len,List.length_map,List.take_length] at iz
  have s13:=(s1.trans s2).trans s3
  exact q _ _ (s13.trans sm) (ybB (by rw[yby (s13.free hD)];exact hd) (iz.same (yaK _ _)))
abbrev Hd:=Pit×Str
def ynR (h:Hd):Prop:=ymC h.1∧OkM h.2
def ycz (hs:List Hd):Prop:=hs.length≤4∧∀ h∈hs,ynR h
def hsT (hs:List Hd):Th:=.ls (hs.map hdT)
def ygT:Sp:=λvs H Q _=>∃ n:Int,vs=[.int n]∧0≤n∧∀ x H' hs,Same H H'→ycz hs→Is (fr H H') x (hsT hs)→Q x H'
theorem mk8 {i:Int}(h0:0≤i)(h8:i < 8):∃ m,atI [V.str "",V.str "",V.str "",V.str "=",V.str "+",V.str "++",V.str "-",V.str "--"] i=some (.str m)∧OkM m:=by
 obtain⟨n,rfl⟩:=Int.eq_ofNat_of_zero_le h0
 have:n=0∨n=1∨n=2∨n=3∨n=4∨n=5∨n=6∨n=7:=by omega
 rcases this with rfl | rfl | rfl | rfl | rfl | rfl | rfl | rfl
 ·exact⟨"",rfl,.inl rfl⟩
 ·exact⟨"",rfl,.inl rfl⟩
 ·exact⟨"",rfl,.inl rfl⟩
 ·exact⟨"=",rfl,.inr (by decide)⟩
 ·exact⟨"+",rfl,.inr (by decide)⟩
 ·exact⟨"++",rfl,.inr (by decide)⟩
 ·exact⟨"-",rfl,.inr (by decide)⟩
 ·exact⟨"--",rfl,.inr (by decide)⟩
theorem pl4 {i:Int}(h0:0≤i)(h8:i < 4):∃ m:Int,atI [V.int 0,V.int 26,V.int 28,V.int 40] i=some (.int m)∧0≤m∧m≤40:=by
 obtain⟨n,rfl⟩:=Int.eq_ofNat_of_zero_le h0
 have:n=0∨n=1∨n=2∨n=3:=by omega
 rcases this with rfl | rfl | rfl | rfl
 ·exact⟨0,rfl,by decide,by decide⟩
 ·exact⟨26,rfl,by decide,by decide⟩
 ·exact⟨28,rfl,by decide,by decide⟩
 ·exact⟨40,rfl,by decide,by decide⟩
theorem ypq (T:Txt K mg t):FnOk P w K mg base CX0 1 t.f_zG t.d_zG ["_law_number"] ygT:=by
 refine T.zG.F.ok sc_zG (λvs H Q E h=>?_) (λcdv A outer s' H vs Q E hr h=>?_)
 ·obtain⟨x,rfl,_⟩:=h;rfl
 have hu:=ya2 hr
 obtain⟨n,rfl,n0,q⟩:=h
 refine⟨_,(yah (yas (i:=1) sc_zG.nd rfl (Or.inl rfl) (yau ybt (yav yaz (yaZ (yaa yag (yaa yag (yaa yag (yaa yag yaf))))) (yau ybw (pv 0) yag) (λ_ _=>rfl)) (yau ybw (yau yaP (pv 0) yag) yag))) (yah (yas (i:=2) sc_zG.nd rfl (Or.inl rfl) (yaZ yaf)) (yah (ybf PassesOwn.never rfl (ybX rfl T.Jj (yaa (yau ybt yag (yau ybw (yau yaP (pv 0) yag) yag)) yaf)) (yan (i:=3) sc_zG.nd rfl (Or.inl rfl)) (yah (yas (i:=4) sc_zG.nd rfl (Or.inl rfl) (yav yaz (yaZ (yaa yaF (yaa yaF (yaa yaF (yaa yaF (yaa yaF (yaa yaF (yaa yaF (yaa yaF yaf))))))))) (yau ybw (yau yaP (pv 0) (yau ybt yag (yau ybW yag (pv 3)))) yag) (λ_ _=>rfl))) (yah (yaO (ybU PySem.F.plainAttrs_list PySem.F.slot_list_append PySem.F.type_list_append yaI (pv 2) (yaa (yaE (yaa (pv 4) (yaa (yau ybw (pv 1) yag) (yaa (yau yaP (pv 1) yag) yaf)))) yaf))) (yaj (yas (i:=1) sc_zG.nd rfl (Or.inl rfl) (yau ybt (yau ybt (pv 1) yag) (yau ybw (yau yaP (pv 0) (yau ybt yag (yau ybW yag (pv 3)))) yag))))))) (yaj (yaG (pv 2)))))),?_⟩
 walk_at "st"
 refine⟨by decide,λp hp=>?_⟩
 generalize hH1:upd H p _=H1
 have s1:Same H H1:=hH1▸yae hp _
 have e1:H1 p=some (.lst [V.int 0,V.int 26,V.int 28,V.int 40]):=hH1▸yab
 clear hH1
 walk_at "st"
 obtain⟨pl,ep,p0,p1⟩:=pl4 (i:=n%4) (by omega) (by omega)
 refine ybc (SqL.of e1) ep ?_
 walk_at "st"
 have b0:0≤pl+n / 4%5:=by omega
 have b1:pl+n / 4%5≤44:=by omega
 generalize pl+n / 4%5=pl0 at b0 b1 ⊢
 refine⟨Nat.zero_le _,λd hd=>?_⟩
 generalize hH2:upd H1 d _=H2
 have s2:Same H1 H2:=hH2▸yae hd _
 have e2:H2 d=some (.lst []):=hH2▸yab
 clear hH2
 have hd0:H d=none:=s1.free hd
 have s12:=s1.trans s2
 walk_at "st"
 have m4:=Int.emod_lt_of_pos (n / 20) (show(0:Int) < 4 by decide)
 have m0:=Int.emod_nonneg (n / 20) (show(4:Int)≠0 by decide)
 refine⟨_,rfl,by omega,by omega,ydv (lo:=0) (n:=(1+n / 20%4).toNat) (λi σ H'=>(∃ (pl:Int) (o3 o4:Option V),0≤pl∧pl≤44+3*i∧σ=[some (.int n),some (.int pl),some (.ref d),o3,o4])∧Same H H'∧∃ (xs:List V) (hs:List Hd),H' d=some (.lst xs)∧hs.length=i∧(∀ h∈hs,ynR h)∧Iss (rm (fr H H') d) xs (hs.map hdT)) ?_ ?_ ?_⟩
 ·exact⟨⟨pl0,none,none,b0,by omega,rfl⟩,s12,[],[],e2,rfl,(λh hh=>by cases hh),yay _⟩
 ·rintro i σ H' N hN hi ⟨⟨pl,o3,o4,c0,c1,rfl⟩,sm,xs,hs,hx,hl,gh,is⟩
  rw[Int.zero_add]
  walk_at "st"
  have hi4:i < 4:=by omega
  refine⟨by decide,λp3 hp3=>?_⟩
  generalize hH3:upd H' p3 _=H3
  have s3:Same H' H3:=hH3▸yae hp3 _
  have e3:H3 p3=some (.lst [V.str "",V.str "",V.str "",V.str "=",V.str "+",V.str "++",V.str "-",V.str "--"]):=hH3▸yab
  clear hH3
  walk_at "st"
  refine yjh ⟨by omega,by omega⟩ ?_
  walk_at "st"
  obtain⟨m,em,om⟩:=mk8 (i:=n / (80+7*(i:Int))%8) (by omega) (by omega)
  refine ybc (SqL.of e3) em ?_
  walk_at "st"
  refine⟨.inl ⟨rfl,_,SqL.of (s3 _ _ hx)⟩,?_⟩
  walk_at "st"
  refine⟨by show 3≤sizeLine;decide,λp4 hp4=>?_⟩
  generalize hH4:upd H3 p4 _=H4
  have s4:Same H3 H4:=hH4▸yae hp4 _
  have e4:H4 p4=some (.tup [V.str m,V.int (pl%7),V.int (pl / 7)]):=hH4▸yab
  clear hH4
  walk_at "st"
  have s34:=s3.trans s4
  have ed:=s34 _ _ hx
  have n4:p4≠d:=(yad (s3 _ _ hx) hp4).symm
  have np4:H p4=none:=(sm.trans s3).free hp4
  have lx:xs.length=i:=by rw[is.len,List.length_map,hl]
  refine ydb ed (yam (by omega)) ?_
  walk_at "st"
  refine yjh ⟨by omega,by omega⟩ ?_
  walk_at "st"
  refine hN _ _ ⟨⟨_,_,_,?_,?_,rfl⟩,yaJ hd0 (sm.trans s34),_,hs++[(⟨pl%7,0,pl / 7⟩,m)],yab,by rw[List.length_append,hl];rfl,λh hh=>?_,?_⟩
  ·omega
  ·omega
  ·rcases List.mem_append.mp hh with hh | hh
   ·exact gh h hh
   ·rw[List.mem_singleton.mp hh]
    exact⟨⟨by show 0≤pl%7;omega,by show pl%7 < 7;omega,by show(-2:Int)≤0;decide,by show(0:Int)≤2;decide,by show 0≤pl / 7;omega,by show pl / 7≤100;omega⟩,om⟩
  ·rw[List.map_append]
   refine Iss.app ((is.same (ya8 λb u _ e=>yb3 s34 b u e)).same yeB) (yal (yiM ?_) (yay _))
   rw[yaB n4,yby np4,yai n4]
   exact e4
 ·rintro σ H' ⟨⟨pl,o3,o4,c0,c1,rfl⟩,sm,xs,hs,hx,hl,gh,is⟩
  walk_at "st"
  exact q _ _ hs sm ⟨by omega,gh⟩ (ybB (by rw[yby hd0];exact hx) (is.same (yaK _ _)))
inductive Tl where
 | note (hs:List Hd) (p:Pc) (ti be:Bool) (wd:Str) (op cl:Bool)
 | pause (p:Pc)
 | whole (n:Int)
def tlT:Tl→Th
 | .note hs p ti be wd op cl=>.tp [sT "note",hsT hs,pcT p,bT ti,bT be,sT wd,bT op,bT cl]
 | .pause p=>.tp [sT "pause",pcT p]
 | .whole n=>.tp [sT "whole",nT n]
def ygS:Tl→Prop
 | .note hs p _ _ _ _ _=>ycz hs∧p∈pcs
 | .pause p=>p∈pcs
 | .whole n=>3≤n∧n≤96
def held (H:Hp)(x:V):Prop:=x=.non∨∃ hs,ycz hs∧Is H x (hsT hs)
theorem held.same {H H':Hp}{x:V}(s:Same H H')(h:held H x):held H' x:=h.imp id λ⟨hs,g,i⟩=>⟨hs,g,i.same s⟩
def ypc (h:Hd):Hd:=(h.1, "")
theorem yiv {hs:List Hd}(g:ycz hs):ycz (hs.map ypc):=⟨by rw[List.length_map];exact g.1,λh hh=>by
 obtain⟨k,hk,rfl⟩:=List.mem_map.mp hh
 exact⟨(g.2 k hk).1,.inl rfl⟩⟩
def yf1:Sp:=λvs H Q _=>∃ (n far:Int) (qv hv:V) (p:Pc) (Hs:Hp),vs=[.int n,qv,hv,.int far]∧0≤n∧Same Hs H∧p∈pcs∧Is Hs qv (pcT p)∧held Hs hv ∧
 ∀ x H' hs ti be wd op cl,Same H H'→ycz hs→Is (nw Hs H H') x (tlT (.note hs p ti be wd op cl))→Q x H'
theorem wd4 {i:Int}(h0:0≤i)(h8:i < 4):∃ m,atI [V.str "",V.str "",V.str "la",V.str "Ve-"] i=some (.str m):=by
 obtain⟨n,rfl⟩:=Int.eq_ofNat_of_zero_le h0
 have:n=0∨n=1∨n=2∨n=3:=by omega
 rcases this with rfl | rfl | rfl | rfl
 ·exact⟨_,rfl⟩
 ·exact⟨_,rfl⟩
 ·exact⟨_,rfl⟩
 ·exact⟨_,rfl⟩
def N1 (n far:Int)(qv hv:V)(p:Pc)(Hs H:Hp):St→Hp→Prop:=fun σ H'=>∃ hx hs,(∃ o5 o6,σ=[some (.int n),some qv,some hv,some (.int far),some hx,o5,o6])∧Same H H'∧ycz hs∧Is (nw Hs H H') hx (hsT hs)
theorem yrv {cdv:Value}{A:Around}{outer:List Env}{s0:Shared}{H0:Hp}{E:XK}(T:Txt K mg t)(G_zG:FnOk P w K mg base CX0 1 t.f_zG t.d_zG ["_law_number"] ygT)(hr:Room 2 (A.deeper (PyProof.Rows.envOfC "_law_note" (yac (top 42)) s0.heap.objs.size t.f_zK cdv))){n far:Int}{qv hv:V}{p:Pc}{Hs H:Hp}(n0:0≤n)(sH:Same Hs H)(hh:held Hs hv) :
  Tr (ybz CX0 P w K mg base ["_law_number","_law_piece","_law_held","_law_far","_law_heads_here","_law_flags","_law_word"] "_law_note" (yac (top 42)) t.f_zK cdv A outer s0 H0 E).nox (yaV 42 0) (fun σ H'=>(∃ o4 o5 o6,σ=[some (.int n),some qv,some hv,some (.int far),o4,o5,o6])∧H'=H) (N1 n far qv hv p Hs H):=by
 have hu:=ya2 hr
 refine⟨_,(yas (i:=4) sc_zK.nd rfl (Or.inl rfl) (ybm (yaL ylF (pv 2) yd9 (yaH _)) (yaq G_zG (hr.mono (by first | decide | omega)) rfl T.zG.M T.zG.F.kp T.zG.B .nil yaD (yaa (pv 0) yaf)) (yb5 (yaQ (NB:=["_law_head"]) (cap:=[none]) rfl) rfl (yaX (pv 2)) (λ_ _ _ _=>(yan (i:=0) (show List.Nodup (["_law_head"]:List Str) by decide) rfl (Or.inl rfl))) (λ_ _ _ _=>yaT) (λ_ _ _ _=>(yau (show OpR _ _ (yl2 K) from ydY) (yaE (yaa yaF yaf)) (ybJ (show SlR _ (yqr K) from ydO) (pv 0) (yb4 yag) yb2)))))),?_⟩
 rintro D σ H' ⟨⟨o4,o5,o6,rfl⟩,rfl⟩ hN
 walk_at "st"
 refine⟨rfl,ydz ?_⟩
 rcases hh with rfl | ⟨hs,gh,ih⟩
 ·rw[decide_eq_true rfl,if_pos rfl]
  walk_at "st"
  refine⟨n,rfl,n0,λx H2 hs s2 g2 i2=>?_⟩
  walk_at "st"
  exact hN _ _ ⟨x,hs,⟨_,_,rfl⟩,s2,g2,i2.same λb u e=>by
   obtain⟨a,e⟩:=ya1 e
   rw[yaw a]
   exact e⟩
 ·obtain⟨l,xs,rfl,el,il⟩:∃ l xs,hv=.ref l∧Hs l=some (.lst xs)∧Iss Hs xs (hs.map hdT):=by
   rw[hsT,Is] at ih
   exact ih
  rw[decide_eq_false (by simp),if_neg (by simp)]
  walk_at "st"
  refine⟨l,rfl,⟨_,SqL.of (sH _ _ el)⟩,λD0 hD=>yel (R:=λH x h=>Is H x (hdT h)) (S:=λH x h=>Is H x (hdT h)) ydc ydc ypc sH (sH _ _ el) (ydW il) hD (by have:=gh.1;omega) ?_ ?_⟩
  ·rintro x h H1 Hs1 Q1 hm t1 t2 t3 rx k
   obtain⟨a,rfl,ea⟩:=rx.head
   walk_at "st"
   refine⟨by decide,λp1 hp1=>?_⟩
   generalize hH2:upd H1 p1 _=H2
   have s2:Same H1 H2:=hH2▸yae hp1 _
   have e2:H2 p1=some (.tup [V.str ""]):=hH2▸yab
   clear hH2
   walk_at "st"
   have ea2:=s2 _ _ (t3 _ _ ea)
   refine⟨1,rfl,a,_,rfl,SqT.of ea2,λz=>absurd (show HT.sIx 3 0 (some 1)=0 from z.1) (by decide),λp2 hp2=>?_⟩
   generalize hH3:upd H2 p2 _=H3
   have s3:Same H2 H3:=hH3▸yae hp2 _
   have e3:H3 p2=some (.tup [V.int h.1.st,V.int h.1.oc]):=hH3▸yab
   clear hH3
   refine⟨p1,p2,_,_,rfl,rfl,SqT.of (s3 _ _ e2),SqT.of e3,by simp,by show 1+2≤sizeLine;decide,(λz=>by cases z),λ_ p3 hp3=>k _ _ ((s2.trans s3).trans (yae hp3 _)) (yiM ?_)⟩
   have n3:H1 p3=none:=(s2.trans s3).free hp3
   rw[yaw n3]
   exact yab
  ·rintro ys H2 s2 hd al
   refine hN _ _ ⟨_,hs.map ypc,⟨_,_,rfl⟩,s2,yiv gh,?_⟩
   have e:nw Hs H' H2 D0=some (.lst ys):=by rw[yaw hD];exact hd
   exact ybB e ((ydf al).same (ycx (yaK _ _)))
def N2 (n far:Int)(qv hv:V)(p:Pc)(Hs H:Hp):St→Hp→Prop:=fun σ H'=>∃ hx hs fl b0 b1 b2 b3,(∃ o6,σ=[some (.int n),some qv,some hv,some (.int far),some hx,some (.ref fl),o6])∧Same H H'∧ycz hs∧Is (nw Hs H (rm H' fl)) hx (hsT hs)∧H fl=none∧H' fl=some (.lst [.bl b0,.bl b1,.bl b2,.bl b3])
theorem yrI {cdv:Value}{A:Around}{outer:List Env}{s0:Shared}{H0:Hp}{E:XK}(T:Txt K mg t)(hr:Room 2 (A.deeper (PyProof.Rows.envOfC "_law_note" (yac (top 42)) s0.heap.objs.size t.f_zK cdv))){n far:Int}{qv hv:V}{p:Pc}{Hs H:Hp}(n0:0≤n) :
  Tr (ybz CX0 P w K mg base ["_law_number","_law_piece","_law_held","_law_far","_law_heads_here","_law_flags","_law_word"] "_law_note" (yac (top 42)) t.f_zK cdv A outer s0 H0 E).nox (yaV 42 1) (N1 n far qv hv p Hs H) (N2 n far qv hv p Hs H):=by
 have hu:=ya2 hr
 refine⟨_,(yba (i:=5) sc_zK.nd rfl (Or.inl rfl) (yaQ (NB:=["_law_k","_law_number"]) (cap:=[none,some 0]) rfl) rfl (ybX rfl T.Jj (yaa yag yaf)) (λ_ _ _ _=>(yan (i:=0) (show List.Nodup (["_law_k","_law_number"]:List Str) by decide) rfl (Or.inl rfl))) (λ_ _ _ _=>yaT) (λ_ _ _ _=>(ybT yfe (yau ybw (yau yaP (pv 1) (yau ybt yag (pv 0))) yag) yag (yaH _)))),?_⟩
 rintro D σ H1 ⟨hx,hs,⟨o5,o6,rfl⟩,s1,gh,ih⟩ hN
 walk_at "st"
 refine⟨_,rfl,by decide,by decide,λD0 hD=>ydj (lo:=0) (n:=Int.toNat 4) (λi σ' H'=>(∃ o,σ'=[o,some (.int n)])∧Same H1 H'∧∃ bs:List Bool,bs.length=i∧H' D0=some (.lst (bs.map V.bl))) ⟨⟨_,rfl⟩,yae hD _,[],rfl,yab⟩ ?_ ?_⟩
 ·rintro i σ' H' hi ⟨⟨o,rfl⟩,sm,bs,lb,hd⟩
  rw[Int.zero_add]
  have hi4:i < 4:=hi
  walk_at "st"
  refine yjh ⟨by omega,by omega⟩ ?_
  walk_at "st"
  exact⟨_,hd,yam (by rw[List.length_map];omega),⟨_,rfl⟩,yaJ hD sm,bs++[decide (n / (3+(i:Int))%3=0)],by rw[List.length_append,lb];rfl,by rw[yab,List.map_append];rfl⟩
 ·rintro σ' H' ⟨_,sm,bs,lb,hd⟩
  match bs,lb with
  | [b0,b1,b2,b3],_ =>
   refine hN _ _ ⟨hx,hs,D0,b0,b1,b2,b3,⟨_,rfl⟩,s1.trans sm,gh,ih.same λb u e=>?_,s1.free hD,hd⟩
   cases h:H b with
   | none =>
    rw[yaw h] at e ⊢
    rw[yaB (yad e hD)]
    exact sm _ _ e
   | some v=>rw[yaM h] at e ⊢;exact e
theorem yrp {cdv:Value}{A:Around}{outer:List Env}{s0:Shared}{H0:Hp}{E:XK}(T:Txt K mg t)(hr:Room 2 (A.deeper (PyProof.Rows.envOfC "_law_note" (yac (top 42)) s0.heap.objs.size t.f_zK cdv))){n far:Int}{qv hv:V}{p:Pc}{Hs H:Hp} :
  Tr (ybz CX0 P w K mg base ["_law_number","_law_piece","_law_held","_law_far","_law_heads_here","_law_flags","_law_word"] "_law_note" (yac (top 42)) t.f_zK cdv A outer s0 H0 E).nox (yaV 42 2) (N2 n far qv hv p Hs H) (N2 n far qv hv p Hs H):=by
 have hu:=ya2 hr
 refine⟨_,(ygd (yd6 (yav yaz (pv 5) yag (λ_ _=>rfl)) (yd0 (ybT ymk (pv 3) yag (yaH _)))) (yfW (pv 5) yag yc5)),?_⟩
 rintro D σ H1 ⟨hx,hs,fl,b0,b1,b2,b3,⟨o6,rfl⟩,s1,gh,ih,nf,ef⟩ hN
 walk_at "st"
 refine ybc (SqL.of ef) (yak (j:=0) rfl) ?_
 have fin:∀ b:Bool,yk5 (.ref fl) (.int 0) (.bl b) H1 λH3=>D.nx [some (.int n),some qv,some hv,some (.int far),some hx,some (.ref fl),o6] H3:=λb =>
  ⟨fl,_,0,0,rfl,rfl,ef,rfl,hN _ _ ⟨hx,hs,fl,b,b1,b2,b3,⟨_,rfl⟩,λc u e=>by rw[yai (yad e nf)];exact s1 _ _ e,gh,ih.same (ycx ycF),nf,yab⟩⟩
 walk_at "st"
 cases b0 with
 | true =>
  walk_at "st"
  exact fin _
 | false =>
  walk_at "st"
  exact fin _
theorem yok (T:Txt K mg t)(G_zG:FnOk P w K mg base CX0 1 t.f_zG t.d_zG ["_law_number"] ygT):FnOk P w K mg base CX0 3 t.f_zK t.d_zK ["_law_number","_law_piece","_law_held","_law_far"] yf1:=by
 refine T.zK.F.ok sc_zK (λvs H Q E h=>?_) (λcdv A outer s H vs Q E hr h=>?_)
 ·obtain⟨_,_,_,_,_,_,rfl,_⟩:=h;rfl
 have hu:=ya2 hr
 obtain⟨n,far,qv,hv,p,Hs,rfl,n0,sH,hp,ip,hh,q⟩:=h
 obtain⟨t0,p0,k0⟩:=yrv (p:=p) (qv:=qv) (far:=far) (cdv:=cdv) (A:=A) (outer:=outer) (s0:=s) (H0:=H) (E:=E) T G_zG hr n0 sH hh
 obtain⟨t1,p1,k1⟩:=yrI (p:=p) (qv:=qv) (far:=far) (hv:=hv) (Hs:=Hs) (H:=H) (cdv:=cdv) (A:=A) (outer:=outer) (s0:=s) (H0:=H) (E:=E) T hr n0
 obtain⟨t2,p2,k2⟩:=yrp (n:=n) (p:=p) (qv:=qv) (far:=far) (hv:=hv) (Hs:=Hs) (H:=H) (cdv:=cdv) (A:=A) (outer:=outer) (s0:=s) (H0:=H) (E:=E) T hr
 refine⟨_,show PSs _ [yaV 42 0,yaV 42 1,yaV 42 2,yaV 42 3,yaV 42 4] _ from yah p0 (yah p1 (yah p2 (yah (yas (i:=6) sc_zK.nd rfl (Or.inl rfl) (yav yaz (yaZ (yaa yaF (yaa yaF (yaa yaF (yaa yaF yaf))))) (yau ybw (yau yaP (pv 0) yag) yag) (λ_ _=>rfl))) (yaj (yaG (yaE (yaa yaF (yaa (pv 4) (yaa (pv 1) (yaa (yav yaz (pv 5) yag (λ_ _=>rfl)) (yaa (yav yaz (pv 5) yag (λ_ _=>rfl)) (yaa (pv 6) (yaa (yav yaz (pv 5) yag (λ_ _=>rfl)) (yaa (yav yaz (pv 5) yag (λ_ _=>rfl)) yaf)))))))))))))),?_⟩
 refine ybe (k0 _ _ _ ⟨⟨_,_,_,rfl⟩,rfl⟩ fun σ1 H1 h1=>ybe (k1 _ _ _ h1 fun σ2 H2 h2=>ybe (k2 _ _ _ h2 fun σ3 H3 h3=>?_)))
 obtain⟨hx,hs,fl,b0,b1,b2,b3,⟨o6,rfl⟩,s1,gh,ih,nf,ef⟩:=h3
 walk_at "st"
 refine⟨by decide,λa4 ha4=>?_⟩
 generalize hH4:upd H3 a4 _=H4
 have s4:Same H3 H4:=hH4▸yae ha4 _
 have e4:H4 a4=some (.lst [V.str "",V.str "",V.str "la",V.str "Ve-"]):=hH4▸yab
 clear hH4
 walk_at "st"
 obtain⟨wd,ew⟩:=wd4 (i:=n / 11%4) (by omega) (by omega)
 refine ybc (SqL.of e4) ew ?_
 have ef4:=s4 _ _ ef
 walk_at "st"
 refine ybc (SqL.of ef4) (yak (j:=0) rfl) ?_
 walk_at "st"
 refine ybc (SqL.of ef4) (yak (j:=1) rfl) ?_
 walk_at "st"
 refine ybc (SqL.of ef4) (yak (j:=2) rfl) ?_
 walk_at "st"
 refine ybc (SqL.of ef4) (yak (j:=3) rfl) ?_
 walk_at "st"
 refine⟨by show 8≤sizeLine;decide,λa5 ha5=>?_⟩
 have s14:=s1.trans s4
 have s5:=s14.trans (yae ha5 (.tup [V.str "note",hx,qv,.bl b0,.bl b1,.str wd,.bl b2,.bl b3]))
 have ih5:Is (nw Hs H (upd H4 a5 (.tup [V.str "note",hx,qv,.bl b0,.bl b1,.str wd,.bl b2,.bl b3]))) hx (hsT hs):=ih.same (ycx ((yaK _ _).trans (s4.trans (yae ha5 _))))
 refine q _ _ hs b0 b1 wd b2 b3 s5 gh (ydB (by rw[yaw (s14.free ha5)];exact yab) ?_)
 exact yal (ybA rfl) (yal ih5 (yal (ip.same (yeP sH)) (yal (ybA rfl) (yal (ybA rfl) (yal (ybA rfl) (yal (ybA rfl) (yal (ybA rfl) (yay _))))))))
def tls (ts:List Tl):Th:=.ls (ts.map tlT)
def isN:Tl→Bool
 | .note ..=>true
 | _=>false
def NoN (ts:List Tl):Prop:=∀ tl∈ts,isN tl=false
def nts (ts:List Tl):Nat:=ts.countP isN
theorem NoN.nts {ts:List Tl}(h:NoN ts):nts ts=0:=by
 unfold KG.nts
 rw[List.countP_eq_zero]
 exact λtl hm z=>by rw[h tl hm] at z;cases z
theorem NoN.app {ts us:List Tl}(h:NoN ts)(g:NoN us):NoN (ts++us):=λtl hm=>(List.mem_append.mp hm).elim (h tl) (g tl)
def yaN (ts:List Tl):Prop:=∀ tl∈ts,ygS tl
theorem Is.pause {H:Hp}{x:V}{p:Pc}(h:Is H x (tlT (.pause p))):∃ a y,x=.ref a∧H a=some (.tup [.str "pause",y])∧Is H y (pcT p):=by
 unfold tlT at h
 rw[Is] at h
 obtain⟨a,ys,rfl,e,is⟩:=h
 rw[Iss] at is
 obtain⟨y0,r0,rfl,i0,is⟩:=is
 rw[Iss] at is
 obtain⟨y1,r1,rfl,i1,is⟩:=is
 rw[Iss] at is
 rw[sT,Is] at i0
 rw[is,i0.1] at e
 exact⟨a,y1,rfl,e,i1⟩
theorem yhl {H:Hp}{a:Addr}{y:V}{p:Pc}(e:H a=some (.tup [.str "pause",y]))(i:Is H y (pcT p)):Is H (.ref a) (tlT (.pause p)):=ydB e (yal (ybA rfl) (yal i (yay _)))
def yeL:Sp:=λvs H Q _=>∃ r:Int,vs=[.int r]∧0≤r∧r≤96∧r%3=0∧∀ x H' ts,Same H H'→yaN ts→NoN ts→(0 < r→ts≠[])→ts.length≤32→Is (fr H H') x (tls ts)→Q x H'
theorem yoI (T:Txt K mg t)(G_zy:FnOk P w K mg base CX0 1 t.f_zy t.d_zy ["_law_piece"] ybK)(G_zA:FnOk P w K mg base CX0 2 t.f_zA t.d_zA ["_law_room"] yc7):FnOk P w K mg base CX0 3 t.f_zu t.d_zu ["_law_room"] yeL:=by
 refine T.zu.F.ok sc_zu (λvs H Q E h=>?_) (λcdv A outer s H vs Q E hr h=>?_)
 ·obtain⟨_,rfl,_⟩:=h;rfl
 have hu:=ya2 hr
 obtain⟨r,rfl,r0,r96,r3,q⟩:=h
 refine⟨_,(yah (yas (i:=1) sc_zu.nd rfl (Or.inl rfl) (yaZ yaf)) (yah (yk8 PassesOwn.never (yaL ynb (pv 0) yag (yaH _)) (yah (yaO (ybU PySem.F.plainAttrs_list PySem.F.slot_list_append PySem.F.type_list_append yaI (pv 1) (yaa (yaE (yaa yaF (yaa (yav yaz (yaq G_zA (hr.mono (by first | decide | omega)) rfl T.zA.M T.zA.F.kp T.zA.B .nil yaD (yaa (pv 0) yaf)) yag (λ_ _=>rfl)) yaf))) yaf))) (yaj (yas (i:=0) sc_zu.nd rfl (Or.inl rfl) (yau ycR (pv 0) (yaq G_zy (hr.mono (by first | decide | omega)) rfl T.zy.M T.zy.F.kp T.zy.B .nil yaD (yaa (yav yaA (yav yaz (pv 1) (yc6 ybZ yag) (λ_ _=>rfl)) yag (λ_ _=>rfl)) yaf))))))) (yaj (yaG (pv 1))))),?_⟩
 walk_at "st"
 refine⟨Nat.zero_le _,λd hd=>?_⟩
 generalize hH1:upd H d _=H1
 have s1:Same H H1:=hH1▸yae hd _
 have e1:H1 d=some (.lst []):=hH1▸yab
 clear hH1
 walk_at "st"
 refine⟨λm σ H'=>∃ (r':Int) (xs:List V) (ts:List Tl),(m:Int)=r'∧σ=[some (.int r'),some (.ref d)]∧r'≤r∧r'%3=0∧Same H H'∧H' d=some (.lst xs)∧yaN ts∧NoN ts∧(ts=[]→r'=r)∧3*ts.length+r'≤r∧Iss (rm (fr H H') d) xs (ts.map tlT),⟨r.toNat,r,[],[],by omega,rfl,by omega,r3,s1,e1,(λ_ h=>by cases h),(λ_ h=>by cases h),λ_=>rfl,by simp,yay _⟩,?_⟩
 rintro m σ H' ⟨r',xs,ts,hm,rfl,le,m3,sm,hx,gt,gn,ne,ln,is⟩
 walk_at "st"
 refine i_d (λpos=>?_) λneg=>?_
 ·refine⟨_,λ_ _ z=>z,?_⟩
  walk_at "st"
  refine⟨.inl ⟨rfl,_,SqL.of hx⟩,?_⟩
  walk_at "st"
  refine⟨r',rfl,λx H2 s2 i2=>?_⟩
  rw[Is] at i2
  obtain⟨a,ys,rfl,ea,ia⟩:=i2
  have f0:0 < (yhT r').length:=List.length_pos_of_mem (yiB (by omega))
  obtain⟨y,hy,iy⟩:=ia.at' 0 (by rw[List.length_map];exact f0)
  rw[List.getElem_map] at iy
  obtain⟨fm,fl⟩:=ycl (List.getElem_mem f0)
  generalize (yhT r')[0]=pc at iy fm fl
  walk_at "st"
  refine ybc (SqL.of (ya1 ea).2) (yak hy) ?_
  walk_at "st"
  refine⟨by show 2≤sizeLine;decide,λa3 h3=>?_⟩
  generalize hH3:upd H2 a3 _=H3
  have s3:Same H2 H3:=hH3▸yae h3 _
  have e3:H3 a3=some (.tup [V.str "pause",y]):=hH3▸yab
  clear hH3
  walk_at "st"
  have s23:=s2.trans s3
  have ed:=s23 _ _ hx
  have lx:xs.length=ts.length:=by rw[is.len,List.length_map]
  have nd3:a3≠d:=(yad (s2 _ _ hx) h3).symm
  have na3:H a3=none:=(sm.trans s2).free h3
  have pos3:=yfq _ fm
  refine ydb ed (yam (by omega)) ?_
  walk_at "st"
  have up:Same (rm (fr H H') d) (rm (fr H (upd H3 d (.lst (xs++[.ref a3])))) d):=(ya8 λb u _ e=>yb3 s23 b u e).trans yeB
  have iy4:Is (rm (fr H (upd H3 d (.lst (xs++[.ref a3])))) d) y (pcT pc):=iy.same λb u e=>by
   obtain⟨n,e⟩:=ya1 e
   have nb:b≠d:=(yad hx n).symm
   rw[yaB nb,yby (sm.free n),yai nb]
   exact s3 _ _ e
  have e4:rm (fr H (upd H3 d (.lst (xs++[.ref a3])))) d a3=some (.tup [V.str "pause",y]):=by
   rw[yaB nd3,yby na3,yai nd3]
   exact e3
  refine ybc (SqL.of yab) (ybP xs (.ref a3)) ?_
  walk_at "st"
  refine ya0 (SqT.of (ya1 (yao e4).2).2) (yak (j:=1) rfl) ?_
  walk_at "st"
  refine⟨y,pc,rfl,fm,(iy4.same (yaK _ _)).same (ydT _ _),λH5 s5=>?_⟩
  walk_at "st"
  refine⟨(r' - pg pc).toNat,by omega,r' - pg pc,xs++[.ref a3],ts++[.pause pc],by omega,rfl,by omega,by omega,(yaJ hd (sm.trans s23)).trans s5,s5 _ _ yab,?_,gn.app (λtl h=>by rw[List.mem_singleton.mp h];rfl),?_,?_,?_⟩
  ·intro tl h
   rcases List.mem_append.mp h with h | h
   ·exact gt tl h
   ·rw[List.mem_singleton.mp h];exact fm
  ·intro z
   simp at z
  ·rw[List.length_append,List.length_singleton]
   omega
  ·rw[List.map_append]
   exact Iss.app ((is.same up).same (ya8 λb u _ e=>yb3 s5 b u e)) (yal ((yhl e4 iy4).same (ya8 λb u _ e=>yb3 s5 b u e)) (yay _))
 ·walk_at "st"
  have e0:r'=0:=by omega
  refine q _ _ ts sm gt gn (λz c=>?_) (by omega) (ybB (by rw[yby hd];exact hx) (is.same (yaK _ _)))
  have:=ne c
  omega
def ymu (b:List Tl):Prop:=yaN b∧b≠[]∧b.length≤60
def ycZ (bs:List (List Tl)):Prop:=∀ b∈bs,ymu b
def bsT (bs:List (List Tl)):Th:=.ls (bs.map tls)
def ydh:Sp:=λvs H Q _=>∃ (sz n:Int) (ct:Nat),vs=[.int sz,.int ct,.int n]∧3≤sz∧sz≤96∧sz%3=0∧ct≤200∧0≤n∧∀ x H' bs,Same H H'→ycZ bs→NoN bs.flatten→bs.length=ct→Is (fr H H') x (bsT bs)→Q x H'
theorem ypM (T:Txt K mg t)(G_zu:FnOk P w K mg base CX0 3 t.f_zu t.d_zu ["_law_room"] yeL):FnOk P w K mg base CX0 4 t.f_zq t.d_zq ["_law_size","_law_count","_law_number"] ydh:=by
 refine T.zq.F.ok sc_zq (λvs H Q E h=>?_) (λcdv A outer s H vs Q E hr h=>?_)
 ·obtain⟨_,_,_,rfl,_⟩:=h;rfl
 have hu:=ya2 hr
 obtain⟨sz,n,ct,rfl,z3,z96,zm,c2,n0,q⟩:=h
 refine⟨_,(yah (yas (i:=3) sc_zq.nd rfl (Or.inl rfl) (yaZ yaf)) (yah (ybf PassesOwn.never rfl (ybX rfl T.Jj (yaa (pv 1) yaf)) (yan (i:=4) sc_zq.nd rfl (Or.inl rfl)) (yaj (yaO (ybU PySem.F.plainAttrs_list PySem.F.slot_list_append PySem.F.type_list_append yaI (pv 3) (yaa (ybm (yaL yfe (yau ybw (yau yaP (pv 2) (yau ybt yag (pv 4))) yag) yag (yaH _)) (yaZ (yaa (yaE (yaa yaF (yaa (pv 0) yaf))) yaf)) (yaq G_zu (hr.mono (by first | decide | omega)) rfl T.zu.M T.zu.F.kp T.zu.B .nil yaD (yaa (pv 0) yaf))) yaf))))) (yaj (yaG (pv 3))))),?_⟩
 walk_at "st"
 refine⟨Nat.zero_le _,λd hd=>?_⟩
 generalize hH1:upd H d _=H1
 have s1:Same H H1:=hH1▸yae hd _
 have e1:H1 d=some (.lst []):=hH1▸yab
 clear hH1
 walk_at "st"
 refine⟨_,rfl,by omega,by omega,ydv (lo:=0) (n:=Int.toNat ct) (λi σ H'=>(∃ o,σ=[some (.int sz),some (.int ct),some (.int n),some (.ref d),o])∧Same H H'∧∃ (xs:List V) (bs:List (List Tl)),H' d=some (.lst xs)∧bs.length=i∧(ycZ bs∧NoN bs.flatten)∧Iss (rm (fr H H') d) xs (bs.map tls)) ?_ ?_ ?_⟩
 ·exact⟨⟨none,rfl⟩,s1,[],[],e1,rfl,⟨(λh hh=>by cases hh),(λh hh=>by cases hh)⟩,yay _⟩
 ·rintro i σ H' N hN hi ⟨⟨o,rfl⟩,sm,xs,bs,hx,hl,gb,is⟩
  rw[Int.zero_add]
  have lx:xs.length=i:=by rw[is.len,List.length_map,hl]
  have fin:∀ x H2 ts,Same H' H2→ymu ts→NoN ts→Is (fr H' H2) x (tls ts)→ydl (.ref d) [x] H2 λ_ H3=>N [some (.int sz),some (.int ct),some (.int n),some (.ref d),some (.int i)] H3:=λx H2 ts s2 g2 gn i2 =>
   ydb (s2 _ _ hx) (yam (by omega)) (hN _ _ ⟨⟨_,rfl⟩,yaJ hd (sm.trans s2),_,bs++[ts],yab,by rw[List.length_append,hl];rfl,⟨(λb hb=>by
    rcases List.mem_append.mp hb with hb | hb
    ·exact gb.1 b hb
    ·rw[List.mem_singleton.mp hb];exact g2),by rw[List.flatten_append];exact gb.2.app (by simpa using gn)⟩,by rw[List.map_append];exact ykh sm hx s2 is i2⟩)
  walk_at "st"
  refine⟨.inl ⟨rfl,_,SqL.of hx⟩,?_⟩
  walk_at "st"
  refine yjh ⟨by omega,by omega⟩ ?_
  walk_at "st"
  refine i_d (λz=>?_) λz=>?_
  ·walk_at "st"
   refine⟨by show 2≤sizeLine;decide,λa2 h2=>?_⟩
   walk_at "st"
   refine⟨by show 1≤sizeLine;decide,λa3 h3=>?_⟩
   walk_at "st"
   have s3:=(yae h2 (.tup [V.str "whole",.int sz])).trans (yae h3 (.lst [V.ref a2]))
   refine fin _ _ [.whole sz] s3 ⟨λtl h=>by rw[List.mem_singleton.mp h];exact⟨z3,z96⟩,by simp,by show 1≤60;decide⟩ (λtl h=>by rw[List.mem_singleton.mp h];rfl) ?_
   have n3:H' a3=none:=(yae h2 _).free h3
   refine ybB (by rw[yby n3];exact yab) (yal (ydB (by rw[yby h2];exact yae h3 _ _ _ yab) (yal (ybA rfl) (yal (ymD _ _) (yay _)))) (yay _))
  ·walk_at "st"
   refine⟨sz,rfl,by omega,z96,zm,λx H2 ts s2 g2 gn ne l2 i2=>?_⟩
   walk_at "st"
   exact fin x H2 ts s2 ⟨g2,ne (by omega),by omega⟩ gn i2
 ·rintro σ H' ⟨⟨o,rfl⟩,sm,xs,bs,hx,hl,gb,is⟩
  walk_at "st"
  exact q _ _ bs sm gb.1 gb.2 (by omega) (ybB (by rw[yby hd];exact hx) (is.same (yaK _ _)))
structure VG where
 a:Addr
 B:Addr
 ns:List Int
 sz:Int
 sh:Int
 H:Hp
structure VD where
 room:Int
 far:Int
 hv:V
 L:Addr
 xs:List V
 ys:List V
 bs:List (List Tl)
 ts:List Tl
def vo (g:VG)(L:Addr)(H':Hp):Hp:=rm (rm (fr g.H H') g.B) L
theorem ydM {g:VG}{L b:Addr}{H':Hp}{u:HO}(h:vo g L H' b=some u):b≠L∧b≠g.B∧g.H b=none∧H' b=some u:=by
 obtain⟨n1,h⟩:=yao h
 obtain⟨n2,h⟩:=yao h
 obtain⟨n3,h⟩:=ya1 h
 exact⟨n1,n2,n3,h⟩
theorem yi0 {g:VG}{L b:Addr}{H':Hp}{u:HO}(n1:b≠L)(n2:b≠g.B)(n3:g.H b=none)(h:H' b=some u):vo g L H' b=some u:=by
 unfold vo
 rw[yaB n1,yaB n2,yby n3]
 exact h
theorem yc8 {g:VG}{L:Addr}{H':Hp}:Same (vo g L H') H':=λb u h=>(ydM h).2.2.2
theorem ycT {g:VG}{L:Addr}{H' H'':Hp}(s:∀ b u,b≠L→b≠g.B→H' b=some u→H'' b=some u):Same (vo g L H') (vo g L H''):=λb u h=>by
 obtain⟨n1,n2,n3,h⟩:=ydM h
 exact yi0 n1 n2 n3 (s b u n1 n2 h)
structure VC (g:VG):Prop where
 cells:g.H g.a=some (.lst (g.ns.map V.int))
 ln:g.ns.length≤23
 z3:3≤g.sz
 z96:g.sz≤96
 zm:g.sz%3=0
 h0:0≤g.sh
 h1:g.sh≤100
structure VOk (g:VG) (d:VD) (i:Nat) (H':Hp):Prop where
 vc:VC g
 sm:Same g.H H'
 hB:H' g.B=some (.lst (d.xs++[.ref d.L]))
 hL:H' d.L=some (.lst d.ys)
 nB:g.H g.B=none
 nL:g.H d.L=none
 ne:d.L≠g.B
 ix:Iss (vo g d.L H') d.xs (d.bs.map tls)
 iy:Iss (vo g d.L H') d.ys (d.ts.map tlT)
 hd:held (vo g d.L H') d.hv
 gb:ycZ d.bs
 gt:yaN d.ts
 lb:d.bs.length≤i
 lt:d.bs.flatten.length+d.ts.length≤i
 r3:d.room%3=0
 rl:3≤d.room
 rh:d.room≤g.sz
theorem VOk.same {g:VG}{d:VD}{i:Nat}{H' H'':Hp}(h:VOk g d i H')(s:Same H' H''):VOk g d i H'' :=
 have u:Same (vo g d.L H') (vo g d.L H''):=ycT λb u _ _ e=>s _ _ e
 { h with sm:=h.sm.trans s,hB:=s _ _ h.hB,hL:=s _ _ h.hL,ix:=h.ix.same u,iy:=h.iy.same u,hd:=h.hd.same u }
theorem VOk.fr {g:VG}{d:VD}{i:Nat}{H' H'':Hp}(h:VOk g d i H'):Same (KG.fr H' H'') (vo g d.L H''):=λb u e=>by
 obtain⟨n,e⟩:=ya1 e
 exact yi0 (yad h.hL n).symm (yad h.hB n).symm (h.sm.free n) e
theorem VOk.nw {g:VG}{d:VD}{i:Nat}{H' H'':Hp}(h:VOk g d i H')(s:Same H' H''):Same (KG.nw (vo g d.L H') H' H'') (vo g d.L H''):=λb u e=>by
 cases z:H' b with
 | none=>rw[yaw z] at e;exact h.fr b u (by rw[yby z];exact e)
 | some v =>
  rw[yaM z] at e
  obtain⟨n1,n2,n3,e⟩:=ydM e
  exact yi0 n1 n2 n3 (s _ _ e)
def sg (g:VG)(d:VD)(o:List (Option V)):St:=some (.ref g.a) :: some (.int g.sz) :: some (.int g.sh) :: some (.ref g.B) :: some (.int d.room) :: some d.hv :: some (.int d.far) :: o
abbrev VT:=VG×Nat
def V0:VT→St→Hp→Prop:=λ⟨g,i⟩ σ H'=>∃ d o7 o8 o9 o10 o11 o12,σ=sg g d [o7,o8,o9,o10,o11,o12]∧VOk g d i H'
def V1:VT→St→Hp→Prop:=λ⟨g,i⟩ σ H'=>∃ d c o9 o10 o11 o12,σ=sg g d [some (.int (i:Nat)),some (.int c),o9,o10,o11,o12]∧i < g.ns.length∧VOk g d i H'
def V2:VT→St→Hp→Prop:=λ⟨g,i⟩ σ H'=>∃ d c n o10 o11 o12,σ=sg g d [some (.int (i:Nat)),some (.int c),some (.int n),o10,o11,o12]∧i < g.ns.length∧VOk g d i H'∧0≤n
def V3:VT→St→Hp→Prop:=λ⟨g,i⟩ σ H'=>∃ d c n l xs o11 o12,σ=sg g d [some (.int (i:Nat)),some (.int c),some (.int n),some (.ref l),o11,o12]∧i < g.ns.length∧VOk g d i H'∧0≤n∧vo g d.L H' l=some (.lst xs)∧Iss (vo g d.L H') xs ((yhT d.room).map pcT)
def V4:VT→St→Hp→Prop:=λ⟨g,i⟩ σ H'=>∃ d c n o10 q p o12,σ=sg g d [some (.int (i:Nat)),some (.int c),some (.int n),o10,some q,o12]∧i < g.ns.length∧VOk g d i H'∧0≤n∧p∈yhT d.room∧Is (vo g d.L H') q (pcT p)
def tlP:Tl→Pc→Prop
 | .note _ p _ _ _ _ _,q=>p=q
 | .pause p,q=>p=q
 | .whole _,_=>False
def V5:VT→St→Hp→Prop:=λ⟨g,i⟩ σ H'=>∃ d c n o10 q p x tl,σ=sg g d [some (.int (i:Nat)),some (.int c),some (.int n),o10,some q,some x]∧i < g.ns.length∧VOk g d i H'∧0≤n∧p∈yhT d.room∧Is (vo g d.L H') q (pcT p)∧ygS tl∧tlP tl p∧Is (vo g d.L H') x (tlT tl)
section
variable {cdv:Value} {A:Around} {outer:List Env} {s0:Shared} {H0:Hp} {E:XK}
theorem yqM (T:Txt K mg t)(hr:Room 4 (A.deeper (PyProof.Rows.envOfC "_law_voice" (yac (top 44)) s0.heap.objs.size t.f_zB cdv)))(G_zH:FnOk P w K mg base CX0 1 t.f_zH t.d_zH ["_law_cell","_law_k"] ycW):TrG ((ybz CX0 P w K mg base ["_law_cells","_law_size","_law_shift","_law_bars","_law_room","_law_held","_law_far","_law_k","_law_cell","_law_number","_law_some","_law_piece","_law_told"] "_law_voice" (yac (top 44)) t.f_zB cdv A outer s0 H0 E).nox) ((yb9 (yaV 44 4)).getD 0 (.Pass ⟨0,0,0,0⟩)) V1 V2:=by
 have hu:=ya2 hr
 refine⟨_,(yas (i:=9) sc_zB.nd rfl (Or.inl rfl) (yaq G_zH (hr.mono (by first | decide | omega)) rfl T.zH.M T.zH.F.kp T.zH.B .nil yaD (yaa (pv 8) (yaa (yau ybt (pv 7) (pv 2)) yaf)))),λ⟨g,i⟩ D σ H pre nx=>?_⟩
 obtain⟨d,c,o9,o10,o11,o12,rfl,hi,v⟩:=pre
 have:=v.vc.ln
 have:=v.vc.h0
 have:=v.vc.h1
 walk_at "st"
 refine⟨c,i+g.sh,rfl,⟨by omega,by omega⟩,λn n0 n1=>?_⟩
 walk_at "st"
 exact nx _ _ ⟨d,c,n,_,_,_,rfl,hi,v,n0⟩
theorem yrk (T:Txt K mg t)(hr:Room 4 (A.deeper (PyProof.Rows.envOfC "_law_voice" (yac (top 44)) s0.heap.objs.size t.f_zB cdv)))(G_zA:FnOk P w K mg base CX0 2 t.f_zA t.d_zA ["_law_room"] yc7):TrG ((ybz CX0 P w K mg base ["_law_cells","_law_size","_law_shift","_law_bars","_law_room","_law_held","_law_far","_law_k","_law_cell","_law_number","_law_some","_law_piece","_law_told"] "_law_voice" (yac (top 44)) t.f_zB cdv A outer s0 H0 E).nox) ((yb9 (yaV 44 4)).getD 1 (.Pass ⟨0,0,0,0⟩)) V2 V3:=by
 have hu:=ya2 hr
 refine⟨_,(yas (i:=10) sc_zB.nd rfl (Or.inl rfl) (yaq G_zA (hr.mono (by first | decide | omega)) rfl T.zA.M T.zA.F.kp T.zA.B .nil yaD (yaa (pv 4) yaf))),λ⟨g,i⟩ D σ H pre nx=>?_⟩
 obtain⟨d,c,n,o10,o11,o12,rfl,hi,v,n0⟩:=pre
 walk_at "st"
 refine⟨d.room,rfl,λx H2 s2 i2=>?_⟩
 rw[Is] at i2
 obtain⟨l,xs,rfl,el,il⟩:=i2
 walk_at "st"
 exact nx _ _ ⟨d,c,n,l,xs,_,_,rfl,hi,v.same s2,n0,v.fr _ _ el,il.same v.fr⟩
theorem yro (T:Txt K mg t)(hr:Room 4 (A.deeper (PyProof.Rows.envOfC "_law_voice" (yac (top 44)) s0.heap.objs.size t.f_zB cdv))):TrG ((ybz CX0 P w K mg base ["_law_cells","_law_size","_law_shift","_law_bars","_law_room","_law_held","_law_far","_law_k","_law_cell","_law_number","_law_some","_law_piece","_law_told"] "_law_voice" (yac (top 44)) t.f_zB cdv A outer s0 H0 E).nox) ((yb9 (yaV 44 4)).getD 2 (.Pass ⟨0,0,0,0⟩)) V3 V4:=by
 have hu:=ya2 hr
 refine⟨_,(yas (i:=11) sc_zB.nd rfl (Or.inl rfl) (yav yaz (pv 10) (yau ybw (yau yaP (pv 9) yag) (yax yaU rfl T.Jr PySem.boot_len (yaa (pv 10) yaf))) (λ_ _=>rfl))),λ⟨g,i⟩ D σ H pre nx=>?_⟩
 obtain⟨d,c,n,l,xs,o11,o12,rfl,hi,v,n0,el,il⟩:=pre
 have el':=yc8 _ _ el
 have lx:xs.length=(yhT d.room).length:=by rw[il.len,List.length_map]
 have f0:0 < (yhT d.room).length:=List.length_pos_of_mem (yiB v.rl)
 have f1:=yky d.room
 walk_at "st"
 refine⟨l,xs,rfl,.inl (SqL.of el'),?_⟩
 refine i_I (by omega) ?_
 have m0:=Int.emod_nonneg (n / 5) (show(xs.length:Int)≠0 by omega)
 have m1:=Int.emod_lt_of_pos (n / 5) (show(0:Int) < xs.length by omega)
 have hj:(n / 5%(xs.length:Int)).toNat < (yhT d.room).length:=by omega
 obtain⟨q,hq,iq⟩:=il.at' _ (by rw[List.length_map];exact hj)
 rw[List.getElem_map] at iq
 have ha:=yak hq
 rw[Int.toNat_of_nonneg m0] at ha
 refine ybc (SqL.of el') ha ?_
 walk_at "st"
 exact nx _ _ ⟨d,c,n,_,q,_,_,rfl,hi,v,n0,List.getElem_mem hj,iq⟩
theorem yrG (T:Txt K mg t)(hr:Room 4 (A.deeper (PyProof.Rows.envOfC "_law_voice" (yac (top 44)) s0.heap.objs.size t.f_zB cdv))):TrG ((ybz CX0 P w K mg base ["_law_cells","_law_size","_law_shift","_law_bars","_law_room","_law_held","_law_far","_law_k","_law_cell","_law_number","_law_some","_law_piece","_law_told"] "_law_voice" (yac (top 44)) t.f_zB cdv A outer s0 H0 E).nox) ((yb9 (yaV 44 4)).getD 3 (.Pass ⟨0,0,0,0⟩)) V4 V5:=by
 have hu:=ya2 hr
 refine⟨_,(yas (i:=12) sc_zB.nd rfl (Or.inl rfl) (yaE (yaa yaF (yaa (pv 11) yaf)))),λ⟨g,i⟩ D σ H pre nx=>?_⟩
 obtain⟨d,c,n,o10,q,p,o12,rfl,hi,v,n0,hp,iq⟩:=pre
 walk_at "st"
 refine⟨by show 2≤sizeLine;decide,λa ha=>?_⟩
 have s2:=yae ha (.tup [V.str "pause",q])
 have u:Same (vo g d.L H) (vo g d.L (upd H a (.tup [V.str "pause",q]))):=ycT λb u _ _ e=>s2 _ _ e
 walk_at "st"
 refine nx _ _ ⟨d,c,n,_,q,p,_,.pause p,rfl,hi,v.same s2,n0,hp,iq.same u,(ycl hp).1,rfl,yhl (v.fr _ _ (by rw[yby ha];exact yab)) (iq.same u)⟩
end
theorem ybY {H:Hp}{Q:VK}{x y:Str}(q:Q (.bl (x==y)) H):ynS K (.str x) (.str y) H Q:=⟨_,_,yn8,yn8,ymN,ymN,by rw[yqi];exact q⟩
theorem Is.note {H:Hp}{x:V}{hs:List Hd}{p:Pc}{ti be:Bool}{wd:Str}{op cl:Bool}(h:Is H x (tlT (.note hs p ti be wd op cl))):∃ a y z,x=.ref a∧H a=some (.tup [.str "note",y,z,.bl ti,.bl be,.str wd,.bl op,.bl cl])∧Is H y (hsT hs)∧Is H z (pcT p):=by
 unfold tlT at h
 rw[Is] at h
 obtain⟨a,ys,rfl,e,is⟩:=h
 rw[Iss] at is
 obtain⟨y0,r0,rfl,i0,is⟩:=is
 rw[Iss] at is
 obtain⟨y1,r1,rfl,i1,is⟩:=is
 rw[Iss] at is
 obtain⟨y2,r2,rfl,i2,is⟩:=is
 rw[Iss] at is
 obtain⟨y3,r3,rfl,i3,is⟩:=is
 rw[Iss] at is
 obtain⟨y4,r4,rfl,i4,is⟩:=is
 rw[Iss] at is
 obtain⟨y5,r5,rfl,i5,is⟩:=is
 rw[Iss] at is
 obtain⟨y6,r6,rfl,i6,is⟩:=is
 rw[Iss] at is
 obtain⟨y7,r7,rfl,i7,is⟩:=is
 rw[Iss] at is
 rw[sT,Is] at i0 i5
 rw[bT,Is] at i3 i4 i6 i7
 rw[is,i0.1,i3.1,i4.1,i5.1,i6.1,i7.1] at e
 exact⟨a,y1,y2,rfl,e,i1,i2⟩
theorem yma {H:Hp}{a:Addr}{y z:V}{hs:List Hd}{p:Pc}{ti be:Bool}{wd:Str}{op cl:Bool}(e:H a=some (.tup [.str "note",y,z,.bl ti,.bl be,.str wd,.bl op,.bl cl]))(iy:Is H y (hsT hs))(iz:Is H z (pcT p)):Is H (.ref a) (tlT (.note hs p ti be wd op cl)) :=
 ydB e (yal (ybA rfl) (yal iy (yal iz (yal (ybA rfl) (yal (ybA rfl) (yal (ybA rfl) (yal (ybA rfl) (yal (ybA rfl) (yay _)))))))))
def yqU:Stmt→List Stmt
 | .If _ b _ _=>b
 | _=>[]
def TrL {γ:Type}(X:Cx)(sts:List Stmt)(Pre Post:γ→St→Hp→Prop):Prop:=∃ te,PSs X sts te∧∀ g D σ H,Pre g σ H→(∀ σ' H',Post g σ' H'→D.nx σ' H')→te D σ H
section
variable {cdv:Value} {A:Around} {outer:List Env} {s0:Shared} {H0:Hp} {E:XK}
theorem ypZ (T:Txt K mg t)(hr:Room 4 (A.deeper (PyProof.Rows.envOfC "_law_voice" (yac (top 44)) s0.heap.objs.size t.f_zB cdv)))(G_zK:FnOk P w K mg base CX0 3 t.f_zK t.d_zK ["_law_number","_law_piece","_law_held","_law_far"] yf1):TrL ((ybz CX0 P w K mg base ["_law_cells","_law_size","_law_shift","_law_bars","_law_room","_law_held","_law_far","_law_k","_law_cell","_law_number","_law_some","_law_piece","_law_told"] "_law_voice" (yac (top 44)) t.f_zB cdv A outer s0 H0 E).nox) (yqU ((yb9 (yaV 44 4)).getD 4 (.Pass ⟨0,0,0,0⟩))) V5 V5:=by
 have hu:=ya2 hr
 refine⟨_,(yah (yas (i:=12) sc_zB.nd rfl (Or.inl rfl) (yaq G_zK (hr.mono (by first | decide | omega)) rfl T.zK.M T.zK.F.kp T.zK.B .nil yaD (yaa (yau yaP (pv 9) yag) (yaa (pv 11) (yaa (pv 5) (yaa (pv 6) yaf)))))) (yaj (ybM (yaL yfe (pv 7) (yau ycR (yax yaU rfl T.Jr PySem.boot_len (yaa (pv 0) yaf)) yag) (yaH _)) (yaj (yas (i:=12) sc_zB.nd rfl (Or.inl rfl) (yau ydY (yau ydY (ybJ ydO (pv 12) yb2 (yb4 yag)) (yaE (yaa yco yaf))) (ybJ ydO (pv 12) (yb4 yag) yb2)))) ya4))),λ⟨g,i⟩ D σ H pre nx=>?_⟩
 obtain⟨d,c,n,o10,q,p,x,tl,rfl,hi,v,n0,hp,iq,gt,tp,it⟩:=pre
 walk_at "st"
 refine⟨n / 7,d.far,q,d.hv,p,vo g d.L H,rfl,by omega,yc8,(ycl hp).1,iq,v.hd,λx H2 hs ti be wd op cl s2 gh ix=>?_⟩
 have v2:=v.same s2
 have u2:Same (vo g d.L H) (vo g d.L H2):=ycT λb u _ _ e=>s2 _ _ e
 have iq2:=iq.same u2
 have ix2:=ix.same (v.nw s2)
 walk_at "st"
 refine⟨_,_,rfl,.inl (SqL.of (v2.sm _ _ v.vc.cells)),?_⟩
 walk_at "st"
 refine i_d (λz=>?_) λz=>?_
 ·obtain⟨a,y,z,rfl,ea,iy,iz⟩:=ix2.note
  walk_at "st"
  have eH:=yc8 _ _ ea
  refine⟨3,rfl,a,_,rfl,SqT.of eH,λz=>absurd (show HT.sIx 8 8 (some 3)=8 from z.2) (by decide),λb1 g1=>?_⟩
  generalize hH3:upd H2 b1 _=H3
  have s3:Same H2 H3:=hH3▸yae g1 _
  have e3:H3 b1=some (.tup [.str "note",y,z]):=hH3▸yab
  clear hH3
  walk_at "st"
  refine⟨by decide,λb2 g2=>?_⟩
  generalize hH4:upd H3 b2 _=H4
  have s4:Same H3 H4:=hH4▸yae g2 _
  have e4:H4 b2=some (.tup [.bl false]):=hH4▸yab
  clear hH4
  refine⟨b1,b2,_,_,rfl,rfl,SqT.of (s4 _ _ e3),SqT.of e4,by simp,by show 3+1≤sizeLine;decide,(λz=>by cases z),λ_ b3 g3=>?_⟩
  generalize hH5:upd H4 b3 _=H5
  have s5:Same H4 H5:=hH5▸yae g3 _
  have e5:H5 b3=some (.tup [.str "note",y,z,.bl false]):=hH5▸yab
  clear hH5
  have s35:=(s3.trans s4).trans s5
  walk_at "st"
  refine⟨4,rfl,a,_,rfl,SqT.of (s35 _ _ eH),λz=>absurd (show HT.sIx 8 0 (some 4)=0 from z.1) (by decide),λb4 g4=>?_⟩
  generalize hH6:upd H5 b4 _=H6
  have s6:Same H5 H6:=hH6▸yae g4 _
  have e6:H6 b4=some (.tup [.bl be,.str wd,.bl op,.bl cl]):=hH6▸yab
  clear hH6
  refine⟨b3,b4,_,_,rfl,rfl,SqT.of (s6 _ _ e5),SqT.of e6,by simp,by show 4+4≤sizeLine;decide,(λz=>by cases z),λ_ b5 g5=>?_⟩
  generalize hH7:upd H6 b5 _=H7
  have s7:Same H6 H7:=hH7▸yae g5 _
  have e7:H7 b5=some (.tup [.str "note",y,z,.bl false,.bl be,.str wd,.bl op,.bl cl]):=hH7▸yab
  clear hH7
  have s37:=(s35.trans s6).trans s7
  have v7:=v2.same s37
  have u7:Same (vo g d.L H2) (vo g d.L H7):=ycT λb u _ _ e=>s37 _ _ e
  have f5:H2 b5=none:=(s35.trans s6).free g5
  walk_at "st"
  exact nx _ _ ⟨d,c,n,_,q,p,_,.note hs p false be wd op cl,rfl,hi,v7,n0,hp,iq2.same u7,⟨gh,(ycl hp).1⟩,rfl,yma (v2.fr _ _ (by rw[yby f5];exact e7)) (iy.same u7) (iz.same u7)⟩
 ·walk_at "st"
  exact nx _ _ ⟨d,c,n,_,q,p,x,.note hs p ti be wd op cl,rfl,hi,v2,n0,hp,iq2,⟨gh,(ycl hp).1⟩,rfl,ix2⟩
theorem yrj (T:Txt K mg t)(hr:Room 4 (A.deeper (PyProof.Rows.envOfC "_law_voice" (yac (top 44)) s0.heap.objs.size t.f_zB cdv)))(G_zK:FnOk P w K mg base CX0 3 t.f_zK t.d_zK ["_law_number","_law_piece","_law_held","_law_far"] yf1):TrG ((ybz CX0 P w K mg base ["_law_cells","_law_size","_law_shift","_law_bars","_law_room","_law_held","_law_far","_law_k","_law_cell","_law_number","_law_some","_law_piece","_law_told"] "_law_voice" (yac (top 44)) t.f_zB cdv A outer s0 H0 E).nox) ((yb9 (yaV 44 4)).getD 4 (.Pass ⟨0,0,0,0⟩)) V5 V5:=by
 have hu:=ya2 hr
 obtain⟨tb,pb,kb⟩:=ypZ (cdv:=cdv) (A:=A) (outer:=outer) (s0:=s0) (H0:=H0) (E:=E) T hr G_zK
 refine⟨_,show PS _ ((yb9 (yaV 44 4)).getD 4 (.Pass ⟨0,0,0,0⟩)) _ from (ybM (PW.pt (yk6 (yaL yiP (pv 5) yd9 (yaH _)) (yhn (yaL ynb (yau ybw (pv 9) yag) yag (yaH _))))) pb ya4),λ⟨g,i⟩ D σ H pre nx=>?_⟩
 have big:=kb ⟨g,i⟩ D σ H pre nx
 obtain⟨d,c,n,o10,q,p,x,tl,rfl,hi,v,n0,hp,iq,gt,tp,it⟩:=pre
 walk_at "st"
 refine⟨rfl,ydz (i_b (λz=>i_T big) λz=>?_)⟩
 walk_at "st"
 refine i_d (λz=>big) λz=>?_
 walk_at "st"
 exact nx _ _ ⟨d,c,n,o10,q,p,x,tl,rfl,hi,v,n0,hp,iq,gt,tp,it⟩
theorem yq7 (T:Txt K mg t)(hr:Room 4 (A.deeper (PyProof.Rows.envOfC "_law_voice" (yac (top 44)) s0.heap.objs.size t.f_zB cdv))):TrG ((ybz CX0 P w K mg base ["_law_cells","_law_size","_law_shift","_law_bars","_law_room","_law_held","_law_far","_law_k","_law_cell","_law_number","_law_some","_law_piece","_law_told"] "_law_voice" (yac (top 44)) t.f_zB cdv A outer s0 H0 E).nox) ((yb9 (yaV 44 4)).getD 5 (.Pass ⟨0,0,0,0⟩)) V5 V5:=by
 have hu:=ya2 hr
 refine⟨_,(yas (i:=5) sc_zB.nd rfl (Or.inl rfl) (ybm (PW.pt (yeG (yaL (ycb hu) (yav yaA (pv 12) yag (λ_ _=>rfl)) yaF (yaH _)) (ydo (ybj (yav yaA (pv 12) yag (λ_ _=>rfl)))))) (yav yaA (pv 12) yag (λ_ _=>rfl)) yd9)),λ⟨g,i⟩ D σ H pre nx=>?_⟩
 obtain⟨d,c,n,o10,q,p,x,tl,rfl,hi,v,n0,hp,iq,gt,tp,it⟩:=pre
 have fin:∀ hv,held (vo g d.L H) hv→D.nx (sg g { d with hv:=hv } [some (.int (i:Nat)),some (.int c),some (.int n),o10,some q,some x]) H:=λhv hh =>
  nx _ _ ⟨{ d with hv:=hv },c,n,_,q,p,x,tl,rfl,hi,{ v with hd:=hh },n0,hp,iq,gt,tp,it⟩
 walk_at "st"
 cases tl with
 | whole m=>exact tp.elim
 | pause p' =>
  obtain⟨a,y,rfl,ea,iy⟩:=it.pause
  refine ya0 (SqT.of (yc8 _ _ ea)) (yak (j:=0) rfl) ?_
  walk_at "st"
  refine ybY ?_
  walk_at "st"
  refine i_F ?_
  walk_at "st"
  exact fin _ (.inl rfl)
 | note hs p' ti be wd op cl =>
  obtain⟨a,y,z,rfl,ea,iy,iz⟩:=it.note
  refine ya0 (SqT.of (yc8 _ _ ea)) (yak (j:=0) rfl) ?_
  walk_at "st"
  refine ybY ?_
  walk_at "st"
  refine i_T ?_
  walk_at "st"
  refine ya0 (SqT.of (yc8 _ _ ea)) (yak (j:=3) rfl) ?_
  refine ydz ?_
  cases ti with
  | true =>
   refine i_T ?_
   walk_at "st"
   refine ya0 (SqT.of (yc8 _ _ ea)) (yak (j:=1) rfl) ?_
   walk_at "st"
   exact fin _ (.inr ⟨hs,gt.1,iy⟩)
  | false =>
   refine i_F ?_
   walk_at "st"
   exact fin _ (.inl rfl)
theorem yqI (T:Txt K mg t)(hr:Room 4 (A.deeper (PyProof.Rows.envOfC "_law_voice" (yac (top 44)) s0.heap.objs.size t.f_zB cdv)))(G_zy:FnOk P w K mg base CX0 1 t.f_zy t.d_zy ["_law_piece"] ybK):TrG ((ybz CX0 P w K mg base ["_law_cells","_law_size","_law_shift","_law_bars","_law_room","_law_held","_law_far","_law_k","_law_cell","_law_number","_law_some","_law_piece","_law_told"] "_law_voice" (yac (top 44)) t.f_zB cdv A outer s0 H0 E).nox) ((yb9 (yaV 44 4)).getD 6 (.Pass ⟨0,0,0,0⟩)) V5 V5:=by
 have hu:=ya2 hr
 refine⟨_,(yas (i:=6) sc_zB.nd rfl (Or.inl rfl) (ybm (yaL yiP (pv 5) yd9 (yaH _)) (yau ybt (pv 6) (yaq G_zy (hr.mono (by first | decide | omega)) rfl T.zy.M T.zy.F.kp T.zy.B .nil yaD (yaa (pv 11) yaf))) yag)),λ⟨g,i⟩ D σ H pre nx=>?_⟩
 obtain⟨d,c,n,o10,q,p,x,tl,rfl,hi,v,n0,hp,iq,gt,tp,it⟩:=pre
 have fin:∀ far H2,Same H H2→D.nx (sg g { d with far:=far } [some (.int (i:Nat)),some (.int c),some (.int n),o10,some q,some x]) H2:=λfar H2 s2 =>
  have u2:Same (vo g d.L H) (vo g d.L H2):=ycT λb u _ _ e=>s2 _ _ e
  nx _ _ ⟨{ d with far:=far },c,n,_,q,p,x,tl,rfl,hi,{ v.same s2 with },n0,hp,iq.same u2,gt,tp,it.same u2⟩
 walk_at "st"
 refine⟨rfl,ydz (i_b (λz=>?_) λz=>?_)⟩
 ·walk_at "st"
  refine⟨q,p,rfl,(ycl hp).1,iq.same yc8,λH2 s2=>?_⟩
  walk_at "st"
  exact fin (d.far+pg p) _ s2
 ·walk_at "st"
  exact fin 0 _ (Same.refl _)
def V8:VT→St→Hp→Prop:=λ⟨g,i⟩ σ H'=>∃ d c o9 o10 q p o12,σ=sg g d [some (.int (i:Nat)),some (.int c),o9,o10,some q,o12]∧i < g.ns.length∧VOk g d (i+1) H'∧d.bs.length≤i∧d.ts≠[]∧p∈yhT d.room∧Is (vo g d.L H') q (pcT p)
theorem yri (T:Txt K mg t)(hr:Room 4 (A.deeper (PyProof.Rows.envOfC "_law_voice" (yac (top 44)) s0.heap.objs.size t.f_zB cdv))):TrG ((ybz CX0 P w K mg base ["_law_cells","_law_size","_law_shift","_law_bars","_law_room","_law_held","_law_far","_law_k","_law_cell","_law_number","_law_some","_law_piece","_law_told"] "_law_voice" (yac (top 44)) t.f_zB cdv A outer s0 H0 E).nox) ((yb9 (yaV 44 4)).getD 7 (.Pass ⟨0,0,0,0⟩)) V5 V8:=by
 have hu:=ya2 hr
 refine⟨_,(yaO (ybU PySem.F.plainAttrs_list PySem.F.slot_list_append PySem.F.type_list_append yaI (yav yaz (pv 3) (yc6 ybZ yag) (λ_ _=>rfl)) (yaa (pv 12) yaf))),λ⟨g,i⟩ D σ H pre nx=>?_⟩
 obtain⟨d,c,n,o10,q,p,x,tl,rfl,hi,v,n0,hp,iq,gt,tp,it⟩:=pre
 walk_at "st"
 refine ybc (SqL.of v.hB) (ybP d.xs (.ref d.L)) ?_
 refine⟨.inl ⟨rfl,_,SqL.of v.hL⟩,?_⟩
 walk_at "st"
 have ly:d.ys.length=d.ts.length:=by rw[v.iy.len,List.length_map]
 have:=v.lt
 have:=v.vc.ln
 refine ydb v.hL (yam (by omega)) ?_
 have u:Same (vo g d.L H) (vo g d.L (upd H d.L (.lst (d.ys++[x])))):=ycT λb u n1 _ e=>by rw[yai n1];exact e
 refine nx _ _ ⟨{ d with ys:=d.ys++[x],ts:=d.ts++[tl] },c,_,_,q,p,_,rfl,hi,?_,v.lb,by simp,hp,iq.same u⟩
 have gt':yaN (d.ts++[tl]):=λz hz=>by
  rcases List.mem_append.mp hz with hz | hz
  ·exact v.gt z hz
  ·rw[List.mem_singleton.mp hz];exact gt
 have lb':d.bs.length≤i+1:=by have:=v.lb;omega
 have lt':d.bs.flatten.length+(d.ts++[tl]).length≤i+1:=by rw[List.length_append,List.length_singleton];omega
 have sm':Same g.H (upd H d.L (.lst (d.ys++[x]))):=λb z e=>by rw[yai (yad e v.nL)];exact v.sm _ _ e
 have hB':upd H d.L (.lst (d.ys++[x])) g.B=some (.lst (d.xs++[.ref d.L])):=by rw[yai v.ne.symm];exact v.hB
 have iy':Iss (vo g d.L (upd H d.L (.lst (d.ys++[x])))) (d.ys++[x]) ((d.ts++[tl]).map tlT):=by rw[List.map_append];exact Iss.app (v.iy.same u) (yal (it.same u) (yay _))
 exact⟨v.vc,sm',hB',yab,v.nB,v.nL,v.ne,v.ix.same u,iy',v.hd.same u,v.gb,gt',lb',lt',v.r3,v.rl,v.rh⟩
def V9:VT→St→Hp→Prop:=λ⟨g,i⟩ σ H'=>∃ d r o7 o8 o9 o10 o11 o12,σ=sg g { d with room:=r } [o7,o8,o9,o10,o11,o12]∧i < g.ns.length∧VOk g d (i+1) H'∧d.bs.length≤i∧d.ts≠[]∧0≤r∧r%3=0∧r≤d.room
theorem yrh (T:Txt K mg t)(hr:Room 4 (A.deeper (PyProof.Rows.envOfC "_law_voice" (yac (top 44)) s0.heap.objs.size t.f_zB cdv)))(G_zy:FnOk P w K mg base CX0 1 t.f_zy t.d_zy ["_law_piece"] ybK):TrG ((ybz CX0 P w K mg base ["_law_cells","_law_size","_law_shift","_law_bars","_law_room","_law_held","_law_far","_law_k","_law_cell","_law_number","_law_some","_law_piece","_law_told"] "_law_voice" (yac (top 44)) t.f_zB cdv A outer s0 H0 E).nox) ((yb9 (yaV 44 4)).getD 8 (.Pass ⟨0,0,0,0⟩)) V8 V9:=by
 have hu:=ya2 hr
 refine⟨_,(yas (i:=4) sc_zB.nd rfl (Or.inl rfl) (yau ycR (pv 4) (yaq G_zy (hr.mono (by first | decide | omega)) rfl T.zy.M T.zy.F.kp T.zy.B .nil yaD (yaa (pv 11) yaf)))),λ⟨g,i⟩ D σ H pre nx=>?_⟩
 obtain⟨d,c,o9,o10,q,p,o12,rfl,hi,v,lb,ne,hp,iq⟩:=pre
 obtain⟨hm,hle⟩:=ycl hp
 have pos:=yfq _ hm
 have:=v.r3
 walk_at "st"
 refine⟨q,p,rfl,hm,iq.same yc8,λH2 s2=>?_⟩
 walk_at "st"
 exact nx _ _ ⟨d,_,_,_,_,_,_,_,rfl,hi,v.same s2,lb,ne,by omega,by omega,by omega⟩
theorem yqK (T:Txt K mg t)(hr:Room 4 (A.deeper (PyProof.Rows.envOfC "_law_voice" (yac (top 44)) s0.heap.objs.size t.f_zB cdv))):TrG ((ybz CX0 P w K mg base ["_law_cells","_law_size","_law_shift","_law_bars","_law_room","_law_held","_law_far","_law_k","_law_cell","_law_number","_law_some","_law_piece","_law_told"] "_law_voice" (yac (top 44)) t.f_zB cdv A outer s0 H0 E).nox) ((yb9 (yaV 44 4)).getD 9 (.Pass ⟨0,0,0,0⟩)) V9 (λg=>V0 (g.1,g.2+1)):=by
 have hu:=ya2 hr
 refine⟨_,(ybM (yaL yfe (pv 4) yag (yaH _)) (yah (yaO (ybU PySem.F.plainAttrs_list PySem.F.slot_list_append PySem.F.type_list_append yaI (pv 3) (yaa (yaZ yaf) yaf))) (yaj (yas (i:=4) sc_zB.nd rfl (Or.inl rfl) (pv 1)))) ya4),λ⟨g,i⟩ D σ H pre nx=>?_⟩
 obtain⟨d,r,o7,o8,o9,o10,o11,o12,rfl,hi,v,lb,ne,r0,r3,rl⟩:=pre
 have:=v.rh
 walk_at "st"
 refine i_d (λz=>?_) λz=>?_
 ·walk_at "st"
  refine⟨.inl ⟨rfl,_,SqL.of v.hB⟩,?_⟩
  walk_at "st"
  refine⟨Nat.zero_le _,λL2 h2=>?_⟩
  generalize hH2:upd H L2 _=H2
  have s2:Same H H2:=hH2▸yae h2 _
  have e2:H2 L2=some (.lst []):=hH2▸yab
  clear hH2
  walk_at "st"
  have v2:=v.same s2
  have lx:d.xs.length=d.bs.length:=by rw[v.ix.len,List.length_map]
  have:=v.vc.ln
  refine ydb v2.hB (yam (by rw[List.length_append,List.length_singleton];omega)) ?_
  walk_at "st"
  have nB:L2≠g.B:=(yad v.hB h2).symm
  have nL:L2≠d.L:=(yad v.hL h2).symm
  have f2:g.H L2=none:=v.sm.free h2
  have u:Same (vo g d.L H) (vo g L2 (upd H2 g.B (.lst (d.xs++[.ref d.L]++[.ref L2])))):=λb w e=>by
   obtain⟨n1,n2,n3,e⟩:=ydM e
   exact yi0 (yad e h2) n2 n3 (by rw[yai n2];exact s2 _ _ e)
  have eL:vo g L2 (upd H2 g.B (.lst (d.xs++[.ref d.L]++[.ref L2]))) d.L=some (.lst d.ys):=yi0 nL.symm v.ne v.nL (by rw[yai v.ne];exact v2.hL)
  refine nx _ _ ⟨{ d with room:=g.sz,L:=L2,xs:=d.xs++[.ref d.L],ys:=[],bs:=d.bs++[d.ts],ts:=[] },_,_,_,_,_,_,rfl,?_⟩
  have gb':ycZ (d.bs++[d.ts]):=λb hb=>by
   rcases List.mem_append.mp hb with hb | hb
   ·exact v.gb b hb
   ·rw[List.mem_singleton.mp hb];exact⟨v.gt,ne,by have:=v.lt;omega⟩
  have ix':Iss (vo g L2 (upd H2 g.B (.lst (d.xs++[.ref d.L]++[.ref L2])))) (d.xs++[.ref d.L]) ((d.bs++[d.ts]).map tls):=by rw[List.map_append];exact Iss.app (v.ix.same u) (yal (ybB eL (v.iy.same u)) (yay _))
  exact⟨v.vc,yaJ v.nB v2.sm,yab,by show upd H2 g.B _ L2=_;rw[yai nB];exact e2,v.nB,f2,nB,ix',yay _,v.hd.same u,gb',(λ_ h=>by cases h),by show(d.bs++[d.ts]).length≤i+1;rw[List.length_append,List.length_singleton];omega,by show(d.bs++[d.ts]).flatten.length+0≤i+1;rw[List.flatten_append,List.length_append];simpa using v.lt,v.vc.zm,v.vc.z3,Int.le_refl _⟩
 ·walk_at "st"
  refine nx _ _ ⟨{ d with room:=r },_,_,_,_,_,_,rfl,?_⟩
  have z':¬ r=0:=z
  have r3':3≤r:=by omega
  have rh':r≤g.sz:=by omega
  exact { v with r3:=r3,rl:=r3',rh:=rh' }
end
def yfj:Sp:=λvs H Q _=>∃ (a:Addr) (ns:List Int) (sz sh:Int),vs=[.ref a,.int sz,.int sh]∧H a=some (.lst (ns.map V.int))∧ns.length≤23∧3≤sz∧sz≤96∧sz%3=0∧0≤sh∧sh≤100 ∧
 ∀ x H' bs,Same H H'→ycZ bs→bs≠[]→bs.length≤24→nts bs.flatten≤23→Is (fr H H') x (bsT bs)→Q x H'
theorem yhs (n:Nat):ixN (n+1) (-1)=some n:=by
 unfold ixN
 simp
 omega
section
variable {cdv:Value} {A:Around} {outer:List Env} {s0:Shared} {H0:Hp} {E:XK}
theorem ynL (T:Txt K mg t)(hr:Room 4 (A.deeper (PyProof.Rows.envOfC "_law_voice" (yac (top 44)) s0.heap.objs.size t.f_zB cdv)))(G_zH:FnOk P w K mg base CX0 1 t.f_zH t.d_zH ["_law_cell","_law_k"] ycW)(G_zA:FnOk P w K mg base CX0 2 t.f_zA t.d_zA ["_law_room"] yc7)(G_zK:FnOk P w K mg base CX0 3 t.f_zK t.d_zK ["_law_number","_law_piece","_law_held","_law_far"] yf1)(G_zy:FnOk P w K mg base CX0 1 t.f_zy t.d_zy ["_law_piece"] ybK) :
  TrG (γ:=VG) ((ybz CX0 P w K mg base ["_law_cells","_law_size","_law_shift","_law_bars","_law_room","_law_held","_law_far","_law_k","_law_cell","_law_number","_law_some","_law_piece","_law_told"] "_law_voice" (yac (top 44)) t.f_zB cdv A outer s0 H0 E).nox) (yaV 44 4) (λg=>V0 (g,0)) (λg=>V0 (g,g.ns.length)):=by
 have hu:=ya2 hr
 obtain⟨t0,pf0,k0⟩:=yqM (cdv:=cdv) (A:=A) (outer:=outer) (s0:=s0) (H0:=H0) (E:=E) T hr G_zH
 obtain⟨t1,pf1,k1⟩:=yrk (cdv:=cdv) (A:=A) (outer:=outer) (s0:=s0) (H0:=H0) (E:=E) T hr G_zA
 obtain⟨t2,pf2,k2⟩:=yro (P:=P) (w:=w) (base:=base) (cdv:=cdv) (A:=A) (outer:=outer) (s0:=s0) (H0:=H0) (E:=E) T hr
 obtain⟨t3,pf3,k3⟩:=yrG (P:=P) (w:=w) (base:=base) (cdv:=cdv) (A:=A) (outer:=outer) (s0:=s0) (H0:=H0) (E:=E) T hr
 obtain⟨t4,pf4,k4⟩:=yrj (cdv:=cdv) (A:=A) (outer:=outer) (s0:=s0) (H0:=H0) (E:=E) T hr G_zK
 obtain⟨t5,pf5,k5⟩:=yq7 (P:=P) (w:=w) (base:=base) (cdv:=cdv) (A:=A) (outer:=outer) (s0:=s0) (H0:=H0) (E:=E) T hr
 obtain⟨t6,pf6,k6⟩:=yqI (cdv:=cdv) (A:=A) (outer:=outer) (s0:=s0) (H0:=H0) (E:=E) T hr G_zy
 obtain⟨t7,pf7,k7⟩:=yri (P:=P) (w:=w) (base:=base) (cdv:=cdv) (A:=A) (outer:=outer) (s0:=s0) (H0:=H0) (E:=E) T hr
 obtain⟨t8,pf8,k8⟩:=yrh (cdv:=cdv) (A:=A) (outer:=outer) (s0:=s0) (H0:=H0) (E:=E) T hr G_zy
 obtain⟨t9,pf9,k9⟩:=yqK (P:=P) (w:=w) (base:=base) (cdv:=cdv) (A:=A) (outer:=outer) (s0:=s0) (H0:=H0) (E:=E) T hr
 refine⟨_,show PS _ (yaV 44 4) _ from (ybf PassesOwn.never rfl (ych rfl T.Jc (yaa (pv 0) yaf)) (yca (n:=2) rfl (yaC (yan (i:=7) sc_zB.nd rfl (Or.inl rfl)) (yaC (yan (i:=8) sc_zB.nd rfl (Or.inl rfl)) ybG))) (yah pf0 (yah pf1 (yah pf2 (yah pf3 (yah pf4 (yah pf5 (yah pf6 (yah pf7 (yah pf8 (yaj pf9))))))))))),λg D σ H pre nx=>?_⟩
 obtain⟨d,o7,o8,o9,o10,o11,o12,rfl,v⟩:=pre
 walk_at "st"
 refine⟨g.a,rfl,⟨_,SqL.of (v.sm _ _ v.vc.cells)⟩,ybQ (xs:=g.ns.map V.int) (λi σ H'=>V0 (g,i) σ H') ⟨d,_,_,_,_,_,_,rfl,v⟩ (λi σ H' _ h=>?_) ?_ ?_⟩
 ·obtain⟨d,_,_,_,_,_,_,_,v⟩:=h
  exact SqL.of (v.sm _ _ v.vc.cells)
 ·rintro i x σ H' p hx ⟨d,o7,o8,o9,o10,o11,o12,rfl,v⟩ hp
  have hi:i < g.ns.length:=by have:=(List.getElem?_eq_some_iff.mp hx).1;rw[List.length_map] at this;exact this
  obtain⟨c,rfl⟩:∃ c,x=.int c:=by
   rw[List.getElem?_map,List.getElem?_eq_getElem hi] at hx
   exact⟨_,(Option.some.inj hx).symm⟩
  have s2:=yae hp (.tup [.int (i:Nat),.int c])
  refine yex (SqT.of yab) ?_
  refine ybe (k0 (g,i) _ _ _ ⟨d,c,_,_,_,_,rfl,hi,v.same s2⟩ fun σ1 H1 h1=>ybe (k1 (g,i) _ _ _ h1 fun σ2 H2 h2=>ybe (k2 (g,i) _ _ _ h2 fun σ3 H3 h3=>ybe (k3 (g,i) _ _ _ h3 fun σ4 H4 h4=>ybe (k4 (g,i) _ _ _ h4 fun σ5 H5 h5=>ybe (k5 (g,i) _ _ _ h5 fun σ6 H6 h6=>ybe (k6 (g,i) _ _ _ h6 fun σ7 H7 h7=>ybe (k7 (g,i) _ _ _ h7 fun σ8 H8 h8=>ybe (k8 (g,i) _ _ _ h8 fun σ9 H9 h9=>k9 (g,i) _ _ _ h9 fun σ' H' h=>h)))))))))
 ·rintro σ H' h
  rw[List.length_map] at h
  exact nx _ _ h
end
theorem yp2 (T:Txt K mg t)(G_zH:FnOk P w K mg base CX0 1 t.f_zH t.d_zH ["_law_cell","_law_k"] ycW)(G_zA:FnOk P w K mg base CX0 2 t.f_zA t.d_zA ["_law_room"] yc7)(G_zK:FnOk P w K mg base CX0 3 t.f_zK t.d_zK ["_law_number","_law_piece","_law_held","_law_far"] yf1)(G_zy:FnOk P w K mg base CX0 1 t.f_zy t.d_zy ["_law_piece"] ybK)(G_zu:FnOk P w K mg base CX0 3 t.f_zu t.d_zu ["_law_room"] yeL):FnOk P w K mg base CX0 5 t.f_zB t.d_zB ["_law_cells","_law_size","_law_shift"] yfj:=by
 refine T.zB.F.ok sc_zB (λvs H Q E h=>?_) (λcdv A outer s H vs Q E hr h=>?_)
 ·obtain⟨_,_,_,_,rfl,_⟩:=h;rfl
 have hu:=ya2 hr
 obtain⟨a,ns,sz,sh,rfl,ha,ln,z3,z96,zm,h0,h1,q⟩:=h
 obtain⟨t4,p4,k4⟩:=ynL (cdv:=cdv) (A:=A) (outer:=outer) (s0:=s) (H0:=H) (E:=E) T hr G_zH G_zA G_zK G_zy
 refine⟨_,show PSs _ [yaV 44 0,yaV 44 1,yaV 44 2,yaV 44 3,yaV 44 4,yaV 44 5,yaV 44 6] _ from yah (yas (i:=3) sc_zB.nd rfl (Or.inl rfl) (yaZ (yaa (yaZ yaf) yaf))) (yah (yas (i:=4) sc_zB.nd rfl (Or.inl rfl) (pv 1)) (yah (yas (i:=5) sc_zB.nd rfl (Or.inl rfl) yd9) (yah (yas (i:=6) sc_zB.nd rfl (Or.inl rfl) yag) (yah p4 (yah (ygd (yau yht (yav yaz (pv 3) (yc6 ybZ yag) (λ_ _=>rfl)) (yaq G_zu (hr.mono (by first | decide | omega)) rfl T.zu.M T.zu.F.kp T.zu.B .nil yaD (yaa (pv 4) yaf))) (yfW (pv 3) (yc6 ybZ yag) yc5)) (yaj (yaG (pv 3)))))))),?_⟩
 walk_at "st"
 refine⟨Nat.zero_le _,λL hL=>?_⟩
 generalize hH1:upd H L _=H1
 have s1:Same H H1:=hH1▸yae hL _
 have e1:H1 L=some (.lst []):=hH1▸yab
 clear hH1
 walk_at "st"
 refine⟨by show 1≤sizeLine;decide,λB hB=>?_⟩
 generalize hH2:upd H1 B _=H2
 have s2:Same H1 H2:=hH2▸yae hB _
 have e2:H2 B=some (.lst [.ref L]):=hH2▸yab
 clear hH2
 walk_at "st"
 have nL:L≠B:=yad e1 hB
 refine k4 ⟨a,B,ns,sz,sh,H⟩ _ _ _ ⟨⟨sz,0,.non,L,[],[],[],[]⟩,_,_,_,_,_,_,rfl,?_⟩ fun σ' H' h=>?_
 ·exact⟨⟨ha,ln,z3,z96,zm,h0,h1⟩,s1.trans s2,e2,s2 _ _ e1,s1.free hB,hL,nL,yay _,yay _,.inl rfl,(λ_ h=>by cases h),(λ_ h=>by cases h),Nat.zero_le _,Nat.zero_le _,zm,z3,Int.le_refl _⟩
 obtain⟨d,o7,o8,o9,o10,o11,o12,rfl,v⟩:=h
 have vrh:d.room≤sz:=v.rh
 have vrl:=v.rl
 have vlt:d.bs.flatten.length+d.ts.length≤ns.length:=v.lt
 have vlb:d.bs.length≤ns.length:=v.lb
 walk_at "st"
 refine ybc (SqL.of v.hB) (ybP d.xs (.ref d.L)) ?_
 walk_at "st"
 refine⟨d.room,rfl,by omega,by omega,v.r3,λx H3 ts s3 gt gn ne lt it=>?_⟩
 obtain⟨l,zs,rfl,el,il⟩:∃ l zs,x=.ref l∧fr H' H3 l=some (.lst zs)∧Iss (fr H' H3) zs (ts.map tlT):=by
  rw[tls,Is] at it
  exact it
 have v3:=v.same s3
 have lz:zs.length=ts.length:=by rw[il.len,List.length_map]
 have ly:d.ys.length=d.ts.length:=by rw[v.iy.len,List.length_map]
 walk_at "st"
 refine⟨d.L,l,d.ys,zs,rfl,rfl,v3.hL,(ya1 el).2,Nat.le_of_lt (yam (by omega)),λM hM=>?_⟩
 generalize hH4:upd H3 M _=H4
 have s4:Same H3 H4:=hH4▸yae hM _
 have e4:H4 M=some (.lst (d.ys++zs)):=hH4▸yab
 clear hH4
 have v4:=v3.same s4
 show ynr _ _ _ _ _ _ _
 walk_at "st"
 refine⟨B,_,-1,d.xs.length,rfl,rfl,v4.hB,?_,?_⟩
 ·rw[List.length_append,List.length_singleton]
  exact yhs _
 rw[show(d.xs++[V.ref d.L]).set d.xs.length (.ref M)=d.xs++[.ref M] by rw[List.set_append_right _ _ (Nat.le_refl _),Nat.sub_self];rfl]
 walk_at "st"
 have nM:M≠B:=(yad v3.hB hM).symm
 have nML:M≠d.L:=(yad v3.hL hM).symm
 have fM:H M=none:=v3.sm.free hM
 have u:Same (vo ⟨a,B,ns,sz,sh,H⟩ d.L H4) (fr H (upd H4 B (.lst (d.xs++[.ref M])))):=λb w e=>by
  obtain⟨n1,n2,n3,e⟩:=ydM e
  have n2:b≠B:=n2
  rw[yby n3,yai n2]
  exact e
 have u3:Same (vo ⟨a,B,ns,sz,sh,H⟩ d.L H3) (vo ⟨a,B,ns,sz,sh,H⟩ d.L H4):=ycT λb u _ _ e=>s4 _ _ e
 refine q _ _ (d.bs++[d.ts++ts]) (yaJ v.nB v4.sm) (λb hb=>?_) (by simp) (by rw[List.length_append,List.length_singleton];omega) ?_ (ybB (by rw[yby v.nB];exact yab) ?_)
 ·rcases List.mem_append.mp hb with hb | hb
  ·exact v.gb b hb
  ·rw[List.mem_singleton.mp hb]
   refine⟨λtl h=>?_,λz=>ne (by omega) (List.append_eq_nil_iff.mp z).2,by rw[List.length_append];omega⟩
   rcases List.mem_append.mp h with h | h
   ·exact v.gt tl h
   ·exact gt tl h
 ·have c1:nts d.bs.flatten≤d.bs.flatten.length:=List.countP_le_length
  have c2:nts d.ts≤d.ts.length:=List.countP_le_length
  have c3:=gn.nts
  unfold nts at c1 c2 c3 ⊢
  rw[List.flatten_append,List.countP_append,List.flatten_singleton,List.countP_append]
  omega
 ·rw[List.map_append]
  refine Iss.app (v4.ix.same u) (yal (ybB (xs:=d.ys++zs) ?_ ?_) (yay _))
  ·rw[yby fM,yai nM];exact e4
  ·rw[List.map_append]
   exact Iss.app (v4.iy.same u) (((il.same v.fr).same u3).same u)
theorem ybV {H:Hp}{a:Addr}{o o':HO}:upd (upd H a o) a o'=upd H a o':=by
 funext b
 by_cases e:b=a
 ·rw[e,yab,yab]
 ·rw[yai e,yai e,yai e]
def nFs (l:Addr)(z:V)(ti be:Bool)(wd:Str)(op cl:Bool):List (Str×V):=[("heads",.ref l),("piece",z),("is_tied",.bl ti),("is_beamed",.bl be),("word",.str wd),("opens",.bl op),("closes",.bl cl)]
def Sg (t:Ad)(H:Hp)(x:V):Tl→Prop
 | .note hs p ti be wd op cl=>∃ a dx l z,x=.ref a∧H a=some (.ins t.QL dx (nFs l z ti be wd op cl))∧Is H (.ref l) (hsT hs)∧Is H z (pcT p)
 | .pause p=>∃ a dx z,x=.ref a∧H a=some (.ins t.QM dx [("piece",z)])∧Is H z (pcT p)
 | .whole n=>∃ a dx,x=.ref a∧H a=some (.ins t.QN dx [("length",.int n)])
theorem Sg.same {H H':Hp}{x:V}{tl:Tl}(s:Same H H')(h:Sg t H x tl):Sg t H' x tl:=by
 cases tl with
 | note hs p ti be wd op cl=>obtain⟨a,dx,l,z,e,ea,i1,i2⟩:=h;exact⟨a,dx,l,z,e,s _ _ ea,i1.same s,i2.same s⟩
 | pause p=>obtain⟨a,dx,z,e,ea,i⟩:=h;exact⟨a,dx,z,e,s _ _ ea,i.same s⟩
 | whole n=>obtain⟨a,dx,e,ea⟩:=h;exact⟨a,dx,e,s _ _ ea⟩
def ygH (t:Ad):Sp:=λvs H Q _=>∃ (a dx l:Addr) (xs:List V) (z:V) (ti be:Bool) (wd:Str) (op cl:Bool),vs=[.ref a,.ref l,z,.bl ti,.bl be,.str wd,.bl op,.bl cl]∧H a=some (.ins t.QL dx [])∧H l=some (.lst xs) ∧
 ∀ l',H l'=none→Q .non (upd (upd H l' (.lst xs)) a (.ins t.QL dx (nFs l' z ti be wd op cl)))
theorem ypu (T:Txt K mg t):FnOk P w K mg base CX0 1 t.f_zh t.d_zh ["self","heads","piece","is_tied","is_beamed","word","opens","closes"] (ygH t):=by
 refine T.zh.F.ok yoG (λvs H Q E h=>?_) (λcdv A outer s H vs Q E hr h=>?_)
 ·obtain⟨_,_,_,_,_,_,_,_,_,_,rfl,_⟩:=h;rfl
 have hu:=ya2 hr
 obtain⟨a,dx,l,xs,z,ti,be,wd,op,cl,rfl,ea,el,q⟩:=h
 refine⟨_,(yah (ybL (pv 0) (ybu ybq rfl T.Jf yaR (yaa (pv 1) yaf)) rfl) (yah (ybL (pv 0) (pv 2) rfl) (yah (ybL (pv 0) (pv 3) rfl) (yah (ybL (pv 0) (pv 4) rfl) (yah (ybL (pv 0) (pv 5) rfl) (yah (ybL (pv 0) (pv 6) rfl) (yaj (ybL (pv 0) (pv 7) rfl)))))))),?_⟩
 walk_at "st"
 refine⟨l,xs,rfl,.inl (SqL.of el),λl' hl'=>?_⟩
 have n1:a≠l':=yad ea hl'
 have ea1:upd H l' (.lst xs) a=some (.ins t.QL dx []):=by rw[yai n1];exact ea
 have fin:=q l' hl'
 generalize upd H l' (.lst xs)=H1 at ea1 fin ⊢
 refine yev rfl ⟨a,_,dx,_,rfl,ea1,T.Jb,T.Jo,by decide,?_⟩
 walk_at "st"
 refine⟨a,_,dx,_,rfl,yab,T.Jb,T.Jp,by show 1 < 1000;decide,?_⟩
 walk_at "st"
 refine⟨a,_,dx,_,rfl,yab,T.Jb,T.Jg,by show 2 < 1000;decide,?_⟩
 walk_at "st"
 refine⟨a,_,dx,_,rfl,yab,T.Jb,T.Jn,by show 3 < 1000;decide,?_⟩
 walk_at "st"
 refine⟨a,_,dx,_,rfl,yab,T.Jb,T.Jt,by show 4 < 1000;decide,?_⟩
 walk_at "st"
 refine⟨a,_,dx,_,rfl,yab,T.Jb,T.Jq,by show 5 < 1000;decide,?_⟩
 walk_at "st"
 refine⟨a,_,dx,_,rfl,yab,T.Jb,T.Jk,by show 6 < 1000;decide,?_⟩
 show Q .non _
 rw[ybV,ybV,ybV,ybV,ybV,ybV]
 exact fin
def yeM (t:Ad):Sp:=λvs H Q _=>∃ (a dx:Addr) (z:V),vs=[.ref a,z]∧H a=some (.ins t.QM dx [])∧Q .non (upd H a (.ins t.QM dx [("piece",z)]))
theorem yoC (T:Txt K mg t):FnOk P w K mg base CX0 1 t.f_zc t.d_zc ["self","piece"] (yeM t):=by
 refine T.zc.F.ok ypS (λvs H Q E h=>?_) (λcdv A outer s H vs Q E hr h=>?_)
 ·obtain⟨_,_,_,rfl,_⟩:=h;rfl
 have hu:=ya2 hr
 obtain⟨a,dx,z,rfl,ea,q⟩:=h
 refine⟨_,(yaj (ybL (pv 0) (pv 1) rfl)),?_⟩
 walk_at "st"
 exact⟨a,_,dx,_,rfl,ea,T.Jy,T.Jl,by decide,q⟩
def yjZ (C:Addr):Sp:=λvs H Q _=>∃ (a dx:Addr) (n:Int),vs=[.ref a,.int n]∧H a=some (.ins C dx [])∧Q .non (upd H a (.ins C dx [("length",.int n)]))
theorem yoN (T:Txt K mg t):FnOk P w K mg base CX0 1 t.f_zb t.d_zb ["self","length"] (yjZ t.QN):=by
 refine T.zb.F.ok yo8 (λvs H Q E h=>?_) (λcdv A outer s H vs Q E hr h=>?_)
 ·obtain⟨_,_,_,rfl,_⟩:=h;rfl
 have hu:=ya2 hr
 obtain⟨a,dx,z,rfl,ea,q⟩:=h
 refine⟨_,(yaj (ybL (pv 0) (pv 1) rfl)),?_⟩
 walk_at "st"
 exact⟨a,_,dx,_,rfl,ea,T.Jz,T.Jh,by decide,q⟩
def yfn (t:Ad):Sp:=λvs H Q _=>∃ (C a dx:Addr) (n:Int),vs=[.ref a,.int n]∧(C=t.QP∨C=t.QQ)∧H a=some (.ins C dx [])∧Q .non (upd H a (.ins C dx [("length",.int n)]))
theorem ypa (T:Txt K mg t):FnOk P w K mg base CX0 1 t.f_zd t.d_zd ["self","length"] (yfn t):=by
 refine T.zd.F.ok ypF (λvs H Q E h=>?_) (λcdv A outer s H vs Q E hr h=>?_)
 ·obtain⟨_,_,_,_,rfl,_⟩:=h;rfl
 have hu:=ya2 hr
 obtain⟨C,a,dx,z,rfl,hC,ea,q⟩:=h
 refine⟨_,(yaj (ybL (pv 0) (pv 1) rfl)),?_⟩
 walk_at "st"
 rcases hC with rfl | rfl
 ·exact⟨a,_,dx,_,rfl,ea,T.JD,T.Jm,by decide,q⟩
 ·exact⟨a,_,dx,_,rfl,ea,T.Jd,T.Ji,by decide,q⟩
inductive SK where
 | n | p | w
def yrc:Tl→SK
 | .note ..=>.n
 | .pause _=>.p
 | .whole _=>.w
def tg:Tl→Int
 | .note _ p _ _ _ _ _=>pg p
 | .pause p=>pg p
 | .whole n=>n
def isP:Tl→Bool
 | .pause _=>true
 | _=>false
def ydC:Tl→Bool
 | .note _ _ ti _ _ _ _=>ti
 | _=>false
theorem yi2 {tl:Tl}(g:ygS tl):3≤tg tl∧tg tl≤96:=by
 cases tl with
 | note hs p ti be wd op cl=>have:=yfq _ g.2;exact⟨this.1,this.2.1⟩
 | pause p=>have:=yfq _ g;exact⟨this.1,this.2.1⟩
 | whole n=>exact g
def gC (t:Ad):SK→Addr
 | .n=>t.QL
 | .p=>t.QM
 | .w=>t.QN
def gF (t:Ad):SK→Addr
 | .n=>t.f_zx
 | .p=>t.f_zo
 | .w=>t.f_zk
def gD (t:Ad):SK→FuncData
 | .n=>t.d_zx
 | .p=>t.d_zo
 | .w=>t.d_zk
theorem ycw (T:Txt K mg t):∀ i,Cls K (gC t i)
 | .n=>T.Jb
 | .p=>T.Jy
 | .w=>T.Jz
theorem ycB (T:Txt K mg t):∀ i,ykc K (gC t i) "grains" (gF t i)
 | .n=>T.QC
 | .p=>T.QD
 | .w=>T.QE
theorem ycA (T:Txt K mg t):∀ i,Binds K (gD t i) ["self"] []
 | .n=>T.zx.B
 | .p=>T.zo.B
 | .w=>T.zk.B
def yil (t:Ad)(i:SK):Sp:=λvs H Q _=>∃ x tl,vs=[x]∧yrc tl=i∧ygS tl∧Sg t H x tl∧Q (.int (tg tl)) H
theorem yoh (T:Txt K mg t)(G_zr:FnOk P w K mg base CX0 1 t.f_zr t.d_zr ["piece"] yc2):FnOk P w K mg base CX0 2 t.f_zx t.d_zx ["self"] (yil t .n):=by
 refine T.zx.F.ok yot (λvs H Q E h=>?_) (λcdv A outer s H vs Q E hr h=>?_)
 ·obtain⟨_,_,rfl,_⟩:=h;rfl
 have hu:=ya2 hr
 obtain⟨x,tl,rfl,hk,g,sg',q⟩:=h
 cases tl with
 | pause p=>cases hk
 | whole n=>cases hk
 | note hs p ti be wd op cl =>
  obtain⟨a,dx,l,z,rfl,ea,i1,i2⟩:=sg'
  refine⟨_,(yaj (yaG (yaq G_zr (hr.mono (by first | decide | omega)) rfl T.zr.M T.zr.F.kp T.zr.B .nil yaD (yaa (ya3 (pv 0) rfl) yaf)))),?_⟩
  walk_at "st"
  refine⟨a,_,dx,_,_,rfl,ea,T.Jb,T.Jp,rfl,?_⟩
  walk_at "st"
  exact⟨z,p,rfl,g.2,i2,q⟩
theorem yoO (T:Txt K mg t)(G_zr:FnOk P w K mg base CX0 1 t.f_zr t.d_zr ["piece"] yc2):FnOk P w K mg base CX0 2 t.f_zo t.d_zo ["self"] (yil t .p):=by
 refine T.zo.F.ok yp7 (λvs H Q E h=>?_) (λcdv A outer s H vs Q E hr h=>?_)
 ·obtain⟨_,_,rfl,_⟩:=h;rfl
 have hu:=ya2 hr
 obtain⟨x,tl,rfl,hk,g,sg',q⟩:=h
 cases tl with
 | note=>cases hk
 | whole n=>cases hk
 | pause p =>
  obtain⟨a,dx,z,rfl,ea,i2⟩:=sg'
  refine⟨_,(yaj (yaG (yaq G_zr (hr.mono (by first | decide | omega)) rfl T.zr.M T.zr.F.kp T.zr.B .nil yaD (yaa (ya3 (pv 0) rfl) yaf)))),?_⟩
  walk_at "st"
  refine⟨a,_,dx,_,_,rfl,ea,T.Jy,T.Jl,rfl,?_⟩
  walk_at "st"
  exact⟨z,p,rfl,g,i2,q⟩
theorem ypf (T:Txt K mg t):FnOk P w K mg base CX0 2 t.f_zk t.d_zk ["self"] (yil t .w):=by
 refine T.zk.F.ok yoF (λvs H Q E h=>?_) (λcdv A outer s H vs Q E hr h=>?_)
 ·obtain⟨_,_,rfl,_⟩:=h;rfl
 have hu:=ya2 hr
 obtain⟨x,tl,rfl,hk,g,sg',q⟩:=h
 cases tl with
 | note=>cases hk
 | pause n=>cases hk
 | whole n =>
  obtain⟨a,dx,rfl,ea⟩:=sg'
  refine⟨_,(yaj (yaG (ya3 (pv 0) rfl))),?_⟩
  walk_at "st"
  exact i_f ea T.Jz T.Jh rfl q
theorem yol (T:Txt K mg t)(G_zr:FnOk P w K mg base CX0 1 t.f_zr t.d_zr ["piece"] yc2):∀ i,FnOk P w K mg base CX0 2 (gF t i) (gD t i) ["self"] (yil t i)
 | .n=>yoh T G_zr
 | .p=>yoO T G_zr
 | .w=>ypf T
theorem ynU {H:Hp}{x:V}{tl:Tl}{Q:VK}{E:XK}(g:ygS tl)(h:Sg t H x tl)(q:Q (.int (tg tl)) H):∃ (i:SK) (a dx:Addr) (fs:List (Str×V)),x=.ref a∧H a=some (.ins (gC t i) dx fs)∧fs.lookup (Str.ofString "grains")=none∧yil t i [x] H Q E:=by
 cases tl with
 | note hs p ti be wd op cl =>
  obtain⟨a,dx,l,z,rfl,ea,i1,i2⟩:=id h
  exact⟨.n,a,dx,_,rfl,ea,rfl,_,_,rfl,rfl,g,h,q⟩
 | pause p =>
  obtain⟨a,dx,z,rfl,ea,i2⟩:=id h
  exact⟨.p,a,dx,_,rfl,ea,rfl,_,_,rfl,rfl,g,h,q⟩
 | whole n =>
  obtain⟨a,dx,rfl,ea⟩:=id h
  exact⟨.w,a,dx,_,rfl,ea,rfl,_,_,rfl,rfl,g,h,q⟩
theorem Sg.isa (T:Txt K mg t){H:Hp}{x:V}{tl:Tl}(h:Sg t H x tl):∃ C,yfm K H x C∧PySem.W.kitOne K C (.ref t.QL)=some (isN tl)∧PySem.W.kitOne K C (.ref t.QM)=some (isP tl):=by
 cases tl with
 | note hs p ti be wd op cl =>
  obtain⟨a,dx,l,z,rfl,ea,i1,i2⟩:=h
  exact⟨_,T.Qu.ty T.Jb ea,T.JR,T.JM⟩
 | pause p =>
  obtain⟨a,dx,z,rfl,ea,i2⟩:=h
  exact⟨_,T.Qi.ty T.Jy ea,T.JN,T.JG⟩
 | whole n =>
  obtain⟨a,dx,rfl,ea⟩:=h
  exact⟨_,T.Qk.ty T.Jz ea,T.JO,T.JH⟩
theorem ygV {H:Hp}{x:V}{c:Addr}{ty:Value}{b:Bool}{Q:VK}(h:yfm K H x ty)(k:PySem.W.kitOne K ty (.ref c)=some b)(q:Q (.bl b) H):ylc K [x,.ref c] H Q:=⟨x,c,ty,b,rfl,h,k,q⟩
def ydQ (t:Ad):Sp:=λvs H Q _=>∃ x tl,vs=[x]∧Sg t H x tl∧Q (.bl (ydC tl)) H
theorem ypg (T:Txt K mg t):FnOk P w K mg base CX0 1 t.f_zj t.d_zj ["sign"] (ydQ t):=by
 refine T.zj.F.ok yoj (λvs H Q E h=>?_) (λcdv A outer s H vs Q E hr h=>?_)
 ·obtain⟨_,_,rfl,_⟩:=h;rfl
 have hu:=ya2 hr
 obtain⟨x,tl,rfl,h,q⟩:=h
 refine⟨_,(yaj (yaG (yd6 (yax (show ycd _ _ (ylc K) from ycL) rfl T.Ja yap (yaa (pv 0) (yaa (yci (v:=.ref t.QL) rfl T.JC rfl) yaf))) (yd0 (ya3 (pv 0) rfl))))),?_⟩
 walk_at "st"
 obtain⟨C,ty,k1,k2⟩:=h.isa T
 refine ygV ty k1 ?_
 walk_at "st"
 cases tl with
 | note hs p ti be wd op cl =>
  obtain⟨a,dx,l,z,rfl,ea,i1,i2⟩:=h
  refine i_T ?_
  walk_at "st"
  exact⟨a,_,dx,_,_,rfl,ea,T.Jb,T.Jg,rfl,q⟩
 | pause p=>exact i_F q
 | whole n=>exact i_F q
abbrev made (H:Hp)(C a dx:Addr):Hp:=upd (upd H dx (.own a)) a (.ins C dx [])
theorem ybR {H:Hp}{C a dx:Addr}(ha:H a=none)(hd:H dx=none)(ne:dx≠a):Same H (made H C a dx):=λb u e=>by
 unfold made
 rw[yai (yad e ha),yai (yad e hd)]
 exact e
theorem yei {H:Hp}{C a dx b:Addr}(h:made H C a dx b=none):b≠a∧H b=none:=by
 unfold made at h
 by_cases e:b=a
 ·rw[e,yab] at h;cases h
 ·rw[yai e] at h
  by_cases e2:b=dx
  ·rw[e2,yab] at h;cases h
  ·rw[yai e2] at h;exact⟨e,h⟩
theorem ygl {H:Hp}{C a dx:Addr}{o:HO}(ha:H a=none)(hd:H dx=none)(ne:dx≠a):Same H (upd (made H C a dx) a o)∧∀ Hs,nw Hs H (upd (made H C a dx) a o) a=some o :=
 ⟨λb u e=>by rw[yai (yad e ha)];exact ybR ha hd ne b u e,λHs=>by rw[yaw ha];exact yab⟩
theorem yjx {H Hs:Hp}{a dx l':Addr}{xs:List V}{z:V}{hs:List Hd}{p:Pc}{ti be:Bool}{wd:Str}{op cl:Bool}(sH:Same Hs H)(il:Iss Hs xs (hs.map hdT))(iz:Is Hs z (pcT p))(ha:H a=none)(hd:H dx=none)(ne:dx≠a)(hl:made H t.QL a dx l'=none) :
  Same H (upd (upd (made H t.QL a dx) l' (.lst xs)) a (.ins t.QL dx (nFs l' z ti be wd op cl)))∧Sg t (nw Hs H (upd (upd (made H t.QL a dx) l' (.lst xs)) a (.ins t.QL dx (nFs l' z ti be wd op cl)))) (.ref a) (.note hs p ti be wd op cl):=by
 obtain⟨n1,n2⟩:=yei hl
 have sm:Same H (upd (upd (made H t.QL a dx) l' (.lst xs)) a (.ins t.QL dx (nFs l' z ti be wd op cl))):=λb u e=>by
  rw[yai (yad e ha),yai (yad e n2)]
  exact ybR ha hd ne b u e
 refine⟨sm,a,dx,l',z,rfl,by rw[yaw ha];exact yab,ybB ?_ (il.same (yeP sH)),iz.same (yeP sH)⟩
 rw[yaw n2,yai n1]
 exact yab
def yl3 (t:Ad):Sp:=λvs H Q _=>∃ x tl Hs,vs=[x]∧Same Hs H∧Sg t Hs x tl∧∀ y H',Same H H'→Sg t (nw Hs H H') y tl→Q y H'
theorem yp6 (T:Txt K mg t)(G_zh:FnOk P w K mg base CX0 1 t.f_zh t.d_zh ["self","heads","piece","is_tied","is_beamed","word","opens","closes"] (ygH t))(G_zc:FnOk P w K mg base CX0 1 t.f_zc t.d_zc ["self","piece"] (yeM t))(G_zb:FnOk P w K mg base CX0 1 t.f_zb t.d_zb ["self","length"] (yjZ t.QN)):FnOk P w K mg base CX0 3 t.f_zR t.d_zR ["sign"] (yl3 t):=by
 refine T.zR.F.ok yoY (λvs H Q E h=>?_) (λcdv A outer s H vs Q E hr h=>?_)
 ·obtain⟨_,_,_,rfl,_⟩:=h;rfl
 have hu:=ya2 hr
 obtain⟨x,tl,Hs,rfl,sH,h,q⟩:=h
 refine⟨_,(yah (ybM (ybj (yax (show ycd _ _ (ylc K) from ycL) rfl T.Ja yap (yaa (pv 0) (yaa (yci (v:=.ref t.QL) rfl T.JC rfl) yaf)))) (yaj (yaG (ycj T.JZ G_zh (hr.mono (by first | decide | omega)) rfl T.JC T.zh.B .nil yaD (yaa (ya3 (pv 0) rfl) (yaa (ya3 (pv 0) rfl) (yaa (ya3 (pv 0) rfl) (yaa (ya3 (pv 0) rfl) (yaa (ya3 (pv 0) rfl) (yaa (ya3 (pv 0) rfl) (yaa (ya3 (pv 0) rfl) yaf)))))))))) ya4) (yaj (yaG (ybm (ybj (yax (show ycd _ _ (ylc K) from ycL) rfl T.Ja yap (yaa (pv 0) (yaa (yci (v:=.ref t.QM) rfl T.JJ rfl) yaf)))) (ycj T.JW G_zc (hr.mono (by first | decide | omega)) rfl T.JJ T.zc.B .nil yaD (yaa (ya3 (pv 0) rfl) yaf)) (ycj T.JX G_zb (hr.mono (by first | decide | omega)) rfl T.JV T.zb.B .nil yaD (yaa (ya3 (pv 0) rfl) yaf)))))),?_⟩
 walk_at "st"
 obtain⟨C,ty,k1,k2⟩:=(h.same sH).isa T
 refine ygV ty k1 ?_
 walk_at "st"
 cases tl with
 | note hs p ti be wd op cl =>
  obtain⟨a,dx,l,z,rfl,ea,i1,i2⟩:=h
  have ea':=sH _ _ ea
  obtain⟨l2,xs,e,el,il⟩:∃ l2 xs,V.ref l=.ref l2∧Hs l2=some (.lst xs)∧Iss Hs xs (hs.map hdT):=by rw[hsT,Is] at i1;exact i1
  cases e
  refine i_T ?_
  walk_at "st"
  refine⟨a,_,dx,_,_,rfl,ea',T.Jb,T.Jo,rfl,?_⟩
  walk_at "st"
  refine⟨a,_,dx,_,_,rfl,ea',T.Jb,T.Jp,rfl,?_⟩
  walk_at "st"
  refine⟨a,_,dx,_,_,rfl,ea',T.Jb,T.Jg,rfl,?_⟩
  walk_at "st"
  refine⟨a,_,dx,_,_,rfl,ea',T.Jb,T.Jn,rfl,?_⟩
  walk_at "st"
  refine⟨a,_,dx,_,_,rfl,ea',T.Jb,T.Jt,rfl,?_⟩
  walk_at "st"
  refine⟨a,_,dx,_,_,rfl,ea',T.Jb,T.Jq,rfl,?_⟩
  walk_at "st"
  refine⟨a,_,dx,_,_,rfl,ea',T.Jb,T.Jk,rfl,?_⟩
  walk_at "st"
  intro a2 dx2 ha hd ne
  refine⟨a2,dx2,l,xs,z,ti,be,wd,op,cl,rfl,yab,ybR ha hd ne _ _ (sH _ _ el),λl' hl'=>⟨rfl,?_⟩⟩
  have m:=yjx (t:=t) (ti:=ti) (be:=be) (wd:=wd) (op:=op) (cl:=cl) sH il i2 ha hd ne hl'
  exact q _ _ m.1 m.2
 | pause p =>
  obtain⟨a,dx,z,rfl,ea,i2⟩:=h
  refine i_F ?_
  walk_at "st"
  refine ygV ty k2 ?_
  walk_at "st"
  refine i_T ?_
  walk_at "st"
  refine⟨a,_,dx,_,_,rfl,sH _ _ ea,T.Jy,T.Jl,rfl,?_⟩
  walk_at "st"
  intro a2 dx2 ha hd ne
  have m:=ygl (C:=t.QM) (o:=.ins t.QM dx2 [("piece",z)]) ha hd ne
  exact⟨a2,dx2,z,rfl,yab,rfl,q _ _ m.1 ⟨a2,dx2,z,rfl,m.2 Hs,i2.same (yeP sH)⟩⟩
 | whole n =>
  obtain⟨a,dx,rfl,ea⟩:=h
  refine i_F ?_
  walk_at "st"
  refine ygV ty k2 ?_
  walk_at "st"
  refine i_F ?_
  walk_at "st"
  refine⟨a,_,dx,_,_,rfl,sH _ _ ea,T.Jz,T.Jh,rfl,?_⟩
  walk_at "st"
  intro a2 dx2 ha hd ne
  have m:=ygl (C:=t.QN) (o:=.ins t.QN dx2 [("length",.int n)]) ha hd ne
  exact⟨a2,dx2,n,rfl,yab,rfl,q _ _ m.1 ⟨a2,dx2,rfl,m.2 Hs⟩⟩
def yfl (t:Ad):Sp:=λvs H Q _=>∃ x tl Hs,vs=[x]∧Same Hs H∧Is Hs x (tlT tl)∧∀ y H',Same H H'→Sg t (nw Hs H H') y tl→Q y H'
theorem Is.whole {H:Hp}{x:V}{n:Int}(h:Is H x (tlT (.whole n))):∃ a,x=.ref a∧H a=some (.tup [.str "whole",.int n]):=by
 unfold tlT at h
 rw[Is] at h
 obtain⟨a,ys,rfl,e,is⟩:=h
 rw[Iss] at is
 obtain⟨y0,r0,rfl,i0,is⟩:=is
 rw[Iss] at is
 obtain⟨y1,r1,rfl,i1,is⟩:=is
 rw[Iss] at is
 rw[sT,Is] at i0
 rw[nT,Is] at i1
 rw[is,i0.1,i1.1] at e
 exact⟨a,rfl,e⟩
theorem ypN (T:Txt K mg t)(G_zh:FnOk P w K mg base CX0 1 t.f_zh t.d_zh ["self","heads","piece","is_tied","is_beamed","word","opens","closes"] (ygH t))(G_zc:FnOk P w K mg base CX0 1 t.f_zc t.d_zc ["self","piece"] (yeM t))(G_zb:FnOk P w K mg base CX0 1 t.f_zb t.d_zb ["self","length"] (yjZ t.QN)):FnOk P w K mg base CX0 3 t.f_zL t.d_zL ["_law_told"] (yfl t):=by
 refine T.zL.F.ok yos (λvs H Q E h=>?_) (λcdv A outer s H vs Q E hr h=>?_)
 ·obtain⟨_,_,_,rfl,_⟩:=h;rfl
 have hu:=ya2 hr
 obtain⟨x,tl,Hs,rfl,sH,h,q⟩:=h
 refine⟨_,(yah (ybM (yaL (ycb hu) (yav yaA (pv 0) yag (λ_ _=>rfl)) yaF (yaH _)) (yaj (yaG (ycj T.JZ G_zh (hr.mono (by first | decide | omega)) rfl T.JC T.zh.B .nil yaD (yaa (yav yaA (pv 0) yag (λ_ _=>rfl)) (yaa (yav yaA (pv 0) yag (λ_ _=>rfl)) (yaa (yav yaA (pv 0) yag (λ_ _=>rfl)) (yaa (yav yaA (pv 0) yag (λ_ _=>rfl)) (yaa (yav yaA (pv 0) yag (λ_ _=>rfl)) (yaa (yav yaA (pv 0) yag (λ_ _=>rfl)) (yaa (yav yaA (pv 0) yag (λ_ _=>rfl)) yaf)))))))))) ya4) (yaj (yaG (ybm (yaL (ycb hu) (yav yaA (pv 0) yag (λ_ _=>rfl)) yaF (yaH _)) (ycj T.JX G_zb (hr.mono (by first | decide | omega)) rfl T.JV T.zb.B .nil yaD (yaa (yav yaA (pv 0) yag (λ_ _=>rfl)) yaf)) (ycj T.JW G_zc (hr.mono (by first | decide | omega)) rfl T.JJ T.zc.B .nil yaD (yaa (yav yaA (pv 0) yag (λ_ _=>rfl)) yaf)))))),?_⟩
 walk_at "st"
 cases tl with
 | note hs p ti be wd op cl =>
  obtain⟨a,y,z,rfl,ea,i1,i2⟩:=h.note
  have ea':=SqT.of (K:=K) (sH _ _ ea)
  obtain⟨l,xs,rfl,el,il⟩:∃ l xs,y=.ref l∧Hs l=some (.lst xs)∧Iss Hs xs (hs.map hdT):=by rw[hsT,Is] at i1;exact i1
  refine ya0 ea' (yak (j:=0) rfl) ?_
  walk_at "st"
  refine ybY ?_
  walk_at "st"
  refine i_T ?_
  walk_at "st"
  refine ya0 ea' (yak (j:=1) rfl) ?_
  walk_at "st"
  refine ya0 ea' (yak (j:=2) rfl) ?_
  walk_at "st"
  refine ya0 ea' (yak (j:=3) rfl) ?_
  walk_at "st"
  refine ya0 ea' (yak (j:=4) rfl) ?_
  walk_at "st"
  refine ya0 ea' (yak (j:=5) rfl) ?_
  walk_at "st"
  refine ya0 ea' (yak (j:=6) rfl) ?_
  walk_at "st"
  refine ya0 ea' (yak (j:=7) rfl) ?_
  walk_at "st"
  intro a2 dx2 ha hd ne
  refine⟨a2,dx2,l,xs,z,ti,be,wd,op,cl,rfl,yab,ybR ha hd ne _ _ (sH _ _ el),λl' hl'=>⟨rfl,?_⟩⟩
  have m:=yjx (t:=t) (ti:=ti) (be:=be) (wd:=wd) (op:=op) (cl:=cl) sH il i2 ha hd ne hl'
  exact q _ _ m.1 m.2
 | pause p =>
  obtain⟨a,y,rfl,ea,i2⟩:=h.pause
  have ea':=SqT.of (K:=K) (sH _ _ ea)
  refine ya0 ea' (yak (j:=0) rfl) ?_
  walk_at "st"
  refine ybY ?_
  walk_at "st"
  refine i_F ?_
  walk_at "st"
  refine ya0 ea' (yak (j:=0) rfl) ?_
  walk_at "st"
  refine ybY ?_
  walk_at "st"
  refine i_F ?_
  walk_at "st"
  refine ya0 ea' (yak (j:=1) rfl) ?_
  walk_at "st"
  intro a2 dx2 ha hd ne
  have m:=ygl (C:=t.QM) (o:=.ins t.QM dx2 [("piece",y)]) ha hd ne
  exact⟨a2,dx2,y,rfl,yab,rfl,q _ _ m.1 ⟨a2,dx2,y,rfl,m.2 Hs,i2.same (yeP sH)⟩⟩
 | whole n =>
  obtain⟨a,rfl,ea⟩:=h.whole
  have ea':=SqT.of (K:=K) (sH _ _ ea)
  refine ya0 ea' (yak (j:=0) rfl) ?_
  walk_at "st"
  refine ybY ?_
  walk_at "st"
  refine i_F ?_
  walk_at "st"
  refine ya0 ea' (yak (j:=0) rfl) ?_
  walk_at "st"
  refine ybY ?_
  walk_at "st"
  refine i_T ?_
  walk_at "st"
  refine ya0 ea' (yak (j:=1) rfl) ?_
  walk_at "st"
  intro a2 dx2 ha hd ne
  have m:=ygl (C:=t.QN) (o:=.ins t.QN dx2 [("length",.int n)]) ha hd ne
  exact⟨a2,dx2,n,rfl,yab,rfl,q _ _ m.1 ⟨a2,dx2,rfl,m.2 Hs⟩⟩
def yfX:Sp:=λvs H Q _=>∃ x tl,vs=[x]∧ygS tl∧Is H x (tlT tl)∧∀ H',Same H H'→Q (.int (tg tl)) H'
theorem yob (T:Txt K mg t)(G_zy:FnOk P w K mg base CX0 1 t.f_zy t.d_zy ["_law_piece"] ybK):FnOk P w K mg base CX0 2 t.f_zP t.d_zP ["_law_told"] yfX:=by
 refine T.zP.F.ok yop (λvs H Q E h=>?_) (λcdv A outer s H vs Q E hr h=>?_)
 ·obtain⟨_,_,rfl,_⟩:=h;rfl
 have hu:=ya2 hr
 obtain⟨x,tl,rfl,g,h,q⟩:=h
 refine⟨_,(yaj (yaG (ybm (yaL (ycb hu) (yav yaA (pv 0) yag (λ_ _=>rfl)) yaF (yaH _)) (yav yaA (pv 0) yag (λ_ _=>rfl)) (yaq G_zy (hr.mono (by first | decide | omega)) rfl T.zy.M T.zy.F.kp T.zy.B .nil yaD (yaa (yav yaA (pv 0) (yau ybt yag (ybu yec rfl T.Qb ye3 (yaa (ybT (ycb hu) (yav yaA (pv 0) yag (λ_ _=>rfl)) yaF (yaH _)) yaf))) (λ_ _=>rfl)) yaf))))),?_⟩
 walk_at "st"
 cases tl with
 | note hs p ti be wd op cl =>
  obtain⟨a,y,z,rfl,ea,i1,i2⟩:=h.note
  have ea':=SqT.of (K:=K) ea
  refine ya0 ea' (yak (j:=0) rfl) ?_
  walk_at "st"
  refine ybY ?_
  walk_at "st"
  refine i_F ?_
  walk_at "st"
  refine ya0 ea' (yak (j:=0) rfl) ?_
  walk_at "st"
  refine ybY ?_
  refine ymx (.inr ⟨true,rfl,?_⟩)
  show rI0 _ (.int 1) (.int 1) _ _
  walk_at "st"
  refine ya0 ea' (yak (j:=2) rfl) ?_
  walk_at "st"
  exact⟨z,p,rfl,g.2,i2,q⟩
 | pause p =>
  obtain⟨a,y,rfl,ea,i2⟩:=h.pause
  have ea':=SqT.of (K:=K) ea
  refine ya0 ea' (yak (j:=0) rfl) ?_
  walk_at "st"
  refine ybY ?_
  walk_at "st"
  refine i_F ?_
  walk_at "st"
  refine ya0 ea' (yak (j:=0) rfl) ?_
  walk_at "st"
  refine ybY ?_
  refine ymx (.inr ⟨false,rfl,?_⟩)
  show rI0 _ (.int 1) (.int 0) _ _
  walk_at "st"
  refine ya0 ea' (yak (j:=1) rfl) ?_
  walk_at "st"
  exact⟨y,p,rfl,g,i2,q⟩
 | whole n =>
  obtain⟨a,rfl,ea⟩:=h.whole
  have ea':=SqT.of (K:=K) ea
  refine ya0 ea' (yak (j:=0) rfl) ?_
  walk_at "st"
  refine ybY ?_
  walk_at "st"
  refine i_T ?_
  walk_at "st"
  exact ya0 ea' (yak (j:=1) rfl) (q _ (Same.refl _))
inductive Sn where
 | rest (n:Int)
 | tones (ps:List Pit) (n:Int) (wd:Str) (op cl:Bool)
def snT:Sn→Th
 | .rest n=>.tp [sT "rest",nT n]
 | .tones ps n wd op cl=>.tp [sT "tones",lT ps,nT n,sT wd,bT op,bT cl]
def tFs (l:Addr)(n:Int)(wd:Str)(op cl:Bool):List (Str×V):=[("length",.int n),("pitches",.ref l),("word",.str wd),("opens",.bl op),("closes",.bl cl)]
def So (t:Ad)(H:Hp)(x:V):Sn→Prop
 | .rest n=>∃ a dx,x=.ref a∧H a=some (.ins t.QP dx [("length",.int n)])
 | .tones ps n wd op cl=>∃ a dx l,x=.ref a∧H a=some (.ins t.QQ dx (tFs l n wd op cl))∧Is H (.ref l) (lT ps)
theorem So.same {H H':Hp}{x:V}{sn:Sn}(s:Same H H')(h:So t H x sn):So t H' x sn:=by
 cases sn with
 | rest n=>obtain⟨a,dx,e,ea⟩:=h;exact⟨a,dx,e,s _ _ ea⟩
 | tones ps n wd op cl=>obtain⟨a,dx,l,e,ea,i⟩:=h;exact⟨a,dx,l,e,s _ _ ea,i.same s⟩
def yhy (t:Ad):Sp:=λvs H Q _=>∃ (a dx l:Addr) (xs:List V) (n:Int) (wd:Str) (op cl:Bool),vs=[.ref a,.ref l,.int n,.str wd,.bl op,.bl cl]∧H a=some (.ins t.QQ dx [])∧H l=some (.lst xs)∧l≠a ∧
 ∀ l',H l'=none→Q .non (upd (upd H l' (.lst xs)) a (.ins t.QQ dx (tFs l' n wd op cl)))
theorem ypL (T:Txt K mg t)(G_zd:FnOk P w K mg base CX0 1 t.f_zd t.d_zd ["self","length"] (yfn t)):FnOk P w K mg base CX0 2 t.f_ze t.d_ze ["self","pitches","length","word","opens","closes"] (yhy t):=by
 refine T.ze.F.ok yom (λvs H Q E h=>?_) (λcdv A outer s H vs Q E hr h=>?_)
 ·obtain⟨_,_,_,_,_,_,_,_,rfl,_⟩:=h;rfl
 have hu:=ya2 hr
 obtain⟨a,dx,l,xs,n,wd,op,cl,rfl,ea,el,nl,q⟩:=h
 refine⟨_,(yah (yaO (yk7 (yci (v:=.ref t.QO) rfl T.Qf rfl) T.QH G_zd (hr.mono (by first | decide | omega)) T.zd.B yaD (yaa (pv 0) (yaa (pv 2) yaf)))) (yah (ybL (pv 0) (ybu ybq rfl T.Jf yaR (yaa (pv 1) yaf)) rfl) (yah (ybL (pv 0) (pv 3) rfl) (yah (ybL (pv 0) (pv 4) rfl) (yaj (ybL (pv 0) (pv 5) rfl)))))),?_⟩
 walk_at "st"
 refine⟨t.QQ,a,dx,n,rfl,.inr rfl,ea,?_⟩
 walk_at "st"
 refine⟨l,xs,rfl,.inl (SqL.of (by rw[yai nl];exact el)),λl' hl'=>?_⟩
 have n1:l'≠a:=λz=>by rw[z,yab] at hl';cases hl'
 rw[yai n1] at hl'
 have fin:=q l' hl'
 have sw:upd (upd H a (.ins t.QQ dx [("length",.int n)])) l' (.lst xs)=upd (upd H l' (.lst xs)) a (.ins t.QQ dx [("length",.int n)]):=by
  funext b
  by_cases e:b=a
  ·rw[e,yai n1.symm,yab,yab]
  ·by_cases e2:b=l'
   ·rw[e2,yab,yai n1,yab]
   ·rw[yai e2,yai e,yai e,yai e2]
 rw[sw]
 generalize upd H l' (.lst xs)=H1 at fin ⊢
 refine yev rfl ⟨a,_,dx,_,rfl,yab,T.Jd,T.Js,by show 1 < 1000;decide,?_⟩
 walk_at "st"
 refine⟨a,_,dx,_,rfl,yab,T.Jd,T.JA,by show 2 < 1000;decide,?_⟩
 walk_at "st"
 refine⟨a,_,dx,_,rfl,yab,T.Jd,T.Jv,by show 3 < 1000;decide,?_⟩
 walk_at "st"
 refine⟨a,_,dx,_,rfl,yab,T.Jd,T.Ju,by show 4 < 1000;decide,?_⟩
 show Q .non _
 rw[ybV,ybV,ybV,ybV]
 exact fin
def tpo (H:Hp):Hp:=λb=>match H b with
 | some (.tup xs)=>some (.tup xs)
 | _=>none
theorem yb0 {H:Hp}{b:Addr}{u:HO}(h:tpo H b=some u):H b=some u∧∃ xs,u=.tup xs:=by
 unfold tpo at h
 cases e:H b with
 | none=>rw[e] at h;cases h
 | some v =>
  rw[e] at h
  cases v<;>first | (cases h;exact⟨rfl,_,rfl⟩) | cases h
theorem ydS {H:Hp}{b:Addr}{xs:List V}(h:H b=some (.tup xs)):tpo H b=some (.tup xs):=by unfold tpo;rw[h]
theorem ycO (H:Hp):Same (tpo H) H:=λb u h=>(yb0 h).1
theorem ykd {H H':Hp}(s:Same H H'):Same (tpo H) (tpo H'):=λb u h=>by
 obtain⟨e,xs,rfl⟩:=yb0 h
 exact ydS (s _ _ e)
theorem yhm {H:Hp}{xs:List V}{ps:List Pit}(h:Iss H xs (ps.map pT)):Iss (tpo H) xs (ps.map pT):=ydf ((ydW h).imp λy p _ iy=>by
 obtain⟨a,rfl,ea⟩:=iy.pit
 exact yeC (ydS ea))
theorem yhd {α β:Type}{K:PySem.W.Frag}{a D:Addr}{xs:List V}{us:List α}{te:TE}{Fin:Hp→Prop}{o:Option V}{r:St}{H Hs Ht:Hp}{R:Hp→V→α→Prop}{S:Hp→V→β→Prop}(hS:yk2 S)(f:α→β)
  (sT:Same Ht H) (ha:H a=some (.lst xs)) (al:Al (R Hs) xs us) (hD:H D=none) (hz:us.length≤900)
  (hte:∀ x u (H':Hp) (Q':VK),u∈us→Same H H'→R Hs x u→(∀ y H'',Same H' H''→S (nw Ht H' H'') y (f u)→Q' y H'')→te (some x :: r) H' Q')
  (fin:∀ ys H',Same H H'→H' D=some (.lst ys)→Al (S (nw Ht H (rm H' D))) ys (us.map f)→Fin H') :
  ∃ W:Nat→Nat→St→Hp→Prop,(∃ m,W 0 m (o :: r) (upd H D (.lst [])))∧yey (Itl K a) (yce 0) yg4 te D Fin W:=by
 refine ybb (xs:=xs) (λi σ' H'=>(∃ o,σ'=o :: r)∧Same H H'∧∃ ys,H' D=some (.lst ys)∧Al (S (nw Ht H (rm H' D))) ys ((us.take i).map f)) ⟨⟨_,rfl⟩,yae hD _,[],yab,Al.nil⟩ (λ_ _ _ _ h=>SqL.of (h.2.1 _ _ ha)) ?_ ?_
 ·rintro i x σ' H' N hN hx ⟨⟨o,rfl⟩,sm,ys,hd,as⟩
  have hi:i < us.length:=by have:=(List.getElem?_eq_some_iff.mp hx).1;rw[al.1] at this;exact this
  obtain⟨x',e,rx⟩:=al.2 i hi
  rw[hx] at e
  cases e
  refine ybN (ycQ (i_T ?_))
  refine hte x us[i] H' _ (List.getElem_mem hi) sm rx λy H2 t2 sy=>⟨ys,t2 _ _ hd,?_,hN _ _ ⟨⟨_,rfl⟩,yaJ hD (sm.trans t2),_,yab,?_⟩⟩
  ·rw[as.1,List.length_map,List.length_take]
   exact yam (by omega)
  ·have key:∀ {c u},H2 c=some u→c≠D→H c=none→nw Ht H (rm (upd H2 D (.lst (ys++[y]))) D) c=some u:=λe n h=>by rw[yaw h,yaB n,yai n];exact e
   have up:Same (nw Ht H' H2) (nw Ht H (rm (upd H2 D (.lst (ys++[y]))) D)):=λc u e=>by
    cases h1:H' c with
    | none =>
     rw[yaw h1] at e
     exact key e (λz=>by rw[z,hd] at h1;cases h1) (sm.free h1)
    | some v =>
     rw[yaM h1] at e
     rw[yaM (sT _ _ e)]
     exact e
   rw[List.take_succ_eq_append_getElem hi,List.map_append]
   refine Al.snoc (as.imp λ_ _ _ z=>hS (λc u e=>?_) z) (hS up sy)
   cases h:H c with
   | none =>
    rw[yaw h] at e
    obtain⟨n,e⟩:=yao e
    exact key (t2 _ _ e) n h
   | some v=>rw[yaM h] at e ⊢;exact e
 ·rintro σ' H' ⟨_,sm,ys,hd,as⟩
  rw[al.1,List.take_length] at as
  exact fin ys H' sm hd as
inductive TK2 where
 | r | t
def tC2 (t:Ad):TK2→Addr
 | .r=>t.QP
 | .t=>t.QQ
def tF2 (t:Ad):TK2→Addr
 | .r=>t.f_zO
 | .t=>t.f_zI
def tD2 (t:Ad):TK2→FuncData
 | .r=>t.d_zO
 | .t=>t.d_zI
theorem ymq (T:Txt K mg t):∀ i,Cls K (tC2 t i)
 | .r=>T.JD
 | .t=>T.Jd
theorem ymg (T:Txt K mg t):∀ i,ykc K (tC2 t i) "told" (tF2 t i)
 | .r=>T.QF
 | .t=>T.QG
theorem yl7 (T:Txt K mg t):∀ i,Binds K (tD2 t i) ["self"] []
 | .r=>T.zO.B
 | .t=>T.zI.B
def yqJ:Sn→TK2
 | .rest _=>.r
 | .tones ..=>.t
def yeF (t:Ad)(i:TK2):Sp:=λvs H Q _=>∃ x sn Hs,vs=[x]∧yqJ sn=i∧Same Hs H∧So t Hs x sn∧∀ y H',Same H H'→Is (nw (tpo Hs) H H') y (snT sn)→Q y H'
theorem yon (T:Txt K mg t):FnOk P w K mg base CX0 1 t.f_zO t.d_zO ["self"] (yeF t .r):=by
 refine T.zO.F.ok yoH (λvs H Q E h=>?_) (λcdv A outer s H vs Q E hr h=>?_)
 ·obtain⟨_,_,_,rfl,_⟩:=h;rfl
 have hu:=ya2 hr
 obtain⟨x,sn,Hs,rfl,hk,sH,h,q⟩:=h
 cases sn with
 | tones=>cases hk
 | rest n =>
  obtain⟨a,dx,rfl,ea⟩:=h
  refine⟨_,(yaj (yaG (yaE (yaa yaF (yaa (ya3 (pv 0) rfl) yaf))))),?_⟩
  walk_at "st"
  refine⟨a,_,dx,_,_,rfl,sH _ _ ea,T.JD,T.Jm,rfl,?_⟩
  walk_at "st"
  refine⟨by show 2≤sizeLine;decide,λp hp=>q _ _ (yae hp _) (ydB (by rw[yaw hp];exact yab) (yal (ybA rfl) (yal (ymD _ _) (yay _))))⟩
theorem ypD (T:Txt K mg t):FnOk P w K mg base CX0 1 t.f_zI t.d_zI ["self"] (yeF t .t):=by
 refine T.zI.F.ok yoA (λvs H Q E h=>?_) (λcdv A outer s H vs Q E hr h=>?_)
 ·obtain⟨_,_,_,rfl,_⟩:=h;rfl
 have hu:=ya2 hr
 obtain⟨x,sn,Hs,rfl,hk,sH,h,q⟩:=h
 cases sn with
 | rest=>cases hk
 | tones ps n wd op cl =>
  obtain⟨a,dx,l,rfl,ea,i⟩:=h
  obtain⟨l2,xs,e,el,il⟩:∃ l2 xs,V.ref l=.ref l2∧Hs l2=some (.lst xs)∧Iss Hs xs (ps.map pT):=by rw[lT,Is] at i;exact i
  cases e
  have ea':=sH _ _ ea
  refine⟨_,(yaj (yaG (yaE (yaa yaF (yaa (ybu ybq rfl T.Jf yaR (yaa (ya3 (pv 0) rfl) yaf)) (yaa (ya3 (pv 0) rfl) (yaa (ya3 (pv 0) rfl) (yaa (ya3 (pv 0) rfl) (yaa (ya3 (pv 0) rfl) yaf))))))))),?_⟩
  walk_at "st"
  refine⟨a,_,dx,_,_,rfl,ea',T.Jd,T.Js,rfl,?_⟩
  walk_at "st"
  refine⟨l,xs,rfl,.inl (SqL.of (sH _ _ el)),λl' hl'=>?_⟩
  have s2:=yae hl' (.lst xs)
  have ea2:=s2 _ _ ea'
  show yn0 _ _ _ _ _ _
  walk_at "st"
  refine⟨a,_,dx,_,_,rfl,ea2,T.Jd,T.Ji,rfl,?_⟩
  walk_at "st"
  refine⟨a,_,dx,_,_,rfl,ea2,T.Jd,T.JA,rfl,?_⟩
  walk_at "st"
  refine⟨a,_,dx,_,_,rfl,ea2,T.Jd,T.Jv,rfl,?_⟩
  walk_at "st"
  refine⟨a,_,dx,_,_,rfl,ea2,T.Jd,T.Ju,rfl,?_⟩
  walk_at "st"
  refine⟨by show 6≤sizeLine;decide,λp hp=>?_⟩
  have s3:=s2.trans (yae hp (.tup [.str "tones",.ref l',.int n,.str wd,.bl op,.bl cl]))
  refine q _ _ s3 (ydB (by rw[yaw (s2.free hp)];exact yab) (yal (ybA rfl) (yal (ybB (xs:=xs) ?_ ((yhm il).same (yeP ((ycO Hs).trans sH)))) (yal (ymD _ _) (yal (ybA rfl) (yal (ybA rfl) (yal (ybA rfl) (yay _))))))))
  rw[yaw hl']
  exact yae hp _ _ _ yab
theorem yoQ (T:Txt K mg t):∀ i,FnOk P w K mg base CX0 1 (tF2 t i) (tD2 t i) ["self"] (yeF t i)
 | .r=>yon T
 | .t=>ypD T
theorem ym2 {H Hs:Hp}{x:V}{sn:Sn}{Q:VK}{E:XK}(sH:Same Hs H)(h:So t Hs x sn)(q:∀ y H',Same H H'→Is (nw (tpo Hs) H H') y (snT sn)→Q y H'):∃ (i:TK2) (a dx:Addr) (fs:List (Str×V)),x=.ref a∧H a=some (.ins (tC2 t i) dx fs)∧fs.lookup (Str.ofString "told")=none∧yeF t i [x] H Q E:=by
 cases sn with
 | rest n =>
  obtain⟨a,dx,rfl,ea⟩:=id h
  exact⟨.r,a,dx,_,rfl,sH _ _ ea,rfl,_,_,Hs,rfl,rfl,sH,h,q⟩
 | tones ps n wd op cl =>
  obtain⟨a,dx,l,rfl,ea,i⟩:=id h
  exact⟨.t,a,dx,_,rfl,sH _ _ ea,rfl,_,_,Hs,rfl,rfl,sH,h,q⟩
def isR:Sn→Bool
 | .rest _=>true
 | _=>false
def yct (sns:List Sn):Bool:=match sns.getLast? with
 | some sn=>isR sn
 | none=>false
theorem So.isa (T:Txt K mg t){H:Hp}{x:V}{sn:Sn}(h:So t H x sn):∃ C,yfm K H x C∧PySem.W.kitOne K C (.ref t.QP)=some (isR sn):=by
 cases sn with
 | rest n=>obtain⟨a,dx,rfl,ea⟩:=h;exact⟨_,T.Qv.ty T.JD ea,T.JT⟩
 | tones ps n wd op cl=>obtain⟨a,dx,l,rfl,ea,i⟩:=h;exact⟨_,T.Qn.ty T.Jd ea,T.JP⟩
theorem ycV {α:Type}{S:V→α→Prop}{xs:List V}{us:List α}{u:α}(h:Al S xs us)(e:us.getLast?=some u):∃ ys x,xs=ys++[x]∧S x u∧∃ vs,us=vs++[u]∧Al S ys vs:=by
 obtain⟨vs,rfl⟩:=List.getLast?_eq_some_iff.mp e
 have l:=h.1
 rw[List.length_append,List.length_singleton] at l
 obtain⟨x,e1,s1⟩:=h.2 vs.length (by rw[List.length_append,List.length_singleton];omega)
 have ex:xs=xs.take vs.length++[x]:=by
  have:=List.take_append_drop vs.length xs
  rw[List.drop_eq_getElem_cons (by omega),List.drop_eq_nil_of_le (by omega)] at this
  rw[List.getElem?_eq_getElem (by omega)] at e1
  rw[← Option.some.inj e1]
  exact this.symm
 refine⟨xs.take vs.length,x,ex,by simpa using s1,vs,rfl,by rw[List.length_take];omega,λi hi=>?_⟩
 obtain⟨y,e2,s2⟩:=h.2 i (by rw[List.length_append,List.length_singleton];omega)
 exact⟨y,by rw[List.getElem?_take_of_lt hi];exact e2,by rw[List.getElem_append_left hi] at s2;exact s2⟩
def yiA (t:Ad):Sp:=λvs H Q _=>∃ (l:Addr) (xs:List V) (sns:List Sn),vs=[.ref l]∧H l=some (.lst xs)∧Al (So t H) xs sns∧∀ H',Same H H'→Q (.bl (yct sns)) H'
theorem ypl (T:Txt K mg t):FnOk P w K mg base CX0 1 t.f_zp t.d_zp ["sounds"] (yiA t):=by
 refine T.zp.F.ok yo6 (λvs H Q E h=>?_) (λcdv A outer s H vs Q E hr h=>?_)
 ·obtain⟨_,_,_,rfl,_⟩:=h;rfl
 have hu:=ya2 hr
 obtain⟨l,xs,sns,rfl,el,al,q⟩:=h
 refine⟨_,(yaj (yaG (yd6 (ybT (yeO hu) (pv 0) (yaZ yaf) (yaH _)) (yd0 (yax (show ycd _ _ (ylc K) from ycL) rfl T.Ja yap (yaa (yav yaz (pv 0) (yc6 ybZ yag) (λ_ _=>rfl)) (yaa (yci (v:=.ref t.QP) rfl T.JY rfl) yaf))))))),?_⟩
 walk_at "st"
 refine⟨Nat.zero_le _,λp hp=>?_⟩
 have s2:=yae hp (.lst [])
 have el2:=s2 _ _ el
 refine⟨l,p,xs,rfl,rfl,SqL.of el2,SqL.of yab,ydz ?_⟩
 cases e:sns.getLast? with
 | none =>
  have hs:sns=[]:=List.getLast?_eq_none_iff.mp e
  have hx:xs=[]:=by have:=al.1;rw[hs] at this;exact List.eq_nil_of_length_eq_zero this
  rw[hx]
  refine i_F ?_
  have:=q _ s2
  unfold yct at this
  rw[e] at this
  exact this
 | some sn =>
  obtain⟨ys,x,ex,sx,vs,_,_⟩:=ycV al e
  have ne:(!xs.isEmpty)=true:=by rw[ex];cases ys<;>rfl
  rw[ne]
  refine i_T ?_
  walk_at "st"
  rw[ex] at el2
  refine ybc (SqL.of el2) (ybP ys x) ?_
  walk_at "st"
  obtain⟨C,ty,k⟩:=(sx.same s2).isa T
  refine ygV ty k ?_
  have:=q _ s2
  unfold yct at this
  rw[e] at this
  exact this
theorem yhg (ys:List V)(x:V):yif (ys++[x]) none (some (-1))=ys:=by
 unfold yif
 rw[HT.sIx_none]
 simp[HT.sIx]
 rw[show(-1+((ys.length:Int)+1)).toNat=ys.length by omega]
 exact List.take_left
def ykb (sns:List Sn):Th:=.ls (sns.map snT)
def ToldIs (H:Hp)(y:V)(sns:List Sn):Prop:=∃ D ys,y=.ref D∧H D=some (.lst ys)∧Iss (rm H D) ys (sns.map snT)
theorem ToldIs.same {H H':Hp}{y:V}{sns:List Sn}(s:Same H H')(h:ToldIs H y sns):ToldIs H' y sns:=by
 obtain⟨D,ys,e,ed,is⟩:=h
 exact⟨D,ys,e,s _ _ ed,is.same (ya8 λb u _ e=>s _ _ e)⟩
theorem ToldIs.is {H:Hp}{y:V}{sns:List Sn}(h:ToldIs H y sns):Is H y (ykb sns):=by
 obtain⟨D,ys,rfl,ed,is⟩:=h
 exact ybB ed (is.same (yaK _ _))
def ybD (sns:List Sn):List Sn:=if yct sns=true then sns.dropLast else sns
def ygN (t:Ad):Sp:=λvs H Q _=>∃ (l:Addr) (xs:List V) (sns:List Sn) (Hs:Hp),vs=[.ref l]∧Same Hs H∧Hs l=some (.lst xs)∧Al (So t Hs) xs sns∧sns.length≤900∧∀ y H',Same H H'→ToldIs (nw (tpo Hs) H H') y (ybD sns)→Q y H'
theorem yrz {cdv:Value}{A:Around}{outer:List Env}{s0:Shared}{H0:Hp}{E:XK}(T:Txt K mg t)(G_zX:∀ i,FnOk P w K mg base CX0 1 (tF2 t i) (tD2 t i) ["self"] (yeF t i))(hr:Room 1 (A.deeper (PyProof.Rows.envOfC "told_without_end_rest" (yac (top 34)) s0.heap.objs.size t.f_za cdv))) :
  ∃ te,PS (ybz CX0 P w K mg base ["sounds","kept"] "told_without_end_rest" (yac (top 34)) t.f_za cdv A outer s0 H0 E).nox (yaV 34 1) te∧∀ D o k ys us Hs1 H1,Same Hs1 H1→H1 k=some (.lst ys)→Al (So t Hs1) ys us→us.length≤900→(∀ y H',Same H1 H'→ToldIs (nw (tpo Hs1) H1 H') y us→D.rt y H')→te D [o,some (.ref k)] H1:=by
 have hu:=ya2 hr
 refine⟨_,(yaG (yb5 (yaQ (NB:=["sound"]) (cap:=[none]) rfl) rfl (yaX (pv 1)) (λ_ _ _ _=>(yan (i:=0) (show List.Nodup (["sound"]:List Str) by decide) rfl (Or.inl rfl))) (λ_ _ _ _=>yaT) (λ_ _ _ _=>(ycI (pv 0) (ymq T) (ymg T) G_zX (hr.mono (by first | decide | omega)) (yl7 T) yaD)))),λD o k ys us Hs1 H1 sH ek al ln q=>?_⟩
 walk_at "st"
 refine⟨k,rfl,⟨_,SqL.of ek⟩,λD0 hD=>yhd (Hs:=Hs1) (R:=So t) (S:=λH x sn=>Is H x (snT sn)) ydc id ((ycO Hs1).trans sH) ek al hD ln ?_ ?_⟩
 ·rintro x sn H' Q' hm t2 rx k
  walk_at "st"
  exact ym2 (sH.trans t2) rx k
 ·rintro ys H2 s2 hd al
  rw[List.map_id] at al
  refine q _ _ s2 ⟨D0,ys,rfl,by rw[yaw hD];exact hd,(ydf al).same λc u e=>?_⟩
  cases h:H1 c with
  | none =>
   rw[yaw h] at e
   obtain⟨n,e⟩:=yao e
   rw[yaB n,yaw h]
   exact e
  | some v =>
   rw[yaM h] at e
   rw[yaB (yad h hD),yaM h]
   exact e
theorem ypv (T:Txt K mg t)(G_zp:FnOk P w K mg base CX0 1 t.f_zp t.d_zp ["sounds"] (yiA t))(G_zX:∀ i,FnOk P w K mg base CX0 1 (tF2 t i) (tD2 t i) ["self"] (yeF t i)):FnOk P w K mg base CX0 2 t.f_za t.d_za ["sounds"] (ygN t):=by
 refine T.za.F.ok sc_za (λvs H Q E h=>?_) (λcdv A outer s H vs Q E hr h=>?_)
 ·obtain⟨_,_,_,_,rfl,_⟩:=h;rfl
 have hu:=ya2 hr
 obtain⟨l,xs,sns,Hs,rfl,sH,el,al,ln,q⟩:=h
 obtain⟨t1,p1,k1⟩:=yrz (cdv:=cdv) (A:=A) (outer:=outer) (s0:=s) (H0:=H) (E:=E) T G_zX hr
 refine⟨_,show PSs _ [yaV 34 0,yaV 34 1] _ from yah (yas (i:=1) sc_za.nd rfl (Or.inl rfl) (ybm (ybj (yaq G_zp (hr.mono (by first | decide | omega)) rfl T.zp.M T.zp.F.kp T.zp.B .nil yaD (yaa (pv 0) yaf))) (ybJ ygU (pv 0) yb2 (yb4 (yc6 ybZ yag))) (pv 0))) (yaj p1),?_⟩
 walk_at "st"
 refine⟨l,xs,sns,rfl,sH _ _ el,al.imp λ_ _ _ z=>z.same sH,λH1 s1=>ydz (i_b (λz=>?_) λz=>?_)⟩
 ·walk_at "st"
  obtain⟨sn,e⟩:∃ sn,sns.getLast?=some sn:=by
   unfold yct at z
   cases e:sns.getLast? with
   | none=>rw[e] at z;cases z
   | some sn=>exact⟨sn,rfl⟩
  obtain⟨ys,x,ex,sx,vs,ev,av⟩:=ycV al e
  have sH1:Same Hs H1:=sH.trans s1
  refine⟨1,rfl,-1,rfl,l,xs,rfl,SqL.of (sH1 _ _ el),λp hp=>?_⟩
  have ecut:yif xs none (some (-1))=ys:=by rw[ex];exact yhg ys x
  rw[ecut]
  walk_at "st"
  have s2:=yae hp (.lst ys)
  have nE:ybD sns=vs:=by unfold ybD;rw[if_pos z,ev,List.dropLast_concat]
  refine k1 _ _ p ys vs Hs _ ((sH.trans s1).trans s2) yab av (by have:=ln;rw[ev,List.length_append] at this;omega) λy H' s3 iy=>?_
  rw[← nE] at iy
  refine q _ _ ((s1.trans s2).trans s3) (iy.same λb u e=>?_)
  cases h:upd H1 p (.lst ys) b with
  | none=>rw[yaw h] at e;rw[yaw ((s1.trans s2).free h)];exact e
  | some v=>rw[yaM h] at e;rw[yaM (sH _ _ (ycO _ _ _ e))];exact e
 ·walk_at "st"
  have nE:ybD sns=sns:=by unfold ybD;rw[if_neg (by rw[z];simp)]
  refine k1 _ _ l xs sns Hs _ (sH.trans s1) ((sH.trans s1) _ _ el) al ln λy H' s3 iy=>?_
  rw[← nE] at iy
  refine q _ _ (s1.trans s3) (iy.same λb u e=>?_)
  cases h:H1 b with
  | none=>rw[yaw h] at e;rw[yaw (s1.free h)];exact e
  | some v=>rw[yaM h] at e;rw[yaM (sH _ _ (ycO _ _ _ e))];exact e
def LsIs (t:Ad)(H:Hp)(x:V)(ts:List Tl):Prop:=∃ l ys,x=.ref l∧H l=some (.lst ys)∧Al (Sg t H) ys ts
def VsIs (t:Ad)(H:Hp)(x:V)(vs:List (List Tl)):Prop:=∃ l xs,x=.ref l∧H l=some (.lst xs)∧Al (LsIs t H) xs vs
theorem LsIs.same {H H':Hp}{x:V}{ts:List Tl}(s:Same H H')(h:LsIs t H x ts):LsIs t H' x ts:=by
 obtain⟨l,ys,e,el,al⟩:=h
 exact⟨l,ys,e,s _ _ el,al.imp λ_ _ _ z=>z.same s⟩
theorem VsIs.same {H H':Hp}{x:V}{vs:List (List Tl)}(s:Same H H')(h:VsIs t H x vs):VsIs t H' x vs:=by
 obtain⟨l,ys,e,el,al⟩:=h
 exact⟨l,ys,e,s _ _ el,al.imp λ_ _ _ z=>z.same s⟩
def bFs (key:Int)(mv:V)(l:Addr):List (Str×V):=[("key",.int key),("metre",mv),("voices",.ref l)]
def BarIs (t:Ad)(H:Hp)(x:V)(b:Int×List (List Tl)):Prop:=∃ a dx mv l,x=.ref a∧H a=some (.ins t.QR dx (bFs b.1 mv l))∧VsIs t H (.ref l) b.2
theorem BarIs.same {H H':Hp}{x:V}{b:Int×List (List Tl)}(s:Same H H')(h:BarIs t H x b):BarIs t H' x b:=by
 obtain⟨a,dx,mv,l,e,ea,v⟩:=h
 exact⟨a,dx,mv,l,e,s _ _ ea,v.same s⟩
def yhw (t:Ad):Sp:=λvs H Q _=>∃ (a dx:Addr) (key:Int) (mv lv:V) (vss:List (List Tl)) (Hs:Hp),vs=[.ref a,.int key,mv,lv]∧H a=some (.ins t.QR dx [])∧Same Hs H∧Hs a=none∧VsIs t Hs lv vss∧vss.length≤2∧(∀ ts∈vss,ts.length≤60) ∧
 ∀ l' H',SameT a H H'→H' a=some (.ins t.QR dx (bFs key mv l'))→VsIs t (nw Hs H H') (.ref l') vss→Q .non H'
theorem yrB {cdv:Value}{A:Around}{outer:List Env}{s0:Shared}{H0:Hp}{E:XK}(T:Txt K mg t)(G_zR:FnOk P w K mg base CX0 3 t.f_zR t.d_zR ["sign"] (yl3 t))(hr:Room 3 (A.deeper (PyProof.Rows.envOfC "Bar.__init__" (yac (top 28000)) s0.heap.objs.size t.f_zi cdv))) :
  ∃ te,PS (ybz CX0 P w K mg base ["self","key","metre","voices"] "Bar.__init__" (yac (top 28000)) t.f_zi cdv A outer s0 H0 E).nox (yaV 28000 2) te∧∀ D (a dx:Addr) (key:Int) (mv lv:V) (vss:List (List Tl)) (Hs H1:Hp),H1 a=some (.ins t.QR dx [("key",.int key),("metre",mv)])→Same Hs H1→Hs a=none→VsIs t Hs lv vss→vss.length≤2→(∀ ts∈vss,ts.length≤60) →
   (∀ l' H',SameT a H1 H'→H' a=some (.ins t.QR dx (bFs key mv l'))→VsIs t (nw Hs H1 H') (.ref l') vss→D.nx [some (.ref a),some (.int key),some mv,some lv] H')→te D [some (.ref a),some (.int key),some mv,some lv] H1:=by
 have hu:=ya2 hr
 refine⟨_,(ybL (pv 0) (yb5 (yaQ (NB:=["signs"]) (cap:=[none]) rfl) rfl (yaX (pv 3)) (λ_ _ _ _=>(yan (i:=0) (show List.Nodup (["signs"]:List Str) by decide) rfl (Or.inl rfl))) (λ_ _ _ _=>yaT) (λ_ _ _ _=>(yb5 (yaQ (NB:=["sign"]) (cap:=[none]) rfl) rfl (show PI _ _ _ (yih K (ycv 0)) from yaX (pv 0)) (λ_ _ _ _=>(yan (i:=0) (show List.Nodup (["sign"]:List Str) by decide) rfl (Or.inl rfl))) (λ_ _ _ _=>yaT) (λ_ _ _ _=>(yaq G_zR (hr.mono (by first | decide | omega)) rfl T.zR.M T.zR.F.kp T.zR.B .nil yaD (yaa (pv 0) yaf)))))) rfl),λD a dx key mv lv vss Hs H1 ea sH na vi l2 l60 q=>?_⟩
 walk_at "st"
 obtain⟨l,xs,rfl,el,al⟩:=vi
 refine⟨l,rfl,⟨_,SqL.of (sH _ _ el)⟩,λD0 hD=>yel (R:=LsIs t) (S:=LsIs t) (λs h=>h.same s) (λs h=>h.same s) id sH (sH _ _ el) al hD (by omega) ?_ ?_⟩
 ·rintro x ts H' Hs' Q' hm t1 t2 t3 ⟨l3,ys,rfl,el3,al3⟩ k
  walk_at "st"
  refine⟨l3,rfl,⟨_,SqL.of (t3 _ _ el3)⟩,λD1 hD1=>yel (R:=Sg t) (S:=Sg t) (λs h=>h.same s) (λs h=>h.same s) id t3 (t3 _ _ el3) al3 hD1 (by have:=l60 ts hm;omega) ?_ ?_⟩
  ·rintro x tl H2 Hs2 Q2 hm2 u1 u2 u3 rx k2
   walk_at "st"
   exact⟨x,tl,Hs2,rfl,u3,rx,k2⟩
  ·rintro zs H2 s2 hd az
   rw[List.map_id] at az
   exact k _ _ s2 ⟨D1,zs,rfl,by rw[yaw hD1];exact hd,az.imp λ_ _ _ z=>z.same (ycx (yaK _ _))⟩
 ·rintro ys H2 s2 hd az
  rw[List.map_id] at az
  have ea2:=s2 _ _ ea
  have nD:D0≠a:=(yad ea hD).symm
  refine yev rfl ⟨a,_,dx,_,rfl,ea2,T.JB,T.Je,by show 2 < 1000;decide,?_⟩
  refine q D0 _ (λb u n e=>by rw[yai n];exact s2 _ _ e) yab ⟨D0,ys,rfl,?_,az.imp λ_ _ _ z=>z.same λb u e=>?_⟩
  ·rw[yaw hD,yai nD];exact hd
  ·cases h:H1 b with
   | none =>
    rw[yaw h] at e ⊢
    rw[yai (yad ea h).symm]
    exact(yao e).2
   | some v=>rw[yaM h] at e ⊢;exact e
theorem yo7 (T:Txt K mg t)(G_zR:FnOk P w K mg base CX0 3 t.f_zR t.d_zR ["sign"] (yl3 t)):FnOk P w K mg base CX0 4 t.f_zi t.d_zi ["self","key","metre","voices"] (yhw t):=by
 refine T.zi.F.ok yoP (λvs H Q E h=>?_) (λcdv A outer s H vs Q E hr h=>?_)
 ·obtain⟨_,_,_,_,_,_,_,rfl,_⟩:=h;rfl
 have hu:=ya2 hr
 obtain⟨a,dx,key,mv,lv,vss,Hs,rfl,ea,sH,na,vi,l2,l60,q⟩:=h
 obtain⟨t2,p2,k2⟩:=yrB (cdv:=cdv) (A:=A) (outer:=outer) (s0:=s) (H0:=H) (E:=E) T G_zR hr
 refine⟨_,show PSs _ [yaV 28000 0,yaV 28000 1,yaV 28000 2] _ from yah (ybL (pv 0) (pv 1) rfl) (yah (ybL (pv 0) (pv 2) rfl) (yaj p2)),?_⟩
 walk_at "st"
 refine⟨a,_,dx,_,rfl,ea,T.JB,T.JI,by decide,?_⟩
 walk_at "st"
 refine⟨a,_,dx,_,rfl,yab,T.JB,T.JU,by show 1 < 1000;decide,?_⟩
 rw[ybV]
 show t2 _ _ (upd H a (.ins t.QR dx [("key",.int key),("metre",mv)]))
 have sT1:SameT a H (upd H a (.ins t.QR dx [("key",.int key),("metre",mv)])):=ycM (λb u _ e=>e)
 have sH1:Same Hs (upd H a (.ins t.QR dx [("key",.int key),("metre",mv)])):=λb u e=>by rw[yai (yad e na)];exact sH _ _ e
 refine k2 _ a dx key mv lv vss Hs _ yab sH1 na vi l2 l60 λl' H' s' e' v'=>?_
 refine q l' H' (SameT.trans sT1 s') e' (v'.same λb u e=>?_)
 have eq:∀ b,(upd H a (.ins t.QR dx [("key",.int key),("metre",mv)]) b=none)↔H b=none:=λb=>by
  by_cases z:b=a
  ·rw[z,yab,ea];simp
  ·rw[yai z]
 unfold nw at e ⊢
 by_cases z:H b=none
 ·rw[if_pos ((eq b).mpr z)] at e
  rw[if_pos z]
  exact e
 ·rw[if_neg (λc=>z ((eq b).mp c))] at e
  rw[if_neg z]
  exact e
structure Rw where
 ap:Int
 vo:Int
 hs:List Hd
def rwT (r:Rw):Th:=.tp [nT r.ap,nT r.vo,hsT r.hs,.im .non]
structure RS where
 ap:Int
 cm:Bool
 rs:List Rw
def ygY (vo:Int)(s:RS):Tl→List Rw
 | .note hs _ _ _ _ _ _=>if s.cm=true then [] else [⟨s.ap,vo,hs⟩]
 | _=>[]
def yfu (vo:Int)(s:RS)(tl:Tl):RS:=⟨s.ap+tg tl,ydC tl,s.rs++ygY vo s tl⟩
def yi8 (vo:Int)(cm:Bool)(ts:List Tl):RS:=ts.foldl (yfu vo) ⟨0,cm,[]⟩
theorem ydX {α β:Type}(f:β→α→β)(b:β)(ts:List α)(i:Nat)(h:i < ts.length):(ts.take (i+1)).foldl f b=f ((ts.take i).foldl f b) ts[i]:=by
 rw[List.take_succ_eq_append_getElem h,List.foldl_append]
 rfl
def ygE (t:Ad):Sp:=λvs H Q _=>∃ (vo:Int) (x:V) (cm:Bool) (ts:List Tl) (Hs:Hp),vs=[.int vo,x,.bl cm]∧Same Hs H∧LsIs t Hs x ts∧yaN ts∧ts.length≤60∧∀ y H',Same H H'→Is (nw Hs H H') y (.ls ((yi8 vo cm ts).rs.map rwT))→Q y H'
theorem ypb (T:Txt K mg t)(G_zV:∀ i,FnOk P w K mg base CX0 2 (gF t i) (gD t i) ["self"] (yil t i))(G_zj:FnOk P w K mg base CX0 1 t.f_zj t.d_zj ["sign"] (ydQ t)):FnOk P w K mg base CX0 3 t.f_zD t.d_zD ["voice","signs","comes"] (ygE t):=by
 refine T.zD.F.ok sc_zD (λvs H Q E h=>?_) (λcdv A outer s H vs Q E hr h=>?_)
 ·obtain⟨_,_,_,_,_,rfl,_⟩:=h;rfl
 have hu:=ya2 hr
 obtain⟨vo,x,cm,ts,Hs,rfl,sH,⟨l,ys,rfl,el,al⟩,gt,l60,q⟩:=h
 refine⟨_,(yah (yas (i:=3) sc_zD.nd rfl (Or.inl rfl) (yaZ yaf)) (yah (yas (i:=4) sc_zD.nd rfl (Or.inl rfl) yag) (yah (ybf PassesOwn.never rfl (yaX (pv 1)) (yan (i:=5) sc_zD.nd rfl (Or.inl rfl)) (yah (ybM (PW.pt (yeG (ybj (yax (show ycd _ _ (ylc K) from ycL) rfl T.Ja yap (yaa (pv 5) (yaa (yci (v:=.ref t.QL) rfl T.JC rfl) yaf)))) (ydo (yhH (ybj (pv 2)))))) (yaj (yaO (ybU PySem.F.plainAttrs_list PySem.F.slot_list_append PySem.F.type_list_append yaI (pv 3) (yaa (yaE (yaa (pv 4) (yaa (pv 0) (yaa (ya3 (pv 5) rfl) (yaa yd9 yaf))))) yaf)))) ya4) (yah (yiy (i:=4) sc_zD.nd rfl (Or.inl rfl) (ycI (pv 5) (ycw T) (ycB T) G_zV (hr.mono (by first | decide | omega)) (ycA T) yaD) yjd) (yaj (yas (i:=2) sc_zD.nd rfl (Or.inl rfl) (yaq G_zj (hr.mono (by first | decide | omega)) rfl T.zj.M T.zj.F.kp T.zj.B .nil yaD (yaa (pv 5) yaf))))))) (yaj (yaG (pv 3)))))),?_⟩
 walk_at "st"
 refine⟨Nat.zero_le _,λd hd=>?_⟩
 generalize hH1:upd H d _=H1
 have s1:Same H H1:=hH1▸yae hd _
 have e1:H1 d=some (.lst []):=hH1▸yab
 clear hH1
 walk_at "st"
 have el1:=s1 _ _ (sH _ _ el)
 refine⟨l,rfl,⟨_,SqL.of el1⟩,ycy (xs:=ys) (λi σ H'=>∃ o xs,σ=[some (.int vo),some (.ref l),some (.bl ((ts.take i).foldl (yfu vo) ⟨0,cm,[]⟩).cm),some (.ref d),some (.int ((ts.take i).foldl (yfu vo) ⟨0,cm,[]⟩).ap),o]∧Same H H'∧H' d=some (.lst xs)∧xs.length≤i∧Iss (nw Hs H (rm H' d)) xs (((ts.take i).foldl (yfu vo) ⟨0,cm,[]⟩).rs.map rwT)) ?_ ?_ ?_ ?_⟩
 ·exact⟨none,[],rfl,s1,e1,Nat.le_refl _,yay _⟩
 ·rintro i σ H' _ ⟨o,xs,rfl,sm,_⟩
  exact SqL.of (sm _ _ (sH _ _ el))
 ·rintro i x σ H' N hN hx ⟨o,xs,rfl,sm,ed,lx,is⟩
  have hi:i < ts.length:=by have:=(List.getElem?_eq_some_iff.mp hx).1;rw[al.1] at this;exact this
  obtain⟨x',ex,sx⟩:=al.2 i hi
  rw[hx] at ex
  cases ex
  have sx':=sx.same (sH.trans sm)
  have gi:=gt _ (List.getElem_mem hi)
  have ft:=ydX (yfu vo) ⟨0,cm,[]⟩ ts i hi
  generalize (ts.take i).foldl (yfu vo) ⟨0,cm,[]⟩=S at ft is ⊢
  have fin:∀ (D:ydn) H2 zs,(∀ σ' H',N σ' H'→D.nx σ' H')→Same H H2→H2 d=some (.lst zs)→zs.length≤i+1→Iss (nw Hs H (rm H2 d)) zs ((S.rs++ygY vo S ts[i]).map rwT)→Sg t H2 x ts[i]→ylQ (yml 4 (ydx (gC t) "grains" (yil t) E0 (ycv 5)) (ipI λi j=>i+j)) (yku (yej (ydQ t) [] E0 (ybS (ycv 5) ygB)) (yce 2)) D [some (.int vo),some (.ref l),some (.bl S.cm),some (.ref d),some (.int S.ap),some x] H2:=by
   intro D H2 zs hD s2 e2 l2 i2 g2
   walk_at "st"
   refine ynU gi g2 ?_
   walk_at "st"
   refine⟨x,ts[i],rfl,g2,?_⟩
   walk_at "st"
   refine hD _ _ (hN _ _ ⟨some x,zs,?_,s2,e2,l2,?_⟩)
   ·rw[ft];rfl
   ·rw[ft];exact i2
  have no:∀ D:ydn,(∀ σ' H',N σ' H'→D.nx σ' H')→ygY vo S ts[i]=[]→ylQ (yml 4 (ydx (gC t) "grains" (yil t) E0 (ycv 5)) (ipI λi j=>i+j)) (yku (yej (ydQ t) [] E0 (ybS (ycv 5) ygB)) (yce 2)) D [some (.int vo),some (.ref l),some (.bl S.cm),some (.ref d),some (.int S.ap),some x] H':=λD hD z=>fin D H' xs hD sm ed (by omega) (by rw[z,List.append_nil];exact is) sx'
  walk_at "st"
  obtain⟨C,ty,k1,k2⟩:=sx'.isa T
  refine ygV ty k1 ?_
  walk_at "st"
  cases htl:ts[i] with
  | pause p=>exact i_F (i_F (no _ (λ_ _ z=>z) (by rw[htl];rfl)))
  | whole n=>exact i_F (i_F (no _ (λ_ _ z=>z) (by rw[htl];rfl)))
  | note hs p ti be wd op cl =>
   refine i_T ?_
   walk_at "st"
   cases hc:S.cm with
   | true=>exact i_F (no _ (λ_ _ z=>z) (by rw[htl];unfold ygY;simp only;rw[if_pos hc]))
   | false =>
    refine i_T ?_
    walk_at "st"
    refine⟨.inl ⟨rfl,_,SqL.of ed⟩,?_⟩
    walk_at "st"
    rw[htl] at sx sx'
    obtain⟨a,dx,hl,z,rfl,ea,i1,i2⟩:=id sx
    refine⟨a,_,dx,_,_,rfl,sm _ _ (sH _ _ ea),T.Jb,T.Jo,rfl,?_⟩
    walk_at "st"
    refine⟨by show 4≤sizeLine;decide,λp3 h3=>?_⟩
    generalize hH3:upd H' p3 _=H3
    have s3:Same H' H3:=hH3▸yae h3 _
    have e3:H3 p3=some (.tup [.int S.ap,.int vo,.ref hl,.non]):=hH3▸yab
    clear hH3
    walk_at "st"
    refine ydb (s3 _ _ ed) (yam (by omega)) ?_
    have n3:p3≠d:=(yad ed h3).symm
    have f3:H p3=none:=sm.free h3
    have sm3:=sm.trans s3
    have up:Same (nw Hs H (rm H' d)) (nw Hs H (rm (upd H3 d (.lst (xs++[.ref p3]))) d)):=ycx λb u e=>by
     obtain⟨n,e⟩:=yao e
     rw[yaB n,yai n]
     exact s3 _ _ e
    refine fin _ _ (xs++[.ref p3]) (λ_ _ z=>z) (yaJ hd sm3) yab (by rw[List.length_append,List.length_singleton];omega) ?_ (by rw[htl];exact sx.same (sH.trans (yaJ hd sm3)))
    have er:ygY vo S ts[i]=[⟨S.ap,vo,hs⟩]:=by rw[htl];unfold ygY;simp only;rw[if_neg (by rw[hc];simp)]
    rw[er,List.map_append]
    refine Iss.app (is.same up) (yal (ydB (xs:=[.int S.ap,.int vo,.ref hl,.non]) ?_ (yal (ymD _ _) (yal (ymD _ _) (yal (i1.same (yeP sH)) (yal (ybA rfl) (yay _)))))) (yay _))
    rw[yaw f3,yaB n3,yai n3]
    exact e3
 ·rintro σ H' ⟨o,xs,rfl,sm,ed,lx,is⟩
  rw[al.1,List.take_length] at is
  walk_at "st"
  exact q _ _ sm (ybB (by rw[yaw hd];exact ed) (is.same (ycx (yaK _ _))))
mutual
theorem Is.offI {H:Hp}{c C dx:Addr}{fs:List (Str×V)}(hc:H c=some (.ins C dx fs)):∀ {v:V} {t:Th},Is H v t→Is (rm H c) v t
 | v,.im w,h=>by rw[Is] at h ⊢;exact h
 | v,.ls ts,h=>by
  rw[Is] at h ⊢
  obtain⟨a,xs,e,q,r⟩:=h
  exact⟨a,xs,e,by rw[yaB (λz=>by rw[z,hc] at q;cases q)];exact q,Iss.offI hc r⟩
 | v,.tp ts,h=>by
  rw[Is] at h ⊢
  obtain⟨a,xs,e,q,r⟩:=h
  exact⟨a,xs,e,by rw[yaB (λz=>by rw[z,hc] at q;cases q)];exact q,Iss.offI hc r⟩
 | v,.dk,h=>by
  rw[Is] at h ⊢
  obtain⟨a,xs,e,q⟩:=h
  exact⟨a,xs,e,by rw[yaB (λz=>by rw[z,hc] at q;cases q)];exact q⟩
theorem Iss.offI {H:Hp}{c C dx:Addr}{fs:List (Str×V)}(hc:H c=some (.ins C dx fs)):∀ {xs:List V} {ts:List Th},Iss H xs ts→Iss (rm H c) xs ts
 | xs,[],h=>by rw[Iss] at h ⊢;exact h
 | xs,t :: ts,h=>by
  rw[Iss] at h ⊢
  obtain⟨x,r,e,q,z⟩:=h
  exact⟨x,r,e,Is.offI hc q,Iss.offI hc z⟩
end
def ypJ (g:Int):Sn→Sn
 | .rest n=>.rest (n+g)
 | .tones ps n wd op cl=>.tones ps (n+g) wd op cl
def yeu (g:Int)(sns:List Sn):List Sn:=match sns.getLast? with
 | some sn=>sns.dropLast++[ypJ g sn]
 | none=>[]
structure HS where
 ap:Int
 sns:List Sn
def ykH (f:Int→Option (List Pit))(s:HS)(tl:Tl):List Sn:=match f s.ap,tl with
 | some ps,.note _ _ _ _ wd op cl=>s.sns++[.tones ps (tg tl) wd op cl]
 | _,_=>if (isN tl||yct s.sns)=true then yeu (tg tl) s.sns else s.sns++[.rest (tg tl)]
def ydm (f:Int→Option (List Pit))(s:HS)(tl:Tl):HS:=⟨s.ap+tg tl,ykH f s tl⟩
def okH (f:Int→Option (List Pit))(s:HS)(tl:Tl):Prop:=(f s.ap≠none→isN tl=true)∧(isN tl=true→f s.ap=none→s.sns≠[])
def cut (L:List Addr)(H:Hp):Hp:=λb=>if b∈L then none else H b
theorem ybx {L:List Addr}{H:Hp}{b:Addr}(n:b∉L):cut L H b=H b:=by unfold cut;rw[if_neg n]
theorem ybg {L:List Addr}{H:Hp}{b:Addr}{u:HO}(h:cut L H b=some u):b∉L∧H b=some u:=by
 unfold cut at h
 by_cases z:b∈L
 ·rw[if_pos z] at h;cases h
 ·rw[if_neg z] at h;exact⟨z,h⟩
theorem ycq (L:List Addr)(H:Hp):Same (cut L H) H:=λb u h=>(ybg h).2
theorem ybI {L:List Addr}{H H':Hp}(s:∀ b u,b∉L→H b=some u→H' b=some u):Same (cut L H) (cut L H'):=λb u h=>by
 obtain⟨n,h⟩:=ybg h
 rw[ybx n]
 exact s b u n h
theorem yeY {L:List Addr}{H:Hp}{c:Addr}{o:HO}(hc:c∈L):cut L (upd H c o)=cut L H:=by
 funext b
 unfold cut
 by_cases z:b∈L
 ·rw[if_pos z,if_pos z]
 ·rw[if_neg z,if_neg z,yai (λe=>z (by rw[e];exact hc))]
theorem yh7 {L:List Addr}{H:Hp}{c:Addr}{o:HO}(hc:c∉L):cut L (upd H c o)=upd (cut L H) c o:=by
 funext b
 by_cases e:b=c
 ·rw[e,ybx hc,yab,yab]
 ·rw[yai e]
  unfold cut
  by_cases z:b∈L
  ·rw[if_pos z,if_pos z]
  ·rw[if_neg z,if_neg z,yai e]
structure Vc (t:Ad) (L:List Addr) (Hs H:Hp) (sl:Addr) (xs:List V) (sns:List Sn):Prop where
 sm:Same Hs H
 nl:∀ b∈L,Hs b=none
 oc:∀ b∈L,∃ u,H b=some u
 mm:sl∈L
 at_:H sl=some (.lst xs)
 nd:xs.Nodup
 al:Al (So t (cut L H)) xs sns
 off:∀ x∈xs,∃ a,x=.ref a∧Hs a=none
theorem Vc.ns {L:List Addr}{Hs H:Hp}{sl:Addr}{xs:List V}{sns:List Sn}(h:Vc t L Hs H sl xs sns):Hs sl=none:=h.nl _ h.mm
theorem So.other {H:Hp}{x:V}{sn:Sn}{c C dx:Addr}{fs:List (Str×V)}{o:HO}(hc:H c=some (.ins C dx fs))(n:x≠.ref c)(h:So t H x sn):So t (upd H c o) x sn:=by
 have s:Same (rm H c) (upd H c o):=λb u e=>by
  obtain⟨nb,e⟩:=yao e
  rw[yai nb]
  exact e
 cases sn with
 | rest m =>
  obtain⟨a,d,rfl,ea⟩:=h
  exact⟨a,d,rfl,by rw[yai (λz=>n (by rw[z]))];exact ea⟩
 | tones ps m wd op cl =>
  obtain⟨a,d,l,rfl,ea,i⟩:=h
  exact⟨a,d,l,rfl,by rw[yai (λz=>n (by rw[z]))];exact ea,(i.offI hc).same s⟩
theorem Vc.more {L:List Addr}{Hs H H2:Hp}{sl:Addr}{xs:List V}{sns:List Sn}{x:V}{sn:Sn}(h:Vc t L Hs H sl xs sns)(s:Same H H2)(a:Addr)(hx:x=.ref a)(na:H a=none)(so:So t (cut L H2) x sn):Vc t L Hs (upd H2 sl (.lst (xs++[x]))) sl (xs++[x]) (sns++[sn]):=by
 have u:cut L (upd H2 sl (.lst (xs++[x])))=cut L H2:=yeY h.mm
 refine⟨λb z e=>by rw[yai (yad e h.ns)];exact s _ _ (h.sm _ _ e),h.nl,λb hb=>?_,h.mm,yab,?_,by rw[u];exact Al.snoc (h.al.imp λ_ _ _ z=>(z.same (ybI λb v _ e=>s _ _ e))) so,λy hy=>?_⟩
 ·by_cases e:b=sl
  ·exact⟨_,by rw[e];exact yab⟩
  ·obtain⟨w,ew⟩:=h.oc b hb
   exact⟨w,by rw[yai e];exact s _ _ ew⟩
 ·refine List.nodup_append.mpr ⟨h.nd,by simp,λy hy z hz e=>?_⟩
  rw[List.mem_singleton] at hz
  subst hz
  subst e
  obtain⟨i,hi,e⟩:=List.getElem_of_mem hy
  obtain⟨y',e1,so'⟩:=h.al.2 i (by rw[← h.al.1];exact hi)
  rw[List.getElem?_eq_getElem hi,e] at e1
  cases e1
  have:∃ b u,y=.ref b∧H b=some u:=by
   cases hs:sns[i]'(by rw[← h.al.1];exact hi) with
   | rest m=>rw[hs] at so';obtain⟨b,d,q,eb⟩:=so';exact⟨b,_,q,(ybg eb).2⟩
   | tones ps m wd op cl=>rw[hs] at so';obtain⟨b,d,l,q,eb,_⟩:=so';exact⟨b,_,q,(ybg eb).2⟩
  obtain⟨b,u,q,eb⟩:=this
  rw[hx] at q
  cases q
  rw[na] at eb
  cases eb
 ·rcases List.mem_append.mp hy with hy | hy
  ·exact h.off y hy
  ·rw[List.mem_singleton.mp hy,hx]
   exact⟨a,rfl,h.sm.free na⟩
def snN:Sn→Int
 | .rest n=>n
 | .tones _ n _ _ _=>n
theorem Vc.last (T:Txt K mg t){L:List Addr}{Hs H:Hp}{sl:Addr}{xs:List V}{sns:List Sn}{sn:Sn}(h:Vc t L Hs H sl xs sns)(e:sns.getLast?=some sn):∃ (ys:List V) (a C dx:Addr) (fs:List (Str×V)),xs=ys++[.ref a]∧H a=some (.ins C dx fs)∧a≠sl∧Hs a=none∧Cls K C∧NoAttr K C "length" ∧ fs.lookup (Str.ofString "length")=some (.int (snN sn))∧fs.length < 1000 ∧
  ∀ g,Vc t L Hs (upd H a (.ins C dx (yep "length" (.int (snN sn+g)) fs))) sl xs (yeu g sns):=by
 obtain⟨ys,x,ex,so,vs,ev,av⟩:=ycV h.al e
 have nd:=h.nd
 rw[ex] at nd
 have key:∀ (a C dx:Addr) (fs:List (Str×V)),x=.ref a→cut L H a=some (.ins C dx fs)→(∀ g,So t (upd (cut L H) a (.ins C dx (yep "length" (.int (snN sn+g)) fs))) x (ypJ g sn))→∀ g,Vc t L Hs (upd H a (.ins C dx (yep "length" (.int (snN sn+g)) fs))) sl xs (yeu g sns):=by
  intro a C dx fs hx ea hg g
  obtain⟨na,ea'⟩:=ybg ea
  obtain⟨a2,ea2,ha2⟩:=h.off x (by rw[ex];simp)
  rw[hx] at ea2
  cases ea2
  have eA:yeu g sns=vs++[ypJ g sn]:=by unfold yeu;rw[e];simp only;rw[ev,List.dropLast_concat]
  refine⟨λb z e=>by rw[yai (yad e ha2)];exact h.sm _ _ e,h.nl,λb hb=>?_,h.mm,by rw[yai (λz=>na (by rw[← z];exact h.mm))];exact h.at_,h.nd,?_,h.off⟩
  ·obtain⟨w,ew⟩:=h.oc b hb
   exact⟨w,by rw[yai (λz=>na (by rw[← z];exact hb))];exact ew⟩
  rw[eA,ex,yh7 na]
  refine Al.snoc ⟨av.1,λi hi=>?_⟩ (hg g)
  obtain⟨y,e1,s1⟩:=av.2 i hi
  refine⟨y,e1,s1.other ea λz=>?_⟩
  have hm:y∈ys:=List.mem_of_getElem? e1
  exact(List.nodup_append.mp nd).2.2 y hm x (by simp) (by rw[z,hx])
 obtain⟨a0,hx0,ha0⟩:=h.off x (by rw[ex];simp)
 cases sn with
 | rest n =>
  obtain⟨a,dx,hx,ea⟩:=so
  rw[hx] at hx0
  have hz:a0=a:=(V.ref.inj hx0).symm
  rw[hz] at ha0
  obtain⟨na,ea'⟩:=ybg ea
  refine⟨ys,a,_,dx,[("length",.int n)],by rw[ex,hx],ea',λz=>na (by rw[z];exact h.mm),ha0,T.JD,T.Jm,rfl,by show 1 < 1000;decide,key a _ dx _ hx ea λg=>⟨a,dx,hx,yab⟩⟩
 | tones ps n wd op cl =>
  obtain⟨a,dx,l,hx,ea,il⟩:=so
  rw[hx] at hx0
  have hz:a0=a:=(V.ref.inj hx0).symm
  rw[hz] at ha0
  obtain⟨na,ea'⟩:=ybg ea
  refine⟨ys,a,_,dx,tFs l n wd op cl,by rw[ex,hx],ea',λz=>na (by rw[z];exact h.mm),ha0,T.Jd,T.Ji,rfl,by show 5 < 1000;decide,key a _ dx _ hx ea λg=>⟨a,dx,l,hx,yab,(il.offI ea).same λb u e=>?_⟩⟩
  obtain⟨nb,e⟩:=yao e
  rw[yai nb]
  exact e
def Bgn (H:Hp)(bg:Addr)(vo:Int)(f:Int→Option (List Pit)):Prop:=∃ kvs:List (List Key×V),H bg=some (.dT kvs)∧∀ ap:Int,match f ap with
 | none=>yb8 kvs [.inl ap,.inl vo]=none
 | some ps=>∃ v,yb8 kvs [.inl ap,.inl vo]=some v∧Is H v (lT ps)
def yfw (t:Ad):Sp:=λvs H Q _=>∃ (sl bg:Addr) (vo:Int) (x:V) (xs:List V) (sns:List Sn) (ts:List Tl) (f:Int→Option (List Pit)) (L:List Addr) (Hs:Hp),vs=[.ref sl,.int vo,x,.ref bg]∧Vc t L Hs H sl xs sns∧LsIs t Hs x ts∧yaN ts∧ts.length≤60∧xs.length≤500∧Bgn Hs bg vo f ∧
 (∀ i (h:i < ts.length),okH f ((ts.take i).foldl (ydm f) ⟨0,sns⟩) ts[i]) ∧
 ∀ xs' H',(∀ b u,H b=some u→b≠sl→V.ref b∉xs→H' b=some u)→Vc t L Hs H' sl xs' (ts.foldl (ydm f) ⟨0,sns⟩).sns→xs'.length≤xs.length+ts.length→(∀ y∈xs',y∈xs∨∃ a,y=.ref a∧H a=none)→Q .non H'
theorem yb6 {f:Int→Option (List Pit)}{s:HS}{tl:Tl}(h:f s.ap=none):ykH f s tl=if (isN tl||yct s.sns)=true then yeu (tg tl) s.sns else s.sns++[.rest (tg tl)]:=by
 unfold ykH
 rw[h]
structure HI (t:Ad) (L:List Addr) (Hs H:Hp) (sl:Addr) (xs:List V) (i:Nat) (xs':List V) (sns':List Sn) (H':Hp):Prop where
 vc:Vc t L Hs H' sl xs' sns'
 fr:∀ b u,H b=some u→b≠sl→V.ref b∉xs→H' b=some u
 ln:xs'.length≤xs.length+i
 nw:∀ y∈xs',y∈xs∨∃ a,y=.ref a∧H a=none
theorem HI.same {L:List Addr}{Hs H:Hp}{sl:Addr}{xs:List V}{i:Nat}{xs':List V}{sns':List Sn}{H' H2:Hp}(h:HI t L Hs H sl xs i xs' sns' H')(s:Same H' H2):HI t L Hs H sl xs i xs' sns' H2 :=
 ⟨⟨h.vc.sm.trans s,h.vc.nl,(λb hb=>let ⟨w,ew⟩:=h.vc.oc b hb;⟨w,s _ _ ew⟩),h.vc.mm,s _ _ h.vc.at_,h.vc.nd,h.vc.al.imp λ_ _ _ z=>z.same (ybI λb u _ e=>s _ _ e),h.vc.off⟩,λb u e n m=>s _ _ (h.fr b u e n m),h.ln,h.nw⟩
theorem HI.more {L:List Addr}{Hs H:Hp}{sl:Addr}{xs:List V}{i:Nat}{xs':List V}{sns':List Sn}{H' H2:Hp}{a:Addr}{sn:Sn}(h:HI t L Hs H sl xs i xs' sns' H')(hsl:∃ u,H sl=some u)(s:Same H' H2)(na:H' a=none)(so:So t (cut L H2) (.ref a) sn):HI t L Hs H sl xs (i+1) (xs'++[.ref a]) (sns'++[sn]) (upd H2 sl (.lst (xs'++[.ref a]))):=by
 refine⟨h.vc.more s a rfl na so,λb u e n m=>by rw[yai n];exact s _ _ (h.fr b u e n m),by rw[List.length_append,List.length_singleton];have:=h.ln;omega,λy hy=>?_⟩
 rcases List.mem_append.mp hy with hy | hy
 ·exact h.nw y hy
 ·rw[List.mem_singleton.mp hy]
  by_cases e:H a=none
  ·exact .inr ⟨a,rfl,e⟩
  ·cases e':H a with
   | none=>exact absurd e' e
   | some u =>
    by_cases hm:V.ref a∈xs
    ·exact .inl hm
    ·by_cases z:a=sl
     ·rw[z,h.vc.at_] at na;cases na
     ·rw[h.fr a u e' z hm] at na;cases na
theorem ypp (T:Txt K mg t)(G_zV:∀ i,FnOk P w K mg base CX0 2 (gF t i) (gD t i) ["self"] (yil t i))(G_zp:FnOk P w K mg base CX0 1 t.f_zp t.d_zp ["sounds"] (yiA t))(G_ze:FnOk P w K mg base CX0 2 t.f_ze t.d_ze ["self","pitches","length","word","opens","closes"] (yhy t))(G_zd:FnOk P w K mg base CX0 1 t.f_zd t.d_zd ["self","length"] (yfn t)):FnOk P w K mg base CX0 4 t.f_zF t.d_zF ["sounds","voice","signs","begun"] (yfw t):=by
 refine T.zF.F.ok sc_zF (λvs H Q E h=>?_) (λcdv A outer s H vs Q E hr h=>?_)
 ·obtain⟨_,_,_,_,_,_,_,_,_,_,rfl,_⟩:=h;rfl
 have hu:=ya2 hr
 obtain⟨sl,bg,vo,x,xs,sns,ts,f,L,Hs,rfl,vc,⟨l,ys,rfl,el,al⟩,gt,l60,lx5,bn,ok,q⟩:=h
 refine⟨_,(yah (yas (i:=4) sc_zF.nd rfl (Or.inl rfl) yag) (yaj (ybf PassesOwn.never rfl (yaX (pv 2)) (yan (i:=5) sc_zF.nd rfl (Or.inl rfl)) (yah (ybM (ynK (ynB (h1 hu) (yaE (yaa (pv 4) (yaa (pv 1) yaf))) (pv 3)) rfl) (yaj (yaO (ybU PySem.F.plainAttrs_list PySem.F.slot_list_append PySem.F.type_list_append yaI (pv 0) (yaa (ycj T.Qh G_ze (hr.mono (by first | decide | omega)) rfl T.Qg T.ze.B .nil yaD (yaa (yg0 (h1 hu) (pv 3) (yaE (yaa (pv 4) (yaa (pv 1) yaf))) (λ_ _=>rfl)) (yaa (ycI (pv 5) (ycw T) (ycB T) G_zV (hr.mono (by first | decide | omega)) (ycA T) yaD) (yaa (ya3 (pv 5) rfl) (yaa (ya3 (pv 5) rfl) (yaa (ya3 (pv 5) rfl) yaf)))))) yaf)))) (yaj (ybM (PW.pt (yk6 (ybj (yax (show ycd _ _ (ylc K) from ycL) rfl T.Ja yap (yaa (pv 5) (yaa (yci (v:=.ref t.QL) rfl T.JC rfl) yaf)))) (yhn (ybj (yaq G_zp (hr.mono (by first | decide | omega)) rfl T.zp.M T.zp.F.kp T.zp.B .nil yaD (yaa (pv 0) yaf)))))) (yah (yas (i:=6) sc_zF.nd rfl (Or.inl rfl) (yav yaz (pv 0) (yc6 ybZ yag) (λ_ _=>rfl))) (yaj (yiO (pv 6) (ycI (pv 5) (ycw T) (ycB T) G_zV (hr.mono (by first | decide | omega)) (ycA T) yaD) ynp))) (yaj (yaO (ybU PySem.F.plainAttrs_list PySem.F.slot_list_append PySem.F.type_list_append yaI (pv 0) (yaa (ycj T.Qt G_zd (hr.mono (by first | decide | omega)) rfl T.JY T.zd.B .nil yaD (yaa (ycI (pv 5) (ycw T) (ycB T) G_zV (hr.mono (by first | decide | omega)) (ycA T) yaD) yaf)) yaf))))))) (yaj (yiy (i:=4) sc_zF.nd rfl (Or.inl rfl) (ycI (pv 5) (ycw T) (ycB T) G_zV (hr.mono (by first | decide | omega)) (ycA T) yaD) yjd)))))),?_⟩
 walk_at "st"
 refine⟨l,rfl,⟨_,SqL.of (vc.sm _ _ el)⟩,ycy (xs:=ys) (λi σ H'=>∃ o5 o6 xs',σ=[some (.ref sl),some (.int vo),some (.ref l),some (.ref bg),some (.int ((ts.take i).foldl (ydm f) ⟨0,sns⟩).ap),o5,o6]∧HI t L Hs H sl xs i xs' ((ts.take i).foldl (ydm f) ⟨0,sns⟩).sns H') ?_ ?_ ?_ ?_⟩
 ·exact⟨none,none,xs,rfl,vc,λb u e _ _=>e,Nat.le_refl _,λy hy=>.inl hy⟩
 ·rintro i σ H' _ ⟨o5,o6,xs',rfl,hi⟩
  exact SqL.of (hi.vc.sm _ _ el)
 ·rintro i x σ H' N hN hx ⟨o5,o6,xs',rfl,hI⟩
  have hi:i < ts.length:=by have:=(List.getElem?_eq_some_iff.mp hx).1;rw[al.1] at this;exact this
  obtain⟨x',ex,sx⟩:=al.2 i hi
  rw[hx] at ex
  cases ex
  have gi:=gt _ (List.getElem_mem hi)
  have oki:=ok i hi
  have ft:=ydX (ydm f) ⟨0,sns⟩ ts i hi
  generalize (ts.take i).foldl (ydm f) ⟨0,sns⟩=S at ft hI oki ⊢
  have fin:∀ (D:ydn) o6 H2 zs,(∀ σ' H',N σ' H'→D.nx σ' H')→HI t L Hs H sl xs (i+1) zs (ykH f S ts[i]) H2→yml 4 (ydx (gC t) "grains" (yil t) E0 (ycv 5)) (ipI λi j=>i+j) D [some (.ref sl),some (.int vo),some (.ref l),some (.ref bg),some (.int S.ap),some x,o6] H2:=by
   intro D o6 H2 zs hD h2
   walk_at "st"
   refine ynU gi (sx.same h2.vc.sm) ?_
   walk_at "st"
   refine hD _ _ (hN _ _ ⟨some x,o6,zs,?_,?_⟩)
   ·rw[ft];rfl
   ·rw[ft];exact h2
  have lng:∀ (D:ydn) o6 H2 zs,(∀ σ' H',D.nx σ' H'↔(yml 4 (ydx (gC t) "grains" (yil t) E0 (ycv 5)) (ipI λi j=>i+j) { nx:=N,rt:=Q,bk:=λ_ H'=>Q .non H',ct:=N }) σ' H')→HI t L Hs H sl xs i zs S.sns H2→S.sns≠[]→ykH f S ts[i]=yeu (tg ts[i]) S.sns →
    ylQ (yku (tOp (ykp K) (ycv 0) (tUn (rU λi=>V.int (-i)) (tC (V.int 1)))) (yce 6)) (yg1 K (ycv 6) (ydx (gC t) "grains" (yil t) E0 (ycv 5)) ypH "length") D [some (.ref sl),some (.int vo),some (.ref l),some (.ref bg),some (.int S.ap),some x,o6] H2:=by
   intro D o6 H2 zs hD h2 ne hp
   obtain⟨sn,e⟩:∃ sn,S.sns.getLast?=some sn:=by
    cases e:S.sns.getLast? with
    | none=>exact absurd (List.getLast?_eq_none_iff.mp e) ne
    | some sn=>exact⟨sn,rfl⟩
   obtain⟨zz,a,C,dx,fs,ez,ea,na,ha,c,nA,lk,lf,k⟩:=h2.vc.last T e
   have e0:=h2.vc.at_
   rw[ez] at e0
   walk_at "st"
   refine ybc (SqL.of e0) (ybP zz (.ref a)) ?_
   walk_at "st"
   refine⟨_,rfl,a,C,dx,fs,_,rfl,ea,c,nA,lk,ylz (yev rfl (ynU gi (sx.same h2.vc.sm) ⟨_,_,rfl,rfl,dx,fs,ea,lf,(hD _ _).mpr (fin _ _ _ zs (λ_ _ z=>z) ?_)⟩))⟩
   rw[hp]
   refine⟨k (tg ts[i]),λb u eb n m=>?_,by have:=h2.ln;omega,h2.nw⟩
   have nb:b≠a:=λz=>by
    rcases h2.nw (.ref a) (by rw[ez];simp) with hm | ⟨a',e',n'⟩
    ·exact m (by rw[z];exact hm)
    ·cases e'
     rw[z,n'] at eb
     cases eb
   rw[yai nb]
   exact h2.fr b u eb n m
  walk_at "st"
  refine ynl ?_
  walk_at "st"
  refine⟨by show 2≤sizeLine;decide,λp hp=>?_⟩
  generalize hH2:upd H' p _=H2
  have s2:Same H' H2:=hH2▸yae hp _
  have e2:H2 p=some (.tup [.int S.ap,.int vo]):=hH2▸yab
  clear hH2
  have h2:=hI.same s2
  obtain⟨kvs,ek0,hk⟩:=id bn
  have ek:=h2.vc.sm _ _ ek0
  have hk':=hk S.ap
  refine yev rfl ⟨bg,_,rfl,DGet.t (k:=[.inl S.ap,.inl vo]) ek e2,ydz ?_⟩
  cases hf:f S.ap with
  | none =>
   rw[hf] at hk'
   rw[hk']
   refine i_F ?_
   walk_at "st"
   obtain⟨C,ty,k1,k2⟩:=(sx.same h2.vc.sm).isa T
   refine ygV ty k1 (ydz ?_)
   cases hn:isN ts[i] with
   | true=>exact i_T (i_T (lng _ o6 H2 xs' (λ_ _=>Iff.rfl) h2 (oki.2 hn hf) (by rw[yb6 hf,hn];rfl)))
   | false =>
    refine i_F ?_
    walk_at "st"
    refine⟨sl,xs',S.sns,rfl,h2.vc.at_,h2.vc.al.imp λ_ _ _ z=>z.same (ycq _ _),λH3 s3=>ydz (i_b (λz=>?_) λz=>?_)⟩
    ·exact lng _ o6 H3 xs' (λ_ _=>Iff.rfl) (h2.same s3) (λc=>by rw[c] at z;cases z) (by rw[yb6 hf,hn,z];rfl)
    ·have h3:=h2.same s3
     walk_at "st"
     refine⟨.inl ⟨rfl,_,SqL.of h3.vc.at_⟩,?_⟩
     walk_at "st"
     refine ynU gi (sx.same h3.vc.sm) ?_
     walk_at "st"
     intro a dx ha hd ne
     have m:=ygl (C:=t.QP) (o:=.ins t.QP dx [("length",.int (tg ts[i]))]) ha hd ne
     have nsl:a∉L:=λhb=>by obtain⟨w,ew⟩:=h3.vc.oc a hb;rw[ha] at ew;cases ew
     refine⟨t.QP,a,dx,tg ts[i],rfl,.inl rfl,yab,rfl,?_⟩
     walk_at "st"
     refine ydb (m.1 _ _ h3.vc.at_) (yam (by have:=h3.ln;omega)) ?_
     refine fin _ _ _ (xs'++[.ref a]) (λ_ _ z=>z) ?_
     rw[yb6 hf,hn,z]
     exact h3.more ⟨_,vc.at_⟩ m.1 ha ⟨a,dx,rfl,by rw[ybx nsl];exact yab⟩
  | some ps =>
   rw[hf] at hk'
   obtain⟨v,ev,iv⟩:=hk'
   rw[ev]
   refine i_T ?_
   walk_at "st"
   have hn:=oki.1 (by rw[hf];simp)
   cases htl:ts[i] with
   | pause p=>rw[htl] at hn;cases hn
   | whole n=>rw[htl] at hn;cases hn
   | note hs p' ti be wd op cl =>
    have sx2:=sx.same h2.vc.sm
    refine⟨.inl ⟨rfl,_,SqL.of h2.vc.at_⟩,?_⟩
    walk_at "st"
    refine⟨by show 2≤sizeLine;decide,λp3 h3=>?_⟩
    generalize hH3:upd H2 p3 _=H3
    have s3:Same H2 H3:=hH3▸yae h3 _
    have e3:H3 p3=some (.tup [.int S.ap,.int vo]):=hH3▸yab
    clear hH3
    have hI3:=h2.same s3
    refine⟨bg,v,rfl,ev▸DGet.t (k:=[.inl S.ap,.inl vo]) (s3 _ _ ek) e3,?_⟩
    walk_at "st"
    have sx3:=sx2.same s3
    refine ynU gi sx3 ?_
    rw[htl] at sx3
    obtain⟨a,dx,hl,z,rfl,ea,i1,i2⟩:=id sx3
    walk_at "st"
    refine⟨a,_,dx,_,_,rfl,ea,T.Jb,T.Jt,rfl,?_⟩
    walk_at "st"
    refine⟨a,_,dx,_,_,rfl,ea,T.Jb,T.Jq,rfl,?_⟩
    walk_at "st"
    refine⟨a,_,dx,_,_,rfl,ea,T.Jb,T.Jk,rfl,?_⟩
    walk_at "st"
    intro a4 dx4 ha4 hd4 ne4
    obtain⟨lv,zs,rfl,elv,izs⟩:∃ lv zs,v=.ref lv∧Hs lv=some (.lst zs)∧Iss Hs zs (ps.map pT):=by rw[lT,Is] at iv;exact iv
    have elv3:=hI3.vc.sm _ _ elv
    refine⟨a4,dx4,lv,zs,_,wd,op,cl,rfl,yab,ybR ha4 hd4 ne4 _ _ elv3,yad elv3 ha4,λl' hl'=>⟨rfl,?_⟩⟩
    obtain⟨n1,n2⟩:=yei hl'
    generalize hH5:upd (upd (made H3 t.QQ a4 dx4) l' (.lst zs)) a4 _=H5
    have s5:Same H3 H5:=hH5▸λb u e=>by
     rw[yai (yad e ha4),yai (yad e n2)]
     exact ybR ha4 hd4 ne4 b u e
    have e5:H5 a4=some (.ins t.QQ dx4 (tFs l' (tg ts[i]) wd op cl)):=hH5▸yab
    have e6:H5 l'=some (.lst zs):=by rw[← hH5,yai n1];exact yab
    clear hH5
    walk_at "st"
    refine ydb (s5 _ _ hI3.vc.at_) (yam (by have:=hI3.ln;omega)) ?_
    refine fin _ _ _ (xs'++[.ref a4]) (λ_ _ z=>z) ?_
    have nsl:a4∉L:=λhb=>by obtain⟨w,ew⟩:=hI3.vc.oc a4 hb;rw[ha4] at ew;cases ew
    have nl':l'∉L:=λhb=>by obtain⟨w,ew⟩:=hI3.vc.oc l' hb;rw[n2] at ew;cases ew
    have ep:ykH f S ts[i]=S.sns++[.tones ps (tg (Tl.note hs p' ti be wd op cl)) wd op cl]:=by unfold ykH;rw[hf,htl]
    rw[ep,show tg (Tl.note hs p' ti be wd op cl)=tg ts[i] by rw[htl]]
    refine hI3.more ⟨_,vc.at_⟩ s5 ha4 ⟨a4,dx4,l',rfl,by rw[ybx nsl];exact e5,ybB (by rw[ybx nl'];exact e6) (izs.same λb u e=>?_)⟩
    rw[ybx (λhb=>by rw[hI3.vc.nl b hb] at e;cases e)]
    exact s5 _ _ (hI3.vc.sm _ _ e)
 ·rintro σ H' ⟨o5,o6,xs',rfl,hi⟩
  have e:ys.length=ts.length:=al.1
  rw[e,List.take_length] at hi
  exact q xs' H' hi.fr hi.vc hi.ln hi.nw
def yar (bs:List Bool)(vss:List (List Tl))(i:Nat):List Rw:=(List.range i).flatMap λk=>(yi8 (k:Nat) (bs.getD k false) (vss.getD k [])).rs
theorem ydw (bs:List Bool)(vss:List (List Tl))(i:Nat):yar bs vss (i+1)=yar bs vss i++(yi8 (i:Nat) (bs.getD i false) (vss.getD i [])).rs:=by
 unfold yar
 rw[List.range_succ,List.flatMap_append]
 simp
theorem yqN {cdv:Value}{A:Around}{outer:List Env}{s0:Shared}{H0:Hp}{E:XK}(T:Txt K mg t)(G_zD:FnOk P w K mg base CX0 3 t.f_zD t.d_zD ["voice","signs","comes"] (ygE t))(hr:Room 5 (A.deeper (PyProof.Rows.envOfC "pitches_begun" (yac (top 30)) s0.heap.objs.size t.f_zg cdv))) :
  ∃ te,PS (ybz CX0 P w K mg base ["bar","ties","rows","voice","signs","begun","row","pitches"] "pitches_begun" (yac (top 30)) t.f_zg cdv A outer s0 H0 E).nox (yaV 30 1) te∧∀ D (x:V) (tl R:Addr) (key:Int) (bs:List Bool) (vss:List (List Tl)) (Hs H1:Hp) o3 o4 o5 o6 o7,Same Hs H1→BarIs t Hs x (key,vss)→Hs tl=some (.lst (bs.map V.bl))→bs.length=vss.length→vss.length≤2→(∀ ts∈vss,yaN ts∧ts.length≤60)→H1 R=some (.lst [])→Hs R=none →
   (∀ i,i≤vss.length→(yar bs vss i).length≤400) →
   (∀ o3 o4 H' xs,(∀ b u,b≠R→H1 b=some u→H' b=some u)→H' R=some (.lst xs)→Iss (nw Hs H1 (rm H' R)) xs ((yar bs vss vss.length).map rwT)→D.nx [some x,some (.ref tl),some (.ref R),o3,o4,o5,o6,o7] H')→te D [some x,some (.ref tl),some (.ref R),o3,o4,o5,o6,o7] H1:=by
 have hu:=ya2 hr
 refine⟨_,(ybf PassesOwn.never rfl (ych rfl T.Jc (yaa (ya3 (pv 0) rfl) yaf)) (yca (n:=2) rfl (yaC (yan (i:=3) sc_zg.nd rfl (Or.inl rfl)) (yaC (yan (i:=4) sc_zg.nd rfl (Or.inl rfl)) ybG))) (yaj (yaO (ybU PySem.F.plainAttrs_list PySem.F.slot_list_extend PySem.F.type_list_extend yjn (pv 2) (yaa (yaq G_zD (hr.mono (by first | decide | omega)) rfl T.zD.M T.zD.F.kp T.zD.B .nil yaD (yaa (pv 3) (yaa (pv 4) (yaa (yav yaz (pv 1) (pv 3) (λ_ _=>rfl)) yaf)))) yaf))))),λD x tl R key bs vss Hs H1 o3 o4 o5 o6 o7 sH bi et lb l2 gd eR nR l4 q=>?_⟩
 obtain⟨a,dx,mv,lv,rfl,ea,l,ys,e,el,al⟩:=bi
 cases e
 walk_at "st"
 refine⟨a,_,dx,_,_,rfl,sH _ _ ea,T.JB,T.Je,rfl,?_⟩
 walk_at "st"
 have st:∀ {H':Hp},(∀ b u,b≠R→H1 b=some u→H' b=some u)→Same Hs H':=λk b u e=>k b u (yad e nR) (sH _ _ e)
 refine⟨lv,rfl,⟨_,SqL.of (sH _ _ el)⟩,ybQ (xs:=ys) (λi σ H'=>∃ o3 o4 xs,σ=[some (.ref a),some (.ref tl),some (.ref R),o3,o4,o5,o6,o7]∧(∀ b u,b≠R→H1 b=some u→H' b=some u)∧H' R=some (.lst xs)∧Iss (nw Hs H1 (rm H' R)) xs ((yar bs vss i).map rwT)) ?_ ?_ ?_ ?_⟩
 ·exact⟨o3,o4,[],rfl,λb u _ e=>e,eR,yay _⟩
 ·rintro i σ H' _ ⟨o3,o4,xs,rfl,k,_⟩
  exact SqL.of (st k _ _ el)
 ·rintro i y σ H' p hy ⟨o3,o4,xs,rfl,k,eR',is⟩ hp
  have hi:i < vss.length:=by have:=(List.getElem?_eq_some_iff.mp hy).1;rw[al.1] at this;exact this
  obtain⟨y',ey,ly⟩:=al.2 i hi
  rw[hy] at ey
  cases ey
  have s2:=yae hp (.tup [.int (i:Nat),y])
  refine yex (SqT.of yab) ?_
  generalize upd H' p (.tup [.int (i:Nat),y])=H2 at s2 ⊢
  have sH2:Same Hs H2:=(st k).trans s2
  walk_at "st"
  refine⟨.inl ⟨rfl,_,SqL.of (s2 _ _ eR')⟩,?_⟩
  walk_at "st"
  refine ybc (SqL.of (sH2 _ _ et)) (v:=.bl (bs.getD i false)) (yak (by rw[List.getElem?_map,List.getElem?_eq_getElem (by omega),List.getD_eq_getElem?_getD,List.getElem?_eq_getElem (by omega)];rfl)) ?_
  walk_at "st"
  have gv:vss.getD i []=vss[i]:=by rw[List.getD_eq_getElem?_getD,List.getElem?_eq_getElem hi];rfl
  obtain⟨g1,g2⟩:=gd _ (List.getElem_mem hi)
  refine⟨(i:Nat),y,bs.getD i false,vss[i],Hs,rfl,sH2,ly,g1,g2,λz H3 s3 iz=>?_⟩
  obtain⟨l3,zs,rfl,e3,i3⟩:∃ l3 zs,z=.ref l3∧nw Hs H2 H3 l3=some (.lst zs)∧Iss (nw Hs H2 H3) zs ((yi8 (i:Nat) (bs.getD i false) vss[i]).rs.map rwT):=by rw[Is] at iz;exact iz
  have e3':=yjU sH2 s3 _ _ e3
  have lxs:=is.len
  have lzs:=i3.len
  rw[List.length_map] at lxs lzs
  have l4':=l4 (i+1) hi
  rw[ydw,List.length_append,gv] at l4'
  walk_at "st"
  refine⟨R,l3,xs,zs,rfl,rfl,s3 _ _ (s2 _ _ eR'),e3',Nat.le_of_lt (yam (by omega)),?_⟩
  have s23:=s2.trans s3
  refine⟨_,_,_,rfl,λb u n e=>by rw[yai n];exact s23 _ _ (k b u n e),yab,?_⟩
  rw[ydw,gv,List.map_append]
  have free:∀ {b},H' b=none→H1 b=none:=λ{b} h=>by
   cases z:H1 b with
   | none=>rfl
   | some u =>
    by_cases e:b=R
    ·rw[e,eR'] at h;cases h
    ·rw[k b u e z] at h;cases h
  refine Iss.app (is.same λb u e=>?_) (i3.same λb u e=>?_)
  ·cases h:H1 b with
   | none =>
    rw[yaw h] at e ⊢
    obtain⟨n,e⟩:=yao e
    rw[yaB n,yai n]
    exact s23 _ _ e
   | some v=>rw[yaM h] at e ⊢;exact e
  ·cases h2:H2 b with
   | none =>
    rw[yaw h2] at e
    have n:b≠R:=λz=>by rw[z,s2 _ _ eR'] at h2;cases h2
    rw[yaw (free (s2.free h2)),yaB n,yai n]
    exact e
   | some v =>
    rw[yaM h2] at e
    rw[yaM (sH _ _ e)]
    exact e
 ·rintro σ H' ⟨o3,o4,xs,rfl,k,eR',is⟩
  rw[al.1] at is
  exact q _ _ _ _ k eR' is
def ybd (r:Rw):Row:=⟨r.ap,r.vo,r.hs.map (·.1),false⟩
def ygP (r:Rw):List Str:=r.hs.map (·.2)
theorem yll (hs:List Hd):(hs.map (·.1)).zip (hs.map (·.2))=hs:=by
 induction hs with
 | nil=>rfl
 | cons h r ih=>rw[List.map_cons,List.map_cons,List.zip_cons_cons,ih]
theorem ym9 (r:Rw):ylq (ybd r) (ygP r)=rwT r:=by
 unfold ylq ybd ygP rwT hsT
 simp only
 rw[yll]
 rfl
theorem ymj (rs:List Rw):yfD (rs.map ybd) (rs.map ygP)=rs.map rwT:=by
 unfold yfD
 rw[List.length_map]
 apply List.ext_getElem
 ·rw[List.length_map,List.length_range,List.length_map]
 ·intro i h1 h2
  rw[List.length_map,List.length_range] at h1
  rw[List.getElem_map,List.getElem_map,List.getElem_range,← ym9]
  unfold mkF
  rw[List.getD_eq_getElem?_getD,List.getD_eq_getElem?_getD,List.getElem?_map,List.getElem?_map,List.getElem?_eq_getElem h1]
  rfl
def at2 {α:Type}(L:List (Rw×α))(ap vo:Int):Option α:=(L.find? λq=>decide (q.1.ap=ap)&&decide (q.1.vo=vo)).map (·.2)
theorem ykO {α:Type}(L:List (Rw×α))(r:Rw)(y:α)(ap vo:Int)(h:at2 L r.ap r.vo=none):at2 (L++[(r,y)]) ap vo=if ap=r.ap∧vo=r.vo then some y else at2 L ap vo:=by
 unfold at2 at h ⊢
 rw[List.find?_append]
 by_cases e:ap=r.ap∧vo=r.vo
 ·obtain⟨rfl,rfl⟩:=e
  rw[if_pos ⟨rfl,rfl⟩,Option.map_eq_none_iff.mp h]
  simp
 ·rw[if_neg e]
  have:(List.find? (λq:Rw×α=>decide (q.1.ap=ap)&&decide (q.1.vo=vo)) [(r,y)])=none:=by
   rw[List.find?_cons_of_neg]
   ·rfl
   ·intro z
    rw[Bool.and_eq_true,decide_eq_true_eq,decide_eq_true_eq] at z
    exact e ⟨z.1.symm,z.2.symm⟩
  rw[this]
  simp
def BgL (kvs:List (List Key×V))(L:List (Rw×V)):Prop:=∀ ap vo:Int,yb8 kvs [.inl ap,.inl vo]=at2 L ap vo
theorem BgL.put {kvs:List (List Key×V)}{L:List (Rw×V)}{r:Rw}{y:V}(h:BgL kvs L)(n:at2 L r.ap r.vo=none):BgL (ydq kvs [.inl r.ap,.inl r.vo] y) (L++[(r,y)]):=λap vo=>by
 rw[ycG,ykO L r y ap vo n]
 by_cases e:ap=r.ap∧vo=r.vo
 ·obtain⟨rfl,rfl⟩:=e
  rw[if_pos rfl,if_pos ⟨rfl,rfl⟩]
 ·rw[if_neg e,if_neg (λz=>e ?_)]
  ·exact h ap vo
  ·have z1:=List.cons.inj z
   have z2:=List.cons.inj z1.2
   exact⟨Sum.inl.inj z1.1,Sum.inl.inj z2.1⟩
theorem Is.rw' {H:Hp}{x:V}{r:Rw}(h:Is H x (rwT r)):∃ a y,x=.ref a∧H a=some (.tup [.int r.ap,.int r.vo,y,.non]):=by
 unfold rwT at h
 rw[Is] at h
 obtain⟨a,ys,rfl,e,is⟩:=h
 rw[Iss] at is
 obtain⟨y0,r0,rfl,i0,is⟩:=is
 rw[Iss] at is
 obtain⟨y1,r1,rfl,i1,is⟩:=is
 rw[Iss] at is
 obtain⟨y2,r2,rfl,i2,is⟩:=is
 rw[Iss] at is
 obtain⟨y3,r3,rfl,i3,is⟩:=is
 rw[Iss] at is
 rw[nT,Is] at i0 i1
 rw[Is] at i3
 rw[is,i0.1,i1.1,i3.1] at e
 exact⟨a,y2,rfl,e⟩
def yhB (r:Rw):Prop:=ycz r.hs
theorem yhF {r:Rw}(g:yhB r):ynI (ybd r)∧(ygP r).length=(ybd r).ps.length∧∀ s∈ygP r,OkM s:=by
 refine⟨⟨λp hp=>?_,?_⟩,?_,λs hs=>?_⟩
 ·obtain⟨h,hh,rfl⟩:=List.mem_map.mp hp
  exact(g.2 h hh).1
 ·show(r.hs.map (·.1)).length≤10
  rw[List.length_map]
  have:=g.1
  omega
 ·show(r.hs.map (·.2)).length=(r.hs.map (·.1)).length
  rw[List.length_map,List.length_map]
 ·obtain⟨h,hh,rfl⟩:=List.mem_map.mp hs
  exact(g.2 h hh).2
theorem yiV {rs:List Rw}{ys:List V}(ap:Apart (rs.map ybd))(ln:ys.length=rs.length)(i:Nat)(hi:i < rs.length):at2 ((rs.zip ys).take i) rs[i].ap rs[i].vo=none:=by
 unfold at2
 rw[Option.map_eq_none_iff,List.find?_eq_none]
 intro q hq z
 rw[Bool.and_eq_true,decide_eq_true_eq,decide_eq_true_eq] at z
 obtain⟨j,hj,e⟩:=List.getElem_of_mem hq
 rw[List.length_take,List.length_zip] at hj
 rw[List.getElem_take,List.getElem_zip] at e
 have hj2:j < rs.length:=by omega
 have e1:rs[j]=q.1:=by rw[← e]
 have:=ap.inj j i (by rw[List.length_map];exact hj2) (by rw[List.length_map];exact hi) (by
  rw[List.getElem?_map,List.getElem?_map,List.getElem?_map,List.getElem?_map,List.getElem?_eq_getElem hj2,List.getElem?_eq_getElem hi]
  show[rs[j].ap,rs[j].vo]=[rs[i].ap,rs[i].vo]
  rw[e1,z.1,z.2])
 omega
mutual
theorem Is.offD {H:Hp}{c:Addr}{kvs:List (List Key×V)}(hc:H c=some (.dT kvs)):∀ {v:V} {t:Th},Is H v t→Is (rm H c) v t
 | v,.im w,h=>by rw[Is] at h ⊢;exact h
 | v,.ls ts,h=>by
  rw[Is] at h ⊢
  obtain⟨a,xs,e,q,r⟩:=h
  exact⟨a,xs,e,by rw[yaB (λz=>by rw[z,hc] at q;cases q)];exact q,Iss.offD hc r⟩
 | v,.tp ts,h=>by
  rw[Is] at h ⊢
  obtain⟨a,xs,e,q,r⟩:=h
  exact⟨a,xs,e,by rw[yaB (λz=>by rw[z,hc] at q;cases q)];exact q,Iss.offD hc r⟩
 | v,.dk,h=>by
  rw[Is] at h ⊢
  obtain⟨a,xs,e,q⟩:=h
  exact⟨a,xs,e,by rw[yaB (λz=>by rw[z,hc] at q;cases q)];exact q⟩
theorem Iss.offD {H:Hp}{c:Addr}{kvs:List (List Key×V)}(hc:H c=some (.dT kvs)):∀ {xs:List V} {ts:List Th},Iss H xs ts→Iss (rm H c) xs ts
 | xs,[],h=>by rw[Iss] at h ⊢;exact h
 | xs,t :: ts,h=>by
  rw[Iss] at h ⊢
  obtain⟨x,r,e,q,z⟩:=h
  exact⟨x,r,e,Is.offD hc q,Iss.offD hc z⟩
end
theorem _root_.L2.TabK.butT {H H':Hp}{T c:Addr}{p:Pos}{q:Str}{kv:List (List Key×V)}(x:TabK H T p q)(hc:H c=some (.dT kv))(e:SameT c H H'):TabK H' T p q:=by
 obtain⟨ps,h,ht,z⟩:=x
 refine⟨ps,e _ _ (λz=>by rw[z,hc] at h;cases h) h,ht,?_⟩
 rcases z with z | ⟨c',n,z1,o,vs,t,h2,r⟩
 ·exact .inl z
 ·exact .inr ⟨c',n,z1,o,vs,t,e _ _ (λz=>by rw[z,hc] at h2;cases h2) h2,r⟩
theorem yoK {σ:St}{H:Hp}{ta:TA}{g:TG}{tb:TS}{D:ydn}(q:ta σ H λvs H1=>∃ a b,vs=[.ref a,.ref b]∧(((∃ xs,SqL K H1 a xs)∧(∃ ys,SqL K H1 b ys)∧yna (Itz K a b) g tb D σ H1)∨((∃ xs,SqT K H1 a xs)∧(∃ ys,SqT K H1 b ys)∧yna (ynZ K a b) g tb D σ H1))):ymM (ynt K ta) g tb D σ H:=q
theorem yrw {cdv:Value}{A:Around}{outer:List Env}{s0:Shared}{H0:Hp}{E:XK}{Tb:Addr}(T:Txt K mg t)(G_zM:FnOk P w K mg base CX0 5 t.f_zM t.d_zM ["key","rows"] (ygD Tb))(hr:Room 5 (A.deeper (PyProof.Rows.envOfC "pitches_begun" (yac (top 30)) s0.heap.objs.size t.f_zg cdv))) :
  ∃ te,PS (ybz CX0 P w K mg base ["bar","ties","rows","voice","signs","begun","row","pitches"] "pitches_begun" (yac (top 30)) t.f_zg cdv A outer s0 H0 E).nox (yaV 30 3) te∧∀ D (a dx tl R bg l:Addr) (mv:V) (key:Int) (rs:List Rw) (xs:List V) (H1:Hp) o3 o4 o6 o7,H1 a=some (.ins t.QR dx (bFs key mv l))→H1 R=some (.lst xs)→Iss H1 xs (rs.map rwT)→rs.length≤46→(∀ r∈rs,yhB r)→Apart (rs.map ybd)→H1 bg=some (.dT [])→TK H1 Tb →
   (∀ o6 o7 H' ys kvs p,(∀ b u,b≠bg→b≠Tb→H1 b=some u→H' b=some u)→TK H' Tb→H' bg=some (.dT kvs)→BgL kvs (rs.zip ys)→ys.length=rs.length→(∀ y∈ys,∃ a,y=.ref a∧H1 a=none)→Iss (rm H' bg) ys ((ydd key (rs.map ybd) (rs.map ygP) p.toList).map lT)→yjc (rs.map ybd) p→D.nx [some (.ref a),some (.ref tl),some (.ref R),o3,o4,some (.ref bg),o6,o7] H') →
   te D [some (.ref a),some (.ref tl),some (.ref R),o3,o4,some (.ref bg),o6,o7] H1:=by
 have hu:=ya2 hr
 refine⟨_,(ybf PassesOwn.never rfl (yiK rfl T.Qp (yaa (pv 2) (yaa (yaq G_zM (hr.mono (by first | decide | omega)) rfl T.zM.M T.zM.F.kp T.zM.B .nil yaD (yaa (ya3 (pv 0) rfl) (yaa (pv 2) yaf))) yaf))) (yca (n:=2) rfl (yaC (yan (i:=6) sc_zg.nd rfl (Or.inl rfl)) (yaC (yan (i:=7) sc_zg.nd rfl (Or.inl rfl)) ybG))) (yaj (yd1 (h1 hu) (pv 5) (ybJ ydO (pv 6) yb2 (yb4 yag)) (pv 7) rfl))),λD a dx tl R bg l mv key rs xs H1 o3 o4 o6 o7 ea eR is l46 gr ap eb tk q=>?_⟩
 walk_at "st"
 refine yoK ?_
 walk_at "st"
 refine⟨a,_,dx,_,_,rfl,ea,T.JB,T.JI,rfl,?_⟩
 walk_at "st"
 have lr:(rs.map ybd).length=rs.length:=List.length_map _
 refine⟨key,R,xs,rs.map ybd,rs.map ygP,rfl,eR,by rw[ymj];exact is,by rw[lr];exact l46,λr hr=>?_,ap,λi hi=>?_,tk,λd H2 ys p st tk2 nd ed iy ny tm=>?_⟩
 ·obtain⟨r',hr',rfl⟩:=List.mem_map.mp hr
  exact(yhF (gr r' hr')).1
 ·rw[lr] at hi
  have g:=yhF (gr _ (List.getElem_mem hi))
  have e1:mkF (rs.map ygP) i=ygP rs[i]:=by unfold mkF;rw[List.getD_eq_getElem?_getD,List.getElem?_map,List.getElem?_eq_getElem hi];rfl
  have e2:(rs.map ybd).getD i r0=ybd rs[i]:=by rw[List.getD_eq_getElem?_getD,List.getElem?_map,List.getElem?_eq_getElem hi];rfl
  rw[e1,e2]
  exact g.2
 obtain⟨pt,eT,_⟩:=id tk
 have nR:R≠Tb:=λz=>by rw[z,eT] at eR;cases eR
 have nb:bg≠Tb:=λz=>by rw[z,eT] at eb;cases eb
 have eR2:=st _ _ nR eR
 have eb2:=st _ _ nb eb
 have lx:xs.length=rs.length:=by rw[is.len,List.length_map]
 have ly:ys.length=rs.length:=by rw[iy.len,List.length_map];unfold ydd;rw[List.length_map,List.length_range,lr]
 have nRb:R≠bg:=λz=>by rw[z,eb] at eR;cases eR
 have ndb:d≠bg:=(yad eb nd).symm
 walk_at "st"
 refine⟨R,d,rfl,.inl ⟨⟨_,SqL.of eR2⟩,⟨_,SqL.of ed⟩,ylY (xs:=xs) (ys:=ys) (by rw[lx,ly]) (λi σ H'=>∃ o6 o7 kvs,σ=[some (.ref a),some (.ref tl),some (.ref R),o3,o4,some (.ref bg),o6,o7]∧SameT bg H2 H'∧H' bg=some (.dT kvs)∧kvs.length≤i∧BgL kvs ((rs.zip ys).take i)) ?_ ?_ ?_ ?_⟩⟩
 ·exact⟨_,_,[],rfl,(λb u _ e=>e),eb2,Nat.le_refl _,λap vo=>rfl⟩
 ·rintro i σ H' ⟨_,_,kvs,rfl,s',_,_,_⟩
  exact⟨SqL.of (s' _ _ nRb eR2),SqL.of (s' _ _ ndb ed)⟩
 ·rintro i x y σ H' c hx hy ⟨o6,o7,kvs,rfl,s',ek,lk,bl⟩ hc
  have hi:i < rs.length:=by have:=(List.getElem?_eq_some_iff.mp hx).1;omega
  obtain⟨x',ex,ix⟩:=is.at' i (by rw[List.length_map];exact hi)
  rw[hx] at ex
  cases ex
  rw[List.getElem_map] at ix
  obtain⟨r,hv,rfl,er⟩:=ix.rw'
  have nrT:r≠Tb:=λz=>by rw[z,eT] at er;cases er
  have nrb:r≠bg:=λz=>by rw[z,eb] at er;cases er
  have er':=s' _ _ nrb (st _ _ nrT er)
  refine yex (SqT.of yab) ?_
  have s3:=yae hc (.tup [.ref r,y])
  generalize upd H' c (.tup [.ref r,y])=H3 at s3 ⊢
  refine yev rfl (yev rfl (yqt (yev rfl ⟨2,rfl,r,_,rfl,SqT.of (s3 _ _ er'),λz=>absurd (show HT.sIx 4 4 (some 2)=4 from z.2) (by decide),λk hk=>?_⟩)))
  have s4:=yae hk (.tup [.int rs[i].ap,.int rs[i].vo])
  have s34:=s3.trans s4
  refine⟨bg,_,rfl,DPut.t (k:=[.inl rs[i].ap,.inl rs[i].vo]) (s34 _ _ ek) yab (yam (by omega)),_,_,_,rfl,?_,yab,?_,?_⟩
  ·exact λb u n e=>by rw[yai n];exact s34 _ _ (s' _ _ n e)
  ·exact Nat.le_trans (ybF _ _ _) (by omega)
  ·have hz:i < (rs.zip ys).length:=by rw[List.length_zip];omega
   have ez:(rs.zip ys)[i]=(rs[i],y):=by
    rw[List.getElem_zip]
    rw[List.getElem?_eq_getElem (by omega)] at hy
    rw[Option.some.inj hy]
   rw[List.take_succ_eq_append_getElem hz,ez]
   exact bl.put (yiV ap ly i hi)
 ·rintro σ H' ⟨o6,o7,kvs,rfl,s',ek,lk,bl⟩
  rw[lx,show rs.length=(rs.zip ys).length by rw[List.length_zip,ly];omega,List.take_length] at bl
  refine q _ _ H' ys kvs p (λb u n1 n2 e=>s' _ _ n1 (st _ _ n2 e)) (tk2.butT eb2 s') ek bl ly ny ((iy.offD (show rm H2 d bg=some (.dT []) by rw[yaB ndb.symm];exact eb2)).same λb u e=>?_) tm
  obtain⟨n1,e⟩:=yao e
  obtain⟨n2,e⟩:=yao e
  rw[yaB n1]
  exact s' _ _ n1 e
def yn6 (t:Ad)(Tb:Addr):Sp:=λvs H Q _=>∃ (x:V) (tl:Addr) (key:Int) (bs:List Bool) (vss:List (List Tl)) (Hs:Hp),vs=[x,.ref tl]∧Same Hs H∧BarIs t Hs x (key,vss)∧Hs tl=some (.lst (bs.map V.bl))∧bs.length=vss.length∧vss.length≤2∧(∀ ts∈vss,yaN ts∧ts.length≤60) ∧
 (∀ i,i≤vss.length→(yar bs vss i).length≤46)∧(∀ r∈yar bs vss vss.length,yhB r)∧Apart ((yar bs vss vss.length).map ybd)∧TK H Tb∧Hs Tb=none ∧
 ∀ bg H' ys kvs p,SameT Tb H H'→TK H' Tb→H bg=none→H' bg=some (.dT kvs)→BgL kvs ((yar bs vss vss.length).zip ys)→ys.length=(yar bs vss vss.length).length→(∀ y∈ys,∃ a,y=.ref a∧H a=none)→Iss (rm H' bg) ys ((ydd key ((yar bs vss vss.length).map ybd) ((yar bs vss vss.length).map ygP) p.toList).map lT)→yjc ((yar bs vss vss.length).map ybd) p→Q (.ref bg) H'
theorem _root_.L2.TabK.butL {H H':Hp}{T c:Addr}{p:Pos}{q:Str}{xs:List V}(x:TabK H T p q)(hc:H c=some (.lst xs))(e:SameT c H H'):TabK H' T p q:=by
 obtain⟨ps,h,ht,z⟩:=x
 refine⟨ps,e _ _ (λz=>by rw[z,hc] at h;cases h) h,ht,?_⟩
 rcases z with z | ⟨c',n,z1,o,vs,t,h2,r⟩
 ·exact .inl z
 ·exact .inr ⟨c',n,z1,o,vs,t,e _ _ (λz=>by rw[z,hc] at h2;cases h2) h2,r⟩
theorem ypd {Tb:Addr}(T:Txt K mg t)(G_zD:FnOk P w K mg base CX0 3 t.f_zD t.d_zD ["voice","signs","comes"] (ygE t))(G_zM:FnOk P w K mg base CX0 5 t.f_zM t.d_zM ["key","rows"] (ygD Tb)):FnOk P w K mg base CX0 6 t.f_zg t.d_zg ["bar","ties"] (yn6 t Tb):=by
 refine T.zg.F.ok sc_zg (λvs H Q E h=>?_) (λcdv A outer s H vs Q E hr h=>?_)
 ·obtain⟨_,_,_,_,_,_,rfl,_⟩:=h;rfl
 have hu:=ya2 hr
 obtain⟨x,tl,key,bs,vss,Hs,rfl,sH,bi,et,lb,l2,gd,l46,grw,ap,tk,nT,q⟩:=h
 obtain⟨t1,p1,k1⟩:=yqN (cdv:=cdv) (A:=A) (outer:=outer) (s0:=s) (H0:=H) (E:=E) T G_zD hr
 obtain⟨t3,p3,k3⟩:=yrw (cdv:=cdv) (A:=A) (outer:=outer) (s0:=s) (H0:=H) (E:=E) T G_zM hr
 refine⟨_,show PSs _ [yaV 30 0,yaV 30 1,yaV 30 2,yaV 30 3,yaV 30 4] _ from yah (yas (i:=2) sc_zg.nd rfl (Or.inl rfl) (yaZ yaf)) (yah p1 (yah (yas (i:=5) sc_zg.nd rfl (Or.inl rfl) ye7) (yah p3 (yaj (yaG (pv 5)))))),?_⟩
 walk_at "st"
 refine⟨Nat.zero_le _,λR hR=>?_⟩
 generalize hH1:upd H R _=H1
 have s1:Same H H1:=hH1▸yae hR _
 have e1:H1 R=some (.lst []):=hH1▸yab
 clear hH1
 walk_at "st"
 refine k1 _ x tl R key bs vss Hs H1 _ _ _ _ _ (sH.trans s1) bi et lb l2 gd e1 (sH.free hR) (λi hi=>by have:=l46 i hi;omega) λo3 o4 H2 xs st2 eR2 is2=>?_
 walk_at "st"
 refine λbg hb=>?_
 generalize hH3:upd H2 bg _=H3
 have s3:Same H2 H3:=hH3▸yae hb _
 have e3:H3 bg=some (.dT []):=hH3▸yab
 clear hH3
 have sH2:Same H H2:=λb u e=>st2 b u (yad e hR) (s1 _ _ e)
 have sH3:=sH2.trans s3
 obtain⟨a,dx,mv,l,rfl,ea,vi⟩:=bi
 have is3:Iss H3 xs ((yar bs vss vss.length).map rwT):=is2.same λb u e=>by
  cases h:H1 b with
  | none=>rw[yaw h] at e;exact s3 _ _ (yao e).2
  | some v=>rw[yaM h] at e;exact sH3 _ _ (sH _ _ e)
 walk_at "st"
 refine k3 _ a dx tl R bg l mv key (yar bs vss vss.length) xs H3 _ _ _ _ (sH3 _ _ (sH _ _ ea)) (s3 _ _ eR2) is3 (l46 _ (Nat.le_refl _)) grw ap e3 ((tk.same sH3)) λo6 o7 H' ys kvs p st tk' eb bl ly ny iy tm=>?_
 walk_at "st"
 refine q bg H' ys kvs p (λb u n e=>st b u (yad e (sH2.free hb)) n (sH3 _ _ e)) tk' (sH2.free hb) eb bl ly (λy hy=>?_) iy tm
 obtain⟨a',e',n'⟩:=ny y hy
 exact⟨a',e',sH3.free n'⟩
structure MS where
 cm:Bool
 sns:List Sn
def ydE (ps:List Pit)(s:MS):Tl→List Sn
 | .note hs p ti be wd op cl=>if s.cm=true then yeu (pg p) s.sns else s.sns++[.tones ps (pg p) wd op cl]
 | tl=>if yct s.sns=true then yeu (tg tl) s.sns else s.sns++[.rest (tg tl)]
def ya5 (g:Nat→List Pit):Nat→MS→List Tl→MS
 | _,s,[]=>s
 | j,s,tl :: ts=>ya5 g (j+1) ⟨ydC tl,ydE (g j) s tl⟩ ts
def yhW (vo:Int)(cm:Bool)(ap:Int)(j:Nat):Tl→List (Rw×Nat)
 | .note hs _ _ _ _ _ _=>if cm=true then [] else [(⟨ap,vo,hs⟩,j)]
 | _=>[]
def ybo (vo:Int):Bool→Int→Nat→List Tl→List (Rw×Nat)
 | _,_,_,[]=>[]
 | cm,ap,j,tl :: ts=>yhW vo cm ap j tl++ybo vo (ydC tl) (ap+tg tl) (j+1) ts
theorem yeZ {g:Int}{sns:List Sn}(h:sns≠[]):yeu g sns≠[]:=by
 unfold yeu
 cases e:sns.getLast? with
 | none=>exact absurd (List.getLast?_eq_none_iff.mp e) h
 | some sn=>simp
theorem yff {sns:List Sn}(h:yct sns=true):sns≠[]:=λz=>by rw[z] at h;cases h
theorem yg2 {ps:List Pit}{s:MS}{tl:Tl}(h:s.cm=true→s.sns≠[]):ydE ps s tl≠[]:=by
 cases tl with
 | note hs p ti be wd op cl =>
  unfold ydE
  dsimp only
  by_cases z:s.cm=true
  ·rw[if_pos z];exact yeZ (h z)
  ·rw[if_neg z];simp
 | pause p =>
  unfold ydE
  dsimp only
  by_cases z:yct s.sns=true
  ·rw[if_pos z];exact yeZ (yff z)
  ·rw[if_neg z];simp
 | whole n =>
  unfold ydE
  dsimp only
  by_cases z:yct s.sns=true
  ·rw[if_pos z];exact yeZ (yff z)
  ·rw[if_neg z];simp
theorem yfy {vo:Int}{cm:Bool}{ap:Int}{j:Nat}{tl:Tl}{r:Rw}{i:Nat}(h:(r,i)∈yhW vo cm ap j tl):r.ap=ap∧r.vo=vo∧i=j∧isN tl=true∧cm=false∧∃ p ti be wd op cl,tl=.note r.hs p ti be wd op cl:=by
 cases tl with
 | note hs p ti be wd op cl =>
  unfold yhW at h
  dsimp only at h
  by_cases z:cm=true
  ·rw[if_pos z] at h;cases h
  ·rw[if_neg z,List.mem_singleton] at h
   cases h
   exact⟨rfl,rfl,rfl,rfl,by simpa using z,p,ti,be,wd,op,cl,rfl⟩
 | pause p=>cases h
 | whole n=>cases h
theorem ybl {vo:Int}:∀ {ts:List Tl} {cm:Bool} {ap:Int} {j:Nat} {r:Rw} {i:Nat},yaN ts→(r,i)∈ybo vo cm ap j ts→ap≤r.ap∧r.vo=vo∧j≤i∧∃ p ti be wd op cl,ts[i - j]?=some (.note r.hs p ti be wd op cl)
 | [],_,_,_,_,_,_,h=>by cases h
 | tl :: ts,cm,ap,j,r,i,g,h=>by
  rw[ybo,List.mem_append] at h
  rcases h with h | h
  ·obtain⟨h1,h2,h3,_,_,p,ti,be,wd,op,cl,e⟩:=yfy h
   exact⟨by omega,h2,by omega,p,ti,be,wd,op,cl,by rw[h3,Nat.sub_self,e];rfl⟩
  ·obtain⟨h1,h2,h3,p,ti,be,wd,op,cl,e⟩:=ybl (λz hz=>g z (List.mem_cons_of_mem _ hz)) h
   have:=(yi2 (g tl List.mem_cons_self)).1
   refine⟨by omega,h2,by omega,p,ti,be,wd,op,cl,?_⟩
   rw[show i - j=(i - (j+1))+1 by omega,List.getElem?_cons_succ]
   exact e
theorem yhC {vo:Int}{F:Int→Option (List Pit)}{G:Nat→List Pit}:∀ (ts:List Tl) (cm:Bool) (ap:Int) (j:Nat) (sns:List Sn),yaN ts→(cm=true→sns≠[])→(∀ r i,(r,i)∈ybo vo cm ap j ts→F r.ap=some (G i))→(∀ a,ap≤a→(∀ r i,(r,i)∈ybo vo cm ap j ts→r.ap≠a)→F a=none) →
  (ts.foldl (ydm F) ⟨ap,sns⟩).sns=(ya5 G j ⟨cm,sns⟩ ts).sns∧∀ i (h:i < ts.length),okH F ((ts.take i).foldl (ydm F) ⟨ap,sns⟩) ts[i]
 | [],cm,ap,j,sns,_,_,_,_=>⟨rfl,λi h=>nomatch h⟩
 | tl :: ts,cm,ap,j,sns,g,hc,h1,h2=>by
  have gt:=g tl List.mem_cons_self
  have gr:yaN ts:=λz hz=>g z (List.mem_cons_of_mem _ hz)
  have pos:=(yi2 gt).1
  have step:∀ (sn:List Sn),ykH F ⟨ap,sns⟩ tl=sn→ydE (G j) ⟨cm,sns⟩ tl=sn→okH F ⟨ap,sns⟩ tl→((tl :: ts).foldl (ydm F) ⟨ap,sns⟩).sns=(ya5 G j ⟨cm,sns⟩ (tl :: ts)).sns∧∀ i (h:i < (tl :: ts).length),okH F (((tl :: ts).take i).foldl (ydm F) ⟨ap,sns⟩) (tl :: ts)[i]:=by
   intro sn e1 e2 ok
   have ne:sn≠[]:=e2▸yg2 hc
   have ih:=yhC (vo:=vo) (F:=F) (G:=G) ts (ydC tl) (ap+tg tl) (j+1) sn gr (λ_=>ne) (λr i h=>h1 r i (by rw[ybo];exact List.mem_append_right _ h)) (λa ha k=>h2 a (by omega) λr i h=>by
    rw[ybo,List.mem_append] at h
    rcases h with h | h
    ·have:=(yfy h).1;omega
    ·exact k r i h)
   have es:ydm F ⟨ap,sns⟩ tl=⟨ap+tg tl,sn⟩:=by unfold ydm;rw[e1]
   refine⟨?_,λi hi=>?_⟩
   ·rw[List.foldl_cons,es,ya5,e2]
    exact ih.1
   ·cases i with
    | zero=>exact ok
    | succ i =>
     rw[List.take_succ_cons,List.foldl_cons,es,List.getElem_cons_succ]
     exact ih.2 i (by simpa using hi)
  have no:yhW vo cm ap j tl=[]→F ap=none:=λz=>h2 ap (Int.le_refl _) λr i h=>by
   rw[ybo,z,List.nil_append] at h
   have:=(ybl gr h).1
   omega
  cases tl with
  | note hs p ti be wd op cl =>
   cases cm with
   | true =>
    have f:=no rfl
    refine step _ rfl ?_ ⟨λz=>absurd f z,λ_ _=>hc rfl⟩
    rw[yb6 f]
    rfl
   | false =>
    have f:F ap=some (G j):=h1 ⟨ap,vo,hs⟩ j (by rw[ybo];exact List.mem_append_left _ (by unfold yhW;simp))
    refine step _ rfl ?_ ⟨λ_=>rfl,λ_ z=>by rw[f] at z;cases z⟩
    unfold ykH
    rw[f]
    rfl
  | pause p =>
   have f:=no rfl
   refine step _ rfl ?_ ⟨λz=>absurd f z,λz=>by cases z⟩
   rw[yb6 f]
   rfl
  | whole n =>
   have f:=no rfl
   refine step _ rfl ?_ ⟨λz=>absurd f z,λz=>by cases z⟩
   rw[yb6 f]
   rfl
theorem yfG (g:Nat→List Pit):∀ (ts:List Tl) (j:Nat) (s:MS),ts≠[]→∃ tl,ts.getLast?=some tl∧(ya5 g j s ts).cm=ydC tl
 | [],_,_,h=>absurd rfl h
 | [tl],j,s,_=>⟨tl,rfl,rfl⟩
 | tl :: u :: ts,j,s,_=>by
  obtain⟨z,e1,e2⟩:=yfG g (u :: ts) (j+1) ⟨ydC tl,ydE (g j) s tl⟩ (by simp)
  exact⟨z,by rw[List.getLast?_cons_cons];exact e1,by rw[ya5];exact e2⟩
theorem ygt (g:Nat→List Pit):∀ (ts:List Tl) (j:Nat) (s:MS),(s.cm=true→s.sns≠[])→((ya5 g j s ts).cm=true→(ya5 g j s ts).sns≠[])
 | [],_,_,h=>h
 | tl :: ts,j,s,h=>ygt g ts (j+1) ⟨ydC tl,ydE (g j) s tl⟩ λ_=>yg2 h
def yhv (n:Nat)(sns:List Sn):Prop:=sns.length≤2*n+(if yct sns=true then 1 else 0)
theorem ye2 {g:Int}{sns:List Sn}(h:sns≠[]):(yeu g sns).length=sns.length∧yct (yeu g sns)=yct sns:=by
 unfold yeu
 cases e:sns.getLast? with
 | none=>exact absurd (List.getLast?_eq_none_iff.mp e) h
 | some sn =>
  obtain⟨vs,rfl⟩:=List.getLast?_eq_some_iff.mp e
  refine⟨by simp,?_⟩
  unfold yct
  rw[e]
  simp only
  rw[List.getLast?_concat]
  cases sn<;>rfl
theorem yks {ps:List Pit}{s:MS}{tl:Tl}{n:Nat}(hc:s.cm=true→s.sns≠[])(h:yhv n s.sns):yhv (n+(if isN tl=true then 1 else 0)) (ydE ps s tl):=by
 have add:∀ g,s.sns≠[]→∀ m,n≤m→yhv m (yeu g s.sns):=λg ne m le=>by
  unfold yhv at h ⊢
  rw[(ye2 ne).1,(ye2 ne).2]
  omega
 have rst:∀ g,¬ yct s.sns=true→∀ m,n≤m→yhv m (s.sns++[.rest g]):=λg ne m le=>by
  unfold yhv at h ⊢
  rw[if_neg ne] at h
  rw[List.length_append,if_pos (by unfold yct;rw[List.getLast?_concat];rfl)]
  simp only[List.length_singleton]
  omega
 cases tl with
 | note hs p ti be wd op cl =>
  unfold ydE
  dsimp only
  by_cases z:s.cm=true
  ·rw[if_pos z];exact add _ (hc z) _ (by omega)
  ·rw[if_neg z]
   unfold yhv at h ⊢
   rw[List.length_append,if_pos (show isN (Tl.note hs p ti be wd op cl)=true from rfl)]
   have:(if yct s.sns=true then 1 else 0)≤1:=by split<;>decide
   simp only[List.length_singleton]
   omega
 | pause p =>
  unfold ydE
  dsimp only
  by_cases z:yct s.sns=true
  ·rw[if_pos z];exact add _ (yff z) _ (by omega)
  ·rw[if_neg z];exact rst _ z _ (by omega)
 | whole m =>
  unfold ydE
  dsimp only
  by_cases z:yct s.sns=true
  ·rw[if_pos z];exact add _ (yff z) _ (by omega)
  ·rw[if_neg z];exact rst _ z _ (by omega)
theorem ydr (g:Nat→List Pit):∀ (ts:List Tl) (j:Nat) (s:MS) (n:Nat),(s.cm=true→s.sns≠[])→yhv n s.sns→yhv (n+nts ts) (ya5 g j s ts).sns
 | [],_,_,n,_,h=>h
 | tl :: ts,j,s,n,hc,h=>by
  have:=ydr g ts (j+1) ⟨ydC tl,ydE (g j) s tl⟩ _ (λ_=>yg2 hc) (yks (ps:=g j) (tl:=tl) hc h)
  unfold nts at this ⊢
  rw[List.countP_cons]
  rw[show n+(List.countP isN ts+if isN tl=true then 1 else 0)=n+(if isN tl=true then 1 else 0)+List.countP isN ts by omega]
  exact this
theorem yjO {c:Nat→Nat→Bool}{n:Nat}(o:Strict c n){p q:Array Nat}(hp:ycs c n p)(hq:ycs c n q):p.toList=q.toList:=by
 refine List.Perm.eq_of_pairwise (le:=λi j=>c i j=true) (λa b ha hb h1 h2=>?_) (yiT o hp.shuf hp.up) (yiT o hq.shuf hq.up) (hp.shuf.perm.trans hq.shuf.perm.symm)
 have la:=List.mem_range.mp (hp.shuf.perm.mem_iff.mp ha)
 have lb:=List.mem_range.mp (hq.shuf.perm.mem_iff.mp hb)
 rw[o.asy la lb h1] at h2
 cases h2
theorem ykw {rows:List Row}(ap:Apart rows){p q:Array Nat}(hp:yjc rows p)(hq:yjc rows q):p.toList=q.toList:=yjO (ydt ap.inj) hp hq
noncomputable def ydu (rows:List Row):List Nat:=@dite _ (∃ p,yjc rows p) (Classical.propDecidable _) (λh=>h.choose.toList) (λ_=>[])
theorem yly {rows:List Row}(ap:Apart rows){p:Array Nat}(h:yjc rows p):p.toList=ydu rows:=by
 unfold ydu
 have hx:∃ p,yjc rows p:=⟨p,h⟩
 rw[dif_pos hx]
 exact ykw ap h hx.choose_spec
def ya9 (bs:List Bool)(vss:List (List Tl))(i:Nat):List (Rw×Nat):=(List.range i).flatMap λk=>ybo (k:Nat) (bs.getD k false) 0 0 (vss.getD k [])
theorem ygp (vo:Int):∀ (ts:List Tl) (cm:Bool) (ap:Int) (j:Nat) (rs:List Rw),(ts.foldl (yfu vo) ⟨ap,cm,rs⟩).rs=rs++(ybo vo cm ap j ts).map (·.1)
 | [],_,_,_,rs=>by rw[ybo];simp
 | tl :: ts,cm,ap,j,rs=>by
  have e:yfu vo ⟨ap,cm,rs⟩ tl=⟨ap+tg tl,ydC tl,rs++(yhW vo cm ap j tl).map (·.1)⟩:=by
   unfold yfu
   congr 2
   cases tl with
   | note hs p ti be wd op cl =>
    unfold ygY yhW
    dsimp only
    split<;>rfl
   | pause p=>rfl
   | whole n=>rfl
  rw[List.foldl_cons,e,ygp vo ts _ _ (j+1),ybo,List.map_append,List.append_assoc]
theorem ybh (bs:List Bool)(vss:List (List Tl))(i:Nat):yar bs vss i=(ya9 bs vss i).map (·.1):=by
 unfold yar ya9
 rw[List.map_flatMap]
 congr 1
 funext k
 unfold yi8
 rw[ygp _ _ _ _ 0,List.nil_append]
def Dif (q q':Rw×Nat):Prop:=q.1.vo < q'.1.vo∨(q.1.vo=q'.1.vo∧q.1.ap < q'.1.ap∧q.2 < q'.2)
theorem ygr (vo:Int):∀ (ts:List Tl) (cm:Bool) (ap:Int) (j:Nat),yaN ts→(ybo vo cm ap j ts).Pairwise Dif
 | [],_,_,_,_=>by rw[ybo];exact List.Pairwise.nil
 | tl :: ts,cm,ap,j,g=>by
  have gr:yaN ts:=λz hz=>g z (List.mem_cons_of_mem _ hz)
  have pos:=(yi2 (g tl List.mem_cons_self)).1
  rw[ybo,List.pairwise_append]
  refine⟨?_,ygr vo ts _ _ _ gr,λq hq q' hq'=>?_⟩
  ·cases tl with
   | note hs p ti be wd op cl =>
    unfold yhW
    dsimp only
    split
    ·exact List.Pairwise.nil
    ·exact List.pairwise_singleton _ _
   | pause p=>exact List.Pairwise.nil
   | whole n=>exact List.Pairwise.nil
  ·obtain⟨a1,a2,a3,_⟩:=yfy (r:=q.1) (i:=q.2) hq
   obtain⟨b1,b2,b3,_⟩:=ybl (r:=q'.1) (i:=q'.2) gr hq'
   exact .inr ⟨by omega,by omega,by omega⟩
theorem ybv {vss:List (List Tl)}(g:∀ ts∈vss,yaN ts)(k:Nat):yaN (vss.getD k []):=by
 rw[List.getD_eq_getElem?_getD]
 cases e:vss[k]? with
 | none=>exact λ_ h=>by cases h
 | some ts=>exact g ts (List.mem_of_getElem? e)
theorem ycY {bs:List Bool}{vss:List (List Tl)}(g:∀ ts∈vss,yaN ts)(n:Nat):(ya9 bs vss n).Pairwise Dif:=by
 unfold ya9
 rw[List.pairwise_flatMap]
 refine⟨λk _=>ygr _ _ _ _ _ (ybv g k),List.pairwise_lt_range.imp λ{a b} hab x hx y hy=>?_⟩
 have h1:=(ybl (r:=x.1) (i:=x.2) (ybv g a) hx).2.1
 have h2:=(ybl (r:=y.1) (i:=y.2) (ybv g b) hy).2.1
 exact .inl (by omega)
theorem ye5 {bs:List Bool}{vss:List (List Tl)}(g:∀ ts∈vss,yaN ts){n:Nat}{r:Rw}{j:Nat}(h:(r,j)∈ya9 bs vss n):∃ k,k < n∧r.vo=(k:Nat)∧(r,j)∈ybo (k:Nat) (bs.getD k false) 0 0 (vss.getD k []):=by
 unfold ya9 at h
 obtain⟨k,hk,h⟩:=List.mem_flatMap.mp h
 exact⟨k,List.mem_range.mp hk,(ybl (ybv g k) h).2.1,h⟩
theorem yhq {bs:List Bool}{vss:List (List Tl)}{n k:Nat}{r:Rw}{j:Nat}(hk:k < n)(h:(r,j)∈ybo (k:Nat) (bs.getD k false) 0 0 (vss.getD k [])):(r,j)∈ya9 bs vss n:=List.mem_flatMap.mpr ⟨k,List.mem_range.mpr hk,h⟩
theorem yhJ {l:List (Rw×Nat)}(h:l.Pairwise Dif){i j:Nat}(hi:i < l.length)(hj:j < l.length)(e:l[i].1.vo=l[j].1.vo∧(l[i].1.ap=l[j].1.ap∨l[i].2=l[j].2)):i=j:=by
 have w:=List.pairwise_iff_getElem.mp h
 rcases Nat.lt_trichotomy i j with a | a | a
 ·rcases w i j hi hj a with z | z<;>omega
 ·exact a
 ·rcases w j i hj hi a with z | z<;>omega
theorem yeh {bs:List Bool}{vss:List (List Tl)}(g:∀ ts∈vss,yaN ts)(n:Nat):Apart ((yar bs vss n).map ybd):=by
 unfold Apart
 rw[ybh,List.map_map,List.map_map,List.nodup_iff_pairwise_ne,List.pairwise_map]
 refine(ycY g n).imp λ{a b} d e=>?_
 have e:[a.1.ap,a.1.vo]=[b.1.ap,b.1.vo]:=e
 injection e with e1 e2
 injection e2 with e2 _
 rcases d with d | d<;>omega
theorem yd2 (vo:Int):∀ (ts:List Tl) (cm:Bool) (ap:Int) (j:Nat),(ybo vo cm ap j ts).length≤nts ts
 | [],_,_,_=>by rw[ybo];exact Nat.zero_le _
 | tl :: ts,cm,ap,j=>by
  have:=yd2 vo ts (ydC tl) (ap+tg tl) (j+1)
  unfold nts at this ⊢
  rw[ybo,List.length_append,List.countP_cons]
  have:(yhW vo cm ap j tl).length≤if isN tl=true then 1 else 0:=by
   cases tl with
   | note hs p ti be wd op cl =>
    unfold yhW
    dsimp only
    split
    ·exact Nat.zero_le _
    ·exact Nat.le_refl _
   | pause p=>exact Nat.le_refl _
   | whole n=>exact Nat.le_refl _
  omega
theorem ydH {bs:List Bool}{vss:List (List Tl)}(g:∀ ts∈vss,nts ts≤23):∀ n:Nat,(ya9 bs vss n).length≤23*n
 | 0=>Nat.le_refl _
 | n+1=>by
  have:=ydH (bs:=bs) g n
  unfold ya9 at this ⊢
  rw[List.range_succ,List.flatMap_append,List.length_append,List.flatMap_singleton]
  have h:=yd2 (n:Nat) (vss.getD n []) (bs.getD n false) 0 0
  have:nts (vss.getD n [])≤23:=by
   rw[List.getD_eq_getElem?_getD]
   cases e:vss[n]? with
   | none=>exact Nat.zero_le _
   | some ts=>exact g ts (List.mem_of_getElem? e)
  omega
theorem yj9 {bs:List Bool}{vss:List (List Tl)}(g:∀ ts∈vss,yaN ts)(n:Nat):∀ r∈yar bs vss n,yhB r:=by
 intro r hr
 rw[ybh] at hr
 obtain⟨⟨r',j⟩,hq,rfl⟩:=List.mem_map.mp hr
 obtain⟨k,_,_,h⟩:=ye5 g hq
 obtain⟨_,_,_,p,ti,be,wd,op,cl,e⟩:=ybl (ybv g k) h
 exact(ybv g k _ (List.mem_of_getElem? e)).1
noncomputable def ybr (key:Int)(bs:List Bool)(vss:List (List Tl)):List (List Pit):=ydd key ((yar bs vss vss.length).map ybd) ((yar bs vss vss.length).map ygP) (ydu ((yar bs vss vss.length).map ybd))
theorem yds (key:Int)(bs:List Bool)(vss:List (List Tl)):(ybr key bs vss).length=(ya9 bs vss vss.length).length:=by
 unfold ybr ydd
 rw[List.length_map,List.length_range,List.length_map,ybh,List.length_map]
noncomputable def yes (key:Int)(bs:List Bool)(vss:List (List Tl))(k j:Nat):List Pit:=(((ya9 bs vss vss.length).zip (ybr key bs vss)).find? λq:(Rw×Nat)×List Pit=>decide (q.1.1.vo=((k:Nat):Int))&&decide (q.1.2=j)).map (·.2) |>.getD []
theorem yiX {α:Type}{l:List α}{p:α→Bool}{i:Nat}(h:i < l.length)(hp:p l[i]=true)(u:∀ j (hj:j < l.length),p l[j]=true→j=i):l.find? p=some l[i]:=by
 rw[List.find?_eq_some_iff_getElem]
 refine⟨hp,i,h,rfl,λj hj=>?_⟩
 cases z:p (l[j]'(by omega)) with
 | false=>rfl
 | true=>have:=u j (by omega) z;omega
theorem yj1 {key:Int}{bs:List Bool}{vss:List (List Tl)}(g:∀ ts∈vss,yaN ts){i k j:Nat}{r:Rw}(e:(ya9 bs vss vss.length)[i]?=some (r,j))(hk:r.vo=(k:Nat)):∃ ps,(ybr key bs vss)[i]?=some ps∧yes key bs vss k j=ps:=by
 obtain⟨hi,e⟩:=List.getElem?_eq_some_iff.mp e
 have hl:i < (ybr key bs vss).length:=by rw[yds];exact hi
 have hz:i < ((ya9 bs vss vss.length).zip (ybr key bs vss)).length:=by rw[List.length_zip];omega
 refine⟨_,List.getElem?_eq_getElem hl,?_⟩
 unfold yes
 rw[yiX hz (by rw[List.getElem_zip,e];simp[hk]) λj' hj z=>?_]
 ·rw[List.getElem_zip];rfl
 ·rw[List.length_zip] at hj
  rw[List.getElem_zip,Bool.and_eq_true,decide_eq_true_eq,decide_eq_true_eq] at z
  refine yhJ (ycY g _) (by omega) hi ⟨by rw[e,z.1];exact hk.symm,.inr (by rw[e];exact z.2)⟩
theorem yhG {key:Int}{bs:List Bool}{vss:List (List Tl)}(g:∀ ts∈vss,yaN ts){k:Nat}(hk:k < vss.length){F:Int→Option (List Pit)}(hF:∀ a,F a=at2 ((yar bs vss vss.length).zip (ybr key bs vss)) a (k:Nat)) :
  (∀ r i,(r,i)∈ybo (k:Nat) (bs.getD k false) 0 0 (vss.getD k [])→F r.ap=some (yes key bs vss k i))∧(∀ a,0≤a→(∀ r i,(r,i)∈ybo (k:Nat) (bs.getD k false) 0 0 (vss.getD k [])→r.ap≠a)→F a=none):=by
 refine⟨λr j h=>?_,λa _ no=>?_⟩
 ·have hv:=(ybl (ybv g k) h).2.1
  obtain⟨i,hi,e⟩:=List.getElem_of_mem (yhq hk h)
  obtain⟨ps,e1,e2⟩:=yj1 (key:=key) g (List.getElem?_eq_some_iff.mpr ⟨hi,e⟩) hv
  obtain⟨hl,e1⟩:=List.getElem?_eq_some_iff.mp e1
  rw[hF,e2]
  unfold at2
  have hi2:i < (yar bs vss vss.length).length:=by rw[ybh,List.length_map];exact hi
  have er:∀ j (hj:j < (yar bs vss vss.length).length) (hj2:j < (ya9 bs vss vss.length).length),(yar bs vss vss.length)[j]=(ya9 bs vss vss.length)[j].1:=λj hj hj2=>by
   have:=ybh bs vss vss.length
   rw[List.getElem_of_eq this,List.getElem_map]
  have hz:i < ((yar bs vss vss.length).zip (ybr key bs vss)).length:=by rw[List.length_zip];omega
  rw[yiX hz (by rw[List.getElem_zip,er i hi2 hi,e];simp[hv]) λj' hj z=>?_]
  ·rw[List.getElem_zip,e1];rfl
  ·rw[List.length_zip] at hj
   have hj2:j' < (ya9 bs vss vss.length).length:=by have:=hj;rw[yds] at this;omega
   rw[List.getElem_zip,Bool.and_eq_true,decide_eq_true_eq,decide_eq_true_eq,er j' (by omega) hj2] at z
   exact yhJ (ycY g _) hj2 hi ⟨by rw[e,z.2];exact hv.symm,.inl (by rw[e];exact z.1)⟩
 ·rw[hF]
  unfold at2
  rw[Option.map_eq_none_iff,List.find?_eq_none]
  intro q hq z
  rw[Bool.and_eq_true,decide_eq_true_eq,decide_eq_true_eq] at z
  have hm:=(List.of_mem_zip (a:=q.1) (b:=q.2) hq).1
  rw[ybh] at hm
  obtain⟨⟨r,j⟩,hr,e⟩:=List.mem_map.mp hm
  obtain⟨k',_,hv,h⟩:=ye5 g hr
  have e:r=q.1:=e
  have:k'=k:=by rw[e,z.2] at hv;omega
  subst this
  exact no r j h (by rw[e];exact z.1)
def ms0:MS:=⟨false,[]⟩
noncomputable def ycu (b:Int×List (List Tl))(S:List MS):List MS:=(List.range b.2.length).map λk=>ya5 (yes b.1 (S.map (·.cm)) b.2 k) 0 (S.getD k ms0) (b.2.getD k [])
noncomputable def ydp (bars:List (Int×List (List Tl)))(n:Nat):List MS:=bars.foldl (λS b=>ycu b S) (List.replicate n ms0)
def ycX (n:Nat)(b:Int×List (List Tl)):Prop:=b.2.length=n∧∀ ts∈b.2,ymu ts
def ynh (m:Nat)(s:MS):Prop:=(s.cm=true→s.sns≠[])∧yhv m s.sns
def ycf (bars:List (Int×List (List Tl)))(k:Nat):Nat:=(bars.map λb=>nts (b.2.getD k [])).sum
theorem ydg (b:Int×List (List Tl))(S:List MS):(ycu b S).length=b.2.length:=by unfold ycu;rw[List.length_map,List.length_range]
theorem yfi {b:Int×List (List Tl)}{S:List MS}{k:Nat}(h:k < b.2.length):(ycu b S)[k]?=some (ya5 (yes b.1 (S.map (·.cm)) b.2 k) 0 (S.getD k ms0) (b.2.getD k [])):=by
 unfold ycu
 rw[List.getElem?_map,List.getElem?_range h]
 rfl
theorem yd3 (bars:List (Int×List (List Tl)))(b:Int×List (List Tl))(n:Nat):ydp (bars++[b]) n=ycu b (ydp bars n):=by
 unfold ydp
 rw[List.foldl_append]
 rfl
def StOk (bars:List (Int×List (List Tl)))(n:Nat)(S:List MS):Prop:=S.length=n∧∀ k s,S[k]?=some s→ynh (ycf bars k) s
theorem ykX (n:Nat):StOk [] n (List.replicate n ms0):=by
 refine⟨List.length_replicate,λk s e=>?_⟩
 have:=List.eq_of_mem_replicate (List.mem_of_getElem? e)
 rw[this]
 exact⟨(λz=>by cases z),Nat.zero_le _⟩
theorem StOk.snoc {bars:List (Int×List (List Tl))}{b:Int×List (List Tl)}{n:Nat}{S:List MS}(h:StOk bars n S)(hb:b.2.length=n):StOk (bars++[b]) n (ycu b S):=by
 refine⟨by rw[ydg,hb],λk s e=>?_⟩
 have hk:k < b.2.length:=by have:=(List.getElem?_eq_some_iff.mp e).1;rw[ydg] at this;exact this
 rw[yfi hk] at e
 cases e
 have hk2:k < S.length:=by rw[h.1];omega
 have hs:=h.2 k _ (List.getElem?_eq_getElem hk2)
 have e1:S.getD k ms0=S[k]:=by rw[List.getD_eq_getElem?_getD,List.getElem?_eq_getElem hk2];rfl
 have e2:ycf (bars++[b]) k=ycf bars k+nts (b.2.getD k []):=by unfold ycf;rw[List.map_append,List.sum_append];simp
 rw[e1,e2]
 exact⟨ygt _ _ _ _ hs.1,ydr _ _ _ _ _ hs.1 hs.2⟩
theorem ycp {n:Nat}{bars:List (Int×List (List Tl))}(g:∀ b∈bars,b.2.length=n):∀ i,i≤bars.length→StOk (bars.take i) n (ydp (bars.take i) n)
 | 0,_=>by rw[List.take_zero];exact ykX n
 | i+1,h=>by
  rw[List.take_succ_eq_append_getElem h,yd3]
  exact(ycp g i (by omega)).snoc (g _ (List.getElem_mem h))
theorem ydk {bars:List (Int×List (List Tl))}{k:Nat}(i:Nat):ycf (bars.take i) k≤ycf bars k:=by
 unfold ycf
 conv=>rhs;rw[← List.take_append_drop i bars,List.map_append,List.sum_append]
 exact Nat.le_add_right _ _
theorem ykr {bars:List (Int×List (List Tl))}{k i:Nat}(h:i < bars.length):nts (bars[i].2.getD k [])≤ycf bars k:=by
 have:=ydk (bars:=bars) (k:=k) (i+1)
 unfold ycf at this ⊢
 rw[List.take_succ_eq_append_getElem h,List.map_append,List.sum_append] at this
 simp at this
 simp
 omega
theorem ydG {m:Nat}{sns:List Sn}(h:yhv m sns):sns.length≤2*m+1:=by
 unfold yhv at h
 have:(if yct sns=true then 1 else 0)≤1:=by split<;>decide
 omega
def noI (H:Hp):Hp:=λb=>match H b with
 | some (.ins _ _ _)=>none
 | o=>o
theorem yhI {H:Hp}{b:Addr}{u:HO}(h:noI H b=some u):H b=some u∧∀ C dx fs,u≠.ins C dx fs:=by
 unfold noI at h
 cases e:H b with
 | none=>rw[e] at h;cases h
 | some v =>
  rw[e] at h
  cases v<;>first | (cases h;exact⟨rfl,λ_ _ _ z=>by cases z⟩) | cases h
theorem yjA {H:Hp}{b:Addr}{u:HO}(h:H b=some u)(n:∀ C dx fs,u≠.ins C dx fs):noI H b=some u:=by
 unfold noI
 rw[h]
 cases u<;>first | rfl | exact absurd rfl (n _ _ _)
mutual
theorem Is.noI {H:Hp}:∀ {v:V} {t:Th},Is H v t→Is (KG.noI H) v t
 | v,.im w,h=>by rw[Is] at h ⊢;exact h
 | v,.ls ts,h=>by
  rw[Is] at h ⊢
  obtain⟨a,xs,e,q,r⟩:=h
  exact⟨a,xs,e,yjA q (λ_ _ _ z=>by cases z),Iss.noI r⟩
 | v,.tp ts,h=>by
  rw[Is] at h ⊢
  obtain⟨a,xs,e,q,r⟩:=h
  exact⟨a,xs,e,yjA q (λ_ _ _ z=>by cases z),Iss.noI r⟩
 | v,.dk,h=>by
  rw[Is] at h ⊢
  obtain⟨a,xs,e,q⟩:=h
  exact⟨a,xs,e,yjA q (λ_ _ _ z=>by cases z)⟩
theorem Iss.noI {H:Hp}:∀ {xs:List V} {ts:List Th},Iss H xs ts→Iss (KG.noI H) xs ts
 | xs,[],h=>by rw[Iss] at h ⊢;exact h
 | xs,t :: ts,h=>by
  rw[Iss] at h ⊢
  obtain⟨x,r,e,q,z⟩:=h
  exact⟨x,r,e,Is.noI q,Iss.noI z⟩
end
theorem So.keep {H H':Hp}{x:V}{sn:Sn}(h:So t H x sn)(s:∀ b u,H b=some u→(x=.ref b∨∀ C dx fs,u≠.ins C dx fs)→H' b=some u):So t H' x sn:=by
 cases sn with
 | rest m =>
  obtain⟨a,d,rfl,ea⟩:=h
  exact⟨a,d,rfl,s _ _ ea (.inl rfl)⟩
 | tones ps m wd op cl =>
  obtain⟨a,d,l,rfl,ea,i⟩:=h
  exact⟨a,d,l,rfl,s _ _ ea (.inl rfl),i.noI.same λb u e=>s b u (yhI e).1 (.inr (yhI e).2)⟩
theorem So.ins {H:Hp}{x:V}{sn:Sn}(h:So t H x sn):∃ a C dx fs,x=.ref a∧H a=some (.ins C dx fs):=by
 cases sn with
 | rest m =>
  obtain⟨a,d,e,ea⟩:=h
  exact⟨a,_,d,_,e,ea⟩
 | tones ps m wd op cl =>
  obtain⟨a,d,l,e,ea,i⟩:=h
  exact⟨a,_,d,_,e,ea⟩
noncomputable def ygA (D:Addr→Prop)(H:Hp):Hp:=λb=>@ite _ (D b) (Classical.propDecidable _) none (H b)
theorem ycS {D:Addr→Prop}{H:Hp}{b:Addr}(n:¬ D b):ygA D H b=H b:=by unfold ygA;rw[if_neg n]
theorem ydZ {D:Addr→Prop}{H:Hp}{b:Addr}(n:D b):ygA D H b=none:=by unfold ygA;rw[if_pos n]
theorem yga {D:Addr→Prop}{H:Hp}{b:Addr}{u:HO}(h:ygA D H b=some u):¬ D b∧H b=some u:=by
 by_cases z:D b
 ·rw[ydZ z] at h;cases h
 ·rw[ycS z] at h;exact⟨z,h⟩
theorem ycD (D:Addr→Prop)(H:Hp):Same (ygA D H) H:=λb u h=>(yga h).2
structure Vp (t:Ad) (L:List Addr) (H:Hp) (sl:Addr) (xs:List V) (sns:List Sn):Prop where
 at_:H sl=some (.lst xs)
 nd:xs.Nodup
 al:Al (So t (cut L H)) xs sns
theorem Vp.ins {L:List Addr}{H:Hp}{sl:Addr}{xs:List V}{sns:List Sn}(h:Vp t L H sl xs sns){x:V}(hx:x∈xs):∃ a C dx fs,x=.ref a∧H a=some (.ins C dx fs)∧a∉L:=by
 obtain⟨i,hi,e⟩:=List.getElem_of_mem hx
 obtain⟨y,e1,s⟩:=h.al.2 i (by rw[← h.al.1];exact hi)
 rw[List.getElem?_eq_getElem hi,e] at e1
 cases e1
 obtain⟨a,C,dx,fs,e2,e3⟩:=s.ins
 obtain⟨n,e3⟩:=ybg e3
 exact⟨a,C,dx,fs,e2,e3,n⟩
structure HK (t:Ad) (L:List Addr) (xf:Nat→List V) (sf:Nat→List Sn) (H0 H:Hp):Prop where
 nl:∀ b∈L,H0 b=none
 vp:∀ k l,L[k]?=some l→Vp t L H l (xf k) (sf k)
 dj:∀ k k',k < L.length→k' < L.length→k≠k'→∀ y∈xf k,y∉xf k'
 nx:∀ k,k < L.length→∀ x∈xf k,∃ a,x=.ref a∧H0 a=none
 nd:L.Nodup
def upF {α:Type}(f:Nat→α)(k:Nat)(x:α):Nat→α:=λj=>if j=k then x else f j
theorem ybs {α:Type}{f:Nat→α}{k:Nat}{x:α}:upF f k x k=x:=by unfold upF;rw[if_pos rfl]
theorem ybC {α:Type}{f:Nat→α}{k j:Nat}{x:α}(h:j≠k):upF f k x j=f j:=by unfold upF;rw[if_neg h]
theorem HK.ins {L:List Addr}{xf:Nat→List V}{sf:Nat→List Sn}{H0 H:Hp}(h:HK t L xf sf H0 H){k:Nat}(hk:k < L.length){x:V}(hx:x∈xf k):∃ a C dx fs,x=.ref a∧H a=some (.ins C dx fs)∧a∉L:=(h.vp k _ (List.getElem?_eq_getElem hk)).ins hx
theorem HK.keep {L:List Addr}{xf:Nat→List V}{sf:Nat→List Sn}{H0 H H2:Hp}(h:HK t L xf sf H0 H)(s:∀ b u,H b=some u→(∀ ps,u≠.tbl ps)→H2 b=some u):HK t L xf sf H0 H2:=by
 refine⟨h.nl,λk l e=>?_,h.dj,h.nx,h.nd⟩
 have v:=h.vp k l e
 refine⟨s _ _ v.at_ (λ_ z=>by cases z),v.nd,v.al.imp λx sn _ z=>?_⟩
 cases sn with
 | rest m =>
  obtain⟨a,d,rfl,ea⟩:=z
  obtain⟨n,ea⟩:=ybg ea
  exact⟨a,d,rfl,by rw[ybx n];exact s _ _ ea (λ_ z=>by cases z)⟩
 | tones ps m wd op cl =>
  obtain⟨a,d,l,rfl,ea,i⟩:=z
  obtain⟨n,ea⟩:=ybg ea
  refine⟨a,d,l,rfl,by rw[ybx n];exact s _ _ ea (λ_ z=>by cases z),?_⟩
  obtain⟨l2,zs,e1,e2,e3⟩:∃ l2 zs,V.ref l=.ref l2∧cut L H l2=some (.lst zs)∧Iss (cut L H) zs (ps.map pT):=by rw[lT,Is] at i;exact i
  cases e1
  obtain⟨n2,e2⟩:=ybg e2
  refine ybB (by rw[ybx n2];exact s _ _ e2 (λ_ z=>by cases z)) (ydf ((ydW e3).imp λy p _ iy=>?_))
  obtain⟨a,rfl,ea⟩:=iy.pit
  obtain⟨n3,ea⟩:=ybg ea
  exact yeC (by rw[ybx n3];exact s _ _ ea (λ_ z=>by cases z))
theorem HK.one {L:List Addr}{xf:Nat→List V}{sf:Nat→List Sn}{H0 H H2 Hs:Hp}{k:Nat}{l:Addr}{xs':List V}{sns':List Sn}(h:HK t L xf sf H0 H)(hk:L[k]?=some l)(fr:∀ b u,H b=some u→b≠l→V.ref b∉xf k→H2 b=some u)(vc:Vc t L Hs H2 l xs' sns')(nw:∀ y∈xs',y∈xf k∨∃ a,y=.ref a∧H a=none)(nH:∀ a,H a=none→H0 a=none):HK t L (upF xf k xs') (upF sf k sns') H0 H2:=by
 have hkl:k < L.length:=(List.getElem?_eq_some_iff.mp hk).1
 have hl:l∈L:=List.mem_of_getElem? hk
 have notin:∀ b u,H b=some u→(∀ C dx fs,u≠.ins C dx fs)→V.ref b∉xf k:=λb u e n z=>by
  obtain⟨a,C,dx,fs,e1,e2,_⟩:=h.ins hkl z
  cases e1
  rw[e2] at e
  exact n C dx fs (Option.some.inj e).symm
 have dj:∀ k',k' < L.length→k'≠k→∀ y∈xf k',y∉xs':=λk' h' n y hy z=>by
  rcases nw y z with z | ⟨a,rfl,z2⟩
  ·exact h.dj k' k h' hkl n y hy z
  ·obtain⟨a',C,dx,fs,e1,e2,_⟩:=h.ins h' hy
   cases e1
   rw[z2] at e2
   cases e2
 refine⟨h.nl,λk' l' e=>?_,λk1 k2 h1 h2 n y hy=>?_,λk1 h1 x hx=>?_,h.nd⟩
 ·by_cases z:k'=k
  ·subst z
   rw[hk] at e
   cases e
   rw[ybs,ybs]
   exact⟨vc.at_,vc.nd,vc.al⟩
  ·rw[ybC z,ybC z]
   have v:=h.vp k' l' e
   have nl:l'≠l:=λc=>by
    obtain⟨g1,e1⟩:=List.getElem?_eq_some_iff.mp e
    obtain⟨g2,e2⟩:=List.getElem?_eq_some_iff.mp hk
    exact z ((List.getElem_inj (h₀:=g1) (h₁:=g2) h.nd).mp (by rw[e1,e2,c]))
   have hk'l:k' < L.length:=(List.getElem?_eq_some_iff.mp e).1
   refine⟨fr _ _ v.at_ nl (notin _ _ v.at_ λ_ _ _ z=>by cases z),v.nd,⟨v.al.1,λi hi=>?_⟩⟩
   obtain⟨x,ex,so⟩:=v.al.2 i hi
   refine⟨x,ex,so.keep λb u e c=>?_⟩
   obtain⟨nb,e⟩:=ybg e
   rw[ybx nb]
   refine fr b u e (λw=>nb (by rw[w];exact hl)) ?_
   rcases c with c | c
   ·exact c▸h.dj k' k hk'l hkl z x (List.mem_of_getElem? ex)
   ·exact notin b u e c
 ·by_cases z1:k1=k
  ·subst z1
   rw[ybs] at hy
   rw[ybC (Ne.symm n)]
   exact λz=>dj k2 h2 (Ne.symm n) y z hy
  ·rw[ybC z1] at hy
   by_cases z2:k2=k
   ·subst z2
    rw[ybs]
    exact dj k1 h1 z1 y hy
   ·rw[ybC z2]
    exact h.dj k1 k2 h1 h2 n y hy
 ·by_cases z1:k1=k
  ·subst z1
   rw[ybs] at hx
   rcases nw x hx with z | ⟨a,rfl,z⟩
   ·exact h.nx k1 h1 x z
   ·exact⟨a,rfl,nH a z⟩
  ·rw[ybC z1] at hx
   exact h.nx k1 h1 x hx
theorem yja {R:V→List Pit→Prop}{ap vo:Int}:∀ {rs:List Rw} {ys:List V} {ls:List (List Pit)},ys.length=rs.length→ls.length=rs.length→Al R ys ls→match at2 (rs.zip ls) ap vo with
  | none=>at2 (rs.zip ys) ap vo=none
  | some ps=>∃ v,at2 (rs.zip ys) ap vo=some v∧R v ps
 | [],_,_,_,_,_=>rfl
 | r :: rs,y :: ys,p :: ls,h1,h2,al=>by
  have r0:R y p:=by obtain⟨x,e,z⟩:=al.2 0 (by simp);cases e;exact z
  have ih:=yja (R:=R) (ap:=ap) (vo:=vo) (rs:=rs) (ys:=ys) (ls:=ls) (by simpa using h1) (by simpa using h2) ⟨by simpa using al.1,λi hi=>by obtain⟨x,e,z⟩:=al.2 (i+1) (by simpa using hi);exact⟨x,by simpa using e,by simpa using z⟩⟩
  unfold at2 at ih ⊢
  rw[List.zip_cons_cons,List.zip_cons_cons,List.find?_cons,List.find?_cons]
  dsimp only
  cases decide (r.ap=ap)&&decide (r.vo=vo) with
  | true=>exact⟨y,rfl,r0⟩
  | false=>exact ih
 | _ :: _,[],_,h,_,_=>nomatch h
 | _ :: _,_ :: _,[],_,h,_=>nomatch h
structure HG where
 bl:Addr
 bvs:List V
 bars:List (Int×List (List Tl))
 n:Nat
 Hs:Hp
 H:Hp
structure HC (t:Ad) (Tb:Addr) (g:HG):Prop where
 sm:Same g.Hs g.H
 nT:g.Hs Tb=none
 tk:TK g.H Tb
 eb:g.Hs g.bl=some (.lst g.bvs)
 al:Al (BarIs t g.Hs) g.bvs g.bars
 ne:g.bars≠[]
 n1:1≤g.n
 n2:g.n≤2
 gb:∀ b∈g.bars,ycX g.n b
 nc:∀ k,ycf g.bars k≤23
 lb:g.bars.length≤200
theorem HC.first {Tb:Addr}{g:HG}(h:HC t Tb g):∃ x b a dx mv l ys,g.bvs[0]?=some x∧g.bars[0]?=some b∧x=.ref a∧g.Hs a=some (.ins t.QR dx (bFs b.1 mv l))∧g.Hs l=some (.lst ys)∧ys.length=g.n:=by
 have h0:0 < g.bars.length:=List.length_pos_iff.mpr h.ne
 obtain⟨x,e,bi⟩:=h.al.2 0 h0
 obtain⟨a,dx,mv,l,e1,ea,l2,ys,e2,el,al⟩:=bi
 cases e2
 refine⟨x,g.bars[0],a,dx,mv,l,ys,e,List.getElem?_eq_getElem h0,e1,ea,el,?_⟩
 rw[al.1]
 exact(h.gb _ (List.getElem_mem h0)).1
theorem yq5 {cdv:Value}{A:Around}{outer:List Env}{s0:Shared}{H0:Hp}{E:XK}{Tb:Addr}(T:Txt K mg t)(hr:Room 8 (A.deeper (PyProof.Rows.envOfC "hear" (yac (top 29)) s0.heap.objs.size t.f_zW cdv))) :
  ∃ te,PS (ybz CX0 P w K mg base ["bars","voices","ties","bar","begun","voice","signs"] "hear" (yac (top 29)) t.f_zW cdv A outer s0 H0 E).nox (yaV 29 0) te∧∀ D (g:HG) o1 o2 o3 o4 o5 o6,HC t Tb g→(∀ (vl:Addr) (L:List Addr) (H':Hp),Same g.H H'→H' vl=some (.lst (L.map V.ref))→L.length=g.n→L.Nodup→vl∉L→(∀ l∈L,g.H l=none∧H' l=some (.lst []))→D.nx [some (.ref g.bl),some (.ref vl),o2,o3,o4,o5,o6] H')→te D [some (.ref g.bl),o1,o2,o3,o4,o5,o6] g.H:=by
 have hu:=ya2 hr
 refine⟨_,(yba (i:=1) sc_zW.nd rfl (Or.inl rfl) (yaQ (NB:=["signs"]) (cap:=[none]) rfl) rfl (yaX (ya3 (yav yaz (pv 0) yag (λ_ _=>rfl)) rfl)) (λ_ _ _ _=>(yan (i:=0) (show List.Nodup (["signs"]:List Str) by decide) rfl (Or.inl rfl))) (λ_ _ _ _=>yaT) (λ_ _ _ _=>(yaZ yaf))),λD g o1 o2 o3 o4 o5 o6 c q=>?_⟩
 obtain⟨x,b,a,dx,mv,l,ys,ex,eb,rfl,ea,el,ly⟩:=c.first
 walk_at "st"
 refine ybc (SqL.of (c.sm _ _ c.eb)) (yak (j:=0) ex) ?_
 refine⟨a,_,dx,_,_,rfl,c.sm _ _ ea,T.JB,T.Je,rfl,l,rfl,⟨_,SqL.of (c.sm _ _ el)⟩,λV0 hV=>ybb (xs:=ys) (λi σ' H'=>(∃ o,σ'=[o])∧Same g.H H'∧∃ L:List Addr,H' V0=some (.lst (L.map V.ref))∧L.length=i∧L.Nodup∧V0∉L∧∀ l∈L,g.H l=none∧H' l=some (.lst [])) ⟨⟨_,rfl⟩,yae hV _,[],yab,rfl,List.nodup_nil,(λz=>by cases z),λ_ z=>by cases z⟩ (λ_ _ _ _ h=>SqL.of (h.2.1 _ _ (c.sm _ _ el))) ?_ ?_⟩
 ·rintro i x σ' H' N hN hx ⟨⟨o,rfl⟩,sm,L,hd,ln,nd,nv,hl⟩
  have hi:i < ys.length:=(List.getElem?_eq_some_iff.mp hx).1
  have:=c.n2
  refine ybN (ycQ (i_T ?_))
  walk_at "st"
  refine⟨Nat.zero_le _,λp hp=>?_⟩
  have s2:=yae hp (.lst [])
  have np:p∉L:=λz=>by rw[(hl p z).2] at hp;cases hp
  have npv:p≠V0:=(yad hd hp).symm
  refine⟨_,s2 _ _ hd,yam (by rw[List.length_map];omega),hN _ _ ⟨⟨_,rfl⟩,yaJ hV (sm.trans s2),L++[p],by rw[List.map_append];exact yab,by rw[List.length_append,ln];rfl,?_,?_,λl' h'=>?_⟩⟩
  ·exact List.nodup_append.mpr ⟨nd,by simp,λa ha b hb e=>np (by rw[← List.mem_singleton.mp hb,← e];exact ha)⟩
  ·intro z
   rcases List.mem_append.mp z with z | z
   ·exact nv z
   ·exact npv (List.mem_singleton.mp z).symm
  ·rcases List.mem_append.mp h' with h' | h'
   ·refine⟨(hl l' h').1,?_⟩
    rw[yai (λz=>nv (by rw[← z];exact h'))]
    exact s2 _ _ (hl l' h').2
   ·rw[List.mem_singleton.mp h']
    refine⟨sm.free hp,?_⟩
    rw[yai npv]
    exact yab
 ·rintro σ' H' ⟨_,sm,L,hd,ln,nd,nv,hl⟩
  exact q V0 L H' sm hd (by rw[ln,ly]) nd nv hl
theorem yrr {cdv:Value}{A:Around}{outer:List Env}{s0:Shared}{H0:Hp}{E:XK}{Tb:Addr}(T:Txt K mg t)(hr:Room 8 (A.deeper (PyProof.Rows.envOfC "hear" (yac (top 29)) s0.heap.objs.size t.f_zW cdv))) :
  ∃ te,PS (ybz CX0 P w K mg base ["bars","voices","ties","bar","begun","voice","signs"] "hear" (yac (top 29)) t.f_zW cdv A outer s0 H0 E).nox (yaV 29 1) te∧∀ D (g:HG) o1 o2 o3 o4 o5 o6 H1,HC t Tb g→Same g.H H1→(∀ tl H',Same H1 H'→H1 tl=none→H' tl=some (.lst (List.replicate g.n (.bl false)))→D.nx [some (.ref g.bl),o1,some (.ref tl),o3,o4,o5,o6] H')→te D [some (.ref g.bl),o1,o2,o3,o4,o5,o6] H1:=by
 have hu:=ya2 hr
 refine⟨_,(yba (i:=2) sc_zW.nd rfl (Or.inl rfl) (yaQ (NB:=["signs"]) (cap:=[none]) rfl) rfl (yaX (ya3 (yav yaz (pv 0) yag (λ_ _=>rfl)) rfl)) (λ_ _ _ _=>(yan (i:=0) (show List.Nodup (["signs"]:List Str) by decide) rfl (Or.inl rfl))) (λ_ _ _ _=>yaT) (λ_ _ _ _=>yco)),λD g o1 o2 o3 o4 o5 o6 H1 c s1 q=>?_⟩
 obtain⟨x,b,a,dx,mv,l,ys,ex,eb,rfl,ea,el,ly⟩:=c.first
 walk_at "st"
 have sH:=c.sm.trans s1
 refine ybc (SqL.of (sH _ _ c.eb)) (yak (j:=0) ex) ?_
 refine⟨a,_,dx,_,_,rfl,sH _ _ ea,T.JB,T.Je,rfl,l,rfl,⟨_,SqL.of (sH _ _ el)⟩,λV0 hV=>ybb (xs:=ys) (λi σ' H'=>(∃ o,σ'=[o])∧Same H1 H'∧H' V0=some (.lst (List.replicate i (.bl false)))) ⟨⟨_,rfl⟩,yae hV _,yab⟩ (λ_ _ _ _ h=>SqL.of (h.2.1 _ _ (sH _ _ el))) ?_ ?_⟩
 ·rintro i x σ' H' N hN hx ⟨⟨o,rfl⟩,sm,hd⟩
  have hi:i < ys.length:=(List.getElem?_eq_some_iff.mp hx).1
  have:=c.n2
  refine ybN (ycQ (i_T ?_))
  walk_at "st"
  refine⟨_,hd,yam (by rw[List.length_replicate];omega),hN _ _ ⟨⟨_,rfl⟩,yaJ hV sm,?_⟩⟩
  rw[yab,List.replicate_succ']
 ·rintro σ' H' ⟨_,sm,hd⟩
  exact q V0 H' sm hV (by rw[hd,ly])
theorem _root_.L2.TabK.keep {H H':Hp}{T:Addr}{p:Pos}{q:Str}(x:TabK H T p q)(e:∀ b u,H b=some u→(∀ xs,u≠.lst xs)→(∀ C dx fs,u≠.ins C dx fs)→H' b=some u):TabK H' T p q:=by
 obtain⟨ps,h,ht,z⟩:=x
 refine⟨ps,e _ _ h (λ_ z=>by cases z) (λ_ _ _ z=>by cases z),ht,?_⟩
 rcases z with z | ⟨c',n,z1,o,vs,t,h2,r⟩
 ·exact .inl z
 ·exact .inr ⟨c',n,z1,o,vs,t,e _ _ h2 (λ_ z=>by cases z) (λ_ _ _ z=>by cases z),r⟩
def offD (L:List Addr)(xf:Nat→List V)(Tb:Addr)(b:Addr):Prop:=b∈L∨(∃ k,k < L.length∧V.ref b∈xf k)∨b=Tb
structure HB (t:Ad) (Tb:Addr) (g:HG) (vl:Addr) (L:List Addr) (xf:Nat→List V) (sf:Nat→List Sn) (H':Hp):Prop where
 c:HC t Tb g
 sm:SameT Tb g.H H'
 tk:TK H' Tb
 hv:H' vl=some (.lst (L.map V.ref))
 lL:L.length=g.n
 vL:vl∉L
 hk:HK t L xf sf g.H H'
theorem HB.free {Tb:Addr}{g:HG}{vl:Addr}{L:List Addr}{xf:Nat→List V}{sf:Nat→List Sn}{H':Hp}(h:HB t Tb g vl L xf sf H'){a:Addr}(e:H' a=none):g.H a=none:=by
 cases z:g.H a with
 | none=>rfl
 | some u =>
  have n:a≠Tb:=λc=>by obtain⟨ps,e2,_⟩:=h.tk;rw[c,e2] at e;cases e
  rw[h.sm a u n z] at e
  cases e
theorem HB.tup {Tb:Addr}{g:HG}{vl:Addr}{L:List Addr}{xf:Nat→List V}{sf:Nat→List Sn}{H':Hp}(h:HB t Tb g vl L xf sf H'){b:Addr}{u:HO}(e:H' b=some u)(n1:∀ xs,u≠.lst xs)(n2:∀ C dx fs,u≠.ins C dx fs)(n3:∀ ps,u≠.tbl ps):¬ offD L xf Tb b:=by
 rintro(z | ⟨k,hk,z⟩ | z)
 ·obtain⟨i,hi,e2⟩:=List.getElem_of_mem z
  have:=(h.hk.vp i _ (List.getElem?_eq_getElem hi)).at_
  rw[e2,e] at this
  exact n1 _ (Option.some.inj this)
 ·obtain⟨a,C,dx,fs,e1,e2,_⟩:=h.hk.ins hk z
  cases e1
  rw[e2] at e
  exact n2 _ _ _ (Option.some.inj e).symm
 ·obtain⟨ps,e2,_⟩:=h.tk
  rw[z,e2] at e
  exact n3 _ (Option.some.inj e).symm
theorem HB.lst {Tb:Addr}{g:HG}{vl:Addr}{L:List Addr}{xf:Nat→List V}{sf:Nat→List Sn}{H':Hp}(h:HB t Tb g vl L xf sf H'){b:Addr}{xs:List V}(e:H' b=some (.lst xs))(n1:b∉L):¬ offD L xf Tb b:=by
 rintro(z | ⟨k,hk,z⟩ | z)
 ·exact n1 z
 ·obtain⟨a,C,dx,fs,e1,e2,_⟩:=h.hk.ins hk z
  cases e1
  rw[e2] at e
  cases e
 ·obtain⟨ps,e2,_⟩:=h.tk
  rw[z,e2] at e
  cases e
theorem HB.new {Tb:Addr}{g:HG}{vl:Addr}{L:List Addr}{xf:Nat→List V}{sf:Nat→List Sn}{H':Hp}(h:HB t Tb g vl L xf sf H'){b:Addr}(e:H' b=none):¬ offD L xf Tb b:=by
 rintro(z | ⟨k,hk,z⟩ | z)
 ·obtain⟨i,hi,e2⟩:=List.getElem_of_mem z
  have:=(h.hk.vp i _ (List.getElem?_eq_getElem hi)).at_
  rw[e2,e] at this
  cases this
 ·obtain⟨a,C,dx,fs,e1,e2,_⟩:=h.hk.ins hk z
  cases e1
  rw[e2] at e
  cases e
 ·obtain⟨ps,e2,_⟩:=h.tk
  rw[z,e2] at e
  cases e
theorem HB.old {Tb:Addr}{g:HG}{vl:Addr}{L:List Addr}{xf:Nat→List V}{sf:Nat→List Sn}{H':Hp}(h:HB t Tb g vl L xf sf H'):Same g.Hs (ygA (offD L xf Tb) H'):=λb u e=>by
 have n:¬ offD L xf Tb b:=by
  rintro(z | ⟨k,hk,z⟩ | z)
  ·have:=h.hk.nl b z
   rw[h.c.sm _ _ e] at this
   cases this
  ·obtain⟨a,e1,e2⟩:=h.hk.nx k hk _ z
   cases e1
   rw[h.c.sm _ _ e] at e2
   cases e2
  ·rw[z,h.c.nT] at e;cases e
 rw[ycS n]
 exact h.sm b u (λz=>n (.inr (.inr z))) (h.c.sm _ _ e)
theorem HB.keep {Tb:Addr}{g:HG}{vl:Addr}{L:List Addr}{xf:Nat→List V}{sf:Nat→List Sn}{H' H2:Hp}(h:HB t Tb g vl L xf sf H')(s:SameT Tb H' H2)(tk:TK H2 Tb):HB t Tb g vl L xf sf H2:=by
 have nT:∀ b u,H' b=some u→(∀ ps,u≠.tbl ps)→b≠Tb:=λb u e n z=>by
  obtain⟨ps,e2,_⟩:=h.tk
  rw[z,e2] at e
  exact n _ (Option.some.inj e).symm
 exact⟨h.c,SameT.trans h.sm s,tk,s _ _ (nT _ _ h.hv λ_ z=>by cases z) h.hv,h.lL,h.vL,h.hk.keep λb u e n=>s b u (nT b u e n) e⟩
def ydi (S:List MS):Nat→List Sn:=λk=>(S.getD k ms0).sns
structure Bgs (t:Ad) (Tb:Addr) (L:List Addr) (xf:Nat→List V) (b:Int×List (List Tl)) (S:List MS) (bg:Addr) (H':Hp):Prop where
 bgn:∀ k:Nat,Bgn (ygA (offD L xf Tb) H') bg (k:Nat) (λa=>at2 ((yar (S.map (·.cm)) b.2 b.2.length).zip (ybr b.1 (S.map (·.cm)) b.2)) a (k:Nat))
theorem yoo {cdv:Value}{A:Around}{outer:List Env}{s0:Shared}{H0:Hp}{E:XK}{Tb:Addr}(T:Txt K mg t)(G_zg:FnOk P w K mg base CX0 6 t.f_zg t.d_zg ["bar","ties"] (yn6 t Tb))(hr:Room 8 (A.deeper (PyProof.Rows.envOfC "hear" (yac (top 29)) s0.heap.objs.size t.f_zW cdv))) :
  ∃ te,PS (ybz CX0 P w K mg base ["bars","voices","ties","bar","begun","voice","signs"] "hear" (yac (top 29)) t.f_zW cdv A outer s0 H0 E).nox ((yb9 (yaV 29 2)).getD 0 (.Pass ⟨0,0,0,0⟩)) te∧∀ D (g:HG) (vl tl:Addr) (L:List Addr) (xf:Nat→List V) (S:List MS) (i:Nat) (b:Int×List (List Tl)) x o4 o5 o6 H',HB t Tb g vl L xf (ydi S) H'→H' tl=some (.lst (S.map λs=>V.bl s.cm))→tl∉L→S.length=g.n→g.bars[i]?=some b→BarIs t g.Hs x b →
   (∀ bg H2,HB t Tb g vl L xf (ydi S) H2→Same (ygA (offD L xf Tb) H') (ygA (offD L xf Tb) H2)→Bgs t Tb L xf b S bg H2→D.nx [some (.ref g.bl),some (.ref vl),some (.ref tl),some x,some (.ref bg),o5,o6] H2)→te D [some (.ref g.bl),some (.ref vl),some (.ref tl),some x,o4,o5,o6] H':=by
 have hu:=ya2 hr
 refine⟨_,(yas (i:=4) sc_zW.nd rfl (Or.inl rfl) (yaq G_zg (hr.mono (by first | decide | omega)) rfl T.zg.M T.zg.F.kp T.zg.B .nil yaD (yaa (pv 3) (yaa (pv 2) yaf)))),λD g vl tl L xf S i b x o4 o5 o6 H' h et nt lS eb bi q=>?_⟩
 have hb:=h.c.gb b (List.mem_of_getElem? eb)
 have gts:∀ ts∈b.2,yaN ts:=λts hm=>(hb.2 ts hm).1
 have n23:∀ ts∈b.2,nts ts≤23:=λts hm=>by
  obtain⟨k,hk,e⟩:=List.getElem_of_mem hm
  obtain⟨hi,e2⟩:=List.getElem?_eq_some_iff.mp eb
  have:=ykr (bars:=g.bars) (k:=k) hi
  rw[e2,List.getD_eq_getElem?_getD,List.getElem?_eq_getElem hk,e] at this
  exact Nat.le_trans this (h.c.nc k)
 have n2:=h.c.n2
 walk_at "st"
 refine⟨x,tl,b.1,S.map (·.cm),b.2,ygA (offD L xf Tb) H',rfl,ycD _ _,bi.same h.old,by rw[ycS (h.lst et nt),et,List.map_map];rfl,by rw[List.length_map,lS,hb.1],by rw[hb.1];exact n2,λts hm=>⟨gts ts hm,(hb.2 ts hm).2.2⟩,λj hj=>?_,yj9 gts _,yeh gts _,h.tk,ydZ (.inr (.inr rfl)),λbg H2 ys kvs p st tk nb ebg bl ly ny iy tm=>?_⟩
 ·rw[ybh,List.length_map]
  have:=ydH (bs:=S.map (·.cm)) n23 j
  rw[hb.1] at hj
  omega
 have h2:=h.keep st tk
 rw[yly (yeh gts _) tm] at iy
 have np:∀ b u,H' b=some u→¬ offD L xf Tb b→H2 b=some u:=λb u e n=>st b u (λz=>n (.inr (.inr z))) e
 walk_at "st"
 refine q bg H2 h2 (λb u e=>?_) ⟨λk=>⟨kvs,by rw[ycS (h.new nb)];exact ebg,λap=>?_⟩⟩
 ·obtain⟨n,e⟩:=yga e
  rw[ycS n]
  exact np b u e n
 ·rw[bl]
  have alr:Al (λy ps=>Is (ygA (offD L xf Tb) H2) y (lT ps)) ys (ybr b.1 (S.map (·.cm)) b.2):=by
   have al0:Al (λy ps=>Is (rm H2 bg) y (lT ps)) ys (ybr b.1 (S.map (·.cm)) b.2):=ydW iy
   refine⟨al0.1,λj hj=>?_⟩
   obtain⟨y,ey,iy⟩:=al0.2 j hj
   refine⟨y,ey,?_⟩
   obtain⟨a,rfl,na⟩:=ny y (List.mem_of_getElem? ey)
   have key:∀ ps,Is (rm H2 bg) (V.ref a) (lT ps)→Is (ygA (offD L xf Tb) H2) (V.ref a) (lT ps):=λps iy=>by
    obtain⟨l2,zs,e1,e2,e3⟩:∃ l2 zs,V.ref a=.ref l2∧rm H2 bg l2=some (.lst zs)∧Iss (rm H2 bg) zs (ps.map pT):=by rw[lT,Is] at iy;exact iy
    cases e1
    refine ybB (by rw[ycS (h.new na)];exact(yao e2).2) (ydf ((ydW e3).imp λy p _ iy=>?_))
    obtain⟨a,rfl,ea⟩:=iy.pit
    have ea:=(yao ea).2
    exact yeC (by rw[ycS (h2.tup ea (λ_ z=>by cases z) (λ_ _ _ z=>by cases z) (λ_ z=>by cases z))];exact ea)
   exact key _ iy
  exact yja ly (by rw[yds,ybh,List.length_map]) alr
theorem ygL (S:List MS)(k:Nat):(S.map (·.cm)).getD k false=(S.getD k ms0).cm:=by
 rw[List.getD_eq_getElem?_getD,List.getD_eq_getElem?_getD,List.getElem?_map]
 cases S[k]?<;>rfl
theorem yli {b:Int×List (List Tl)}{S:List MS}{k:Nat}(h:k < b.2.length):ydi (ycu b S) k=(ya5 (yes b.1 (S.map (·.cm)) b.2 k) 0 (S.getD k ms0) (b.2.getD k [])).sns:=by
 unfold ydi
 rw[List.getD_eq_getElem?_getD,yfi h]
 rfl
theorem yp0 {cdv:Value}{A:Around}{outer:List Env}{s0:Shared}{H0:Hp}{E:XK}{Tb:Addr}(T:Txt K mg t)(G_zF:FnOk P w K mg base CX0 4 t.f_zF t.d_zF ["sounds","voice","signs","begun"] (yfw t))(hr:Room 8 (A.deeper (PyProof.Rows.envOfC "hear" (yac (top 29)) s0.heap.objs.size t.f_zW cdv))) :
  ∃ te,PS (ybz CX0 P w K mg base ["bars","voices","ties","bar","begun","voice","signs"] "hear" (yac (top 29)) t.f_zW cdv A outer s0 H0 E).nox ((yb9 (yaV 29 2)).getD 1 (.Pass ⟨0,0,0,0⟩)) te∧∀ D (g:HG) (vl:Addr) (L:List Addr) (xf:Nat→List V) (S:List MS) (b:Int×List (List Tl)) (bg:Addr) x o2 o5 o6 H2,HB t Tb g vl L xf (ydi S) H2→S.length=g.n→ycX g.n b→(∀ (k:Nat) s,S[k]?=some s→ynh 23 s)→BarIs t g.Hs x b→Bgs t Tb L xf b S bg H2 →
   (∀ xf' o5 o6 H3,HB t Tb g vl L xf' (ydi (ycu b S)) H3→D.nx [some (.ref g.bl),some (.ref vl),o2,some x,some (.ref bg),o5,o6] H3)→te D [some (.ref g.bl),some (.ref vl),o2,some x,some (.ref bg),o5,o6] H2:=by
 have hu:=ya2 hr
 refine⟨_,(ybf PassesOwn.never rfl (ych rfl T.Jc (yaa (ya3 (pv 3) rfl) yaf)) (yca (n:=2) rfl (yaC (yan (i:=5) sc_zW.nd rfl (Or.inl rfl)) (yaC (yan (i:=6) sc_zW.nd rfl (Or.inl rfl)) ybG))) (yaj (yaO (yaq G_zF (hr.mono (by first | decide | omega)) rfl T.zF.M T.zF.F.kp T.zF.B .nil yaD (yaa (yav yaz (pv 1) (pv 5) (λ_ _=>rfl)) (yaa (pv 5) (yaa (pv 6) (yaa (pv 4) yaf)))))))),λD g vl L xf S b bg x o2 o5 o6 H2 h lS hb ok bi bgs q=>?_⟩
 have gts:∀ ts∈b.2,yaN ts:=λts hm=>(hb.2 ts hm).1
 obtain⟨a,dx,mv,lv,rfl,ea,l2,ys,e,el,al⟩:=bi.same h.old
 cases e
 have p2:=ycD (offD L xf Tb) H2
 have nd:¬ offD L xf Tb a:=λz=>by rw[ydZ z] at ea;cases ea
 walk_at "st"
 refine⟨a,_,dx,_,_,rfl,p2 _ _ ea,T.JB,T.Je,rfl,?_⟩
 walk_at "st"
 refine⟨lv,rfl,⟨_,SqL.of (p2 _ _ el)⟩,ybQ (xs:=ys) (λi σ H'=>∃ o5 o6 xf',σ=[some (.ref g.bl),some (.ref vl),o2,some (.ref a),some (.ref bg),o5,o6]∧HB t Tb g vl L xf' (λk=>if k < i then ydi (ycu b S) k else ydi S k) H'∧(∀ k,i≤k→xf' k=xf k)∧Same (ygA (offD L xf Tb) H2) H') ?_ ?_ ?_ ?_⟩
 ·refine⟨_,_,xf,rfl,?_,λ_ _=>rfl,p2⟩
  have:(λk=>if k < 0 then ydi (ycu b S) k else ydi S k)=ydi S:=by funext k;rw[if_neg (by omega)]
  rw[this]
  exact h
 ·rintro i σ H' _ ⟨_,_,_,rfl,_,_,s⟩
  exact SqL.of (s _ _ el)
 ·rintro i y σ H' p hy ⟨o5,o6,xf',rfl,h',ex,s'⟩ hp
  have hi:i < b.2.length:=by have:=(List.getElem?_eq_some_iff.mp hy).1;rw[al.1] at this;exact this
  obtain⟨y',ey,ly⟩:=al.2 i hi
  rw[hy] at ey
  cases ey
  have s3:=yae hp (.tup [.int (i:Nat),y])
  refine yex (SqT.of yab) ?_
  generalize upd H' p (.tup [.int (i:Nat),y])=H3 at s3 ⊢
  have h3:HB t Tb g vl L xf' _ H3:=h'.keep (Same.t s3) (h'.tk.same s3)
  have s4:Same (ygA (offD L xf Tb) H2) H3:=s'.trans s3
  have hL:i < L.length:=by rw[h.lL,← hb.1];exact hi
  have hS:i < S.length:=by rw[lS,← hb.1];exact hi
  have gi:S.getD i ms0=S[i]:=by rw[List.getD_eq_getElem?_getD,List.getElem?_eq_getElem hS];rfl
  have gv:b.2.getD i []=b.2[i]:=by rw[List.getD_eq_getElem?_getD,List.getElem?_eq_getElem hi];rfl
  have oki:=ok i _ (List.getElem?_eq_getElem hS)
  have vp:=h3.hk.vp i _ (List.getElem?_eq_getElem hL)
  have esf:ydi S i=(S[i]).sns:=by unfold ydi;rw[gi]
  rw[if_neg (Nat.lt_irrefl i),ex i (Nat.le_refl _),esf] at vp
  walk_at "st"
  refine ybc (SqL.of h3.hv) (v:=.ref L[i]) (yak (by rw[List.getElem?_map,List.getElem?_eq_getElem hL];rfl)) ?_
  walk_at "st"
  have hone:=yhC (vo:=((i:Nat):Int)) (F:=λa=>at2 ((yar (S.map (·.cm)) b.2 b.2.length).zip (ybr b.1 (S.map (·.cm)) b.2)) a ((i:Nat):Int)) (G:=yes b.1 (S.map (·.cm)) b.2 i) b.2[i] ((S.map (·.cm)).getD i false) 0 0 (S[i]).sns (gts _ (List.getElem_mem hi)) (λz=>oki.1 (by rw[ygL,gi] at z;exact z)) (by rw[← gv];exact(yhG gts hi λ_=>rfl).1) (by rw[← gv];exact(yhG gts hi λ_=>rfl).2)
  refine⟨L[i],bg,(i:Nat),y,xf i,(S[i]).sns,b.2[i],_,L,ygA (offD L xf Tb) H2,rfl,⟨s4,λb hb=>ydZ (.inl hb),λb hb=>?_,List.getElem_mem hL,vp.at_,vp.nd,vp.al,λx hx=>?_⟩,ly,gts _ (List.getElem_mem hi),(hb.2 _ (List.getElem_mem hi)).2.2,?_,bgs.bgn i,hone.2,λxs' H4 fr vc ln nw=>?_⟩
  ·obtain⟨j,hj,e⟩:=List.getElem_of_mem hb
   exact⟨_,by rw[← e];exact(h3.hk.vp j _ (List.getElem?_eq_getElem hj)).at_⟩
  ·obtain⟨a,C,dx,fs,e1,_,_⟩:=vp.ins hx
   exact⟨a,e1,ydZ (.inr (.inl ⟨i,hL,by rw[← e1];exact hx⟩))⟩
  ·rw[vp.al.1]
   have:=ydG oki.2
   omega
  ·walk_at "st"
   have notin:∀ b u,H3 b=some u→(∀ C dx fs,u≠.ins C dx fs)→V.ref b∉xf i:=λb u e n z=>by
    obtain⟨a,C,dx,fs,e1,e2,_⟩:=vp.ins z
    cases e1
    rw[e2] at e
    exact n C dx fs (Option.some.inj e).symm
   have fr':∀ b u,H3 b=some u→b≠L[i]→V.ref b∉xf' i→H4 b=some u:=λb u e n m=>fr b u e n (by rw[← ex i (Nat.le_refl _)];exact m)
   have tk4:TK H4 Tb:=h3.tk.keep λb u e n1 n2=>fr b u e (λz=>by rw[z,vp.at_] at e;exact n1 _ (Option.some.inj e).symm) (notin b u e n2)
   refine⟨_,_,upF xf' i xs',rfl,⟨h3.c,λb u nb e=>?_,tk4,?_,h3.lL,h3.vL,?_⟩,λk hk=>?_,vc.sm⟩
   ·refine fr b u (h3.sm b u nb e) (λz=>?_) λz=>?_
    ·rw[z,h3.hk.nl _ (List.getElem_mem hL)] at e;cases e
    ·obtain⟨a,e1,e2⟩:=h.hk.nx i hL _ z
     cases e1
     rw[e2] at e
     cases e
   ·exact fr _ _ h3.hv (λz=>h3.vL (by rw[z];exact List.getElem_mem hL)) (notin _ _ h3.hv λ_ _ _ z=>by cases z)
   ·have hk:=h3.hk.one (List.getElem?_eq_getElem hL) fr' vc (λy hy=>(nw y hy).imp (λz=>by rw[ex i (Nat.le_refl _)];exact z) id) (λa z=>h3.free z)
    have:upF (λk=>if k < i then ydi (ycu b S) k else ydi S k) i ((b.2[i].foldl (ydm λa=>at2 ((yar (S.map (·.cm)) b.2 b.2.length).zip (ybr b.1 (S.map (·.cm)) b.2)) a ((i:Nat):Int)) ⟨0,(S[i]).sns⟩).sns)=(λk=>if k < i+1 then ydi (ycu b S) k else ydi S k):=by
     funext k
     by_cases z:k=i
     ·subst z
      rw[ybs,if_pos (Nat.lt_succ_self _),hone.1,yli hi,gi,gv,ygL,gi]
     ·rw[ybC z]
      by_cases z2:k < i
      ·rw[if_pos z2,if_pos (by omega)]
      ·rw[if_neg z2,if_neg (by omega)]
    rw[← this]
    exact hk
   ·rw[ybC (by omega)]
    exact ex k (by omega)
 ·rintro σ H' ⟨o5,o6,xf',rfl,h',_,_⟩
  refine q xf' o5 o6 H' ⟨h'.c,h'.sm,h'.tk,h'.hv,h'.lL,h'.vL,⟨h'.hk.nl,λk l e=>?_,h'.hk.dj,h'.hk.nx,h'.hk.nd⟩⟩
  have:=h'.hk.vp k l e
  have hk:k < ys.length:=by have:=(List.getElem?_eq_some_iff.mp e).1;rw[al.1,hb.1,← h.lL];exact this
  rw[if_pos hk] at this
  exact this
theorem ymI {ts:List Tl}(h:ts≠[]):∃ us tl,ts=us++[tl]∧ts.getLast?=some tl:=by
 cases e:ts.getLast? with
 | none=>exact absurd (List.getLast?_eq_none_iff.mp e) h
 | some tl=>obtain⟨us,z⟩:=List.getLast?_eq_some_iff.mp e;exact⟨us,tl,z,rfl⟩
theorem yo3 {cdv:Value}{A:Around}{outer:List Env}{s0:Shared}{H0:Hp}{E:XK}{Tb:Addr}(T:Txt K mg t)(G_zj:FnOk P w K mg base CX0 1 t.f_zj t.d_zj ["sign"] (ydQ t))(hr:Room 8 (A.deeper (PyProof.Rows.envOfC "hear" (yac (top 29)) s0.heap.objs.size t.f_zW cdv))) :
  ∃ te,PS (ybz CX0 P w K mg base ["bars","voices","ties","bar","begun","voice","signs"] "hear" (yac (top 29)) t.f_zW cdv A outer s0 H0 E).nox ((yb9 (yaV 29 2)).getD 2 (.Pass ⟨0,0,0,0⟩)) te∧∀ D (g:HG) (vl:Addr) (L:List Addr) (xf:Nat→List V) (S:List MS) (b:Int×List (List Tl)) x o2 o4 o5 o6 H2,HB t Tb g vl L xf (ydi (ycu b S)) H2→ycX g.n b→BarIs t g.Hs x b →
   (∀ tl H3,HB t Tb g vl L xf (ydi (ycu b S)) H3→H3 tl=some (.lst ((ycu b S).map λs=>V.bl s.cm))→tl∉L→D.nx [some (.ref g.bl),some (.ref vl),some (.ref tl),some x,o4,o5,o6] H3)→te D [some (.ref g.bl),some (.ref vl),o2,some x,o4,o5,o6] H2:=by
 have hu:=ya2 hr
 refine⟨_,(yba (i:=2) sc_zW.nd rfl (Or.inl rfl) (yaQ (NB:=["signs"]) (cap:=[none]) rfl) rfl (yaX (ya3 (pv 3) rfl)) (λ_ _ _ _=>(yan (i:=0) (show List.Nodup (["signs"]:List Str) by decide) rfl (Or.inl rfl))) (λ_ _ _ _=>yaT) (λ_ _ _ _=>(yaq G_zj (hr.mono (by first | decide | omega)) rfl T.zj.M T.zj.F.kp T.zj.B .nil yaD (yaa (yav (show IxR _ (ykp K) from yaz) (pv 0) (yc6 ybZ yag) (λ_ _=>rfl)) yaf)))),λD g vl L xf S b x o2 o4 o5 o6 H2 h hb bi q=>?_⟩
 obtain⟨a,dx,mv,lv,rfl,ea,l2,ys,e,el,al⟩:=bi.same (h.old.trans (ycD _ _))
 cases e
 walk_at "st"
 refine⟨a,_,dx,_,_,rfl,ea,T.JB,T.Je,rfl,lv,rfl,⟨_,SqL.of el⟩,λV0 hV=>ybb (xs:=ys) (λi σ' H'=>(∃ o,σ'=[o])∧Same H2 H'∧H' V0=some (.lst (((ycu b S).take i).map λs=>V.bl s.cm))) ⟨⟨_,rfl⟩,yae hV _,yab⟩ (λ_ _ _ _ h=>SqL.of (h.2.1 _ _ el)) ?_ ?_⟩
 ·rintro i y σ' H' N hN hy ⟨⟨o,rfl⟩,sm,hd⟩
  have hi:i < b.2.length:=by have:=(List.getElem?_eq_some_iff.mp hy).1;rw[al.1] at this;exact this
  obtain⟨y',ey,ly⟩:=al.2 i hi
  rw[hy] at ey
  cases ey
  have ne:=(hb.2 _ (List.getElem_mem hi)).2.1
  obtain⟨l,zs,rfl,ez,az⟩:=ly.same sm
  obtain⟨us,tl,e1,e2⟩:=ymI ne
  obtain⟨ys',x',rfl,sx,_⟩:=ycV az e2
  refine ybN (ycQ (i_T ?_))
  walk_at "st"
  refine ybc (SqL.of ez) (ybP ys' x') ?_
  walk_at "st"
  refine⟨x',tl,rfl,sx,?_⟩
  have n2:=h.c.n2
  have hn:=hb.1
  refine⟨_,hd,yam (by rw[List.length_map,List.length_take,ydg];omega),hN _ _ ⟨⟨_,rfl⟩,yaJ hV sm,?_⟩⟩
  have hi2:i < (ycu b S).length:=by rw[ydg];exact hi
  rw[yab,List.take_succ_eq_append_getElem hi2,List.map_append]
  have e3:=yfi (S:=S) hi
  rw[List.getElem?_eq_getElem hi2] at e3
  have gv:b.2.getD i []=b.2[i]:=by rw[List.getD_eq_getElem?_getD,List.getElem?_eq_getElem hi];rfl
  obtain⟨tl',e4,e5⟩:=yfG (yes b.1 (S.map (·.cm)) b.2 i) b.2[i] 0 (S.getD i ms0) ne
  rw[e2] at e4
  cases e4
  rw[Option.some.inj e3,gv]
  show _=some (HO.lst (_++[V.bl _]))
  rw[e5]
 ·rintro σ' H' ⟨_,sm,hd⟩
  have tL:V0∉L:=λz=>h.new hV (.inl z)
  have h3:=h.keep (Same.t sm) (h.tk.same sm)
  refine q V0 H' h3 ?_ tL
  rw[hd,List.take_of_length_le (by rw[ydg,al.1];exact Nat.le_refl _)]
noncomputable def nt (H H':Hp):Hp:=λb=>@ite _ (H b=none) (Classical.propDecidable _) (H' b) (tpo H' b)
theorem ylN {H H':Hp}{b:Addr}(h:H b=none):nt H H' b=H' b:=by unfold nt;rw[if_pos h]
theorem ylp {H H':Hp}{b:Addr}{xs:List V}(h:H' b=some (.tup xs)):nt H H' b=some (.tup xs):=by
 unfold nt
 by_cases z:H b=none
 ·rw[if_pos z];exact h
 ·rw[if_neg z];exact ydS h
theorem ycU {H H':Hp}{b:Addr}{u:HO}(h:nt H H' b=some u):H' b=some u∧(H b=none∨∃ xs,u=.tup xs):=by
 unfold nt at h
 by_cases z:H b=none
 ·rw[if_pos z] at h;exact⟨h,.inl z⟩
 ·rw[if_neg z] at h
  obtain⟨e,x⟩:=yb0 h
  exact⟨e,.inr x⟩
def yjH (t:Ad)(Tb:Addr):Sp:=λvs H Q _=>∃ (bl:Addr) (bvs:List V) (bars:List (Int×List (List Tl))) (n:Nat) (Hs:Hp),vs=[.ref bl]∧HC t Tb ⟨bl,bvs,bars,n,Hs,H⟩ ∧
 ∀ D H' ys,SameT Tb H H'→TK H' Tb→H D=none→H' D=some (.lst ys)→Al (ToldIs (nt H (rm H' D))) ys ((ydp bars n).map λs=>ybD s.sns)→Q (.ref D) H'
theorem yqG {cdv:Value}{A:Around}{outer:List Env}{s0:Shared}{H0:Hp}{E:XK}{Tb:Addr}(T:Txt K mg t)(G_za:FnOk P w K mg base CX0 2 t.f_za t.d_za ["sounds"] (ygN t))(hr:Room 8 (A.deeper (PyProof.Rows.envOfC "hear" (yac (top 29)) s0.heap.objs.size t.f_zW cdv))) :
  ∃ te,PS (ybz CX0 P w K mg base ["bars","voices","ties","bar","begun","voice","signs"] "hear" (yac (top 29)) t.f_zW cdv A outer s0 H0 E).nox (yaV 29 3) te∧∀ D (g:HG) (vl:Addr) (L:List Addr) (xf:Nat→List V) (S:List MS) o0 o2 o3 o4 o5 o6 H2,HB t Tb g vl L xf (ydi S) H2→S.length=g.n→(∀ (k:Nat) s,S[k]?=some s→ynh 23 s) →
   (∀ D0 H' ys,SameT Tb g.H H'→TK H' Tb→g.H D0=none→H' D0=some (.lst ys)→Al (ToldIs (nt g.H (rm H' D0))) ys (S.map λs=>ybD s.sns)→D.rt (.ref D0) H')→te D [o0,some (.ref vl),o2,o3,o4,o5,o6] H2:=by
 have hu:=ya2 hr
 refine⟨_,(yaG (yb5 (yaQ (NB:=["sounds"]) (cap:=[none]) rfl) rfl (yaX (pv 1)) (λ_ _ _ _=>(yan (i:=0) (show List.Nodup (["sounds"]:List Str) by decide) rfl (Or.inl rfl))) (λ_ _ _ _=>yaT) (λ_ _ _ _=>(yaq G_za (hr.mono (by first | decide | omega)) rfl T.za.M T.za.F.kp T.za.B .nil yaD (yaa (pv 0) yaf))))),λD g vl L xf S o0 o2 o3 o4 o5 o6 H2 h lS ok q=>?_⟩
 have n2:=h.c.n2
 walk_at "st"
 refine⟨vl,rfl,⟨_,SqL.of h.hv⟩,λD0 hD=>yhd (us:=S) (Hs:=H2) (Ht:=tpo H2) (R:=λH x s=>∃ l xs,x=.ref l∧H l=some (.lst xs)∧Al (So t H) xs s.sns∧s.sns.length≤900) (S:=ToldIs) (λs z=>z.same s) (λs=>ybD s.sns) (ycO _) h.hv ⟨by rw[List.length_map,h.lL,lS],λk hk=>?_⟩ hD (by omega) ?_ ?_⟩
 ·have hL:k < L.length:=by rw[h.lL,← lS];exact hk
  have vp:=h.hk.vp k _ (List.getElem?_eq_getElem hL)
  have esf:ydi S k=(S[k]).sns:=by unfold ydi;rw[List.getD_eq_getElem?_getD,List.getElem?_eq_getElem hk];rfl
  rw[esf] at vp
  have:=ydG (ok k _ (List.getElem?_eq_getElem hk)).2
  exact⟨.ref L[k],by rw[List.getElem?_map,List.getElem?_eq_getElem hL];rfl,L[k],xf k,rfl,vp.at_,vp.al.imp λ_ _ _ z=>z.same (ycq _ _),by omega⟩
 ·rintro x s H' Q' hm t2 ⟨l,xs,rfl,el,al,ln⟩ k
  walk_at "st"
  exact⟨l,xs,s.sns,H2,rfl,t2,el,al,ln,k⟩
 ·rintro ys H' sm hd al
  have h':=h.keep (Same.t sm) (h.tk.same sm)
  refine q D0 H' ys h'.sm h'.tk (h.free hD) hd (al.imp λ_ _ _ z=>z.same λb u e=>?_)
  cases hb:H2 b with
  | none=>rw[yaw hb] at e;rw[ylN (h.free hb)];exact e
  | some v =>
   rw[yaM hb] at e
   obtain⟨e,xs,rfl⟩:=yb0 e
   refine ylp ?_
   rw[yaB (yad e hD)]
   exact sm _ _ e
theorem yra {cdv:Value}{A:Around}{outer:List Env}{s0:Shared}{H0:Hp}{E:XK}{Tb:Addr}(T:Txt K mg t)(G_zg:FnOk P w K mg base CX0 6 t.f_zg t.d_zg ["bar","ties"] (yn6 t Tb))(G_zF:FnOk P w K mg base CX0 4 t.f_zF t.d_zF ["sounds","voice","signs","begun"] (yfw t))(G_zj:FnOk P w K mg base CX0 1 t.f_zj t.d_zj ["sign"] (ydQ t))(hr:Room 8 (A.deeper (PyProof.Rows.envOfC "hear" (yac (top 29)) s0.heap.objs.size t.f_zW cdv))) :
  ∃ te,PS (ybz CX0 P w K mg base ["bars","voices","ties","bar","begun","voice","signs"] "hear" (yac (top 29)) t.f_zW cdv A outer s0 H0 E).nox (yaV 29 2) te∧∀ D (g:HG) (vl tl:Addr) (L:List Addr) (xf:Nat→List V) o3 o4 o5 o6 H2,HB t Tb g vl L xf (ydi (List.replicate g.n ms0)) H2→H2 tl=some (.lst (List.replicate g.n (.bl false)))→tl∉L →
   (∀ xf' o2 o3 o4 o5 o6 H',HB t Tb g vl L xf' (ydi (ydp g.bars g.n)) H'→D.nx [some (.ref g.bl),some (.ref vl),o2,o3,o4,o5,o6] H')→te D [some (.ref g.bl),some (.ref vl),some (.ref tl),o3,o4,o5,o6] H2:=by
 have hu:=ya2 hr
 obtain⟨t0,pf0,k0⟩:=yoo (cdv:=cdv) (A:=A) (outer:=outer) (s0:=s0) (H0:=H0) (E:=E) T G_zg hr
 obtain⟨t1,pf1,k1⟩:=yp0 (cdv:=cdv) (A:=A) (outer:=outer) (s0:=s0) (H0:=H0) (E:=E) (Tb:=Tb) T G_zF hr
 obtain⟨t2,pf2,k2⟩:=yo3 (cdv:=cdv) (A:=A) (outer:=outer) (s0:=s0) (H0:=H0) (E:=E) (Tb:=Tb) T G_zj hr
 refine⟨_,show PS _ (yaV 29 2) _ from (ybf PassesOwn.never rfl (yaX (pv 0)) (yan (i:=3) sc_zW.nd rfl (Or.inl rfl)) (yah pf0 (yah pf1 (yaj pf2)))),λD g vl tl L xf o3 o4 o5 o6 H2 h et nt q=>?_⟩
 have st:=ycp (bars:=g.bars) (n:=g.n) (λb hb=>(h.c.gb b hb).1)
 have ok:∀ i,i≤g.bars.length→∀ (k:Nat) s,(ydp (g.bars.take i) g.n)[k]?=some s→ynh 23 s:=λi hi k s e=>by
  have z:=(st i hi).2 k s e
  refine⟨z.1,?_⟩
  have:=Nat.le_trans (ydk (bars:=g.bars) (k:=k) i) (h.c.nc k)
  have z2:=z.2
  unfold yhv at z2 ⊢
  omega
 walk_at "st"
 refine⟨g.bl,rfl,⟨_,SqL.of (h.old.trans (ycD _ _) _ _ h.c.eb)⟩,ycy (xs:=g.bvs) (λi σ H'=>∃ tl xf o3 o4 o5 o6,σ=[some (.ref g.bl),some (.ref vl),some (.ref tl),o3,o4,o5,o6]∧HB t Tb g vl L xf (ydi (ydp (g.bars.take i) g.n)) H'∧H' tl=some (.lst ((ydp (g.bars.take i) g.n).map λs=>V.bl s.cm))∧tl∉L) ?_ ?_ ?_ ?_⟩
 ·refine⟨tl,xf,_,_,_,_,rfl,h,?_,nt⟩
  rw[et,List.take_zero]
  show _=some (HO.lst (List.map _ (List.replicate g.n ms0)))
  rw[List.map_replicate]
  rfl
 ·rintro i σ H' _ ⟨_,_,_,_,_,_,rfl,h',_⟩
  exact SqL.of (h'.old.trans (ycD _ _) _ _ h'.c.eb)
 ·rintro i x σ H' N hN hx ⟨tl,xf,o3,o4,o5,o6,rfl,h',et,nt⟩
  have hi:i < g.bars.length:=by have:=(List.getElem?_eq_some_iff.mp hx).1;rw[h.c.al.1] at this;exact this
  obtain⟨x',ex,bi⟩:=h.c.al.2 i hi
  rw[hx] at ex
  cases ex
  have hb:=h.c.gb _ (List.getElem_mem hi)
  have sn:ydp (g.bars.take (i+1)) g.n=ycu g.bars[i] (ydp (g.bars.take i) g.n):=by rw[List.take_succ_eq_append_getElem hi,yd3]
  have lS:=(st i (by omega)).1
  refine ybN (ybe (k0 _ g vl tl L xf _ i _ x _ _ _ H' h' et nt lS (List.getElem?_eq_getElem hi) bi λbg H3 h3 _ bgs=>ybe (k1 _ g vl L xf _ _ bg x _ _ _ H3 h3 lS hb (ok i (by omega)) bi bgs λxf' o5 o6 H4 h4=>k2 _ g vl L xf' _ _ x _ _ _ _ H4 h4 hb bi λtl' H5 h5 et5 nt5=>hN _ _ ⟨tl',xf',_,_,_,_,rfl,by rw[sn];exact h5,by rw[sn];exact et5,nt5⟩)))
 ·rintro σ H' ⟨tl,xf,o3,o4,o5,o6,rfl,h',et,nt⟩
  rw[h.c.al.1,List.take_length] at h'
  exact q _ _ _ _ _ _ _ h'
theorem ypW {Tb:Addr}(T:Txt K mg t)(G_zg:FnOk P w K mg base CX0 6 t.f_zg t.d_zg ["bar","ties"] (yn6 t Tb))(G_zF:FnOk P w K mg base CX0 4 t.f_zF t.d_zF ["sounds","voice","signs","begun"] (yfw t))(G_zj:FnOk P w K mg base CX0 1 t.f_zj t.d_zj ["sign"] (ydQ t))(G_za:FnOk P w K mg base CX0 2 t.f_za t.d_za ["sounds"] (ygN t)):FnOk P w K mg base CX0 9 t.f_zW t.d_zW ["bars"] (yjH t Tb):=by
 refine T.zW.F.ok sc_zW (λvs H Q E h=>?_) (λcdv A outer s H vs Q E hr h=>?_)
 ·obtain⟨_,_,_,_,_,rfl,_⟩:=h;rfl
 have hu:=ya2 hr
 obtain⟨bl,bvs,bars,n,Hs,rfl,c,q⟩:=h
 obtain⟨t0,p0,k0⟩:=yq5 (cdv:=cdv) (A:=A) (outer:=outer) (s0:=s) (H0:=H) (E:=E) (P:=P) (w:=w) (base:=base) (Tb:=Tb) T hr
 obtain⟨t1,p1,k1⟩:=yrr (cdv:=cdv) (A:=A) (outer:=outer) (s0:=s) (H0:=H) (E:=E) (P:=P) (w:=w) (base:=base) (Tb:=Tb) T hr
 obtain⟨t2,p2,k2⟩:=yra (cdv:=cdv) (A:=A) (outer:=outer) (s0:=s) (H0:=H) (E:=E) T G_zg G_zF G_zj hr
 obtain⟨t3,p3,k3⟩:=yqG (cdv:=cdv) (A:=A) (outer:=outer) (s0:=s) (H0:=H) (E:=E) (Tb:=Tb) T G_za hr
 refine⟨_,show PSs _ [yaV 29 0,yaV 29 1,yaV 29 2,yaV 29 3] _ from yah p0 (yah p1 (yah p2 (yaj p3))),?_⟩
 refine ybe (k0 _ ⟨bl,bvs,bars,n,Hs,H⟩ _ _ _ _ _ _ c λvl L H1 s1 ev lL nd vL hl=>ybe (k1 _ ⟨bl,bvs,bars,n,Hs,H⟩ _ _ _ _ _ _ H1 c s1 λtl H2 s2 ntl et=>ybe (k2 _ ⟨bl,bvs,bars,n,Hs,H⟩ vl tl L (λ_=>[]) _ _ _ _ H2 ⟨c,Same.t (s1.trans s2),c.tk.same (s1.trans s2),s2 _ _ ev,lL,vL,⟨λb hb=>(hl b hb).1,λk l e=>?_,(λ_ _ _ _ _ y hy=>by cases hy),(λ_ _ x hx=>by cases hx),nd⟩⟩ et (λz=>by rw[(hl tl z).2] at ntl;cases ntl) λxf' o2 o3 o4 o5 o6 H3 h3=>k3 _ ⟨bl,bvs,bars,n,Hs,H⟩ vl L xf' _ _ _ _ _ _ _ H3 h3 ?_ ?_ λD0 H4 ys st tk nD hd al=>q D0 H4 ys st tk nD hd al)))
 ·have hm:=List.mem_of_getElem? e
  have e0:ydi (List.replicate n ms0) k=[]:=by
   unfold ydi
   rw[List.getD_eq_getElem?_getD,List.getElem?_replicate]
   split<;>rfl
  show Vp t L H2 l [] (ydi (List.replicate n ms0) k)
  rw[e0]
  exact⟨s2 _ _ (hl l hm).2,List.nodup_nil,Al.nil⟩
 ·have:=ycp (bars:=bars) (n:=n) (λb hb=>(c.gb b hb).1) bars.length (Nat.le_refl _)
  rw[List.take_length] at this
  exact this.1
 ·intro k s e
  have:=ycp (bars:=bars) (n:=n) (λb hb=>(c.gb b hb).1) bars.length (Nat.le_refl _)
  rw[List.take_length] at this
  have z:=this.2 k s e
  refine⟨z.1,?_⟩
  have:=c.nc k
  have this:ycf bars k≤23:=this
  have z2:=z.2
  unfold yhv at z2 ⊢
  omega
theorem yk9 {a b:List Int}(i j:Int)(hl:a.length=b.length)(h:HT.lexLt a b=true):HT.lexLt (a++[i]) (b++[j])=true:=by
 induction a generalizing b with
 | nil=>cases b with
  | nil=>rw[ygR] at h;cases h
  | cons y b=>cases hl
 | cons x a ih=>cases b with
  | nil=>cases hl
  | cons y b =>
   rw[List.cons_append,List.cons_append]
   rw[HT.lexLt_cons] at h ⊢
   by_cases e:x=y
   ·rw[if_pos e] at h ⊢
    exact ih (by simpa using hl) h
   ·rw[if_neg e] at h ⊢
    exact h
structure JS where
 ap:Int
 cm:Bool
 j:Nat
 js:List (Rw×Nat)
def yck (vo:Int)(s:JS)(tl:Tl):JS:=⟨s.ap+tg tl,ydC tl,s.j+1,s.js++yhW vo s.cm s.ap s.j tl⟩
theorem yfh (vo:Int):∀ (ts:List Tl) (s:JS),(ts.foldl (yck vo) s).js=s.js++ybo vo s.cm s.ap s.j ts
 | [],s=>by rw[ybo];simp
 | tl :: ts,s=>by rw[List.foldl_cons,yfh vo ts,ybo,← List.append_assoc];rfl
theorem yju (vo:Int):∀ (ts:List Tl) (s:JS),(ts.foldl (yck vo) s).j=s.j+ts.length
 | [],s=>rfl
 | tl :: ts,s=>by rw[List.foldl_cons,yju vo ts,List.length_cons];show s.j+1+_=_;omega
theorem yiY (bs:List Bool)(vss:List (List Tl))(i:Nat):ya9 bs vss (i+1)=ya9 bs vss i++ybo (i:Nat) (bs.getD i false) 0 0 (vss.getD i []):=by
 unfold ya9
 rw[List.range_succ,List.flatMap_append]
 simp
def TripIs (H:Hp)(v:V)(q:Rw×Nat):Prop:=∃ a,v=.ref a∧H a=some (.tup [.int q.1.ap,.int q.1.vo,.int (q.2:Nat)])
theorem TripIs.same {H H':Hp}{v:V}{q:Rw×Nat}(s:Same H H')(h:TripIs H v q):TripIs H' v q:=by
 obtain⟨a,e,ea⟩:=h
 exact⟨a,e,s _ _ ea⟩
def q0:Rw×Nat:=(⟨0,0,[]⟩,0)
def NJ (J:List (Rw×Nat))(i:Nat):List Int:=[(J.getD i q0).1.ap,(J.getD i q0).1.vo,((J.getD i q0).2:Nat)]
theorem yqd {bs:List Bool}{vss:List (List Tl)}{n:Nat}{p:Array Nat}(h:ycs (λi j=>HT.lexLt (NJ (ya9 bs vss n) i) (NJ (ya9 bs vss n) j)) (ya9 bs vss n).length p):yjc ((yar bs vss n).map ybd) p:=by
 have ln:((yar bs vss n).map ybd).length=(ya9 bs vss n).length:=by rw[List.length_map,ybh,List.length_map]
 unfold yjc
 rw[ln]
 have at':∀ i,i < (ya9 bs vss n).length→((((yar bs vss n).map ybd).map yin)[i]?).getD []=[((ya9 bs vss n).getD i q0).1.ap,((ya9 bs vss n).getD i q0).1.vo]:=λi hi=>by
  rw[ybh,List.getElem?_map,List.getElem?_map,List.getElem?_map,List.getD_eq_getElem?_getD,List.getElem?_eq_getElem hi]
  rfl
 refine⟨h.shuf,λa b le lt=>?_⟩
 have u:=h.up a b le lt
 have la:=h.shuf.lt (Nat.lt_of_le_of_lt le lt)
 have lb:=h.shuf.lt lt
 show HT.lexLt _ _=false
 rw[at' _ la,at' _ lb]
 cases z:HT.lexLt [((ya9 bs vss n).getD (G p b) q0).1.ap,((ya9 bs vss n).getD (G p b) q0).1.vo] [((ya9 bs vss n).getD (G p a) q0).1.ap,((ya9 bs vss n).getD (G p a) q0).1.vo] with
 | false=>rfl
 | true =>
  have:=yk9 (a:=[((ya9 bs vss n).getD (G p b) q0).1.ap,((ya9 bs vss n).getD (G p b) q0).1.vo]) (b:=[((ya9 bs vss n).getD (G p a) q0).1.ap,((ya9 bs vss n).getD (G p a) q0).1.vo]) (((ya9 bs vss n).getD (G p b) q0).2:Int) (((ya9 bs vss n).getD (G p a) q0).2:Int) rfl z
  have u:HT.lexLt (NJ (ya9 bs vss n) (G p b)) (NJ (ya9 bs vss n) (G p a))=false:=u
  unfold NJ at u
  rw[show HT.lexLt [((ya9 bs vss n).getD (G p b) q0).1.ap,((ya9 bs vss n).getD (G p b) q0).1.vo,(((ya9 bs vss n).getD (G p b) q0).2:Int)] [((ya9 bs vss n).getD (G p a) q0).1.ap,((ya9 bs vss n).getD (G p a) q0).1.vo,(((ya9 bs vss n).getD (G p a) q0).2:Int)]=true from this] at u
  cases u
def yeT:Sp:=λvs H Q _=>∃ (x:V) (tl:Addr) (bs:List Bool) (vss:List (List Tl)),vs=[x,.ref tl]∧Is H x (bsT vss)∧H tl=some (.lst (bs.map V.bl))∧bs.length=vss.length∧vss.length≤2∧(∀ ts∈vss,yaN ts∧ts.length≤60∧nts ts≤23) ∧
 ∀ D H' zs,Same H H'→H D=none→H' D=some (.lst zs)→Al (TripIs H') zs ((ydu ((yar bs vss vss.length).map ybd)).map λi=>(ya9 bs vss vss.length).getD i q0)→(ydu ((yar bs vss vss.length).map ybd)).Perm (List.range (ya9 bs vss vss.length).length)→Q (.ref D) H'
def tlS:Tl→Str
 | .note .. => "note"
 | .pause _ => "pause"
 | .whole _ => "whole"
theorem Is.tl0 {H:Hp}{x:V}{tl:Tl}(h:Is H x (tlT tl)):∃ a ys,x=.ref a∧H a=some (.tup ys)∧ys[0]?=some (.str (tlS tl))∧(isN tl=true→ys[3]?=some (.bl (ydC tl))):=by
 cases tl with
 | note hs p ti be wd op cl=>obtain⟨a,y,z,rfl,e,_⟩:=h.note;exact⟨a,_,rfl,e,rfl,λ_=>rfl⟩
 | pause p=>obtain⟨a,y,rfl,e,_⟩:=h.pause;exact⟨a,_,rfl,e,rfl,λz=>by cases z⟩
 | whole n=>obtain⟨a,rfl,e⟩:=h.whole;exact⟨a,_,rfl,e,rfl,λz=>by cases z⟩
theorem yek (tl:Tl):(tlS tl==("note" : Str))=isN tl:=by
 cases tl with
 | note hs p ti be wd op cl=>show(("note" : Str)=="note")=true;decide
 | pause p=>show(("pause" : Str)=="note")=false;decide
 | whole n=>show(("whole" : Str)=="note")=false;decide
theorem ypI (T:Txt K mg t)(G_zP:FnOk P w K mg base CX0 2 t.f_zP t.d_zP ["_law_told"] yfX):FnOk P w K mg base CX0 3 t.f_zw t.d_zw ["_law_voices","_law_ties"] yeT:=by
 refine T.zw.F.ok sc_zw (λvs H Q E h=>?_) (λcdv A outer s H vs Q E hr h=>?_)
 ·obtain⟨_,_,_,_,rfl,_⟩:=h;rfl
 have hu:=ya2 hr
 obtain⟨x,tl,bs,vss,rfl,ix,et,lb,l2,gd,q⟩:=h
 obtain⟨l,xs,rfl,el,is⟩:∃ l xs,x=.ref l∧H l=some (.lst xs)∧Iss H xs (vss.map tls):=by rw[bsT,Is] at ix;exact ix
 have gts:∀ ts∈vss,yaN ts:=λts hm=>(gd ts hm).1
 refine⟨_,(yah (yas (i:=2) sc_zw.nd rfl (Or.inl rfl) (yaZ yaf)) (yah (ybf PassesOwn.never rfl (ych rfl T.Jc (yaa (pv 0) yaf)) (yca (n:=2) rfl (yaC (yan (i:=3) sc_zw.nd rfl (Or.inl rfl)) (yaC (yan (i:=4) sc_zw.nd rfl (Or.inl rfl)) ybG))) (yah (yas (i:=5) sc_zw.nd rfl (Or.inl rfl) yag) (yah (yas (i:=6) sc_zw.nd rfl (Or.inl rfl) (yav yaz (pv 1) (pv 3) (λ_ _=>rfl))) (yaj (ybf PassesOwn.never rfl (ych rfl T.Jc (yaa (pv 4) yaf)) (yca (n:=2) rfl (yaC (yan (i:=7) sc_zw.nd rfl (Or.inl rfl)) (yaC (yan (i:=8) sc_zw.nd rfl (Or.inl rfl)) ybG))) (yah (ybM (PW.pt (yeG (yaL (ycb hu) (yav yaA (pv 8) yag (λ_ _=>rfl)) yaF (yaH _)) (ydo (yhH (ybj (pv 6)))))) (yaj (yaO (ybU PySem.F.plainAttrs_list PySem.F.slot_list_append PySem.F.type_list_append yaI (pv 2) (yaa (yaE (yaa (pv 5) (yaa (pv 3) (yaa (pv 7) yaf)))) yaf)))) ya4) (yah (yas (i:=6) sc_zw.nd rfl (Or.inl rfl) (yd6 (ybT (ycb hu) (yav yaA (pv 8) yag (λ_ _=>rfl)) yaF (yaH _)) (yd0 (yav yaA (pv 8) yag (λ_ _=>rfl))))) (yaj (yas (i:=5) sc_zw.nd rfl (Or.inl rfl) (yau ybt (pv 5) (yaq G_zP (hr.mono (by first | decide | omega)) rfl T.zP.M T.zP.F.kp T.zP.B .nil yaD (yaa (pv 8) yaf)))))))))))) (yaj (yaG (yax yh2 rfl T.JQ yd8 (yaa (pv 2) yaf)))))),?_⟩
 walk_at "st"
 refine⟨Nat.zero_le _,λF hF=>?_⟩
 generalize hH1:upd H F _=H1
 have s1:Same H H1:=hH1▸yae hF _
 have e1:H1 F=some (.lst []):=hH1▸yab
 clear hH1
 walk_at "st"
 have lx:xs.length=vss.length:=by rw[is.len,List.length_map]
 have nF:∀ {b u},H b=some u→b≠F:=λe=>yad e hF
 have few:∀ n,n≤vss.length→(ya9 bs vss n).length≤46:=λn hn=>by have:=ydH (bs:=bs) (λts hm=>(gd ts hm).2.2) n;omega
 refine⟨l,rfl,⟨_,SqL.of (s1 _ _ el)⟩,ybQ (xs:=xs) (λi σ H'=>∃ o3 o4 o5 o6 o7 o8 ys,σ=[some (.ref l),some (.ref tl),some (.ref F),o3,o4,o5,o6,o7,o8]∧Same H H'∧H' F=some (.lst ys)∧Al (TripIs (rm H' F)) ys (ya9 bs vss i)) ?_ ?_ ?_ ?_⟩
 ·exact⟨_,_,_,_,_,_,[],rfl,s1,e1,Al.nil⟩
 ·rintro i σ H' _ ⟨_,_,_,_,_,_,_,rfl,sm,_⟩
  exact SqL.of (sm _ _ el)
 ·rintro k y σ H' p hy ⟨o3,o4,o5,o6,o7,o8,ys,rfl,sm,eF,al⟩ hp
  have hk:k < vss.length:=by have:=(List.getElem?_eq_some_iff.mp hy).1;omega
  obtain⟨y',ey,iy⟩:=is.at' k (by rw[List.length_map];exact hk)
  rw[hy] at ey
  cases ey
  rw[List.getElem_map] at iy
  obtain⟨m,zs,rfl,em,im⟩:∃ m zs,y=.ref m∧H m=some (.lst zs)∧Iss H zs (vss[k].map tlT):=by rw[tls,Is] at iy;exact iy
  have s2:=yae hp (.tup [.int (k:Nat),.ref m])
  refine yex (SqT.of yab) ?_
  generalize upd H' p (.tup [.int (k:Nat),.ref m])=H2 at s2 ⊢
  have sm2:=sm.trans s2
  have eF2:=s2 _ _ eF
  have al2:Al (TripIs (rm H2 F)) ys (ya9 bs vss k):=al.imp λ_ _ _ z=>z.same (ya8 λb u _ e=>s2 _ _ e)
  obtain⟨g1,g2,g3⟩:=gd _ (List.getElem_mem hk)
  have gv:vss.getD k []=vss[k]:=by rw[List.getD_eq_getElem?_getD,List.getElem?_eq_getElem hk];rfl
  have lz:zs.length=vss[k].length:=by rw[im.len,List.length_map]
  walk_at "st"
  refine ybc (SqL.of (sm2 _ _ et)) (v:=.bl (bs.getD k false)) (yak (by rw[List.getElem?_map,List.getElem?_eq_getElem (by omega),List.getD_eq_getElem?_getD,List.getElem?_eq_getElem (by omega)];rfl)) ?_
  walk_at "st"
  have full:∀ j,j < vss[k].length→((vss[k].take j).foldl (yck (k:Nat)) ⟨0,bs.getD k false,0,ya9 bs vss k⟩).js.length≤100:=λj hj=>by
   rw[yfh,List.length_append]
   have h1:=few k (by omega)
   have h2:=yd2 (k:Nat) (vss[k].take j) (bs.getD k false) 0 0
   have h3:nts (vss[k].take j)≤nts vss[k]:=(List.take_sublist j vss[k]).countP_le
   show(ya9 bs vss k).length+(ybo (k:Nat) (bs.getD k false) 0 0 (vss[k].take j)).length≤100
   omega
  refine⟨m,rfl,⟨_,SqL.of (sm2 _ _ em)⟩,ybQ (xs:=zs) (λj σ H'=>∃ o7 o8 ys,σ=[some (.ref l),some (.ref tl),some (.ref F),some (.int (k:Nat)),some (.ref m),some (.int ((vss[k].take j).foldl (yck (k:Nat)) ⟨0,bs.getD k false,0,ya9 bs vss k⟩).ap),some (.bl ((vss[k].take j).foldl (yck (k:Nat)) ⟨0,bs.getD k false,0,ya9 bs vss k⟩).cm),o7,o8]∧Same H H'∧H' F=some (.lst ys)∧Al (TripIs (rm H' F)) ys ((vss[k].take j).foldl (yck (k:Nat)) ⟨0,bs.getD k false,0,ya9 bs vss k⟩).js) ?_ ?_ ?_ ?_⟩
  ·exact⟨_,_,ys,rfl,sm2,eF2,al2⟩
  ·rintro j σ H' _ ⟨_,_,_,rfl,sm,_⟩
   exact SqL.of (sm _ _ em)
  ·rintro j z σ H3 p3 hz ⟨o7,o8,ys3,rfl,sm3,eF3,al3⟩ hp3
   have hj:j < vss[k].length:=by have:=(List.getElem?_eq_some_iff.mp hz).1;omega
   obtain⟨z',ez,iz⟩:=im.at' j (by rw[List.length_map];exact hj)
   rw[hz] at ez
   cases ez
   rw[List.getElem_map] at iz
   have gt:=g1 _ (List.getElem_mem hj)
   have ft:=ydX (yck (k:Nat)) ⟨0,bs.getD k false,0,ya9 bs vss k⟩ vss[k] j hj
   have jj:=yju (k:Nat) (vss[k].take j) ⟨0,bs.getD k false,0,ya9 bs vss k⟩
   rw[List.length_take,Nat.min_eq_left (by omega)] at jj
   have fw:=full j hj
   generalize (vss[k].take j).foldl (yck (k:Nat)) ⟨0,bs.getD k false,0,ya9 bs vss k⟩=S at ft jj fw al3 ⊢
   generalize vss[k][j]=tq at iz gt ft
   have jj:S.j=j:=by rw[jj];exact Nat.zero_add _
   have s4:=yae hp3 (.tup [.int (j:Nat),z])
   refine yex (SqT.of yab) ?_
   generalize upd H3 p3 (.tup [.int (j:Nat),z])=H4 at s4 ⊢
   have sm4:=sm3.trans s4
   have eF4:=s4 _ _ eF3
   have al4:Al (TripIs (rm H4 F)) ys3 S.js:=al3.imp λ_ _ _ z=>z.same (ya8 λb u _ e=>s4 _ _ e)
   obtain⟨a,ws,rfl,ea,w0,w3⟩:=(iz.same sm4).tl0
   have fin:∀ (D:ydn) H5 ys5,(∀ σ' H',(∃ o7 o8 ys,σ'=[some (.ref l),some (.ref tl),some (.ref F),some (.int (k:Nat)),some (.ref m),some (.int (yck (k:Nat) S tq).ap),some (.bl (yck (k:Nat) S tq).cm),o7,o8]∧Same H H'∧H' F=some (.lst ys)∧Al (TripIs (rm H' F)) ys (yck (k:Nat) S tq).js)→D.nx σ' H')→Same H4 H5∨(∃ H6 w,Same H4 H6∧H5=upd H6 F (.lst w))→Same H H5→H5 F=some (.lst ys5)→Al (TripIs (rm H5 F)) ys5 (yck (k:Nat) S tq).js→ylQ (yku (ykm (tOp (ynS K) (tOp (ymL K) (ycv 8) (tC (.int 0))) (tC (.str "note"))) (tOp (ymL K) (ycv 8) (tC (.int 3)))) (yce 6)) (yku (tOp (rI0 λi j=>V.int (i+j)) (ycv 5) (yej yfX [] E0 (ybS (ycv 8) ygB))) (yce 5)) D [some (.ref l),some (.ref tl),some (.ref F),some (.int (k:Nat)),some (.ref m),some (.int S.ap),some (.bl S.cm),some (.int (j:Nat)),some (.ref a)] H5:=by
    intro D H5 ys5 hD ch sm5 eF5 al5
    have iz5:=iz.same sm5
    obtain⟨a',ws',e',ea5,w05,w35⟩:=iz5.tl0
    cases e'
    have go:∀ H6,Same H5 H6→D.nx [some (.ref l),some (.ref tl),some (.ref F),some (.int (k:Nat)),some (.ref m),some (.int (S.ap+tg tq)),some (.bl (ydC tq)),some (.int (j:Nat)),some (.ref a)] H6:=λH6 s6=>hD _ _ ⟨_,_,ys5,rfl,sm5.trans s6,s6 _ _ eF5,al5.imp λ_ _ _ z=>z.same (ya8 λb u _ e=>s6 _ _ e)⟩
    walk_at "st"
    refine ya0 (SqT.of ea5) (yak (j:=0) w05) ?_
    walk_at "st"
    refine ybY ?_
    rw[yek]
    refine ydz ?_
    cases hn:isN tq with
    | true =>
     refine i_T ?_
     walk_at "st"
     refine ya0 (SqT.of ea5) (yak (j:=3) (w35 hn)) ?_
     walk_at "st"
     exact⟨_,tq,rfl,gt,iz5,λH6 s6=>yoR (go H6 s6)⟩
    | false =>
     refine i_F ?_
     have et:ydC tq=false:=by cases tq with
      | note=>cases hn
      | pause=>rfl
      | whole=>rfl
     walk_at "st"
     rw[et] at go
     exact⟨_,tq,rfl,gt,iz5,λH6 s6=>yoR (go H6 s6)⟩
   have nx:∀ (σ':St) (H':Hp),(∃ o7 o8 ys,σ'=[some (.ref l),some (.ref tl),some (.ref F),some (.int (k:Nat)),some (.ref m),some (.int (yck (k:Nat) S tq).ap),some (.bl (yck (k:Nat) S tq).cm),o7,o8]∧Same H H'∧H' F=some (.lst ys)∧Al (TripIs (rm H' F)) ys (yck (k:Nat) S tq).js)→∃ o7 o8 ys,σ'=[some (.ref l),some (.ref tl),some (.ref F),some (.int (k:Nat)),some (.ref m),some (.int ((vss[k].take (j+1)).foldl (yck (k:Nat)) ⟨0,bs.getD k false,0,ya9 bs vss k⟩).ap),some (.bl ((vss[k].take (j+1)).foldl (yck (k:Nat)) ⟨0,bs.getD k false,0,ya9 bs vss k⟩).cm),o7,o8]∧Same H H'∧H' F=some (.lst ys)∧Al (TripIs (rm H' F)) ys ((vss[k].take (j+1)).foldl (yck (k:Nat)) ⟨0,bs.getD k false,0,ya9 bs vss k⟩).js:=fun σ' H' z=>by rw[ft];exact z
   have njs:∀ (b:Bool),(isN tq&&!S.cm)=b→(yck (k:Nat) S tq).js=S.js++if b=true then [(⟨S.ap,(k:Nat),(match tq with | .note hs _ _ _ _ _ _=>hs | _=>[])⟩,j)] else []:=λb hb=>by
    show S.js++yhW (k:Nat) S.cm S.ap S.j tq=_
    subst hb
    rw[jj]
    congr 1
    cases tq with
    | note hs p ti be wd op cl=>cases h:S.cm<;>rfl
    | pause=>rfl
    | whole=>rfl
   walk_at "st"
   refine ya0 (SqT.of ea) (yak (j:=0) w0) ?_
   walk_at "st"
   refine ybY ?_
   rw[yek]
   refine ydz ?_
   cases hn:isN tq with
   | false =>
    refine i_F (i_F ?_)
    refine fin _ H4 ys3 nx (.inl (Same.refl _)) sm4 eF4 ?_
    rw[njs false (by rw[hn];rfl)]
    simpa using al4
   | true =>
    refine i_T ?_
    walk_at "st"
    by_cases hc:S.cm=true
    ·rw[if_neg (by rw[hc];simp)]
     refine fin _ H4 ys3 nx (.inl (Same.refl _)) sm4 eF4 ?_
     rw[njs false (by rw[hn,hc];rfl)]
     simpa using al4
    ·rw[if_pos (by simpa using hc)]
     walk_at "st"
     refine⟨.inl ⟨rfl,_,SqL.of eF4⟩,?_⟩
     walk_at "st"
     refine⟨by show 3≤sizeLine;decide,λp5 h5=>?_⟩
     have s5:=yae h5 (.tup [.int S.ap,.int (k:Nat),.int (j:Nat)])
     have n5:p5≠F:=(yad eF4 h5).symm
     walk_at "st"
     refine ydb (s5 _ _ eF4) (yam (by rw[al4.1];omega)) ?_
     refine fin _ _ (ys3++[.ref p5]) nx (.inr ⟨_,_,s5,rfl⟩) (yaJ hF (sm4.trans s5)) yab ?_
     rw[njs true (by rw[hn];simpa using hc)]
     exact Al.snoc (al4.imp λ_ _ _ z=>z.same ((ya8 λb u _ e=>s5 _ _ e).trans ycF)) ⟨p5,rfl,by rw[yaB n5,yai n5];exact yab⟩
  ·rintro σ H' ⟨o7,o8,ys3,rfl,sm3,eF3,al3⟩
   rw[lz,List.take_length,yfh] at al3
   refine⟨_,_,_,_,_,_,ys3,rfl,sm3,eF3,?_⟩
   rw[yiY,gv]
   exact al3
 ·rintro σ H' ⟨o3,o4,o5,o6,o7,o8,ys,rfl,sm,eF,al⟩
  rw[lx] at al
  walk_at "st"
  have alT:Al (TripIs H') ys (ya9 bs vss vss.length):=al.imp λ_ _ _ z=>z.same (yaK _ _)
  have ly:=alT.1
  have fw:=few vss.length (Nat.le_refl _)
  refine⟨F,ys,3,NJ (ya9 bs vss vss.length),rfl,SqL.of eF,by omega,⟨rfl,by decide,λi hi=>?_⟩,λi j hi hj e=>?_,λsl p hsl cm=>?_⟩
  ·rw[ly] at hi
   obtain⟨v,ev,a,rfl,ea⟩:=alT.2 i hi
   have eg:(ya9 bs vss vss.length).getD i q0=(ya9 bs vss vss.length)[i]:=by rw[List.getD_eq_getElem?_getD,List.getElem?_eq_getElem hi];rfl
   refine⟨a,ev,SqT.of ?_,rfl⟩
   unfold NJ
   rw[eg]
   exact ea
  ·rw[ly] at hi hj
   have eg:∀ i,(hi:i < (ya9 bs vss vss.length).length)→(ya9 bs vss vss.length).getD i q0=(ya9 bs vss vss.length)[i]:=λi hi=>by rw[List.getD_eq_getElem?_getD,List.getElem?_eq_getElem hi];rfl
   unfold NJ at e
   rw[eg i hi,eg j hj] at e
   injection e with e1 e2
   injection e2 with e2 _
   exact yhJ (ycY gts _) hi hj ⟨e2,.inl e1⟩
  rw[ly] at cm
  have tm:=yqd cm
  have eo:=yly (yeh gts _) tm
  have s3:=yae hsl (.lst (p.toList.map λi=>ys.getD i .non))
  have pm:=cm.shuf.perm
  rw[eo] at pm s3 ⊢
  refine q sl _ _ (sm.trans s3) (sm.free hsl) yab ⟨by rw[List.length_map,List.length_map],λi hi=>?_⟩ pm
  rw[List.length_map] at hi
  have hm:=List.mem_range.mp (pm.mem_iff.mp (List.getElem_mem hi))
  obtain⟨v,ev,tv⟩:=alT.2 _ hm
  refine⟨v,?_,?_⟩
  ·rw[List.getElem?_map,List.getElem?_eq_getElem hi]
   show some (ys.getD _ .non)=_
   rw[List.getD_eq_getElem?_getD,ev]
   rfl
  ·rw[List.getElem_map,List.getD_eq_getElem?_getD,List.getElem?_eq_getElem hm]
   exact tv.same s3
theorem ykz (key:Int)(c:Cn)(hs:List Hd)(h:Hd):ycP key c ((hs++[h]).map (·.1)) ((hs++[h]).map (·.2))=ycP key c (hs.map (·.1)) (hs.map (·.2))++[hrP key (ybk c (hs.map (·.1)) (hs.map (·.2))) h.1 h.2]:=by
 rw[List.map_append,List.map_append]
 exact ycK key h.1 h.2 _ _ _ (by rw[List.length_map,List.length_map])
theorem yle (c:Cn)(hs:List Hd)(h:Hd):ybk c ((hs++[h]).map (·.1)) ((hs++[h]).map (·.2))=hrC (ybk c (hs.map (·.1)) (hs.map (·.2))) h.1 h.2:=by
 rw[List.map_append,List.map_append]
 exact ycJ h.1 h.2 _ _ _ (by rw[List.length_map,List.length_map])
structure PIn where
 key:Int
 l:Addr
 tl:Addr
 pd:Addr
 fd:Addr
 nl:Addr
 k:Nat
 j:Nat
 hs:List Hd
 c:Cn
 kvs:List (List Key×V)
 Hs:Hp
structure yrC (g:PIn):Prop where
 k0:-7≤g.key
 k7:g.key≤7
 at_:∃ xs m zs a ws hl hv,g.Hs g.l=some (.lst xs)∧xs[g.k]?=some (.ref m)∧g.Hs m=some (.lst zs)∧zs[g.j]?=some (.ref a)∧g.Hs a=some (.tup ws)∧ws[1]?=some (.ref hl)∧g.Hs hl=some (.lst hv)∧Iss g.Hs hv (g.hs.map hdT)
 np:g.Hs g.pd=none
 nn:g.Hs g.nl=none
 nfp:g.fd≠g.pd
 gh:ycz g.hs
 vk:yb8 g.kvs [.inl (g.k:Nat),.inl (g.j:Nat)]=some (.ref g.nl)
structure PInS (g:PIn) (H1:Hp) (m:Nat) (n0:Nat) (H':Hp):Prop where
 keep:∀ b u,b≠g.pd→b≠g.nl→H1 b=some u→H' b=some u
 sm:Same g.Hs H'
 fd:H' g.fd=some (.dT g.kvs)
 pd:∃ pk,H' g.pd=some (.dT pk)∧CntT pk (ybk g.c ((g.hs.take m).map (·.1)) ((g.hs.take m).map (·.2)))∧pk.length≤n0+m
 nl:∃ ys,H' g.nl=some (.lst ys)∧Iss (tpo H') ys ((ycP g.key g.c ((g.hs.take m).map (·.1)) ((g.hs.take m).map (·.2))).map pT)
theorem PInS.same {g:PIn}{H1:Hp}{m n0:Nat}{H' H2:Hp}(h:PInS g H1 m n0 H')(s:Same H' H2):PInS g H1 m n0 H2 :=
 ⟨λb u n1 n2 e=>s _ _ (h.keep b u n1 n2 e),h.sm.trans s,s _ _ h.fd,let ⟨pk,e,z⟩:=h.pd;⟨pk,s _ _ e,z⟩,let ⟨ys,e,z⟩:=h.nl;⟨ys,s _ _ e,z.same (ykd s)⟩⟩
theorem yne {σ:St}{H:Hp}{Q:VK}{td ty tx:TE}(q:td σ H λx H1=>∃ a,x=.ref a∧IsD H1 a∧ty σ H1 λy H2=>tx σ H2 λz H3=>∃ o,DGet H3 a y o∧Q (o.getD z) H3):yhu td ty tx σ H Q:=q
theorem ylt {σ:St}{H:Hp}{D:ydn}{td ty tv:TE}(q:tv σ H λv H1=>td σ H1 λx H2=>ty σ H2 λy H3=>∃ a H4,x=.ref a∧DPut H3 a y v H4∧D.nx σ H4):yl5 td ty tv D σ H:=q
theorem yjw {σ:St}{H:Hp}{p:Addr}{a b c:V}{m n o:Nat}{N:St→Hp→Prop}(s:SqT K H p [a,b,c])(q:N (((σ.set m (some a)).set n (some b)).set o (some c)) H):ymP K 3 (yed (yce m) (yed (yce n) (yed (yce o) ymO))) (.ref p) σ H N:=⟨p,_,rfl,s,rfl,a,_,rfl,b,_,rfl,c,_,rfl,rfl,q⟩
theorem ypC {cdv:Value}{A:Around}{outer:List Env}{s0:Shared}{H0:Hp}{E:XK}(T:Txt K mg t)(G_zf:FnOk P w K mg base CX0 1 t.f_zf t.d_zf ["_law_key","_law_step"] yge)(hr:Room 3 (A.deeper (PyProof.Rows.envOfC "_law_pitches" (yac (top 50)) s0.heap.objs.size t.f_zn cdv))) :
  ∃ te,PS (ybz CX0 P w K mg base ["_law_key","_law_voices","_law_ties","_law_put","_law_found","_law_at","_law_k","_law_j","_law_mark","_law_step","_law_octave"] "_law_pitches" (yac (top 50)) t.f_zn cdv A outer s0 H0 E).nox ((yb9 (yaV 50 2)).getD 1 (.Pass ⟨0,0,0,0⟩)) te∧∀ D (g:PIn) o5 o8 o9 o10 n0 H1,yrC g→PInS g H1 0 n0 H1→n0≤400 →
   (∀ o8 o9 o10 H',PInS g H1 g.hs.length n0 H'→D.nx [some (.int g.key),some (.ref g.l),some (.ref g.tl),some (.ref g.pd),some (.ref g.fd),o5,some (.int (g.k:Nat)),some (.int (g.j:Nat)),o8,o9,o10] H')→te D [some (.int g.key),some (.ref g.l),some (.ref g.tl),some (.ref g.pd),some (.ref g.fd),o5,some (.int (g.k:Nat)),some (.int (g.j:Nat)),o8,o9,o10] H1:=by
 have hu:=ya2 hr
 refine⟨_,(ybf PassesOwn.never rfl (yaX (yav yaA (yav yaz (yav yaz (pv 1) (pv 6) (λ_ _=>rfl)) (pv 7) (λ_ _=>rfl)) yag (λ_ _=>rfl))) (yca (n:=3) rfl (yaC (yan (i:=8) sc_zn.nd rfl (Or.inl rfl)) (yaC (yan (i:=9) sc_zn.nd rfl (Or.inl rfl)) (yaC (yan (i:=10) sc_zn.nd rfl (Or.inl rfl)) ybG)))) (yah (ybM (yaL ymU (pv 8) yaF (yaH _)) (yaj (yd1 (h1 hu) (pv 3) (yaE (yaa (pv 9) (yaa (pv 10) yaf))) (yau ycR (ybU PySem.F.plainAttrs_list PySem.F.slot_list_index PySem.F.type_list_index ye6 (yaZ (yaa yaF (yaa yaF (yaa yaF (yaa yaF (yaa yaF yaf)))))) (yaa (pv 8) yaf)) yag) rfl)) ya4) (yaj (yaO (ybU PySem.F.plainAttrs_list PySem.F.slot_list_append PySem.F.type_list_append yaI (yg0 (h1 hu) (pv 4) (yaE (yaa (pv 6) (yaa (pv 7) yaf))) (λ_ _=>rfl)) (yaa (yaE (yaa (pv 9) (yaa (yeQ (h1 hu) (pv 3) (yaE (yaa (pv 9) (yaa (pv 10) yaf))) (yaq G_zf (hr.mono (by first | decide | omega)) rfl T.zf.M T.zf.F.kp T.zf.B .nil yaD (yaa (pv 0) (yaa (pv 9) yaf))) ⟨rfl,rfl,rfl,rfl⟩) (yaa (pv 10) yaf)))) yaf)))))),λD g o5 o8 o9 o10 n0 H1 c h0 l4 q=>?_⟩
 obtain⟨xs,m,zs,a,ws,hl,hv,el,ex,em,ez,ea,ew,ehl,ihv⟩:=c.at_
 have sm:=h0.sm
 walk_at "st"
 refine ybc (SqL.of (sm _ _ el)) (yak ex) ?_
 walk_at "st"
 refine ybc (SqL.of (sm _ _ em)) (yak ez) ?_
 walk_at "st"
 refine ya0 (SqT.of (sm _ _ ea)) (yak (j:=1) ew) ?_
 walk_at "st"
 have lh:hv.length=g.hs.length:=by rw[ihv.len,List.length_map]
 refine⟨hl,rfl,⟨_,SqL.of (sm _ _ ehl)⟩,ycy (xs:=hv) (λi σ H'=>∃ o8 o9 o10,σ=[some (.int g.key),some (.ref g.l),some (.ref g.tl),some (.ref g.pd),some (.ref g.fd),o5,some (.int (g.k:Nat)),some (.int (g.j:Nat)),o8,o9,o10]∧PInS g H1 i n0 H') ?_ ?_ ?_ ?_⟩
 ·exact⟨_,_,_,rfl,h0⟩
 ·rintro i σ H' _ ⟨_,_,_,rfl,h⟩
  exact SqL.of (h.sm _ _ ehl)
 ·rintro i x σ H' N hN hx ⟨o8,o9,o10,rfl,h⟩
  have hi:i < g.hs.length:=by have:=(List.getElem?_eq_some_iff.mp hx).1;omega
  obtain⟨x',e',ix⟩:=ihv.at' i (by rw[List.length_map];exact hi)
  rw[hx] at e'
  cases e'
  rw[List.getElem_map] at ix
  obtain⟨ha,rfl,eh⟩:=(ix.same h.sm).head
  have gh:=c.gh.2 _ (List.getElem_mem hi)
  have tk:=List.take_succ_eq_append_getElem hi
  have nx:∀ σ' H',(∃ o8 o9 o10,σ'=[some (.int g.key),some (.ref g.l),some (.ref g.tl),some (.ref g.pd),some (.ref g.fd),o5,some (.int (g.k:Nat)),some (.int (g.j:Nat)),o8,o9,o10]∧PInS g H1 (i+1) n0 H')→N σ' H':=hN
  generalize g.hs[i]=hd at eh gh tk
  obtain⟨gp,om⟩:=gh
  have app:∀ (D:ydn) H2,(∀ σ' H',N σ' H'→D.nx σ' H')→(∀ b u,b≠g.pd→b≠g.nl→H1 b=some u→H2 b=some u)→Same g.Hs H2→H2 g.fd=some (.dT g.kvs)→(∃ pk,H2 g.pd=some (.dT pk)∧CntT pk (hrC (ybk g.c ((g.hs.take i).map (·.1)) ((g.hs.take i).map (·.2))) hd.1 hd.2)∧pk.length≤n0+(i+1))→(∃ ys,H2 g.nl=some (.lst ys)∧Iss (tpo H2) ys ((ycP g.key g.c ((g.hs.take i).map (·.1)) ((g.hs.take i).map (·.2))).map pT)) →
    yjK (tBM K "list" ydl (ylj (ycv 4) (ylo (ybS (ycv 6) (ybS (ycv 7) ygB)))) (ybS (ylo (ybS (ycv 9) (ybS (yhu (ycv 3) (ylo (ybS (ycv 9) (ybS (ycv 10) ygB))) (yej yge [] E0 (ybS (ycv 0) (ybS (ycv 9) ygB)))) (ybS (ycv 10) ygB)))) ygB)) D [some (.int g.key),some (.ref g.l),some (.ref g.tl),some (.ref g.pd),some (.ref g.fd),o5,some (.int (g.k:Nat)),some (.int (g.j:Nat)),some (.str hd.2),some (.int hd.1.st),some (.int hd.1.oc)] H2:=by
   rintro D H2 hD kp sm2 ef ⟨pk,ep,cn,lp⟩ ⟨ys,en,iy⟩
   walk_at "st"
   refine⟨by show 2≤sizeLine;decide,λp3 h3=>?_⟩
   have s3:=yae h3 (.tup [.int (g.k:Nat),.int (g.j:Nat)])
   have e3:upd H2 p3 (.tup [.int (g.k:Nat),.int (g.j:Nat)]) p3=some (.tup [.int (g.k:Nat),.int (g.j:Nat)]):=yab
   generalize upd H2 p3 (.tup [.int (g.k:Nat),.int (g.j:Nat)])=H3 at s3 e3 ⊢
   refine⟨g.fd,.ref g.nl,rfl,c.vk▸DGet.t (k:=[.inl (g.k:Nat),.inl (g.j:Nat)]) (s3 _ _ ef) e3,.inl ⟨rfl,_,SqL.of (s3 _ _ en)⟩,?_⟩
   walk_at "st"
   refine yne ?_
   walk_at "st"
   refine⟨g.pd,rfl,.inr ⟨pk,.inl (s3 _ _ ep)⟩,?_⟩
   walk_at "st"
   refine⟨by show 2≤sizeLine;decide,λp4 h4=>?_⟩
   have s4:=yae h4 (.tup [.int hd.1.st,.int hd.1.oc])
   have e4:upd H3 p4 (.tup [.int hd.1.st,.int hd.1.oc]) p4=some (.tup [.int hd.1.st,.int hd.1.oc]):=yab
   generalize upd H3 p4 (.tup [.int hd.1.st,.int hd.1.oc])=H4 at s4 e4 ⊢
   walk_at "st"
   refine⟨g.key,hd.1.st,rfl,c.k0,c.k7,gp.1,gp.2.1,λH5 s5=>⟨_,DGet.t (k:=[.inl hd.1.st,.inl hd.1.oc]) (s5 _ _ (s4 _ _ (s3 _ _ ep))) (s5 _ _ e4),?_⟩⟩
   have eo:(yb8 pk [.inl hd.1.st,.inl hd.1.oc]).getD (.int (klV g.key hd.1.st))=.int (hrP g.key (ybk g.c ((g.hs.take i).map (·.1)) ((g.hs.take i).map (·.2))) hd.1 hd.2).ln:=by
    rw[cn _ _ gp.1 gp.2.1]
    show _=V.int ((hrC (ybk g.c ((g.hs.take i).map (·.1)) ((g.hs.take i).map (·.2))) hd.1 hd.2 (7*hd.1.oc+hd.1.st)).getD (klV g.key hd.1.st))
    cases hrC (ybk g.c ((g.hs.take i).map (·.1)) ((g.hs.take i).map (·.2))) hd.1 hd.2 (7*hd.1.oc+hd.1.st)<;>rfl
   rw[eo]
   walk_at "st"
   refine⟨by show 3≤sizeLine;decide,λp6 h6=>?_⟩
   have s6:=yae h6 (.tup [.int hd.1.st,.int (hrP g.key (ybk g.c ((g.hs.take i).map (·.1)) ((g.hs.take i).map (·.2))) hd.1 hd.2).ln,.int hd.1.oc])
   have e6:upd H5 p6 (.tup [.int hd.1.st,.int (hrP g.key (ybk g.c ((g.hs.take i).map (·.1)) ((g.hs.take i).map (·.2))) hd.1 hd.2).ln,.int hd.1.oc]) p6=some (.tup [.int hd.1.st,.int (hrP g.key (ybk g.c ((g.hs.take i).map (·.1)) ((g.hs.take i).map (·.2))) hd.1 hd.2).ln,.int hd.1.oc]):=yab
   generalize upd H5 p6 (.tup [.int hd.1.st,.int (hrP g.key (ybk g.c ((g.hs.take i).map (·.1)) ((g.hs.take i).map (·.2))) hd.1 hd.2).ln,.int hd.1.oc])=H6 at s6 e6 ⊢
   have s26:=((s3.trans s4).trans s5).trans s6
   have en6:=s26 _ _ en
   have n6:p6≠g.nl:=λz=>by rw[z,en6] at e6;cases e6
   have npd:g.pd≠g.nl:=λz=>by rw[z,en] at ep;cases ep
   have nfd:g.fd≠g.nl:=λz=>by rw[z,en] at ef;cases ef
   walk_at "st"
   refine ydb en6 (yam ?_) (hD _ _ (hN _ _ ⟨_,_,_,rfl,⟨λb u n1 n2 e=>?_,λb u e=>?_,?_,⟨pk,?_,?_,lp⟩,⟨_,yab,?_⟩⟩⟩))
   ·rw[iy.len,List.length_map]
    have:=ycC g.key ((g.hs.take i).map (·.1)) ((g.hs.take i).map (·.2)) g.c
    rw[List.length_map,List.length_take] at this
    have:=c.gh.1
    omega
   ·rw[yai n2];exact s26 _ _ (kp b u n1 n2 e)
   ·rw[yai (yad e c.nn)];exact s26 _ _ (sm2 _ _ e)
   ·rw[yai nfd];exact s26 _ _ ef
   ·rw[yai npd];exact s26 _ _ ep
   ·rw[tk,yle];exact cn
   ·rw[tk,ykz,List.map_append]
    have up:Same (tpo H2) (tpo (upd H6 g.nl (.lst (ys++[.ref p6])))):=λb u e=>by
     obtain⟨e,ws,rfl⟩:=yb0 e
     have nb:b≠g.nl:=λz=>by rw[z,en] at e;cases e
     exact ydS (by rw[yai nb];exact s26 _ _ e)
    exact Iss.app (iy.same up) (yal (yeC (ydS (by rw[yai n6];exact e6))) (yay _))
  obtain⟨pk,ep,cn,lp⟩:=h.pd
  refine yjw (SqT.of eh) ?_
  walk_at "st"
  refine⟨rfl,ydz ?_⟩
  by_cases em:hd.2=""
  ·rw[if_neg (by rw[em];decide)]
   refine yls ?_
   refine app { nx:=N,rt:=D.rt,bk:=D.nx,ct:=N } H' (λ_ _ z=>z) h.keep h.sm h.fd ⟨pk,ep,?_,by omega⟩ h.nl
   unfold hrC
   rw[if_pos em]
   exact cn
  ·rw[if_pos (by simpa using λz=>em z)]
   obtain⟨_,jx,j5,hit,hno,ej⟩:=yjT (om.resolve_left em)
   refine ylt ?_
   walk_at "st"
   refine⟨by show 5≤sizeLine;decide,λp2 h2=>?_⟩
   have s2:=yae h2 (.lst [V.str "--",V.str "-",V.str "=",V.str "+",V.str "++"])
   have e2:upd H' p2 (.lst [V.str "--",V.str "-",V.str "=",V.str "+",V.str "++"]) p2=some (.lst [V.str "--",V.str "-",V.str "=",V.str "+",V.str "++"]):=yab
   generalize upd H' p2 (.lst [V.str "--",V.str "-",V.str "=",V.str "+",V.str "++"])=H2 at s2 e2 ⊢
   refine⟨.inl ⟨rfl,_,SqL.of e2⟩,?_⟩
   walk_at "st"
   refine⟨p2,_,_,jx,rfl,rfl,SqL.of e2,rfl,rfl,j5,hit,hno,?_⟩
   walk_at "st"
   refine⟨by show 2≤sizeLine;decide,λp4 h4=>?_⟩
   have s4:=yae h4 (.tup [.int hd.1.st,.int hd.1.oc])
   have e4:upd H2 p4 (.tup [.int hd.1.st,.int hd.1.oc]) p4=some (.tup [.int hd.1.st,.int hd.1.oc]):=yab
   generalize upd H2 p4 (.tup [.int hd.1.st,.int hd.1.oc])=H4 at s4 e4 ⊢
   have h4':=h.same (s2.trans s4)
   have ep4:=(s2.trans s4) _ _ ep
   have:=c.gh.1
   refine⟨g.pd,_,rfl,DPut.t (k:=[.inl hd.1.st,.inl hd.1.oc]) ep4 e4 (yam (by omega)),?_⟩
   rw[ej]
   obtain⟨ys,en,iy⟩:=h4'.nl
   have npd:g.nl≠g.pd:=λz=>by rw[z,ep4] at en;cases en
   have nfd:g.fd≠g.pd:=c.nfp
   ·refine app { nx:=N,rt:=D.rt,bk:=D.nx,ct:=N } _ (λ_ _ z=>z) (λb u n1 n2 e=>by rw[yai n1];exact h4'.keep b u n1 n2 e) (λb u e=>by rw[yai (yad e c.np)];exact h4'.sm _ _ e) (by rw[yai nfd];exact h4'.fd) ⟨_,yab,?_,?_⟩ ⟨ys,by rw[yai npd];exact en,iy.same λb u e=>?_⟩
    ·unfold hrC
     rw[if_neg em]
     exact cn.put gp.1 gp.2.1 _
    ·have:=ybF pk [.inl hd.1.st,.inl hd.1.oc] (.int (unm hd.2))
     omega
    ·obtain⟨e,ws,rfl⟩:=yb0 e
     have nb:b≠g.pd:=λz=>by rw[z,ep4] at e;cases e
     exact ydS (by rw[yai nb];exact e)
 ·rintro σ H' ⟨o8,o9,o10,rfl,h⟩
  rw[lh] at h
  exact q _ _ _ _ h
def ymJ:Sp:=λvs H Q _=>∃ (key:Int) (x:V) (tl:Addr) (bs:List Bool) (vss:List (List Tl)),vs=[.int key,x,.ref tl]∧-7≤key∧key≤7∧Is H x (bsT vss)∧H tl=some (.lst (bs.map V.bl))∧bs.length=vss.length∧vss.length≤2∧(∀ ts∈vss,yaN ts∧ts.length≤60∧nts ts≤23) ∧
 ∀ (fd:Addr) (H':Hp) (kvs:List (List Key×V)),Same H H'→H fd=none→H' fd=some (.dT kvs)→(∀ (i:Nat) q,(ya9 bs vss vss.length)[i]?=some q→∃ v ps,(ybr key bs vss)[i]?=some ps∧yb8 kvs [.inl q.1.vo,.inl ((q.2:Nat):Int)]=some v∧Is H' v (lT ps)∧∃ a,v=.ref a∧H a=none)→Q (.ref fd) H'
structure yqZ (Hz H1:Hp) (key:Int) (rows:List Row) (mk:List (List Str)) (J:List (Rw×Nat)) (pd fd:Addr) (os:List Nat) (H':Hp):Prop where
 keep:∀ b u,b≠pd→b≠fd→H1 b=some u→H' b=some u
 pd:∃ pk,H' pd=some (.dT pk)∧CntT pk (ygX rows (mkF mk) c0 os)∧pk.length≤4*os.length
 fd:∃ kvs,H' fd=some (.dT kvs)∧kvs.length≤os.length∧∀ n∈os,∀ q,J[n]?=some q→∃ l ys,yb8 kvs [.inl q.1.vo,.inl ((q.2:Nat):Int)]=some (.ref l)∧H' l=some (.lst ys)∧Hz l=none∧Iss (tpo H') ys ((ycr key rows mk os n).map pT)
theorem yiz {key:Int}{rows:List Row}{mk:List (List Str)}{os:List Nat}{n j:Nat}(h:j≠n):ycr key rows mk (os++[n]) j=ycr key rows mk os j:=by
 unfold ycr
 rw[ydI,yfM _ h]
theorem yjj {key:Int}{rows:List Row}{mk:List (List Str)}{os:List Nat}{n:Nat}(h:n∉os):ycr key rows mk (os++[n]) n=ylv key (ygX rows (mkF mk) c0 os) (rows.getD n r0) (mkF mk n):=by
 unfold ycr
 rw[ydI,(yfN _ _ (by rw[yc0];exact h)).2]
 rfl
theorem ylT {kvs:List (List Key×V)}{k:List Key}{v:V}:(ydq kvs k v).length≤kvs.length+1:=ybF _ _ _
theorem yre {cdv:Value}{A:Around}{outer:List Env}{s0:Shared}{H0:Hp}{E:XK}(T:Txt K mg t)(G_zw:FnOk P w K mg base CX0 3 t.f_zw t.d_zw ["_law_voices","_law_ties"] yeT)(G_zf:FnOk P w K mg base CX0 1 t.f_zf t.d_zf ["_law_key","_law_step"] yge)(hr:Room 3 (A.deeper (PyProof.Rows.envOfC "_law_pitches" (yac (top 50)) s0.heap.objs.size t.f_zn cdv))) :
  ∃ te,PS (ybz CX0 P w K mg base ["_law_key","_law_voices","_law_ties","_law_put","_law_found","_law_at","_law_k","_law_j","_law_mark","_law_step","_law_octave"] "_law_pitches" (yac (top 50)) t.f_zn cdv A outer s0 H0 E).nox (yaV 50 2) te∧∀ D (H H1:Hp) (key:Int) (x:V) (tl pd fd:Addr) (bs:List Bool) (vss:List (List Tl)) o5 o6 o7 o8 o9 o10,-7≤key→key≤7→Is H x (bsT vss)→H tl=some (.lst (bs.map V.bl))→bs.length=vss.length→vss.length≤2→(∀ ts∈vss,yaN ts∧ts.length≤60∧nts ts≤23)→Same H H1→H pd=none→H fd=none→fd≠pd→H1 pd=some (.dT [])→H1 fd=some (.dT []) →
   (∀ o5 o6 o7 o8 o9 o10 (H':Hp) (kvs:List (List Key×V)),Same H H'→H' fd=some (.dT kvs)→(∀ (i:Nat) q,(ya9 bs vss vss.length)[i]?=some q→∃ v ps,(ybr key bs vss)[i]?=some ps∧yb8 kvs [.inl q.1.vo,.inl ((q.2:Nat):Int)]=some v∧Is H' v (lT ps)∧∃ a,v=.ref a∧H a=none)→D.nx [some (.int key),some x,some (.ref tl),some (.ref pd),some (.ref fd),o5,o6,o7,o8,o9,o10] H') →
   te D [some (.int key),some x,some (.ref tl),some (.ref pd),some (.ref fd),o5,o6,o7,o8,o9,o10] H1:=by
 have hu:=ya2 hr
 obtain⟨t1,pf1,k1⟩:=ypC (cdv:=cdv) (A:=A) (outer:=outer) (s0:=s0) (H0:=H0) (E:=E) T G_zf hr
 refine⟨_,show PS _ (yaV 50 2) _ from ybf PassesOwn.never rfl (yaX (yaq G_zw (hr.mono (by first | decide | omega)) rfl T.zw.M T.zw.F.kp T.zw.B .nil yaD (yaa (pv 1) (yaa (pv 2) yaf)))) (yca (n:=3) rfl (yaC (yan (i:=5) sc_zn.nd rfl (Or.inl rfl)) (yaC (yan (i:=6) sc_zn.nd rfl (Or.inl rfl)) (yaC (yan (i:=7) sc_zn.nd rfl (Or.inl rfl)) ybG)))) (yah (yd1 (h1 hu) (pv 4) (yaE (yaa (pv 6) (yaa (pv 7) yaf))) (yaZ yaf) rfl) (yaj pf1)),λD H H1 key x tl pd fd bs vss o5 o6 o7 o8 o9 o10 k0 k7 ix et lb l2 gd s1 np nf nfp ep ef q=>?_⟩
 have gts:∀ ts∈vss,yaN ts:=λts hm=>(gd ts hm).1
 have few:=ydH (bs:=bs) (λts hm=>(gd ts hm).2.2) vss.length
 walk_at "st"
 refine⟨x,tl,bs,vss,rfl,ix.same s1,s1 _ _ et,lb,l2,gd,λD0 H2 zs s2 nD eD al pm=>?_⟩
 have olt:∀ i∈ydu ((yar bs vss vss.length).map ybd),i < (ya9 bs vss vss.length).length:=λi hi=>List.mem_range.mp (pm.mem_iff.mp hi)
 have ond:(ydu ((yar bs vss vss.length).map ybd)).Nodup:=pm.nodup_iff.mpr List.nodup_range
 have oln:(ydu ((yar bs vss vss.length).map ybd)).length=(ya9 bs vss vss.length).length:=by rw[pm.length_eq,List.length_range]
 have omm:∀ i,i < (ya9 bs vss vss.length).length→i∈ydu ((yar bs vss vss.length).map ybd):=λi hi=>pm.mem_iff.mpr (List.mem_range.mpr hi)
 clear pm
 have eo:ydu ((yar bs vss vss.length).map ybd)=ydu ((yar bs vss vss.length).map ybd):=rfl
 have hfin:∀ os,os=ydu ((yar bs vss vss.length).map ybd)→ybr key bs vss=ydd key ((yar bs vss vss.length).map ybd) ((yar bs vss vss.length).map ygP) os:=λos e=>by rw[e];rfl
 have hrow:∀ (n:Nat) (r:Rw) (j:Nat),(ya9 bs vss vss.length)[n]?=some (r,j)→((yar bs vss vss.length).map ybd).getD n r0=ybd r∧mkF ((yar bs vss vss.length).map ygP) n=ygP r:=λn r j e=>by
  constructor
  ·rw[ybh,List.getD_eq_getElem?_getD,List.getElem?_map,List.getElem?_map,e];rfl
  ·unfold mkF;rw[ybh,List.getD_eq_getElem?_getD,List.getElem?_map,List.getElem?_map,e];rfl
 have hrl:((yar bs vss vss.length).map ybd).length=(ya9 bs vss vss.length).length:=by rw[List.length_map,ybh,List.length_map]
 generalize ydu ((yar bs vss vss.length).map ybd)=ord at al olt ond oln omm hfin
 have hJd:=ycY (bs:=bs) gts vss.length
 have hJm:∀ (n:Nat) (r:Rw) (j:Nat),(ya9 bs vss vss.length)[n]?=some (r,j)→∃ k,k < vss.length∧r.vo=(k:Nat)∧∃ p ti be wd op cl,(vss.getD k [])[j]?=some (.note r.hs p ti be wd op cl):=λn r j e=>by
  obtain⟨k,hk,hv,hm⟩:=ye5 gts (List.mem_of_getElem? e)
  obtain⟨_,_,_,z⟩:=ybl (ybv gts k) hm
  exact⟨k,hk,hv,z⟩
 generalize ((yar bs vss vss.length).map ybd)=rows at hrow hfin hrl
 generalize ((yar bs vss vss.length).map ygP)=mk at hrow hfin
 generalize ya9 bs vss vss.length=J at al olt oln omm few hJd hJm hrow q hrl
 have ne2:∀ {b u},H b=some u→b≠pd∧b≠fd:=λe=>⟨yad e np,yad e nf⟩
 have lz:zs.length=ord.length:=by rw[al.1,List.length_map]
 obtain⟨l,xs,rfl,el,is⟩:∃ l xs,x=.ref l∧H l=some (.lst xs)∧Iss H xs (vss.map tls):=by rw[bsT,Is] at ix;exact ix
 have nDp:D0≠pd:=(yad ep nD).symm
 have nDf:D0≠fd:=(yad ef nD).symm
 refine⟨D0,rfl,⟨_,SqL.of eD⟩,ycy (xs:=zs) (λi σ H'=>∃ o5 o6 o7 o8 o9 o10,σ=[some (.int key),some (.ref l),some (.ref tl),some (.ref pd),some (.ref fd),o5,o6,o7,o8,o9,o10]∧yqZ H H2 key rows mk J pd fd (ord.take i) H') ?_ ?_ ?_ ?_⟩
 ·exact⟨_,_,_,_,_,_,rfl,λb u _ _ e=>e,⟨[],s2 _ _ ep,λ_ _ _ _=>rfl,Nat.zero_le _⟩,⟨[],s2 _ _ ef,Nat.zero_le _,λn hn=>by rw[List.take_zero] at hn;cases hn⟩⟩
 ·rintro i σ H' _ ⟨_,_,_,_,_,_,rfl,h⟩
  exact SqL.of (h.keep _ _ nDp nDf eD)
 ·rintro i z σ H3 N hN hz ⟨o5,o6,o7,o8,o9,o10,rfl,h⟩
  have hi:i < ord.length:=by have:=(List.getElem?_eq_some_iff.mp hz).1;omega
  obtain⟨z',ez,tz⟩:=al.2 i (by rw[List.length_map];exact hi)
  rw[hz] at ez
  cases ez
  rw[List.getElem_map] at tz
  have tk:=List.take_succ_eq_append_getElem hi
  have hn:=olt _ (List.getElem_mem hi)
  have nin:ord[i]∉ord.take i:=λhm=>by
   obtain⟨j,hj,e⟩:=List.getElem_of_mem hm
   rw[List.getElem_take] at e
   rw[List.length_take] at hj
   have:=(List.getElem_inj ond).mp e
   omega
  have lt:=List.length_take (i:=i) (l:=ord)
  generalize ord[i]=n at tz tk hn nin
  generalize ord.take i=os at h tk nin lt
  have los:os.length≤46:=by omega
  have en:J[n]?=some J[n]:=List.getElem?_eq_getElem hn
  have eg:J.getD n q0=J[n]:=by rw[List.getD_eq_getElem?_getD,en];rfl
  rw[eg] at tz
  generalize J[n]=qq at tz en
  obtain⟨r,j⟩:=qq
  obtain⟨er1,er2⟩:=hrow n r j en
  obtain⟨k,hk,hv,pc,ti,be,wd,op,cl,ets⟩:=hJm n r j en
  obtain⟨a,rfl,ea⟩:=tz
  have ea3:=h.keep _ _ (λw=>by rw[w,s2 _ _ ep] at ea;cases ea) (λw=>by rw[w,s2 _ _ ef] at ea;cases ea) ea
  have sH3:Same H H3:=λb u e=>h.keep b u (ne2 e).1 (ne2 e).2 (s2 _ _ (s1 _ _ e))
  have gv:vss.getD k []=vss[k]:=by rw[List.getD_eq_getElem?_getD,List.getElem?_eq_getElem hk];rfl
  rw[gv] at ets
  obtain⟨hj,ets⟩:=List.getElem?_eq_some_iff.mp ets
  obtain⟨mv,em,im⟩:=is.at' k (by rw[List.length_map];exact hk)
  rw[List.getElem_map] at im
  obtain⟨m,ws,rfl,ew,iw⟩:∃ m ws,mv=.ref m∧H m=some (.lst ws)∧Iss H ws (vss[k].map tlT):=by rw[tls,Is] at im;exact im
  obtain⟨tv,etv,itv⟩:=iw.at' j (by rw[List.length_map];exact hj)
  rw[List.getElem_map,ets] at itv
  obtain⟨ta,yv,zv,rfl,eta,iy,_⟩:=itv.note
  obtain⟨hl,hv',rfl,ehl,ihv⟩:∃ hl hv',yv=.ref hl∧H hl=some (.lst hv')∧Iss H hv' (r.hs.map hdT):=by rw[hsT,Is] at iy;exact iy
  have gh:ycz r.hs:=by
   have:=gts _ (List.getElem_mem hk) _ (List.getElem_mem hj)
   rw[ets] at this
   exact this.1
  obtain⟨pk,epk,cnt,lpk⟩:=h.pd
  obtain⟨kvs,ekv,lkv,hkv⟩:=h.fd
  rw[hv] at ea3
  refine yjw (SqT.of ea3) (ybe (ylt ?_))
  walk_at "st"
  refine⟨Nat.zero_le _,λnl hnl=>?_⟩
  have s4:=yae hnl (.lst [])
  have e4:upd H3 nl (.lst []) nl=some (.lst []):=yab
  generalize upd H3 nl (.lst [])=H4 at s4 e4 ⊢
  walk_at "st"
  refine⟨by show 2≤sizeLine;decide,λp5 h5=>?_⟩
  have s5:=yae h5 (.tup [.int (k:Nat),.int (j:Nat)])
  have e5:upd H4 p5 (.tup [.int (k:Nat),.int (j:Nat)]) p5=some (.tup [.int (k:Nat),.int (j:Nat)]):=yab
  generalize upd H4 p5 (.tup [.int (k:Nat),.int (j:Nat)])=H5 at s5 e5 ⊢
  have s35:=s4.trans s5
  have ek5:=s35 _ _ ekv
  have np5:=s35 _ _ epk
  have en5:=s5 _ _ e4
  have nln:nl≠fd:=λw=>by rw[w,ek5] at en5;cases en5
  have nlp:nl≠pd:=λw=>by rw[w,np5] at en5;cases en5
  refine⟨fd,_,rfl,DPut.t (k:=[.inl (k:Nat),.inl (j:Nat)]) ek5 e5 (yam (by omega)),?_⟩
  generalize hH6:upd H5 fd (.dT (ydq kvs [.inl (k:Nat),.inl (j:Nat)] (.ref nl)))=H6
  have k6:∀ b u,b≠fd→H5 b=some u→H6 b=some u:=λb u n e=>by rw[← hH6,yai n];exact e
  have f6:H6 fd=some (.dT (ydq kvs [.inl (k:Nat),.inl (j:Nat)] (.ref nl))):=hH6▸yab
  clear hH6
  have sH6:Same H H6:=λb u e=>k6 b u (ne2 e).2 (s35 _ _ (sH3 _ _ e))
  refine k1 { nx:=N,rt:=D.rt,bk:=D.nx,ct:=N } ⟨key,l,tl,pd,fd,nl,k,j,r.hs,ygX rows (mkF mk) c0 os,ydq kvs [.inl (k:Nat),.inl (j:Nat)] (.ref nl),H⟩ _ _ _ _ pk.length H6 ⟨k0,k7,⟨xs,m,ws,ta,_,hl,hv',el,em,ew,etv,eta,rfl,ehl,ihv⟩,np,sH3.free hnl,nfp,gh,by rw[ycG,if_pos rfl]⟩ ⟨λb u _ _ e=>e,sH6,f6,⟨pk,k6 _ _ nfp.symm np5,cnt,Nat.le_refl _⟩,⟨[],k6 _ _ nln en5,yay _⟩⟩ (by omega) λo8 o9 o10 H7 hp=>hN _ _ ⟨_,_,_,_,_,_,rfl,?_⟩
  obtain⟨kp,sm7,fd7,⟨pk7,epk7,cnt7,lpk7⟩,⟨ys7,en7,iy7⟩⟩:=hp
  rw[List.take_length] at cnt7 iy7
  rw[tk]
  have eL:ycr key rows mk (os++[n]) n=ycP key (ygX rows (mkF mk) c0 os) (r.hs.map (·.1)) (r.hs.map (·.2)):=by
   rw[yjj nin,er1,er2]
   rfl
  have h47:∀ b u,b≠pd→b≠fd→b≠nl→H3 b=some u→H7 b=some u:=λb u n1 n2 n3 e=>kp b u n1 n3 (k6 b u n2 (s35 _ _ e))
  have t37:Same (tpo H3) (tpo H7):=λb u e=>by
   obtain⟨e,w,rfl⟩:=yb0 e
   exact ydS (h47 b _ (λc=>by rw[c,epk] at e;cases e) (λc=>by rw[c,ekv] at e;cases e) (yad e hnl) e)
  refine⟨λb u n1 n2 e=>h47 b u n1 n2 (yad (h.keep b u n1 n2 e) hnl) (h.keep b u n1 n2 e),⟨pk7,epk7,?_,?_⟩,⟨_,fd7,?_,λn' hn' q' eq'=>?_⟩⟩
  ·rw[yea,er1,er2]
   exact cnt7
  ·rw[List.length_append,List.length_singleton]
   have:=gh.1
   have lpk7:pk7.length≤pk.length+r.hs.length:=lpk7
   omega
  ·rw[List.length_append,List.length_singleton]
   have:=ylT (kvs:=kvs) (k:=[.inl ((k:Nat):Int),.inl ((j:Nat):Int)]) (v:=.ref nl)
   show(ydq kvs [.inl ((k:Nat):Int),.inl ((j:Nat):Int)] (.ref nl)).length≤_
   omega
  ·show ∃ l ys,yb8 (ydq kvs [.inl ((k:Nat):Int),.inl ((j:Nat):Int)] (.ref nl)) _=_∧_
   by_cases en':n'=n
   ·subst en'
    rw[en] at eq'
    cases eq'
    refine⟨nl,ys7,by rw[ycG,hv,if_pos rfl],en7,sH3.free hnl,?_⟩
    rw[eL]
    exact iy7
   ·have hm:n'∈os:=(List.mem_append.mp hn').resolve_right λw=>en' (List.mem_singleton.mp w)
    obtain⟨l',ys',ev,el',nz,il'⟩:=hkv n' hm q' eq'
    refine⟨l',ys',?_,h47 _ _ (λc=>by rw[c,epk] at el';cases el') (λc=>by rw[c,ekv] at el';cases el') (yad el' hnl) el',nz,?_⟩
    ·rw[ycG,if_neg (λw=>en' ?_)]
     ·exact ev
     ·have w1:=List.cons.inj w
      have w2:=List.cons.inj w1.2
      obtain⟨g1,g2⟩:=List.getElem?_eq_some_iff.mp eq'
      obtain⟨g3,g4⟩:=List.getElem?_eq_some_iff.mp en
      have v1:=Sum.inl.inj w1.1
      have v2:=Sum.inl.inj w2.1
      refine yhJ hJd g1 g3 ⟨by rw[g2,g4,v1];exact hv.symm,.inr (by rw[g2,g4];omega)⟩
    ·rw[yiz en']
     exact il'.same t37
 ·rintro σ H' ⟨o5,o6,o7,o8,o9,o10,rfl,h⟩
  rw[lz,List.take_length] at h
  obtain⟨kvs,ekv,lkv,hkv⟩:=h.fd
  refine q _ _ _ _ _ _ H' kvs (λb u e=>h.keep b u (ne2 e).1 (ne2 e).2 (s2 _ _ (s1 _ _ e))) ekv λi q' eq'=>?_
  have hi:=(List.getElem?_eq_some_iff.mp eq').1
  have hm:i∈ord:=omm i hi
  obtain⟨l',ys',ev,el',nz,il'⟩:=hkv i hm q' eq'
  refine⟨.ref l',ycr key rows mk ord i,?_,ev,ybB el' (il'.same (ycO _)),l',rfl,nz⟩
  rw[hfin ord rfl]
  unfold ydd
  rw[List.getElem?_map,List.getElem?_range (by rw[hrl];exact hi)]
  rfl
theorem yo1 (T:Txt K mg t)(G_zw:FnOk P w K mg base CX0 3 t.f_zw t.d_zw ["_law_voices","_law_ties"] yeT)(G_zf:FnOk P w K mg base CX0 1 t.f_zf t.d_zf ["_law_key","_law_step"] yge):FnOk P w K mg base CX0 4 t.f_zn t.d_zn ["_law_key","_law_voices","_law_ties"] ymJ:=by
 refine T.zn.F.ok sc_zn (λvs H Q E h=>?_) (λcdv A outer s H vs Q E hr h=>?_)
 ·obtain⟨_,_,_,_,_,rfl,_⟩:=h;rfl
 have hu:=ya2 hr
 obtain⟨key,x,tl,bs,vss,rfl,k0,k7,ix,et,lb,l2,gd,q⟩:=h
 obtain⟨t2,p2,k2⟩:=yre (cdv:=cdv) (A:=A) (outer:=outer) (s0:=s) (H0:=H) (E:=E) T G_zw G_zf hr
 refine⟨_,show PSs _ [yaV 50 0,yaV 50 1,yaV 50 2,yaV 50 3] _ from yah (yas (i:=3) sc_zn.nd rfl (Or.inl rfl) ye7) (yah (yas (i:=4) sc_zn.nd rfl (Or.inl rfl) ye7) (yah p2 (yaj (yaG (pv 4))))),?_⟩
 walk_at "st"
 intro pd hpd
 have s1:=yae hpd (.dT [])
 have e1:upd H pd (.dT []) pd=some (.dT []):=yab
 generalize upd H pd (.dT [])=H1 at s1 e1 ⊢
 walk_at "st"
 intro fd hfd
 have s2:=yae hfd (.dT [])
 have nfp:fd≠pd:=(yad e1 hfd).symm
 refine ybN (ybe (k2 _ H _ key x tl pd fd bs vss _ _ _ _ _ _ k0 k7 ix et lb l2 gd (s1.trans s2) hpd (s1.free hfd) nfp (s2 _ _ e1) yab λo5 o6 o7 o8 o9 o10 H' kvs sm ek hk=>?_))
 walk_at "st"
 exact q fd H' kvs sm (s1.free hfd) ek hk
theorem Is.tones {H:Hp}{x:V}{ps:List Pit}{n:Int}{wd:Str}{op cl:Bool}(h:Is H x (snT (.tones ps n wd op cl))):∃ a y,x=.ref a∧H a=some (.tup [.str "tones",y,.int n,.str wd,.bl op,.bl cl])∧Is H y (lT ps):=by
 unfold snT at h
 rw[Is] at h
 obtain⟨a,ys,rfl,e,is⟩:=h
 rw[Iss] at is
 obtain⟨y0,r0,rfl,i0,is⟩:=is
 rw[Iss] at is
 obtain⟨y1,r1,rfl,i1,is⟩:=is
 rw[Iss] at is
 obtain⟨y2,r2,rfl,i2,is⟩:=is
 rw[Iss] at is
 obtain⟨y3,r3,rfl,i3,is⟩:=is
 rw[Iss] at is
 obtain⟨y4,r4,rfl,i4,is⟩:=is
 rw[Iss] at is
 obtain⟨y5,r5,rfl,i5,is⟩:=is
 rw[Iss] at is
 rw[sT,Is] at i0 i3
 rw[nT,Is] at i2
 rw[bT,Is] at i4 i5
 rw[is,i0.1,i2.1,i3.1,i4.1,i5.1] at e
 exact⟨a,y1,rfl,e,i1⟩
theorem Is.rest {H:Hp}{x:V}{n:Int}(h:Is H x (snT (.rest n))):∃ a,x=.ref a∧H a=some (.tup [.str "rest",.int n]):=by
 unfold snT at h
 rw[Is] at h
 obtain⟨a,ys,rfl,e,is⟩:=h
 rw[Iss] at is
 obtain⟨y0,r0,rfl,i0,is⟩:=is
 rw[Iss] at is
 obtain⟨y1,r1,rfl,i1,is⟩:=is
 rw[Iss] at is
 rw[sT,Is] at i0
 rw[nT,Is] at i1
 rw[is,i0.1,i1.1] at e
 exact⟨a,rfl,e⟩
theorem yhc {H:Hp}{a:Addr}{y:V}{ps:List Pit}{n:Int}{wd:Str}{op cl:Bool}(e:H a=some (.tup [.str "tones",y,.int n,.str wd,.bl op,.bl cl]))(i:Is H y (lT ps)):Is H (.ref a) (snT (.tones ps n wd op cl)) :=
 ydB e (yal (ybA rfl) (yal i (yal (ymD _ _) (yal (ybA rfl) (yal (ybA rfl) (yal (ybA rfl) (yay _)))))))
theorem yiu {H:Hp}{a:Addr}{n:Int}(e:H a=some (.tup [.str "rest",.int n])):Is H (.ref a) (snT (.rest n)):=ydB e (yal (ybA rfl) (yal (ymD _ _) (yay _)))
def yk1:Sp:=λvs H Q _=>∃ (sl:Addr) (x ph:V) (cm:Bool) (tl:Tl) (xs:List V) (sns:List Sn) (ps:List Pit) (L:List Addr),vs=[.ref sl,x,.bl cm,ph]∧sl∈L∧(∀ b∈L,∃ u,H b=some u)∧H sl=some (.lst xs)∧Al (λv sn=>Is (cut L H) v (snT sn)) xs sns∧xs.length≤500∧Is (cut L H) x (tlT tl)∧ygS tl∧(isN tl=true→cm=false→Is (cut L H) ph (lT ps))∧(cm=true→sns≠[]∧yct sns=false) ∧
 ∀ (H':Hp) (xs':List V),SameT sl H H'→H' sl=some (.lst xs')→Al (λv sn=>Is (cut L H') v (snT sn)) xs' (ydE ps ⟨cm,sns⟩ tl)→Q .non H'
theorem yn9 (T:Txt K mg t)(G_zP:FnOk P w K mg base CX0 2 t.f_zP t.d_zP ["_law_told"] yfX):FnOk P w K mg base CX0 3 t.f_zS t.d_zS ["_law_sounds","_law_told","_law_tied","_law_pitches_here"] yk1:=by
 refine T.zS.F.ok sc_zS (λvs H Q E h=>?_) (λcdv A outer s H vs Q E hr h=>?_)
 ·obtain⟨_,_,_,_,_,_,_,_,_,rfl,_⟩:=h;rfl
 have hu:=ya2 hr
 obtain⟨sl,x,ph,cm,tl,xs,sns,ps,L,rfl,mm,oc,es,al,lx,ix,gt,iph,hcm,q⟩:=h
 refine⟨_,(yaj (ybM (PW.pt (yeG (yaL (ycb hu) (yav yaA (pv 1) yag (λ_ _=>rfl)) yaF (yaH _)) (ydo (ybj (pv 2))))) (yah (yas (i:=4) sc_zS.nd rfl (Or.inl rfl) (ynG PySem.F.plainAttrs_list PySem.F.slot_list_pop PySem.F.type_list_pop ynw (pv 0))) (yaj (yaO (ybU PySem.F.plainAttrs_list PySem.F.slot_list_append PySem.F.type_list_append yaI (pv 0) (yaa (yau ydY (yau ydY (ybJ ydO (pv 4) yb2 (yb4 yag)) (yaE (yaa (yau ybt (yav yaA (pv 4) yag (λ_ _=>rfl)) (yaq G_zP (hr.mono (by first | decide | omega)) rfl T.zP.M T.zP.F.kp T.zP.B .nil yaD (yaa (pv 1) yaf))) yaf))) (ybJ ydO (pv 4) (yb4 yag) yb2)) yaf))))) (yaj (ybM (yaL (ycb hu) (yav yaA (pv 1) yag (λ_ _=>rfl)) yaF (yaH _)) (yaj (yaO (ybU PySem.F.plainAttrs_list PySem.F.slot_list_append PySem.F.type_list_append yaI (pv 0) (yaa (yaE (yaa yaF (yaa (pv 3) (yaa (yaq G_zP (hr.mono (by first | decide | omega)) rfl T.zP.M T.zP.F.kp T.zP.B .nil yaD (yaa (pv 1) yaf)) (yaa (yav yaA (pv 1) yag (λ_ _=>rfl)) (yaa (yav yaA (pv 1) yag (λ_ _=>rfl)) (yaa (yav yaA (pv 1) yag (λ_ _=>rfl)) yaf))))))) yaf)))) (yaj (ybM (PW.pt (yeG (yaL (yeO hu) (pv 0) (yaZ yaf) (yaH _)) (ydo (yaL (ycb hu) (yav yaA (yav yaz (pv 0) (yc6 ybZ yag) (λ_ _=>rfl)) yag (λ_ _=>rfl)) yaF (yaH _))))) (yaj (ygd (yaE (yaa yaF (yaa (yau ybt (yav yaA (yav yaz (pv 0) (yc6 ybZ yag) (λ_ _=>rfl)) yag (λ_ _=>rfl)) (yaq G_zP (hr.mono (by first | decide | omega)) rfl T.zP.M T.zP.F.kp T.zP.B .nil yaD (yaa (pv 1) yaf))) yaf))) (yfW (pv 0) (yc6 ybZ yag) yc5))) (yaj (yaO (ybU PySem.F.plainAttrs_list PySem.F.slot_list_append PySem.F.type_list_append yaI (pv 0) (yaa (yaE (yaa yaF (yaa (yaq G_zP (hr.mono (by first | decide | omega)) rfl T.zP.M T.zP.F.kp T.zP.B .nil yaD (yaa (pv 1) yaf)) yaf))) yaf)))))))))),?_⟩
 have cs:=ycq L H
 have fin:∀ (H2:Hp) (v:V) (ys:List V) (us:List Sn) (sn:Sn),SameT sl H H2→Al (λv sn=>Is (cut L H) v (snT sn)) ys us→Is (cut L H2) v (snT sn)→us++[sn]=ydE ps ⟨cm,sns⟩ tl→Q .non (upd H2 sl (.lst (ys++[v]))):=λH2 v ys us sn st ay iv e=>by
  refine q _ _ (λb u n e=>by rw[yai n];exact st b u n e) yab ?_
  rw[yeY mm,← e]
  exact Al.snoc (ay.imp λ_ _ _ z=>z.same (ybI λb u n e=>st b u (λw=>n (by rw[w];exact mm)) e)) iv
 have nL:∀ {H2:Hp} {b:Addr},SameT sl H H2→(∃ u,H2 sl=some u)→H2 b=none→b∉L:=λ{H2 b} st es2 e hb=>by
  obtain⟨u,eu⟩:=oc b hb
  by_cases z:b=sl
  ·obtain⟨w,ew⟩:=es2
   rw[z,ew] at e
   cases e
  ·rw[st b u z eu] at e
   cases e
 have up:∀ {H2:Hp},SameT sl H H2→Same (cut L H) (cut L H2):=λst=>ybI λb u n e=>st b u (λw=>n (by rw[w];exact mm)) e
 obtain⟨a,ws,rfl,ea,w0,_⟩:=ix.tl0
 have ea:=cs _ _ ea
 walk_at "st"
 refine ya0 (SqT.of ea) (yak (j:=0) w0) ?_
 walk_at "st"
 refine ybY ?_
 rw[yek]
 refine ydz ?_
 have hel:isN tl=false→ydE ps ⟨cm,sns⟩ tl=if yct sns=true then yeu (tg tl) sns else sns++[.rest (tg tl)]:=λz=>by
  cases tl with
  | note=>cases z
  | pause=>rfl
  | whole=>rfl
 cases hn:isN tl with
 | true =>
  cases tl with
  | pause=>cases hn
  | whole=>cases hn
  | note hs p ti be wd op cl =>
   obtain⟨a',yv,zv,e',ea',_,_⟩:=ix.note
   cases e'
   have ea':=cs _ _ ea'
   refine i_T ?_
   walk_at "st"
   cases cm with
   | true =>
    obtain⟨ne,en⟩:=hcm rfl
    obtain⟨sn,el⟩:∃ sn,sns.getLast?=some sn:=by
     cases e:sns.getLast? with
     | none=>exact absurd (List.getLast?_eq_none_iff.mp e) ne
     | some sn=>exact⟨sn,rfl⟩
    obtain⟨ys,v,rfl,iv,us,eu,ay⟩:=ycV al el
    cases sn with
    | rest m=>unfold yct at en;rw[el] at en;cases en
    | tones ps' m wd' op' cl' =>
     obtain⟨va,y,rfl,ev,iy⟩:=iv.tones
     have nva:va∉L:=(ybg ev).1
     have nvs:va≠sl:=λz=>nva (by rw[z];exact mm)
     refine i_T ?_
     walk_at "st"
     refine⟨.inl ⟨rfl,_,SqL.of es⟩,sl,_,.ref va,rfl,rfl,es,by simp,?_⟩
     rw[List.dropLast_concat]
     generalize hH1:upd H sl _=H1
     have st1:SameT sl H H1:=λb u n e=>by rw[← hH1,yai n];exact e
     have es1:H1 sl=some (.lst ys):=hH1▸yab
     clear hH1
     have ev1:=st1 _ _ nvs (cs _ _ ev)
     walk_at "st"
     refine⟨.inl ⟨rfl,_,SqL.of es1⟩,?_⟩
     walk_at "st"
     refine⟨2,rfl,va,_,rfl,SqT.of ev1,λz=>absurd (show HT.sIx 6 6 (some 2)=6 from z.2) (by decide),λb1 g1=>?_⟩
     generalize hH3:upd H1 b1 _=H3
     have s3:Same H1 H3:=hH3▸yae g1 _
     have e3:H3 b1=some (.tup [.str "tones",y]):=hH3▸yab
     clear hH3
     walk_at "st"
     refine ya0 (SqT.of (s3 _ _ ev1)) (yak (j:=2) rfl) ?_
     walk_at "st"
     have st3:SameT sl H H3:=λb u n e=>s3 _ _ (st1 b u n e)
     refine⟨_,_,rfl,gt,(ix.same (up st3)).same (ycq _ _),λH4 s4=>?_⟩
     walk_at "st"
     refine⟨by show 1≤sizeLine;decide,λb2 g2=>?_⟩
     generalize hH5:upd H4 b2 _=H5
     have s5:Same H4 H5:=hH5▸yae g2 _
     have e5:H5 b2=some (.tup [.int (m+tg (.note hs p ti be wd op cl))]):=hH5▸yab
     clear hH5
     have s35:=s4.trans s5
     refine⟨b1,b2,_,_,rfl,rfl,SqT.of (s35 _ _ e3),SqT.of e5,by simp,by show 2+1≤sizeLine;decide,(λz=>by cases z),λ_ b3 g3=>?_⟩
     generalize hH6:upd H5 b3 _=H6
     have s6:Same H5 H6:=hH6▸yae g3 _
     have e6:H6 b3=some (.tup [.str "tones",y,.int (m+tg (.note hs p ti be wd op cl))]):=hH6▸yab
     clear hH6
     have s36:=s35.trans s6
     walk_at "st"
     refine⟨3,rfl,va,_,rfl,SqT.of (s36 _ _ (s3 _ _ ev1)),λz=>absurd (show HT.sIx 6 0 (some 3)=0 from z.1) (by decide),λb4 g4=>?_⟩
     generalize hH7:upd H6 b4 _=H7
     have s7:Same H6 H7:=hH7▸yae g4 _
     have e7:H7 b4=some (.tup [.str wd',.bl op',.bl cl']):=hH7▸yab
     clear hH7
     refine⟨b3,b4,_,_,rfl,rfl,SqT.of (s7 _ _ e6),SqT.of e7,by simp,by show 3+3≤sizeLine;decide,(λz=>by cases z),λ_ b5 g5=>?_⟩
     generalize hH8:upd H7 b5 _=H8
     have s8:Same H7 H8:=hH8▸yae g5 _
     have e8:H8 b5=some (.tup [.str "tones",y,.int (m+tg (.note hs p ti be wd op cl)),.str wd',.bl op',.bl cl']):=hH8▸yab
     clear hH8
     have s38:=(s36.trans s7).trans s8
     have st8:SameT sl H H8:=λb u n e=>s38 _ _ (st3 b u n e)
     have st7:SameT sl H H7:=λb u n e=>(s36.trans s7) _ _ (st3 b u n e)
     have es8:=s38 _ _ (s3 _ _ es1)
     have n5:b5∉L:=nL st7 ⟨_,(s36.trans s7) _ _ (s3 _ _ es1)⟩ g5
     walk_at "st"
     refine ydb es8 (yam (by rw[List.length_append] at lx;omega)) ?_
     refine fin H8 _ ys us (.tones ps' (m+tg (.note hs p ti be wd op cl)) wd' op' cl') st8 ay (yhc (by rw[ybx n5];exact e8) (iy.same (up st8))) ?_
     show _=yeu (pg p) sns
     unfold yeu
     rw[el]
     simp only
     rw[eu,List.dropLast_concat]
     rfl
   | false =>
    refine i_F ?_
    walk_at "st"
    refine ya0 (SqT.of ea') (yak (j:=0) rfl) ?_
    walk_at "st"
    refine ybY ?_
    refine ydz ?_
    refine i_T ?_
    walk_at "st"
    refine⟨.inl ⟨rfl,_,SqL.of es⟩,?_⟩
    walk_at "st"
    refine⟨_,_,rfl,gt,ix.same cs,λH4 s4=>?_⟩
    walk_at "st"
    refine ya0 (SqT.of (s4 _ _ ea')) (yak (j:=5) rfl) ?_
    walk_at "st"
    refine ya0 (SqT.of (s4 _ _ ea')) (yak (j:=6) rfl) ?_
    walk_at "st"
    refine ya0 (SqT.of (s4 _ _ ea')) (yak (j:=7) rfl) ?_
    walk_at "st"
    refine⟨by show 6≤sizeLine;decide,λb5 g5=>?_⟩
    have s5:=yae g5 (.tup [.str "tones",ph,.int (tg (.note hs p ti be wd op cl)),.str wd,.bl op,.bl cl])
    have e5:upd H4 b5 (.tup [.str "tones",ph,.int (tg (.note hs p ti be wd op cl)),.str wd,.bl op,.bl cl]) b5=some (.tup [.str "tones",ph,.int (tg (.note hs p ti be wd op cl)),.str wd,.bl op,.bl cl]):=yab
    have n5:b5∉L:=nL (Same.t s4) ⟨_,s4 _ _ es⟩ g5
    walk_at "st"
    refine ydb ((s4.trans s5) _ _ es) (yam (by omega)) ?_
    exact fin _ _ xs sns (.tones ps (tg (.note hs p ti be wd op cl)) wd op cl) (Same.t (s4.trans s5)) al (yhc (by rw[ybx n5];exact e5) ((iph rfl rfl).same (up (Same.t (s4.trans s5))))) rfl
 | false =>
  have tail:∀ H1,Same H H1→yct sns=false→yjK (tBM K "list" ydl (ycv 0) (ybS (ylo (ybS (tC (V.str "rest")) (ybS (yej yfX [] E0 (ybS (ycv 1) ygB)) ygB))) ygB)) { nx:=λx H'=>Q V.non H',rt:=Q } [some (.ref sl),some (.ref a),some (.bl cm),some ph,none] H1:=by
   intro H1 s1 en
   walk_at "st"
   refine⟨.inl ⟨rfl,_,SqL.of (s1 _ _ es)⟩,?_⟩
   walk_at "st"
   refine⟨_,_,rfl,gt,(ix.same cs).same s1,λH4 s4=>?_⟩
   walk_at "st"
   refine⟨by show 2≤sizeLine;decide,λb5 g5=>?_⟩
   have s5:=yae g5 (.tup [.str "rest",.int (tg tl)])
   have e5:upd H4 b5 (.tup [.str "rest",.int (tg tl)]) b5=some (.tup [.str "rest",.int (tg tl)]):=yab
   have s14:=s1.trans s4
   have n5:b5∉L:=nL (Same.t s14) ⟨_,s14 _ _ es⟩ g5
   walk_at "st"
   refine ydb ((s14.trans s5) _ _ es) (yam (by omega)) ?_
   refine fin _ _ xs sns (.rest (tg tl)) (Same.t (s14.trans s5)) al (yiu (by rw[ybx n5];exact e5)) ?_
   rw[hel hn,if_neg (by rw[en];simp)]
  refine i_F (i_F ?_)
  walk_at "st"
  refine ya0 (SqT.of ea) (yak (j:=0) w0) ?_
  walk_at "st"
  refine ybY ?_
  rw[yek,hn]
  refine ydz ?_
  refine i_F ?_
  walk_at "st"
  refine⟨Nat.zero_le _,λp1 h1=>?_⟩
  have s1:=yae h1 (.lst [])
  have e1:upd H p1 (.lst []) p1=some (.lst []):=yab
  generalize upd H p1 (.lst [])=H1 at s1 e1 ⊢
  refine⟨sl,p1,xs,rfl,rfl,SqL.of (s1 _ _ es),SqL.of e1,ydz ?_⟩
  have s1H:=s1
  cases el:sns.getLast? with
  | none =>
   have hs:sns=[]:=List.getLast?_eq_none_iff.mp el
   have hx:xs=[]:=by have:=al.1;rw[hs] at this;exact List.eq_nil_of_length_eq_zero this
   have en:yct sns=false:=by unfold yct;rw[el]
   have T0:=tail H1 s1 en
   rw[if_neg (by rw[hx];simp)]
   exact i_F T0
  | some sn =>
   obtain⟨ys,v,ex,iv,us,eu,ay⟩:=ycV al el
   have es1:=s1 _ _ es
   rw[ex] at es1
   rw[if_pos (by rw[ex];cases ys<;>rfl)]
   walk_at "st"
   refine ybc (SqL.of es1) (ybP ys v) ?_
   cases sn with
   | tones ps' m wd' op' cl' =>
    obtain⟨va,y,rfl,ev,iy⟩:=iv.tones
    walk_at "st"
    refine ya0 (SqT.of (s1 _ _ (cs _ _ ev))) (yak (j:=0) rfl) ?_
    walk_at "st"
    refine ybY ?_
    refine ydz ?_
    refine i_F ?_
    exact tail H1 s1 (by unfold yct;rw[el];rfl)
   | rest m =>
    obtain⟨va,rfl,ev⟩:=iv.rest
    have en:yct sns=true:=by unfold yct;rw[el];rfl
    have ev1:=s1 _ _ (cs _ _ ev)
    walk_at "st"
    refine ya0 (SqT.of ev1) (yak (j:=0) rfl) ?_
    walk_at "st"
    refine ybY ?_
    refine ydz ?_
    refine i_T ?_
    walk_at "st"
    refine ybc (SqL.of es1) (ybP ys (.ref va)) ?_
    walk_at "st"
    refine ya0 (SqT.of ev1) (yak (j:=1) rfl) ?_
    walk_at "st"
    refine⟨_,_,rfl,gt,(ix.same cs).same s1,λH4 s4=>?_⟩
    walk_at "st"
    refine⟨by show 2≤sizeLine;decide,λb5 g5=>?_⟩
    have s5:=yae g5 (.tup [.str "rest",.int (m+tg tl)])
    have e5:upd H4 b5 (.tup [.str "rest",.int (m+tg tl)]) b5=some (.tup [.str "rest",.int (m+tg tl)]):=yab
    have s14:=s1.trans s4
    have n5:b5∉L:=nL (Same.t s14) ⟨_,s14 _ _ es⟩ g5
    generalize upd H4 b5 (.tup [.str "rest",.int (m+tg tl)])=H5 at s5 e5 ⊢
    have s15:=s14.trans s5
    have es5:=s15 _ _ es
    rw[ex] at es5
    walk_at "st"
    refine⟨sl,_,-1,ys.length,rfl,rfl,es5,?_,?_⟩
    ·rw[List.length_append,List.length_singleton]
     exact yhs _
    rw[show(ys++[V.ref va]).set ys.length (.ref b5)=ys++[.ref b5] by rw[List.set_append_right _ _ (Nat.le_refl _),Nat.sub_self];rfl]
    refine fin H5 _ ys us (.rest (m+tg tl)) (Same.t s15) ay (yiu (by rw[ybx n5];exact e5)) ?_
    rw[hel hn,if_pos en]
    unfold yeu
    rw[el]
    simp only
    rw[eu,List.dropLast_concat]
    rfl
theorem yeg (g:Nat→List Pit)(tl:Tl):∀ (ts:List Tl) (j:Nat) (s:MS),ya5 g j s (ts++[tl])=⟨ydC tl,ydE (g (j+ts.length)) (ya5 g j s ts) tl⟩
 | [],j,s=>rfl
 | u :: ts,j,s=>by
  rw[List.cons_append,ya5,yeg g tl ts,ya5,List.length_cons,show j+1+ts.length=j+(ts.length+1) by omega]
theorem yg7 (g:Nat→List Pit){ts:List Tl}{i:Nat}(h:i < ts.length)(s:MS):ya5 g 0 s (ts.take (i+1))=⟨ydC ts[i],ydE (g i) (ya5 g 0 s (ts.take i)) ts[i]⟩:=by
 rw[List.take_succ_eq_append_getElem h,yeg,List.length_take,Nat.min_eq_left (by omega),Nat.zero_add]
def yn4:Bool→List Tl→Nat→Bool
 | cm,_,0=>cm
 | cm,[],_=>cm
 | _,tl :: ts,i+1=>yn4 (ydC tl) ts i
theorem yef (g:Nat→List Pit):∀ (ts:List Tl) (i j:Nat) (s:MS),(ya5 g j s (ts.take i)).cm=yn4 s.cm ts i
 | ts,0,j,s=>by rw[List.take_zero];cases ts<;>rfl
 | [],i+1,j,s=>rfl
 | tl :: ts,i+1,j,s=>by
  rw[List.take_succ_cons,ya5,yef g ts i]
  rfl
theorem yhA (vo:Int):∀ (ts:List Tl) (cm:Bool) (ap:Int) (j i:Nat),(∃ tl,ts[i]?=some tl∧isN tl=true)→yn4 cm ts i=false→∃ r,(r,j+i)∈ybo vo cm ap j ts
 | [],_,_,_,_,⟨tl,e,_⟩,_=>by cases e
 | tl :: ts,cm,ap,j,0,⟨tl',e,hn⟩,hc=>by
  cases e
  cases tl with
  | note hs p ti be wd op cl =>
   have hc:cm=false:=hc
   refine⟨⟨ap,vo,hs⟩,?_⟩
   rw[ybo,hc]
   exact List.mem_append_left _ (by unfold yhW;simp)
  | pause=>cases hn
  | whole=>cases hn
 | tl :: ts,cm,ap,j,i+1,⟨tl',e,hn⟩,hc=>by
  obtain⟨r,h⟩:=yhA vo ts (ydC tl) (ap+tg tl) (j+1) i ⟨tl',by simpa using e,hn⟩ hc
  refine⟨r,?_⟩
  rw[ybo]
  refine List.mem_append_right _ ?_
  rw[show j+(i+1)=j+1+i by omega]
  exact h
def MsT (s:MS):Prop:=s.cm=true→s.sns≠[]∧yct s.sns=false
theorem ync {ps:List Pit}{s:MS}{tl:Tl}(h:MsT s):MsT ⟨ydC tl,ydE ps s tl⟩:=by
 intro z
 cases tl with
 | note hs p ti be wd op cl =>
  dsimp only
  unfold ydE
  dsimp only
  by_cases c:s.cm=true
  ·rw[if_pos c]
   obtain⟨a,b⟩:=h c
   exact⟨yeZ a,by rw[(ye2 a).2];exact b⟩
  ·rw[if_neg c]
   exact⟨by simp,by unfold yct;rw[List.getLast?_concat];rfl⟩
 | pause=>cases z
 | whole=>cases z
theorem yfo (g:Nat→List Pit):∀ (ts:List Tl) (j:Nat) (s:MS),MsT s→MsT (ya5 g j s ts)
 | [],_,_,h=>h
 | tl :: ts,j,s,h=>yfo g ts (j+1) _ (ync h)
theorem ynN {b:Int×List (List Tl)}{S:List MS}(h:∀ s∈S,MsT s):∀ s∈ycu b S,MsT s:=by
 intro s hs
 unfold ycu at hs
 obtain⟨k,hk,rfl⟩:=List.mem_map.mp hs
 refine yfo _ _ _ _ ?_
 rw[List.getD_eq_getElem?_getD]
 cases e:S[k]? with
 | none=>intro z;cases z
 | some s=>exact h s (List.mem_of_getElem? e)
theorem yng (n:Nat)(bars:List (Int×List (List Tl))):∀ s∈ydp bars n,MsT s:=by
 unfold ydp
 have:∀ (bars:List (Int×List (List Tl))) (S:List MS),(∀ s∈S,MsT s)→∀ s∈bars.foldl (λS b=>ycu b S) S,MsT s:=by
  intro bars
  induction bars with
  | nil=>exact λS h=>h
  | cons b bars ih=>exact λS h=>ih _ (ynN h)
 refine this bars _ λs hs=>?_
 rw[List.eq_of_mem_replicate hs]
 intro z
 cases z
structure LB (H H':Hp) (fl tl:Addr) (L:List Addr) (n:Nat) (mf:Nat→MS) (xf:Nat→List V):Prop where
 sm:Same H H'
 ef:H' fl=some (.lst (L.map V.ref))
 et:H' tl=some (.lst ((List.range n).map λk=>V.bl (mf k).cm))
 lL:L.length=n
 nd:L.Nodup
 nt:tl∉L
 nf:fl∉L
 ne:fl≠tl
 nl:∀ b∈L,H b=none
 ht:H tl=none
 hf:H fl=none
 sl:∀ k l,L[k]?=some l→H' l=some (.lst (xf k))∧Al (λv sn=>Is (cut (tl :: L) H') v (snT sn)) (xf k) (mf k).sns
theorem LB.keep {H H' H2:Hp}{fl tl:Addr}{L:List Addr}{n:Nat}{mf:Nat→MS}{xf:Nat→List V}(h:LB H H' fl tl L n mf xf)(s:Same H' H2):LB H H2 fl tl L n mf xf :=
 { h with sm:=h.sm.trans s,ef:=s _ _ h.ef,et:=s _ _ h.et,sl:=λk l e=>⟨s _ _ (h.sl k l e).1,(h.sl k l e).2.imp λ_ _ _ z=>z.same (ybI λb u _ e=>s _ _ e)⟩ }
theorem LB.oc {H H':Hp}{fl tl:Addr}{L:List Addr}{n:Nat}{mf:Nat→MS}{xf:Nat→List V}(h:LB H H' fl tl L n mf xf):∀ b∈tl :: L,∃ u,H' b=some u:=λb hb=>by
 rcases List.mem_cons.mp hb with rfl | hb
 ·exact⟨_,h.et⟩
 ·obtain⟨i,hi,e⟩:=List.getElem_of_mem hb
  exact⟨_,e▸(h.sl i _ (List.getElem?_eq_getElem hi)).1⟩
theorem LB.old {H H':Hp}{fl tl:Addr}{L:List Addr}{n:Nat}{mf:Nat→MS}{xf:Nat→List V}(h:LB H H' fl tl L n mf xf):Same H (cut (tl :: L) H'):=λb u e=>by
 rw[ybx (λhb=>?_)]
 ·exact h.sm _ _ e
 ·rcases List.mem_cons.mp hb with rfl | hb
  ·rw[h.ht] at e;cases e
  ·rw[h.nl b hb] at e;cases e
theorem LB.kind {H H':Hp}{fl tl:Addr}{L:List Addr}{n:Nat}{mf:Nat→MS}{xf:Nat→List V}(h:LB H H' fl tl L n mf xf){b:Addr}{u:HO}(e:H' b=some u)(n1:∀ xs,u≠.lst xs):b∉tl :: L:=λhb=>by
 rcases List.mem_cons.mp hb with rfl | hb
 ·rw[h.et] at e;exact n1 _ (Option.some.inj e).symm
 ·obtain⟨i,hi,e2⟩:=List.getElem_of_mem hb
  rw[← e2,(h.sl i _ (List.getElem?_eq_getElem hi)).1] at e
  exact n1 _ (Option.some.inj e).symm
theorem LB.new {H H':Hp}{fl tl:Addr}{L:List Addr}{n:Nat}{mf:Nat→MS}{xf:Nat→List V}(h:LB H H' fl tl L n mf xf){b:Addr}(e:H' b=none):b∉tl :: L:=λhb=>by
 obtain⟨u,e2⟩:=h.oc b hb
 rw[e] at e2
 cases e2
theorem ykl {L:List Addr}(nd:L.Nodup){k k':Nat}{l:Addr}(h:L[k]?=some l)(h':L[k']?=some l):k=k':=by
 obtain⟨g1,e1⟩:=List.getElem?_eq_some_iff.mp h
 obtain⟨g2,e2⟩:=List.getElem?_eq_some_iff.mp h'
 exact(List.getElem_inj (h₀:=g1) (h₁:=g2) nd).mp (by rw[e1,e2])
theorem LB.add {H H' H2:Hp}{fl tl l:Addr}{L:List Addr}{n k:Nat}{mf:Nat→MS}{xf:Nat→List V}{xs:List V}{sns:List Sn}(h:LB H H' fl tl L n mf xf)(hk:L[k]?=some l)(s:SameT l H' H2)(e:H2 l=some (.lst xs))(a:Al (λv sn=>Is (cut (tl :: L) H2) v (snT sn)) xs sns):LB H H2 fl tl L n (upF mf k ⟨(mf k).cm,sns⟩) (upF xf k xs):=by
 have hl:=List.mem_of_getElem? hk
 have hm:∀ j,(upF mf k ⟨(mf k).cm,sns⟩ j).cm=(mf j).cm:=λj=>by
  by_cases z:j=k
  ·rw[z,ybs]
  ·rw[ybC z]
 refine { h with sm:=λb u eb=>s b u (λz=>by rw[z,h.nl l hl] at eb;cases eb) (h.sm _ _ eb),ef:=s _ _ (λz=>h.nf (by rw[z];exact hl)) h.ef,et:=?_,sl:=λk' l' e'=>?_ }
 ·rw[s _ _ (λz=>h.nt (by rw[z];exact hl)) h.et]
  congr 2
  exact List.map_congr_left λj _=>by rw[hm]
 ·by_cases z:k'=k
  ·subst z
   rw[hk] at e'
   cases e'
   rw[ybs,ybs]
   exact⟨e,a⟩
  ·rw[ybC z,ybC z]
   obtain⟨a1,a2⟩:=h.sl k' l' e'
   refine⟨s _ _ (λc=>z (ykl h.nd (by rw[c] at e';exact e') hk)) a1,a2.imp λ_ _ _ w=>w.same (ybI λb u nb eb=>s b u (λc=>nb (by rw[c];exact List.mem_cons_of_mem _ hl)) eb)⟩
theorem LB.tie {H H':Hp}{fl tl:Addr}{L:List Addr}{n k:Nat}{mf:Nat→MS}{xf:Nat→List V}{c:Bool}(h:LB H H' fl tl L n mf xf)(hk:k < n):LB H (upd H' tl (.lst (((List.range n).map λk=>V.bl (mf k).cm).set k (.bl c)))) fl tl L n (upF mf k ⟨c,(mf k).sns⟩) xf:=by
 have hm:∀ j,(upF mf k ⟨c,(mf k).sns⟩ j).sns=(mf j).sns:=λj=>by
  by_cases z:j=k
  ·rw[z,ybs]
  ·rw[ybC z]
 refine { h with sm:=λb u eb=>by rw[yai (λz=>by rw[z,h.ht] at eb;cases eb)];exact h.sm _ _ eb,ef:=by rw[yai h.ne];exact h.ef,et:=?_,sl:=λk' l' e'=>?_ }
 ·rw[yab]
  congr 2
  apply List.ext_getElem
  ·rw[List.length_set,List.length_map,List.length_map]
  ·intro i h1 h2
   rw[List.getElem_set,List.getElem_map,List.getElem_map,List.getElem_range]
   by_cases z:k=i
   ·rw[if_pos z,← z,ybs]
   ·rw[if_neg z,ybC (Ne.symm z)]
 ·rw[hm,yeY List.mem_cons_self,yai (λz=>h.nt (by rw[← z];exact List.mem_of_getElem? e'))]
  exact h.sl k' l' e'
def yde (keys:List Int)(VB:List (List (List Tl)))(i:Nat):Int×List (List Tl):=(keys.getD i 0,VB.map λbs=>bs.getD i [])
def yaY (keys:List Int)(VB:List (List (List Tl))):List (Int×List (List Tl)):=(List.range keys.length).map (yde keys VB)
def vbT (VB:List (List (List Tl))):Th:=.ls (VB.map bsT)
theorem yoq {cdv:Value}{A:Around}{outer:List Env}{s0:Shared}{H0:Hp}{E:XK}(T:Txt K mg t)(hr:Room 5 (A.deeper (PyProof.Rows.envOfC "_law_heard" (yac (top 52)) s0.heap.objs.size t.f_zC cdv))) :
  ∃ te,PS (ybz CX0 P w K mg base ["_law_keys","_law_voices","_law_found","_law_ties","_law_number","_law_key","_law_here","_law_pitches_here","_law_k","_law_signs","_law_j","_law_told"] "_law_heard" (yac (top 52)) t.f_zC cdv A outer s0 H0 E).nox ((yb9 (yaV 52 2)).getD 0 (.Pass ⟨0,0,0,0⟩)) te∧∀ D (x:V) (VB:List (List (List Tl))) (i:Nat) (H H1:Hp) o0 o2 o3 o5 o6 o7 o8 o9 o10 o11,Is H x (vbT VB)→Same H H1→VB.length≤2→(∀ bs∈VB,i < bs.length) →
   (∀ h H',Same H1 H'→H1 h=none→(∃ ys,H' h=some (.lst ys)∧Iss H ys ((VB.map λbs=>bs.getD i []).map tls))→D.nx [o0,some x,o2,o3,some (.int (i:Nat)),o5,some (.ref h),o7,o8,o9,o10,o11] H')→te D [o0,some x,o2,o3,some (.int (i:Nat)),o5,o6,o7,o8,o9,o10,o11] H1:=by
 have hu:=ya2 hr
 refine⟨_,(yba (i:=6) sc_zC.nd rfl (Or.inl rfl) (yaQ (NB:=["_law_bars","_law_number"]) (cap:=[none,some 4]) rfl) rfl (yaX (pv 1)) (λ_ _ _ _=>(yan (i:=0) (show List.Nodup (["_law_bars","_law_number"]:List Str) by decide) rfl (Or.inl rfl))) (λ_ _ _ _=>yaT) (λ_ _ _ _=>(yav (show IxR _ (ykp K) from yaz) (pv 0) (pv 1) (λ_ _=>rfl)))),λD x VB i H H1 o0 o2 o3 o5 o6 o7 o8 o9 o10 o11 ix s1 l2 hi q=>?_⟩
 obtain⟨l,xs,rfl,el,is⟩:∃ l xs,x=.ref l∧H l=some (.lst xs)∧Iss H xs (VB.map bsT):=by rw[vbT,Is] at ix;exact ix
 have lx:xs.length=VB.length:=by rw[is.len,List.length_map]
 walk_at "st"
 refine⟨l,rfl,⟨_,SqL.of (s1 _ _ el)⟩,λV0 hV=>ybb (xs:=xs) (λk σ' H'=>(∃ o,σ'=[o,some (.int (i:Nat))])∧Same H1 H'∧∃ ys,H' V0=some (.lst ys)∧Iss H ys (((VB.take k).map λbs=>bs.getD i []).map tls)) ⟨⟨_,rfl⟩,yae hV _,[],yab,yay _⟩ (λ_ _ _ _ h=>SqL.of (h.2.1 _ _ (s1 _ _ el))) ?_ ?_⟩
 ·rintro k y σ' H' N hN hy ⟨⟨o,rfl⟩,sm,ys,hd,iy⟩
  have hk:k < VB.length:=by have:=(List.getElem?_eq_some_iff.mp hy).1;omega
  obtain⟨y',ey,ib⟩:=is.at' k (by rw[List.length_map];exact hk)
  rw[hy] at ey
  cases ey
  rw[List.getElem_map] at ib
  obtain⟨m,zs,rfl,em,im⟩:∃ m zs,y=.ref m∧H m=some (.lst zs)∧Iss H zs (VB[k].map tls):=by rw[bsT,Is] at ib;exact ib
  have hi':=hi _ (List.getElem_mem hk)
  obtain⟨z,ez,iz⟩:=im.at' i (by rw[List.length_map];exact hi')
  rw[List.getElem_map] at iz
  refine ybN (ycQ (i_T ?_))
  walk_at "st"
  refine ybc (SqL.of (sm _ _ (s1 _ _ em))) (yak ez) ?_
  refine⟨ys,hd,yam (by rw[iy.len,List.length_map,List.length_map,List.length_take];omega),hN _ _ ⟨⟨_,rfl⟩,yaJ hV sm,_,yab,?_⟩⟩
  rw[List.take_succ_eq_append_getElem hk,List.map_append,List.map_append]
  refine Iss.app iy (yal ?_ (yay _))
  show Is H z (tls (VB[k].getD i []))
  rw[List.getD_eq_getElem?_getD,List.getElem?_eq_getElem hi']
  exact iz
 ·rintro σ' H' ⟨_,sm,ys,hd,iy⟩
  rw[lx,List.take_length] at iy
  exact q V0 H' sm hV ⟨ys,hd,iy⟩
theorem yjs {α:Type}{f:Nat→α}{k:Nat}{a b:α}:upF (upF f k a) k b=upF f k b:=by
 funext j
 by_cases z:j=k
 ·rw[z,ybs,ybs]
 ·rw[ybC z,ybC z,ybC z]
structure LV (H H1 Hc:Hp) (fl tl:Addr) (L:List Addr) (n:Nat) (S:List MS) (b:Int×List (List Tl)) (hh fd:Addr) (kvs:List (List Key×V)):Prop where
 lS:S.length=n
 n2:n≤2
 gb:ycX n b
 ok:∀ (k:Nat) s,S[k]?=some s→∃ m,ynh m s∧m+nts (b.2.getD k [])≤23
 ms:∀ s∈S,MsT s
 ih:Is Hc (.ref hh) (bsT b.2)
 ed:Hc fd=some (.dT kvs)
 hk:∀ (i:Nat) q,(ya9 (S.map (·.cm)) b.2 b.2.length)[i]?=some q→∃ v ps,(ybr b.1 (S.map (·.cm)) b.2)[i]?=some ps∧yb8 kvs [.inl q.1.vo,.inl ((q.2:Nat):Int)]=some v∧Is Hc v (lT ps)
theorem yph {cdv:Value}{A:Around}{outer:List Env}{s0:Shared}{H0:Hp}{E:XK}(T:Txt K mg t)(G_zS:FnOk P w K mg base CX0 3 t.f_zS t.d_zS ["_law_sounds","_law_told","_law_tied","_law_pitches_here"] yk1)(hr:Room 5 (A.deeper (PyProof.Rows.envOfC "_law_heard" (yac (top 52)) s0.heap.objs.size t.f_zC cdv))) :
  ∃ te,PS (ybz CX0 P w K mg base ["_law_keys","_law_voices","_law_found","_law_ties","_law_number","_law_key","_law_here","_law_pitches_here","_law_k","_law_signs","_law_j","_law_told"] "_law_heard" (yac (top 52)) t.f_zC cdv A outer s0 H0 E).nox ((yb9 (yaV 52 2)).getD 2 (.Pass ⟨0,0,0,0⟩)) te∧∀ D (H H1 Hc:Hp) (fl tl:Addr) (L:List Addr) (n:Nat) (S:List MS) (b:Int×List (List Tl)) (hh fd:Addr) (kvs:List (List Key×V)) (xf:Nat→List V) o0 o1 o4 o5 o8 o9 o10 o11,LB H H1 fl tl L n (λk=>S.getD k ms0) xf→LV H H1 Hc fl tl L n S b hh fd kvs→Same Hc (cut (tl :: L) H1) →
   (∀ xf' o8 o9 o10 o11 H',LB H H' fl tl L n (λk=>(ycu b S).getD k ms0) xf'→D.nx [o0,o1,some (.ref fl),some (.ref tl),o4,o5,some (.ref hh),some (.ref fd),o8,o9,o10,o11] H')→te D [o0,o1,some (.ref fl),some (.ref tl),o4,o5,some (.ref hh),some (.ref fd),o8,o9,o10,o11] H1:=by
 have hu:=ya2 hr
 refine⟨_,(ybf PassesOwn.never rfl (ych rfl T.Jc (yaa (pv 6) yaf)) (yca (n:=2) rfl (yaC (yan (i:=8) sc_zC.nd rfl (Or.inl rfl)) (yaC (yan (i:=9) sc_zC.nd rfl (Or.inl rfl)) ybG))) (yaj (ybf PassesOwn.never rfl (ych rfl T.Jc (yaa (pv 9) yaf)) (yca (n:=2) rfl (yaC (yan (i:=10) sc_zC.nd rfl (Or.inl rfl)) (yaC (yan (i:=11) sc_zC.nd rfl (Or.inl rfl)) ybG))) (yah (yaO (yaq G_zS (hr.mono (by first | decide | omega)) rfl T.zS.M T.zS.F.kp T.zS.B .nil yaD (yaa (yav yaz (pv 2) (pv 8) (λ_ _=>rfl)) (yaa (pv 11) (yaa (yav yaz (pv 3) (pv 8) (λ_ _=>rfl)) (yaa (yeQ (h1 hu) (pv 7) (yaE (yaa (pv 8) (yaa (pv 10) yaf))) (yaZ yaf) ⟨rfl,rfl,rfl,rfl⟩) yaf)))))) (yaj (ygd (yd6 (ybT (ycb hu) (yav yaA (pv 11) yag (λ_ _=>rfl)) yaF (yaH _)) (yd0 (yav yaA (pv 11) yag (λ_ _=>rfl)))) (yfW (pv 3) (pv 8) yc5))))))),λD H H1 Hc fl tl L n S b hh fd kvs xf o0 o1 o4 o5 o8 o9 o10 o11 h v sc q=>?_⟩
 obtain⟨l,xs,e,el,is⟩:∃ l xs,V.ref hh=.ref l∧Hc l=some (.lst xs)∧Iss Hc xs (b.2.map tls):=by have:=v.ih;rw[bsT,Is] at this;exact this
 cases e
 have gts:∀ ts∈b.2,yaN ts:=λts hm=>(v.gb.2 ts hm).1
 have lx:xs.length=n:=by rw[is.len,List.length_map,v.gb.1]
 have out:∀ {H'},Same Hc (cut (tl :: L) H')→Same Hc H':=λs=>s.trans (ycq _ _)
 have n2:=v.n2
 walk_at "st"
 refine⟨hh,rfl,⟨_,SqL.of (out sc _ _ el)⟩,ybQ (xs:=xs) (λk σ H'=>∃ xf' o8 o9 o10 o11,σ=[o0,o1,some (.ref fl),some (.ref tl),o4,o5,some (.ref hh),some (.ref fd),o8,o9,o10,o11]∧LB H H' fl tl L n (λj=>if j < k then (ycu b S).getD j ms0 else S.getD j ms0) xf'∧Same Hc (cut (tl :: L) H')) ?_ ?_ ?_ ?_⟩
 ·refine⟨xf,_,_,_,_,rfl,?_,sc⟩
  have:(λj=>if j < 0 then (ycu b S).getD j ms0 else S.getD j ms0)=λj=>S.getD j ms0:=by funext k;rw[if_neg (by omega)]
  rw[this]
  exact h
 ·rintro k σ H' _ ⟨_,_,_,_,_,rfl,_,s⟩
  exact SqL.of (out s _ _ el)
 ·rintro k y σ H' p hy ⟨xf',o8,o9,o10,o11,rfl,h',s'⟩ hp
  have hk:k < n:=by have:=(List.getElem?_eq_some_iff.mp hy).1;omega
  have hkb:k < b.2.length:=by rw[v.gb.1];exact hk
  have hkS:k < S.length:=by rw[v.lS];exact hk
  have hkL:k < L.length:=by rw[h.lL];exact hk
  obtain⟨y',ey,iy⟩:=is.at' k (by rw[List.length_map];exact hkb)
  rw[hy] at ey
  cases ey
  rw[List.getElem_map] at iy
  obtain⟨m,zs,rfl,em,im⟩:∃ m zs,y=.ref m∧Hc m=some (.lst zs)∧Iss Hc zs (b.2[k].map tlT):=by rw[tls,Is] at iy;exact iy
  have s2:=yae hp (.tup [.int (k:Nat),.ref m])
  refine yex (SqT.of yab) ?_
  generalize upd H' p (.tup [.int (k:Nat),.ref m])=H2 at s2 ⊢
  have h2:=h'.keep s2
  have sc2:Same Hc (cut (tl :: L) H2):=s'.trans (ybI λb u _ e=>s2 _ _ e)
  have gv:b.2.getD k []=b.2[k]:=by rw[List.getD_eq_getElem?_getD,List.getElem?_eq_getElem hkb];rfl
  have gS:S.getD k ms0=S[k]:=by rw[List.getD_eq_getElem?_getD,List.getElem?_eq_getElem hkS];rfl
  have lz:zs.length=b.2[k].length:=by rw[im.len,List.length_map]
  have gk:=gts _ (List.getElem_mem hkb)
  obtain⟨mm,okk,cnt⟩:=v.ok k _ (List.getElem?_eq_getElem hkS)
  rw[gv] at cnt
  have msk:=v.ms _ (List.getElem_mem hkS)
  have hel:(λj=>if j < k then (ycu b S).getD j ms0 else S.getD j ms0)=upF (λj=>if j < k then (ycu b S).getD j ms0 else S.getD j ms0) k (ya5 (yes b.1 (S.map (·.cm)) b.2 k) 0 S[k] (b.2[k].take 0)):=by
   funext j
   by_cases z:j=k
   ·subst z;rw[ybs,if_neg (Nat.lt_irrefl _),gS];rfl
   ·rw[ybC z]
  walk_at "st"
  refine⟨m,rfl,⟨_,SqL.of (out sc2 _ _ em)⟩,ybQ (xs:=zs) (λj σ H'=>∃ xf' o10 o11,σ=[o0,o1,some (.ref fl),some (.ref tl),o4,o5,some (.ref hh),some (.ref fd),some (.int (k:Nat)),some (.ref m),o10,o11]∧LB H H' fl tl L n (upF (λj=>if j < k then (ycu b S).getD j ms0 else S.getD j ms0) k (ya5 (yes b.1 (S.map (·.cm)) b.2 k) 0 S[k] (b.2[k].take j))) xf'∧Same Hc (cut (tl :: L) H')) ?_ ?_ ?_ ?_⟩
  ·exact⟨xf',_,_,rfl,by rw[← hel];exact h2,sc2⟩
  ·rintro j σ H' _ ⟨_,_,_,rfl,_,s⟩
   exact SqL.of (out s _ _ em)
  ·rintro j z σ H3 p3 hz ⟨xf3,o10,o11,rfl,h3,sc3⟩ hp3
   have hj:j < b.2[k].length:=by have:=(List.getElem?_eq_some_iff.mp hz).1;omega
   obtain⟨z',ez,iz⟩:=im.at' j (by rw[List.length_map];exact hj)
   rw[hz] at ez
   cases ez
   rw[List.getElem_map] at iz
   have gt:=gk _ (List.getElem_mem hj)
   have mt:=yg7 (yes b.1 (S.map (·.cm)) b.2 k) hj S[k]
   have mT:=yfo (yes b.1 (S.map (·.cm)) b.2 k) (b.2[k].take j) 0 S[k] msk
   have mF:=ydG (ydr (yes b.1 (S.map (·.cm)) b.2 k) (b.2[k].take j) 0 S[k] mm okk.1 okk.2)
   have mc:nts (b.2[k].take j)≤nts b.2[k]:=(List.take_sublist j b.2[k]).countP_le
   have hps:isN b.2[k][j]=true→(ya5 (yes b.1 (S.map (·.cm)) b.2 k) 0 S[k] (b.2[k].take j)).cm=false→∃ w,yb8 kvs [.inl ((k:Nat):Int),.inl ((j:Nat):Int)]=some w∧Is Hc w (lT (yes b.1 (S.map (·.cm)) b.2 k j)):=λhn hc=>by
    rw[yef] at hc
    have hc2:yn4 ((S.map (·.cm)).getD k false) (b.2.getD k []) j=false:=by rw[ygL,gS,gv];exact hc
    obtain⟨r,hr⟩:=yhA ((k:Nat):Int) (b.2.getD k []) ((S.map (·.cm)).getD k false) 0 0 j ⟨_,by rw[gv];exact List.getElem?_eq_getElem hj,hn⟩ hc2
    rw[Nat.zero_add] at hr
    have hv:=(ybl (ybv gts k) hr).2.1
    obtain⟨i,hi,e⟩:=List.getElem_of_mem (yhq hkb hr)
    have e':=List.getElem?_eq_some_iff.mpr ⟨hi,e⟩
    obtain⟨w,ps,e1,e2,e3⟩:=v.hk i _ e'
    obtain⟨ps',e4,e5⟩:=yj1 (key:=b.1) gts e' hv
    rw[e1] at e4
    cases e4
    exact⟨w,by rw[← e2,hv],by rw[e5];exact e3⟩
   generalize ya5 (yes b.1 (S.map (·.cm)) b.2 k) 0 S[k] (b.2[k].take j)=M at h3 mt mT mF hps
   rw[mt]
   generalize b.2[k][j]=tq at iz gt mt hps ⊢
   have s4:=yae hp3 (.tup [.int (j:Nat),z])
   refine yex (SqT.of yab) ?_
   generalize upd H3 p3 (.tup [.int (j:Nat),z])=H4 at s4 ⊢
   have h4:=h3.keep s4
   have sc4:Same Hc (cut (tl :: L) H4):=sc3.trans (ybI λb u _ e=>s4 _ _ e)
   have sl4:=h4.sl k _ (List.getElem?_eq_getElem hkL)
   rw[ybs] at sl4
   walk_at "st"
   refine ybc (SqL.of h4.ef) (v:=.ref L[k]) (yak (by rw[List.getElem?_map,List.getElem?_eq_getElem hkL];rfl)) ?_
   walk_at "st"
   refine ybc (SqL.of h4.et) (v:=.bl M.cm) (yak (by rw[List.getElem?_map,List.getElem?_range hk];show some (V.bl (upF _ k M k).cm)=_;rw[ybs])) ?_
   walk_at "st"
   refine yne ?_
   walk_at "st"
   refine⟨fd,rfl,.inr ⟨kvs,.inl (out sc4 _ _ v.ed)⟩,?_⟩
   walk_at "st"
   refine⟨by show 2≤sizeLine;decide,λp5 g5=>?_⟩
   have s5:=yae g5 (.tup [.int (k:Nat),.int (j:Nat)])
   have e5:upd H4 p5 (.tup [.int (k:Nat),.int (j:Nat)]) p5=some (.tup [.int (k:Nat),.int (j:Nat)]):=yab
   generalize upd H4 p5 (.tup [.int (k:Nat),.int (j:Nat)])=H5 at s5 e5 ⊢
   walk_at "st"
   refine⟨Nat.zero_le _,λp6 g6=>?_⟩
   have s6:=yae g6 (.lst [])
   generalize upd H5 p6 (.lst [])=H6 at s6 ⊢
   have s46:=s5.trans s6
   have h6:=h4.keep s46
   have sc6:Same Hc (cut (tl :: L) H6):=sc4.trans (ybI λb u _ e=>s46 _ _ e)
   have sl6:=h6.sl k _ (List.getElem?_eq_getElem hkL)
   rw[ybs] at sl6
   refine⟨_,DGet.t (k:=[.inl (k:Nat),.inl (j:Nat)]) (out sc6 _ _ v.ed) (s6 _ _ e5),?_⟩
   walk_at "st"
   refine⟨L[k],z,_,M.cm,tq,xf3 k,M.sns,yes b.1 (S.map (·.cm)) b.2 k j,tl :: L,rfl,List.mem_cons_of_mem _ (List.getElem_mem hkL),h6.oc,sl6.1,sl6.2,by rw[sl6.2.1];omega,iz.same sc6,gt,λhn hc=>?_,mT,λH7 xs7 st7 e7 a7=>?_⟩
   ·obtain⟨w,e1,e2⟩:=hps hn hc
    rw[e1]
    exact e2.same sc6
   have h7:=h6.add (List.getElem?_eq_getElem hkL) st7 e7 a7
   rw[ybs,yjs] at h7
   have sc7:Same Hc (cut (tl :: L) H7):=sc6.trans (ybI λb u nb e=>st7 b u (λc=>nb (by rw[c];exact List.mem_cons_of_mem _ (List.getElem_mem hkL))) e)
   obtain⟨a,ws,rfl,ea,w0,w3⟩:=((iz.same sc7).same (ycq _ _)).tl0
   have go:ynr (ycv 3) (ycv 8) yk5 (.bl (ydC tq)) [o0,o1,some (.ref fl),some (.ref tl),o4,o5,some (.ref hh),some (.ref fd),some (.int (k:Nat)),some (.ref m),some (.int (j:Nat)),some (.ref a)] H7 (fun σ H'=>∃ xf' o10 o11,σ=[o0,o1,some (.ref fl),some (.ref tl),o4,o5,some (.ref hh),some (.ref fd),some (.int (k:Nat)),some (.ref m),o10,o11]∧LB H H' fl tl L n (upF (λj=>if j < k then (ycu b S).getD j ms0 else S.getD j ms0) k ⟨ydC tq,ydE (yes b.1 (S.map (·.cm)) b.2 k j) M tq⟩) xf'∧Same Hc (cut (tl :: L) H')):=by
    walk_at "st"
    refine⟨tl,_,(k:Nat),k,rfl,rfl,h7.et,?_,?_⟩
    ·rw[List.length_map,List.length_range];exact yj2 hk
    ·have h8:=h7.tie (k:=k) (c:=ydC tq) hk
     rw[ybs,yjs] at h8
     exact⟨_,_,_,rfl,h8,by rw[yeY List.mem_cons_self];exact sc7⟩
   walk_at "st"
   refine ya0 (SqT.of ea) (yak (j:=0) w0) ?_
   walk_at "st"
   refine ybY ?_
   rw[yek]
   refine ydz ?_
   cases hn:isN tq with
   | true =>
    refine i_T ?_
    walk_at "st"
    refine ya0 (SqT.of ea) (yak (j:=3) (w3 hn)) ?_
    exact go
   | false =>
    refine i_F ?_
    have et:ydC tq=false:=by cases tq with
     | note=>cases hn
     | pause=>rfl
     | whole=>rfl
    have e2:V.bl false=V.bl (ydC tq):=by rw[et]
    rw[e2]
    exact go
  ·rintro σ H' ⟨xf3,o10,o11,rfl,h3,sc3⟩
   rw[lz,List.take_length] at h3
   refine⟨xf3,_,_,_,_,rfl,?_,sc3⟩
   have:(λj=>if j < k+1 then (ycu b S).getD j ms0 else S.getD j ms0)=upF (λj=>if j < k then (ycu b S).getD j ms0 else S.getD j ms0) k (ya5 (yes b.1 (S.map (·.cm)) b.2 k) 0 S[k] b.2[k]):=by
    funext j
    by_cases z:j=k
    ·subst z
     rw[ybs,if_pos (Nat.lt_succ_self _),List.getD_eq_getElem?_getD,yfi hkb,gS,gv]
     rfl
    ·rw[ybC z]
     by_cases z2:j < k
     ·rw[if_pos z2,if_pos (by omega)]
     ·rw[if_neg z2,if_neg (by omega)]
   rw[this]
   exact h3
 ·rintro σ H' ⟨xf',o8,o9,o10,o11,rfl,h',s'⟩
  refine q xf' _ _ _ _ H' ?_
  have hm:∀ k,k < n→(if k < xs.length then (ycu b S).getD k ms0 else S.getD k ms0)=(ycu b S).getD k ms0:=λk hk=>by rw[if_pos (by omega)]
  refine { h' with et:=?_,sl:=λk l e=>?_ }
  ·rw[h'.et]
   congr 2
   exact List.map_congr_left λk hk=>by rw[hm k (List.mem_range.mp hk)]
  ·have:=h'.sl k l e
   rw[hm k (by rw[← h'.lL];exact(List.getElem?_eq_some_iff.mp e).1)] at this
   exact this
structure LG where
 kl:Addr
 keys:List Int
 x:V
 VB:List (List (List Tl))
 H:Hp
structure LGC (g:LG):Prop where
 ek:g.H g.kl=some (.lst (g.keys.map V.int))
 ix:Is g.H g.x (vbT g.VB)
 n1:1≤g.VB.length
 n2:g.VB.length≤2
 gb:∀ bs∈g.VB,g.keys.length≤bs.length∧ycZ bs
 ky:∀ key∈g.keys,-7≤key∧key≤7
 nc:∀ k,ycf (yaY g.keys g.VB) k≤23
 lk:g.keys.length≤200
def yhe:Sp:=λvs H Q _=>∃ (g:LG),vs=[.ref g.kl,g.x]∧g.H=H∧LGC g∧∀ y H',Same H H'→Is H' y (.ls ((ydp (yaY g.keys g.VB) g.VB.length).map λs=>ykb (ybD s.sns)))→Q y H'
theorem ybE (keys:List Int)(VB:List (List (List Tl))):(yaY keys VB).length=keys.length:=by unfold yaY;rw[List.length_map,List.length_range]
theorem yf7 {keys:List Int}{VB:List (List (List Tl))}{i:Nat}(h:i < keys.length):(yaY keys VB)[i]?=some (yde keys VB i):=by
 unfold yaY
 rw[List.getElem?_map,List.getElem?_range h]
 rfl
theorem LGC.bar {g:LG}(c:LGC g){i:Nat}(h:i < g.keys.length):ycX g.VB.length (yde g.keys g.VB i):=by
 refine⟨by unfold yde;rw[List.length_map],λts hm=>?_⟩
 obtain⟨bs,hb,rfl⟩:=List.mem_map.mp hm
 obtain⟨l,gb⟩:=c.gb bs hb
 have hi:i < bs.length:=Nat.lt_of_lt_of_le h l
 rw[List.getD_eq_getElem?_getD,List.getElem?_eq_getElem hi]
 exact gb _ (List.getElem_mem hi)
theorem LGC.bars {g:LG}(c:LGC g):∀ b∈yaY g.keys g.VB,ycX g.VB.length b:=λb hb=>by
 obtain⟨i,hi,rfl⟩:=List.mem_map.mp hb
 exact c.bar (List.mem_range.mp hi)
theorem LGC.vox {g:LG}(c:LGC g):∃ l xs,g.x=.ref l∧g.H l=some (.lst xs)∧xs.length=g.VB.length:=by
 obtain⟨l,xs,e,el,is⟩:∃ l xs,g.x=.ref l∧g.H l=some (.lst xs)∧Iss g.H xs (g.VB.map bsT):=by have:=c.ix;rw[vbT,Is] at this;exact this
 exact⟨l,xs,e,el,by rw[is.len,List.length_map]⟩
theorem yq1 {cdv:Value}{A:Around}{outer:List Env}{s0:Shared}{H0:Hp}{E:XK}(T:Txt K mg t)(hr:Room 5 (A.deeper (PyProof.Rows.envOfC "_law_heard" (yac (top 52)) s0.heap.objs.size t.f_zC cdv))) :
  ∃ te,PS (ybz CX0 P w K mg base ["_law_keys","_law_voices","_law_found","_law_ties","_law_number","_law_key","_law_here","_law_pitches_here","_law_k","_law_signs","_law_j","_law_told"] "_law_heard" (yac (top 52)) t.f_zC cdv A outer s0 H0 E).nox (yaV 52 0) te∧∀ D (g:LG) o0 o2 o3 o4 o5 o6 o7 o8 o9 o10 o11,LGC g→(∀ (vl:Addr) (L:List Addr) (H':Hp),Same g.H H'→g.H vl=none→H' vl=some (.lst (L.map V.ref))→L.length=g.VB.length→L.Nodup→vl∉L→(∀ l∈L,g.H l=none∧H' l=some (.lst []))→D.nx [o0,some g.x,some (.ref vl),o3,o4,o5,o6,o7,o8,o9,o10,o11] H')→te D [o0,some g.x,o2,o3,o4,o5,o6,o7,o8,o9,o10,o11] g.H:=by
 have hu:=ya2 hr
 refine⟨_,(yba (i:=2) sc_zC.nd rfl (Or.inl rfl) (yaQ (NB:=["_law_bars"]) (cap:=[none]) rfl) rfl (yaX (pv 1)) (λ_ _ _ _=>(yan (i:=0) (show List.Nodup (["_law_bars"]:List Str) by decide) rfl (Or.inl rfl))) (λ_ _ _ _=>yaT) (λ_ _ _ _=>(yaZ yaf))),λD g o0 o2 o3 o4 o5 o6 o7 o8 o9 o10 o11 c q=>?_⟩
 obtain⟨l,ys,ex,el,ly⟩:=c.vox
 rw[ex] at q ⊢
 walk_at "st"
 refine⟨l,rfl,⟨_,SqL.of el⟩,λV0 hV=>ybb (xs:=ys) (λi σ' H'=>(∃ o,σ'=[o])∧Same g.H H'∧∃ L:List Addr,H' V0=some (.lst (L.map V.ref))∧L.length=i∧L.Nodup∧V0∉L∧∀ l∈L,g.H l=none∧H' l=some (.lst [])) ⟨⟨_,rfl⟩,yae hV _,[],yab,rfl,List.nodup_nil,(λz=>by cases z),λ_ z=>by cases z⟩ (λ_ _ _ _ h=>SqL.of (h.2.1 _ _ el)) ?_ ?_⟩
 ·rintro i x σ' H' N hN hx ⟨⟨o,rfl⟩,sm,L,hd,ln,nd,nv,hl⟩
  have hi:i < ys.length:=(List.getElem?_eq_some_iff.mp hx).1
  have:=c.n2
  refine ybN (ycQ (i_T ?_))
  walk_at "st"
  refine⟨Nat.zero_le _,λp hp=>?_⟩
  have s2:=yae hp (.lst [])
  have np:p∉L:=λz=>by rw[(hl p z).2] at hp;cases hp
  have npv:p≠V0:=(yad hd hp).symm
  refine⟨_,s2 _ _ hd,yam (by rw[List.length_map];omega),hN _ _ ⟨⟨_,rfl⟩,yaJ hV (sm.trans s2),L++[p],by rw[List.map_append];exact yab,by rw[List.length_append,ln];rfl,?_,?_,λl' h'=>?_⟩⟩
  ·exact List.nodup_append.mpr ⟨nd,by simp,λa ha b hb e=>np (by rw[← List.mem_singleton.mp hb,← e];exact ha)⟩
  ·intro z
   rcases List.mem_append.mp z with z | z
   ·exact nv z
   ·exact npv (List.mem_singleton.mp z).symm
  ·rcases List.mem_append.mp h' with h' | h'
   ·refine⟨(hl l' h').1,?_⟩
    rw[yai (λz=>nv (by rw[← z];exact h'))]
    exact s2 _ _ (hl l' h').2
   ·rw[List.mem_singleton.mp h']
    refine⟨sm.free hp,?_⟩
    rw[yai npv]
    exact yab
 ·rintro σ' H' ⟨_,sm,L,hd,ln,nd,nv,hl⟩
  exact q V0 L H' sm hV hd (by rw[ln,ly]) nd nv hl
theorem yqW {cdv:Value}{A:Around}{outer:List Env}{s0:Shared}{H0:Hp}{E:XK}(T:Txt K mg t)(hr:Room 5 (A.deeper (PyProof.Rows.envOfC "_law_heard" (yac (top 52)) s0.heap.objs.size t.f_zC cdv))) :
  ∃ te,PS (ybz CX0 P w K mg base ["_law_keys","_law_voices","_law_found","_law_ties","_law_number","_law_key","_law_here","_law_pitches_here","_law_k","_law_signs","_law_j","_law_told"] "_law_heard" (yac (top 52)) t.f_zC cdv A outer s0 H0 E).nox (yaV 52 1) te∧∀ D (g:LG) o0 o2 o3 o4 o5 o6 o7 o8 o9 o10 o11 H1,LGC g→Same g.H H1→(∀ tl H',Same H1 H'→H1 tl=none→H' tl=some (.lst (List.replicate g.VB.length (.bl false)))→D.nx [o0,some g.x,o2,some (.ref tl),o4,o5,o6,o7,o8,o9,o10,o11] H')→te D [o0,some g.x,o2,o3,o4,o5,o6,o7,o8,o9,o10,o11] H1:=by
 have hu:=ya2 hr
 refine⟨_,(yba (i:=3) sc_zC.nd rfl (Or.inl rfl) (yaQ (NB:=["_law_bars"]) (cap:=[none]) rfl) rfl (yaX (pv 1)) (λ_ _ _ _=>(yan (i:=0) (show List.Nodup (["_law_bars"]:List Str) by decide) rfl (Or.inl rfl))) (λ_ _ _ _=>yaT) (λ_ _ _ _=>yco)),λD g o0 o2 o3 o4 o5 o6 o7 o8 o9 o10 o11 H1 c s1 q=>?_⟩
 obtain⟨l,ys,ex,el,ly⟩:=c.vox
 rw[ex] at q ⊢
 walk_at "st"
 refine⟨l,rfl,⟨_,SqL.of (s1 _ _ el)⟩,λV0 hV=>ybb (xs:=ys) (λi σ' H'=>(∃ o,σ'=[o])∧Same H1 H'∧H' V0=some (.lst (List.replicate i (.bl false)))) ⟨⟨_,rfl⟩,yae hV _,yab⟩ (λ_ _ _ _ h=>SqL.of (h.2.1 _ _ (s1 _ _ el))) ?_ ?_⟩
 ·rintro i x σ' H' N hN hx ⟨⟨o,rfl⟩,sm,hd⟩
  have hi:i < ys.length:=(List.getElem?_eq_some_iff.mp hx).1
  have:=c.n2
  refine ybN (ycQ (i_T ?_))
  walk_at "st"
  refine⟨_,hd,yam (by rw[List.length_replicate];omega),hN _ _ ⟨⟨_,rfl⟩,yaJ hV sm,?_⟩⟩
  rw[yab,List.replicate_succ']
 ·rintro σ' H' ⟨_,sm,hd⟩
  exact q V0 H' sm hV (by rw[hd,ly])
theorem ymt {S:List MS}{n:Nat}(h:S.length=n):((List.range n).map λk=>V.bl (S.getD k ms0).cm)=(S.map (·.cm)).map V.bl:=by
 apply List.ext_getElem
 ·rw[List.length_map,List.length_range,List.length_map,List.length_map,h]
 ·intro i h1 h2
  rw[List.length_map,List.length_range] at h1
  rw[List.getElem_map,List.getElem_map,List.getElem_map,List.getElem_range,List.getD_eq_getElem?_getD,List.getElem?_eq_getElem (by omega)]
  rfl
theorem yrl {cdv:Value}{A:Around}{outer:List Env}{s0:Shared}{H0:Hp}{E:XK}(T:Txt K mg t)(G_zn:FnOk P w K mg base CX0 4 t.f_zn t.d_zn ["_law_key","_law_voices","_law_ties"] ymJ)(G_zS:FnOk P w K mg base CX0 3 t.f_zS t.d_zS ["_law_sounds","_law_told","_law_tied","_law_pitches_here"] yk1)(hr:Room 5 (A.deeper (PyProof.Rows.envOfC "_law_heard" (yac (top 52)) s0.heap.objs.size t.f_zC cdv))) :
  ∃ te,PS (ybz CX0 P w K mg base ["_law_keys","_law_voices","_law_found","_law_ties","_law_number","_law_key","_law_here","_law_pitches_here","_law_k","_law_signs","_law_j","_law_told"] "_law_heard" (yac (top 52)) t.f_zC cdv A outer s0 H0 E).nox (yaV 52 2) te∧∀ D (g:LG) (fl tl:Addr) (L:List Addr) xf o4 o5 o6 o7 o8 o9 o10 o11 H1,LGC g→LB g.H H1 fl tl L g.VB.length (λk=>(List.replicate g.VB.length ms0).getD k ms0) xf→(∀ xf o4 o5 o6 o7 o8 o9 o10 o11 H',LB g.H H' fl tl L g.VB.length (λk=>(ydp (yaY g.keys g.VB) g.VB.length).getD k ms0) xf→D.nx [some (.ref g.kl),some g.x,some (.ref fl),some (.ref tl),o4,o5,o6,o7,o8,o9,o10,o11] H')→te D [some (.ref g.kl),some g.x,some (.ref fl),some (.ref tl),o4,o5,o6,o7,o8,o9,o10,o11] H1:=by
 have hu:=ya2 hr
 obtain⟨t0,pf0,k0⟩:=yoq (P:=P) (w:=w) (base:=base) (cdv:=cdv) (A:=A) (outer:=outer) (s0:=s0) (H0:=H0) (E:=E) T hr
 obtain⟨t2,pf2,k2⟩:=yph (cdv:=cdv) (A:=A) (outer:=outer) (s0:=s0) (H0:=H0) (E:=E) T G_zS hr
 refine⟨_,show PS _ (yaV 52 2) _ from ybf PassesOwn.never rfl (ych rfl T.Jc (yaa (pv 0) yaf)) (yca (n:=2) rfl (yaC (yan (i:=4) sc_zC.nd rfl (Or.inr rfl)) (yaC (yan (i:=5) sc_zC.nd rfl (Or.inl rfl)) ybG))) (yah pf0 (yah (yas (i:=7) sc_zC.nd rfl (Or.inl rfl) (yaq G_zn (hr.mono (by first | decide | omega)) rfl T.zn.M T.zn.F.kp T.zn.B .nil yaD (yaa (pv 5) (yaa (pv 6) (yaa (pv 3) yaf))))) (yaj pf2))),λD g fl tl L xf o4 o5 o6 o7 o8 o9 o10 o11 H1 c h q=>?_⟩
 have st:=ycp (bars:=yaY g.keys g.VB) (n:=g.VB.length) (λb hb=>(c.bars b hb).1)
 have n2:=c.n2
 walk_at "st"
 refine⟨g.kl,rfl,⟨_,SqL.of (h.sm _ _ c.ek)⟩,ybQ (xs:=g.keys.map V.int) (λi σ H'=>∃ xf o4 o5 o6 o7 o8 o9 o10 o11,σ=[some (.ref g.kl),some g.x,some (.ref fl),some (.ref tl),o4,o5,o6,o7,o8,o9,o10,o11]∧LB g.H H' fl tl L g.VB.length (λk=>(ydp ((yaY g.keys g.VB).take i) g.VB.length).getD k ms0) xf) ?_ ?_ ?_ ?_⟩
 ·exact⟨xf,_,_,_,_,_,_,_,_,rfl,h⟩
 ·rintro i σ H' _ ⟨_,_,_,_,_,_,_,_,_,rfl,h⟩
  exact SqL.of (h.sm _ _ c.ek)
 ·rintro i y σ H' p hy ⟨xf,o4,o5,o6,o7,o8,o9,o10,o11,rfl,h'⟩ hp
  have hi:i < g.keys.length:=by have:=(List.getElem?_eq_some_iff.mp hy).1;rw[List.length_map] at this;exact this
  have ey:y=.int (g.keys.getD i 0):=by
   rw[List.getElem?_map,List.getElem?_eq_getElem hi] at hy
   rw[List.getD_eq_getElem?_getD,List.getElem?_eq_getElem hi]
   exact(Option.some.inj hy).symm
  subst ey
  have hib:i < (yaY g.keys g.VB).length:=by rw[ybE];exact hi
  have eb:(yaY g.keys g.VB)[i]=yde g.keys g.VB i:=by have:=yf7 (VB:=g.VB) hi;rw[List.getElem?_eq_getElem hib] at this;exact Option.some.inj this
  have sn:ydp ((yaY g.keys g.VB).take (i+1)) g.VB.length=ycu (yde g.keys g.VB i) (ydp ((yaY g.keys g.VB).take i) g.VB.length):=by rw[List.take_succ_eq_append_getElem hib,yd3,eb]
  have sti:=st i (by omega)
  have hT:=yng g.VB.length ((yaY g.keys g.VB).take i)
  have hbar:=c.bar hi
  have hkey:-7≤g.keys.getD i 0∧g.keys.getD i 0≤7:=by
   rw[List.getD_eq_getElem?_getD,List.getElem?_eq_getElem hi]
   exact c.ky _ (List.getElem_mem hi)
  have cnt:∀ k,ycf ((yaY g.keys g.VB).take i) k+nts ((yde g.keys g.VB i).2.getD k [])≤23:=λk=>by
   have h1:=Nat.le_trans (ydk (bars:=yaY g.keys g.VB) (k:=k) (i+1)) (c.nc k)
   have h2:ycf ((yaY g.keys g.VB).take (i+1)) k=ycf ((yaY g.keys g.VB).take i) k+nts ((yde g.keys g.VB i).2.getD k []):=by
    unfold ycf
    rw[List.take_succ_eq_append_getElem hib,List.map_append,List.sum_append,eb]
    simp
   omega
  rw[sn]
  generalize ydp ((yaY g.keys g.VB).take i) g.VB.length=S at h' sti hT
  have s2:=yae hp (.tup [.int (i:Nat),.int (g.keys.getD i 0)])
  refine yex (SqT.of yab) ?_
  generalize upd H' p (.tup [.int (i:Nat),.int (g.keys.getD i 0)])=H2 at s2 ⊢
  have h2:=h'.keep s2
  refine ybe (k0 _ g.x g.VB i g.H H2 _ _ _ _ _ _ _ _ _ _ c.ix h2.sm n2 (λbs hb=>Nat.lt_of_lt_of_le hi (c.gb bs hb).1) λhh H3 s3 nh ⟨ys,ehh,iys⟩=>?_)
  have h3:=h2.keep s3
  have gts:∀ ts∈(yde g.keys g.VB i).2,yaN ts∧ts.length≤60∧nts ts≤23:=λts hm=>by
   refine⟨(hbar.2 ts hm).1,(hbar.2 ts hm).2.2,?_⟩
   obtain⟨k,hk,e⟩:=List.getElem_of_mem hm
   have:=cnt k
   rw[List.getD_eq_getElem?_getD,List.getElem?_eq_getElem hk,e] at this
   exact Nat.le_trans (Nat.le_add_left _ _) this
  walk_at "st"
  refine⟨g.keys.getD i 0,.ref hh,tl,S.map (·.cm),(yde g.keys g.VB i).2,rfl,hkey.1,hkey.2,ybB ehh (iys.same h3.sm),by rw[h3.et,ymt sti.1],by rw[List.length_map,sti.1,hbar.1],by rw[hbar.1];exact n2,gts,λfd H4 kvs s4 nfd efd hkv=>?_⟩
  have h4:=h3.keep s4
  have nhL:hh∉tl :: L:=h2.new nh
  have cutT:∀ {b u},H4 b=some u→(∀ xs,u≠.lst xs)→cut (tl :: L) H4 b=some u:=λe n=>by rw[ybx (h4.kind e n)];exact e
  walk_at "st"
  refine k2 _ g.H H4 (cut (tl :: L) H4) fl tl L g.VB.length S (yde g.keys g.VB i) hh fd kvs xf _ _ _ _ _ _ _ _ h4 ⟨sti.1,n2,hbar,λk s e=>⟨_,sti.2 k s e,cnt k⟩,hT,ybB (by rw[ybx nhL];exact s4 _ _ ehh) (iys.same h4.old),cutT efd (λ_ z=>by cases z),λj q' eq'=>?_⟩ (Same.refl _) λxf' o8 o9 o10 o11 H5 h5=>?_
  ·obtain⟨v,ps,e1,e2,iv,a,rfl,na⟩:=hkv j q' eq'
   refine⟨_,ps,e1,e2,?_⟩
   obtain⟨l2,zs,e3,e4,e5⟩:∃ l2 zs,V.ref a=.ref l2∧H4 l2=some (.lst zs)∧Iss H4 zs (ps.map pT):=by rw[lT,Is] at iv;exact iv
   cases e3
   refine ybB (by rw[ybx (h3.new na)];exact e4) ((yhm e5).same λb u e=>?_)
   obtain⟨e,w,rfl⟩:=yb0 e
   exact cutT e (λ_ z=>by cases z)
  ·exact⟨xf',_,_,_,_,_,_,_,_,rfl,h5⟩
 ·rintro σ H' ⟨xf,o4,o5,o6,o7,o8,o9,o10,o11,rfl,h'⟩
  rw[List.length_map,List.take_of_length_le (by rw[ybE];exact Nat.le_refl _)] at h'
  exact q _ _ _ _ _ _ _ _ _ _ h'
theorem yqX {cdv:Value}{A:Around}{outer:List Env}{s0:Shared}{H0:Hp}{E:XK}(T:Txt K mg t)(hr:Room 5 (A.deeper (PyProof.Rows.envOfC "_law_heard" (yac (top 52)) s0.heap.objs.size t.f_zC cdv))) :
  ∃ te,PS (ybz CX0 P w K mg base ["_law_keys","_law_voices","_law_found","_law_ties","_law_number","_law_key","_law_here","_law_pitches_here","_law_k","_law_signs","_law_j","_law_told"] "_law_heard" (yac (top 52)) t.f_zC cdv A outer s0 H0 E).nox (yaV 52 3) te∧∀ D (H H1:Hp) (fl tl:Addr) (L:List Addr) (n:Nat) (S:List MS) xf o0 o1 o4 o5 o6 o7 o8 o9 o10 o11,LB H H1 fl tl L n (λk=>S.getD k ms0) xf→S.length=n→n≤2 →
   (∀ y H',Same H1 H'→Is H' y (.ls (S.map λs=>ykb (ybD s.sns)))→D.rt y H')→te D [o0,o1,some (.ref fl),some (.ref tl),o4,o5,o6,o7,o8,o9,o10,o11] H1:=by
 have hu:=ya2 hr
 refine⟨_,(yaG (yb5 (yaQ (NB:=["_law_sounds"]) (cap:=[none]) rfl) rfl (yaX (pv 2)) (λ_ _ _ _=>(yan (i:=0) (show List.Nodup (["_law_sounds"]:List Str) by decide) rfl (Or.inl rfl))) (λ_ _ _ _=>yaT) (λ_ _ _ _=>(ybm (PW.pt (yeG (yaL (show OpR _ _ (yiG K) from yeO hu) (pv 0) (yaZ yaf) (yaH _)) (ydo (yaL (show OpR _ _ (ynS K) from ycb hu) (yav (show IxR _ (ymL K) from yaA) (yav (show IxR _ (ykp K) from yaz) (pv 0) (yc6 ybZ yag) (λ_ _=>rfl)) yag (λ_ _=>rfl)) yaF (yaH _))))) (ybJ (show SlR _ (yo9 K) from ygU) (pv 0) yb2 (yb4 (yc6 ybZ yag))) (pv 0))))),λD H H1 fl tl L n S xf o0 o1 o4 o5 o6 o7 o8 o9 o10 o11 h lS n2 q=>?_⟩
 walk_at "st"
 refine⟨fl,rfl,⟨_,SqL.of h.ef⟩,λV0 hV=>ybb (xs:=L.map V.ref) (λi σ' H'=>(∃ o,σ'=[o])∧Same H1 H'∧∃ ys,H' V0=some (.lst ys)∧Al (λv s=>Is (rm H' V0) v (ykb (ybD s.sns))) ys (S.take i)) ⟨⟨_,rfl⟩,yae hV _,[],yab,Al.nil⟩ (λ_ _ _ _ h'=>SqL.of (h'.2.1 _ _ h.ef)) ?_ ?_⟩
 ·rintro k x σ' H' N hN hx ⟨⟨o,rfl⟩,sm,ys,hd,al⟩
  have hk:k < L.length:=by have:=(List.getElem?_eq_some_iff.mp hx).1;rw[List.length_map] at this;exact this
  have hkS:k < S.length:=by rw[lS,← h.lL];exact hk
  rw[List.getElem?_map,List.getElem?_eq_getElem hk] at hx
  have hx:V.ref L[k]=x:=Option.some.inj hx
  subst hx
  obtain⟨el,as⟩:=h.sl k _ (List.getElem?_eq_getElem hk)
  have gS:S.getD k ms0=S[k]:=by rw[List.getD_eq_getElem?_getD,List.getElem?_eq_getElem hkS];rfl
  rw[gS] at as
  have tk:=List.take_succ_eq_append_getElem hkS
  have ly:ys.length≤2:=by rw[al.1,List.length_take];omega
  have a1:Al (λv sn=>Is H1 v (snT sn)) (xf k) (S[k]).sns:=as.imp λ_ _ _ z=>z.same (ycq _ _)
  have h1V:∀ {H2},Same H1 H2→Same H1 (rm H2 V0):=λs b u e=>by rw[yaB (yad e hV)];exact s _ _ e
  have el':=sm _ _ el
  generalize S[k]=ss at tk a1
  generalize L[k]=l at el el' ⊢
  have fin:∀ v H2,Same H' H2→Is (rm H2 V0) v (ykb (ybD ss.sns))→∃ zs,H2 V0=some (.lst zs)∧zs.length < sizeLine∧N [some (.ref l)] (upd H2 V0 (.lst (zs++[v]))):=λv H2 s2 iv=>by
   refine⟨ys,s2 _ _ hd,yam (by omega),hN _ _ ⟨⟨_,rfl⟩,yaJ hV (sm.trans s2),_,yab,?_⟩⟩
   rw[tk]
   exact Al.snoc (al.imp λ_ _ _ z=>(z.same (ya8 λb u _ e=>s2 _ _ e)).same ycF) (iv.same ycF)
  have whole:yct ss.sns=false→∀ H2,Same H' H2→∃ zs,H2 V0=some (.lst zs)∧zs.length < sizeLine∧N [some (.ref l)] (upd H2 V0 (.lst (zs++[.ref l]))):=λen H2 s2=>by
   refine fin _ H2 s2 ?_
   have nE:ybD ss.sns=ss.sns:=by unfold ybD;rw[if_neg (by rw[en];simp)]
   rw[nE]
   exact(ybB el (ydf a1)).same (h1V (sm.trans s2))
  refine ybN (ycQ (i_T ?_))
  walk_at "st"
  refine⟨Nat.zero_le _,λp hp=>?_⟩
  have s2:=yae hp (.lst [])
  have e2:upd H' p (.lst []) p=some (.lst []):=yab
  generalize upd H' p (.lst [])=H2 at s2 e2 ⊢
  have el2:=s2 _ _ el'
  refine⟨l,p,_,rfl,rfl,SqL.of el2,SqL.of e2,ydz ?_⟩
  cases eg:ss.sns.getLast? with
  | none =>
   have hs:ss.sns=[]:=List.getLast?_eq_none_iff.mp eg
   have hx:xf k=[]:=by have:=a1.1;rw[hs] at this;exact List.eq_nil_of_length_eq_zero this
   rw[if_neg (by rw[hx];simp)]
   refine i_F ?_
   walk_at "st"
   exact whole (by unfold yct;rw[eg]) H2 s2
  | some sn =>
   obtain⟨zs,v,ex,iv,us,eu,ay⟩:=ycV a1 eg
   rw[ex] at el2
   rw[if_pos (by rw[ex];cases zs<;>rfl)]
   walk_at "st"
   refine ybc (SqL.of el2) (ybP zs v) ?_
   cases sn with
   | tones ps' m wd' op' cl' =>
    obtain⟨va,y,rfl,ev,iy⟩:=iv.tones
    walk_at "st"
    refine ya0 (SqT.of (s2 _ _ (sm _ _ ev))) (yak (j:=0) rfl) ?_
    walk_at "st"
    refine ybY ?_
    refine ydz ?_
    refine i_F ?_
    walk_at "st"
    exact whole (by unfold yct;rw[eg];rfl) H2 s2
   | rest m =>
    obtain⟨va,rfl,ev⟩:=iv.rest
    walk_at "st"
    refine ya0 (SqT.of (s2 _ _ (sm _ _ ev))) (yak (j:=0) rfl) ?_
    walk_at "st"
    refine ybY ?_
    refine ydz ?_
    refine i_T ?_
    walk_at "st"
    refine⟨1,rfl,-1,rfl,l,_,rfl,SqL.of el2,λp3 hp3=>?_⟩
    rw[yhg]
    have s3:=yae hp3 (.lst zs)
    have np3:p3≠V0:=(yad (s2 _ _ hd) hp3).symm
    refine fin _ _ (s2.trans s3) ?_
    have nE:ybD ss.sns=us:=by unfold ybD;rw[if_pos (by unfold yct;rw[eg];rfl),eu,List.dropLast_concat]
    rw[nE]
    exact ybB (by rw[yaB np3];exact yab) ((ydf ay).same (h1V ((sm.trans s2).trans s3)))
 ·rintro σ' H' ⟨_,sm,ys,hd,al⟩
  rw[List.length_map,h.lL,← lS,List.take_length] at al
  exact q _ _ sm (ybB hd ((ydf (f:=λs:MS=>ykb (ybD s.sns)) al).same (yaK _ _)))
theorem ypU (T:Txt K mg t)(G_zn:FnOk P w K mg base CX0 4 t.f_zn t.d_zn ["_law_key","_law_voices","_law_ties"] ymJ)(G_zS:FnOk P w K mg base CX0 3 t.f_zS t.d_zS ["_law_sounds","_law_told","_law_tied","_law_pitches_here"] yk1):FnOk P w K mg base CX0 6 t.f_zC t.d_zC ["_law_keys","_law_voices"] yhe:=by
 refine T.zC.F.ok sc_zC (λvs H Q E h=>?_) (λcdv A outer s H vs Q E hr h=>?_)
 ·obtain⟨_,rfl,_⟩:=h;rfl
 have hu:=ya2 hr
 obtain⟨g,rfl,rfl,c,q⟩:=h
 obtain⟨t0,p0,k0⟩:=yq1 (cdv:=cdv) (A:=A) (outer:=outer) (s0:=s) (H0:=g.H) (E:=E) (P:=P) (w:=w) (base:=base) T hr
 obtain⟨t1,p1,k1⟩:=yqW (cdv:=cdv) (A:=A) (outer:=outer) (s0:=s) (H0:=g.H) (E:=E) (P:=P) (w:=w) (base:=base) T hr
 obtain⟨t2,p2,k2⟩:=yrl (cdv:=cdv) (A:=A) (outer:=outer) (s0:=s) (H0:=g.H) (E:=E) T G_zn G_zS hr
 obtain⟨t3,p3,k3⟩:=yqX (cdv:=cdv) (A:=A) (outer:=outer) (s0:=s) (H0:=g.H) (E:=E) (P:=P) (w:=w) (base:=base) T hr
 refine⟨_,show PSs _ [yaV 52 0,yaV 52 1,yaV 52 2,yaV 52 3] _ from yah p0 (yah p1 (yah p2 (yaj p3))),?_⟩
 refine ybe (k0 _ g _ _ _ _ _ _ _ _ _ _ _ c λvl L H1 s1 nv ev lL nd vL hl=>ybe (k1 _ g _ _ _ _ _ _ _ _ _ _ _ H1 c s1 λtl H2 s2 ntl et=>ybe (k2 _ g vl tl L (λ_=>[]) _ _ _ _ _ _ _ _ H2 c ⟨s1.trans s2,s2 _ _ ev,?_,lL,nd,?_,vL,yad ev ntl,λb hb=>(hl b hb).1,s1.free ntl,nv,λk l e=>?_⟩ λxf o4 o5 o6 o7 o8 o9 o10 o11 H' h=>k3 _ g.H H' vl tl L _ _ xf _ _ _ _ _ _ _ _ _ _ h ?_ c.n2 λy H4 s4 iy=>q y H4 (h.sm.trans s4) iy)))
 ·rw[et]
  congr 2
  apply List.ext_getElem
  ·rw[List.length_replicate,List.length_map,List.length_range]
  ·intro i h1 h2
   rw[List.getElem_replicate,List.getElem_map,List.getElem_range,List.getD_eq_getElem?_getD,List.getElem?_replicate]
   split<;>rfl
 ·exact λz=>by rw[(hl tl z).2] at ntl;cases ntl
 ·have hm:=List.mem_of_getElem? e
  have e0:((List.replicate g.VB.length ms0).getD k ms0).sns=[]:=by
   rw[List.getD_eq_getElem?_getD,List.getElem?_replicate]
   split<;>rfl
  refine⟨s2 _ _ (hl l hm).2,?_⟩
  rw[e0]
  exact Al.nil
 ·have:=ycp (bars:=yaY g.keys g.VB) (n:=g.VB.length) (λb hb=>(c.bars b hb).1) (yaY g.keys g.VB).length (Nat.le_refl _)
  rw[List.take_length] at this
  exact this.1
def Ext (A:Addr→Prop)(c:Nat)(H H':Hp):Prop:=∀ b u,H b=some u→H' b=some u∨(A b∧∃ xs zs,u=.lst xs∧H' b=some (.lst (xs++zs))∧zs.length≤c∧∀ z∈zs,imV z=true)
theorem yc1 {A:Addr→Prop}{c:Nat}{H H':Hp}(s:Same H H'):Ext A c H H':=λb u e=>.inl (s b u e)
theorem Ext.trans {A:Addr→Prop}{c d:Nat}{H H' H'':Hp}(a:Ext A c H H')(b:Ext A d H' H''):Ext A (c+d) H H'':=λx u e=>by
 rcases a x u e with e1 | ⟨ha,xs,zs,rfl,e1,l1,i1⟩
 ·rcases b x u e1 with e2 | ⟨ha,xs,zs,rfl,e2,l2,i2⟩
  ·exact .inl e2
  ·exact .inr ⟨ha,xs,zs,rfl,e2,by omega,i2⟩
 ·rcases b x _ e1 with e2 | ⟨_,xs',zs',e',e2,l2,i2⟩
  ·exact .inr ⟨ha,xs,zs,rfl,e2,by omega,i1⟩
  ·cases e'
   refine .inr ⟨ha,xs,zs++zs',rfl,by rw[e2,List.append_assoc],by rw[List.length_append];omega,λz hz=>?_⟩
   exact(List.mem_append.mp hz).elim (i1 z) (i2 z)
theorem Ext.mono {A B:Addr→Prop}{c d:Nat}{H H':Hp}(a:Ext A c H H')(s:∀ b,A b→B b)(l:c≤d):Ext B d H H':=λx u e=>(a x u e).imp id λ⟨ha,xs,zs,e1,e2,l2,i⟩=>⟨s _ ha,xs,zs,e1,e2,by omega,i⟩
theorem Ext.tup {A:Addr→Prop}{c:Nat}{H H':Hp}(a:Ext A c H H'){b:Addr}{xs:List V}(e:H b=some (.tup xs)):H' b=some (.tup xs):=by
 rcases a b _ e with z | ⟨_,_,_,z,_⟩
 ·exact z
 ·cases z
theorem Ext.off {A:Addr→Prop}{c:Nat}{H H':Hp}(a:Ext A c H H'){b:Addr}{u:HO}(n:¬ A b)(e:H b=some u):H' b=some u:=(a b u e).elim id λz=>absurd z.1 n
theorem Pl.ext {A:Addr→Prop}{c:Nat}{H H':Hp}{z:V}(a:Ext A c H H')(h:Pl H z):Pl H' z:=h.same λ_ _ e=>a.tup e
def PlL (A:Addr→Prop)(m:Nat)(H:Hp)(y:V):Prop:=imV y=true∨∃ l zs,y=.ref l∧A l∧H l=some (.lst zs)∧zs.length≤m∧∀ z∈zs,Pl H z
theorem PlL.ext {A B:Addr→Prop}{m c:Nat}{H H':Hp}{y:V}(h:PlL A m H y)(a:Ext B c H H'):PlL A (m+c) H' y:=by
 rcases h with h | ⟨l,zs,e,al,el,ll,pl⟩
 ·exact .inl h
 ·rcases a l _ el with e2 | ⟨_,xs,ws,e1,e2,l2,i2⟩
  ·exact .inr ⟨l,zs,e,al,e2,by omega,λz hz=>(pl z hz).ext a⟩
  ·cases e1
   refine .inr ⟨l,_,e,al,e2,by rw[List.length_append];omega,λz hz=>?_⟩
   rcases List.mem_append.mp hz with hz | hz
   ·exact(pl z hz).ext a
   ·exact .inl (i2 z hz)
def SndX (A:Addr→Prop)(m:Nat)(H:Hp)(x:V):Prop:=imV x=true∨∃ a xs,x=.ref a∧H a=some (.tup xs)∧xs.length≤6∧∀ y∈xs,PlL A m H y
theorem SndX.ext {A B:Addr→Prop}{m c:Nat}{H H':Hp}{x:V}(h:SndX A m H x)(a:Ext B c H H'):SndX A (m+c) H' x:=h.imp id λ⟨p,xs,e,ep,l,k⟩=>⟨p,xs,e,a.tup ep,l,λy hy=>(k y hy).ext a⟩
def but (A:Addr→Prop)(l:Addr):Addr→Prop:=λb=>A b∧b≠l
def VcX (A:Addr→Prop)(n m:Nat)(H:Hp)(x:V):Prop:=∃ l xs,x=.ref l∧A l∧H l=some (.lst xs)∧xs.length≤n∧∀ y∈xs,SndX (but A l) m H y
theorem VcX.ext {A B:Addr→Prop}{n m c:Nat}{H H':Hp}{x:V}(h:VcX A n m H x)(a:Ext B c H H'):VcX A (n+c) (m+c) H' x:=by
 obtain⟨l,xs,e,al,el,ll,k⟩:=h
 rcases a l _ el with e2 | ⟨_,xs',ws,e1,e2,l2,i2⟩
 ·exact⟨l,xs,e,al,e2,by omega,λy hy=>(k y hy).ext a⟩
 ·cases e1
  refine⟨l,_,e,al,e2,by rw[List.length_append];omega,λy hy=>?_⟩
  rcases List.mem_append.mp hy with hy | hy
  ·exact(k y hy).ext a
  ·exact .inl (i2 y hy)
theorem SndX.le {A:Addr→Prop}{m m':Nat}{H:Hp}{x:V}(h:SndX A m H x)(l:m≤m'):SndX A m' H x:=h.imp id λ⟨p,xs,e,ep,l',k⟩=>⟨p,xs,e,ep,l',λy hy=>(k y hy).imp id λ⟨q,zs,e,aq,eq,lq,z⟩=>⟨q,zs,e,aq,eq,by omega,z⟩⟩
def yrb (A:Addr→Prop):Sp:=λvs H Q _=>∃ y,vs=[y]∧PlL A 90000 H y∧∀ H',Ext A 1 H H'→Q .non H'
theorem ylb (A:Addr→Prop)(T:Txt K mg t):FnOk P w K mg base CX0 3 t.f_zt t.d_zt ["_law_told"] (yrb A):=by
 refine(ykY ((yeX T).mono (by decide)) (yjE T)).imp λvs H Q E h=>?_
 obtain⟨y,rfl,h,q⟩:=h
 rcases h with h | ⟨l,zs,rfl,al,el,ll,pl⟩
 ·exact .inl ⟨y,rfl,h,λH' s=>q H' (yc1 s)⟩
 ·refine .inr ⟨l,zs,rfl,el,ll,pl,λH' s e=>q H' λb u eb=>?_⟩
  by_cases z:b=l
  ·subst z
   rw[el] at eb
   cases eb
   exact .inr ⟨al,zs,_,rfl,e,Nat.le_refl _,λz hz=>by rw[List.mem_singleton.mp hz];rfl⟩
  ·exact .inl (s b u z eb)
def yrs (A:Addr→Prop):Sp:=λvs H Q _=>∃ x,vs=[x]∧SndX A 80000 H x∧∀ H',Ext A 6 H H'→Q .non H'
theorem ykZ (A:Addr→Prop)(T:Txt K mg t):FnOk P w K mg base CX0 4 t.f_zt t.d_zt ["_law_told"] (yrs A):=by
 refine(ykY ((yeX T).mono (by decide)) (yhx T (ylb A T))).imp λvs H Q E h=>?_
 obtain⟨x,rfl,h,q⟩:=h
 rcases h with h | ⟨a,xs,rfl,ea,l6,k⟩
 ·exact .inl ⟨x,rfl,h,λH' s=>q H' (yc1 s)⟩
 ·refine .inr ⟨a,xs,λi H'=>i≤xs.length∧Ext A i H H',rfl,ea,λH' s=>⟨Nat.zero_le _,yc1 s⟩,λi H' j=>j.2.tup ea,λi x H' Q' hx j q'=>?_,λH' j=>q H' (j.2.mono (λ_ z=>z) l6)⟩
  have hi:=(List.getElem?_eq_some_iff.mp hx).1
  refine⟨x,rfl,?_,λH'' e=>q' _ _ ⟨by omega,j.2.trans e⟩⟩
  have:=(k x (List.mem_of_getElem? hx)).ext j.2
  exact this.imp id λ⟨q,zs,e,aq,eq,lq,z⟩=>⟨q,zs,e,aq,eq,by omega,z⟩
def yrf (A:Addr→Prop)(n:Nat):Sp:=λvs H Q _=>∃ x,vs=[x]∧VcX A n 10000 H x∧∀ H',Ext A (6*n+1) H H'→Q .non H'
theorem yjX {A:Addr→Prop}{H:Hp}{l:Addr}{xs:List V}(al:A l)(el:H l=some (.lst xs)):Ext A 1 H (upd H l (.lst (xs++[.str "more"]))):=λb u eb=>by
 by_cases z:b=l
 ·subst z
  rw[el] at eb
  cases eb
  exact .inr ⟨al,xs,_,rfl,yab,Nat.le_refl _,λz hz=>by rw[List.mem_singleton.mp hz];rfl⟩
 ·exact .inl (by rw[yai z];exact eb)
theorem ymv {ι:Type}{j:Nat}{f:Addr}{fd:FuncData}{qs:List Str}{sp:ι→Sp}(a:∀ i,FnOk P w K mg base CX0 j f fd qs (sp i)):FnOk P w K mg base CX0 j f fd qs (λvs H Q E=>∃ i,sp i vs H Q E) :=
 ⟨λvs H Q E h=>h.elim λi h=>(a i).len vs H Q E h,λA outer s H args us vs Q E hr he hb hv h=>h.elim λi h=>(a i).run A outer s H args us vs Q E hr he hb hv h⟩
theorem yhb (A:Addr→Prop)(n:Nat)(hn:n≤5000)(T:Txt K mg t):FnOk P w K mg base CX0 5 t.f_zt t.d_zt ["_law_told"] (yrf A n):=by
 refine(ymv λl=>ye9 T (ykZ (but A l) T)).imp λvs H Q E h=>?_
 obtain⟨x,rfl,⟨l,xs,rfl,al,el,ll,k⟩,q⟩:=h
 refine⟨l,l,xs,λi H'=>i≤xs.length∧Ext (but A l) (6*i) H H',rfl,el,λH' s=>⟨Nat.zero_le _,yc1 s⟩,λi H' j=>j.2.off (λz=>z.2 rfl) el,λi x H' Q' hx j q'=>?_,by omega,λH' j=>q _ ?_⟩
 ·have hi:=(List.getElem?_eq_some_iff.mp hx).1
  refine⟨x,rfl,((k x (List.mem_of_getElem? hx)).ext j.2).le (by omega),λH'' e=>q' _ _ ⟨by omega,?_⟩⟩
  rw[show 6*(i+1)=6*i+6 by omega]
  exact j.2.trans e
 ·have e1:=j.2.off (λz=>z.2 rfl) el
  exact((j.2.mono (λ_ z=>z.1) (by omega:6*xs.length≤6*n)).trans (yjX al e1))
def yqA (A:Addr→Prop):Sp:=λvs H Q _=>∃ D ys,vs=[.ref D]∧A D∧H D=some (.lst ys)∧ys.length≤2∧(∀ y∈ys,VcX (but A D) 60 100 H y)∧∀ H',Ext A 4000 H H'→Q .non H'
theorem ykW (A:Addr→Prop)(T:Txt K mg t):FnOk P w K mg base CX0 6 t.f_zt t.d_zt ["_law_told"] (yqA A):=by
 refine(ymv λD=>ye9 T (ykY (yhb (but A D) 60 (by decide) T) (yhb (but A D) 421 (by decide) T))).imp λvs H Q E h=>?_
 obtain⟨D,ys,rfl,aD,eD,l2,k,q⟩:=h
 refine⟨D,D,ys,λi H'=>i≤ys.length∧Ext (but A D) (if i=0 then 0 else if i=1 then 361 else 2888) H H',rfl,eD,λH' s=>⟨Nat.zero_le _,yc1 s⟩,λi H' j=>j.2.off (λz=>z.2 rfl) eD,λi x H' Q' hx j q'=>?_,by omega,λH' j=>q _ ?_⟩
 ·have hi:=(List.getElem?_eq_some_iff.mp hx).1
  have hv:=k x (List.mem_of_getElem? hx)
  have je:=j.2
  by_cases z:i=0
  ·subst z
   rw[if_pos rfl] at je
   have hv':=hv.ext je
   refine .inl ⟨x,rfl,?_,λH'' e=>q' _ _ ⟨by omega,?_⟩⟩
   ·obtain⟨l,xs,e,al,el,ll,kk⟩:=hv'
    exact⟨l,xs,e,al,el,ll,λy hy=>(kk y hy).le (by omega)⟩
   ·have:=je.trans e
    rw[if_neg (by omega),if_pos rfl]
    exact this.mono (λ_ z=>z) (by omega)
  ·have z1:i=1:=by omega
   subst z1
   rw[if_neg (by omega),if_pos rfl] at je
   have hv':=hv.ext je
   refine .inr ⟨x,rfl,?_,λH'' e=>q' _ _ ⟨by omega,?_⟩⟩
   ·obtain⟨l,xs,e,al,el,ll,kk⟩:=hv'
    exact⟨l,xs,e,al,el,by omega,λy hy=>(kk y hy).le (by omega)⟩
   ·have:=je.trans e
    rw[if_neg (by omega),if_neg (by omega)]
    exact this.mono (λ_ z=>z) (by omega)
 ·have e1:=j.2.off (λz=>z.2 rfl) eD
  have hm:=j.2.mono (B:=A) (d:=2888) (λ_ z=>z.1) (by split<;>(try split)<;>omega)
  exact(hm.trans (yjX aD e1)).mono (λ_ z=>z) (by omega)
theorem yk0 {A:Addr→Prop}{H0 H Hx:Hp}{D:Addr}{y:V}{sns:List Sn}(hA:∀ b,H0 b=none→A b)(h:ToldIs (nt H0 (rm H D)) y sns)(ln:sns.length≤60)(lp:∀ ps n wd op cl,Sn.tones ps n wd op cl∈sns→ps.length≤100):VcX (but A D) 60 100 H y:=by
 obtain⟨l,ys,rfl,el,is⟩:=h
 obtain⟨el1,el2⟩:=ycU el
 obtain⟨nD,el1⟩:=yao el1
 have hl:H0 l=none:=el2.resolve_right (λ⟨_,z⟩=>by cases z)
 refine⟨l,ys,rfl,⟨hA _ hl,nD⟩,el1,by rw[is.len,List.length_map];exact ln,λy hy=>?_⟩
 obtain⟨i,hi,e⟩:=List.getElem_of_mem hy
 have hi':i < sns.length:=by have:=is.len;rw[List.length_map] at this;omega
 obtain⟨y',ey,iy⟩:=is.at' i (by rw[List.length_map];exact hi')
 rw[List.getElem?_eq_getElem hi,e] at ey
 cases ey
 rw[List.getElem_map] at iy
 have hm:=List.getElem_mem hi'
 generalize sns[i]=sn at iy hm
 cases sn with
 | rest n =>
  obtain⟨a,rfl,ea⟩:=iy.rest
  refine .inr ⟨a,_,rfl,(yao (ycU (yao ea).2).1).2,by show 2≤6;decide,λz hz=>.inl ?_⟩
  simp only[List.mem_cons,List.not_mem_nil,or_false] at hz
  rcases hz with rfl | rfl<;>rfl
 | tones ps n wd op cl =>
  obtain⟨a,v,rfl,ea,iv⟩:=iy.tones
  refine .inr ⟨a,_,rfl,(yao (ycU (yao ea).2).1).2,by show 6≤6;decide,λz hz=>?_⟩
  simp only[List.mem_cons,List.not_mem_nil,or_false] at hz
  rcases hz with rfl | rfl | rfl | rfl | rfl | rfl
  ·exact .inl rfl
  ·obtain⟨pl,zs,rfl,ep,ip⟩:∃ pl zs,z=.ref pl∧rm (nt H0 (rm H D)) l pl=some (.lst zs)∧Iss (rm (nt H0 (rm H D)) l) zs (ps.map pT):=by rw[lT,Is] at iv;exact iv
   obtain⟨n1,ep⟩:=yao ep
   obtain⟨ep,ep2⟩:=ycU ep
   obtain⟨n2,ep⟩:=yao ep
   have hp:H0 pl=none:=ep2.resolve_right (λ⟨_,z⟩=>by cases z)
   refine .inr ⟨pl,zs,rfl,⟨⟨hA _ hp,n2⟩,n1⟩,ep,by rw[ip.len,List.length_map];exact lp _ _ _ _ _ hm,λz hz=>?_⟩
   obtain⟨i2,hi2,e2⟩:=List.getElem_of_mem hz
   have hi3:i2 < ps.length:=by have:=ip.len;rw[List.length_map] at this;omega
   obtain⟨z',ez,iz⟩:=ip.at' i2 (by rw[List.length_map];exact hi3)
   rw[List.getElem?_eq_getElem hi2,e2] at ez
   cases ez
   rw[List.getElem_map] at iz
   obtain⟨pa,rfl,epa⟩:=iz.pit
   refine .inr ⟨pa,_,rfl,(yao (ycU (yao epa).2).1).2,λw hw=>?_⟩
   simp only[List.mem_cons,List.not_mem_nil,or_false] at hw
   rcases hw with rfl | rfl | rfl<;>rfl
  ·exact .inl rfl
  ·exact .inl rfl
  ·exact .inl rfl
  ·exact .inl rfl
def yh9 (N:Nat)(bs:List (List Tl)):Prop:=bs.length=N∧ycZ bs∧nts bs.flatten≤23
def ygi (N:Nat)(VB:List (List (List Tl))):Prop:=1≤VB.length∧VB.length≤2∧∀ bs∈VB,yh9 N bs
def VIs (H:Hp)(V0:Addr)(VB:List (List (List Tl))):Prop:=∃ xs,H V0=some (.lst xs)∧Iss (rm H V0) xs (VB.map bsT)
theorem VIs.same {H H':Hp}{V0:Addr}{VB:List (List (List Tl))}(s:Same H H')(h:VIs H V0 VB):VIs H' V0 VB:=by
 obtain⟨xs,e,is⟩:=h
 exact⟨xs,s _ _ e,is.same (ya8 λb u _ e=>s _ _ e)⟩
theorem VIs.is {H:Hp}{V0:Addr}{VB:List (List (List Tl))}(h:VIs H V0 VB):Is H (.ref V0) (vbT VB):=by
 obtain⟨xs,e,is⟩:=h
 exact ybB e (is.same (yaK _ _))
theorem yjN (xs:List V)(k:Nat):yif xs none (some (k:Int))=xs.take k:=by
 unfold yif
 rw[HT.sIx_none,HT.sIx_nat,List.drop_zero,Nat.sub_zero]
 rcases Nat.le_total k xs.length with h | h
 ·rw[Nat.min_eq_left h]
 ·rw[Nat.min_eq_right h,List.take_length,List.take_of_length_le h]
theorem yqO {cdv:Value}{A:Around}{outer:List Env}{s0:Shared}{H0:Hp}{E:XK}(T:Txt K mg t)(hr:Room 9 (A.deeper (PyProof.Rows.envOfC "law" (yac (top 53)) s0.heap.objs.size t.f_zY cdv))) :
  ∃ te,PS (ybz CX0 P w K mg base ["_law_script","_law_cells","_law_number","_law_size","_law_voices","_law_other","_law_least","_law_keys","_law_bars","_law_k","_law_key","_law_signs","_law_due","_law_turn","_law_handed","_law_found"] "law" (yac (top 53)) t.f_zY cdv A outer s0 H0 E).nox (yaV 53 0) te∧∀ D (a:Addr) (ns:List Int) (H:Hp) o1 o2 o3 o4 o5 o6 o7 o8 o9 o10 o11 o12 o13 o14 o15,SqL K H a (ns.map V.int)→(∀ (c:Addr) (H':Hp) (ms:List Int),Same H H'→H' c=some (.lst (ms.map V.int))→ms.length≤23→D.nx [some (.ref a),some (.ref c),o2,o3,o4,o5,o6,o7,o8,o9,o10,o11,o12,o13,o14,o15] H')→te D [some (.ref a),o1,o2,o3,o4,o5,o6,o7,o8,o9,o10,o11,o12,o13,o14,o15] H:=by
 have hu:=ya2 hr
 refine⟨_,(yas (i:=1) sc_zY.nd rfl (Or.inl rfl) (ybu ybq rfl T.Jf yaR (yaa (ybJ ygU (pv 0) yb2 (yb4 yag)) yaf))),λD a ns H o1 o2 o3 o4 o5 o6 o7 o8 o9 o10 o11 o12 o13 o14 o15 es q=>?_⟩
 walk_at "st"
 refine⟨23,rfl,a,_,rfl,es,λp1 h1=>?_⟩
 have s1:=yae h1 (.lst (yif (ns.map V.int) none (some 23)))
 have ec:yif (ns.map V.int) none (some 23)=(ns.take 23).map V.int:=by
  have:=yjN (ns.map V.int) 23
  rw[List.map_take]
  exact this
 rw[ec] at s1 ⊢
 walk_at "st"
 refine⟨p1,_,rfl,.inl (SqL.of yab),λp2 h2=>?_⟩
 refine q p2 _ (ns.take 23) (s1.trans (yae h2 _)) yab ?_
 rw[List.length_take]
 omega
theorem yqT {cdv:Value}{A:Around}{outer:List Env}{s0:Shared}{H0:Hp}{E:XK}(T:Txt K mg t)(G_zH:FnOk P w K mg base CX0 1 t.f_zH t.d_zH ["_law_cell","_law_k"] ycW)(hr:Room 9 (A.deeper (PyProof.Rows.envOfC "law" (yac (top 53)) s0.heap.objs.size t.f_zY cdv))) :
  ∃ te,PS (ybz CX0 P w K mg base ["_law_script","_law_cells","_law_number","_law_size","_law_voices","_law_other","_law_least","_law_keys","_law_bars","_law_k","_law_key","_law_signs","_law_due","_law_turn","_law_handed","_law_found"] "law" (yac (top 53)) t.f_zY cdv A outer s0 H0 E).nox (yaV 53 1) te∧∀ D (c:Addr) (ms:List Int) o0 o2 o3 o4 o5 o6 o7 o8 o9 o10 o11 o12 o13 o14 o15 (H1:Hp),H1 c=some (.lst (ms.map V.int))→ms.length≤23→(∀ (n:Int) (H':Hp),Same H1 H'→0≤n→n≤100000000→D.nx [o0,some (.ref c),some (.int n),o3,o4,o5,o6,o7,o8,o9,o10,o11,o12,o13,o14,o15] H')→te D [o0,some (.ref c),o2,o3,o4,o5,o6,o7,o8,o9,o10,o11,o12,o13,o14,o15] H1:=by
 have hu:=ya2 hr
 refine⟨_,(yas (i:=2) sc_zY.nd rfl (Or.inr rfl) (yaq G_zH (hr.mono (by first | decide | omega)) rfl T.zH.M T.zH.F.kp T.zH.B .nil yaD (yaa (yav yaz (yau yht (pv 1) (yaZ (yaa yag yaf))) yag (λ_ _=>rfl)) (yaa yag yaf)))),λD c ms o0 o2 o3 o4 o5 o6 o7 o8 o9 o10 o11 o12 o13 o14 o15 H1 ec lm q=>?_⟩
 walk_at "st"
 refine⟨by show 1≤sizeLine;decide,λp1 h1=>?_⟩
 have s1:=yae h1 (.lst [V.int 5])
 refine⟨c,p1,_,_,rfl,rfl,s1 _ _ ec,yab,Nat.le_of_lt (yam (by rw[List.length_map];show _+1≤1000;omega)),λp2 h2=>?_⟩
 have s2:=yae h2 (.lst (ms.map V.int++[V.int 5]))
 have ev:∃ v:Int,(ms.map V.int++[V.int 5])[0]?=some (.int v):=by cases ms with
  | nil=>exact⟨5,rfl⟩
  | cons m ms=>exact⟨m,rfl⟩
 obtain⟨v,ev⟩:=ev
 walk_at "st"
 refine ybc (SqL.of yab) (yak (j:=0) ev) ?_
 walk_at "st"
 exact⟨v,1,rfl,⟨by omega,by omega⟩,λn n0 n1=>q n _ (s1.trans s2) n0 n1⟩
theorem sz3 {i:Int}(h0:0≤i)(h3:i < 3):∃ m:Int,atI [V.int 48,V.int 72,V.int 96] i=some (.int m)∧3≤m∧m≤96∧m%3=0:=by
 have:i=0∨i=1∨i=2:=by omega
 rcases this with rfl | rfl | rfl
 ·exact⟨48,rfl,by decide⟩
 ·exact⟨72,rfl,by decide⟩
 ·exact⟨96,rfl,by decide⟩
theorem yq4 {cdv:Value}{A:Around}{outer:List Env}{s0:Shared}{H0:Hp}{E:XK}(T:Txt K mg t)(hr:Room 9 (A.deeper (PyProof.Rows.envOfC "law" (yac (top 53)) s0.heap.objs.size t.f_zY cdv))) :
  ∃ te,PS (ybz CX0 P w K mg base ["_law_script","_law_cells","_law_number","_law_size","_law_voices","_law_other","_law_least","_law_keys","_law_bars","_law_k","_law_key","_law_signs","_law_due","_law_turn","_law_handed","_law_found"] "law" (yac (top 53)) t.f_zY cdv A outer s0 H0 E).nox (yaV 53 2) te∧∀ D (n:Int) o0 o1 o3 o4 o5 o6 o7 o8 o9 o10 o11 o12 o13 o14 o15 (H1:Hp),0≤n→(∀ (z:Int) (H':Hp),Same H1 H'→3≤z∧z≤96∧z%3=0→D.nx [o0,o1,some (.int n),some (.int z),o4,o5,o6,o7,o8,o9,o10,o11,o12,o13,o14,o15] H')→te D [o0,o1,some (.int n),o3,o4,o5,o6,o7,o8,o9,o10,o11,o12,o13,o14,o15] H1:=by
 have hu:=ya2 hr
 refine⟨_,(yas (i:=3) sc_zY.nd rfl (Or.inr rfl) (yav yaz (yaZ (yaa yag (yaa yag (yaa yag yaf)))) (yau ybw (pv 2) yag) (λ_ _=>rfl))),λD n o0 o1 o3 o4 o5 o6 o7 o8 o9 o10 o11 o12 o13 o14 o15 H1 n0 q=>?_⟩
 walk_at "st"
 refine⟨by show 3≤sizeLine;decide,λp1 h1=>?_⟩
 have s1:=yae h1 (.lst [V.int 48,V.int 72,V.int 96])
 walk_at "st"
 obtain⟨m,em,hm⟩:=sz3 (i:=n%3) (by omega) (by omega)
 exact ybc (SqL.of yab) em (q m _ s1 hm)
theorem yrD {cdv:Value}{A:Around}{outer:List Env}{s0:Shared}{H0:Hp}{E:XK}(T:Txt K mg t)(G_zB:FnOk P w K mg base CX0 5 t.f_zB t.d_zB ["_law_cells","_law_size","_law_shift"] yfj)(hr:Room 9 (A.deeper (PyProof.Rows.envOfC "law" (yac (top 53)) s0.heap.objs.size t.f_zY cdv))) :
  ∃ te,PS (ybz CX0 P w K mg base ["_law_script","_law_cells","_law_number","_law_size","_law_voices","_law_other","_law_least","_law_keys","_law_bars","_law_k","_law_key","_law_signs","_law_due","_law_turn","_law_handed","_law_found"] "law" (yac (top 53)) t.f_zY cdv A outer s0 H0 E).nox (yaV 53 3) te∧∀ D (c:Addr) (ms:List Int) (z:Int) o0 o2 o4 o5 o6 o7 o8 o9 o10 o11 o12 o13 o14 o15 (H1:Hp),H1 c=some (.lst (ms.map V.int))→ms.length≤23→3≤z∧z≤96∧z%3=0→(∀ (V0:Addr) (bs:List (List Tl)) (H':Hp),Same H1 H'→VIs H' V0 [bs]→yh9 bs.length bs→1≤bs.length∧bs.length≤24→D.nx [o0,some (.ref c),o2,some (.int z),some (.ref V0),o5,o6,o7,o8,o9,o10,o11,o12,o13,o14,o15] H')→te D [o0,some (.ref c),o2,some (.int z),o4,o5,o6,o7,o8,o9,o10,o11,o12,o13,o14,o15] H1:=by
 have hu:=ya2 hr
 refine⟨_,(yas (i:=4) sc_zY.nd rfl (Or.inl rfl) (yaZ (yaa (yaq G_zB (hr.mono (by first | decide | omega)) rfl T.zB.M T.zB.F.kp T.zB.B .nil yaD (yaa (pv 1) (yaa (pv 3) (yaa yag yaf)))) yaf))),λD c ms z o0 o2 o4 o5 o6 o7 o8 o9 o10 o11 o12 o13 o14 o15 H1 ec lm hz q=>?_⟩
 walk_at "st"
 refine⟨c,ms,z,0,rfl,ec,lm,hz.1,hz.2.1,hz.2.2,by omega,by omega,λx H2 bs s2 gb ne l24 nn ix=>?_⟩
 walk_at "st"
 refine⟨by show 1≤sizeLine;decide,λV0 hV=>?_⟩
 have s3:=yae hV (.lst [x])
 refine q V0 bs _ (s2.trans s3) ⟨[x],yab,yal ((ix.same (ydT _ _)).same λb u e=>?_) (yay _)⟩ ⟨rfl,gb,nn⟩ ⟨List.length_pos_iff.mpr ne,l24⟩
 rw[yaB (yad e hV)]
 exact s3 _ _ e
theorem yrH {cdv:Value}{A:Around}{outer:List Env}{s0:Shared}{H0:Hp}{E:XK}(T:Txt K mg t)(G_zH:FnOk P w K mg base CX0 1 t.f_zH t.d_zH ["_law_cell","_law_k"] ycW)(hr:Room 9 (A.deeper (PyProof.Rows.envOfC "law" (yac (top 53)) s0.heap.objs.size t.f_zY cdv))) :
  ∃ te,PS (ybz CX0 P w K mg base ["_law_script","_law_cells","_law_number","_law_size","_law_voices","_law_other","_law_least","_law_keys","_law_bars","_law_k","_law_key","_law_signs","_law_due","_law_turn","_law_handed","_law_found"] "law" (yac (top 53)) t.f_zY cdv A outer s0 H0 E).nox (yaV 53 6) te∧∀ D (n:Int) (V0:Addr) (VB:List (List (List Tl))) (N:Nat) o0 o1 o3 o5 o6 o7 o8 o9 o10 o11 o12 o13 o14 o15 (H1:Hp),VIs H1 V0 VB→ygi N VB→N≤24→(∀ (kl:Addr) (keys:List Int) (H':Hp),Same H1 H'→H' kl=some (.lst (keys.map V.int))→H1 kl=none→keys.length=N→(∀ key∈keys,-7≤key∧key≤7)→D.nx [o0,o1,some (.int n),o3,some (.ref V0),o5,o6,some (.ref kl),o8,o9,o10,o11,o12,o13,o14,o15] H')→te D [o0,o1,some (.int n),o3,some (.ref V0),o5,o6,o7,o8,o9,o10,o11,o12,o13,o14,o15] H1:=by
 have hu:=ya2 hr
 refine⟨_,(yba (i:=7) sc_zY.nd rfl (Or.inl rfl) (yaQ (NB:=["_law_k","_law_number"]) (cap:=[none,some 2]) rfl) rfl (ybX rfl T.Jj (yaa (yax yaU rfl T.Jr PySem.boot_len (yaa (yav yaz (pv 4) yag (λ_ _=>rfl)) yaf)) yaf)) (λ_ _ _ _=>(yan (i:=0) (show List.Nodup (["_law_k","_law_number"]:List Str) by decide) rfl (Or.inl rfl))) (λ_ _ _ _=>yaT) (λ_ _ _ _=>(yau ycR (yau ybw (yaq G_zH (hr.mono (by first | decide | omega)) rfl T.zH.M T.zH.F.kp T.zH.B .nil yaD (yaa (pv 1) (yaa (pv 0) yaf))) yag) yag))),λD n V0 VB N o0 o1 o3 o5 o6 o7 o8 o9 o10 o11 o12 o13 o14 o15 H1 vi gv l24 q=>?_⟩
 obtain⟨xs,eV,is⟩:=vi
 have h0:0 < VB.length:=gv.1
 obtain⟨x,ex,ix⟩:=is.at' 0 (by rw[List.length_map];exact h0)
 rw[List.getElem_map] at ix
 have gb:=gv.2.2 _ (List.getElem_mem h0)
 generalize VB[0]=bs at ix gb
 obtain⟨l,ys,rfl,el,iy⟩:∃ l ys,x=.ref l∧rm H1 V0 l=some (.lst ys)∧Iss (rm H1 V0) ys (bs.map tls):=by rw[bsT,Is] at ix;exact ix
 have ly:ys.length=N:=by rw[iy.len,List.length_map,gb.1]
 walk_at "st"
 refine ybc (SqL.of eV) (yak (j:=0) ex) ?_
 refine⟨l,ys,rfl,.inl (SqL.of (yao el).2),?_⟩
 dsimp only
 walk_at "st"
 refine⟨_,rfl,by omega,by omega,λD0 hD=>ydj (lo:=0) (n:=Int.toNat (ys.length:Int)) (λi σ' H'=>(∃ o,σ'=[o,some (.int n)])∧Same H1 H'∧∃ ks:List Int,ks.length=i∧H' D0=some (.lst (ks.map V.int))∧∀ k∈ks,-7≤k∧k≤7) ⟨⟨_,rfl⟩,yae hD _,[],rfl,yab,λk hk=>by cases hk⟩ ?_ ?_⟩
 ·rintro i σ' H' hi ⟨⟨o,rfl⟩,sm,ks,lk,hd,kb⟩
  rw[Int.zero_add]
  have hi':i < N:=by rw[Int.toNat_natCast] at hi;omega
  walk_at "st"
  refine⟨n,(i:Nat),rfl,⟨by omega,by omega⟩,λm m0 m1=>?_⟩
  walk_at "st"
  refine⟨_,hd,yam (by rw[List.length_map];omega),⟨_,rfl⟩,yaJ hD sm,ks++[m%15 - 7],by rw[List.length_append,lk];rfl,by rw[yab,List.map_append];rfl,λk hk=>?_⟩
  rcases List.mem_append.mp hk with hk | hk
  ·exact kb k hk
  ·rw[List.mem_singleton.mp hk];omega
 ·rintro σ' H' ⟨_,sm,ks,lk,hd,kb⟩
  exact q D0 ks H' sm hd hD (by rw[lk,Int.toNat_natCast,ly]) kb
theorem yq6 {cdv:Value}{A:Around}{outer:List Env}{s0:Shared}{H0:Hp}{E:XK}(T:Txt K mg t)(G_zq:FnOk P w K mg base CX0 4 t.f_zq t.d_zq ["_law_size","_law_count","_law_number"] ydh)(hr:Room 9 (A.deeper (PyProof.Rows.envOfC "law" (yac (top 53)) s0.heap.objs.size t.f_zY cdv))) :
  ∃ te,PS (ybz CX0 P w K mg base ["_law_script","_law_cells","_law_number","_law_size","_law_voices","_law_other","_law_least","_law_keys","_law_bars","_law_k","_law_key","_law_signs","_law_due","_law_turn","_law_handed","_law_found"] "law" (yac (top 53)) t.f_zY cdv A outer s0 H0 E).nox (yaV 53 5) te∧∀ D (n z:Int) (V0:Addr) (VB:List (List (List Tl))) (N:Nat) o0 o1 o5 o6 o7 o8 o9 o10 o11 o12 o13 o14 o15 (H1:Hp),0≤n→3≤z∧z≤96∧z%3=0→VIs H1 V0 VB→ygi N VB→N≤24→(∀ (VB':List (List (List Tl))) (H':Hp),SameT V0 H1 H'→VIs H' V0 VB'→ygi N VB'→D.nx [o0,o1,some (.int n),some (.int z),some (.ref V0),o5,o6,o7,o8,o9,o10,o11,o12,o13,o14,o15] H')→te D [o0,o1,some (.int n),some (.int z),some (.ref V0),o5,o6,o7,o8,o9,o10,o11,o12,o13,o14,o15] H1:=by
 have hu:=ya2 hr
 refine⟨_,(ybM (yaL yfe (yau ybw (yau yaP (pv 2) yag) yag) yag (yaH _)) (yaj (ygd (yaq G_zq (hr.mono (by first | decide | omega)) rfl T.zq.M T.zq.F.kp T.zq.B .nil yaD (yaa (pv 3) (yaa (yax yaU rfl T.Jr PySem.boot_len (yaa (yav yaz (pv 4) yag (λ_ _=>rfl)) yaf)) (yaa (yau yaP (pv 2) yag) yaf)))) (yfW (pv 4) yag yc5))) ya4),λD n z V0 VB N o0 o1 o5 o6 o7 o8 o9 o10 o11 o12 o13 o14 o15 H1 n0 hz vi gv l24 q=>?_⟩
 obtain⟨xs,eV,is⟩:=id vi
 have h0:0 < VB.length:=gv.1
 obtain⟨x,ex,ix⟩:=is.at' 0 (by rw[List.length_map];exact h0)
 rw[List.getElem_map] at ix
 have gb:=gv.2.2 _ (List.getElem_mem h0)
 obtain⟨l,ys,rfl,el,iy⟩:∃ l ys,x=.ref l∧rm H1 V0 l=some (.lst ys)∧Iss (rm H1 V0) ys (VB[0].map tls):=by rw[bsT,Is] at ix;exact ix
 have ly:ys.length=N:=by rw[iy.len,List.length_map,gb.1]
 walk_at "st"
 refine i_d (λzz=>?_) λzz=>?_
 ·walk_at "st"
  refine ybc (SqL.of eV) (yak (j:=0) ex) ?_
  walk_at "st"
  refine⟨l,ys,rfl,.inl (SqL.of (yao el).2),?_⟩
  dsimp only
  walk_at "st"
  rw[ly]
  refine⟨z,n / 60,N,rfl,hz.1,hz.2.1,hz.2.2,by omega,by omega,λx2 H2 bs2 s2 gb2 nn2 lb2 ix2=>?_⟩
  walk_at "st"
  refine⟨V0,xs,0,0,rfl,rfl,s2 _ _ eV,yj2 (j:=0) (by rw[is.len,List.length_map];exact h0),?_⟩
  cases VB with
  | nil=>cases h0
  | cons b0 VB =>
   rw[List.map_cons,Iss] at is
   obtain⟨x0,r,rfl,i0,ir⟩:=is
   have sV:SameT V0 H1 (upd H2 V0 (.lst (([x0]++r).set 0 x2))):=λb u n e=>by rw[yai n];exact s2 _ _ e
   refine q (bs2 :: VB) _ sV ⟨_,yab,?_⟩ ⟨by show 1≤VB.length+1;omega,gv.2.1,λbs hm=>?_⟩
   ·show Iss _ (x2 :: r) (bsT bs2 :: VB.map bsT)
    refine yal ((ix2.same (ynn eV)).same ycF) ((ir.same (ya8 λb u _ e=>s2 _ _ e)).same ycF)
   ·rcases List.mem_cons.mp hm with rfl | hm
    ·exact⟨lb2,gb2,by rw[nn2.nts];omega⟩
    ·exact gv.2.2 bs (List.mem_cons_of_mem _ hm)
 ·walk_at "st"
  exact q VB H1 (λb u _ e=>e) vi gv
theorem yq3 {te:TS}{D:ydn}{σ:St}{H:Hp}(P:St→Hp→Prop)(h1:∀ D':ydn,(∀ σ H,P σ H→D'.nx σ H)→te D' σ H)(h2:∀ σ H,P σ H→D.nx σ H):te D σ H:=h1 D h2
theorem yp8 {σ:St}{H:Hp}{Q:VK}{te ts:TE}(q:te σ H λx H1=>ts σ H1 λz H2=>z=.int (-1)∧∃ a xs,x=.ref a∧SqL K H2 a xs∧∀ p,H2 p=none→Q (.ref p) (upd H2 p (.lst xs.reverse))):yoE K te ts σ H Q:=q
theorem yry {cdv:Value}{A:Around}{outer:List Env}{s0:Shared}{H0:Hp}{E:XK}(T:Txt K mg t)(G_zB:FnOk P w K mg base CX0 5 t.f_zB t.d_zB ["_law_cells","_law_size","_law_shift"] yfj)(G_zq:FnOk P w K mg base CX0 4 t.f_zq t.d_zq ["_law_size","_law_count","_law_number"] ydh)(hr:Room 9 (A.deeper (PyProof.Rows.envOfC "law" (yac (top 53)) s0.heap.objs.size t.f_zY cdv))) :
  ∃ te,PS (ybz CX0 P w K mg base ["_law_script","_law_cells","_law_number","_law_size","_law_voices","_law_other","_law_least","_law_keys","_law_bars","_law_k","_law_key","_law_signs","_law_due","_law_turn","_law_handed","_law_found"] "law" (yac (top 53)) t.f_zY cdv A outer s0 H0 E).nox (yaV 53 4) te∧∀ D (c V0:Addr) (ms:List Int) (n z:Int) (bs:List (List Tl)) o0 o5 o6 o7 o8 o9 o10 o11 o12 o13 o14 o15 (H1:Hp),0≤n→H1 c=some (.lst (ms.map V.int))→ms.length≤23→3≤z∧z≤96∧z%3=0→VIs H1 V0 [bs]→yh9 bs.length bs→1≤bs.length∧bs.length≤24→(∀ (V1:Addr) (VB:List (List (List Tl))) (N:Nat) o0 o5 o6 o7 o8 o9 o10 o11 o12 o13 o14 o15 (H':Hp),Same H1 H'→VIs H' V1 VB→ygi N VB→1≤N→N≤24→D.nx [o0,some (.ref c),some (.int n),some (.int z),some (.ref V1),o5,o6,o7,o8,o9,o10,o11,o12,o13,o14,o15] H')→te D [o0,some (.ref c),some (.int n),some (.int z),some (.ref V0),o5,o6,o7,o8,o9,o10,o11,o12,o13,o14,o15] H1:=by
 have hu:=ya2 hr
 refine⟨_,(ybM (yaL yfe (yau ybw (yau yaP (pv 2) yag) yag) yag (yaH _)) (yah (yas (i:=5) sc_zY.nd rfl (Or.inl rfl) (yaq G_zB (hr.mono (by first | decide | omega)) rfl T.zB.M T.zB.F.kp T.zB.B .nil yaD (yaa (ynP (pv 1) (yc6 ybZ yag) (λ_ _=>rfl)) (yaa (pv 3) (yaa yag yaf))))) (yah (ybM (yaL yfe (yau ybw (yau yaP (pv 2) yag) yag) yag (yaH _)) (yaj (yas (i:=5) sc_zY.nd rfl (Or.inl rfl) (yaq G_zq (hr.mono (by first | decide | omega)) rfl T.zq.M T.zq.F.kp T.zq.B .nil yaD (yaa (pv 3) (yaa (yax yaU rfl T.Jr PySem.boot_len (yaa (yav yaz (pv 4) yag (λ_ _=>rfl)) yaf)) (yaa (yau yaP (pv 2) yag) yaf)))))) ya4) (yah (yas (i:=6) sc_zY.nd rfl (Or.inr rfl) (yax (yjY rfl) rfl T.QB ykE (yaa (yax yaU rfl T.Jr PySem.boot_len (yaa (yav yaz (pv 4) yag (λ_ _=>rfl)) yaf)) (yaa (yax yaU rfl T.Jr PySem.boot_len (yaa (pv 5) yaf)) yaf)))) (yaj (yba (i:=4) sc_zY.nd rfl (Or.inl rfl) (yaQ (NB:=["_law_bars","_law_size","_law_least","_law_number"]) (cap:=[none,some 3,some 6,some 2]) rfl) rfl (yjJ (yaE (yaa (yav yaz (pv 4) yag (λ_ _=>rfl)) (yaa (pv 5) yaf)))) (λ_ _ _ _=>(yan (i:=0) (show List.Nodup (["_law_bars","_law_size","_law_least","_law_number"]:List Str) by decide) rfl (Or.inl rfl))) (λ_ _ _ _=>yaT) (λ_ _ _ _=>(yau yht (pv 0) (yaq G_zq (hr.mono (by first | decide | omega)) rfl T.zq.M T.zq.F.kp T.zq.B .nil yaD (yaa (pv 1) (yaa (yau ycR (pv 2) (yax (show ycd _ _ (λxs H Q=>∃ p ys,xs=[.ref p]∧(SqL K H p ys∨SqT K H p ys)∧Q (.int ys.length) H) from yaU) rfl T.Jr PySem.boot_len (yaa (pv 0) yaf))) (yaa (yau yaP (pv 3) yag) yaf))))))))))) ya4),λD c V0 ms n z bs o0 o5 o6 o7 o8 o9 o10 o11 o12 o13 o14 o15 H1 n0 ec lm hz vi gv lb q=>?_⟩
 walk_at "st"
 refine i_d (λzz=>?_) λzz=>?_
 ·obtain⟨xs,eV,is⟩:=id vi
  rw[List.map_cons,Iss] at is
  obtain⟨x0,r,rfl,i0,ir⟩:=is
  obtain⟨l0,ys0,rfl,el0,iy0⟩:∃ l ys,x0=.ref l∧rm H1 V0 l=some (.lst ys)∧Iss (rm H1 V0) ys (bs.map tls):=by rw[bsT,Is] at i0;exact i0
  have el0:=(yao el0).2
  have ly0:ys0.length=bs.length:=by rw[iy0.len,List.length_map]
  have i0':=i0.same (yaK _ _)
  walk_at "st"
  refine yp8 ?_
  walk_at "st"
  refine⟨rfl,c,_,rfl,SqL.of ec,λp1 h1=>?_⟩
  have s1:=yae h1 (.lst (ms.map V.int).reverse)
  have e1:upd H1 p1 (.lst (ms.map V.int).reverse) p1=some (.lst (ms.reverse.map V.int)):=by rw[yab,List.map_reverse]
  generalize upd H1 p1 (.lst (ms.map V.int).reverse)=H2 at s1 e1 ⊢
  walk_at "st"
  refine⟨p1,ms.reverse,z,90,rfl,e1,by rw[List.length_reverse];exact lm,hz.1,hz.2.1,hz.2.2,by omega,by omega,λx2 H3 bs2 s2 gb2 ne2 l24 nn2 ix2=>?_⟩
  have s12:=s1.trans s2
  refine ybN ?_
  dsimp only
  refine ybe ?_
  refine yq3 (te:=yn1 _ _ _) (fun σ H'=>∃ x5 bs5,σ=[o0,some (.ref c),some (.int n),some (.int z),some (.ref V0),some x5,o6,o7,o8,o9,o10,o11,o12,o13,o14,o15]∧Same H1 H'∧Is H' x5 (bsT bs5)∧yh9 bs5.length bs5∧1≤bs5.length∧bs5.length≤24) (λD' hD'=>?_) ?_
  ·walk_at "st"
   refine i_d (λz2=>?_) λz2=>?_
   ·walk_at "st"
    refine ybc (SqL.of (s12 _ _ eV)) (yak (j:=0) rfl) ?_
    walk_at "st"
    refine⟨l0,ys0,rfl,.inl (SqL.of (s12 _ _ el0)),?_⟩
    dsimp only
    walk_at "st"
    rw[ly0]
    refine⟨z,n / 18,bs.length,rfl,hz.1,hz.2.1,hz.2.2,by omega,by omega,λx3 H4 bs3 s3 gb3 nn3 lb3 ix3=>?_⟩
    walk_at "st"
    exact hD' _ _ ⟨x3,bs3,rfl,s12.trans s3,ix3.same (ydT _ _),⟨rfl,gb3,by rw[nn3.nts];omega⟩,by omega,by omega⟩
   ·walk_at "st"
    exact hD' _ _ ⟨x2,bs2,rfl,s12,ix2.same (ydT _ _),⟨rfl,gb2,nn2⟩,List.length_pos_iff.mpr ne2,l24⟩
  ·rintro σ H4 ⟨x5,bs5,rfl,s4,ix5,gv5,l51,l52⟩
   obtain⟨l5,ys5,rfl,el5,iy5⟩:∃ l ys,x5=.ref l∧H4 l=some (.lst ys)∧Iss H4 ys (bs5.map tls):=by rw[bsT,Is] at ix5;exact ix5
   have ly5:ys5.length=bs5.length:=by rw[iy5.len,List.length_map]
   walk_at "st"
   refine ybc (SqL.of (s4 _ _ eV)) (yak (j:=0) rfl) ?_
   walk_at "st"
   refine⟨l0,ys0,rfl,.inl (SqL.of (s4 _ _ el0)),?_⟩
   dsimp only
   walk_at "st"
   refine⟨l5,ys5,rfl,.inl (SqL.of el5),?_⟩
   dsimp only
   walk_at "st"
   refine⟨_,_,rfl,?_⟩
   rw[ly0,ly5]
   obtain⟨N,hN,hN1,hN2⟩:∃ N:Nat,(if ((bs5.length:Nat):Int) > ((bs.length:Nat):Int) then ((bs5.length:Nat):Int) else ((bs.length:Nat):Int))=(N:Nat)∧bs.length≤N∧bs5.length≤N∧N≤24:=by
    by_cases h:((bs5.length:Nat):Int) > ((bs.length:Nat):Int)
    ·exact⟨bs5.length,by rw[if_pos h],by omega,by omega,by omega⟩
    ·exact⟨bs.length,by rw[if_neg h],by omega,by omega,by omega⟩
   rw[hN]
   walk_at "st"
   refine ybc (SqL.of (s4 _ _ eV)) (yak (j:=0) rfl) ?_
   walk_at "st"
   refine⟨by show 2≤sizeLine;decide,λp6 h6=>?_⟩
   have s6:=yae h6 (.tup [V.ref l0,V.ref l5])
   have e6:upd H4 p6 (.tup [V.ref l0,V.ref l5]) p6=some (.tup [V.ref l0,V.ref l5]):=yab
   generalize upd H4 p6 (.tup [V.ref l0,V.ref l5])=H6 at s6 e6 ⊢
   have both:∀ (k:Nat) x,[V.ref l0,V.ref l5][k]?=some x→∃ l ys bz,x=.ref l∧H6 l=some (.lst ys)∧Iss H6 ys (bz.map tls)∧yh9 bz.length bz∧bz.length≤N∧ys.length=bz.length:=λk x e=>by
    match k,e with
    | 0,e=>cases e;exact⟨l0,ys0,bs,rfl,s6 _ _ (s4 _ _ el0),(iy0.same (yaK _ _)).same (s4.trans s6),gv,hN1,ly0⟩
    | 1,e=>cases e;exact⟨l5,ys5,bs5,rfl,s6 _ _ el5,iy5.same s6,gv5,hN2.1,ly5⟩
    | k+2,e=>cases e
   refine⟨p6,rfl,⟨_,SqT.of e6⟩,λV1 hV=>ylf (xs:=[V.ref l0,V.ref l5]) (λi σ' H'=>(∃ o,σ'=[o,some (.int z),some (.int (N:Nat)),some (.int n)])∧Same H6 H'∧∃ ys VBs,H' V1=some (.lst ys)∧VBs.length=i∧Iss (rm H' V1) ys (VBs.map bsT)∧∀ b∈VBs,yh9 N b) ⟨⟨_,rfl⟩,yae hV _,[],[],yab,rfl,yay _,λ_ h=>by cases h⟩ (λ_ _ _ _ h=>SqT.of (h.2.1 _ _ e6)) ?_ ?_⟩
   ·rintro k x σ' H' hx ⟨⟨o,rfl⟩,sm,ys,VBs,hd,lv,iv,gb⟩
    have hk:k < 2:=(List.getElem?_eq_some_iff.mp hx).1
    obtain⟨l,zs,bz,rfl,el,iz,gz,lz,lzs⟩:=both k x hx
    walk_at "st"
    refine⟨l,zs,rfl,.inl (SqL.of (sm _ _ el)),?_⟩
    dsimp only
    walk_at "st"
    refine⟨z,n / 40,N - bz.length,by rw[lzs,show((N:Nat):Int) - ((bz.length:Nat):Int)=((N - bz.length:Nat):Int) by omega];rfl,hz.1,hz.2.1,hz.2.2,by omega,by omega,λx7 H7 bs7 s7 gb7 nn7 lb7 ix7=>?_⟩
    obtain⟨l7,ys7,rfl,el7,iy7⟩:∃ l ys,x7=.ref l∧fr H' H7 l=some (.lst ys)∧Iss (fr H' H7) ys (bs7.map tls):=by rw[bsT,Is] at ix7;exact ix7
    have ly7:ys7.length=bs7.length:=by rw[iy7.len,List.length_map]
    walk_at "st"
    refine⟨l,l7,zs,ys7,rfl,rfl,s7 _ _ (sm _ _ el),(ya1 el7).2,Nat.le_of_lt (yam (by omega)),λp8 h8=>?_⟩
    have s8:=yae h8 (.lst (zs++ys7))
    have e8:upd H7 p8 (.lst (zs++ys7)) p8=some (.lst (zs++ys7)):=yab
    generalize upd H7 p8 (.lst (zs++ys7))=H8 at s8 e8 ⊢
    have s78:=s7.trans s8
    have ly:ys.length=k:=by rw[iv.len,List.length_map,lv]
    have n8:p8≠V1:=(yad (s7 _ _ hd) h8).symm
    refine⟨ys,s78 _ _ hd,yam (by omega),⟨_,rfl⟩,yaJ hV (sm.trans s78),ys++[.ref p8],VBs++[bz++bs7],yab,by rw[List.length_append,lv];rfl,?_,λb hb=>?_⟩
    ·rw[List.map_append]
     have up1:Same H6 (rm (upd H8 V1 (.lst (ys++[.ref p8]))) V1):=λb u e=>by
      rw[yaB (yad e hV),yai (yad e hV)]
      exact s78 _ _ (sm _ _ e)
     refine Iss.app ((iv.same (ya8 λb u _ e=>s78 _ _ e)).same ycF) (yal (ybB (xs:=zs++ys7) (by rw[yaB n8,yai n8];exact e8) ?_) (yay _))
     rw[List.map_append]
     refine Iss.app (iz.same up1) (iy7.same λb u e=>?_)
     obtain⟨nb,e⟩:=ya1 e
     have nv:b≠V1:=(yad hd nb).symm
     rw[yaB nv,yai nv]
     exact s8 _ _ e
    ·rcases List.mem_append.mp hb with hb | hb
     ·exact gb b hb
     ·rw[List.mem_singleton.mp hb]
      refine⟨by rw[List.length_append,lb7];omega,λb hb=>(List.mem_append.mp hb).elim (gz.2.1 b) (gb7 b),?_⟩
      have c1:=nn7.nts
      have c2:=gz.2.2
      unfold nts at c1 c2 ⊢
      rw[List.flatten_append,List.countP_append]
      omega
   ·rintro σ' H' ⟨_,sm,ys,VBs,hd,lv,iv,gb⟩
    have lv:VBs.length=2:=lv
    exact q V1 VBs N _ _ _ _ _ _ _ _ _ _ _ _ H' ((s4.trans s6).trans sm) ⟨ys,hd,iv⟩ ⟨by omega,by omega,gb⟩ (by omega) (by omega)
 ·walk_at "st"
  exact q V0 [bs] bs.length o0 o5 o6 o7 o8 o9 o10 o11 o12 o13 o14 o15 H1 (Same.refl _) vi ⟨by show 1≤1;decide,by show 1≤2;decide,λb hb=>by rw[List.mem_singleton.mp hb];exact gv⟩ lb.1 lb.2
theorem yoM {cdv:Value}{A:Around}{outer:List Env}{s0:Shared}{H0:Hp}{E:XK}(T:Txt K mg t)(G_zL:FnOk P w K mg base CX0 3 t.f_zL t.d_zL ["_law_told"] (yfl t))(hr:Room 9 (A.deeper (PyProof.Rows.envOfC "law" (yac (top 53)) s0.heap.objs.size t.f_zY cdv))) :
  ∃ te,PS (ybz CX0 P w K mg base ["_law_script","_law_cells","_law_number","_law_size","_law_voices","_law_other","_law_least","_law_keys","_law_bars","_law_k","_law_key","_law_signs","_law_due","_law_turn","_law_handed","_law_found"] "law" (yac (top 53)) t.f_zY cdv A outer s0 H0 E).nox ((yb9 (yaV 53 8)).getD 0 (.Pass ⟨0,0,0,0⟩)) te∧∀ D (k:Nat) (V0:Addr) (VB:List (List (List Tl))) o0 o1 o2 o3 o5 o6 o7 o8 o10 o11 o12 o13 o14 o15 (Hs H1:Hp),Same Hs H1→Is Hs (.ref V0) (vbT VB)→VB.length≤2→(∀ bs∈VB,k < bs.length∧ycZ bs)→(∀ (sl:Addr) (H':Hp),Same H1 H'→VsIs t (nw Hs H1 H') (.ref sl) (VB.map λbs=>bs.getD k [])→D.nx [o0,o1,o2,o3,some (.ref V0),o5,o6,o7,o8,some (.int (k:Nat)),o10,some (.ref sl),o12,o13,o14,o15] H')→te D [o0,o1,o2,o3,some (.ref V0),o5,o6,o7,o8,some (.int (k:Nat)),o10,o11,o12,o13,o14,o15] H1:=by
 have hu:=ya2 hr
 refine⟨_,(yba (i:=11) sc_zY.nd rfl (Or.inl rfl) (yaQ (NB:=["_law_own","_law_k"]) (cap:=[none,some 9]) rfl) rfl (yaX (pv 4)) (λ_ _ _ _=>(yan (i:=0) (show List.Nodup (["_law_own","_law_k"]:List Str) by decide) rfl (Or.inl rfl))) (λ_ _ _ _=>yaT) (λ_ _ _ _=>(yb5 (yaQ (NB:=["_law_told"]) (cap:=[none]) rfl) rfl (show PI _ _ _ (yih K (tOp (ykp K) (ycv 0) (ycv 1))) from yaX (yav (show IxR _ (ykp K) from yaz) (pv 0) (pv 1) (λ_ _=>rfl))) (λ_ _ _ _=>(yan (i:=0) (show List.Nodup (["_law_told"]:List Str) by decide) rfl (Or.inl rfl))) (λ_ _ _ _=>yaT) (λ_ _ _ _=>(yaq G_zL (hr.mono (by first | decide | omega)) rfl T.zL.M T.zL.F.kp T.zL.B .nil yaD (yaa (pv 0) yaf)))))),λD k V0 VB o0 o1 o2 o3 o5 o6 o7 o8 o10 o11 o12 o13 o14 o15 Hs H1 sH iv l2 gb q=>?_⟩
 obtain⟨l,xs,e,el,is⟩:∃ l xs,V.ref V0=.ref l∧Hs l=some (.lst xs)∧Iss Hs xs (VB.map bsT):=by rw[vbT,Is] at iv;exact iv
 cases e
 walk_at "st"
 refine⟨V0,rfl,⟨_,SqL.of (sH _ _ el)⟩,λD0 hD=>yel (us:=VB) (R:=λH x bs=>Is H x (bsT bs)) (S:=LsIs t) ydc (λs h=>h.same s) (λbs=>bs.getD k []) sH (sH _ _ el) (ydW is) hD (by omega) ?_ ?_⟩
 ·rintro x bs H' Hs' Q' hm t1 t2 t3 ix kk
  obtain⟨l3,ys,rfl,el3,iy⟩:∃ l ys,x=.ref l∧Hs' l=some (.lst ys)∧Iss Hs' ys (bs.map tls):=by rw[bsT,Is] at ix;exact ix
  obtain⟨hk,gB⟩:=gb bs hm
  have g1:=gB _ (List.getElem_mem hk)
  obtain⟨y,ey,iy⟩:=iy.at' k (by rw[List.length_map];exact hk)
  rw[List.getElem_map] at iy
  have ed:bs.getD k []=bs[k]:=by rw[List.getD_eq_getElem?_getD,List.getElem?_eq_getElem hk];rfl
  rw[ed] at kk
  generalize bs[k]=ts at iy g1 kk
  obtain⟨l4,zs,rfl,el4,iz⟩:∃ l ys,y=.ref l∧Hs' l=some (.lst ys)∧Iss Hs' ys (ts.map tlT):=by rw[tls,Is] at iy;exact iy
  walk_at "st"
  refine ybc (SqL.of (t3 _ _ el3)) (yak ey) ?_
  walk_at "st"
  refine⟨l4,rfl,⟨_,SqL.of (t3 _ _ el4)⟩,λD1 hD1=>yel (us:=ts) (R:=λH x tl=>Is H x (tlT tl)) (S:=Sg t) ydc (λs h=>h.same s) id t3 (t3 _ _ el4) (ydW iz) hD1 (by have:=g1.2.2;omega) ?_ ?_⟩
  ·rintro x tl H2 Hs2 Q2 hm2 u1 u2 u3 rx k2
   walk_at "st"
   exact⟨x,tl,Hs2,rfl,u3,rx,k2⟩
  ·rintro zs H2 s2 hd az
   rw[List.map_id] at az
   exact kk _ _ s2 ⟨D1,zs,rfl,by rw[yaw hD1];exact hd,az.imp λ_ _ _ z=>z.same (ycx (yaK _ _))⟩
 ·rintro ys H2 s2 hd az
  exact q D0 H2 s2 ⟨D0,ys,rfl,by rw[yaw hD];exact hd,az.imp λ_ _ _ z=>z.same (ycx (yaK _ _))⟩
theorem yoa {cdv:Value}{A:Around}{outer:List Env}{s0:Shared}{H0:Hp}{E:XK}(T:Txt K mg t)(G_zi:FnOk P w K mg base CX0 4 t.f_zi t.d_zi ["self","key","metre","voices"] (yhw t))(hr:Room 9 (A.deeper (PyProof.Rows.envOfC "law" (yac (top 53)) s0.heap.objs.size t.f_zY cdv))) :
  ∃ te,PS (ybz CX0 P w K mg base ["_law_script","_law_cells","_law_number","_law_size","_law_voices","_law_other","_law_least","_law_keys","_law_bars","_law_k","_law_key","_law_signs","_law_due","_law_turn","_law_handed","_law_found"] "law" (yac (top 53)) t.f_zY cdv A outer s0 H0 E).nox ((yb9 (yaV 53 8)).getD 1 (.Pass ⟨0,0,0,0⟩)) te∧∀ D (B sl:Addr) (z key:Int) (bvs:List V) (vss:List (List Tl)) o0 o1 o2 o4 o5 o6 o7 o9 o12 o13 o14 o15 (Hs H1:Hp),Same Hs H1→Hs B=none→H1 B=some (.lst bvs)→VsIs t Hs (.ref sl) vss→vss.length≤2→(∀ ts∈vss,ts.length≤60)→bvs.length≤100→(∀ (x:V) (H':Hp),SameT B H1 H'→H' B=some (.lst (bvs++[x]))→BarIs t (nw Hs H1 (rm H' B)) x (key,vss)→D.nx [o0,o1,o2,some (.int z),o4,o5,o6,o7,some (.ref B),o9,some (.int key),some (.ref sl),o12,o13,o14,o15] H')→te D [o0,o1,o2,some (.int z),o4,o5,o6,o7,some (.ref B),o9,some (.int key),some (.ref sl),o12,o13,o14,o15] H1:=by
 have hu:=ya2 hr
 refine⟨_,(yaO (ybU PySem.F.plainAttrs_list PySem.F.slot_list_append PySem.F.type_list_append yaI (pv 8) (yaa (ycj T.Qz G_zi (hr.mono (by first | decide | omega)) rfl T.Qy T.zi.B .nil yaD (yaa (pv 10) (yaa (yaE (yaa (yau yaP (pv 3) yag) (yaa yag (yaa (yaE yaf) yaf)))) (yaa (pv 11) yaf)))) yaf))),λD B sl z key bvs vss o0 o1 o2 o4 o5 o6 o7 o9 o12 o13 o14 o15 Hs H1 sH nB eB vi l2 l60 lb q=>?_⟩
 walk_at "st"
 refine⟨.inl ⟨rfl,_,SqL.of eB⟩,?_⟩
 walk_at "st"
 refine⟨Nat.zero_le _,λp1 h1=>?_⟩
 have s1:=yae h1 (.tup [])
 generalize upd H1 p1 (.tup [])=H2 at s1 ⊢
 walk_at "st"
 refine⟨by show 3≤sizeLine;decide,λp2 h2=>?_⟩
 have s2:=yae h2 (.tup [V.int (z / 24),.int 4,.ref p1])
 generalize upd H2 p2 (.tup [V.int (z / 24),.int 4,.ref p1])=H3 at s2 ⊢
 have s12:=s1.trans s2
 walk_at "st"
 intro a dx ha hd ne
 have ms:=ybR (C:=t.QR) ha hd ne
 have sH3:Same Hs H3:=sH.trans s12
 refine⟨a,dx,key,.ref p2,.ref sl,vss,Hs,rfl,yab,sH3.trans ms,sH3.free ha,vi,l2,l60,λl' H4 st4 e4 v4=>⟨rfl,?_⟩⟩
 have s3:∀ b u,H3 b=some u→H4 b=some u:=λb u e=>st4 b u (yad e ha) (ms _ _ e)
 have eB4:=s3 _ _ (s12 _ _ eB)
 have nab:a≠B:=(yad (s12 _ _ eB) ha).symm
 walk_at "st"
 refine ydb eB4 (yam (by omega)) ?_
 refine q (.ref a) _ (λb u n e=>by rw[yai n];exact s3 _ _ (s12 _ _ e)) yab ⟨a,dx,.ref p2,l',rfl,?_,v4.same λb u e=>?_⟩
 ·rw[yaw (s12.free ha),yaB nab,yai nab]
  exact e4
 ·cases h:made H3 t.QR a dx b with
  | none =>
   obtain⟨n1,n2⟩:=yei h
   rw[yaw h] at e
   have nb:b≠B:=(yad (s12 _ _ eB) n2).symm
   rw[yaw (s12.free n2),yaB nb,yai nb]
   exact e
  | some v =>
   rw[yaM h] at e
   rw[yaM (sH _ _ e)]
   exact e
theorem yrn {cdv:Value}{A:Around}{outer:List Env}{s0:Shared}{H0:Hp}{E:XK}(T:Txt K mg t)(G_zL:FnOk P w K mg base CX0 3 t.f_zL t.d_zL ["_law_told"] (yfl t))(G_zi:FnOk P w K mg base CX0 4 t.f_zi t.d_zi ["self","key","metre","voices"] (yhw t))(hr:Room 9 (A.deeper (PyProof.Rows.envOfC "law" (yac (top 53)) s0.heap.objs.size t.f_zY cdv))) :
  ∃ te,PS (ybz CX0 P w K mg base ["_law_script","_law_cells","_law_number","_law_size","_law_voices","_law_other","_law_least","_law_keys","_law_bars","_law_k","_law_key","_law_signs","_law_due","_law_turn","_law_handed","_law_found"] "law" (yac (top 53)) t.f_zY cdv A outer s0 H0 E).nox (yaV 53 8) te∧∀ D (B V0 kl:Addr) (z:Int) (keys:List Int) (VB:List (List (List Tl))) (N:Nat) o0 o1 o2 o5 o6 o9 o10 o11 o12 o13 o14 o15 (H1:Hp),H1 B=some (.lst [])→H1 kl=some (.lst (keys.map V.int))→keys.length=N→VIs H1 V0 VB→ygi N VB→N≤24→B≠V0→kl≠B→Is (rm H1 B) (.ref V0) (vbT VB)→(∀ (bvs:List V) o9 o10 o11 (H':Hp),SameT B H1 H'→H' B=some (.lst bvs)→Al (BarIs t (rm H' B)) bvs (yaY keys VB)→D.nx [o0,o1,o2,some (.int z),some (.ref V0),o5,o6,some (.ref kl),some (.ref B),o9,o10,o11,o12,o13,o14,o15] H')→te D [o0,o1,o2,some (.int z),some (.ref V0),o5,o6,some (.ref kl),some (.ref B),o9,o10,o11,o12,o13,o14,o15] H1:=by
 have hu:=ya2 hr
 obtain⟨t0,pf0,k0⟩:=yoM (cdv:=cdv) (A:=A) (outer:=outer) (s0:=s0) (H0:=H0) (E:=E) T G_zL hr
 obtain⟨t1,pf1,k1⟩:=yoa (cdv:=cdv) (A:=A) (outer:=outer) (s0:=s0) (H0:=H0) (E:=E) T G_zi hr
 refine⟨_,show PS _ (yaV 53 8) _ from (ybf PassesOwn.never rfl (ych rfl T.Jc (yaa (pv 7) yaf)) (yca (n:=2) rfl (yaC (yan (i:=9) sc_zY.nd rfl (Or.inr rfl)) (yaC (yan (i:=10) sc_zY.nd rfl (Or.inl rfl)) ybG))) (yah pf0 (yaj pf1))),λD B V0 kl z keys VB N o0 o1 o2 o5 o6 o9 o10 o11 o12 o13 o14 o15 H1 eB ek lk vi gv l24 nBV nkB iv q=>?_⟩
 walk_at "st"
 refine⟨kl,rfl,⟨_,SqL.of ek⟩,ybQ (xs:=keys.map V.int) (λi σ H'=>∃ bvs o9 o10 o11,σ=[o0,o1,o2,some (.int z),some (.ref V0),o5,o6,some (.ref kl),some (.ref B),o9,o10,o11,o12,o13,o14,o15]∧SameT B H1 H'∧H' B=some (.lst bvs)∧Al (BarIs t (rm H' B)) bvs ((yaY keys VB).take i)) ?_ ?_ ?_ ?_⟩
 ·exact⟨[],_,_,_,rfl,(λb u _ e=>e),eB,Al.nil⟩
 ·rintro i σ H' _ ⟨_,_,_,_,rfl,st',_⟩
  exact SqL.of (st' _ _ nkB ek)
 ·rintro i y σ H' p hy ⟨bvs,o9,o10,o11,rfl,st',eB',al⟩ hp
  have hi:i < keys.length:=by have:=(List.getElem?_eq_some_iff.mp hy).1;rw[List.length_map] at this;exact this
  have ey:y=.int (keys.getD i 0):=by
   rw[List.getElem?_map,List.getElem?_eq_getElem hi] at hy
   rw[List.getD_eq_getElem?_getD,List.getElem?_eq_getElem hi]
   exact(Option.some.inj hy).symm
  subst ey
  have hib:i < (yaY keys VB).length:=by rw[ybE];exact hi
  have eb:(yaY keys VB)[i]=yde keys VB i:=by have:=yf7 (VB:=VB) hi;rw[List.getElem?_eq_getElem hib] at this;exact Option.some.inj this
  have tk:=List.take_succ_eq_append_getElem hib
  rw[eb] at tk
  have lb:bvs.length≤100:=by rw[al.1,List.length_take,ybE];omega
  have s2:=yae hp (.tup [.int (i:Nat),.int (keys.getD i 0)])
  refine yex (SqT.of yab) ?_
  generalize upd H' p (.tup [.int (i:Nat),.int (keys.getD i 0)])=H2 at s2 ⊢
  have eB2:=s2 _ _ eB'
  have st2:SameT B H1 H2:=λb u n e=>s2 _ _ (st' b u n e)
  have up2:Same (rm H1 B) (rm H2 B):=ya8 st2
  refine ybe (k0 _ i V0 VB _ _ _ _ _ _ _ _ _ _ _ _ _ _ (rm H2 B) H2 (yaK _ _) (iv.same up2) gv.2.1 (λbs hb=>⟨by have:=(gv.2.2 bs hb).1;omega,(gv.2.2 bs hb).2.1⟩) λsl H3 s3 v3=>?_)
  have eB3:=s3 _ _ eB2
  have nB3:nw (rm H2 B) H2 H3 B=none:=by rw[yaM eB2,yeS]
  refine k1 _ B sl z (keys.getD i 0) bvs (VB.map λbs=>bs.getD i []) _ _ _ _ _ _ _ _ _ _ _ _ (nw (rm H2 B) H2 H3) H3 (yjU (yaK _ _) s3) nB3 eB3 v3 (by rw[List.length_map];exact gv.2.1) (λts hm=>?_) lb λx H4 st4 eB4 bi=>?_
  ·obtain⟨bs,hb,rfl⟩:=List.mem_map.mp hm
   have hl:i < bs.length:=by have:=(gv.2.2 bs hb).1;omega
   rw[List.getD_eq_getElem?_getD,List.getElem?_eq_getElem hl]
   exact((gv.2.2 bs hb).2.1 _ (List.getElem_mem hl)).2.2
  ·refine⟨_,_,_,_,rfl,λb u n e=>st4 b u n (s3 _ _ (st2 b u n e)),eB4,?_⟩
   rw[tk]
   refine Al.snoc (al.imp λ_ _ _ w=>w.same (ya8 λb u n e=>st4 b u n (s3 _ _ (s2 _ _ e)))) (bi.same λb u e=>?_)
   cases h:H3 b with
   | none=>rw[yaw h] at e;exact e
   | some v =>
    rw[yaM h] at e
    have nb:b≠B:=λw=>by rw[w,nB3] at e;cases e
    rw[yaB nb]
    exact st4 b u nb (yjU (yaK _ _) s3 _ _ e)
 ·rintro σ H' ⟨bvs,o9,o10,o11,rfl,st',eB',al⟩
  rw[List.length_map,List.take_of_length_le (by rw[ybE];exact Nat.le_refl _)] at al
  exact q bvs _ _ _ H' st' eB' al
theorem yiQ {m:Nat}(key:Int)(rows:List Row)(mk:Nat→List Str)(h:∀ r∈rows,r.ps.length≤m):∀ (is:List Nat) (c:Cn),∀ x∈goL key rows mk c is,x.2.length≤m
 | [],_,_,hx=>by cases hx
 | i :: is,c,x,hx=>by
  rw[goL] at hx
  rcases List.mem_cons.mp hx with rfl | hx
  ·show(ylv key c (rows.getD i r0) (mk i)).length≤m
   have hr:(rows.getD i r0).ps.length≤m:=by
    rw[List.getD_eq_getElem?_getD]
    cases e:rows[i]? with
    | none=>exact Nat.zero_le _
    | some r=>exact h r (List.mem_of_getElem? e)
   unfold ylv
   split
   ·exact hr
   ·exact Nat.le_trans (ycC key _ _ _) hr
  ·exact yiQ key rows mk h is _ x hx
theorem ydU {α:Type}{n:Nat}{v:α}:∀ {L:List (Nat×α)},L.lookup n=some v→(n,v)∈L
 | [],h=>by cases h
 | (k,w) :: L,h=>by
  rw[List.lookup_cons] at h
  by_cases e:n=k
  ·subst e
   simp at h
   rw[h]
   exact List.mem_cons_self
  ·rw[beq_eq_false_iff_ne.mpr e] at h
   exact List.mem_cons_of_mem _ (ydU h)
theorem yhR {m:Nat}{key:Int}{rows:List Row}{mk:List (List Str)}{ord:List Nat}{i:Nat}(h:∀ r∈rows,r.ps.length≤m):(ycr key rows mk ord i).length≤m:=by
 unfold ycr
 cases e:(goL key rows (mkF mk) c0 ord).lookup i with
 | none=>exact Nat.zero_le _
 | some v=>exact yiQ key rows (mkF mk) h ord c0 _ (ydU e)
theorem yjq {key:Int}{bs:List Bool}{vss:List (List Tl)}(g:∀ ts∈vss,yaN ts):∀ ps∈ybr key bs vss,ps.length≤10:=by
 intro ps hp
 unfold ybr ydd at hp
 obtain⟨i,_,rfl⟩:=List.mem_map.mp hp
 refine yhR λr hr=>?_
 obtain⟨r',hr',rfl⟩:=List.mem_map.mp hr
 have:=(yj9 g _ r' hr').1
 show(r'.hs.map (·.1)).length≤10
 rw[List.length_map]
 omega
theorem ymE {key:Int}{bs:List Bool}{vss:List (List Tl)}(g:∀ ts∈vss,yaN ts)(k j:Nat):(yes key bs vss k j).length≤10:=by
 unfold yes
 cases e:((ya9 bs vss vss.length).zip (ybr key bs vss)).find? (λq:(Rw×Nat)×List Pit=>decide (q.1.1.vo=((k:Nat):Int))&&decide (q.1.2=j)) with
 | none=>exact Nat.zero_le _
 | some q =>
  have:=(List.of_mem_zip (a:=q.1) (b:=q.2) (List.mem_of_find?_eq_some e)).2
  exact yjq g _ this
def yik (sns:List Sn):Prop:=∀ ps n wd op cl,Sn.tones ps n wd op cl∈sns→ps.length≤10
theorem yg8 {g:Int}{sns:List Sn}(h:yik sns):yik (yeu g sns):=by
 unfold yeu
 cases e:sns.getLast? with
 | none=>intro ps n wd op cl hm;cases hm
 | some sn =>
  obtain⟨vs,rfl⟩:=List.getLast?_eq_some_iff.mp e
  intro ps n wd op cl hm
  simp only at hm
  rw[List.dropLast_concat] at hm
  rcases List.mem_append.mp hm with hm | hm
  ·exact h ps n wd op cl (List.mem_append_left _ hm)
  ·rw[List.mem_singleton] at hm
   cases sn with
   | rest m=>cases hm
   | tones ps' m wd' op' cl'=>cases hm;exact h ps m wd op cl (List.mem_append_right _ List.mem_cons_self)
theorem ylR {ps:List Pit}{s:MS}{tl:Tl}(l:ps.length≤10)(h:yik s.sns):yik (ydE ps s tl):=by
 have rst:∀ g,yik (s.sns++[.rest g]):=λg ps n wd op cl hm=>by
  rcases List.mem_append.mp hm with hm | hm
  ·exact h ps n wd op cl hm
  ·rw[List.mem_singleton] at hm;cases hm
 cases tl with
 | note hs p ti be wd op cl =>
  unfold ydE
  dsimp only
  split
  ·exact yg8 h
  ·intro ps' n wd' op' cl' hm
   rcases List.mem_append.mp hm with hm | hm
   ·exact h ps' n wd' op' cl' hm
   ·rw[List.mem_singleton] at hm;cases hm;exact l
 | pause p =>
  unfold ydE
  dsimp only
  split
  ·exact yg8 h
  ·exact rst _
 | whole n =>
  unfold ydE
  dsimp only
  split
  ·exact yg8 h
  ·exact rst _
theorem ygf {g:Nat→List Pit}(l:∀ j,(g j).length≤10):∀ (ts:List Tl) (j:Nat) (s:MS),yik s.sns→yik (ya5 g j s ts).sns
 | [],_,_,h=>h
 | tl :: ts,j,s,h=>ygf l ts (j+1) _ (ylR (l j) h)
theorem ymG {n:Nat}{bars:List (Int×List (List Tl))}(g:∀ b∈bars,∀ ts∈b.2,yaN ts):∀ s∈ydp bars n,yik s.sns:=by
 have:∀ (bars:List (Int×List (List Tl))) (S:List MS),(∀ b∈bars,∀ ts∈b.2,yaN ts)→(∀ s∈S,yik s.sns)→∀ s∈bars.foldl (λS b=>ycu b S) S,yik s.sns:=by
  intro bars
  induction bars with
  | nil=>exact λS _ h=>h
  | cons b bars ih =>
   intro S g h
   refine ih _ (λb' hb'=>g b' (List.mem_cons_of_mem _ hb')) λs hs=>?_
   unfold ycu at hs
   obtain⟨k,hk,rfl⟩:=List.mem_map.mp hs
   refine ygf (λj=>ymE (g b List.mem_cons_self) k j) _ _ _ ?_
   rw[List.getD_eq_getElem?_getD]
   cases e:S[k]? with
   | none=>intro ps n wd op cl hm;cases hm
   | some s=>exact h s (List.mem_of_getElem? e)
 refine this bars _ g λs hs=>?_
 rw[List.eq_of_mem_replicate hs]
 intro ps n wd op cl hm
 cases hm
theorem yfR {sns:List Sn}{sn:Sn}(h:sn∈ybD sns):sn∈sns:=by
 unfold ybD at h
 split at h
 ·exact(List.dropLast_sublist sns).subset h
 ·exact h
theorem ygu (sns:List Sn):(ybD sns).length≤sns.length:=by
 unfold ybD
 split
 ·rw[List.length_dropLast];omega
 ·exact Nat.le_refl _
theorem ynV {sn:Sn}(h:∀ ps n wd op cl,sn=.tones ps n wd op cl→ps.length≤10):OkT 3 (snT sn):=by
 cases sn with
 | rest n =>
  refine .inr ⟨_,.inr rfl,by show 2≤500;decide,λu hu=>.inl ?_⟩
  simp only[List.mem_cons,List.not_mem_nil,or_false] at hu
  rcases hu with rfl | rfl<;>exact⟨_,rfl⟩
 | tones ps n wd op cl =>
  refine .inr ⟨_,.inr rfl,by show 6≤500;decide,λu hu=>?_⟩
  simp only[List.mem_cons,List.not_mem_nil,or_false] at hu
  rcases hu with rfl | rfl | rfl | rfl | rfl | rfl
  ·exact .inl ⟨_,rfl⟩
  ·refine .inr ⟨_,.inl rfl,by rw[List.length_map];have:=h _ _ _ _ _ rfl;omega,λu hu=>?_⟩
   obtain⟨p,_,rfl⟩:=List.mem_map.mp hu
   refine .inr ⟨_,.inr rfl,by show 3≤500;decide,λw hw=>?_⟩
   simp only[List.mem_cons,List.not_mem_nil,or_false] at hw
   rcases hw with rfl | rfl | rfl<;>exact⟨_,rfl⟩
  ·exact .inl ⟨_,rfl⟩
  ·exact .inl ⟨_,rfl⟩
  ·exact .inl ⟨_,rfl⟩
  ·exact .inl ⟨_,rfl⟩
theorem yms {S:List MS}(l:S.length≤2)(hp:∀ s∈S,yik s.sns)(hl:∀ s∈S,s.sns.length≤60):OkT 5 (.ls (S.map λs=>ykb (ybD s.sns))):=by
 refine .inr ⟨_,.inl rfl,by rw[List.length_map];omega,λu hu=>?_⟩
 obtain⟨s,hs,rfl⟩:=List.mem_map.mp hu
 refine .inr ⟨_,.inl rfl,by rw[List.length_map];have:=ygu s.sns;have:=hl s hs;omega,λu hu=>?_⟩
 obtain⟨sn,hm,rfl⟩:=List.mem_map.mp hu
 exact ynV λps n wd op cl e=>hp s hs ps n wd op cl (by rw[← e];exact yfR hm)
theorem yjM (bs:List (List Tl)):(List.range bs.length).map (λi=>bs.getD i [])=bs:=by
 apply List.ext_getElem (by simp)
 intro i h1 h2
 rw[List.getElem_map,List.getElem_range,List.getD_eq_getElem?_getD,List.getElem?_eq_getElem h2]
 rfl
theorem ykR {keys:List Int}{VB:List (List (List Tl))}(h:∀ bs∈VB,bs.length=keys.length∧nts bs.flatten≤23)(k:Nat):ycf (yaY keys VB) k≤23:=by
 unfold ycf yaY
 rw[List.map_map]
 cases e:VB[k]? with
 | none =>
  have:((List.range keys.length).map ((λb:Int×List (List Tl)=>nts (b.2.getD k [])) ∘ yde keys VB))=(List.range keys.length).map λ_=>0:=List.map_congr_left λi _=>by
   show nts ((VB.map λbs=>bs.getD i []).getD k [])=0
   rw[List.getD_eq_getElem?_getD,List.getElem?_map,e]
   rfl
  rw[this,List.map_const',List.sum_replicate_nat]
  omega
 | some bs =>
  obtain⟨l,c⟩:=h bs (List.mem_of_getElem? e)
  have:((List.range keys.length).map ((λb:Int×List (List Tl)=>nts (b.2.getD k [])) ∘ yde keys VB))=((List.range bs.length).map λi=>bs.getD i []).map nts:=by
   rw[List.map_map,l]
   refine List.map_congr_left λi _=>?_
   show nts ((VB.map λbs=>bs.getD i []).getD k [])=nts (bs.getD i [])
   rw[List.getD_eq_getElem?_getD,List.getElem?_map,e]
   rfl
  rw[this,yjM]
  have c2:(bs.map nts).sum=nts bs.flatten:=by
   unfold nts
   rw[List.countP_flatten]
  omega
theorem Sg.offT {H:Hp}{c:Addr}{ps:Array Value}(hc:H c=some (.tbl ps)){x:V}{tl:Tl}(h:Sg t H x tl):Sg t (rm H c) x tl:=by
 have ne:∀ {a C dx fs},H a=some (.ins C dx fs)→rm H c a=some (.ins C dx fs):=λe=>by rw[yaB (λz=>by rw[z,hc] at e;cases e)];exact e
 cases tl with
 | note hs p ti be wd op cl=>obtain⟨a,dx,l,z,e,ea,i1,i2⟩:=h;exact⟨a,dx,l,z,e,ne ea,i1.offT hc,i2.offT hc⟩
 | pause p=>obtain⟨a,dx,z,e,ea,i⟩:=h;exact⟨a,dx,z,e,ne ea,i.offT hc⟩
 | whole n=>obtain⟨a,dx,e,ea⟩:=h;exact⟨a,dx,e,ne ea⟩
theorem BarIs.offT {H:Hp}{c:Addr}{ps:Array Value}(hc:H c=some (.tbl ps)){x:V}{b:Int×List (List Tl)}(h:BarIs t H x b):BarIs t (rm H c) x b:=by
 have nl:∀ {a xs},H a=some (.lst xs)→rm H c a=some (.lst xs):=λe=>by rw[yaB (λz=>by rw[z,hc] at e;cases e)];exact e
 obtain⟨a,dx,mv,l,e,ea,l2,ys,e2,el,al⟩:=h
 refine⟨a,dx,mv,l,e,by rw[yaB (λz=>by rw[z,hc] at ea;cases ea)];exact ea,l2,ys,e2,nl el,al.imp λ_ _ _ z=>?_⟩
 obtain⟨l3,zs,e3,e4,a3⟩:=z
 exact⟨l3,zs,e3,nl e4,a3.imp λ_ _ _ w=>w.offT hc⟩
def ynJ:Sp:=λvs H Q E=>∃ A:Addr→Prop,yqA A vs H Q E
structure TG (t:Ad) (Tb:Addr) (B:Addr) (dv:V) (bvs:List V) (bars:List (Int×List (List Tl))) (n:Nat) (Hs:Hp):Prop where
 nT:Hs Tb=none
 eB:Hs B=some (.lst bvs)
 al:Al (BarIs t Hs) bvs bars
 ne:bars≠[]
 n1:1≤n
 n2:n≤2
 gb:∀ b∈bars,ycX n b
 nc:∀ k,ycf bars k≤23
 lb:bars.length≤200
 dv:Is Hs dv (.ls ((ydp bars n).map λs=>ykb (ybD s.sns)))
theorem TG.st {Tb B:Addr}{dv:V}{bvs:List V}{bars:List (Int×List (List Tl))}{n:Nat}{Hs:Hp}(g:TG t Tb B dv bvs bars n Hs):(ydp bars n).length=n∧(∀ s∈ydp bars n,yik s.sns)∧∀ s∈ydp bars n,s.sns.length≤60:=by
 have h:=ycp (bars:=bars) (n:=n) (λb hb=>(g.gb b hb).1) bars.length (Nat.le_refl _)
 rw[List.take_length] at h
 refine⟨h.1,ymG λb hb ts ht=>((g.gb b hb).2 ts ht).1,λs hs=>?_⟩
 obtain⟨k,hk,e⟩:=List.getElem_of_mem hs
 have:=ydG (h.2 k s (List.getElem?_eq_some_iff.mpr ⟨hk,e⟩)).2
 have:=g.nc k
 omega
theorem ypy {cdv:Value}{A:Around}{outer:List Env}{s0:Shared}{H0:Hp}{E:XK}{Tb:Addr}(T:Txt K mg t)(G_zW:FnOk P w K mg base CX0 9 t.f_zW t.d_zW ["bars"] (yjH t Tb))(G_zE:FnOk P w K mg base CX0 6 t.f_zE t.d_zE ["_law_found","_law_due"] (ymr 5))(G_zt:FnOk P w K mg base CX0 6 t.f_zt t.d_zt ["_law_told"] ynJ)(hr:Room 9 (A.deeper (PyProof.Rows.envOfC "law" (yac (top 53)) s0.heap.objs.size t.f_zY cdv))) :
  ∃ te,PS (ybz CX0 P w K mg base ["_law_script","_law_cells","_law_number","_law_size","_law_voices","_law_other","_law_least","_law_keys","_law_bars","_law_k","_law_key","_law_signs","_law_due","_law_turn","_law_handed","_law_found"] "law" (yac (top 53)) t.f_zY cdv A outer s0 H0 E).nox (yaV 53 10) te∧∀ D (B:Addr) (dv:V) (bvs:List V) (bars:List (Int×List (List Tl))) (n:Nat) o0 o1 o2 o3 o4 o5 o6 o7 o9 o10 o11 o13 o14 o15 (Hs H1:Hp),TG t Tb B dv bvs bars n Hs→Same Hs H1→TK H1 Tb→(∀ o13 o14 o15 (H':Hp),D.nx [o0,o1,o2,o3,o4,o5,o6,o7,some (.ref B),o9,o10,o11,some dv,o13,o14,o15] H')→te D [o0,o1,o2,o3,o4,o5,o6,o7,some (.ref B),o9,o10,o11,some dv,o13,o14,o15] H1:=by
 have hu:=ya2 hr
 refine⟨_,(ybf PassesOwn.never rfl (ybX rfl T.Jj (yaa yag yaf)) (yan (i:=13) sc_zY.nd rfl (Or.inl rfl)) (yah (yas (i:=14) sc_zY.nd rfl (Or.inl rfl) (ybu ybq rfl T.Jf yaR (yaa (pv 8) yaf))) (yah (yas (i:=15) sc_zY.nd rfl (Or.inl rfl) (yaq G_zW (hr.mono (by first | decide | omega)) rfl T.zW.M T.zW.F.kp T.zW.B .nil yaD (yaa (pv 14) yaf))) (yah (ybM (PW.pt (yk6 (yhH (ybj (yaq G_zE (hr.mono (by first | decide | omega)) rfl T.zE.M T.zE.F.kp T.zE.B .nil yaD (yaa (pv 15) (yaa (pv 12) yaf))))) (yhn (yaL (show OpR _ _ (yjl K) from yit hu) (pv 14) (pv 8) (yaH _))))) (yaj (yaG yco)) ya4) (yaj (yaO (yaq G_zt (hr.mono (by first | decide | omega)) rfl T.zt.M T.zt.F.kp T.zt.B .nil yaD (yaa (pv 15) yaf)))))))),λD B dv bvs bars n o0 o1 o2 o3 o4 o5 o6 o7 o9 o10 o11 o13 o14 o15 Hs H1 g s1 tk1 q=>?_⟩
 obtain⟨lS,psS,lnS⟩:=g.st
 walk_at "st"
 refine⟨_,rfl,by decide,by decide,ydv (lo:=0) (n:=Int.toNat 2) (λi σ H'=>(∃ o13 o14 o15,σ=[o0,o1,o2,o3,o4,o5,o6,o7,some (.ref B),o9,o10,o11,some dv,o13,o14,o15])∧Same Hs H'∧TK H' Tb) ?_ ?_ ?_⟩
 ·exact⟨⟨_,_,_,rfl⟩,s1,tk1⟩
 ·rintro i σ H' N hN hi ⟨⟨o13,o14,o15,rfl⟩,sm,tk⟩
  walk_at "st"
  refine⟨B,bvs,rfl,.inl (SqL.of (sm _ _ g.eB)),λh hh=>?_⟩
  have s2:=yae hh (.lst bvs)
  have e2:upd H' h (.lst bvs) h=some (.lst bvs):=yab
  generalize upd H' h (.lst bvs)=H2 at s2 e2 ⊢
  have tk2:=tk.same s2
  obtain⟨pt,eT2,_⟩:=id tk2
  have nh:h≠Tb:=λw=>by rw[w,eT2] at e2;cases e2
  have sm2:=sm.trans s2
  have up:Same Hs (rm H2 Tb):=λb u e=>by rw[yaB (λw=>by rw[w,g.nT] at e;cases e)];exact sm2 _ _ e
  dsimp only
  walk_at "st"
  refine⟨h,bvs,bars,n,rm H2 Tb,rfl,⟨yaK _ _,yeS,tk2,by show rm H2 Tb h=_;rw[yaB nh];exact e2,g.al.imp λ_ _ _ w=>w.same up,g.ne,g.n1,g.n2,g.gb,g.nc,g.lb⟩,λD0 H3 ys st3 tk3 nD hd al3=>?_⟩
  have up3:Same Hs H3:=up.trans (ykU st3)
  have eh3:=st3 _ _ nh e2
  walk_at "st"
  refine⟨.ref D0,dv,.ls ((ydp bars n).map λs=>ykb (ybD s.sns)),rfl,yms (by rw[lS];exact g.n2) psS lnS,?_,g.dv.same up3,λH4 s4=>?_⟩
  ·refine ybB hd ?_
   have:=ydf (f:=λsns:List Sn=>ykb sns) (al3.imp λ_ _ _ w=>w.is)
   rw[List.map_map] at this
   refine Iss.same (λb u e=>?_) this
   exact(yao (ycU e).1).2
  refine ydz ?_
  refine i_F ?_
  walk_at "st"
  refine⟨h,B,bvs,rfl,rfl,SqL.of (s4 _ _ eh3),SqL.of (s4 _ _ (up3 _ _ g.eB)),λv hv=>?_,ydz ?_⟩
  ·obtain⟨k,hk,e⟩:=List.getElem_of_mem hv
   obtain⟨x,ex,bi⟩:=g.al.2 k (by rw[← g.al.1];exact hk)
   rw[List.getElem?_eq_getElem hk,e] at ex
   cases ex
   obtain⟨a,_,_,_,e,_⟩:=bi
   exact⟨a,e⟩
  refine i_F ?_
  walk_at "st"
  have ly:ys.length=n:=by rw[al3.1,List.length_map,lS]
  refine⟨λb=>H2 b=none,D0,ys,rfl,nD,s4 _ _ hd,by rw[ly];exact g.n2,λy hy=>?_,λH5 e5=>?_⟩
  ·obtain⟨k,hk,e⟩:=List.getElem_of_mem hy
   have hk2:k < ((ydp bars n).map λs=>ybD s.sns).length:=by rw[← al3.1];exact hk
   obtain⟨y',ey,ti⟩:=al3.2 k hk2
   rw[List.getElem?_eq_getElem hk,e] at ey
   cases ey
   have hm:=List.getElem_mem hk2
   generalize ((ydp bars n).map λs=>ybD s.sns)[k]=sns at ti hm
   obtain⟨s,hs,rfl⟩:=List.mem_map.mp hm
   have ti4:ToldIs (nt H2 (rm H4 D0)) y (ybD s.sns):=ti.same λb u e=>by
    obtain⟨e,k⟩:=ycU e
    obtain⟨n1,e⟩:=yao e
    have e4:rm H4 D0 b=some u:=by rw[yaB n1];exact s4 _ _ e
    rcases k with k | ⟨w,rfl⟩
    ·rw[ylN k];exact e4
    ·exact ylp e4
   exact yk0 (A:=λb=>H2 b=none) (Hx:=H4) (λb h=>h) ti4 (by have:=ygu s.sns;have:=lnS s hs;omega) λps m wd op cl hm=>by have:=psS s hs ps m wd op cl (yfR hm);omega
  ·walk_at "st"
   refine hN _ _ ⟨⟨_,_,_,rfl⟩,λb u e=>?_,?_⟩
   ·have e2':=sm2 _ _ e
    exact e5.off (λw=>by rw[e2'] at w;cases w) (s4 _ _ (up3 _ _ e))
   ·refine(tk3.same s4).keep λb u e n1 n2=>?_
    rcases e5 b u e with w | ⟨_,xs,_,w,_⟩
    ·exact w
    ·exact absurd w (n1 xs)
 ·rintro σ H' ⟨⟨o13,o14,o15,rfl⟩,_,_⟩
  exact q _ _ _ _
def yjp (K:PySem.W.Frag)(Tb:Addr):Sp:=λvs H Q _=>∃ (a:Addr) (ns:List Int),vs=[.ref a]∧SqL K H a (ns.map V.int)∧TK H Tb∧∀ H',Q (.bl true) H'
theorem yqe {Tb:Addr}(T:Txt K mg t)(G_zH:FnOk P w K mg base CX0 1 t.f_zH t.d_zH ["_law_cell","_law_k"] ycW)(G_zB:FnOk P w K mg base CX0 5 t.f_zB t.d_zB ["_law_cells","_law_size","_law_shift"] yfj)(G_zq:FnOk P w K mg base CX0 4 t.f_zq t.d_zq ["_law_size","_law_count","_law_number"] ydh)(G_zL:FnOk P w K mg base CX0 3 t.f_zL t.d_zL ["_law_told"] (yfl t))(G_zi:FnOk P w K mg base CX0 4 t.f_zi t.d_zi ["self","key","metre","voices"] (yhw t))(G_zC:FnOk P w K mg base CX0 6 t.f_zC t.d_zC ["_law_keys","_law_voices"] yhe)
  (G_zW:FnOk P w K mg base CX0 9 t.f_zW t.d_zW ["bars"] (yjH t Tb)) (G_zE:FnOk P w K mg base CX0 6 t.f_zE t.d_zE ["_law_found","_law_due"] (ymr 5)) (G_zt:FnOk P w K mg base CX0 6 t.f_zt t.d_zt ["_law_told"] ynJ):FnOk P w K mg base CX0 10 t.f_zY t.d_zY ["_law_script"] (yjp K Tb):=by
 refine T.zY.F.ok sc_zY (λvs H Q E h=>?_) (λcdv A outer s H vs Q E hr h=>?_)
 ·obtain⟨_,_,rfl,_⟩:=h;rfl
 have hu:=ya2 hr
 obtain⟨a,ns,rfl,hs,tk,q⟩:=h
 obtain⟨t0,p0,k0⟩:=yqO (P:=P) (w:=w) (base:=base) (cdv:=cdv) (A:=A) (outer:=outer) (s0:=s) (H0:=H) (E:=E) T hr
 obtain⟨t1,p1,k1⟩:=yqT (cdv:=cdv) (A:=A) (outer:=outer) (s0:=s) (H0:=H) (E:=E) T G_zH hr
 obtain⟨t2,p2,k2⟩:=yq4 (P:=P) (w:=w) (base:=base) (cdv:=cdv) (A:=A) (outer:=outer) (s0:=s) (H0:=H) (E:=E) T hr
 obtain⟨t3,p3,k3⟩:=yrD (cdv:=cdv) (A:=A) (outer:=outer) (s0:=s) (H0:=H) (E:=E) T G_zB hr
 obtain⟨t4,p4,k4⟩:=yry (cdv:=cdv) (A:=A) (outer:=outer) (s0:=s) (H0:=H) (E:=E) T G_zB G_zq hr
 obtain⟨t5,p5,k5⟩:=yq6 (cdv:=cdv) (A:=A) (outer:=outer) (s0:=s) (H0:=H) (E:=E) T G_zq hr
 obtain⟨t6,p6,k6⟩:=yrH (cdv:=cdv) (A:=A) (outer:=outer) (s0:=s) (H0:=H) (E:=E) T G_zH hr
 obtain⟨t8,p8,k8⟩:=yrn (cdv:=cdv) (A:=A) (outer:=outer) (s0:=s) (H0:=H) (E:=E) T G_zL G_zi hr
 obtain⟨t10,p10,k10⟩:=ypy (cdv:=cdv) (A:=A) (outer:=outer) (s0:=s) (H0:=H) (E:=E) T G_zW G_zE G_zt hr
 refine⟨_,show PSs _ [yaV 53 0,yaV 53 1,yaV 53 2,yaV 53 3,yaV 53 4,yaV 53 5,yaV 53 6,yaV 53 7,yaV 53 8,yaV 53 9,yaV 53 10,yaV 53 11] _ from yah p0 (yah p1 (yah p2 (yah p3 (yah p4 (yah p5 (yah p6 (yah (yas (i:=8) sc_zY.nd rfl (Or.inl rfl) (yaZ yaf)) (yah p8 (yah (yas (i:=12) sc_zY.nd rfl (Or.inl rfl) (yaq G_zC (hr.mono (by first | decide | omega)) rfl T.zC.M T.zC.F.kp T.zC.B .nil yaD (yaa (pv 7) (yaa (pv 4) yaf)))) (yah p10 (yaj (yaG yco)))))))))))),?_⟩
 refine ybe (k0 _ a ns H _ _ _ _ _ _ _ _ _ _ _ _ _ _ _ hs λc H1 ms s1 ec lm=>ybe (k1 _ c ms _ _ _ _ _ _ _ _ _ _ _ _ _ _ _ H1 ec lm λn H2 s2 n0 n1=>ybe (k2 _ n _ _ _ _ _ _ _ _ _ _ _ _ _ _ _ H2 n0 λz H3 s3 hz=>ybe (k3 _ c ms z _ _ _ _ _ _ _ _ _ _ _ _ _ _ H3 ((s2.trans s3) _ _ ec) lm hz λV0 bs H4 s4 vi gv lb=>ybe (k4 _ c V0 ms n z bs _ _ _ _ _ _ _ _ _ _ _ _ H4 n0 (((s2.trans s3).trans s4) _ _ ec) lm hz vi gv lb λV1 VB N _ _ _ _ _ _ _ _ _ _ _ _ H5 s5 vi5 gv5 N1 N2=>ybe (k5 _ n z V1 VB N _ _ _ _ _ _ _ _ _ _ _ _ _ H5 n0 hz vi5 gv5 N2 λVB6 H6 st6 vi6 gv6=>ybe (k6 _ n V1 VB6 N _ _ _ _ _ _ _ _ _ _ _ _ _ _ H6 vi6 gv6 N2 λkl keys H7 s7 ek nk lk kb=>?_)))))))
 have tk5:=(((((tk.same s1).same s2).same s3).same s4).same s5)
 obtain⟨xs5,eV5,_⟩:=vi5
 have tk6:TK H6 Tb:=tk5.butL eV5 st6
 have tk7:=tk6.same s7
 have vi7:=vi6.same s7
 obtain⟨xs7,eV7,_⟩:=id vi7
 walk_at "st"
 refine⟨Nat.zero_le _,λB hB=>?_⟩
 have s8:=yae hB (.lst [])
 have e8:upd H7 B (.lst []) B=some (.lst []):=yab
 have r8:Same H7 (rm (upd H7 B (.lst [])) B):=λb u e=>by rw[yaB (yad e hB)];exact s8 _ _ e
 generalize upd H7 B (.lst [])=H8 at s8 e8 r8 ⊢
 have tk8:=tk7.same s8
 have nkB:kl≠B:=yad ek hB
 have nVB:B≠V1:=(yad eV7 hB).symm
 refine ybN ?_
 dsimp only
 refine ybe (k8 _ B V1 kl z keys VB6 N _ _ _ _ _ _ _ _ _ _ _ _ H8 e8 (s8 _ _ ek) lk (vi7.same s8) gv6 N2 nVB nkB (vi7.is.same r8) λbvs _ _ _ H9 st9 eB9 al9=>?_)
 have tk9:TK H9 Tb:=tk8.butL e8 st9
 have gb:∀ bs∈VB6,keys.length≤bs.length∧ycZ bs:=λbs hb=>⟨by have:=(gv6.2.2 bs hb).1;omega,(gv6.2.2 bs hb).2.1⟩
 have nc:∀ k,ycf (yaY keys VB6) k≤23:=ykR (keys:=keys) (VB:=VB6) λbs hb=>⟨by rw[(gv6.2.2 bs hb).1,lk],(gv6.2.2 bs hb).2.2⟩
 have c:LGC ⟨kl,keys,.ref V1,VB6,H9⟩:=⟨st9 _ _ nkB (s8 _ _ ek),(vi7.is.same r8).same ((ya8 st9).trans (yaK _ _)),gv6.1,gv6.2.1,gb,kb,nc,by show keys.length≤200;omega⟩
 walk_at "st"
 refine⟨⟨kl,keys,.ref V1,VB6,H9⟩,rfl,rfl,c,λy H10 s10 iy=>?_⟩
 have tk10:=tk9.same s10
 obtain⟨pt,eT,_⟩:=id tk10
 have eB10:=s10 _ _ eB9
 have nBT:B≠Tb:=λw=>by rw[w,eT] at eB10;cases eB10
 refine ybN ?_
 dsimp only
 refine ybe (k10 _ B y bvs (yaY keys VB6) VB6.length _ _ _ _ _ _ _ _ _ _ _ _ _ _ (rm H10 Tb) H10 ⟨yeS,by rw[yaB nBT];exact eB10,al9.imp λ_ _ _ w=>((w.same (yaK _ _)).same s10).offT eT,λw=>?_,gv6.1,gv6.2.1,c.bars,c.nc,by rw[ybE];omega,iy.offT eT⟩ (yaK _ _) tk10 λ_ _ _ H'=>?_)
 ·have:=congrArg List.length w
  rw[ybE,lk] at this
  have:N=0:=this
  omega
 ·walk_at "st"
  exact q _
end
end KG
namespace KG
open PySem L2
section
variable {P:Program} {w:World} {K:PySem.W.Frag} {mg:Str→Option Value} {base:Heap} {t:Ad}
theorem ymX {cc Tb:Addr}(T:Txt K mg t)(TB:Tab K mg base cc Tb):FnOk P w K mg base CX0 10 t.f_zY t.d_zY ["_law_script"] (yjp K Tb):=by
 have G_zU:=ypB (P:=P) (w:=w) (base:=base) T
 have G_zQ:=ypk T G_zU
 have G_zJ:=yoU (P:=P) (w:=w) (base:=base) T
 have G_zN:=ypV T G_zJ G_zQ
 have G_zT:=yoJ (P:=P) (w:=w) T TB
 have G_zM:=ypO T G_zT G_zN
 have G_zr:=ypr (P:=P) (w:=w) (base:=base) T
 have G_zV:=yol T G_zr
 have G_zh:=ypu (P:=P) (w:=w) (base:=base) T
 have G_zc:=yoC (P:=P) (w:=w) (base:=base) T
 have G_zb:=yoN (P:=P) (w:=w) (base:=base) T
 have G_zd:=ypa (P:=P) (w:=w) (base:=base) T
 have G_ze:=ypL T G_zd
 have G_zX:=yoQ (P:=P) (w:=w) (base:=base) T
 have G_zp:=ypl (P:=P) (w:=w) (base:=base) T
 have G_za:=ypv T G_zp G_zX
 have G_zR:=yp6 T G_zh G_zc G_zb
 have G_zi:=yo7 T (G_zR.mono (by decide))
 have G_zj:=ypg (P:=P) (w:=w) (base:=base) T
 have G_zD:=ypb T G_zV G_zj
 have G_zg:=ypd T G_zD G_zM
 have G_zF:=ypp T G_zV G_zp G_ze G_zd
 have G_zW:=ypW T G_zg G_zF G_zj G_za
 have G_zH:=yoy (P:=P) (w:=w) (base:=base) T
 have G_zy:=yod (P:=P) (w:=w) (base:=base) T
 have G_zA:=yov T G_zy
 have G_zG:=ypq (P:=P) (w:=w) (base:=base) T
 have G_zK:=yok T G_zG
 have G_zu:=yoI T G_zy G_zA
 have G_zB:=yp2 T G_zH G_zA G_zK G_zy G_zu
 have G_zq:=ypM T G_zu
 have G_zL:=ypN T G_zh G_zc G_zb
 have G_zP:=yob T G_zy
 have G_zf:=yor (P:=P) (w:=w) (base:=base) T
 have G_zw:=ypI T G_zP
 have G_zn:=yo1 T G_zw G_zf
 have G_zS:=yn9 T G_zP
 have G_zC:=ypU T G_zn G_zS
 exact yqe T G_zH G_zB G_zq (G_zL.mono (by decide)) G_zi G_zC G_zW (ylG T 5) (ymv λA=>ykW A T)
theorem all_mk {l:PySem.W.OpenLaw}{w:World}{K:PySem.W.Frag}{mg:Str→Option Value}{fa:Addr}(cc Tb:Addr)(hfa:mg "law"=some (.ref fa))(ht:PySem.W.tabIn K "in_time"=some (cc,Tb))(hk:K.lookup Tb=none)(h:∃ t,Txt K mg t∧∀ (s:Shared) (v:Value),BindsTo s t.d_zY ⟨[v],[]⟩ [("_law_script",v)]) :
  ∃ (fd:FuncData) (cc T:Addr),PySem.W.tabIn K "in_time"=some (cc,T)∧K.lookup T=none∧(∀ (s:Shared) (v:Value),BindsTo s fd ⟨[v],[]⟩ [("_law_script",v)])∧∀ base:Heap,K.In base→base.Ns mainGlobals mg→PySem.W.CodeHd base cc T→base.BuiltinsAt mg T→mainGlobals≠T→FnOk l.prog w K mg base CX0 10 fa fd ["_law_script"] (yjp K T):=by
 obtain⟨t,T,hb⟩:=h
 have e:=hfa.symm.trans T.zY.M
 cases e
 exact⟨_,cc,Tb,ht,hk,hb,λbase ki gn C B g=>ymX T ⟨ki,gn,ht,C,B,g⟩⟩
theorem walk {l:PySem.W.OpenLaw}{q:Program}{loose:List Str}{XP:(Str→Option Value)→Heap→Prop}{YP:World→Heap→Prop}{d dm:DefRec}{K:Params→PySem.W.Frag}(hn:l.most=some 63)(hdf:d.params.defaults=[])
  (hY:∀ (w:World) (h:Heap),YP w h→(K w.params).In h) (hrec:(PyProof.Rows.recsOf q).find? (λe=>e.name==Str.ofString "in_time")=some dm)
  (F:∀ (w:World) (mg:Str→Option Value) (fa:Addr) (h:Heap),(K w.params).In h→h.Ns mainGlobals mg→mg d.name=some (.ref fa) →
   ∃ (fd:FuncData) (cc T:Addr),PySem.W.tabIn (K w.params) "in_time"=some (cc,T)∧(K w.params).lookup T=none∧(∀ (s:Shared) (u:Value),BindsTo s fd ⟨[u],[]⟩ [("_law_script",u)])∧∀ base:Heap,(K w.params).In base→base.Ns mainGlobals mg→PySem.W.CodeHd base cc T→base.BuiltinsAt mg T→mainGlobals≠T→FnOk l.prog w (K w.params) mg base CX0 10 fa fd ["_law_script"] (yjp (K w.params) T)) :
  PySem.W.WalkO q loose XP YP l.row.toRowW d [] (λf vs=>PySem.call f vs) :=
 L2.walk_ofT (n:=63) (k:=10) (x := "_law_script") (maker := "in_time") (CX:=λ_=>CX0) (sp:=λw T=>yjp (K w.params) T) hn (by decide) hdf ⟨rfl,by decide,by decide⟩ hY hrec F (λ_ H a T ns hl hbits hO hT hS=>⟨a,ns,rfl,hS,⟨#[],hT,trivial,.inl rfl⟩,λ_=>rfl⟩) λ_ _ _ _ _ z=>z
theorem yaS {K:PySem.W.Frag}{h:Heap}{mg:Str→Option Value}{n:Str}{m:Nat}{ps:List Str}{f:Addr}{od an:Option Addr}{sl:Array (Option Value)}{oc kV dc pm cd ct:Value}(X:K.In h)(G:h.Ns mainGlobals mg)
  (a:PySem.W.nsIn K mainGlobals n=some (some (.ref f)):=by (try dsimp only);k_is) (l:K.lookup f=some ⟨oc,od,.func (PySem.W.fnOf n n (yb1 (top m)) (ybH (top m)) (yac (top m)) .none kV dc pm an cd ct),sl⟩:=by (try dsimp only);k_is)
  (c:PySem.W.codeIn K cd n=true:=by (try dsimp only);k_is) (k:PySem.W.keepIn K (.ref f)=true:=by (try dsimp only);k_is)
  (e:∀ (kV dc pm:Value) (an:Option Addr) (cd ct:Value) (us:List Value),us.length=ps.length→bindArgs (PySem.W.fnOf n n (yb1 (top m)) (ybH (top m)) (yac (top m)) .none kV dc pm an cd ct) ⟨us,[]⟩=pure (ps.zip us):=by first | (exact λ_ _ _ _ _ _ us hl=>match us,hl with | [_],_=>rfl) | (exact λ_ _ _ _ _ _ us hl=>match us,hl with | [_,_],_=>rfl) | (exact λ_ _ _ _ _ _ us hl=>match us,hl with | [_,_,_],_=>rfl) | (exact λ_ _ _ _ _ _ us hl=>match us,hl with | [_,_,_,_],_=>rfl) | (exact λ_ _ _ _ _ _ us hl=>match us,hl with | [_,_,_,_,_,_],_=>rfl) | (exact λ_ _ _ _ _ _ us hl=>match us,hl with | [_,_,_,_,_,_,_,_],_=>rfl)) :
  FM K mg n m ps f (PySem.W.fnOf n n (yb1 (top m)) (ybH (top m)) (yac (top m)) .none kV dc pm an cd ct) :=
 ⟨yhp l c k,(yhp l c k).binds e,PySem.W.mg_of X G a⟩
theorem mN {K:PySem.W.Frag}{n q:Str}{m:Nat}{ps:List Str}{f:Addr}{od an:Option Addr}{sl:Array (Option Value)}{oc kV dc pm cd ct:Value}
  (l:K.lookup f=some ⟨oc,od,.func (PySem.W.fnOf n q (yb1 (top m)) (ybH (top m)) (yac (top m)) .none kV dc pm an cd ct),sl⟩:=by (try dsimp only);k_is)
  (c:PySem.W.codeIn K cd q=true:=by (try dsimp only);k_is) (k:PySem.W.keepIn K (.ref f)=true:=by (try dsimp only);k_is)
  (e:∀ (kV dc pm:Value) (an:Option Addr) (cd ct:Value) (us:List Value),us.length=ps.length→bindArgs (PySem.W.fnOf n q (yb1 (top m)) (ybH (top m)) (yac (top m)) .none kV dc pm an cd ct) ⟨us,[]⟩=pure (ps.zip us):=by first | (exact λ_ _ _ _ _ _ us hl=>match us,hl with | [_],_=>rfl) | (exact λ_ _ _ _ _ _ us hl=>match us,hl with | [_,_],_=>rfl) | (exact λ_ _ _ _ _ _ us hl=>match us,hl with | [_,_,_],_=>rfl) | (exact λ_ _ _ _ _ _ us hl=>match us,hl with | [_,_,_,_],_=>rfl) | (exact λ_ _ _ _ _ _ us hl=>match us,hl with | [_,_,_,_,_,_],_=>rfl) | (exact λ_ _ _ _ _ _ us hl=>match us,hl with | [_,_,_,_,_,_,_,_],_=>rfl)) :
  FN K n q m ps f (PySem.W.fnOf n q (yb1 (top m)) (ybH (top m)) (yac (top m)) .none kV dc pm an cd ct) :=
 ⟨yhp l c k,(yhp l c k).binds e⟩
section
variable {K:PySem.W.Frag} {h:Heap} {mg:Str→Option Value} {n:Str} {v:Value} {f C:Addr}
theorem mV (X:K.In h)(G:h.Ns mainGlobals mg)(a:PySem.W.nsIn K mainGlobals n=some (some v):=by (try dsimp only);k_is):mg n=some v:=PySem.W.mg_of X G a
theorem mZ (X:K.In h)(G:h.Ns mainGlobals mg)(a:PySem.W.nsIn K mainGlobals n=some none:=by (try dsimp only);k_is):mg n=none:=PySem.W.mg_none_of X G a
theorem mK (a:PySem.W.makesIn K C=true:=by (try dsimp only);k_is)(b:PySem.W.findIn K (.ref C) "__init__"=some (some (.ref f)):=by (try dsimp only);k_is)(c:PySem.W.isFn K (.ref f)=true:=by (try dsimp only);k_is)(d:PySem.W.keepIn K (.ref C)=true:=by (try dsimp only);k_is):Mk K C f:=⟨a,b,c,d⟩
theorem mM (a:PySem.W.findIn K (.ref C) n=some (some (.ref f)):=by (try dsimp only);k_is)(b:PySem.W.isFn K (.ref f)=true:=by (try dsimp only);k_is)(c:PySem.W.keepIn K (.ref f)=true:=by (try dsimp only);k_is):ykc K C n f:=⟨a,b,c⟩
theorem mS (a:PySem.W.specialIn K (.ref C) "__getattribute__"=some (some (.builtin "type.__getattribute__")):=by (try dsimp only);k_is)(b:PySem.W.readsIn K C (.type "type")=true:=by (try dsimp only);k_is)(c:PySem.W.findCls K (.ref C) (.type "type") n=some (.val (.ref f)):=by (try dsimp only);k_is)(d:PySem.W.keepIn K (.ref f)=true:=by (try dsimp only);k_is):ymH K C n f:=⟨a,b,c,rfl,d⟩
theorem mL (a:PySem.W.plainGet K C Str.empty=true:=by (try dsimp only);k_is)(b:PySem.W.hasDictIn K C=true:=by (try dsimp only);k_is)(c:PySem.W.plainOver K C=true:=by (try dsimp only);k_is)(d:PySem.W.findIn K (.ref C) "__setattr__"=some (some (.builtin "object.__setattr__")):=by (try dsimp only);k_is):Cls K C:=⟨a,b,c,d⟩
theorem mO (a:PySem.W.findIn K (.ref C) "__class__"=some (some (.builtin "object.__class__")):=by (try dsimp only);k_is)(b:PySem.W.specialIn K (.builtin "object.__class__") "__get__"=some (some (.builtin "getset_descriptor.__get__")):=by (try dsimp only);k_is)(c:PySem.W.takesIn K (.builtin "object.__class__")=some true:=by (try dsimp only);k_is)(d:PySem.W.mroIn K C (.type "object")=some true:=by (try dsimp only);k_is):ClsObj K C:=⟨a,b,c,d⟩
theorem mA (a:PySem.W.findIn K (.ref C) n=some none:=by (try dsimp only);k_is):NoAttr K C n:=a
theorem mI {D:Addr}{b:Bool}(a:PySem.W.kitOne K (.ref C) (.ref D)=some b:=by (try dsimp only);kit_is):PySem.W.kitOne K (.ref C) (.ref D)=some b:=a
theorem mQ {xs:List V}{i:List Value}{k:Nat}(l:K.lookup f=some ⟨.type "tuple",none,.seq i.toArray k,#[]⟩:=by (try dsimp only);k_is)(v:yiZ xs i=true:=by rfl)(y:i.length≤1000:=by decide):TupIn K f xs:=ylk l v (by simpa using y)
end
end
section
open PySem PySem.W PyProof.Rows
theorem txx {w:World}{mg:Str→Option Value}{h:Heap}(X:(pre.heap_1 w.params).In h)(G:h.Ns mainGlobals mg):∃ t,Txt (pre.heap_1 w.params) mg t∧∀ (s:Shared) (v:Value),BindsTo s t.d_zY ⟨[v],[]⟩ [("_law_script",v)] :=
 ⟨⟨_,_,_,_,_,_,_,_,_,_,_,_,_,_,_,_,_,_,_,_,_,_,_,_,_,_,_,_,_,_,_,_,_,_,_,_,_,_,_,_,_,_,_,_,_,_,_,_,_,_,_,_,_,_,_,_,_,_,_,_,_,_,_,_,_,_,_,_,_,_,_,_,_,_,_,_,_,_,_,_,_,_,_,_,_,_,_,_,_,_,_,_,_,_,_,_,_⟩,⟨mV X G,mV X G,mV X G,mV X G,mV X G,mV X G,mV X G,mK,mK,mK,mK,mK,mK,mM,mM,mM,mM,mM,mS,yaS X G,yaS X G,yaS X G,yaS X G,yaS X G,yaS X G,yaS X G,mN,mN,mN,mN,mN,mN,mN,mN,mN,mN,mN,yaS X G,yaS X G,yaS X G,yaS X G,yaS X G,yaS X G,yaS X G,yaS X G,yaS X G,yaS X G,yaS X G,yaS X G,yaS X G,yaS X G,yaS X G,yaS X G,yaS X G,yaS X G,yaS X G,yaS X G,yaS X G,yaS X G,yaS X G,yaS X G,yaS X G,yaS X G,mZ X G,mZ X G,mZ X G,mZ X G,mZ X G,mZ X G,mZ X G,mZ X G,mZ X G,mZ X G,mZ X G,mZ X G,mV X G,mQ,⟨_,mV X G⟩,mV X G,mQ,⟨_,mV X G⟩,mL,mO,mA,mA,mA,mA,mA,mA,mA,mI,mI,mI,mL,mO,mA,mI,mI,mI,mL,mO,mA,mI,mI,mI,mL,mO,mA,mI,mI,mI,mL,mO,mA,mA,mA,mA,mA,mI,mI,mI,mL,mO,mA,mA,mA,mI,mI,mI⟩,λs v=>.of_eq rfl⟩
end
end KG
open PySem PySem.W PyProof.Rows
set_option maxRecDepth 100000 in
set_option maxHeartbeats 0 in
theorem PySem.Challenge.cw_barwright_k33_bars_by_hand_holds : PySem.Challenge.rw_barwright_k33_bars_by_hand.Holds := by
 refine KG.headx ?_
 k_fill
 refine KG.walk (l:=PySem.Challenge.rw_barwright_k33_bars_by_hand) (K:=KG.pre.heap_1) rfl KG.dx_dfl (λw h Y=>PySem.W.km_in_of Y) KG.mx_is ?F
 case F =>
  intro w mg fa h KX G hmg
  rw[KG.dx_name] at hmg
  exact KG.all_mk 217 213 hmg (by kernel_rfl) (by kernel_rfl) (KG.txx KX G)
