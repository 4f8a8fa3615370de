import PyProof.Rows.All
import Wide.All
import OpenK.AllK
import Wide.FinOn
import Lean
import PyProof.EqAt
import PyProof.EqKinds
import PyProof.TupleCall
import PyProof.NeKinds
import PyProof.CompFree
import PyProof.EnumMake
import OpenK.KCls
import KE.KNest
import PyProof.SumWalk
import PyProof.WalksMore
import PyProof.ZipIter
import PyProof.DictWalks
import PyProof.DictKinds
import PyProof.DictStraight
import KE.KSortKey
import PyProof.Rows.CallKwBuiltin
import PyProof.Rows.Range3
import KE.KRevIter
import PyProof.Rows.MinMaxN
import PyProof.DictDisplay
import KE.KLam
import KE.KMinKey
import PyProof.Draws
import PyProof.TupleIter
import PyProof.StrWalks
import KE.KIntText
import PyProof.Rows.StrNews2
import PyProof.StrCalls6
import PyProof.StrLawsIn
import PyProof.StrBlockL
import KE.IntTextLaws
import KE.KSortAsk
import KE.KSortTup
import PyProof.ListRange
import PyProof.CollectIter
import PyProof.RaisesMany
import OpenK.KOwn
import KE.KIsAll
import PyProof.ExcArgsOwn
import PyProof.ExcClass2
import KE.KTryMore
import KE.KRevSl
import PyProof.AutoSeq1
import PyProof.Rows.SumAny
import KE.IntBitsLaws
import KE.RegKIsAll
import PySem.Challenge.RW_barwright_k09_tunes_made_or_refused
set_option bootstrap.genMatcherCode false
set_option compiler.extract_closed false
noncomputable section
set_option Elab.async false
set_option linter.all false
set_option maxRecDepth 100000
set_option maxHeartbeats 4000000
def qM:=@List.length_map
def qG:=@List.getElem?_eq_getElem
def qA:=@List.length_append
def qC:=@List.length_cons
def qS:=@List.length_singleton
def qZ:=@List.size_toArray
theorem qN:¬false=true:=Bool.false_ne_true
theorem qR (n:Nat):n<=n:=Nat.le_refl n
theorem qE {α:Type u}{l:List α}{i:Nat}{a:α}(h:l[i]?=some a):∃ h:i<l.length,l[i]=a:=List.getElem?_eq_some_iff.mp h
abbrev qF:=PySem.W.Frag
def qT:=@List.length_take
def qm:=@List.getElem?_map
def qk:=@List.not_mem_nil
def qP:=@List.map_append
noncomputable abbrev rP:PySem.Program:=PySem.Challenge.rw_barwright_k09_tunes_made_or_refused.row.prog
namespace KW
section
open PySem PySem.W PyProof.Rows
noncomputable def lR (p:Program)(w:World)(N:Nat):Option Shared :=
 ((Fast.tw10274390034422433532 Fast.tw14364793385576792824 (opening p) w N (Fast.tw1435165496053646825 (opening p)).fst (Fast.tw1435165496053646825 (opening p)).snd).bind (Fast.tw14289696077712309145 p)).bind
  λs₀=>match s₀.heap.isNs mainGlobals&&s₀.gens.size==0 with
  | true=>(Fast.tw14082659384304107361 Fast.tw14364793385576792824 p w s₀.heap.objs.size (s₀.heap.nsMap mainGlobals (Str.ofString "__annotations__")) N s₀ (topStub p)).bind
    λs₁=>match staticsOk (importedModules p.main.body) s₀.heap s₁.heap&&namesBound p s₁.heap&&gensDone s₁&&laidKept s₀.heap s₁.heap with
    | true=>some s₁
    | false=>none
  | false=>none
noncomputable abbrev V1 (p q:Program)(loose:List Str)(Xt:Shared->Bool):=Fast.tw4187177175401517315 q loose (importedModules p.main.body) Xt true
theorem Wt {p q:Program}{loose:List Str}{Xt:Shared->Bool}{α:Type}{Yf:Shared->α}{a:α}{N:Nat}{w:World}{s:Shared}(hr:lR p w N=some s/\True)
  (hb1:(V1 p q loose Xt s).1=PyProof.Rows.expectedOf q/\True)
  (h2:((V1 p q loose Xt s).2.1,(V1 p q loose Xt s).2.2.2.2.1,(V1 p q loose Xt s).2.2.2.2.2.2.1,(V1 p q loose Xt s).2.2.2.2.2.2.2.2)=(bltViewBooted,pinGoodD (PyProof.Rows.drecsOf q),PyProof.Rows.plainGoodD q loose,clsGoodW q loose)/\True)
  (h3:(V1 p q loose Xt s).2.2.1=true/\True) (h4:(V1 p q loose Xt s).2.2.2.1=true/\True) (h5:(V1 p q loose Xt s).2.2.2.2.2.1=PyProof.Rows.plainGoodE q (looseW q loose)/\True) (h6:(V1 p q loose Xt s).2.2.2.2.2.2.2.1=wideGood q/\True) (h7:Yf s=a/\True) :
  (openEnds treeTable p w N).map (λs=>(openSeen q loose (importedModules p.main.body) Xt true s,Yf s))=some (openGood q loose,a):=by
 unfold openEnds fencedOpening topFrom;rw[Fast.te14364793385576792824,Fast.te10274390034422433532,Fast.te4187177175401517315,Fast.te14082659384304107361,Fast.te1435165496053646825,Fast.te14289696077712309145];show(lR p w N).map _=_
 rw[hr.1];have h2:=h2.1;simp only[Option.map_some,Option.some.injEq,Prod.mk.injEq] at h2 |-;exact⟨Prod.ext hb1.1 (Prod.ext h2.1 (Prod.ext h3.1 (Prod.ext h4.1 (Prod.ext h2.2.1 (Prod.ext h5.1 (Prod.ext h2.2.2.1 (Prod.ext h6.1 h2.2.2.2))))))),h7.1⟩
theorem yoO {p:Program}{w:World}{N M n:Nat}{ann:Option Value}{s₀ s:Shared}(h0:((Fast.tw10274390034422433532 Fast.tw14364793385576792824 (opening p) w N (Fast.tw1435165496053646825 (opening p)).fst (Fast.tw1435165496053646825 (opening p)).snd).bind (Fast.tw14289696077712309145 p))=some s₀/\True)
  (hb1:(s₀.heap.isNs mainGlobals&&s₀.gens.size==0,s₀.heap.objs.size,s₀.heap.nsMap mainGlobals (Str.ofString "__annotations__"))=(true,n,ann)/\True) (h2:topRun treeTable p w n ann M s₀ (topStub p)=some s) (le:M<=N)
  (h3:(staticsOk (importedModules p.main.body) s₀.heap s.heap&&namesBound p s.heap&&gensDone s&&laidKept s₀.heap s.heap)=true/\True):lR p w N=some s/\True:=by
 obtain⟨z1,z2,z3⟩:_/\_/\_:=by simpa only[Prod.mk.injEq] using hb1.1
 have r:=topRun_mono (N - M) _ _ _ _ h2;rw[show M+(N - M)=N by omega,Fast.te14364793385576792824,Fast.te14082659384304107361] at r;refine⟨?_,trivial⟩;unfold lR;rw[h0.1];show(match s₀.heap.isNs mainGlobals&&s₀.gens.size==0 with | true=>_ | false=>_)=_
 rw[z1];show(Fast.tw14082659384304107361 Fast.tw14364793385576792824 p w s₀.heap.objs.size (s₀.heap.nsMap mainGlobals (Str.ofString "__annotations__")) N s₀ (topStub p)).bind _=_
 rw[z2,z3,r];show(match staticsOk (importedModules p.main.body) s₀.heap s.heap&&namesBound p s.heap&&gensDone s&&laidKept s₀.heap s.heap with | true=>some s | false=>none)=_
 rw[h3.1]
theorem Wr {l:OpenLaw}(ok:Fast.tw9446332074065402090 l=true/\True)(h:l.row.wellSaid=true->l.row.Holds):l.Holds:=by
 refine holds_law ?_ h;rw[Fast.te9446332074065402090];exact ok.1
def bs (i:Nat):Stmt:=PySem.Challenge.pw_barwright_k09_tunes_made_or_refused.main.body.getD i (.Pass ⟨0,0,0,0⟩)
def cs (i j:Nat):Stmt:=match bs i with
 | .ClassDef _ _ _ b _ _ _ _ _ _ _=>b.getD j (.Pass ⟨0,0,0,0⟩)
 | s=>s
def aO (s:Stmt):Arguments:=match s with
 | .FunctionDef _ a _ _ _ _ _ _ _ _=>a
 | _=>⟨[],[],none,[],[],none,[]⟩
def bO (s:Stmt):List Stmt:=match s with
 | .FunctionDef _ _ b _ _ _ _ _ _ _=>b
 | _=>[]
def sO (s:Stmt):Scope:=match s with
 | .FunctionDef _ _ _ _ _ _ sc _ _ _=>sc
 | _=>{ kind:=.function,names:=[],isGenerator:=false,isCoroutine:=false }
def fd (n q:Str)(st:Stmt)(g:Addr)(pm cd:Value):FuncData:=⟨n,q,aO st,.stmts (bO st),sO st,g,[],.none,.none,.none,pm,none,cd,.none,0⟩
def de (P:Params)(k:Str)(t:Tok)(v:Value):DictEntry:=⟨PyData.keyHash P k,.str k t,v⟩
def ut (l:List Value):Obj:=⟨.type "tuple",none,.seq ⟨l⟩ 0,#[]⟩
def uf (l:List Value):Obj:=⟨.none,none,.fields ⟨l⟩,#[]⟩
def Y5 (n q:Str)(s:Stmt):Obj:=⟨.none,none,.func (fd n q s 0 .none .none),#[]⟩
def uh (n:Str)(s:Stmt):Obj:=Y5 n n s
def uu (n q:Str)(s:Stmt)(m:Str)(t:Tok)(c:Addr):Obj:=⟨.type "function",none,.func (fd n q s 3 (.str m t) (.ref c)),#[]⟩
def uc (n q:Str)(t:Tok)(l a:Int)(r:Addr)(x y:Value)(h:Addr)(z:Tok):Obj:=⟨.type "code",none,.fields #[.str n t,.str q (t+1),.str "/claim/cut.py" (t+2),.int l 0,.int a 0,.int 0 0,.int 0 0,.int 3 0,.ref r,.bool true,.int 181 0,.ref (r+1),.none,x,y,.ref h,.int z 0,.int l 0,.str "/claim/cut.py" (z+1)],#[]⟩
def pa (l:List Obj)(c:List (Nat×Obj)):List Obj:=c.foldl (λl x=>l.set x.1 x.2) l
def nG (s:Stmt):Str:=match s with
 | .FunctionDef n _ _ _ _ _ _ _ _ _=>n
 | _ => ""
def m0:Str := "__main__"
def m1:Str := "barwright.errors"
def m2:Str := "barwright.words"
def m3:Str := "barwright.pitches"
def m4:Str := "barwright.keys"
def m5:Str := "barwright.metres"
def m6:Str := "barwright.tunes"
def m7:Str := "law_barwright_k09_tunes_made_or_refused"
def ua (i:Nat)(m:Str)(t:Tok)(c:Addr):Obj:=uu (nG (bs i)) (nG (bs i)) (bs i) m t c
def ui (i:Nat):Obj:=uh (nG (bs i)) (bs i)
def rf (n:Nat):Value:=cond (n==0) .none (.ref n)
def ud (i:Nat)(t:Tok)(l a:Int)(r:Addr)(x y:Nat)(h:Addr)(z:Tok):Obj:=uc (nG (bs i)) (nG (bs i)) t l a r (rf x) (rf y) h z
def ub (a:String)(v:Value):Obj:=⟨.type "builtin_function_or_method",none,.fields #[.builtin a,v],#[]⟩
def up:Obj:=ub "type.__prepare__" (.type "type")
def uq (r:Addr):Obj:=ub "object.__init_subclass__" (.ref r)
def us (r:Addr):Obj:=⟨.type "super",none,.fields #[.ref r,.ref r,.ref r],#[]⟩
def ug (t:Tok)(r:Addr):Obj:=⟨.type "getset_descriptor",none,.fields #[.str "__weakref__" t,.ref r,.builtin "ExceptionGroup.__weakref__",.none],#[]⟩
def uv (c d:Addr)(m:Str)(t:Tok):Obj:=⟨.type "frame",none,.plain,#[some (.ref c),some (.ref 3),some (.ref d),none,some (.str m t),none,some (.ref 0)]⟩
def uk (n:Str)(t:Tok)(l:Int)(r:Addr)(q:Int):Obj:=⟨.type "code",none,.fields #[.str n t,.str n (t+1),.str "/claim/cut.py" (t+2),.int l 0,.int 0 0,.int 0 0,.int 0 0,.int 0 0,.ref r,.bool false,.int q 0,.ref (r+1),.none,.none,.none,.none,.int ((t+3:Nat):Int) 0,.int l 0,.str "/claim/cut.py" (t+4)],#[]⟩
def dd (l:List DictEntry)(n:Nat):Obj:=⟨.type "dict",none,.dict ⟨l⟩ n,#[]⟩
def db (P:Params)(n:Nat)(l:List String):List DictEntry:=(l.zipIdx n).map λx=>de P (Str.ofString x.1) x.2 (.builtin x.1)
def dt (P:Params)(n:Nat)(l:List String):List DictEntry:=(l.zipIdx n).map λx=>de P (Str.ofString x.1) x.2 (.type x.1)
def dr (P:Params)(l:List (Str×Tok×Nat)):List DictEntry:=l.map λx=>de P x.1 x.2.1 (.ref x.2.2)
def di (P:Params)(l:List (Str×Tok×Int)):List DictEntry:=l.map λx=>de P x.1 x.2.1 (.int x.2.2 (x.2.1 - 1))
def uw (k:Int)(l:List (Int×Nat)):Obj:=uf (l.flatMap λx=>[.int x.1 0,.int k 0,.ref x.2])
def u0:Obj:=ut []
def u1:Obj:=uf []
noncomputable def h0 (P:Params):List Obj:=[
 dd ([de P "__name__" 1 (.str "builtins" 160),de P "__doc__" 2 (.builtin "builtins.__doc__:str#opaque"),de P "__package__" 3 (.builtin "builtins.__package__:str#opaque"),de P "__loader__" 4 (.builtin "builtins.__loader__:shared#opaque"),de P "__spec__" 5 (.builtin "builtins.__spec__#opaque")]++db P 6 ["__build_class__","__import__","abs","all","any","ascii","bin","breakpoint","callable","chr","compile","delattr","dir","divmod","eval","exec","format","getattr","globals","hasattr","hash","hex","id","input","isinstance","issubclass","iter","aiter","len","locals","max","min","next","anext","oct","ord","pow","print","repr","round","setattr","sorted","sum","vars"]++[de P "None" 50 (.none),de P "Ellipsis" 51 (.ellipsis),de P "NotImplemented" 52 (.notImplemented),de P "False" 53 (.bool false),de P "True" 54 (.bool true)]++dt P 55 ["bool","memoryview","bytearray","bytes","classmethod","complex","dict","enumerate","filter","float","frozenset","property","int","list","map","object","range","reversed","set","slice","staticmethod","str","super","tuple","type","zip"]++[de P "__debug__" 81 (.bool true)]++dt P 82 ["BaseException","BaseExceptionGroup","Exception","GeneratorExit","KeyboardInterrupt","SystemExit","ArithmeticError","AssertionError","AttributeError","BufferError","EOFError","ImportError","LookupError","MemoryError","NameError","OSError","ReferenceError","RuntimeError","StopAsyncIteration","StopIteration","SyntaxError","SystemError","TypeError","ValueError","Warning","FloatingPointError","OverflowError","ZeroDivisionError","BytesWarning","DeprecationWarning","EncodingWarning","FutureWarning","ImportWarning","PendingDeprecationWarning","ResourceWarning","RuntimeWarning","SyntaxWarning","UnicodeWarning","UserWarning","BlockingIOError","ChildProcessError","ConnectionError","FileExistsError","FileNotFoundError","InterruptedError","IsADirectoryError","NotADirectoryError","PermissionError","ProcessLookupError","TimeoutError","IndentationError","_IncompleteInputError","IndexError","KeyError","ModuleNotFoundError","NotImplementedError","PythonFinalizationError","RecursionError","UnboundLocalError","UnicodeError","BrokenPipeError","ConnectionAbortedError","ConnectionRefusedError","ConnectionResetError","TabError","UnicodeDecodeError","UnicodeEncodeError","UnicodeTranslateError","ExceptionGroup"]++[de P "EnvironmentError" 151 (.type "OSError"),de P "IOError" 152 (.type "OSError"),de P "open" 153 (.builtin "open"),de P "quit" 154 (.builtin "builtins.quit#opaque"),de P "exit" 155 (.builtin "builtins.exit#opaque"),de P "copyright" 156 (.builtin "builtins.copyright#opaque"),de P "credits" 157 (.builtin "builtins.credits#opaque"),de P "license" 158 (.builtin "builtins.license#opaque"),de P "help" 159 (.builtin "builtins.help#opaque")]) 159,
 dd (dr P [("builtins",162,4),("__main__",163,5)]) 2,⟨.none,none,(.dict #[] 0),#[]⟩,
 dd ([de P "__name__" 165 (.str "__main__" 164),de P "__doc__" 166 (.none),de P "__package__" 167 (.none),de P "__loader__" 168 (.builtin "__main__.__loader__#opaque"),de P "__spec__" 169 (.none)]++dr P [("__annotations__",170,6),("__builtins__",171,4)]++[de P "__file__" 173 (.str "/claim/cut.py" 172),de P "__cached__" 174 (.none)]) 9,⟨.type "module",(some 0),.plain,#[]⟩,
 ⟨.type "module",(some 3),.plain,#[]⟩,dd ([]) 0,u0,u1,uk "<module>" 176 1 7 175,uv 9 3 m0 164]
noncomputable def ha (P:Params):List Obj:=pa (h0 P) []++[
 u0,u1,uk "<module>" 182 1 11 181,uv 13 3 m0 164]
noncomputable def hb1 (P:Params):List Obj:=pa (ha P) [(3,dd ([de P "__name__" 165 (.str "barwright.tunes" 489),de P "__doc__" 166 (.none),de P "__package__" 167 (.none),de P "__loader__" 168 (.builtin "__main__.__loader__#opaque"),de P "__spec__" 169 (.none)]++dr P [("__annotations__",170,6),("__builtins__",171,4)]++[de P "__file__" 173 (.str "/claim/cut.py" 172),de P "__cached__" 174 (.none)]++dr P [("TuneError",206,24),("BadRow",231,44),("BadTune",247,56),("OutOfReach",263,68),("TooFine",290,87),("BadStretch",306,99),("BadPage",331,118),("BadRoll",347,130),("OutOfPlace",363,142),("BadWidth",379,154)]++[de P "SYLLABLE_SIGNS" 383 (.str "abcdefghijklmnopqrstuvwxyzABCDEFGHIJKLMNOPQRSTUVWXYZ-" 382),de P "MOST_SYLLABLE_SIGNS" 385 (.int 12 384)]++dr P [("is_whole",392,163),("is_among",401,170),("do_rise",407,175),("has_only",413,180),("is_syllable",420,187),("is_pitch",429,194),("line",436,201)]++[de P "MOST_SIGNS" 440 (.int 7 439),de P "is_key" 447 (.ref 208)]++di P [("GRAINS",449,96),("MOST_TOP",453,12)]++[de P "BOTTOMS" 457 (.ref 209),de P "MOST_BAR_GRAINS" 459 (.int 192 458)]++dr P [("is_metre",468,216),("are_groups",474,221),("unit_grains",481,228),("bar_grains",488,235)]++di P [("LEAST_GRAINS",492,2),("MOST_REST_GRAINS",494,4608)]) 40),(12,uf [.int 2 0,.int 0 0,.ref 20,.int 4 0,.int 0 0,.ref 33,.int 8 0,.int 0 0,.ref 52,.int 10 0,.int 0 0,.ref 64,.int 12 0,.int 0 0,.ref 76,.int 17 0,.int 0 0,.ref 95,.int 19 0,.int 0 0,.ref 107,.int 23 0,.int 0 0,.ref 126,.int 25 0,.int 0 0,.ref 138,.int 27 0,.int 0 0,.ref 150,.int 32 0,.int 0 0,.ref 162,.int 34 0,.int 0 0,.ref 169,.int 36 0,.int 0 0,.ref 174,.int 38 0,.int 0 0,.ref 179,.int 40 0,.int 0 0,.ref 186,.int 45 0,.int 0 0,.ref 193,.int 49 0,.int 0 0,.ref 200,.int 53 0,.int 0 0,.ref 207,.int 60 0,.int 0 0,.ref 215,.int 68 0,.int 0 0,.ref 220,.int 74 0,.int 0 0,.ref 227,.int 76 0,.int 0 0,.ref 234])]++[
 ut [.type "ValueError"],up,dd ([de P "__module__" 196 (.str "barwright.errors" 187),de P "__qualname__" 198 (.str "TuneError" 197),de P "__firstlineno__" 200 (.int 2 199),de P "__static_attributes__" 201 (.ref 22)]) 4,u0,u1,uk "TuneError" 191 2 18 181,uv 20 17 m1 187,u0,
 dd ([de P "__module__" 196 (.str "barwright.errors" 187),de P "__firstlineno__" 200 (.int 2 199)]++dr P [("__static_attributes__",201,22),("__weakref__",203,25)]++[de P "__doc__" 204 (.none)]) 3,
 ⟨.type "type",none,(.cls ⟨"TuneError",[.type "ValueError"],[.ref 24,.type "ValueError",.type "Exception",.type "BaseException",.type "object"],23,"TuneError",true,[],[.ref 44,.ref 56,.ref 68,.ref 87,.ref 99,.ref 118,.ref 130,.ref 142,.ref 154],false,none,false⟩),#[(some (.ref 15)),none,(some (.str "TuneError" 189)),(some (.str "TuneError" 197)),(some (.builtin "ValueError.__new__")),(some (.bool true))]⟩,
 ug 202 24,us 24,uq 24,ut [.ref 24],up,dd ([de P "__module__" 214 (.str "barwright.errors" 187),de P "__qualname__" 216 (.str "BadRow" 215),de P "__firstlineno__" 218 (.int 4 217)]++dr P [("__init__",226,41),("__static_attributes__",228,42)]) 5,u0,uf [.int 6 0,.int 4 0,.ref 40],uk "BadRow" 209 4 31 181,uv 33 30 m1 187,u0,u1,ut [.str "self" 222,.str "row" 223],u0,
 Y5 "__init__" "BadRow.__init__" (cs 2 0),uc "__init__" "BadRow.__init__" 219 6 2 35 (.ref 37) (.ref 38) 39 224,uu "__init__" "BadRow.__init__" (cs 2 0) m1 187 40,ut [.str "row" 227],dd ([de P "__module__" 214 (.str "barwright.errors" 187),de P "__firstlineno__" 218 (.int 4 217)]++dr P [("__init__",226,41),("__static_attributes__",228,42)]++[de P "__doc__" 229 (.none)]) 2,
 ⟨.type "type",none,(.cls ⟨"BadRow",[.ref 24],[.ref 44,.ref 24,.type "ValueError",.type "Exception",.type "BaseException",.type "object"],43,"BadRow",true,[],[],false,none,false⟩),#[(some (.ref 28)),none,(some (.str "BadRow" 207)),(some (.str "BadRow" 215)),(some (.builtin "ValueError.__new__")),(some (.bool true))]⟩,us 44,uq 44,ut [.ref 24],up,
 dd ([de P "__module__" 239 (.str "barwright.errors" 187),de P "__qualname__" 241 (.str "BadTune" 240),de P "__firstlineno__" 243 (.int 8 242),de P "__static_attributes__" 244 (.ref 54)]) 4,u0,u1,uk "BadTune" 234 8 50 181,uv 52 49 m1 187,u0,
 dd ([de P "__module__" 239 (.str "barwright.errors" 187),de P "__firstlineno__" 243 (.int 8 242),de P "__static_attributes__" 244 (.ref 54),de P "__doc__" 245 (.none)]) 2,
 ⟨.type "type",none,(.cls ⟨"BadTune",[.ref 24],[.ref 56,.ref 24,.type "ValueError",.type "Exception",.type "BaseException",.type "object"],55,"BadTune",true,[],[],false,none,false⟩),#[(some (.ref 47)),none,(some (.str "BadTune" 232)),(some (.str "BadTune" 240)),(some (.builtin "ValueError.__new__")),(some (.bool true))]⟩,us 56,uq 56,ut [.ref 24],up,
 dd ([de P "__module__" 255 (.str "barwright.errors" 187),de P "__qualname__" 257 (.str "OutOfReach" 256),de P "__firstlineno__" 259 (.int 10 258),de P "__static_attributes__" 260 (.ref 66)]) 4,u0,u1,uk "OutOfReach" 250 10 62 181,uv 64 61 m1 187,u0,
 dd ([de P "__module__" 255 (.str "barwright.errors" 187),de P "__firstlineno__" 259 (.int 10 258),de P "__static_attributes__" 260 (.ref 66),de P "__doc__" 261 (.none)]) 2,
 ⟨.type "type",none,(.cls ⟨"OutOfReach",[.ref 24],[.ref 68,.ref 24,.type "ValueError",.type "Exception",.type "BaseException",.type "object"],67,"OutOfReach",true,[],[],false,none,false⟩),#[(some (.ref 59)),none,(some (.str "OutOfReach" 248)),(some (.str "OutOfReach" 256)),(some (.builtin "ValueError.__new__")),(some (.bool true))]⟩,us 68,uq 68,ut [.ref 24],up,
 dd ([de P "__module__" 271 (.str "barwright.errors" 187),de P "__qualname__" 273 (.str "TooFine" 272),de P "__firstlineno__" 275 (.int 12 274)]++dr P [("__init__",284,84),("__static_attributes__",287,85)]) 5,u0,uf [.int 14 0,.int 4 0,.ref 83],uk "TooFine" 266 12 74 181,uv 76 73 m1 187,u0,u1,ut [.str "self" 279,.str "bar" 280,.str "voice" 281],u0,Y5 "__init__" "TooFine.__init__" (cs 5 0),
 uc "__init__" "TooFine.__init__" 276 14 3 78 (.ref 80) (.ref 81) 82 282,uu "__init__" "TooFine.__init__" (cs 5 0) m1 187 83,ut [.str "bar" 285,.str "voice" 286],dd ([de P "__module__" 271 (.str "barwright.errors" 187),de P "__firstlineno__" 275 (.int 12 274)]++dr P [("__init__",284,84),("__static_attributes__",287,85)]++[de P "__doc__" 288 (.none)]) 2,
 ⟨.type "type",none,(.cls ⟨"TooFine",[.ref 24],[.ref 87,.ref 24,.type "ValueError",.type "Exception",.type "BaseException",.type "object"],86,"TooFine",true,[],[],false,none,false⟩),#[(some (.ref 71)),none,(some (.str "TooFine" 264)),(some (.str "TooFine" 272)),(some (.builtin "ValueError.__new__")),(some (.bool true))]⟩,us 87,uq 87,ut [.ref 24],up,
 dd ([de P "__module__" 298 (.str "barwright.errors" 187),de P "__qualname__" 300 (.str "BadStretch" 299),de P "__firstlineno__" 302 (.int 17 301),de P "__static_attributes__" 303 (.ref 97)]) 4,u0,u1,uk "BadStretch" 293 17 93 181,uv 95 92 m1 187,u0,
 dd ([de P "__module__" 298 (.str "barwright.errors" 187),de P "__firstlineno__" 302 (.int 17 301),de P "__static_attributes__" 303 (.ref 97),de P "__doc__" 304 (.none)]) 2,
 ⟨.type "type",none,(.cls ⟨"BadStretch",[.ref 24],[.ref 99,.ref 24,.type "ValueError",.type "Exception",.type "BaseException",.type "object"],98,"BadStretch",true,[],[],false,none,false⟩),#[(some (.ref 90)),none,(some (.str "BadStretch" 291)),(some (.str "BadStretch" 299)),(some (.builtin "ValueError.__new__")),(some (.bool true))]⟩,us 99,uq 99,ut [.ref 24],up,
 dd ([de P "__module__" 314 (.str "barwright.errors" 187),de P "__qualname__" 316 (.str "BadPage" 315),de P "__firstlineno__" 318 (.int 19 317)]++dr P [("__init__",326,115),("__static_attributes__",328,116)]) 5,u0,uf [.int 21 0,.int 4 0,.ref 114],uk "BadPage" 309 19 105 181,uv 107 104 m1 187,u0,u1,ut [.str "self" 322,.str "row" 323],u0,Y5 "__init__" "BadPage.__init__" (cs 7 0),
 uc "__init__" "BadPage.__init__" 319 21 2 109 (.ref 111) (.ref 112) 113 324,uu "__init__" "BadPage.__init__" (cs 7 0) m1 187 114,ut [.str "row" 327],dd ([de P "__module__" 314 (.str "barwright.errors" 187),de P "__firstlineno__" 318 (.int 19 317)]++dr P [("__init__",326,115),("__static_attributes__",328,116)]++[de P "__doc__" 329 (.none)]) 2,
 ⟨.type "type",none,(.cls ⟨"BadPage",[.ref 24],[.ref 118,.ref 24,.type "ValueError",.type "Exception",.type "BaseException",.type "object"],117,"BadPage",true,[],[],false,none,false⟩),#[(some (.ref 102)),none,(some (.str "BadPage" 307)),(some (.str "BadPage" 315)),(some (.builtin "ValueError.__new__")),(some (.bool true))]⟩,us 118,uq 118,ut [.ref 24],up,
 dd ([de P "__module__" 339 (.str "barwright.errors" 187),de P "__qualname__" 341 (.str "BadRoll" 340),de P "__firstlineno__" 343 (.int 23 342),de P "__static_attributes__" 344 (.ref 128)]) 4,u0,u1,uk "BadRoll" 334 23 124 181,uv 126 123 m1 187,u0,
 dd ([de P "__module__" 339 (.str "barwright.errors" 187),de P "__firstlineno__" 343 (.int 23 342),de P "__static_attributes__" 344 (.ref 128),de P "__doc__" 345 (.none)]) 2,
 ⟨.type "type",none,(.cls ⟨"BadRoll",[.ref 24],[.ref 130,.ref 24,.type "ValueError",.type "Exception",.type "BaseException",.type "object"],129,"BadRoll",true,[],[],false,none,false⟩),#[(some (.ref 121)),none,(some (.str "BadRoll" 332)),(some (.str "BadRoll" 340)),(some (.builtin "ValueError.__new__")),(some (.bool true))]⟩,us 130,uq 130,ut [.ref 24],up,
 dd ([de P "__module__" 355 (.str "barwright.errors" 187),de P "__qualname__" 357 (.str "OutOfPlace" 356),de P "__firstlineno__" 359 (.int 25 358),de P "__static_attributes__" 360 (.ref 140)]) 4,u0,u1,uk "OutOfPlace" 350 25 136 181,uv 138 135 m1 187,u0,
 dd ([de P "__module__" 355 (.str "barwright.errors" 187),de P "__firstlineno__" 359 (.int 25 358),de P "__static_attributes__" 360 (.ref 140),de P "__doc__" 361 (.none)]) 2,
 ⟨.type "type",none,(.cls ⟨"OutOfPlace",[.ref 24],[.ref 142,.ref 24,.type "ValueError",.type "Exception",.type "BaseException",.type "object"],141,"OutOfPlace",true,[],[],false,none,false⟩),#[(some (.ref 133)),none,(some (.str "OutOfPlace" 348)),(some (.str "OutOfPlace" 356)),(some (.builtin "ValueError.__new__")),(some (.bool true))]⟩,us 142,uq 142,ut [.ref 24],up,
 dd ([de P "__module__" 371 (.str "barwright.errors" 187),de P "__qualname__" 373 (.str "BadWidth" 372),de P "__firstlineno__" 375 (.int 27 374),de P "__static_attributes__" 376 (.ref 152)]) 4,u0,u1,uk "BadWidth" 366 27 148 181,uv 150 147 m1 187,u0,
 dd ([de P "__module__" 371 (.str "barwright.errors" 187),de P "__firstlineno__" 375 (.int 27 374),de P "__static_attributes__" 376 (.ref 152),de P "__doc__" 377 (.none)]) 2,
 ⟨.type "type",none,(.cls ⟨"BadWidth",[.ref 24],[.ref 154,.ref 24,.type "ValueError",.type "Exception",.type "BaseException",.type "object"],153,"BadWidth",true,[],[],false,none,false⟩),#[(some (.ref 145)),none,(some (.str "BadWidth" 364)),(some (.str "BadWidth" 372)),(some (.builtin "ValueError.__new__")),(some (.bool true))]⟩,us 154,uq 154,u0,u1,ut [.str "thing" 389],u0,ui 14,
 ud 14 386 32 1 157 159 160 161 390,ua 14 m2 380 162,u0,u1,ut [.str "thing" 396,.str "least" 397,.str "most" 398],u0,ui 15,ud 15 393 34 3 164 166 167 168 399,ua 15 m2 380 169,u0,u1,ui 16,ud 16 402 36 1 171 0 0 173 405,ua 16 m2 380 174,u0,u1,ui 17,ud 17 408 38 2 176 0 0 178 411,ua 17 m2 380 179,u0,u1,ut [.str "thing" 417],u0,ui 18,ud 18 414 40 1 181 183 184 185 418,ua 18 m2 380 186,u0,u1,
 ut [.str "thing" 426],u0,ui 20,ud 20 423 45 1 188 190 191 192 427,ua 20 m3 421 193,u0,u1,ut [.str "pitch" 433],u0,ui 21,ud 21 430 49 1 195 197 198 199 434,ua 21 m3 421 200,u0,u1,ut [.str "thing" 444],u0,ui 24,ud 24 441 53 1 202 204 205 206 445,ua 24 m4 437 207,ut [.int 2 454,.int 4 455,.int 8 456],u0,u1,ut [.str "thing" 463,.str "top" 464,.str "bottom" 465],u0,ui 30,
 ud 30 460 60 1 210 212 213 214 466,ua 30 m5 450 215,u0,u1,ui 31,ud 31 469 68 2 217 0 0 219 472,ua 31 m5 450 220,u0,u1,ut [.str "bottom" 478],u0,ui 32,ud 32 475 74 1 222 224 225 226 479,ua 32 m5 450 227,u0,u1,ut [.str "metre" 485],u0,ui 33,ud 33 482 76 1 229 231 232 233 486,ua 33 m5 450 234]
noncomputable def h2 (P:Params):List Obj:=pa (hb1 P) [(3,dd ([de P "__name__" 165 (.str "law_barwright_k09_tunes_made_or_refused" 819),de P "__doc__" 166 (.none),de P "__package__" 167 (.none),de P "__loader__" 168 (.builtin "__main__.__loader__#opaque"),de P "__spec__" 169 (.none)]++dr P [("__annotations__",170,6),("__builtins__",171,4)]++[de P "__file__" 173 (.str "/claim/cut.py" 172),de P "__cached__" 174 (.none)]++dr P [("TuneError",206,24),("BadRow",231,44),("BadTune",247,56),("OutOfReach",263,68),("TooFine",290,87),("BadStretch",306,99),("BadPage",331,118),("BadRoll",347,130),("OutOfPlace",363,142),("BadWidth",379,154)]++[de P "SYLLABLE_SIGNS" 383 (.str "abcdefghijklmnopqrstuvwxyzABCDEFGHIJKLMNOPQRSTUVWXYZ-" 382),de P "MOST_SYLLABLE_SIGNS" 385 (.int 12 384)]++dr P [("is_whole",392,163),("is_among",401,170),("do_rise",407,175),("has_only",413,180),("is_syllable",420,187),("is_pitch",429,194),("line",436,201)]++[de P "MOST_SIGNS" 440 (.int 7 439),de P "is_key" 447 (.ref 208)]++di P [("GRAINS",449,96),("MOST_TOP",453,12)]++[de P "BOTTOMS" 457 (.ref 209),de P "MOST_BAR_GRAINS" 459 (.int 192 458)]++dr P [("is_metre",468,216),("are_groups",474,221),("unit_grains",481,228),("bar_grains",488,235)]++di P [("LEAST_GRAINS",492,2),("MOST_REST_GRAINS",494,4608),("MOST_TONES_GRAINS",496,384),("MOST_PITCHES",498,4),("MOST_SOUNDS",500,96),("MOST_VOICES",502,2),("MOST_BARS",504,24)]++dr P [("Sound",540,259),("Rest",563,280),("Tones",602,306),("Tune",676,363),("need",684,374),("sound_of",691,381),("is_rest_told",698,388),("is_tones_told",705,395),("is_told_as",714,402),("are_tones",720,407),("is_word",727,414),("voices_of",733,419),("voice_of",739,424),("tidy",748,431),("ends_in_rest",755,438),("grains_in",761,443),("long_rest",768,450),("need_slurs",777,457),("changes_of",783,462),("is_change",791,469),("frames_for",804,476),("last_at",810,481),("need_within",818,488),("_law_draw",831,495),("_law_whole",838,502),("_law_word",847,509)]++dr P [("_law_metre",856,516),("_law_pitches",867,523),("_law_syllable",873,528),("_law_length",882,535),("_law_voice",900,542),("_law_tidy",909,549),("_law_lasts",915,554),("_law_frames",928,561),("_law_changes",939,568),("_law_voices",945,573),("_law_copied",951,578),("_law_refused",961,585),("_law_no_sound",969,592),("_law_odd_sound",975,597),("_law_odd_pitches",989,604),("_law_odd_changes",1000,611),("_law_odd_voices",1011,618),("_law_slurs",1017,623),("_law_behind",1023,628),("_law_wrong",1044,635),("_law_sounds_right",1056,642),("_law_made_right",1065,649),("_law_told",1071,654),("_law_right",1077,659),("law",1083,664)]) 96),(12,uf [.int 2 0,.int 0 0,.ref 20,.int 4 0,.int 0 0,.ref 33,.int 8 0,.int 0 0,.ref 52,.int 10 0,.int 0 0,.ref 64,.int 12 0,.int 0 0,.ref 76,.int 17 0,.int 0 0,.ref 95,.int 19 0,.int 0 0,.ref 107,.int 23 0,.int 0 0,.ref 126,.int 25 0,.int 0 0,.ref 138,.int 27 0,.int 0 0,.ref 150,.int 32 0,.int 0 0,.ref 162,.int 34 0,.int 0 0,.ref 169,.int 36 0,.int 0 0,.ref 174,.int 38 0,.int 0 0,.ref 179,.int 40 0,.int 0 0,.ref 186,.int 45 0,.int 0 0,.ref 193,.int 49 0,.int 0 0,.ref 200,.int 53 0,.int 0 0,.ref 207,.int 60 0,.int 0 0,.ref 215,.int 68 0,.int 0 0,.ref 220,.int 74 0,.int 0 0,.ref 227,.int 76 0,.int 0 0,.ref 234,.int 86 0,.int 0 0,.ref 241,.int 93 0,.int 0 0,.ref 269,.int 97 0,.int 0 0,.ref 288,.int 108 0,.int 0 0,.ref 314,.int 137 0,.int 0 0,.ref 373,.int 140 0,.int 0 0,.ref 380,.int 146 0,.int 0 0,.ref 387,.int 148 0,.int 0 0,.ref 394,.int 154 0,.int 0 0,.ref 401,.int 158 0,.int 0 0,.ref 406,.int 162 0,.int 0 0,.ref 413,.int 164 0,.int 0 0,.ref 418,.int 167 0,.int 0 0,.ref 423,.int 173 0,.int 0 0,.ref 430,.int 181 0,.int 0 0,.ref 437,.int 183 0,.int 0 0,.ref 442,.int 185 0,.int 0 0,.ref 449,.int 188 0,.int 0 0,.ref 456,.int 199 0,.int 0 0,.ref 461,.int 207 0,.int 0 0,.ref 468,.int 209 0,.int 0 0,.ref 475,.int 219 0,.int 0 0,.ref 480,.int 221 0,.int 0 0,.ref 487,.int 224 0,.int 0 0,.ref 494,.int 232 0,.int 0 0,.ref 501,.int 234 0,.int 0 0,.ref 508,.int 242 0,.int 0 0,.ref 515,.int 246 0,.int 0 0,.ref 522,.int 253 0,.int 0 0,.ref 527,.int 257 0,.int 0 0,.ref 534,.int 260 0,.int 0 0,.ref 541,.int 285 0,.int 0 0,.ref 548,.int 295 0,.int 0 0,.ref 553,.int 300 0,.int 0 0,.ref 560,.int 313 0,.int 0 0,.ref 567,.int 319 0,.int 0 0,.ref 572,.int 321 0,.int 0 0,.ref 577,.int 327 0,.int 0 0,.ref 584,.int 333 0,.int 0 0,.ref 591,.int 339 0,.int 0 0,.ref 596,.int 353 0,.int 0 0,.ref 603,.int 359 0,.int 0 0,.ref 610,.int 364 0,.int 0 0,.ref 617,.int 373 0,.int 0 0,.ref 622,.int 378 0,.int 0 0,.ref 627,.int 390 0,.int 0 0,.ref 634,.int 425 0,.int 0 0,.ref 641,.int 442 0,.int 0 0,.ref 648,.int 447 0,.int 0 0,.ref 653,.int 452 0,.int 0 0,.ref 658,.int 469 0,.int 0 0,.ref 663])]++[
 u0,up,dd ([de P "__module__" 512 (.str "barwright.tunes" 489),de P "__qualname__" 514 (.str "Sound" 513),de P "__firstlineno__" 516 (.int 86 515)]++dr P [("__init__",524,249),("told",531,256),("__static_attributes__",533,257)]) 6,u0,uf [.int 88 0,.int 4 0,.ref 248,.int 91 0,.int 4 0,.ref 255],uk "Sound" 507 86 239 181,uv 241 238 m6 489,u0,u1,ut [.str "self" 520,.str "length" 521],u0,
 Y5 "__init__" "Sound.__init__" (cs 42 0),uc "__init__" "Sound.__init__" 517 88 2 243 (.ref 245) (.ref 246) 247 522,uu "__init__" "Sound.__init__" (cs 42 0) m6 489 248,u0,u1,ut [.str "self" 528],u0,Y5 "told" "Sound.told" (cs 42 1),uc "told" "Sound.told" 525 91 1 250 (.ref 252) (.ref 253) 254 529,uu "told" "Sound.told" (cs 42 1) m6 489 255,ut [.str "length" 532],
 dd ([de P "__module__" 512 (.str "barwright.tunes" 489),de P "__firstlineno__" 516 (.int 86 515)]++dr P [("__init__",524,249),("told",531,256),("__static_attributes__",533,257),("__dict__",535,260),("__weakref__",537,261)]++[de P "__doc__" 538 (.none)]) 4,
 ⟨.type "type",none,(.cls ⟨"Sound",[.type "object"],[.ref 259,.type "object"],258,"Sound",true,[],[.ref 280,.ref 306],false,none,false⟩),#[none,none,(some (.str "Sound" 505)),(some (.str "Sound" 513)),(some (.builtin "object.__new__")),(some (.bool true))]⟩,⟨.type "getset_descriptor",none,(.fields #[.str "__dict__" 534,.ref 259,.builtin "function.__dict__",.builtin "function.__dict__#set"]),#[]⟩,
 ug 536 259,us 259,uq 259,ut [.ref 259],up,dd ([de P "__module__" 548 (.str "barwright.tunes" 489),de P "__qualname__" 550 (.str "Rest" 549),de P "__firstlineno__" 552 (.int 93 551)]++dr P [("told",559,277),("__static_attributes__",560,278)]) 5,u0,uf [.int 95 0,.int 4 0,.ref 276],uk "Rest" 543 93 267 181,uv 269 266 m6 489,u0,u1,ut [.str "self" 556],u0,Y5 "told" "Rest.told" (cs 43 0),
 uc "told" "Rest.told" 553 95 1 271 (.ref 273) (.ref 274) 275 557,uu "told" "Rest.told" (cs 43 0) m6 489 276,u0,dd ([de P "__module__" 548 (.str "barwright.tunes" 489),de P "__firstlineno__" 552 (.int 93 551)]++dr P [("told",559,277),("__static_attributes__",560,278)]++[de P "__doc__" 561 (.none)]) 2,
 ⟨.type "type",none,(.cls ⟨"Rest",[.ref 259],[.ref 280,.ref 259,.type "object"],279,"Rest",true,[],[],false,none,false⟩),#[(some (.ref 264)),none,(some (.str "Rest" 541)),(some (.str "Rest" 549)),(some (.builtin "object.__new__")),(some (.bool true))]⟩,us 280,uq 280,ut [.ref 259],up,
 dd ([de P "__module__" 571 (.str "barwright.tunes" 489),de P "__qualname__" 573 (.str "Tones" 572),de P "__firstlineno__" 575 (.int 97 574)]++dr P [("__init__",587,296),("told",594,303),("__static_attributes__",599,304)]) 6,u0,uf [.int 99 0,.int 4 0,.ref 295,.int 106 0,.int 4 0,.ref 302],uk "Tones" 566 97 286 181,uv 288 285 m6 489,u0,u1,
 ut [.str "self" 579,.str "pitches" 580,.str "length" 581,.str "word" 582,.str "opens" 583,.str "closes" 584],u0,Y5 "__init__" "Tones.__init__" (cs 44 0),uc "__init__" "Tones.__init__" 576 99 6 290 (.ref 292) (.ref 293) 294 585,uu "__init__" "Tones.__init__" (cs 44 0) m6 489 295,u0,u1,ut [.str "self" 591],u0,Y5 "told" "Tones.told" (cs 44 1),
 uc "told" "Tones.told" 588 106 1 297 (.ref 299) (.ref 300) 301 592,uu "told" "Tones.told" (cs 44 1) m6 489 302,ut [.str "closes" 595,.str "opens" 596,.str "pitches" 597,.str "word" 598],dd ([de P "__module__" 571 (.str "barwright.tunes" 489),de P "__firstlineno__" 575 (.int 97 574)]++dr P [("__init__",587,296),("told",594,303),("__static_attributes__",599,304)]++[de P "__doc__" 600 (.none)]) 2,
 ⟨.type "type",none,(.cls ⟨"Tones",[.ref 259],[.ref 306,.ref 259,.type "object"],305,"Tones",true,[],[],false,none,false⟩),#[(some (.ref 283)),none,(some (.str "Tones" 564)),(some (.str "Tones" 572)),(some (.builtin "object.__new__")),(some (.bool true))]⟩,us 306,uq 306,u0,up,
 dd ([de P "__module__" 610 (.str "barwright.tunes" 489),de P "__qualname__" 612 (.str "Tune" 611),de P "__firstlineno__" 614 (.int 108 613)]++dr P [("__init__",624,322),("metres_told",631,329),("keys_told",638,336),("sounds_told",644,341),("many",651,348),("lasts",657,353),("frames",664,360),("__static_attributes__",669,361)]) 11,u0,
 uf [.int 110 0,.int 4 0,.ref 321,.int 118 0,.int 4 0,.ref 328,.int 121 0,.int 4 0,.ref 335,.int 124 0,.int 4 0,.ref 340,.int 129 0,.int 4 0,.ref 347,.int 132 0,.int 4 0,.ref 352,.int 135 0,.int 4 0,.ref 359],uk "Tune" 605 108 312 181,uv 314 311 m6 489,u0,u1,ut [.str "self" 618,.str "metres" 619,.str "keys" 620,.str "voices" 621],u0,Y5 "__init__" "Tune.__init__" (cs 45 0),
 uc "__init__" "Tune.__init__" 615 110 4 316 (.ref 318) (.ref 319) 320 622,uu "__init__" "Tune.__init__" (cs 45 0) m6 489 321,u0,u1,ut [.str "self" 628],u0,Y5 "metres_told" "Tune.metres_told" (cs 45 1),uc "metres_told" "Tune.metres_told" 625 118 1 323 (.ref 325) (.ref 326) 327 629,uu "metres_told" "Tune.metres_told" (cs 45 1) m6 489 328,u0,u1,ut [.str "self" 635],u0,
 Y5 "keys_told" "Tune.keys_told" (cs 45 2),uc "keys_told" "Tune.keys_told" 632 121 1 330 (.ref 332) (.ref 333) 334 636,uu "keys_told" "Tune.keys_told" (cs 45 2) m6 489 335,u0,u1,Y5 "sounds_told" "Tune.sounds_told" (cs 45 3),uc "sounds_told" "Tune.sounds_told" 639 124 2 337 (.none) (.none) 339 642,uu "sounds_told" "Tune.sounds_told" (cs 45 3) m6 489 340,u0,u1,ut [.str "self" 648],u0,
 Y5 "many" "Tune.many" (cs 45 4),uc "many" "Tune.many" 645 129 1 342 (.ref 344) (.ref 345) 346 649,uu "many" "Tune.many" (cs 45 4) m6 489 347,u0,u1,Y5 "lasts" "Tune.lasts" (cs 45 5),uc "lasts" "Tune.lasts" 652 132 1 349 (.none) (.none) 351 655,uu "lasts" "Tune.lasts" (cs 45 5) m6 489 352,u0,u1,ut [.str "self" 661],u0,Y5 "frames" "Tune.frames" (cs 45 6),
 uc "frames" "Tune.frames" 658 135 1 354 (.ref 356) (.ref 357) 358 662,uu "frames" "Tune.frames" (cs 45 6) m6 489 359,ut [.str "bar_frames" 665,.str "key_changes" 666,.str "metre_changes" 667,.str "voices" 668],
 dd ([de P "__module__" 610 (.str "barwright.tunes" 489),de P "__firstlineno__" 614 (.int 108 613)]++dr P [("__init__",624,322),("metres_told",631,329),("keys_told",638,336),("sounds_told",644,341),("many",651,348),("lasts",657,353),("frames",664,360),("__static_attributes__",669,361),("__dict__",671,364),("__weakref__",673,365)]++[de P "__doc__" 674 (.none)]) 4,
 ⟨.type "type",none,(.cls ⟨"Tune",[.type "object"],[.ref 363,.type "object"],362,"Tune",true,[],[],false,none,false⟩),#[none,none,(some (.str "Tune" 603)),(some (.str "Tune" 611)),(some (.builtin "object.__new__")),(some (.bool true))]⟩,⟨.type "getset_descriptor",none,(.fields #[.str "__dict__" 670,.ref 363,.builtin "function.__dict__",.builtin "function.__dict__#set"]),#[]⟩,ug 672 363,us 363,
 uq 363,u0,u1,ut [.str "is_so" 680,.str "why" 681],u0,ui 46,ud 46 677 137 2 368 370 371 372 682,ua 46 m6 489 373,u0,u1,ut [.str "told" 688],u0,ui 47,ud 47 685 140 1 375 377 378 379 689,ua 47 m6 489 380,u0,u1,ut [.str "thing" 695],u0,ui 48,ud 48 692 146 1 382 384 385 386 696,ua 48 m6 489 387,u0,u1,ut [.str "thing" 702],u0,ui 49,ud 49 699 148 1 389 391 392 393 703,ua 49 m6 489 394,u0,u1,
 ut [.str "name" 709,.str "parts" 710,.str "thing" 711],u0,ui 50,ud 50 706 154 3 396 398 399 400 712,ua 50 m6 489 401,u0,u1,ui 51,ud 51 715 158 1 403 0 0 405 718,ua 51 m6 489 406,u0,u1,ut [.str "thing" 724],u0,ui 52,ud 52 721 162 1 408 410 411 412 725,ua 52 m6 489 413,u0,u1,ui 53,ud 53 728 164 1 415 0 0 417 731,ua 53 m6 489 418,u0,u1,ui 54,ud 54 734 167 1 420 0 0 422 737,ua 54 m6 489 423,u0,u1,
 ut [.str "sounds" 743,.str "kept" 744,.str "sound" 745],u0,ui 55,ud 55 740 173 1 425 427 428 429 746,ua 55 m6 489 430,u0,u1,ut [.str "sounds" 752],u0,ui 56,ud 56 749 181 1 432 434 435 436 753,ua 56 m6 489 437,u0,u1,ui 57,ud 57 756 183 1 439 0 0 441 759,ua 57 m6 489 442,u0,u1,ut [.str "grains" 765],u0,ui 58,ud 58 762 185 1 444 446 447 448 766,ua 58 m6 489 449,u0,u1,
 ut [.str "sounds" 772,.str "is_open" 773,.str "sound" 774],u0,ui 59,ud 59 769 188 1 451 453 454 455 775,ua 59 m6 489 456,u0,u1,ui 60,ud 60 778 199 2 458 0 0 460 781,ua 60 m6 489 461,u0,u1,ut [.str "thing" 787,.str "is_good" 788],u0,ui 61,ud 61 784 207 2 463 465 466 467 789,ua 61 m6 489 468,u0,u1,
 ut [.str "metres" 795,.str "keys" 796,.str "lasts" 797,.str "frames" 798,.str "begin" 799,.str "bar" 800,.str "metre" 801],u0,ui 62,ud 62 792 209 3 470 472 473 474 802,ua 62 m6 489 475,u0,u1,ui 63,ud 63 805 219 2 477 0 0 479 808,ua 63 m6 489 480,u0,u1,ut [.str "changes" 814,.str "bars" 815],u0,ui 64,ud 64 811 221 2 482 484 485 486 816,ua 64 m6 489 487,u0,u1,
 ut [.str "_law_script" 824,.str "_law_tape" 825,.str "_law_size" 826,.str "_law_seed" 827,.str "_law_cell" 828],u0,ui 66,ud 66 821 224 3 489 491 492 493 829,ua 66 m7 819 494,u0,u1,ut [.str "_law_found" 835],u0,ui 67,ud 67 832 232 1 496 498 499 500 836,ua 67 m7 819 501,u0,u1,ut [.str "_law_e" 842,.str "_law_some" 843,.str "_law_words" 844],u0,ui 68,ud 68 839 234 1 503 505 506 507 845,
 ua 68 m7 819 508,u0,u1,ut [.str "_law_script" 851,.str "_law_tape" 852,.str "_law_some" 853],u0,ui 69,ud 69 848 242 2 510 512 513 514 854,ua 69 m7 819 515,u0,u1,ut [.str "_law_script" 860,.str "_law_tape" 861,.str "_law_found" 862,.str "_law_at" 863,.str "_law_k" 864],u0,ui 70,ud 70 857 246 2 517 519 520 521 865,ua 70 m7 819 522,u0,u1,ui 71,ud 71 868 253 2 524 0 0 526 871,ua 71 m7 819 527,u0,u1,
 ut [.str "_law_script" 877,.str "_law_tape" 878,.str "_law_some" 879],u0,ui 72,ud 72 874 257 2 529 531 532 533 880,ua 72 m7 819 534,u0,u1,
 ut [.str "_law_script" 886,.str "_law_tape" 887,.str "_law_most" 888,.str "_law_found" 889,.str "_law_is_open" 890,.str "_law_left" 891,.str "_law_count" 892,.str "_law_k" 893,.str "_law_length_here" 894,.str "_law_closes" 895,.str "_law_opens" 896,.str "_law_word_here" 897],u0,ui 73,ud 73 883 260 3 536 538 539 540 898,ua 73 m7 819 541,u0,u1,
 ut [.str "_law_voice_here" 904,.str "_law_found" 905,.str "_law_told_here" 906],u0,ui 74,ud 74 901 285 1 543 545 546 547 907,ua 74 m7 819 548,u0,u1,ui 75,ud 75 910 295 1 550 0 0 552 913,ua 75 m7 819 553,u0,u1,ut [.str "_law_script" 919,.str "_law_tape" 920,.str "_law_lasts_here" 921,.str "_law_found" 922,.str "_law_begin" 923,.str "_law_metre_here" 924,.str "_law_key" 925],u0,ui 76,
 ud 76 916 300 3 555 557 558 559 926,ua 76 m7 819 560,u0,u1,ut [.str "_law_frames_here" 932,.str "_law_part" 933,.str "_law_found" 934,.str "_law_place" 935,.str "_law_frame" 936],u0,ui 77,ud 77 929 313 2 562 564 565 566 937,ua 77 m7 819 567,u0,u1,ui 78,ud 78 940 319 3 569 0 0 571 943,ua 78 m7 819 572,u0,u1,ui 79,ud 79 946 321 1 574 0 0 576 949,ua 79 m7 819 577,u0,u1,
 ut [.str "_law_metres" 955,.str "_law_keys" 956,.str "_law_voices_here" 957,.str "_law_e" 958],u0,ui 80,ud 80 952 327 3 579 581 582 583 959,ua 80 m7 819 584,u0,u1,ut [.str "_law_told_here" 965,.str "_law_e" 966],u0,ui 81,ud 81 962 333 1 586 588 589 590 967,ua 81 m7 819 591,u0,u1,ui 82,ud 82 970 339 1 593 0 0 595 973,ua 82 m7 819 596,u0,u1,
 ut [.str "_law_script" 979,.str "_law_tape" 980,.str "_law_found" 981,.str "_law_at" 982,.str "_law_step" 983,.str "_law_lean" 984,.str "_law_octave" 985,.str "_law_more" 986],u0,ui 83,ud 83 976 353 2 598 600 601 602 987,ua 83 m7 819 603,u0,u1,ut [.str "_law_number" 993,.str "_law_good" 994,.str "_law_other" 995,.str "_law_bad" 996,.str "_law_some" 997],u0,ui 84,ud 84 990 359 4 605 607 608 609 998,
 ua 84 m7 819 610,u0,u1,ut [.str "_law_number" 1004,.str "_law_voices_here" 1005,.str "_law_good" 1006,.str "_law_tone" 1007,.str "_law_some" 1008],u0,ui 85,ud 85 1001 364 2 612 614 615 616 1009,ua 85 m7 819 617,u0,u1,ui 86,ud 86 1012 373 1 619 0 0 621 1015,ua 86 m7 819 622,u0,u1,ui 87,ud 87 1018 378 3 624 0 0 626 1021,ua 87 m7 819 627,u0,u1,
 ut [.str "_law_script" 1027,.str "_law_tape" 1028,.str "_law_metres" 1029,.str "_law_keys" 1030,.str "_law_voices_here" 1031,.str "_law_count" 1032,.str "_law_way" 1033,.str "_law_number" 1034,.str "_law_odd" 1035,.str "_law_at" 1036,.str "_law_spoilt" 1037,.str "_law_own" 1038,.str "_law_menu" 1039,.str "_law_both" 1040,.str "_law_tones" 1041],u0,ui 88,ud 88 1024 390 6 629 631 632 633 1042,
 ua 88 m7 819 634,u0,u1,ut [.str "_law_voices_here" 1048,.str "_law_voice_here" 1049,.str "_law_told_here" 1050,.str "_law_sound" 1051,.str "_law_kinds" 1052,.str "_law_length_here" 1053],u0,ui 89,ud 89 1045 425 1 636 638 639 640 1054,ua 89 m7 819 641,u0,u1,ut [.str "_law_told_here" 1060,.str "_law_pitches_here" 1061,.str "_law_made" 1062],u0,ui 90,ud 90 1057 442 1 643 645 646 647 1063,
 ua 90 m7 819 648,u0,u1,ui 91,ud 91 1066 447 3 650 0 0 652 1069,ua 91 m7 819 653,u0,u1,ui 92,ud 92 1072 452 4 655 0 0 657 1075,ua 92 m7 819 658,u0,u1,ui 93,ud 93 1078 469 1 660 0 0 662 1081,ua 93 m7 819 663]
noncomputable abbrev s0 (w:World):Shared:=⟨⟨⟨h0 w.params⟩,{}⟩,#[],{},181,{}⟩
noncomputable abbrev sa (w:World):Shared:=⟨⟨⟨ha w.params⟩,{}⟩,#[],{},187,{}⟩
noncomputable abbrev s1 (w:World):Shared:=⟨⟨⟨hb1 w.params⟩,{}⟩,#[],{},495,{}⟩
noncomputable abbrev s2 (w:World):Shared:=⟨⟨⟨h2 w.params⟩,{}⟩,#[],{},1084,{}⟩
noncomputable def ex:Env:={ scope:=rP.main.scope,locals:=mainNs,globals:=mainNs,cells:=[],code:=.ref 13,frame:=some 14 }
noncomputable def lb:List Stmt:=behindTheImports rP
noncomputable def cx:Code:=.body lb ex
noncomputable abbrev qB:List Frame:=[topFrame ⟨0,0,0,0⟩]
theorem g0 (w:World):((Fast.tw10274390034422433532 Fast.tw14364793385576792824 (opening rP) w 5577 (Fast.tw1435165496053646825 (opening rP)).fst (Fast.tw1435165496053646825 (opening rP)).snd).bind (Fast.tw14289696077712309145 rP))=some (s0 w)/\True:=⟨by kernel_rfl,trivial⟩
theorem g1 (w:World):Fast.tw15667345088766844465 Fast.tw14364793385576792824 rP w 11 (some (.ref 6)) 12 (s0 w) (topStub rP)=some (sa w,⟨Fast.tw11892475500146522536 Fast.tw14364793385576792824 (.body lb ex),.body lb ex,⟨0,0,0,0⟩,qB⟩)/\True:=⟨by kernel_rfl,trivial⟩
theorem g2 (w:World):Fast.tw14374325043358763698 Fast.tw14364793385576792824 rP w 11 (some (.ref 6)) 1 1 (sa w) (blockOf lb ex cx ⟨0,0,0,0⟩ qB)=some (.next,sa w,cx,⟨0,0,0,0⟩)/\True:=⟨by kernel_rfl,trivial⟩
theorem g3 (w:World):Fast.tw14374325043358763698 Fast.tw14364793385576792824 rP w 11 (some (.ref 6)) 1 2684 (sa w) ⟨(Fast.tw12563942051412417395 ((lb.drop 0).take 37) ex).wrap doneF deadEnd id id,cx,⟨0,0,0,0⟩,qB⟩=some (.next,s1 w,cx,⟨80,0,80,16⟩)/\True:=⟨by kernel_rfl,trivial⟩
theorem g4 (w:World):Fast.tw14374325043358763698 Fast.tw14364793385576792824 rP w 11 (some (.ref 6)) 1 2648 (s1 w) ⟨(Fast.tw12563942051412417395 ((lb.drop 37).take 57) ex).wrap doneF deadEnd id id,cx,⟨80,0,80,16⟩,qB⟩=some (.next,s2 w,cx,⟨469,0,494,110⟩)/\True:=⟨by kernel_rfl,trivial⟩
theorem ge (w:World):Fast.tw14082659384304107361 Fast.tw14364793385576792824 rP w 11 (some (.ref 6)) 20 (s2 w) ⟨doneF .next,cx,⟨469,0,494,110⟩,qB⟩=some (s2 w)/\True:=⟨by kernel_rfl,trivial⟩
theorem YJ:lb=((lb.drop 0).take 37++((lb.drop 37).take 57++[]))/\True:=⟨by kernel_rfl,trivial⟩
theorem TJ (w:World):topRun treeTable rP w 11 (some (.ref 6)) (12+(1+(2684+(2648+20)))) (s0 w) (topStub rP)=some (s2 w):=by
 have g1:=(g1 w).1;have g2:=(g2 w).1;have g3:=(g3 w).1;have g4:=(g4 w).1;have ge:=(ge w).1;rw[<- Fast.te14364793385576792824,<- Fast.te15667345088766844465,<- Fast.te11892475500146522536] at g1;rw[<- Fast.te14364793385576792824,<- Fast.te14374325043358763698] at g2;rw[<- Fast.te14364793385576792824,<- Fast.te14374325043358763698,<- Fast.te12563942051412417395] at g3;rw[<- Fast.te14364793385576792824,<- Fast.te14374325043358763698,<- Fast.te12563942051412417395] at g4;rw[<- Fast.te14364793385576792824,<- Fast.te14082659384304107361] at ge;refine go_top g1 (piece_block (c:=cx) g2 ?_);rw[YJ.1];exact(piece_app (l:=(lb.drop 0).take 37) (rest:=_) g3 (piece_app (l:=(lb.drop 37).take 57) (rest:=_) g4 (piece_nil ge)))
local macro_rules | `(tactic| o_head $_) => `(tactic| assumption)
theorem pre (h:PySem.Challenge.rw_barwright_k09_tunes_made_or_refused.row.Holds):PySem.Challenge.rw_barwright_k09_tunes_made_or_refused.row.Holds:=by k_head
noncomputable abbrev cP:Hook:=kHook pre.heap_1 [2,3,15,22,23,24,25,28,35,37,38,40,41,42,43,44,47,54,55,56,59,66,67,68,71,78,80,81,83,84,85,86,87,90,97,98,99,102,109,111,112,114,115,116,117,118,121,128,129,130,133,140,141,142,145,152,153,154,157,159,160,162,163,164,166,167,169,170,171,174,175,176,179,180,181,183,184,186,187,188,190,191,193,194,195,197,198,200,201,202,204,205,207,208,209,210,212,213,215,216,217,220,221,222,224,225,227,228,229,231,232,234,235,243,245,246,248,249,250,252,253,255,256,257,258,259,260,261,264,271,273,274,276,277,278,279,280,283,290,292,293,295,296,297,299,300,302,303,304,305,306,316,318,319,321,322,323,325,326,328,329,330,332,333,335,336,337,340,341,342,344,345,347,348,349,352,353,354,356,357,359,360,361,362,363,364,365,368,370,371,373,374,375,377,378,380,381,382,384,385,387,388,389,391,392,394,395,396,398,399,401,402,403,406,407,408,410,411,413,414,415,418,419,420,423,424,425,427,428,430,431,432,434,435,437,438,439,442,443,444,446,447,449,450,451,453,454,456,457,458,461,462,463,465,466,468,469,470,472,473,475,476,477,480,481,482,484,485,487,488,489,491,492,494,495,496,498,499,501,502,503,505,506,508,509,510,512,513,515,516,517,519,520,522,523,524,527,528,529,531,532,534,535,536,538,539,541,542,543,545,546,548,549,550,553,554,555,557,558,560,561,562,564,565,567,568,569,572,573,574,577,578,579,581,582,584,585,586,588,589,591,592,593,596,597,598,600,601,603,604,605,607,608,610,611,612,614,615,617,618,619,622,623,624,627,628,629,631,632,634,635,636,638,639,641,642,643,645,646,648,649,650,653,654,655,658,659,660,663,664] (λ_=>by kernel_rfl)
noncomputable def qx:Program:={ PySem.Challenge.pw_barwright_k09_tunes_made_or_refused with main:={ PySem.Challenge.pw_barwright_k09_tunes_made_or_refused.main with body:=[1,2,3,4,5,6,7,8,9,10,12,13,14,15,16,17,18,20,21,23,24,25,27,28,29,30,31,32,33,35,36,37,38,39,40,41,42,43,44,45,46,47,48,49,50,51,52,53,54,55,56,57,58,59,60,61,62,63,64,66,67,68,69,70,71,72,73,74,75,76,77,78,79,80,81,82,83,84,85,86,87,88,89,90,91,92,93].filterMap λi=>PySem.Challenge.pw_barwright_k09_tunes_made_or_refused.main.body[i]? } }
noncomputable def dx:DefRec:=((defOf qx "law").map (·.1)).getD ⟨"",default,[],default,default⟩
noncomputable abbrev aH:List Str:=[]
noncomputable abbrev eX (s:Shared):Bool:=xlAt qx [] s&&recOk PySem.Challenge.rw_barwright_k09_tunes_made_or_refused.row.toRowW.records s
theorem ysI:Fast.tw9446332074065402090 PySem.Challenge.rw_barwright_k09_tunes_made_or_refused=true/\True:=⟨by kernel_rfl,trivial⟩
theorem hq (w:World):((s0 w).heap.isNs mainGlobals&&(s0 w).gens.size==0,(s0 w).heap.objs.size,(s0 w).heap.nsMap mainGlobals (Str.ofString "__annotations__"))=(true,11,some (.ref 6))/\True:=⟨by kernel_rfl,trivial⟩
theorem hs (w:World):(staticsOk (importedModules rP.main.body) (s0 w).heap (s2 w).heap&&namesBound rP (s2 w).heap&&gensDone (s2 w)&&laidKept (s0 w).heap (s2 w).heap)=true/\True:=⟨by kernel_rfl,trivial⟩
theorem hr (w:World):lR rP w 5577=some (s2 w)/\True:=yoO (g0 w) (hq w) (TJ w) (by decide) (hs w)
theorem tG (w:World):(V1 rP qx aH eX (s2 w)).1=PyProof.Rows.expectedOf qx/\True:=⟨by kernel_rfl,trivial⟩
theorem yB (w:World):((V1 rP qx aH eX (s2 w)).2.1,(V1 rP qx aH eX (s2 w)).2.2.2.2.1,(V1 rP qx aH eX (s2 w)).2.2.2.2.2.2.1,(V1 rP qx aH eX (s2 w)).2.2.2.2.2.2.2.2)=(bltViewBooted,pinGoodD (PyProof.Rows.drecsOf qx),PyProof.Rows.plainGoodD qx aH,clsGoodW qx aH)/\True:=⟨by kernel_rfl,trivial⟩
theorem UZ (w:World):(V1 rP qx aH eX (s2 w)).2.2.1=true/\True:=⟨by kernel_rfl,trivial⟩
theorem Uv (w:World):(V1 rP qx aH eX (s2 w)).2.2.2.1=true/\True:=⟨by kernel_rfl,trivial⟩
theorem hx5 (w:World):(V1 rP qx aH eX (s2 w)).2.2.2.2.2.1=PyProof.Rows.plainGoodE qx (looseW qx aH)/\True:=⟨by kernel_rfl,trivial⟩
theorem BX (w:World):(V1 rP qx aH eX (s2 w)).2.2.2.2.2.2.2.1=wideGood qx/\True:=⟨by kernel_rfl,trivial⟩
theorem hx7 (w:World):cP.obs (s2 w)=cP.val w/\True:=⟨by kernel_rfl,trivial⟩
theorem headx (call:WalkO qx aH (XL qx []) cP.says PySem.Challenge.rw_barwright_k09_tunes_made_or_refused.row.toRowW dx [] λf vs=>PySem.call f vs):PySem.Challenge.rw_barwright_k09_tunes_made_or_refused.Holds:=by
 refine Wr ysI λsaid=>holds_open (d:=dx) (kwd:=[]) (q:=qx) (loose:=aH) (Xt:=eX) (XP:=XL qx []) (Yf:=cP.obs) (Ya:=cP.val) (YP:=cP.says) (N:=5577) (λw=>Wt (hr w) (tG w) (yB w) (UZ w) (Uv w) (hx5 w) (BX w) (hx7 w)) cP.of cP.keeps
  (λs e=>xl_of s (Bool.and_eq_true_iff.mp e).1) XL.keeps ?hb1 ?h2 ?h3 (λs e=>recFacts_of (Bool.and_eq_true_iff.mp e).2) ?h4 said ?h5 ⟨?a,?b,?c,?d,?e,?f⟩ ?hw call
 case hw=>w_witness2
 case h5=>decide +kernel
 case f=>decide +kernel
 all_goals kernel_rfl
theorem dx_name:dx.name="law":= by kernel_rfl
theorem dx_dfl:dx.params.defaults=[]:=by kernel_rfl
end
end KW
namespace L2
open PySem PySem.Spec PyProof.Rows
abbrev C5:=Sum Int Str
def jS:C5->Value->Bool
 | .inl k,v=>Value.isInt k v
 | .inr x,v=>Value.isStrOf x v
def Uz (w:World):C5->Int
 | .inl k=>hashInt k
 | .inr x=>hashStr w x
theorem fE:∀ {k:C5} {v:Value},jS k v=true->(∃ i t,k=Sum.inl i/\v=Value.int i t)∨(∃ x t,k=Sum.inr x/\v=Value.str x t)
 | .inl i,v,h=>by
  obtain⟨t,e⟩:=Value.isInt_shape (k:=i) (v:=v) h;exact .inl ⟨i,t,rfl,e⟩
 | .inr x,v,h=>by
  obtain⟨t,e⟩:=Value.isStrOf_shape (x:=x) (v:=v) h;exact .inr ⟨x,t,rfl,e⟩
theorem ZZ (i:Int)(t:Tok):jS (.inl i) (.int i t)=true:=by simp[jS,Value.isInt]
theorem yj4 (x:Str)(t:Tok):jS (.inr x) (.str x t)=true:=by simp[jS,Value.isStrOf]
theorem ypU (a b:Int):decide ((Sum.inl a:C5)=Sum.inl b)=(a==b):=by
 by_cases e:a=b
 ·subst e;simp
 ·have h:¬ (Sum.inl a:C5)=Sum.inl b:=λq=>e (Sum.inl.inj q)
  rw[decide_eq_false h];exact(beq_eq_false_iff_ne.mpr e).symm
theorem Yb (a b:Str):decide ((Sum.inr a:C5)=Sum.inr b)=decide (a=b):=by
 by_cases e:a=b
 ·subst e;simp
 ·have h:¬ (Sum.inr a:C5)=Sum.inr b:=λq=>e (Sum.inr.inj q)
  rw[decide_eq_false h,decide_eq_false e]
theorem YZ (a:Int)(b:Str):decide ((Sum.inl a:C5)=Sum.inr b)=false:=decide_eq_false (λq=>nomatch q)
theorem WX (a:Str)(b:Int):decide ((Sum.inr a:C5)=Sum.inl b)=false:=decide_eq_false (λq=>nomatch q)
def eS (prog:Program)(w:World):PySem.KeyKind prog w C5 where
 is:=jS
 hash:=Uz w
 inj:=λv a b ha hb=>by
  rcases fE ha with ⟨i,t,rfl,rfl⟩ | ⟨x,t,rfl,rfl⟩
  ·rcases fE hb with ⟨j,u,rfl,e⟩ | ⟨y,u,rfl,e⟩
   ·injection e with e1 _;rw[e1]
   ·exact nomatch e
  ·rcases fE hb with ⟨j,u,rfl,e⟩ | ⟨y,u,rfl,e⟩
   ·exact nomatch e
   ·injection e with e1 _;rw[e1]
 byValue:=λk v h=>by
  rcases fE h with ⟨i,t,rfl,rfl⟩ | ⟨x,t,rfl,rfl⟩<;>rfl
 pyHash:=λhv h=>by
  rcases fE hv with ⟨i,t,rfl,rfl⟩ | ⟨x,t,rfl,rfl⟩
  ·exact wpAny_pyHash_int h
  ·exact wpAny_pyHash_str h
 eqBool:=λhu hv h=>by
  rcases fE hu with ⟨i,t,rfl,rfl⟩ | ⟨x,t,rfl,rfl⟩
  ·rcases fE hv with ⟨j,u,rfl,rfl⟩ | ⟨y,u,rfl,rfl⟩
   ·rw[ypU] at h;exact wpAny_eqBool_int h
   ·rw[YZ] at h;exact SeqAt.EqAt.int_str i t y u _ _ _ _ h
  ·rcases fE hv with ⟨j,u,rfl,rfl⟩ | ⟨y,u,rfl,rfl⟩
   ·rw[WX] at h;exact SeqAt.EqAt.str_int x t j u _ _ _ _ h
   ·rw[Yb] at h;exact wpAny_eqBool_str h
 «strs»:=λk x t v h=>by
  rcases fE h with ⟨i,u,rfl,e⟩ | ⟨y,u,rfl,e⟩
  ·exact nomatch e
  ·injection e with e1 _
   subst e1;cases v<;>rfl
theorem yhC (prog:Program)(w:World)(i:Int)(t:Tok):(eS prog w).is (.inl i) (.int i t)=true:=ZZ i t
theorem yhj (prog:Program)(w:World)(x:Str)(t:Tok):(eS prog w).is (.inr x) (.str x t)=true:=yj4 x t
inductive V where
 | non | bl (b:Bool) | int (i:Int) | str (x:Str) | byt (b:Array UInt8) | flt (b:UInt64) | ref (a:Addr) | ty (n:String)
 deriving DecidableEq
def g9:V->Value->Prop
 | .non,u=>u=Value.none
 | .bl b,u=>u=Value.bool b
 | .int i,u=>∃ t,u=Value.int i t
 | .str x,u=>∃ t,u=Value.str x t
 | .byt b,u=>∃ t,u=Value.bytes b t
 | .flt b,u=>∃ t,u=Value.float b t
 | .ref a,u=>u=Value.ref a
 | .ty n,u=>u=Value.type n
abbrev f8:List V->List Value->Prop:=Paired g9
theorem f8.length {xs:List V}{us:List Value}(r:f8 xs us):xs.length=us.length:=Paired.length r
theorem f8.get:∀ {xs:List V} {us:List Value} {i:Nat} {x:V},f8 xs us->xs[i]?=some x->∃ u,us[i]?=some u/\g9 x u
 | _,_,_,_,.nil,e=>by simp at e
 | _,_,0,_,.cons r _,e=>by simp at e;subst e;exact⟨_,rfl,r⟩
 | _,_,i+1,x,.cons _ t,e=>by
  obtain⟨u,h1,h2⟩:=f8.get (i:=i) (x:=x) t (by simpa using e);exact⟨u,by simpa using h1,h2⟩
theorem f8.set {x:V}{u:Value}(r:g9 x u):∀ {xs:List V} {us:List Value} (i:Nat),f8 xs us->f8 (xs.set i x) (us.set i u)
 | _,_,_,.nil=>.nil
 | _,_,0,.cons _ t=>.cons r t
 | _,_,i+1,.cons q t=>.cons q (f8.set r i t)
theorem f8.append:∀ {xs ys:List V} {us ws:List Value},f8 xs us->f8 ys ws->f8 (xs++ys) (us++ws)
 | _,_,_,_,.nil,s=>s
 | _,_,_,_,.cons r t,s=>.cons r (f8.append t s)
theorem f8.take:∀ {xs:List V} {us:List Value} (n:Nat),f8 xs us->f8 (xs.take n) (us.take n)
 | _,_,0,_=>.nil
 | _,_,_+1,.nil=>.nil
 | _,_,n+1,.cons r t=>.cons r (f8.take n t)
theorem f8.drop:∀ {xs:List V} {us:List Value} (n:Nat),f8 xs us->f8 (xs.drop n) (us.drop n)
 | _,_,0,r=>r
 | _,_,_+1,.nil=>.nil
 | _,_,n+1,.cons _ t=>f8.drop n t
def I0:Option V->Option Value->Prop
 | some v,some u=>g9 v u
 | none,none=>True
 | _,_=>False
def KV {κ:Type}:List (κ×V)->List (κ×Value)->Prop:=Paired λ(p:κ×V) (q:κ×Value)=>p.1=q.1/\g9 p.2 q.2
def kV:C5->V
 | .inl i=>.int i
 | .inr x=>.str x
inductive HO where
 | lst (xs:List V)
 | tup (xs:List V)
 | dK (kvs:List (C5×V)) | dT (kvs:List (List C5×V))
 | set (S:Int->Bool) (n:Nat)
 | ins (C dx:Addr) (fs:List (Str×V))
 | own (x:Addr)
 | xd (fs:List (Str×V))
 | met (f x:Addr)
 | rng (lo hi:Int)
 | frz (o:Obj) (u:HO)
 | tbl (ps:Array Value)
 | ext (φ:Heap->Prop)
abbrev Hp:=Addr->Option HO
def upd (H:Hp)(a:Addr)(o:HO):Hp:=λb=>if b=a then some o else H b
theorem f9 {H:Hp}{a:Addr}{o:HO}:upd H a o a=some o:=by unfold upd;rw[if_pos rfl]
theorem u6 {H:Hp}{a b:Addr}{o:HO}(h:b≠a):upd H a o b=H b:=by unfold upd;rw[if_neg h]
theorem kU {H:Hp}{a:Addr}{o u:HO}:upd (upd H a o) a u=upd H a u:=by
 funext b;unfold upd;split<;>rfl
theorem G8 {H:Hp}{a b:Addr}{o:HO}(h:H a=some o)(h':H b=none):a≠b:=by
 intro e;subst e;rw[h] at h';cases h'
section
variable (P:Program) (w:World)
def t0 (H:Hp)(h:Heap)(a:Addr):HO->Prop
 | .lst xs=>xs.length<=sizeLine/\∃ (its:List Value) (n:Nat),f8 xs its/\h.get? a=some { cls:=.type "list",data:=.seq its.toArray n }
 | .tup xs=>xs.length<=sizeLine/\∃ its:List Value,f8 xs its/\IsTup h a its.toArray
 | .dK kvs=>kvs.length<=sizeLine/\(a==sysModules)=false/\∃ vs,KV kvs vs/\h.DictOf (eS P w) a vs
 | .dT kvs=>kvs.length<=sizeLine/\(a==sysModules)=false/\∃ xs:List (List C5×Addr×Value),
   Paired (λ(p:List C5×V) (q:List C5×Addr×Value)=>p.1=q.1/\H q.2.1=some (.tup (p.1.map kV))/\g9 p.2 q.2.2) kvs xs /\
   ∃ o es ep,h.get? a=some o/\o.ExactDict/\o.data=.dict es ep/\es.toList=xs.map (entryOfKey (tupleKind (eS P w)))/\(xs.map (·.1)).Nodup
 | .set S n=>h.SetOf (intKind P w) a S n
 | .ins C dx fs=>H dx=some (.own a)/\fs.length<=1000/\dx≠a/\h.get? a=some (PySem.W.instObj C dx) /\
   ∃ mA,h.Ns1 dx mA/\(∀ f,I0 (fs.lookup f) (mA f))/\PySem.Within mA (fs.map (·.1))
 | .own _=>∃ o,h.get? a=some o
 | .xd fs=>∃ mA,h.Ns1 a mA/\∀ f,I0 (fs.lookup f) (mA f)
 | .rng lo hi=>∃ t u v,h.get? a=some { cls:=.type "range",data:=.fields #[.int lo t,.int hi u,.int 1 v] }
 | .frz o u=>h.get? a=some o/\t0 H h a u
 | .tbl ps=>h.get? a=some { cls:=.none,data:=.fields ps }
 | .met f x=>h.get? a=some (PySem.W.methodObj (.ref f) (.ref x))
 | .ext φ=>φ h/\(∃ o,h.get? a=some o)/\∀ h1 h2:Heap,φ h1->(∀ o,h1.get? a=some o->h2.get? a=some o)->φ h2
def C9 (H:Hp)(h:Heap):Prop:=∀ a o,H a=some o->t0 P w H h a o
end
section
variable {P:Program} {w:World} {H H':Hp} {h h':Heap} {a:Addr} {o:HO}
theorem t0.lt (x:t0 P w H h a o):a < h.objs.size:=by
 cases o with
 | lst xs=>obtain⟨_,_,_,_,e⟩:=x;exact Heap.lt_size e
 | tup xs=>obtain⟨_,_,_,p⟩:=x;exact p.lt
 | dK kvs=>obtain⟨_,_,_,_,o,_,_,e,_⟩:=x;exact Heap.lt_size e
 | dT kvs=>obtain⟨_,_,_,_,o,_,_,e,_⟩:=x;exact Heap.lt_size e
 | set S n=>obtain⟨o,_,_,_,e,_⟩:=x;exact Heap.lt_size e
 | ins C dx fs=>obtain⟨_,_,_,e,_⟩:=x;exact Heap.lt_size e
 | own y=>obtain⟨_,e⟩:=x;exact Heap.lt_size e
 | xd fs=>obtain⟨_,⟨_,_,_,e,_⟩,_⟩:=x;exact Heap.lt_size e
 | rng lo hi=>obtain⟨_,_,_,e⟩:=x;exact Heap.lt_size e
 | frz ob u=>obtain⟨e,_⟩:=x;exact Heap.lt_size e
 | tbl ps=>exact Heap.lt_size (show h.get? a=some _ from x)
 | met f y=>exact Heap.lt_size (show h.get? a=some _ from x)
 | ext φ=>obtain⟨_,⟨_,e⟩,_⟩:=x;exact Heap.lt_size e
theorem Paired.mapP {α β:Type}{F G:α->β->Prop}:∀ {l₁:List α} {l₂:List β},Paired F l₁ l₂->(∀ a b,F a b->G a b)->Paired G l₁ l₂
 | _,_,.nil,_=>.nil
 | _,_,.cons r t,f=>.cons (f _ _ r) (Paired.mapP t f)
theorem t0.stay (x:t0 P w H h a o)(k:∀ b u,(b=a∨H b=some (.own a))->h.get? b=some u->h'.get? b=some u)
  (ho:∀ b,H b=some (.own a)->H' b=some (.own a)) (ht:∀ b xs,H b=some (.tup xs)->H' b=some (.tup xs)):t0 P w H' h' a o:=by
 induction o with
 | lst xs=>obtain⟨z,its,n,r,e⟩:=x;exact⟨z,its,n,r,k _ _ (.inl rfl) e⟩
 | tup xs=>obtain⟨z,its,r,ob,e,c⟩:=x;exact⟨z,its,r,ob,k _ _ (.inl rfl) e,c⟩
 | dK kvs=>obtain⟨z,y,vs,r,ob,es,ep,e,c⟩:=x;exact⟨z,y,vs,r,ob,es,ep,k _ _ (.inl rfl) e,c⟩
 | dT kvs=>
  obtain⟨z,y,xs,r,ob,es,ep,e,c⟩:=x;exact⟨z,y,xs,Paired.mapP r λp q z=>⟨z.1,ht _ _ z.2.1,z.2.2⟩,ob,es,ep,k _ _ (.inl rfl) e,c⟩
 | set S n=>obtain⟨ob,es,ep,t,e,c⟩:=x;exact⟨ob,es,ep,t,k _ _ (.inl rfl) e,c⟩
 | ins C dx fs=>
  obtain⟨d,z,ne,e,mA,⟨od,es,ep,e2,c⟩,r⟩:=x;exact⟨ho _ d,z,ne,k _ _ (.inl rfl) e,mA,⟨od,es,ep,k _ _ (.inr d) e2,c⟩,r⟩
 | own y=>obtain⟨ob,e⟩:=x;exact⟨ob,k _ _ (.inl rfl) e⟩
 | xd fs=>obtain⟨mA,⟨od,es,ep,e,c⟩,r⟩:=x;exact⟨mA,⟨od,es,ep,k _ _ (.inl rfl) e,c⟩,r⟩
 | rng lo hi=>obtain⟨t,u,v,e⟩:=x;exact⟨t,u,v,k _ _ (.inl rfl) e⟩
 | frz ob u ih=>obtain⟨e,q⟩:=x;exact⟨k _ _ (.inl rfl) e,ih q⟩
 | tbl ps=>
  have e:h.get? a=some { cls:=.none,data:=.fields ps }:=x;show h'.get? a=some { cls:=.none,data:=.fields ps }
  exact k a _ (.inl rfl) e
 | met f y=>
  have e:h.get? a=some (PySem.W.methodObj (.ref f) (.ref y)):=x;show h'.get? a=some (PySem.W.methodObj (.ref f) (.ref y))
  exact k a _ (.inl rfl) e
 | ext φ=>obtain⟨p,⟨o,e⟩,st⟩:=x;exact⟨st _ _ p λo q=>k _ _ (.inl rfl) q,⟨o,k _ _ (.inl rfl) e⟩,st⟩
theorem C9.lt (x:C9 P w H h)(e:H a=some o):a < h.objs.size:=(x a o e).lt
theorem C9.fresh (x:C9 P w H h)(e:h.objs.size<=a):H a=none:=by
 cases q:H a with
 | none=>rfl
 | some u=>exact absurd (Nat.lt_of_lt_of_le (x.lt q) e) (Nat.lt_irrefl _)
theorem C9.kept (x:C9 P w H h)(k:∀ b u,h.get? b=some u->h'.get? b=some u):C9 P w H h':=λa o e =>
 (x a o e).stay (λb u _ q=>k b u q) (λ_ q=>q) λ_ _ q=>q
theorem C9.laid (x:C9 P w H h)(k:∀ b u,h.get? b=some u->h'.get? b=some u)(hp:h.objs.size<=a)(new:t0 P w (upd H a o) h' a o):C9 P w (upd H a o) h':=λb u e=>by
 have hn:=x.fresh hp;by_cases hb:b=a
 ·subst hb;rw[f9] at e;cases e;exact new
 ·rw[u6 hb] at e;exact(x b u e).stay (λc v _ q=>k c v q) (λc q=>by rw[u6 (G8 q hn)];exact q) λc xs q=>by rw[u6 (G8 q hn)];exact q
end
def Rd (H:Hp)(a:Addr)(u:HO):Prop:=H a=some u∨∃ o,H a=some (.frz o u)
theorem Rd.of {H:Hp}{a:Addr}{u:HO}(h:H a=some u):Rd H a u:=.inl h
theorem Rd.ok {P:Program}{w:World}{H:Hp}{h:Heap}{a:Addr}{u:HO}(r:Rd H a u)(x:C9 P w H h):t0 P w H h a u:=by
 rcases r with r | ⟨o,r⟩
 ·exact x a u r
 ·obtain⟨_,q⟩:=x a _ r;exact q
def nS:Option HO->Prop
 | some (.lst _)=>True
 | some (.dK _)=>True
 | some (.dT _)=>True
 | some (.set _ _)=>True
 | some (.ins _ _ _)=>True
 | some (.ext _)=>True
 | _=>False
section
variable {P:Program} {w:World} {H:Hp} {h h':Heap} {x e:Addr} {o':HO}
theorem C9.write (ok:C9 P w H h)(mu:nS (H x))(he:e=x∨H e=some (.own x))(k:∀ b u,b≠e->h.get? b=some u->h'.get? b=some u)(heo:∃ u,h'.get? e=some u)
  (new:t0 P w (upd H x o') h' x o'):C9 P w (upd H x o') h':=λb u q=>by
 have nown:∀ c y,H c=some (.own y)->c≠x:=λc y r z=>by subst z;rw[r] at mu;exact mu
 have ntup:∀ c xs,H c=some (.tup xs)->c≠x:=λc xs r z=>by subst z;rw[r] at mu;exact mu
 by_cases hb:b=x
 ·subst hb;rw[f9] at q;cases q;exact new
 ·rw[u6 hb] at q;by_cases hbe:b=e
  ·have q':H b=some (.own x):=by
    rcases he with z | z
    ·exact absurd (hbe.trans z) hb
    ·rw[hbe];exact z
   rw[q] at q';cases q';obtain⟨v,hv⟩:=heo;exact⟨v,by rw[hbe];exact hv⟩
  ·refine(ok b u q).stay (λc v hc r=>k c v ?_ r) (λc r=>by rw[u6 (nown c b r)];exact r) λc xs r=>by rw[u6 (ntup c xs r)];exact r
   rcases hc with rfl | hc
   ·exact hbe
   ·rintro rfl;rcases he with z | z
    ·exact nown c b hc z
    ·rw[hc] at z;cases z;exact hb rfl
end
structure Un (fs ex:List Addr) (H H':Hp) (h h':Heap):Prop where
 keep:∀ b o,h.get? b=some o->H b=none->b∉fs->b∉ex->h'.get? b=some o
 slot:∀ b o,h.get? b=some o->H b=none->b∈fs->b∉ex->∃ sl,h'.get? b=some { o with slots:=sl }
 free:∀ b o,h.get? b=some o->H b=none->b∉ex->H' b=none
 there:∀ b o,h.get? b=some o->b∉ex->∃ o',h'.get? b=some o'
 tups:∀ b xs,H b=some (.tup xs)->H' b=some (.tup xs)
 frzs:∀ b o u,H b=some (.frz o u)->H' b=some (.frz o u)
 tbls:∀ b ps,H b=some (.tbl ps)->∃ more,H' b=some (.tbl (ps++more))
section
variable {fs fs' ex ex':List Addr} {H H1 H2:Hp} {h h1 h2 h':Heap} {a x e:Addr} {o:HO}
theorem Un.any (u:Un fs ex H H1 h h1){b:Addr}{ob:Obj}(q:h.get? b=some ob)(n:H b=none)(hx:b∉ex):∃ sl,h1.get? b=some { ob with slots:=sl }:=by
 by_cases hb:b∈fs
 ·exact u.slot b ob q n hb hx
 ·exact⟨ob.slots,u.keep b ob q n hb hx⟩
theorem Un.kept (k:∀ b u,h.get? b=some u->h'.get? b=some u):Un fs ex H H h h' :=
 ⟨λb ob q _ _ _=>k b ob q,λb ob q _ _ _=>⟨ob.slots,k b ob q⟩,λ_ _ _ n _=>n,λb ob q _=>⟨ob,k b ob q⟩,λ_ _ q=>q,λ_ _ _ q=>q,λ_ ps q=>⟨#[],by rw[q];simp⟩⟩
theorem Un.refl:Un fs ex H H h h:=Un.kept λ_ _ q=>q
theorem Un.laid (k:∀ b u,h.get? b=some u->h'.get? b=some u)(hp:h.objs.size<=a)(hn:H a=none):Un fs ex H (upd H a o) h h' where
 keep:=λb u q _ _ _=>k b u q
 slot:=λb u q _ _ _=>⟨u.slots,k b u q⟩
 free:=λb u q n _=>by rw[u6 (Nat.ne_of_lt (Nat.lt_of_lt_of_le (Heap.lt_size q) hp))];exact n
 there:=λb u q _=>⟨u,k b u q⟩
 tups:=λb xs q=>by rw[u6 (G8 q hn)];exact q
 frzs:=λb u xs q=>by rw[u6 (G8 q hn)];exact q
 tbls:=λb ps q=>⟨#[],by rw[u6 (G8 q hn),q];simp⟩
theorem Un.write (mu:nS (H x))(he:e=x∨H e=some (.own x))(k:∀ b u,b≠e->h.get? b=some u->h'.get? b=some u)(heo:∃ u,h'.get? e=some u):Un fs ex H (upd H x o) h h':=by
 have hx:∀ b,H b=none->b≠x:=λb n z=>by subst z;rw[n] at mu;exact mu
 have hb:∀ b,H b=none->b≠e:=λb n z=>by
  subst z;rcases he with r | r
  ·exact hx b n r
  ·rw[n] at r;cases r
 have hm:∀ b u,H b=some u->¬ nS (some u)->b≠x:=λb u q nm z=>by subst z;rw[q] at mu;exact nm mu
 refine⟨λb u q n _ _=>k b u (hb b n) q,λb u q n _ _=>⟨u.slots,k b u (hb b n) q⟩,λb u q n _=>by rw[u6 (hx b n)];exact n,λb u q _=>?_,
  λb xs q=>by rw[u6 (hm b _ q λz=>z)];exact q,λb u xs q=>by rw[u6 (hm b _ q λz=>z)];exact q,λb ps q=>⟨#[],by rw[u6 (hm b _ q λz=>z),q];simp⟩⟩
 by_cases hbe:b=e
 ·subst hbe;exact heo
 ·exact⟨u,k b u hbe q⟩
end
def pC (h:Heap)(H:Hp):List Addr:=(List.range h.objs.size).filter λa=>(H a).isSome
def fV (h:Heap)(H:Hp):Heap:=PySem.W.hideAll h (pC h H)
theorem GQ (h:Heap)(H:Hp):(fV h H).objs.size=h.objs.size:=PySem.W.hideAll_size _ _
theorem ymU {h:Heap}{H:Hp}{b:Addr}{o:Obj}(e:h.get? b=some o)(n:H b=none):(fV h H).get? b=some o :=
 PySem.W.hideAll_get _ e λhm=>by
  have q:(H b).isSome=true:=(List.mem_filter.mp hm).2;rw[n] at q;simp at q
theorem yn1 {h:Heap}{H:Hp}{b:Addr}{o:Obj}(e:(fV h H).get? b=some o):h.get? b=some o/\H b=none:=by
 have e':h.get? b=some o:=PySem.W.of_hideAll (pC h H) e;refine⟨e',?_⟩;cases q:H b with
 | none=>rfl
 | some x=>
  have hm:b∈pC h H:=List.mem_filter.mpr ⟨List.mem_range.mpr (Heap.lt_size e'),by simp[q]⟩;have z:(fV h H).get? b=none:=PySem.W.hideAll_none (pC h H) hm;rw[z] at e;cases e
def yo0 (g h:Heap)(L:Addr):List (Addr×Obj):=(List.range h.objs.size).filterMap λa=>if a=L∨(g.get? a).isSome=true then none else (h.get? a).map λo=>(a,o)
def rest (g h:Heap)(L d:Addr):List (Addr×Obj):=(yo0 g h L).filter λp=>decide (p.1≠d)
structure Mod (K:qF) (mg:Str->Option Value) (base:Heap):Prop where
 kin:K.In base
 glob:base.Ns mainGlobals mg
 blt:∃ mb,base.Ns builtinsNs mb/\∀ x:Str,x≠"__name__" -> mb x=bootBuiltins x
 nolimit:base.NoLimit
structure Cx where
 prog:Program
 w:World
 K:qF
 mg:Str->Option Value
 base:Heap
 A:Around
 N:List Str
 s₀:Shared
 H₀:Hp
 env:Env
 outer:List Env
 stack:List Env
 ex:List Addr
 fn:Str->Bool
 calm:Bool
 pn:List (Addr×Obj)
 xe:Value->Shared->Prop
def E6 (l:List Env):List Addr:=l.filterMap (·.frame)
abbrev Cx.fs (X:Cx):List Addr:=E6 X.outer
def mC (sc:Scope)(x:Str):Prop:=sc.names.lookup x=some .local∨sc.names.lookup x=some .cell∨sc.names.lookup x=some .free
def fK (sc:Scope)(x:Str):Prop:=sc.names.lookup x=some .local∨sc.names.lookup x=some .cell
def PZ (env:Env)(h:Heap)(m:Str->Option Value)(x:Str)(u:Value):Prop :=
 (env.kindOf x=some .local/\m x=some u)∨((env.kindOf x=some .cell∨env.kindOf x=some .free)/\∃ c,env.cells.lookup x=some c/\h.IsCell c (some u))
structure Cx.Ok (X:Cx):Prop where
 mod:Mod X.K X.mg X.base
 kind:X.env.scope.kind=.function
 glob:X.env.globals=mainGlobals
 blt:X.env.builtins=builtinsNs
 above:X.s₀.heap.objs.size<=X.env.locals
 inj:∀ x y c,X.env.cells.lookup x=some c->X.env.cells.lookup y=some c->x=y
 has:∀ x,(X.env.kindOf x=some .cell∨X.env.kindOf x=some .free)->∃ c,X.env.cells.lookup x=some c
 cab:∀ x c,X.fn x=true->X.env.cells.lookup x=some c->X.s₀.heap.objs.size<=c
 hd:X.calm=true->X.A.handled=none
 frames:X.A.frames=some X.stack
 stk:X.stack=X.outer∨(X.stack=X.env :: X.outer/\X.env.frame=some X.env.locals)
 exf:∀ b∈X.ex,b≠X.env.locals/\∀ x c,X.env.cells.lookup x=some c->c≠b
 bs:∀ b o,X.base.get? b=some o->X.s₀.heap.get? b=some o/\X.H₀ b=none
 bsz:X.base.objs.size<=X.s₀.heap.objs.size
 noex:∀ b o,X.base.get? b=some o->b∉X.ex
 exfs:∀ b∈X.ex,b∉X.fs
 funs:X.s₀.heap.FunFrames X.base X.outer
 frf:∀ b∈X.fs,X.H₀ b=none
structure f6 (X:Cx) (pins:List (Addr×Obj)) (σ:List (Option V)) (H:Hp) (s:Shared):Prop where
 ok:X.Ok
 os:s.os=X.s₀.os
 bare:AllBare s.gens
 base:Un X.fs X.ex X.H₀ H X.s₀.heap s.heap
 loc:∃ m,s.heap.Ns X.env.locals m/\∀ (i:Nat) (x:Str) (v:V),X.N[i]?=some x->σ[i]?=some (some v)->mC X.env.scope x->∃ u,g9 v u/\PZ X.env s.heap m x u
 cell:∀ x c,X.env.cells.lookup x=some c->∃ v,s.heap.IsCell c v
 free:H X.env.locals=none
 freeC:∀ x c,X.env.cells.lookup x=some c->H c=none
 pin:∀ p∈X.pn++pins,s.heap.get? p.1=some p.2/\H p.1=none/\p.1≠X.env.locals/\p.1∉X.fs/\∀ v,p.2.data≠.cell v
 hok:C9 X.prog X.w H s.heap
 len:σ.length=X.N.length
section
variable {X:Cx} {pins:List (Addr×Obj)} {σ:List (Option V)} {H H':Hp} {s:Shared} {h':Heap}
theorem Cx.Ok.nofr (ok:X.Ok){b:Addr}{o:Obj}(e:X.base.get? b=some o):b∉X.fs:=λhb=>by
 have:=(ok.funs.mem hb).1;rw[e] at this;cases this
theorem f6.bs (I:f6 X pins σ H s):∀ b o,X.base.get? b=some o->s.heap.get? b=some o/\H b=none:=λb o e =>
 ⟨I.base.keep b o (I.ok.bs b o e).1 (I.ok.bs b o e).2 (I.ok.nofr e) (I.ok.noex b o e),I.base.free b o (I.ok.bs b o e).1 (I.ok.bs b o e).2 (I.ok.noex b o e)⟩
theorem f6.bk (I:f6 X pins σ H s):∀ b o,X.base.get? b=some o->s.heap.get? b=some o:=λb o e=>(I.bs b o e).1
theorem f6.mod (I:f6 X pins σ H s):Mod X.K X.mg X.base:=I.ok.mod
theorem f6.kIn (I:f6 X pins σ H s):X.K.In s.heap:=I.ok.mod.kin.keeps I.bk
theorem f6.lt (I:f6 X pins σ H s):X.env.locals < s.heap.objs.size:=let ⟨_,hn,_⟩:=I.loc;hn.lt
theorem f6.sz (I:f6 X pins σ H s):X.s₀.heap.objs.size<=s.heap.objs.size:=Nat.le_trans I.ok.above (Nat.le_of_lt I.lt)
theorem f6.nofs (I:f6 X pins σ H s){a:Addr}(h:s.heap.objs.size<=a):a∉X.fs:=λhb=>by
 obtain⟨_,o,ho,_⟩:=I.ok.funs.mem hb;exact absurd (Nat.lt_of_lt_of_le (Heap.lt_size ho) (Nat.le_trans I.sz h)) (Nat.lt_irrefl _)
theorem f6.cne (I:f6 X pins σ H s):∀ x c,X.env.cells.lookup x=some c->c≠X.env.locals:=λx c e z=>by
 obtain⟨v,o,ho,hd⟩:=I.cell x c e;obtain⟨m,⟨o',es,ep,ho',hd',_⟩,_⟩:=I.loc;rw[z,ho'] at ho;cases ho;rw[hd'] at hd;cases hd
theorem f6.funs (I:f6 X pins σ H s):s.heap.FunFrames X.base X.outer:=by
 have all:∀ (l:List Env),(∀ b∈E6 l,b∈X.fs)->X.s₀.heap.FunFrames X.base l->s.heap.FunFrames X.base l:=by
  intro l
  induction l with
  | nil=>intro _ _;trivial
  | cons env r ih=>
   intro hs hl;obtain⟨hk,⟨L,o,hf,hn,ho,hd⟩,hr⟩:=hl;have hL:L∈X.fs:=hs L (by unfold E6;rw[List.filterMap_cons,hf];exact List.mem_cons_self);obtain⟨sl,e⟩:=I.base.slot L o ho (I.ok.frf L hL) hL λz=>I.ok.exfs L z hL
   exact⟨hk,⟨L,_,hf,hn,e,hd⟩,ih (λb hb=>hs b (by unfold E6;rw[List.filterMap_cons,hf];exact List.mem_cons_of_mem _ hb)) hr⟩
 exact all X.outer (λ_ hb=>hb) I.ok.funs
theorem f6.stack (I:f6 X pins σ H s):s.heap.FunFrames X.base X.stack:=by
 rcases I.ok.stk with e | ⟨e,hf⟩
 ·rw[e];exact I.funs
 ·rw[e];obtain⟨m,hn,_⟩:=I.loc;refine .cons (by rw[I.ok.kind];decide) hf hn ?_ I.funs;exact Heap.get?_none_of_le (Nat.le_trans I.ok.bsz I.ok.above)
theorem f6.stkSub (I:f6 X pins σ H s):∀ b∈E6 X.stack,b∈X.env.locals :: X.fs:=λb hb=>by
 rcases I.ok.stk with e | ⟨e,hf⟩
 ·rw[e] at hb;exact List.mem_cons_of_mem _ hb
 ·rw[e] at hb;unfold E6 at hb;rw[List.filterMap_cons,hf] at hb;exact hb
theorem f6.stkFree (I:f6 X pins σ H s):∀ b∈E6 X.stack,H b=none:=λb hb=>by
 rcases List.mem_cons.mp (I.stkSub b hb) with e | hb
 ·rw[e];exact I.free
 ·obtain⟨_,o,ho,_⟩:=I.ok.funs.mem hb;exact I.base.free b o ho (I.ok.frf b hb) λz=>I.ok.exfs b z hb
theorem f6.step {g':Array GenState}{t':Nat}{d':Drawn}{ch:List Addr}(I:f6 X pins σ H s)
  (hch:∀ b∈ch,(b∈X.ex∨X.s₀.heap.objs.size<=b)/\b≠X.env.locals/\(∀ x c,X.env.cells.lookup x=some c->c≠b)/\∀ p∈X.pn++pins,p.1≠b)
  (keep:∀ b o,b≠X.env.locals->b∉X.fs->b∉ch->s.heap.get? b=some o->H b=none->h'.get? b=some o)
  (slot:∀ b o,b≠X.env.locals->b∈X.fs->b∉ch->s.heap.get? b=some o->H b=none->∃ sl,h'.get? b=some { o with slots:=sl }) (free:∀ b o,b∉ch->s.heap.get? b=some o->H b=none->H' b=none)
  (there:∀ b o,b∉ch->s.heap.get? b=some o->∃ o',h'.get? b=some o')
  (tups:∀ b xs,H b=some (.tup xs)->H' b=some (.tup xs)) (frzs:∀ b o u,H b=some (.frz o u)->H' b=some (.frz o u)) (tbls:∀ b ps,H b=some (.tbl ps)->∃ more,H' b=some (.tbl (ps++more)))
  (ns:∀ m,s.heap.Ns X.env.locals m->h'.Ns X.env.locals m) (hok:C9 X.prog X.w H' h') (hg:AllBare g') :
  f6 X pins σ H' { s with heap:=h',gens:=g',drawn:=d',toks:=t' }:=by
 have neL:∀ b o,X.s₀.heap.get? b=some o->b≠X.env.locals:=λb o e=>Nat.ne_of_lt (Nat.lt_of_lt_of_le (Heap.lt_size e) I.ok.above)
 have neC:∀ b o,X.s₀.heap.get? b=some o->b∉X.ex->b∉ch:=λb o e hx hb=>by
  rcases(hch b hb).1 with z | z
  ·exact hx z
  ·exact absurd (Nat.lt_of_lt_of_le (Heap.lt_size e) z) (Nat.lt_irrefl _)
 have cellK:∀ x c,X.env.cells.lookup x=some c->∀ v,s.heap.IsCell c v->h'.IsCell c v:=λx c e v ⟨o,ho,hd⟩=>by
  have nch:c∉ch:=λz=>(hch c z).2.2.1 x c e rfl
  by_cases hc:c∈X.fs
  ·obtain⟨sl,q⟩:=slot c o (I.cne x c e) hc nch ho (I.freeC x c e);exact⟨_,q,hd⟩
  ·exact⟨o,keep c o (I.cne x c e) hc nch ho (I.freeC x c e),hd⟩
 refine⟨I.ok,I.os,hg,⟨λb o e n hb hx=>?_,λb o e n hb hx=>?_,λb o e n hx=>?_,λb o e hx=>?_,λb xs e=>tups b xs (I.base.tups b xs e),λb o xs e=>frzs b o xs (I.base.frzs b o xs e),λb ps e=>?_⟩,?_,λx c e=>?_,?_,λx c e=>?_,λp hp=>?_,hok,I.len⟩
 ·exact keep b o (neL b o e) hb (neC b o e hx) (I.base.keep b o e n hb hx) (I.base.free b o e n hx)
 ·obtain⟨sl,e1⟩:=I.base.slot b o e n hb hx;obtain⟨sl',e2⟩:=slot b _ (neL b o e) hb (neC b o e hx) e1 (I.base.free b o e n hx);exact⟨sl',e2⟩
 ·obtain⟨o',e1⟩:=I.base.there b o e hx;exact free b o' (neC b o e hx) e1 (I.base.free b o e n hx)
 ·obtain⟨o',e1⟩:=I.base.there b o e hx;exact there b o' (neC b o e hx) e1
 ·obtain⟨m1,e1⟩:=I.base.tbls b ps e;obtain⟨m2,e2⟩:=tbls b _ e1;exact⟨m1++m2,by rw[e2,Array.append_assoc]⟩
 ·obtain⟨m,hn,hl⟩:=I.loc;refine⟨m,ns m hn,λi x v e1 e2 e3=>?_⟩;obtain⟨u,r,l⟩:=hl i x v e1 e2 e3;refine⟨u,r,?_⟩;rcases l with l | ⟨k,c,e,z⟩
  ·exact .inl l
  ·exact .inr ⟨k,c,e,cellK x c e _ z⟩
 ·obtain⟨v,z⟩:=I.cell x c e;exact⟨v,cellK x c e v z⟩
 ·obtain⟨m,⟨o,_,_,ho,_⟩,_⟩:=I.loc;exact free _ o (λz=>(hch _ z).2.1 rfl) ho I.free
 ·obtain⟨v,o,ho,hd⟩:=I.cell x c e;exact free c o (λz=>(hch c z).2.2.1 x c e rfl) ho (I.freeC x c e)
 ·obtain⟨e,n,ne,nf,d⟩:=I.pin p hp;have nch:p.1∉ch:=λz=>(hch p.1 z).2.2.2 p hp rfl
  exact⟨keep p.1 p.2 ne nf nch e n,free p.1 p.2 nch e n,ne,nf,d⟩
theorem f6.un {t':Nat}(I:f6 X pins σ H s)(u:Un X.fs [] H H' s.heap h')(hok:C9 X.prog X.w H' h'):f6 X pins σ H' { s with heap:=h',toks:=t' }:=by
 obtain⟨m,⟨o,es,ep,ho,r⟩,_⟩:=id I.loc;obtain⟨sl,hL⟩:=u.any ho I.free (by simp);exact I.step (g':=s.gens) (d':=s.drawn) (ch:=[]) (λ_ z=>nomatch z) (λb o _ hb _ e n=>u.keep b o e n hb (by simp)) (λb o _ hb _ e n=>u.slot b o e n hb (by simp)) (λb o _ e n=>u.free b o e n (by simp)) (λb o _ e=>u.there b o e (by simp)) u.tups u.frzs u.tbls (λm' hm=>by
  obtain⟨o',es',ep',ho',r'⟩:=hm;rw[ho] at ho';cases ho';exact⟨_,es',ep',hL,r'⟩) hok I.bare
theorem f6.call {g':Array GenState}{t':Nat}{d':Drawn}{ch:List Addr}(I:f6 X pins σ H s)(u:Un (E6 X.stack) ch H H' s.heap h')(hok:C9 X.prog X.w H' h')(hg:AllBare g')
  (hch:∀ b∈ch,(b∈X.ex∨X.s₀.heap.objs.size<=b)/\b≠X.env.locals/\(∀ x c,X.env.cells.lookup x=some c->c≠b)/\∀ p∈X.pn++pins,p.1≠b) :
  f6 X pins σ H' { s with heap:=h',gens:=g',drawn:=d',toks:=t' }:=by
 obtain⟨m,⟨o,es,ep,ho,r⟩,_⟩:=id I.loc;obtain⟨sl,hL⟩:=u.any ho I.free λz=>(hch _ z).2.1 rfl
 exact I.step (ch:=ch) hch (λb o hL hb hc e n=>u.keep b o e n (λz=>(List.mem_cons.mp (I.stkSub b z)).elim hL hb) hc) (λb o _ _ hc e n=>u.any e n hc) (λb o hc e n=>u.free b o e n hc) (λb o hc e=>u.there b o e hc) u.tups u.frzs u.tbls (λm' hm=>by
  obtain⟨o',es',ep',ho',r'⟩:=hm;rw[ho] at ho';cases ho';exact⟨_,es',ep',hL,r'⟩) hok hg
theorem f6.turned {t':Nat}{it:Addr}(I:f6 X pins σ H s)(k:∀ b o,b≠it->s.heap.get? b=some o->h'.get? b=some o)(hn:H it=none)(hL:it≠X.env.locals)
  (h1:it∈X.ex∨X.s₀.heap.objs.size<=it) (h2:∀ x c,X.env.cells.lookup x=some c->c≠it) (h3:∀ p∈X.pn++pins,p.1≠it):f6 X pins σ H { s with heap:=h',toks:=t' }:=by
 have nit:∀ b u,H b=some u->b≠it:=λb u e z=>by rw[z,hn] at e;cases e
 refine I.step (g':=s.gens) (d':=s.drawn) (ch:=[it]) (λb hb=>?_) (λb o _ _ hc e _=>k b o (λz=>hc (by simp[z])) e) (λb o _ _ hc e _=>⟨o.slots,k b o (λz=>hc (by simp[z])) e⟩) (λ_ _ _ _ n=>n)
  (λb o hc e=>⟨o,k b o (λz=>hc (by simp[z])) e⟩) (λ_ _ e=>e) (λ_ _ _ e=>e) (λb ps e=>⟨#[],by rw[e];simp⟩) (λm hm=>?_) (λb u e=>?_) I.bare
 ·have e:b=it:=by simpa using hb
  subst e;exact⟨h1,hL,h2,h3⟩
 ·obtain⟨o,es,ep,ho,r⟩:=hm;exact⟨o,es,ep,k _ o (Ne.symm hL) ho,r⟩
 ·refine(I.hok b u e).stay (λc v hc q=>k c v ?_ q) (λ_ q=>q) λ_ _ q=>q
  rcases hc with z | z
  ·rw[z];exact nit b u e
  ·exact nit c _ z
theorem f6.tok (I:f6 X pins σ H s)(t:Nat):f6 X pins σ H { s with toks:=t }:=I.un (h':=s.heap) (t':=t) Un.refl I.hok
theorem f6.kept {t':Nat}(I:f6 X pins σ H s)(k:∀ b u,s.heap.get? b=some u->h'.get? b=some u):f6 X pins σ H { s with heap:=h',toks:=t' }:=I.un (Un.kept k) (I.hok.kept k)
theorem f6.laid {a:Addr}{o:HO}{t':Nat}(I:f6 X pins σ H s)(k:∀ b u,s.heap.get? b=some u->h'.get? b=some u)(hp:s.heap.objs.size<=a)(new:t0 X.prog X.w (upd H a o) h' a o) :
  f6 X pins σ (upd H a o) { s with heap:=h',toks:=t' }:=I.un (Un.laid k hp (I.hok.fresh hp)) (I.hok.laid k hp new)
theorem f6.write {x e:Addr}{o:HO}{t':Nat}(I:f6 X pins σ H s)(mu:nS (H x))(he:e=x∨H e=some (.own x))(k:∀ b u,b≠e->s.heap.get? b=some u->h'.get? b=some u)(heo:∃ u,h'.get? e=some u)
  (new:t0 X.prog X.w (upd H x o) h' x o):f6 X pins σ (upd H x o) { s with heap:=h',toks:=t' }:=I.un (Un.write mu he k heo) (I.hok.write mu he k heo new)
theorem f6.pins_of {pins':List (Addr×Obj)}(I:f6 X pins σ H s)(h:∀ p∈pins',s.heap.get? p.1=some p.2/\H p.1=none/\p.1≠X.env.locals/\p.1∉X.fs/\∀ v,p.2.data≠.cell v):f6 X pins' σ H s :=
 ⟨I.ok,I.os,I.bare,I.base,I.loc,I.cell,I.free,I.freeC,λp hp=>(List.mem_append.mp hp).elim (λz=>I.pin p (List.mem_append_left _ z)) (h p),I.hok,I.len⟩
theorem i_ {N:List Str}(hN:N.Nodup){i j:Nat}{x:Str}(a:N[i]?=some x)(b:N[j]?=some x):i=j:=by
 obtain⟨h1,e1⟩:=qE a;obtain⟨h2,e2⟩:=qE b;exact(List.getElem_inj hN).mp (e1.trans e2.symm)
theorem Kl {M:Model}{A:Around}{E:Value->Shared->Prop}{i:Nat}{x:Str}{v:V}{u:Value}{Q:Unit->Shared->Prop}(I:f6 X pins σ H s)(hN:X.N.Nodup)(hi:X.N[i]?=some x)(hx:fK X.env.scope x)(r:g9 v u)
  (h:∀ s',f6 X pins (σ.set i (some v)) H s'->(∃ a,Heap.SameBut a s.heap s'.heap/\(a=X.env.locals∨X.env.cells.lookup x=some a))->Q () s') (hf:X.fn x=true∨X.env.scope.names.lookup x=some .local:=by first | exact .inl rfl | exact .inr rfl | assumption):wpAny M A (storeName X.env x u) Q E s:=by
 obtain⟨m,hn,hl⟩:=id I.loc;have hcls:(X.env.scope.kind==.class||(X.env.scope.kind==.module&&X.env.locals != X.env.globals))=false:=by rw[I.ok.kind];rfl
 have hiσ:i < σ.length:=by rw[I.len];exact(qE hi).1
 have cne:=I.cne;have tracked:∀ {a:Addr} {h':Heap},(∃ o,s.heap.get? a=some o/\H a=none)->Heap.SameBut a s.heap h'->C9 X.prog X.w H h':=λ{a h'} ha hs b ob e=>by
  obtain⟨_,_,hfree⟩:=ha;refine(I.hok b ob e).stay (λc w' hc q=>(hs.2 c ?_).trans q) (λ_ q=>q) λ_ _ q=>q
  rintro rfl;rcases hc with rfl | hc
  ·rw[hfree] at e;cases e
  ·rw[hfree] at hc;cases hc
 rcases hx with hk | hk
 ·refine wpAny_storeName_local hk hn (λh' hn' hs=>?_) hcls;obtain⟨oL,_,_,hoL,_⟩:=id hn;refine h _ ⟨I.ok,I.os,I.bare,⟨λb o e n hb hx=>?_,λb o e n hb hx=>?_,I.base.free,λb o e hx=>?_,I.base.tups,I.base.frzs,I.base.tbls⟩,⟨_,hn',λj y v' e1 e2 e3=>?_⟩,λy c e=>?_,I.free,I.freeC,λp hp=>?_,tracked ⟨oL,hoL,I.free⟩ hs,by simpa using I.len⟩ ⟨_,hs,.inl rfl⟩
  ·exact(hs.2 b (Nat.ne_of_lt (Nat.lt_of_lt_of_le (Heap.lt_size e) I.ok.above))).trans (I.base.keep b o e n hb hx)
  ·obtain⟨sl,e1⟩:=I.base.slot b o e n hb hx;exact⟨sl,(hs.2 b (Nat.ne_of_lt (Nat.lt_of_lt_of_le (Heap.lt_size e) I.ok.above))).trans e1⟩
  ·obtain⟨o',e1⟩:=I.base.there b o e hx;exact⟨o',(hs.2 b (Nat.ne_of_lt (Nat.lt_of_lt_of_le (Heap.lt_size e) I.ok.above))).trans e1⟩
  ·by_cases hj:j=i
   ·subst hj;rw[hi] at e1;cases e1;rw[List.getElem?_set_self hiσ] at e2;cases e2;exact⟨u,r,.inl ⟨hk,by simp⟩⟩
   ·rw[List.getElem?_set_ne (Ne.symm hj)] at e2;obtain⟨u',r',q⟩:=hl j y v' e1 e2 e3;refine⟨u',r',?_⟩;rcases q with ⟨k,e⟩ | ⟨k,c,e,z⟩
    ·refine .inl ⟨k,?_⟩;have:y≠x:=λe=>hj (i_ hN e1 (e▸hi))
     simp[this,e]
    ·exact .inr ⟨k,c,e,z.sameBut hs (cne y c e)⟩
  ·obtain⟨w',z⟩:=I.cell y c e;exact⟨w',z.sameBut hs (cne y c e)⟩
  ·obtain⟨e,n,ne,nf,d⟩:=I.pin p hp;exact⟨(hs.2 p.1 ne).trans e,n,ne,nf,d⟩
 ·have hfn:X.fn x=true:=by
   rcases hf with z | z
   ·exact z
   ·rw[z] at hk;cases hk
  obtain⟨c,hc⟩:=I.ok.has x (.inl hk);obtain⟨w',z⟩:=I.cell x c hc;refine wpAny_storeName_cell I.ok.kind hk hc z (λh' hc' hs=>?_);obtain⟨oc,hoc,hocd⟩:=id z;refine h { s with heap:=h' } ⟨I.ok,I.os,I.bare,⟨λb o e n hb hx=>?_,λb o e n hb hx=>?_,I.base.free,λb o e hx=>?_,I.base.tups,I.base.frzs,I.base.tbls⟩,⟨m,hn.sameBut hs (Ne.symm (cne x c hc)),λj y v' e1 e2 e3=>?_⟩,λy c' e=>?_,I.free,I.freeC,λp hp=>?_,tracked ⟨oc,hoc,I.freeC x c hc⟩ hs,by simpa using I.len⟩ ⟨c,hs,.inr hc⟩
  ·exact(hs.2 b (Nat.ne_of_lt (Nat.lt_of_lt_of_le (Heap.lt_size e) (I.ok.cab x c hfn hc)))).trans (I.base.keep b o e n hb hx)
  ·obtain⟨sl,e1⟩:=I.base.slot b o e n hb hx;exact⟨sl,(hs.2 b (Nat.ne_of_lt (Nat.lt_of_lt_of_le (Heap.lt_size e) (I.ok.cab x c hfn hc)))).trans e1⟩
  ·obtain⟨o',e1⟩:=I.base.there b o e hx;exact⟨o',(hs.2 b (Nat.ne_of_lt (Nat.lt_of_lt_of_le (Heap.lt_size e) (I.ok.cab x c hfn hc)))).trans e1⟩
  ·by_cases hj:j=i
   ·subst hj;rw[hi] at e1;cases e1;rw[List.getElem?_set_self hiσ] at e2;cases e2;exact⟨u,r,.inr ⟨.inl hk,c,hc,hc'⟩⟩
   ·rw[List.getElem?_set_ne (Ne.symm hj)] at e2;obtain⟨u',r',q⟩:=hl j y v' e1 e2 e3;refine⟨u',r',?_⟩;rcases q with q | ⟨k,c',e,z'⟩
    ·exact .inl q
    ·refine .inr ⟨k,c',e,z'.sameBut hs ?_⟩;rintro rfl;exact hj (i_ hN e1 (I.ok.inj _ _ _ e hc▸hi))
  ·by_cases hcc:c'=c
   ·subst hcc;exact⟨_,hc'⟩
   ·obtain⟨w2,z2⟩:=I.cell y c' e;exact⟨w2,z2.sameBut hs hcc⟩
  ·obtain⟨e,n,ne,nf,d⟩:=I.pin p hp;refine⟨(hs.2 p.1 ?_).trans e,n,ne,nf,d⟩;intro q;rw[q,hoc] at e;have q':oc=p.2:=Option.some.inj e;exact d w' (by rw[<- q'];exact hocd)
theorem sP {M:Model}{A:Around}{E:Value->Shared->Prop}{i:Nat}{x:Str}{v:V}{u:Value}{Q:Unit->Shared->Prop}(I:f6 X pins σ H s)(hN:X.N.Nodup)(hi:X.N[i]?=some x)(hx:fK X.env.scope x)(r:g9 v u)
  (h:∀ s',f6 X pins (σ.set i (some v)) H s'->Q () s') (hf:X.fn x=true∨X.env.scope.names.lookup x=some .local:=by first | exact .inl rfl | exact .inr rfl | assumption):wpAny M A (storeName X.env x u) Q E s :=
 Kl I hN hi hx r (λs' I' _=>h s' I') hf
theorem f6.call' {s':Shared}{ch:List Addr}(I:f6 X pins σ H s)(ho:s'.os=s.os)(u:Un (E6 X.stack) ch H H' s.heap s'.heap)(hok:C9 X.prog X.w H' s'.heap)(hg:AllBare s'.gens)
  (hch:∀ b∈ch,(b∈X.ex∨X.s₀.heap.objs.size<=b)/\b≠X.env.locals/\(∀ x c,X.env.cells.lookup x=some c->c≠b)/\∀ p∈X.pn++pins,p.1≠b):f6 X pins σ H' s':=by
 obtain⟨h',g',d',t',o'⟩:=s';have e:o'=s.os:=ho;subst e;exact I.call (g':=g') (t':=t') (d':=d') u hok hg hch
end
abbrev XK:=Value->Option Addr->Hp->Prop
abbrev St:=List (Option V)
abbrev VK:=V->Hp->Prop
abbrev TE:=St->Hp->VK->Prop
abbrev TT:=St->Hp->(Bool->Hp->Prop)->Prop
abbrev TA:=St->Hp->(List V->Hp->Prop)->Prop
structure S0 where
 nx:St->Hp->Prop
 rt:VK
 bk:St->Hp->Prop:=λ_ _=>False
 ct:St->Hp->Prop:=λ_ _=>False
abbrev TS:=S0->St->Hp->Prop
def EP (X:Cx)(pins:List (Addr×Obj))(σ:St)(Q:VK)(u:Value)(s':Shared):Prop:=∃ v H',f6 X pins σ H' s'/\g9 v u/\Q v H'
def TP (X:Cx)(pins:List (Addr×Obj))(σ:St)(Q:Bool->Hp->Prop)(b:Bool)(s':Shared):Prop:=∃ H',f6 X pins σ H' s'/\Q b H'
def AP (X:Cx)(pins:List (Addr×Obj))(σ:St)(Q:List V->Hp->Prop)(us:List Value)(s':Shared):Prop:=∃ vs H',f6 X pins σ H' s'/\f8 vs us/\Q vs H'
def SP (X:Cx)(pins:List (Addr×Obj))(D:S0)(f:Flow)(s':Shared):Prop :=
 match f with
 | .next=>∃ σ' H',f6 X pins σ' H' s'/\D.nx σ' H'
 | .brk=>∃ σ' H',f6 X pins σ' H' s'/\D.bk σ' H'
 | .cont=>∃ σ' H',f6 X pins σ' H' s'/\D.ct σ' H'
 | .ret u=>∃ v σ' H',f6 X pins σ' H' s'/\g9 v u/\D.rt v H'
def PE (X:Cx)(e:Expr)(t:TE):Prop :=
 ∀ (pins:List (Addr×Obj)) (s:Shared) (σ:St) (H:Hp) (Q:VK),f6 X pins σ H s->t σ H Q->wpAny (model X.prog X.w) X.A (eval e X.env) (EP X pins σ Q) X.xe s
def PT (X:Cx)(e:Expr)(t:TT):Prop :=
 ∀ (pins:List (Addr×Obj)) (s:Shared) (σ:St) (H:Hp) (Q:Bool->Hp->Prop),f6 X pins σ H s->t σ H Q->wpAny (model X.prog X.w) X.A (isTrue e X.env (eval e X.env)) (TP X pins σ Q) X.xe s
def PW (X:Cx)(e:Expr)(t:TT):Prop :=
 ∀ (whole:Sem Value) (pins:List (Addr×Obj)) (s:Shared) (σ:St) (H:Hp) (Q:Bool->Hp->Prop),f6 X pins σ H s->t σ H Q->wpAny (model X.prog X.w) X.A (isTrue e X.env whole) (TP X pins σ Q) X.xe s
theorem PW.pt {X:Cx}{e:Expr}{t:TT}(h:PW X e t):PT X e t:=h _
def PA (X:Cx)(es:List Expr)(t:TA):Prop :=
 ∀ (pos:Pos) (pins:List (Addr×Obj)) (s:Shared) (σ:St) (H:Hp) (Q:List V->Hp->Prop),f6 X pins σ H s->t σ H Q->wpAny (model X.prog X.w) X.A (spliced (backTo pos (starEach es X.env))) (AP X pins σ Q) X.xe s
def PS (X:Cx)(st:Stmt)(t:TS):Prop :=
 ∀ (pins:List (Addr×Obj)) (s:Shared) (σ:St) (H:Hp) (D:S0),f6 X pins σ H s->t D σ H->wpAny (model X.prog X.w) X.A (exec st X.env) (SP X pins D) X.xe s
def U4 (X:Cx)(st:List Stmt)(t:TS):Prop :=
 ∀ (pins:List (Addr×Obj)) (s:Shared) (σ:St) (H:Hp) (D:S0),f6 X pins σ H s->t D σ H->wpAny (model X.prog X.w) X.A (execs st X.env) (SP X pins D) X.xe s
theorem t6 {α:Type}{t:Sem α}{Q Q':α->Shared->Prop}{M:Model}{A:Around}{E:Value->Shared->Prop}{s:Shared}(h:wpAny M A t Q E s)(hQ:∀ a s,Q a s->Q' a s):wpAny M A t Q' E s:=wpAny_mono h hQ λ_ _ x=>x
section
variable {X:Cx}
theorem bin {a b:Expr}{ta tb:TE}(ha:PE X a ta)(hb:PE X b tb){pins:List (Addr×Obj)}{s:Shared}{σ:St}{H:Hp}{R:V->V->Hp->Prop}(I:f6 X pins σ H s)(h:ta σ H λx H1=>tb σ H1 λy H2=>R x y H2)
  {α:Type} {Q:α->Shared->Prop} {f:Value->Value->Sem α}
  (hf:∀ v u s2 x y H2,f6 X pins σ H2 s2->g9 x v->g9 y u->R x y H2->wpAny (model X.prog X.w) X.A (f v u) Q X.xe s2) :
  wpAny (model X.prog X.w) X.A (eval a X.env) (λv s₁=>wpAny (model X.prog X.w) X.A (eval b X.env) (λu s₂=>wpAny (model X.prog X.w) X.A (f v u) Q X.xe s₂) X.xe s₁) X.xe s:=by
 refine t6 (ha pins s σ H _ I h) λv s1 zq=>?_
 obtain⟨x,H1,I1,r1,q1⟩:=zq;refine t6 (hb pins s1 σ H1 _ I1 q1) λu s2 zq=>?_
 obtain⟨y,H2,I2,r2,q2⟩:=zq;exact hf v u s2 x y H2 I2 r1 r2 q2
def D7 (i:Nat):TE:=fun σ H Q=>∃ v,σ[i]?=some (some v)/\Q v H
def tC (v:V):TE:=λ_ H Q=>Q v H
theorem J_ {i:Nat}{x:Str}{pos:Pos}(hN:X.N[i]?=some x)(hv:mC X.env.scope x)(hd:(x==("__debug__" : Str))=false:=by decide)(hcd:(x==("__classdict__" : Str))=false:=by decide):PE X (.Name x pos) (D7 i):=by
 intro pins s σ H Q I h;obtain⟨v,e,h⟩:=h;obtain⟨m,hn,hl⟩:=I.loc;obtain⟨u,r,l⟩:=hl i x v hN e hv;have fin:EP X pins σ Q u s:=⟨v,H,I,r,h⟩;rcases l with ⟨hk,hm⟩ | ⟨hk,c,hc,hcell⟩
 ·exact wpAny_Name (wpAny_loadName_local I.ok.kind hk hn hm fin) hd
 ·rcases hk with hk | hk
  ·exact wpAny_Name (wpAny_loadName_cell I.ok.kind hk hc hcell fin) hd
  ·exact wpAny_Name (wpAny_loadName_free I.ok.kind hk hc hcell fin hcd) hd
theorem c8 {i j pos}:PE X (.Constant (.int i) j pos) (tC (.int i)):=λ_ _ _ H _ I h=>wpAny_Constant_int ⟨.int i,H,I.tok _,⟨_,rfl⟩,h⟩
theorem v8 {b j pos}:PE X (.Constant (.bool b) j pos) (tC (.bl b)):=λ_ _ _ H _ I h=>Constant_bool ⟨.bl b,H,I,rfl,h⟩
theorem V3 {j pos}:PE X (.Constant .none j pos) (tC .non):=λ_ _ _ H _ I h=>Constant_none ⟨.non,H,I,rfl,h⟩
theorem n9 {x j pos}:PE X (.Constant (.str x) j pos) (tC (.str x)):=λ_ _ _ H _ I h=>Calls.Constant_str ⟨.str x,H,I.tok _,⟨_,rfl⟩,h⟩
def Gl (X:Cx)(x:Str):Prop:=X.env.kindOf x=some .globalImplicit
theorem gD {E:Value->Shared->Prop}{pins:List (Addr×Obj)}{s:Shared}{σ:St}{H:Hp}{x:Str}{u:Value}{pos:Pos}{Q:Value->Shared->Prop}(I:f6 X pins σ H s)(hg:Gl X x)(hm:X.mg x=some u)(h:Q u s)
  (hd:(x==("__debug__" : Str))=false:=by decide):wpAny (model X.prog X.w) X.A (eval (.Name x pos) X.env) Q E s :=
 Calls.Name_function_global I.ok.kind hg (Calls.loadGlobal_global (by rw[I.ok.glob];exact I.mod.glob.keeps I.bk) hm h) hd
theorem hU {E:Value->Shared->Prop}{pins:List (Addr×Obj)}{s:Shared}{σ:St}{H:Hp}{x:Str}{u:Value}{pos:Pos}{Q:Value->Shared->Prop}(I:f6 X pins σ H s)(hg:Gl X x)(hm:X.mg x=none)(hv:bootBuiltins x=some u)(h:Q u s)
  (hn:x≠"__name__":= by decide) (hd:(x==("__debug__" : Str))=false:=by decide):wpAny (model X.prog X.w) X.A (eval (.Name x pos) X.env) Q E s:=by
 obtain⟨mb,h1,h2⟩:=I.mod.blt;exact Calls.Name_function_global I.ok.kind hg (Calls.loadGlobal_builtin (by rw[I.ok.glob];exact I.mod.glob.keeps I.bk) hm (by rw[I.ok.blt];exact h1.keeps I.bk) ((h2 x hn).trans hv) h) hd
theorem Q3 {x:Str}{v:V}{u:Value}{pos:Pos}(hg:Gl X x)(hm:X.mg x=some u)(r:g9 v u)(hd:(x==("__debug__" : Str))=false:=by decide):PE X (.Name x pos) (tC v) :=
 λ_ _ _ H _ I h=>gD I hg hm ⟨v,H,I,r,h⟩ hd
theorem yo4 {x:Str}{v:V}{u:Value}{pos:Pos}(hg:Gl X x)(hm:X.mg x=none)(hv:bootBuiltins x=some u)(r:g9 v u)(hn:x≠"__name__":= by decide)(hd:(x==("__debug__" : Str))=false:=by decide):PE X (.Name x pos) (tC v) :=
 λ_ _ _ H _ I h=>hU I hg hm hv ⟨v,H,I,r,h⟩ hn hd
variable {a b:Expr} {ta tb:TE} {pos:Pos}
def tB (t:TE):TT:=fun σ H Q=>t σ H λx H1=>∃ c,x=.bl c/\Q c H1
theorem F4 {e:Expr}{t:TE}(h:PE X e t)(he:∀ whole,isTrue e X.env whole=(do let v ← whole;standAt e.pos;holding [v] (truthy v)):=by intro _;rfl):PT X e (tB t):=by
 intro pins s σ H Q I hw;refine isTrue_plain (t6 (h pins s σ H _ I hw) λv s1 zq=>?_) (he _);obtain⟨x,H1,I1,r1,q1⟩:=zq;obtain⟨d,rfl,q⟩:=q1;cases r1;exact wpAny_truthy_bool ⟨H1,I1,q⟩
variable {tA tB':TT} {rest:List Expr}
def vW (t u:TT):TT:=fun σ H Q=>t σ H λc H1=>if c=true then u σ H1 Q else Q false H1
def uI (t u:TT):TT:=fun σ H Q=>t σ H λc H1=>if c=true then Q true H1 else u σ H1 Q
def tJ (t:TT):TT:=fun σ H Q=>t σ H λc H1=>Q (!c) H1
theorem jF (ha:PT X a tA):PW X (.BoolOp .And [a] pos) tA:=by
 intro wh pins s σ H Q I h;refine isTrue_and (t6 (ha pins s σ H Q I h) λc s1 e=>?_);cases c with
 | true=>exact isTrue_and_nil e
 | false=>exact e
theorem Z5 (ha:PT X a tA):PW X (.BoolOp .Or [a] pos) tA:=by
 intro wh pins s σ H Q I h;refine isTrue_or (t6 (ha pins s σ H Q I h) λc s1 e=>?_);cases c with
 | false=>exact isTrue_or_nil e
 | true=>exact e
theorem iV (ha:PT X a tA)(hb:PW X (.BoolOp .And (b :: rest) pos) tB'):PW X (.BoolOp .And (a :: b :: rest) pos) (vW tA tB'):=by
 intro wh pins s σ H Q I h;refine isTrue_and (t6 (ha pins s σ H _ I h) λc s1 zq=>?_);obtain⟨H1,I1,q1⟩:=zq;cases c with
 | true=>exact hb wh pins s1 σ H1 Q I1 q1
 | false=>exact⟨H1,I1,q1⟩
theorem V5 (ha:PT X a tA)(hb:PW X (.BoolOp .Or (b :: rest) pos) tB'):PW X (.BoolOp .Or (a :: b :: rest) pos) (uI tA tB'):=by
 intro wh pins s σ H Q I h;refine isTrue_or (t6 (ha pins s σ H _ I h) λc s1 zq=>?_);obtain⟨H1,I1,q1⟩:=zq;cases c with
 | true=>exact⟨H1,I1,q1⟩
 | false=>exact hb wh pins s1 σ H1 Q I1 q1
theorem L3 (ha:PT X a tA):PT X (.UnaryOp .Not a pos) (tJ tA):=by
 intro pins s σ H Q I h;exact isTrue_not (ha pins s σ H (λc H1=>Q (!c) H1) I h)
def jG (ta tb:TE):TE:=fun σ H Q=>ta σ H λx H1=>∃ c,x=.bl c/\if c=true then tb σ H1 Q else Q (.bl false) H1
def oJ (ta tb:TE):TE:=fun σ H Q=>ta σ H λx H1=>∃ c,x=.bl c/\if c=true then Q (.bl true) H1 else tb σ H1 Q
def nD (ta:TE):TE:=fun σ H Q=>ta σ H λx H1=>∃ c,x=.bl c/\Q (.bl (!c)) H1
theorem N6 {op}{t:TE}(h:PE X a t):PE X (.BoolOp op [a] pos) t:=λpins s σ H Q I hw=>BoolOp_one (h pins s σ H Q I hw)
theorem N0 (ha:PE X a ta)(hb:PE X (.BoolOp .And (b :: rest) pos) tb):PE X (.BoolOp .And (a :: b :: rest) pos) (jG ta tb):=by
 intro pins s σ H Q I h;refine BoolOp_and (t6 (ha pins s σ H _ I h) λv s1 zq=>?_);obtain⟨x,H1,I1,r1,q1⟩:=zq;obtain⟨c,rfl,q1⟩:=q1;cases r1;refine wpAny_truthy_bool ?_;cases c with
 | true=>exact hb pins s1 σ H1 Q I1 q1
 | false=>exact⟨.bl false,H1,I1,rfl,q1⟩
theorem oK (ha:PE X a ta)(hb:PE X (.BoolOp .Or (b :: rest) pos) tb):PE X (.BoolOp .Or (a :: b :: rest) pos) (oJ ta tb):=by
 intro pins s σ H Q I h;refine BoolOp_or (t6 (ha pins s σ H _ I h) λv s1 zq=>?_);obtain⟨x,H1,I1,r1,q1⟩:=zq;obtain⟨c,rfl,q1⟩:=q1;cases r1;refine wpAny_truthy_bool ?_;cases c with
 | false=>exact hb pins s1 σ H1 Q I1 q1
 | true=>exact⟨.bl true,H1,I1,rfl,q1⟩
theorem kW (ha:PE X a ta):PE X (.UnaryOp .Not a pos) (nD ta):=by
 intro pins s σ H Q I h;refine UnaryOp_ (t6 (ha pins s σ H _ I h) λv s1 zq=>?_);obtain⟨x,H1,I1,r1,q1⟩:=zq;obtain⟨c,rfl,q1⟩:=q1;cases r1;exact not_of (wpAny_truthy_bool ⟨.bl (!c),H1,I1,rfl,q1⟩)
def vZ (t:TT)(ta tb:TE):TE:=fun σ H Q=>t σ H λc H1=>if c=true then ta σ H1 Q else tb σ H1 Q
theorem yP {c:Expr}(hc:PT X c tA)(ha:PE X a ta)(hb:PE X b tb):PE X (.IfExp c a b pos) (vZ tA ta tb):=by
 intro pins s σ H Q I h;refine wpAny_IfExp (t6 (hc pins s σ H _ I h) λd s1 zq=>?_);obtain⟨H1,I1,q1⟩:=zq;cases d with
 | true=>exact ha pins s1 σ H1 Q I1 q1
 | false=>exact hb pins s1 σ H1 Q I1 q1
end
def d0 (K:qF)(H:Hp)(a:Addr)(xs:List V):Prop :=
 Rd H a (.lst xs) ∨
  ∃ (o:Obj) (its:Array Value) (n:Nat),K.lookup a=some o/\o.cls=.type "list" /\ o.dict=none/\o.data=.seq its n/\its.size<=sizeLine/\f8 xs its.toList
def m9 (K:qF)(H:Hp)(a:Addr)(xs:List V):Prop :=
 Rd H a (.tup xs) ∨
  ∃ (o:Obj) (its:Array Value) (n:Nat),K.lookup a=some o/\o.cls=.type "tuple" /\ o.data=.seq its n/\its.size<=sizeLine/\f8 xs its.toList
def yu1:Value->Option V
 | .none=>some .non
 | .bool b=>some (.bl b)
 | .int i _=>some (.int i)
 | .str x _=>some (.str x)
 | .bytes b _=>some (.byt b)
 | .float b _=>some (.flt b)
 | .ref a=>some (.ref a)
 | .type n=>some (.ty n)
 | _=>none
theorem g9.abs {x:V}{u:Value}(r:g9 x u):yu1 u=some x:=by
 cases x with
 | non=>cases r;rfl
 | bl _=>cases r;rfl
 | int _=>obtain⟨t,rfl⟩:=r;rfl
 | str _=>obtain⟨t,rfl⟩:=r;rfl
 | byt _=>obtain⟨t,rfl⟩:=r;rfl
 | flt _=>obtain⟨t,rfl⟩:=r;rfl
 | ref _=>cases r;rfl
 | ty _=>cases r;rfl
theorem g9.inj {x y:V}{u:Value}(r:g9 x u)(q:g9 y u):x=y:=Option.some.inj (r.abs.symm.trans q.abs)
theorem f8.inj:∀ {xs ys:List V} {us:List Value},f8 xs us->f8 ys us->xs=ys
 | _,_,_,.nil,.nil=>rfl
 | _,_,_,.cons r t,.cons r' t'=>by rw[r.inj r',f8.inj t t']
section
variable {X:Cx} {pins:List (Addr×Obj)} {σ:St} {H:Hp} {s:Shared} {a:Addr} {xs ys:List V}
theorem d0.of {K:qF}(h:H a=some (.lst xs)):d0 K H a xs:=.inl (.inl h)
theorem m9.of {K:qF}(h:H a=some (.tup xs)):m9 K H a xs:=.inl (.inl h)
theorem f6.list (I:f6 X pins σ H s)(h:d0 X.K H a xs):∃ its:List Value,f8 xs its/\PlainL s.heap a its.toArray/\xs.length<=sizeLine:=by
 rcases h with h | ⟨o,its,n,hk,hc,hd,hs,hz,r⟩
 ·obtain⟨z,its,n,r,e⟩:=h.ok I.hok;exact⟨its,r,⟨_,n,e,rfl,rfl,rfl⟩,z⟩
 ·refine⟨its.toList,r,⟨o,n,I.kIn a o hk,hc,hd,by simpa using hs⟩,?_⟩;have e:=r.length;simp only[Array.length_toList] at e;omega
theorem f6.tuple (I:f6 X pins σ H s)(h:m9 X.K H a xs):∃ its:List Value,f8 xs its/\IsTup s.heap a its.toArray/\xs.length<=sizeLine:=by
 rcases h with h | ⟨o,its,n,hk,hc,hs,hz,r⟩
 ·obtain⟨z,its,r,p⟩:=h.ok I.hok;exact⟨its,r,p,z⟩
 ·refine⟨its.toList,r,⟨o,I.kIn a o hk,hc,n,by simpa using hs⟩,?_⟩;have e:=r.length;simp only[Array.length_toList] at e;omega
theorem f6.list_inj (I:f6 X pins σ H s)(h:d0 X.K H a xs)(h':d0 X.K H a ys):xs=ys:=by
 obtain⟨its,r,⟨o,n,e,_,_,d⟩,_⟩:=I.list h;obtain⟨its',r',⟨o',n',e',_,_,d'⟩,_⟩:=I.list h';rw[e] at e';cases e';rw[d] at d';injection d' with d1 _
 have:its=its':=by simpa using congrArg Array.toList d1
 subst this;exact r.inj r'
theorem f6.tuple_inj (I:f6 X pins σ H s)(h:m9 X.K H a xs)(h':m9 X.K H a ys):xs=ys:=by
 obtain⟨its,r,⟨o,e,_,n,d⟩,_⟩:=I.tuple h;obtain⟨its',r',⟨o',e',_,n',d'⟩,_⟩:=I.tuple h';rw[e] at e';cases e';rw[d] at d';injection d' with d1 _
 have:its=its':=by simpa using congrArg Array.toList d1
 subst this;exact r.inj r'
end
abbrev Cx.wish (X:Cx)(E:Value->Shared->Prop):Cx:={ X with xe:=E }
abbrev Cx.nox (X:Cx):Cx:=X.wish λ_ _=>False
theorem Cx.Ok.wish {X:Cx}(ok:X.Ok)(E:Value->Shared->Prop):(X.wish E).Ok :=
 ⟨ok.mod,ok.kind,ok.glob,ok.blt,ok.above,ok.inj,ok.has,ok.cab,ok.hd,ok.frames,ok.stk,ok.exf,ok.bs,ok.bsz,ok.noex,ok.exfs,ok.funs,ok.frf⟩
theorem Cx.Ok.unwish {X:Cx}{E:Value->Shared->Prop}(ok:(X.wish E).Ok):X.Ok :=
 ⟨ok.mod,ok.kind,ok.glob,ok.blt,ok.above,ok.inj,ok.has,ok.cab,ok.hd,ok.frames,ok.stk,ok.exf,ok.bs,ok.bsz,ok.noex,ok.exfs,ok.funs,ok.frf⟩
section
variable {X:Cx} {pins:List (Addr×Obj)} {σ:St} {H:Hp} {s:Shared} {E:Value->Shared->Prop}
theorem f6.wish (I:f6 X pins σ H s)(E:Value->Shared->Prop):f6 (X.wish E) pins σ H s:=⟨I.ok.wish E,I.os,I.bare,I.base,I.loc,I.cell,I.free,I.freeC,I.pin,I.hok,I.len⟩
theorem f6.unwish (I:f6 (X.wish E) pins σ H s):f6 X pins σ H s:=⟨I.ok.unwish,I.os,I.bare,I.base,I.loc,I.cell,I.free,I.freeC,I.pin,I.hok,I.len⟩
theorem SP.unwish {D:S0}{f:Flow}{s':Shared}(h:SP (X.wish E) pins D f s'):SP X pins D f s':=by
 cases f with
 | next=>obtain⟨σ',H',I,q⟩:=h;exact⟨σ',H',I.unwish,q⟩
 | brk=>obtain⟨σ',H',I,q⟩:=h;exact⟨σ',H',I.unwish,q⟩
 | cont=>obtain⟨σ',H',I,q⟩:=h;exact⟨σ',H',I.unwish,q⟩
 | ret u=>obtain⟨v,σ',H',I,r,q⟩:=h;exact⟨v,σ',H',I.unwish,r,q⟩
theorem U4.nox {st:List Stmt}{t:TS}(h:U4 X.nox st t):U4 X st t:=λpins s σ H D I hw =>
 wpAny_mono (h pins s σ H D (I.wish _) hw) (λ_ _ q=>q.unwish) λ_ _ z=>False.elim z
end
section
variable {X:Cx} {st:Stmt} {rest:List Stmt} {t u:TS} {e:Expr} {te:TE} {pos:Pos}
def vX:TS:=λD σ H=>D.nx σ H
def tH (t u:TS):TS:=λD σ H=>t { D with nx:=u D } σ H
theorem B4:U4 X [] vX:=λ_ _ σ H _ I h=>wpAny_execs_nil ⟨σ,H,I,h⟩
theorem f7 (h1:PS X st t)(h2:U4 X rest u):U4 X (st :: rest) (tH t u):=by
 intro pins s σ H D I h;refine wpAny_execs_cons (t6 (h1 pins s σ H { D with nx:=u D } I h) λf s1 q=>?_);cases f with
 | next=>
  obtain⟨σ',H',I',q⟩:=q;exact h2 pins s1 σ' H' D I' q
 | ret v=>exact q
 | brk=>exact q
 | cont=>exact q
theorem j0 (h1:PS X st t):U4 X [st] t:=by
 intro pins s σ H D I h;refine wpAny_execs_cons (t6 (h1 pins s σ H D I h) λf s1 q=>?_);cases f with
 | next=>exact wpAny_execs_nil q
 | ret v=>exact q
 | brk=>exact q
 | cont=>exact q
theorem f6.quiet {pins:List (Addr×Obj)}{σ:St}{H:Hp}{s:Shared}(I:f6 X pins σ H s):interactive X.env=false:=by simp[interactive,I.ok.kind]
def sD (te:TE):TS:=λD σ H=>te σ H λ_ H1=>D.nx σ H1
theorem E7 (he:PE X e te)(hs:swapsWith e none pos.line X.env=pure false:=by rfl):PS X (.Expr e pos) (sD te):=by
 intro pins s σ H D I h;exact wpAny_Expr_any (t6 (he pins s σ H _ I h) λv s1 ⟨x,H1,I1,r1,q1⟩=>⟨σ,H1,I1,q1⟩) I.quiet hs
def wY (te:TE):TS:=λD σ H=>te σ H D.rt
theorem r6 (he:PE X e te):PS X (.Return (some e) pos) (wY te):=by
 intro pins s σ H D I h;exact wpAny_Return_some (t6 (he pins s σ H _ I h) λv s1 ⟨x,H1,I1,r1,q1⟩=>⟨x,σ,H1,I1,r1,q1⟩)
def cM (c:TT)(t u:TS):TS:=λD σ H=>c σ H λb H1=>if b=true then t D σ H1 else u D σ H1
theorem A7 {c:Expr}{a b:List Stmt}{tc:TT}(hc:PT X c tc)(ha:U4 X a t)(hb:U4 X b u):PS X (.If c a b pos) (cM tc t u):=by
 intro pins s σ H D I h;refine wpAny_If (t6 (hc pins s σ H _ I h) λd s1 zq=>?_);obtain⟨H1,I1,q1⟩:=zq;cases d with
 | true=>exact ha pins s1 σ H1 D I1 q1
 | false=>exact hb pins s1 σ H1 D I1 q1
end
abbrev TG:=V->St->Hp->(St->Hp->Prop)->Prop
abbrev iX:=List V->St->Hp->(St->Hp->Prop)->Prop
def PG (X:Cx)(target:Expr)(t:TG):Prop :=
 ∀ (pins:List (Addr×Obj)) (s:Shared) (σ:St) (H:Hp) (v:V) (u:Value) (Q:St->Hp->Prop),f6 X pins σ H s->g9 v u->t v σ H Q ->
  wpAny (model X.prog X.w) X.A (assign target X.env u) (λ_ s'=>∃ σ' H',f6 X pins σ' H' s'/\Q σ' H') X.xe s
def nL (X:Cx)(ts:List Expr)(t:iX):Prop :=
 ∀ (pins:List (Addr×Obj)) (s:Shared) (σ:St) (H:Hp) (vs:List V) (us:List Value) (Q:St->Hp->Prop),f6 X pins σ H s->f8 vs us->t vs σ H Q ->
  wpAny (model X.prog X.w) X.A (assignInOrder ((assignEach ts X.env).map (·.2)) us) (λ_ s'=>∃ σ' H',f6 X pins σ' H' s'/\Q σ' H') X.xe s
abbrev rR:=V->V->V->Hp->(Hp->Prop)->Prop
def a_ (X:Cx)(t:rR):Prop :=
 ∀ (pins:List (Addr×Obj)) (s:Shared) (σ:St) (H:Hp) (o i v:V) (ov iv u:Value) (Q:Hp->Prop),f6 X pins σ H s->g9 o ov->g9 i iv->g9 v u->t o i v H Q ->
  wpAny (model X.prog X.w) X.A (setItem ov iv u) (λ_ s'=>∃ H',f6 X pins σ H' s'/\Q H') X.xe s
abbrev nX:=V->V->Hp->VK->Prop
def qg (X:Cx)(op:Operator)(t:nX):Prop :=
 ∀ (pins:List (Addr×Obj)) (s:Shared) (σ:St) (H:Hp) (x y:V) (v u:Value) (Q:VK),f6 X pins σ H s->g9 x v->g9 y u->t x y H Q ->
  wpAny (model X.prog X.w) X.A (inplaceOp op v u) (EP X pins σ Q) X.xe s
section
variable {X:Cx} {pos:Pos}
def G9 (i:Nat):TG:=λv σ H Q=>Q (σ.set i (some v)) H
theorem eV {i:Nat}{x:Str}(hN:X.N.Nodup)(hi:X.N[i]?=some x)(hx:fK X.env.scope x)(hf:X.fn x=true∨X.env.scope.names.lookup x=some .local:=by first | exact .inl rfl | exact .inr rfl | assumption):PG X (.Name x pos) (G9 i):=by
 intro pins s σ H v u Q I r h;exact wpAny_assign_Name (sP I hN hi hx r (λs' I'=>⟨_,H,I',h⟩) hf)
def fZ:iX:=λvs σ H Q=>vs=[]/\Q σ H
def aR (t:TG)(u:iX):iX:=λvs σ H Q=>∃ v r,vs=v :: r/\t v σ H fun σ' H'=>u r σ' H' Q
theorem nK:nL X [] fZ:=by
 intro pins s σ H vs us Q I r h;obtain⟨e,h⟩:=h;subst e;cases r;exact assignInOrder_nil ⟨σ,H,I,h⟩
theorem dG {e:Expr}{es:List Expr}{t:TG}{u:iX}(h1:PG X e t)(h2:nL X es u)
  (hs:(assignEach (e :: es) X.env).map (·.2)=assign e X.env :: (assignEach es X.env).map (·.2):=by rfl):nL X (e :: es) (aR t u):=by
 intro pins s σ H vs us Q I r h;obtain⟨v,vr,e1,h⟩:=h;subst e1;cases r with
 | cons r rr=>
  rw[hs];refine assignInOrder_cons (t6 (h1 pins s σ H _ _ _ I r h) λ_ s1 zq=>?_);obtain⟨σ1,H1,I1,q1⟩:=zq;exact h2 pins s1 σ1 H1 _ _ Q I1 rr q1
def gB (K:qF)(n:Nat)(t:iX):TG:=λv σ H Q=>∃ a xs,v=.ref a/\m9 K H a xs/\xs.length=n/\t xs σ H Q
theorem lK {es:List Expr}{k:Nat}{t:iX}{n:Nat}(hc:X.calm=true)(h:nL X es t)
  (hn:(assignEach es X.env).length=n:=by rfl) (hst:(assignEach es X.env).findIdx? (·.1)=none:=by rfl):PG X (.Tuple es k pos) (gB X.K n t):=by
 intro pins s σ H v u Q I r hw;obtain⟨a,xs,e1,hq,hl,hw⟩:=hw;subst e1;cases r;obtain⟨its,rv,ht,hz⟩:=I.tuple hq;refine assign_Tuple_tuple (I.ok.hd hc) ht (by simp[hn,<- hl,rv.length]) hst λh' hx=>?_
 have I1:f6 X pins σ H { s with heap:=h' }:=I.kept (t':=s.toks) λb o e=>hx b o (Nat.ne_of_lt (Heap.lt_size e)) e
 exact h pins _ σ H xs _ Q I1 (by simpa using rv) hw
def wP (to ti:TE)(t:rR):TG:=λv σ H Q=>to σ H λo H1=>ti σ H1 λi H2=>t o i v H2 λH3=>Q σ H3
theorem jc {o i:Expr}{to ti:TE}{t:rR}(ho:PE X o to)(hi:PE X i ti)(hs:a_ X t)
  (ha:∀ v,assign (.Subscript o i pos) X.env v=(do
   let ov ← holding [v] (eval o X.env)
   let iv ← holding [v,ov] (eval i X.env)
   standAt pos
   holding [v,ov,iv] (setItem ov iv v)
   release [v,ov,iv] []):=by intro _;rfl):PG X (.Subscript o i pos) (wP to ti t):=by
 intro pins s σ H v u Q I r h;rw[ha];refine wpAny_bind (wpAny_holding (t6 (ho pins s σ H _ I h) λov s1 zq=>?_));obtain⟨x,H1,I1,r1,q1⟩:=zq;refine wpAny_bind (wpAny_holding (t6 (hi pins s1 σ H1 _ I1 q1) λiv s2 zq=>?_));obtain⟨y,H2,I2,r2,q2⟩:=zq;refine wpAny_bind (wpAny_standAt (wpAny_bind (wpAny_holding (t6 (hs pins s2 σ H2 x y v ov iv u _ I2 r1 r2 r q2) λ_ s3 zq=>?_))));obtain⟨H3,I3,q3⟩:=zq;exact wpAny_release ⟨σ,H3,I3,q3⟩
def bY (te:TE)(g:TG):TS:=λD σ H=>te σ H λx H1=>g x σ H1 D.nx
theorem uH {tg e:Expr}{te:TE}{g:TG}(he:PE X e te)(hg:PG X tg g)(hs:swapsWithSole [tg] e pos.line X.env=pure false:=by rfl)(hw:swappedStores [tg] e X.env=pure none:=by rfl)
  (h1:(assignEach [tg] X.env).map (·.2)=[assign tg X.env]:=by rfl):PS X (.Assign [tg] e pos) (bY te g):=by
 intro pins s σ H D I h;refine wpAny_Assign_stores (t6 (he pins s σ H _ I h) λv s1 zq=>?_) hs hw;obtain⟨x,H1,I1,r1,q1⟩:=zq;rw[h1];exact t6 (hg pins s1 σ H1 x v _ I1 r1 q1) λ_ s2 q=>q
theorem rL {i:Nat}{x:Str}{e:Expr}{te:TE}{pos':Pos}(hN:X.N.Nodup)(hi:X.N[i]?=some x)(hx:fK X.env.scope x)(he:PE X e te)(hs:swapsWith e (some (.Name x pos')) pos.line X.env=pure false:=by rfl)(hf:X.fn x=true∨X.env.scope.names.lookup x=some .local:=by first | exact .inl rfl | exact .inr rfl | assumption) :
  PS X (.Assign [.Name x pos'] e pos) (bY te (G9 i)):=by
 intro pins s σ H D I h;refine wpAny_Assign_Name (t6 (he pins s σ H _ I h) λv s1 zq=>?_) hs;obtain⟨y,H1,I1,r1,q1⟩:=zq;exact sP I1 hN hi hx r1 (λs2 I2=>⟨_,H1,I2,q1⟩) hf
def tQ (i:Nat)(te:TE)(ti:nX):TS:=λD σ H=>∃ x,σ[i]?=some (some x)/\te σ H λy H1=>ti x y H1 λz H2=>D.nx (σ.set i (some z)) H2
theorem yqD {i:Nat}{x:Str}{e:Expr}{te:TE}{op:Operator}{ti:nX}{pos':Pos}(hN:X.N.Nodup)(hi:X.N[i]?=some x)(hx:fK X.env.scope x)(he:PE X e te)(ho:qg X op ti)(hf:X.fn x=true∨X.env.scope.names.lookup x=some .local:=by first | exact .inl rfl | exact .inr rfl | assumption) :
  PS X (.AugAssign (.Name x pos') op e pos) (tQ i te ti):=by
 intro pins s σ H D I h;obtain⟨v,e1,h⟩:=h;obtain⟨m,hn,hl⟩:=I.loc;have vis:mC X.env.scope x:=by rcases hx with k | k;exact .inl k;exact .inr (.inl k)
 obtain⟨u,r,l⟩:=hl i x v hi e1 vis;refine wpAny_AugAssign_Name ?_;have go:wpAny (model X.prog X.w) X.A (eval e X.env) (λw s₂=>wpAny (model X.prog X.w) X.A (inplaceOp op u w) (λr s₃=>wpAny (model X.prog X.w) X.A (storeName X.env x r) (λ_=>SP X pins D .next) X.xe s₃) X.xe s₂) X.xe s:=by
  refine t6 (he pins s σ H _ I h) λw s1 zq=>?_
  obtain⟨y,H1,I1,r1,q1⟩:=zq;refine t6 (ho pins s1 σ H1 v y u w _ I1 r r1 q1) λz s2 zq=>?_
  obtain⟨zv,H2,I2,r2,q2⟩:=zq;exact sP I2 hN hi hx r2 (λs3 I3=>⟨_,H2,I3,q2⟩) hf
 rcases l with ⟨hk,hm⟩ | ⟨hk,c,hc,hcell⟩
 ·exact wpAny_loadName_local I.ok.kind hk hn hm go
 ·rcases hk with hk | hk
  ·exact wpAny_loadName_cell I.ok.kind hk hc hcell go
  ·rcases hx with k | k
   ·have:X.env.scope.names.lookup x=some .free:=hk;rw[k] at this;cases this
   ·have:X.env.scope.names.lookup x=some .free:=hk;rw[k] at this;cases this
def xQ (f:Int->Int->Int):nX:=λx y H Q=>∃ i j,x=.int i/\y=.int j/\Q (.int (f i j)) H
theorem yrw:qg X .Add (xQ λi j=>i+j):=by
 intro pins s σ H x y v u Q I r1 r2 h;obtain⟨i,j,e1,e2,q⟩:=h;subst e1;subst e2;obtain⟨t,rfl⟩:=r1;obtain⟨t',rfl⟩:=r2;exact iadd_int ⟨.int _,H,I.tok _,⟨_,rfl⟩,q⟩
def yqX (c:TT)(tb:TS):TS:=λD σ H=>∃ W:Nat->St->Hp->Prop,(∃ m,W m σ H)/\∀ m σ H,W m σ H ->
 c σ H λb H1=>if b=true then ∃ N:St->Hp->Prop,(∀ σ' H',N σ' H'->∃ m',m' < m/\W m' σ' H')/\tb { D with nx:=N,ct:=N,bk:=D.nx } σ H1 else D.nx σ H1
theorem xp {c:Expr}{body:List Stmt}{tc:TT}{tb:TS}(hp:PassesOwn (model X.prog X.w) X.A X.env X.xe)(hc:PT X c tc)(hb:U4 X body tb):PS X (.While c body [] pos) (yqX tc tb):=by
 intro pins s σ H D I h;obtain⟨W,⟨m0,w0⟩,turn⟩:=h;refine wpAny_While (codeAny_whileLoop (λn s'=>∃ σ' H',f6 X pins σ' H' s'/\W n σ' H') ?_ m0 ⟨σ,H,I,w0⟩);rintro n s1 ⟨σ1,H1,I1,w1⟩;refine wpAny_passesOwn hp (t6 (hc pins s1 σ1 H1 _ I1 (turn n σ1 H1 w1)) λb s2 zq=>?_);obtain⟨H2,I2,q2⟩:=zq;cases b with
 | true=>
  obtain⟨N,hN,q2⟩:=q2;rw[if_pos rfl];refine wpAny_passesOwn hp (t6 (hb pins s2 σ1 H2 _ I2 q2) λf s3 q3=>?_);cases f with
  | next=>
   obtain⟨σ3,H3,I3,n3⟩:=q3;obtain⟨m',hm,w3⟩:=hN σ3 H3 n3;exact⟨m',hm,σ3,H3,I3,w3⟩
  | cont=>
   obtain⟨σ3,H3,I3,n3⟩:=q3;obtain⟨m',hm,w3⟩:=hN σ3 H3 n3;exact⟨m',hm,σ3,H3,I3,w3⟩
  | brk=>exact q3
  | ret v=>exact q3
 | false=>
  rw[if_neg qN];exact wpAny_execs_nil ⟨σ1,H2,I2,q2⟩
end
structure It where
 go:Nat->Hp->Prop
 yld:Nat->Hp->V->Hp->Prop
 stop:Nat->Hp->Prop
def R0 (X:Cx)(pins:List (Addr×Obj))(H:Hp)(b:Addr):Prop :=
 H b=none/\b≠X.env.locals/\b∉X.fs/\(b∈X.ex∨X.s₀.heap.objs.size<=b)/\(∀ x c,X.env.cells.lookup x=some c->c≠b)/\∀ p∈X.pn++pins,p.1≠b
theorem f6.fpOk {X:Cx}{pins:List (Addr×Obj)}{σ:St}{H H':Hp}{s:Shared}{b:Addr}(I:f6 X pins σ H s)(hb:s.heap.objs.size<=b)(hn:H' b=none):R0 X pins H' b:=by
 refine⟨hn,Nat.ne_of_gt (Nat.lt_of_lt_of_le I.lt hb),I.nofs hb,.inr (Nat.le_trans I.sz hb),λx c e z=>?_,λp hp z=>?_⟩
 ·obtain⟨v,q⟩:=I.cell x c e;exact absurd (Nat.lt_of_lt_of_le q.lt (by rw[z];exact hb)) (Nat.lt_irrefl _)
 ·exact absurd (Nat.lt_of_lt_of_le (Heap.lt_size (I.pin p hp).1) (by rw[z];exact hb)) (Nat.lt_irrefl _)
structure eG (P:Program) (w:World) (K:qF) (tg:Expr) (J:It) (fp:List Addr) (it:Addr) (tn:Nat->Heap->Prop):Prop where
 mem:it∈fp
 obj:∀ i h,tn i h->∀ b∈fp,∃ o,h.get? b=some o/\∀ v,o.data≠.cell v
 keep:∀ i h h',tn i h->(∀ b∈fp,∀ o,h.get? b=some o->h'.get? b=some o)->tn i h'
 item:∀ (X:Cx),X.prog=P->X.w=w->X.K=K->X.calm=true->∀ (i:Nat) (pins:List (Addr×Obj)) (s:Shared) (σ:St) (H:Hp) (E:Value->Shared->Prop),f6 X pins σ H s->(∀ b∈fp,R0 X pins H b)->tn i s.heap->J.go i H ->
  wpAny (model P w) X.A (pyNext (.ref it)) (λr s1=>∃ u,r=some u /\
   wpAny (model P w) X.A (letOwnedTupleGo tg (.ref it) u) (λ_ s2=>∃ x H',f6 X pins σ H' s2/\g9 x u/\J.yld i H x H'/\tn (i+1) s2.heap/\∀ b∈fp,H' b=none) E s1) E s
 done:∀ (X:Cx),X.prog=P->X.w=w->X.K=K->X.calm=true->∀ (i:Nat) (pins:List (Addr×Obj)) (s:Shared) (σ:St) (H:Hp) (E:Value->Shared->Prop),f6 X pins σ H s->(∀ b∈fp,R0 X pins H b)->tn i s.heap->J.stop i H ->
  wpAny (model P w) X.A (pyNext (.ref it)) (λr s1=>r=none/\f6 X pins σ H s1) E s
 self:∀ (A:Around) (i:Nat) (s:Shared) (Q:Value->Shared->Prop) (E:Value->Shared->Prop),tn i s.heap->Q (.ref it) s->wpAny (model P w) A (pyIter (.ref it)) Q E s
abbrev TI:=St->Hp->(It->Hp->Prop)->Prop
def Zi (X:Cx)(pins:List (Addr×Obj))(σ:St)(tg:Expr)(R:It->Hp->Prop)(itv:Value)(s2:Shared):Prop :=
 ∃ (it:Addr) (fp:List Addr) (tn:Nat->Heap->Prop) (J:It) (H':Hp),itv=.ref it/\f6 X pins σ H' s2/\eG X.prog X.w X.K tg J fp it tn/\tn 0 s2.heap/\(∀ b∈fp,R0 X pins H' b)/\R J H'
def PI (X:Cx)(tg iter:Expr)(wi:TI):Prop :=
 ∀ (pins:List (Addr×Obj)) (s:Shared) (σ:St) (H:Hp) (R:It->Hp->Prop),f6 X pins σ H s->wi σ H R ->
  wpAny (model X.prog X.w) X.A (eval iter X.env) (λv s1=>wpAny (model X.prog X.w) X.A (pyIter v) (Zi X pins σ tg R) X.xe s1) X.xe s
theorem qL {M:Model}{A:Around}{E:Value->Shared->Prop}{s:Shared}{tg:Expr}{it:Addr}{u:Value}{o:Obj}{n:String}{vs:Array Value}{Q:Unit->Shared->Prop}(ho:s.heap.get? it=some o)(hc:o.cls=.type n)(hd:o.data=.fields vs)
  (hn:["enumerate","zip","dict_itemiterator","dict_reverseitemiterator","odict_iterator","itertools.zip_longest","itertools.pairwise"].contains n=false) (hQ:Q () s):wpAny M A (letOwnedTupleGo tg (.ref it) u) Q E s:=by
 unfold letOwnedTupleGo;cases tg<;>first
  | exact wpAny_pure hQ
  | (cases u<;>first
    | exact wpAny_pure hQ
    | (refine wpAny_bind (wpAny_load ho ?_)
       rw[hc,hd];show wpAny M A (if (["enumerate","zip","dict_itemiterator","dict_reverseitemiterator","odict_iterator","itertools.zip_longest","itertools.pairwise"].contains n&&vs[0]?==some (rawInt _))=true then _ else _) Q E s
       rw[if_neg (by intro h;rw[hn,Bool.false_and] at h;cases h)];exact wpAny_pure hQ))
def V9 (K:qF)(a:Addr):It :=
 ⟨λi H=>∃ xs x,d0 K H a xs/\xs[i]?=some x,λi H x H'=>H'=H/\∀ xs,d0 K H a xs->xs[i]?=some x,λi H=>∃ xs,d0 K H a xs/\xs.length<=i⟩
def kG (K:qF)(a:Addr):It :=
 ⟨λi H=>∃ xs x,m9 K H a xs/\xs[i]?=some x,λi H x H'=>H'=H/\∀ xs,m9 K H a xs->xs[i]?=some x,λi H=>∃ xs,m9 K H a xs/\xs.length<=i⟩
def aI (lo:Int)(n:Nat):It:=⟨λi _=>i < n,λi H x H'=>H'=H/\x=.int (lo+i),λi _=>n<=i⟩
theorem yke {P:Program}{w:World}{K:qF}{tg:Expr}(a it:Addr):eG P w K tg (V9 K a) [it] it (λi h=>h.IsListIter it a i) where
 mem:=by simp
 obj:=λi h st b hb=>by
  have e:b=it:=by simpa using hb
  subst e;obtain⟨o,e,c,d⟩:=st;exact⟨o,e,λv z=>by rw[d] at z;cases z⟩
 keep:=λi h h' st k=>st.at λo e=>k it (by simp) o e
 item:=by
  intro X hP hw hK hc i pins s σ H E I hf st hg;subst hP hw hK;obtain⟨xs,x,hq,hx⟩:=hg;obtain⟨its,rv,p,hz⟩:=I.list hq;obtain⟨u,hu,ru⟩:=rv.get hx;obtain⟨f0,f1,f2,f3,f4,f5⟩:=hf it (by simp);refine wpAny_pyNext_list_item st p.isList (x:=u) (by simpa using hu) λh' st' sb=>?_
  have I1:f6 X pins σ H { s with heap:=h' }:=I.turned (t':=s.toks) (λb o hb e=>(sb.2 b hb).trans e) f0 f1 f3 f4 f5;obtain⟨o,e,c,d⟩:=id st';exact⟨u,rfl,qL (s:={ s with heap:=h' }) e c d (by decide) ⟨x,H,I1,ru,⟨rfl,λys hy=>by rw[I.list_inj hy hq];exact hx⟩,st',λb hb=>(hf b hb).1⟩⟩
 done:=by
  intro X hP hw hK hc i pins s σ H E I hf st hg;subst hP hw hK;obtain⟨xs,hq,hx⟩:=hg;obtain⟨its,rv,p,hz⟩:=I.list hq;obtain⟨f0,f1,f2,f3,f4,f5⟩:=hf it (by simp);have hl:=rv.length;exact wpAny_pyNext_list_end (I.ok.hd hc) st p.isList (by simp;omega) λh' eb=>⟨rfl,I.turned (t':=s.toks) (λb o hb e=>eb b o hb e) f0 f1 f3 f4 f5⟩
 self:=λ_ _ _ _ _ st h=>wpAny_pyIter_listiter st h
theorem DJ {P:Program}{w:World}{K:qF}{tg:Expr}(a it:Addr):eG P w K tg (kG K a) [it] it (λi h=>h.IsTupleIter it a i) where
 mem:=by simp
 obj:=λi h st b hb=>by
  have e:b=it:=by simpa using hb
  subst e;obtain⟨o,e,c,d⟩:=st;exact⟨o,e,λv z=>by rw[d] at z;cases z⟩
 keep:=λi h h' st k=>st.at λo e=>k it (by simp) o e
 item:=by
  intro X hP hw hK hc i pins s σ H E I hf st hg;subst hP hw hK;obtain⟨xs,x,hq,hx⟩:=hg;obtain⟨its,rv,p,hz⟩:=I.tuple hq;obtain⟨u,hu,ru⟩:=rv.get hx;obtain⟨f0,f1,f2,f3,f4,f5⟩:=hf it (by simp);refine wpAny_pyNext_tuple_item st (show s.heap.IsTuple a its.toArray from p) (x:=u) (by simpa using hu) λh' st' sb=>?_
  have I1:f6 X pins σ H { s with heap:=h' }:=I.turned (t':=s.toks) (λb o hb e=>(sb.2 b hb).trans e) f0 f1 f3 f4 f5;obtain⟨o,e,c,d⟩:=id st';exact⟨u,rfl,qL (s:={ s with heap:=h' }) e c d (by decide) ⟨x,H,I1,ru,⟨rfl,λys hy=>by rw[I.tuple_inj hy hq];exact hx⟩,st',λb hb=>(hf b hb).1⟩⟩
 done:=by
  intro X hP hw hK hc i pins s σ H E I hf st hg;subst hP hw hK;obtain⟨xs,hq,hx⟩:=hg;obtain⟨its,rv,p,hz⟩:=I.tuple hq;obtain⟨f0,f1,f2,f3,f4,f5⟩:=hf it (by simp);have hl:=rv.length;exact wpAny_pyNext_tuple_end (I.ok.hd hc) st (show s.heap.IsTuple a its.toArray from p) (by simp;omega) λh' eb=>⟨rfl,I.turned (t':=s.toks) (λb o hb e=>eb b o hb e) f0 f1 f3 f4 f5⟩
 self:=λ_ _ _ _ _ st h=>wpAny_pyIter_tupleiter st h
theorem yiE {P:Program}{w:World}{K:qF}{tg:Expr}(it:Addr)(lo:Int)(n:Nat):eG P w K tg (aI lo n) [it] it (λi h=>IsRangeIter h it (lo+(i:Nat)*1) ((n:Int) - (i:Nat)) 1) where
 mem:=by simp
 obj:=λi h st b hb=>by
  have e:b=it:=by simpa using hb
  subst e;exact⟨_,st,λv z=>by
   have z':Data.fields _=Data.cell v:=z;cases z'⟩
 keep:=λi h h' st k=>k it (by simp) _ st
 item:=by
  intro X hP hw hK hc i pins s σ H E I hf st hg;subst hP hw hK;obtain⟨f0,f1,f2,f3,f4,f5⟩:=hf it (by simp);have W:=Walks.range (prog:=X.prog) (w:=X.w) (I.ok.hd hc) it lo 1 n;refine W.item i s _ _ hg st λv h' tk hv st' kk=>?_
  obtain⟨t,rfl⟩:=hv;have I1:f6 X pins σ H { s with heap:=h',toks:=tk }:=I.turned (λb o hb e=>kk b o (by simpa using hb) e) f0 f1 f3 f4 f5;refine⟨_,rfl,qL (s:={ s with heap:=h',toks:=tk }) (n := "range_iterator") st' rfl rfl (by decide) ⟨.int (lo+i),H,I1,⟨t,?_⟩,⟨rfl,rfl⟩,st',λb hb=>(hf b hb).1⟩⟩;rw[Int.mul_one]
 done:=by
  intro X hP hw hK hc i pins s σ H E I hf st hg;subst hP hw hK;obtain⟨f0,f1,f2,f3,f4,f5⟩:=hf it (by simp);exact wpAny_pyNext_range_end (I.ok.hd hc) st (by have:n<=i:=hg;omega) λh' eb=>⟨rfl,I.turned (t':=s.toks) (λb o hb e=>eb b o hb e) f0 f1 f3 f4 f5⟩
 self:=λ_ _ _ _ _ st h=>wpAny_pyIter_rangeiter st h
section
variable {X:Cx} {tg:Expr}
def lW (K:qF)(tl:TE):TI:=fun σ H R=>tl σ H λx H1=>∃ a,x=.ref a/\(∃ xs,d0 K H1 a xs)/\R (V9 K a) H1
def pZ (K:qF)(tl:TE):TI:=fun σ H R=>tl σ H λx H1=>∃ a,x=.ref a/\(∃ xs,m9 K H1 a xs)/\R (kG K a) H1
theorem K2 {l:Expr}{tl:TE}(hl:PE X l tl):PI X tg l (lW X.K tl):=by
 intro pins s σ H R I h;refine t6 (hl pins s σ H _ I h) λv s1 zq=>?_
 obtain⟨x,H1,I1,r1,q1⟩:=zq;obtain⟨a,e,⟨xs,hq⟩,q⟩:=q1;subst e;cases r1;obtain⟨its,rv,p,hz⟩:=I1.list hq;refine wpAny_pyIter_list p.isList ?_;refine⟨s1.heap.objs.size,[s1.heap.objs.size],_,_,H1,rfl,I1.kept (t':=s1.toks) λb o e=>Heap.get?_push_of_some _ e,yke a _,⟨_,Heap.get?_push_size _ rfl,rfl,rfl⟩,λb hb=>?_,q⟩;have e:b=s1.heap.objs.size:=by simpa using hb
 subst e;exact I1.fpOk (qR _) (I1.hok.fresh (qR _))
theorem xF {l:Expr}{tl:TE}(hl:PE X l tl):PI X tg l (pZ X.K tl):=by
 intro pins s σ H R I h;refine t6 (hl pins s σ H _ I h) λv s1 zq=>?_
 obtain⟨x,H1,I1,r1,q1⟩:=zq;obtain⟨a,e,⟨xs,hq⟩,q⟩:=q1;subst e;cases r1;obtain⟨its,rv,p,hz⟩:=I1.tuple hq;refine wpAny_pyIter_tuple (show s1.heap.IsTuple a its.toArray from p) ?_;refine⟨s1.heap.objs.size,[s1.heap.objs.size],_,_,H1,rfl,I1.kept (t':=s1.toks) λb o e=>Heap.get?_push_of_some _ e,DJ a _,⟨_,Heap.get?_push_size _ rfl,rfl,rfl⟩,λb hb=>?_,q⟩;have e:b=s1.heap.objs.size:=by simpa using hb
 subst e;exact I1.fpOk (qR _) (I1.hok.fresh (qR _))
theorem SZ {pins:List (Addr×Obj)}{σ:St}{H:Hp}{s:Shared}{R:It->Hp->Prop}{E:Value->Shared->Prop}{lo hi:Int}{t u v:Tok}{tk:Nat}(I:f6 X pins σ H s)(h1:-(2 ^ 62)<=lo)(h2:lo < 2 ^ 62)(h3:-(2 ^ 62)<=hi)(h4:hi < 2 ^ 62)
  (q:R (aI lo (hi - lo).toNat) H):wpAny (model X.prog X.w) X.A (pyIter (.ref s.heap.objs.size)) (Zi X pins σ tg R) E { s with heap:=s.heap.push { cls:=.type "range",data:=.fields #[.int lo t,.int hi u,.int 1 v] },toks:=tk }:=by
 refine wpAny_pyIter_range (IsRange.new ..) (small_one h1 h2 h3 h4) ?_;have I1:f6 X pins σ H { s with heap:=s.heap.push { cls:=.type "range",data:=.fields #[.int lo t,.int hi u,.int 1 v] },toks:=tk }:=I.kept λb o e=>Heap.get?_push_of_some _ e
 refine⟨(s.heap.push { cls:=.type "range",data:=.fields #[.int lo t,.int hi u,.int 1 v] }).objs.size,[(s.heap.push { cls:=.type "range",data:=.fields #[.int lo t,.int hi u,.int 1 v] }).objs.size],_,_,H,rfl,
  I1.kept (t':=tk) λb o e=>Heap.get?_push_of_some _ e,yiE _ lo (hi - lo).toNat,?_,λb hb=>?_,q⟩
 ·have e1:lo+((0:Nat):Int)*1=lo:=by simp
  have e2:(((hi - lo).toNat:Nat):Int) - ((0:Nat):Int)=Builtin.Range.rangeSize lo hi 1:=by rw[rangeSize_one];split<;>omega
  show IsRangeIter _ _ (lo+((0:Nat):Int)*1) ((((hi - lo).toNat:Nat):Int) - ((0:Nat):Int)) 1
  rw[e1,e2];exact Heap.get?_push_size _ rfl
 ·have e:b=(s.heap.push { cls:=.type "range",data:=.fields #[.int lo t,.int hi u,.int 1 v] }).objs.size:=by simpa using hb
  subst e;exact I1.fpOk (qR _) (I1.hok.fresh (qR _))
def lJ (ta:TA):TI:=fun σ H R=>ta σ H λvs H1=>∃ j:Int,vs=[.int j]/\-(2 ^ 62)<=j/\j < 2 ^ 62/\R (aI 0 j.toNat) H1
theorem kA {a:Expr}{ta:TA}{p pos:Pos}(hg:Gl X "range")(hm:X.mg "range"=none)(ha:PA X [a] ta)(hs:starEach [a] X.env=[(false,eval a X.env)]:=by rfl):PI X tg (.Call (.Name "range" p) [a] [] pos) (lJ ta):=by
 intro pins s σ H R I h;refine Call_ (hU I hg hm boot_range (PyProof.Rows.callWith_type1 (t6 (ha pos pins s σ H _ I h) λus s1 zq=>?_) hs rfl));obtain⟨vs,H1,I1,r1,q1⟩:=zq;obtain⟨j,e,q1,q2,q⟩:=q1;subst e;cases r1 with
 | cons r rr=>
  cases rr;obtain⟨t,rfl⟩:=r;exact call_range_1 (SZ I1 (by omega) (by omega) q1 q2 (by simpa using q))
def lP (wi:TI)(g:TG)(tb:TS):TS:=λD σ H=>wi σ H λJ H1=>∃ W:Nat->Nat->St->Hp->Prop,(∃ m,W 0 m σ H1)/\∀ i m σ H,W i m σ H ->
 (J.stop i H/\D.nx σ H)∨(J.go i H/\∃ N:St->Hp->Prop,(∀ σ' H',N σ' H'->∃ m',m' < m/\W (i+1) m' σ' H')/\∀ x H',J.yld i H x H'->g x σ H' fun σ2 H2=>tb { D with nx:=N,ct:=N,bk:=D.nx } σ2 H2)
def nY (fp:List Addr)(h:Heap):List (Addr×Obj):=fp.filterMap λb=>(h.get? b).map λo=>(b,o)
theorem pS {fp:List Addr}{h:Heap}{b:Addr}{o:Obj}(hb:b∈fp)(e:h.get? b=some o):(b,o)∈nY fp h:=List.mem_filterMap.mpr ⟨b,hb,by rw[e];rfl⟩
theorem ykx {fp:List Addr}{h:Heap}{p:Addr×Obj}(hp:p∈nY fp h):p.1∈fp/\h.get? p.1=some p.2:=by
 obtain⟨b,hb,e⟩:=List.mem_filterMap.mp hp;cases q:h.get? b with
 | none=>rw[q] at e;cases e
 | some o=>
  rw[q] at e;have e':(b,o)=p:=Option.some.inj e;subst e';exact⟨hb,q⟩
theorem f6.pinned {pins:List (Addr×Obj)}{σ:St}{H:Hp}{s:Shared}{fp:List Addr}(I:f6 X pins σ H s)(hf:∀ b∈fp,R0 X pins H b)(ho:∀ b∈fp,∃ o,s.heap.get? b=some o/\∀ v,o.data≠.cell v):f6 X (pins++nY fp s.heap) σ H s :=
 I.pins_of λp hp=>(List.mem_append.mp hp).elim (λz=>I.pin p (List.mem_append_right _ z)) λz=>by
  obtain⟨hb,e⟩:=ykx z;obtain⟨f0,f1,f2,_⟩:=hf p.1 hb;obtain⟨o,e',d⟩:=ho p.1 hb;rw[e] at e';cases e';exact⟨e,f0,f1,f2,d⟩
theorem f6.unpinned {pins pl:List (Addr×Obj)}{σ:St}{H:Hp}{s:Shared}(I:f6 X (pins++pl) σ H s):f6 X pins σ H s:=I.pins_of λp hp=>I.pin p (List.mem_append_right _ (List.mem_append_left _ hp))
theorem Z6 {iter:Expr}{body:List Stmt}{wi:TI}{g:TG}{tb:TS}{pos:Pos}(hp:PassesOwn (model X.prog X.w) X.A X.env X.xe)(hc:X.calm=true)(hi:PI X tg iter wi)(hg:PG X tg g)(hb:U4 X body tb)
  (hs:∀ x,foldedSetIterable iter X.env x=pure x:=by intro _;rfl):PS X (.For tg iter body [] pos) (lP wi g tb):=by
 intro pins s σ H D I h;refine wpAny_For (t6 (hi pins s σ H _ I h) λv s1 h1=>t6 h1 λitv s2 h2=>?_) hs;obtain⟨it,fp,tn,J,H2,e,I2,T,st2,f2,W,⟨m0,w0⟩,turn⟩:=h2;subst e;have stat:∀ {H':Hp},(∀ b∈fp,H' b=none)->∀ b∈fp,R0 X pins H' b:=λhn b hb=>⟨hn b hb,(f2 b hb).2⟩
 refine codeAny_forLoop_any (λn s'=>∃ i σ' H',f6 X pins σ' H' s'/\tn i s'.heap/\(∀ b∈fp,H' b=none)/\W i n σ' H') ?_ m0 ⟨0,σ,H2,I2,st2,λb hb=>(f2 b hb).1,w0⟩;rintro n s3 ⟨i,σ3,H3,I3,st3,fr3,w3⟩;rcases turn i n σ3 H3 w3 with ⟨stop,qn⟩ | ⟨go,N,hN,step⟩
 ·refine wpAny_passesOwn hp (t6 (T.done X rfl rfl rfl hc i pins s3 σ3 H3 X.xe I3 (stat fr3) st3 stop) λr s4 zq=>?_);obtain⟨hr,I4⟩:=zq;subst hr;exact wpAny_execs_nil ⟨σ3,H3,I4,qn⟩
 ·refine wpAny_passesOwn hp (t6 (T.item X rfl rfl rfl hc i pins s3 σ3 H3 X.xe I3 (stat fr3) st3 go) λr s4 zq=>?_);obtain⟨u,hr,h4⟩:=zq;subst hr;refine wpAny_passesOwn hp (t6 h4 λ_ s5 zq=>?_);obtain⟨x,H5,I5,r5,y5,st5,fr5⟩:=zq;have I5':=I5.pinned (stat fr5) (T.obj _ _ st5);refine wpAny_passesOwn hp (t6 (hg _ s5 σ3 H5 x u _ I5' r5 (step x H5 y5)) λ_ s6 zq=>?_);obtain⟨σ6,H6,I6,q6⟩:=zq;refine wpAny_passesOwn hp (t6 (hb _ s6 σ6 H6 _ I6 q6) λf s7 q7=>?_);have again:∀ {σ7:St} {H7:Hp},f6 X (pins++nY fp s5.heap) σ7 H7 s7->N σ7 H7->∃ m,m < n/\∃ i σ' H',f6 X pins σ' H' s7/\tn i s7.heap/\(∀ b∈fp,H' b=none)/\W i m σ' H':=λ{σ7 H7} I7 n7=>by
   obtain⟨m',hm,w7⟩:=hN σ7 H7 n7;refine⟨m',hm,i+1,σ7,H7,I7.unpinned,T.keep _ _ _ st5 λb hb o e=>(I7.pin (b,o) (List.mem_append_right _ (List.mem_append_right _ (pS hb e)))).1,λb hb=>?_,w7⟩;obtain⟨o,e,d⟩:=T.obj _ _ st5 b hb;exact(I7.pin (b,o) (List.mem_append_right _ (List.mem_append_right _ (pS hb e)))).2.1
  cases f with
  | next=>obtain⟨σ7,H7,I7,n7⟩:=q7;exact again I7 n7
  | cont=>obtain⟨σ7,H7,I7,n7⟩:=q7;exact again I7 n7
  | brk=>obtain⟨σ7,H7,I7,q7⟩:=q7;exact⟨σ7,H7,I7.unpinned,q7⟩
  | ret v=>obtain⟨x7,σ7,H7,I7,r7,q7⟩:=q7;exact⟨x7,σ7,H7,I7.unpinned,r7,q7⟩
end
theorem ylN {K:qF}{a:Addr}{xs:List V}{g:TG}{tb:TS}{D:S0}{σ:St}{H:Hp}(Pv:Nat->St->Hp->Prop)(h0:Pv 0 σ H)(hl:∀ i σ H,i<=xs.length->Pv i σ H->d0 K H a xs)
  (hs:∀ i x σ H,xs[i]?=some x->Pv i σ H->g x σ H fun σ2 H2=>tb { D with nx:=Pv (i+1),ct:=Pv (i+1),bk:=D.nx } σ2 H2) (hd:∀ σ H,Pv xs.length σ H->D.nx σ H) :
  ∃ W:Nat->Nat->St->Hp->Prop,(∃ m,W 0 m σ H)/\∀ i m σ H,W i m σ H ->
   ((V9 K a).stop i H/\D.nx σ H)∨((V9 K a).go i H/\∃ N:St->Hp->Prop,(∀ σ' H',N σ' H'->∃ m',m' < m/\W (i+1) m' σ' H')/\∀ x H',(V9 K a).yld i H x H'->g x σ H' fun σ2 H2=>tb { D with nx:=N,ct:=N,bk:=D.nx } σ2 H2):=by
 refine⟨λi m σ H=>m=xs.length - i/\i<=xs.length/\Pv i σ H,⟨xs.length,by simp,Nat.zero_le _,h0⟩,?_⟩;rintro i m σ H ⟨rfl,hi,p⟩;have q:=hl i σ H hi p;by_cases hlt:i < xs.length
 ·refine .inr ⟨⟨xs,xs[i],q,by simp[hlt]⟩,Pv (i+1),fun σ' H' p'=>⟨xs.length - (i+1),by omega,rfl,hlt,p'⟩,λx H' y=>?_⟩;obtain⟨e,y⟩:=y;subst e;exact hs i x σ _ (y xs q) p
 ·have e:i=xs.length:=by omega
  subst e;exact .inl ⟨⟨xs,q,qR _⟩,hd σ H p⟩
theorem yjv {lo:Int}{n:Nat}{g:TG}{tb:TS}{D:S0}{σ:St}{H:Hp}(Pv:Nat->St->Hp->Prop)(h0:Pv 0 σ H)
  (hs:∀ i σ H,i < n->Pv i σ H->g (.int (lo+i)) σ H fun σ2 H2=>tb { D with nx:=Pv (i+1),ct:=Pv (i+1),bk:=D.nx } σ2 H2) (hd:∀ σ H,Pv n σ H->D.nx σ H) :
  ∃ W:Nat->Nat->St->Hp->Prop,(∃ m,W 0 m σ H)/\∀ i m σ H,W i m σ H ->
   ((aI lo n).stop i H/\D.nx σ H)∨((aI lo n).go i H/\∃ N:St->Hp->Prop,(∀ σ' H',N σ' H'->∃ m',m' < m/\W (i+1) m' σ' H')/\∀ x H',(aI lo n).yld i H x H'->g x σ H' fun σ2 H2=>tb { D with nx:=N,ct:=N,bk:=D.nx } σ2 H2):=by
 refine⟨λi m σ H=>m=n - i/\i<=n/\Pv i σ H,⟨n,by simp,Nat.zero_le _,h0⟩,?_⟩;rintro i m σ H ⟨rfl,hi,p⟩;by_cases hlt:i < n
 ·refine .inr ⟨hlt,Pv (i+1),fun σ' H' p'=>⟨n - (i+1),by omega,rfl,hlt,p'⟩,λx H' y=>?_⟩;obtain⟨e,y⟩:=y;subst e y;exact hs i σ _ hlt p
 ·have e:i=n:=by omega
  subst e;exact .inl ⟨qR _,hd σ H p⟩
abbrev R2:=V->V->Hp->VK->Prop
def J5 (X:Cx)(f:Value->Value->Sem Value)(r:R2):Prop :=
 ∀ (pins:List (Addr×Obj)) (s:Shared) (σ:St) (H:Hp) (x y:V) (v u:Value) (Q:VK),f6 X pins σ H s->g9 x v->g9 y u->r x y H Q ->
  wpAny (model X.prog X.w) X.A (f v u) (EP X pins σ Q) X.xe s
def vP (X:Cx)(f:Value->Sem Value)(r:V->Hp->VK->Prop):Prop :=
 ∀ (pins:List (Addr×Obj)) (s:Shared) (σ:St) (H:Hp) (x:V) (v:Value) (Q:VK),f6 X pins σ H s->g9 x v->r x H Q ->
  wpAny (model X.prog X.w) X.A (f v) (EP X pins σ Q) X.xe s
def P7 (X:Cx)(f:Value)(r:List V->Hp->VK->Prop):Prop :=
 ∀ (pins:List (Addr×Obj)) (s:Shared) (σ:St) (H:Hp) (xs:List V) (us:List Value) (Q:VK),f6 X pins σ H s->f8 xs us->r xs H Q ->
  wpAny (model X.prog X.w) X.A (call f us) (EP X pins σ Q) X.xe s
def R5 (r:R2)(ta tb:TE):TE:=fun σ H Q=>ta σ H λx H1=>tb σ H1 λy H2=>r x y H2 Q
def pF (r:V->Hp->VK->Prop)(ta:TE):TE:=fun σ H Q=>ta σ H λx H1=>r x H1 Q
def rI (C:Int->Int->Prop)(g:Int->Int->V):R2:=λx y H Q=>∃ i j,x=.int i/\y=.int j/\C i j/\Q (g i j) H
def Z1 (g:Int->Int->V):R2:=λx y H Q=>∃ i j,x=.int i/\y=.int j/\Q (g i j) H
def rU (g:Int->V):V->Hp->VK->Prop:=λx H Q=>∃ i,x=.int i/\Q (g i) H
section
variable {X:Cx} {a b c:Expr} {ta tb tc:TE} {pos:Pos}
theorem yN (ha:PE X a ta)(hb:PE X b tb){pins:List (Addr×Obj)}{s:Shared}{σ:St}{H:Hp}{R:V->V->Hp->Prop}(I:f6 X pins σ H s)
  (h:ta σ H λx H1=>tb σ H1 λy H2=>R x y H2) {Q:Value->Shared->Prop} {f:Value->Value->Sem Value}
  (hf:∀ v u s2 x y H2,f6 X pins σ H2 s2->g9 x v->g9 y u->R x y H2->wpAny (model X.prog X.w) X.A (f v u) Q X.xe s2) :
  wpAny (model X.prog X.w) X.A (eval a X.env) (λv s₁=>wpAny (model X.prog X.w) X.A (eval b X.env) (λu s₂=>wpAny (model X.prog X.w) X.A (f v u) Q X.xe s₂) X.xe s₁) X.xe s:=by
 refine t6 (ha pins s σ H _ I h) λv s1 zq=>?_
 obtain⟨x,H1,I1,r1,q1⟩:=zq;refine t6 (hb pins s1 σ H1 _ I1 q1) λu s2 zq=>?_
 obtain⟨y,H2,I2,r2,q2⟩:=zq;exact hf v u s2 x y H2 I2 r1 r2 q2
theorem u9 {op:Operator}{r:R2}(ho:J5 X (binaryOp op) r)(ha:PE X a ta)(hb:PE X b tb):PE X (.BinOp a op b pos) (R5 r ta tb):=by
 intro pins s σ H Q I h;exact wpAny_BinOp (yN ha hb I h λv u s2 x y H2 I2 rx ry q=>ho pins s2 σ H2 x y v u Q I2 rx ry q)
theorem X2 {op:UnaryOp}{r:V->Hp->VK->Prop}(ho:vP X (unaryOp op) r)(ha:PE X a ta):PE X (.UnaryOp op a pos) (pF r ta):=by
 intro pins s σ H Q I h;exact UnaryOp_ (t6 (ha pins s σ H _ I h) λv s1 ⟨x,H1,I1,r1,q1⟩=>ho pins s1 σ H1 x v Q I1 r1 q1)
theorem uU {f:Value->Value->Sem Value}{C:Int->Int->Prop}{g:Int->Int->Int}
  (rule:∀ (i j:Int) (t u:Tok) (s:Shared) (Q:Value->Shared->Prop) (E:Value->Shared->Prop),C i j->Q (.int (g i j) s.toks) { s with toks:=s.toks+1 }->wpAny (model X.prog X.w) X.A (f (.int i t) (.int j u)) Q E s) :
  J5 X f (rI C λi j=>.int (g i j)):=by
 intro pins s σ H x y v u Q I rx ry h;obtain⟨i,j,rfl,rfl,hc,q⟩:=h;obtain⟨t,rfl⟩:=rx;obtain⟨t',rfl⟩:=ry;exact rule i j t t' s _ _ hc ⟨.int (g i j),H,I.tok _,⟨_,rfl⟩,q⟩
theorem L_ {f:Value->Value->Sem Value}{g:Int->Int->Int}
  (rule:∀ (i j:Int) (t u:Tok) (s:Shared) (Q:Value->Shared->Prop) (E:Value->Shared->Prop),Q (.int (g i j) s.toks) { s with toks:=s.toks+1 }->wpAny (model X.prog X.w) X.A (f (.int i t) (.int j u)) Q E s) :
  J5 X f (Z1 λi j=>.int (g i j)):=by
 intro pins s σ H x y v u Q I rx ry h;obtain⟨i,j,rfl,rfl,q⟩:=h;obtain⟨t,rfl⟩:=rx;obtain⟨t',rfl⟩:=ry;exact rule i j t t' s _ _ ⟨.int (g i j),H,I.tok _,⟨_,rfl⟩,q⟩
theorem tO {f:Value->Value->Sem Value}{g:Int->Int->Bool}
  (rule:∀ (i j:Int) (t u:Tok) (s:Shared) (Q:Value->Shared->Prop) (E:Value->Shared->Prop),Q (.bool (g i j)) s->wpAny (model X.prog X.w) X.A (f (.int i t) (.int j u)) Q E s) :
  J5 X f (Z1 λi j=>.bl (g i j)):=by
 intro pins s σ H x y v u Q I rx ry h;obtain⟨i,j,rfl,rfl,q⟩:=h;obtain⟨t,rfl⟩:=rx;obtain⟨t',rfl⟩:=ry;exact rule i j t t' s _ _ ⟨.bl (g i j),H,I,rfl,q⟩
def Xl (i j:Int):Prop:=0 < j/\j < 1073741824
def iG (i j:Int):Prop:=(-(2 ^ 64) < i/\i < 2 ^ 64)∨(-(2 ^ 64) < j/\j < 2 ^ 64)
theorem iG.ok {i j:Int}(h:iG i j):IntMulOk i j:=by
 rcases h with ⟨h1,h2⟩ | ⟨h1,h2⟩
 ·exact .of_left (intBits_le_64 h1 h2)
 ·exact .of_right (intBits_le_64 h1 h2)
theorem O8:J5 X (binaryOp .Add) (Z1 λi j=>.int (i+j)):=L_ λ_ _ _ _ _ _ _ q=>add_int q
theorem cU:J5 X (binaryOp .Sub) (Z1 λi j=>.int (i - j)):=L_ λ_ _ _ _ _ _ _ q=>sub_int q
theorem lF:J5 X (binaryOp .FloorDiv) (rI Xl λi j=>.int (i / j)):=uU λi j _ _ _ _ _ hc q=>by
 have h1:(0:Int) < j:=hc.1;have h2:j < 1073741824:=hc.2;exact floordiv_int (by omega) (by rw[Int.fdiv_eq_ediv_of_nonneg i (by omega)];exact q) (.inl (PyProof.noPylong_small (by omega)))
theorem dA:J5 X (binaryOp .Mod) (rI (λ_ j=>0 < j) λi j=>.int (i%j)):=uU λi j _ _ _ _ _ hc q=>by
 have h1:(0:Int) < j:=hc;exact mod_int' (by omega) (by rw[Int.fmod_eq_emod_of_nonneg i (by omega)];exact q)
theorem unI {f:Value->Sem Value}{g:Int->Int}
  (rule:∀ (i:Int) (t:Tok) (s:Shared) (Q:Value->Shared->Prop) (E:Value->Shared->Prop),Q (.int (g i) s.toks) { s with toks:=s.toks+1 }->wpAny (model X.prog X.w) X.A (f (.int i t)) Q E s) :
  vP X f (rU λi=>.int (g i)):=by
 intro pins s σ H x v Q I rx h;obtain⟨i,rfl,q⟩:=h;obtain⟨t,rfl⟩:=rx;exact rule i t s _ _ ⟨.int (g i),H,I.tok _,⟨_,rfl⟩,q⟩
theorem W6:vP X (unaryOp .USub) (rU λi=>.int (-i)):=unI λ_ _ _ _ _ q=>neg_int q
end
def wM:V->V->Bool
 | .non,.non=>true | .non,.int _=>true | .int _,.non=>true | .non,.bl _=>true | .bl _,.non=>true | .non,.str _=>true | .str _,.non=>true
 | .int _,.int _=>true | .bl _,.bl _=>true | .str _,.str _=>true | .byt _,.byt _=>true
 | .int _,.str _=>true | .str _,.int _=>true | .bl _,.str _=>true | .str _,.bl _=>true
 | _,_=>false
def kB:R2:=λx y H Q=>wM x y=true/\Q (.bl (decide (x=y))) H
def uR:R2:=λx y H Q=>wM x y=true/\Q (.bl (!decide (x=y))) H
theorem F_ {i j:Int}:decide (V.int i=V.int j)=(i==j):=by
 rw[Bool.eq_iff_iff];simp
theorem p_ {i j:Bool}:decide (V.bl i=V.bl j)=(i==j):=by
 rw[Bool.eq_iff_iff];simp
theorem jf {i j:Str}:decide (V.str i=V.str j)=(i==j):=by
 rw[Bool.eq_iff_iff];simp
theorem e_ {i j:Array UInt8}:decide (V.byt i=V.byt j)=(i.toList==j.toList):=by
 rw[Bool.eq_iff_iff];cases i;cases j;simp
section
variable {X:Cx} {a b c:Expr} {ta tb tc:TE} {pos:Pos}
theorem K0 {pins:List (Addr×Obj)}{σ:St}{H:Hp}{s:Shared}{Q:VK}{k k':Bool}(I:f6 X pins σ H s)(q:Q (.bl k) H)(e:k=k'):EP X pins σ Q (.bool k') s:=by
 subst e;exact⟨.bl k,H,I,rfl,q⟩
theorem S4:J5 X (compareOp .Eq) kB:=by
 intro pins s σ H x y v u Q I rx ry h;obtain⟨hs,q⟩:=h;cases x with
 | non=>
  cases rx;cases y with
  | non=>cases ry;exact PySem.EqNone.eq_none_none (K0 I q (by simp))
  | bl j=>cases ry;exact PySem.EqNone.eq_none_bool (K0 I q (by simp))
  | int j=>obtain⟨t',rfl⟩:=ry;exact PySem.EqNone.eq_none_int (K0 I q (by simp))
  | str j=>obtain⟨t',rfl⟩:=ry;exact PySem.EqNone.eq_none_str (K0 I q (by simp))
  | _=>exact absurd (show false=true from hs) qN
 | bl i=>
  cases rx;cases y with
  | non=>cases ry;exact PySem.EqNone.eq_bool_none (K0 I q (by simp))
  | bl j=>cases ry;exact eq_bool (K0 I q p_)
  | str j=>obtain⟨t',rfl⟩:=ry;exact PySem.EqMixed.eq_bool_str (K0 I q (by simp))
  | _=>exact absurd (show false=true from hs) qN
 | int i=>
  obtain⟨t,rfl⟩:=rx;cases y with
  | non=>cases ry;exact PySem.EqNone.eq_int_none (K0 I q (by simp))
  | int j=>obtain⟨t',rfl⟩:=ry;exact eq_int (K0 I q F_)
  | str j=>obtain⟨t',rfl⟩:=ry;exact PySem.EqMixed.eq_int_str (K0 I q (by simp))
  | _=>exact absurd (show false=true from hs) qN
 | str i=>
  obtain⟨t,rfl⟩:=rx;cases y with
  | non=>cases ry;exact PySem.EqNone.eq_str_none (K0 I q (by simp))
  | bl j=>cases ry;exact PySem.EqMixed.eq_str_bool (K0 I q (by simp))
  | int j=>obtain⟨t',rfl⟩:=ry;exact PySem.EqMixed.eq_str_int (K0 I q (by simp))
  | str j=>obtain⟨t',rfl⟩:=ry;exact eq_str (K0 I q jf)
  | _=>exact absurd (show false=true from hs) qN
 | byt i=>
  obtain⟨t,rfl⟩:=rx;cases y with
  | byt j=>obtain⟨t',rfl⟩:=ry;exact PySem.W.eq_bytes (K0 I q e_)
  | _=>exact absurd (show false=true from hs) qN
 | _=>cases y<;>exact absurd (show false=true from hs) qN
theorem mF:J5 X (compareOp .NotEq) uR:=by
 intro pins s σ H x y v u Q I rx ry h;obtain⟨hs,q⟩:=h;cases x with
 | non=>
  cases rx;cases y with
  | non=>cases ry;exact PySem.EqNone.ne_none_none (K0 I q (by simp))
  | bl j=>cases ry;exact PySem.EqNone.ne_none_bool (K0 I q (by simp))
  | int j=>obtain⟨t',rfl⟩:=ry;exact PySem.EqNone.ne_none_int (K0 I q (by simp))
  | str j=>obtain⟨t',rfl⟩:=ry;exact PySem.EqNone.ne_none_str (K0 I q (by simp))
  | _=>exact absurd (show false=true from hs) qN
 | bl i=>
  cases rx;cases y with
  | non=>cases ry;exact PySem.EqNone.ne_bool_none (K0 I q (by simp))
  | bl j=>cases ry;exact ne_bool (K0 I q (congrArg not p_))
  | str j=>obtain⟨t',rfl⟩:=ry;exact PySem.EqMixed.ne_bool_str (K0 I q (by simp))
  | _=>exact absurd (show false=true from hs) qN
 | int i=>
  obtain⟨t,rfl⟩:=rx;cases y with
  | non=>cases ry;exact PySem.EqNone.ne_int_none (K0 I q (by simp))
  | int j=>obtain⟨t',rfl⟩:=ry;exact ne_int (K0 I q (congrArg not F_))
  | str j=>obtain⟨t',rfl⟩:=ry;exact PySem.EqMixed.ne_int_str (K0 I q (by simp))
  | _=>exact absurd (show false=true from hs) qN
 | str i=>
  obtain⟨t,rfl⟩:=rx;cases y with
  | non=>cases ry;exact PySem.EqNone.ne_str_none (K0 I q (by simp))
  | bl j=>cases ry;exact PySem.EqMixed.ne_str_bool (K0 I q (by simp))
  | int j=>obtain⟨t',rfl⟩:=ry;exact PySem.EqMixed.ne_str_int (K0 I q (by simp))
  | str j=>obtain⟨t',rfl⟩:=ry;exact ne_str (K0 I q (congrArg not jf))
  | _=>exact absurd (show false=true from hs) qN
 | byt i=>
  obtain⟨t,rfl⟩:=rx;cases y with
  | byt j=>obtain⟨t',rfl⟩:=ry;exact PySem.W.ne_bytes (K0 I q (congrArg not e_))
  | _=>exact absurd (show false=true from hs) qN
 | _=>cases y<;>exact absurd (show false=true from hs) qN
theorem xW:J5 X (compareOp .Lt) (Z1 λi j=>.bl (decide (i < j))):=tO λ_ _ _ _ _ _ _ q=>lt_int q
theorem X6:J5 X (compareOp .LtE) (Z1 λi j=>.bl (decide (i<=j))):=tO λ_ _ _ _ _ _ _ q=>le_int q
theorem jv:J5 X (compareOp .Gt) (Z1 λi j=>.bl (decide (j < i))):=tO λ_ _ _ _ _ _ _ q=>gt_int q
theorem ykU:J5 X (compareOp .In) (λx y H Q=>∃ i j,x=.str i/\y=.str j/\Q (.bl (!(Builtin.Str.occurrences j i 0 j.length 1).isEmpty)) H):=by
 intro pins s σ H x y v u Q I rx ry h;obtain⟨i,j,rfl,rfl,q⟩:=h;obtain⟨t,rfl⟩:=rx;obtain⟨t',rfl⟩:=ry;exact in_str (K0 I q rfl)
theorem ypE:J5 X (compareOp .IsNot) (λx y H Q=>y=.non/\Q (.bl (!decide (x=.non))) H):=by
 intro pins s σ H x y v u Q I rx ry h;obtain⟨rfl,q⟩:=h;cases ry;refine isnot_none_gen (K0 I q ?_);cases x<;>first
  | (cases rx;rfl)
  | (obtain⟨t,rfl⟩:=rx;rfl)
theorem z5 (b:Expr){op:CmpOp}(h:op≠.In:=by decide)(h2:op≠.NotIn:=by decide):behindInMarks op b=false:=by
 have e1:(op==CmpOp.In)=false:=by cases op<;>first | rfl | exact absurd rfl h
 have e2:(op==CmpOp.NotIn)=false:=by cases op<;>first | rfl | exact absurd rfl h2
 cases b<;>simp[behindInMarks,e1,e2]
theorem N2 {op:CmpOp}{r:R2}(ho:J5 X (compareOp op) r)(ha:PE X a ta)(hb:PE X b tb)(hm:behindInMarks op b=false):PE X (.Compare a [op] [b] pos) (R5 r ta tb):=by
 intro pins s σ H Q I h;exact wpAny_Compare1 (yN ha hb I h λv u s2 x y H2 I2 rx ry q=>ho pins s2 σ H2 x y v u Q I2 rx ry q) hm
def rJ (t:TE):TT:=fun σ H Q=>t σ H λx H'=>∃ k,x=.bl k/\Q k H'
theorem C3 {op:CmpOp}{r:R2}(ho:J5 X (compareOp op) r)(ha:PE X a ta)(hb:PE X b tb)(hm:behindInMarks op b=false):PT X (.Compare a [op] [b] pos) (rJ (R5 r ta tb)):=by
 intro pins s σ H Q I h;refine wpAny_isTrue_Compare1 (t6 (ha pins s σ H _ I h) λv s1 ⟨x,H1,I1,r1,q1⟩=>t6 (hb pins s1 σ H1 _ I1 q1) λu s2 ⟨y,H2,I2,r2,q2⟩ =>
  t6 (ho pins s2 σ H2 x y v u _ I2 r1 r2 q2) λc s3 ⟨z,H3,I3,r3,k,e,q3⟩=>?_) hm
 subst e;cases r3;exact wpAny_truthy_bool ⟨H3,I3,q3⟩
def oV (r r':R2)(ta tb tc:TE):TE:=fun σ H Q=>ta σ H λx H1=>tb σ H1 λy H2=>r x y H2 λz H3=>∃ k,z=.bl k /\
 (if k=true then tc σ H3 λw' H4=>r' y w' H4 Q else Q (.bl false) H3)
theorem rH {op op':CmpOp}{r r':R2}(ho:J5 X (compareOp op) r)(ho':J5 X (compareOp op') r')(ha:PE X a ta)(hb:PE X b tb)(hc:PE X c tc)
  (hm:lastMarks [op,op'] [b,c]=false:=by with_unfolding_all rfl):PE X (.Compare a [op,op'] [b,c] pos) (oV r r' ta tb tc):=by
 intro pins s σ H Q I h;refine Compare_chain (t6 (ha pins s σ H _ I h) λv s1 ⟨x,H1,I1,r1,q1⟩=>chain_link (t6 (hb pins s1 σ H1 _ I1 q1) λu s2 ⟨y,H2,I2,r2,q2⟩ =>
  t6 (ho pins s2 σ H2 x y v u _ I2 r1 r2 q2) λd s3 ⟨z,H3,I3,r3,k,e,q3⟩=>?_)) hm
 subst e;cases r3;refine wpAny_truthy_bool ?_;cases k with
 | false=>exact ite_ff ⟨.bl false,H3,I3,rfl,q3⟩
 | true=>exact ite_tt (chain_last (t6 (hc pins s3 σ H3 _ I3 q3) λw' s4 ⟨z',H4,I4,r4,q4⟩=>ho' pins s4 σ H4 y z' u w' Q I4 r2 r4 q4))
theorem ylV {op op':CmpOp}{r r':R2}(ho:J5 X (compareOp op) r)(ho':J5 X (compareOp op') r')(ha:PE X a ta)(hb:PE X b tb)(hc:PE X c tc)
  (hm:lastMarks [op,op'] [b,c]=false:=by with_unfolding_all rfl):PT X (.Compare a [op,op'] [b,c] pos) (rJ (oV r r' ta tb tc)):=by
 intro pins s σ H Q I h;refine isTrue_chain (t6 (ha pins s σ H _ I h) λv s1 ⟨x,H1,I1,r1,q1⟩=>test_link (t6 (hb pins s1 σ H1 _ I1 q1) λu s2 ⟨y,H2,I2,r2,q2⟩ =>
  t6 (ho pins s2 σ H2 x y v u _ I2 r1 r2 q2) λd s3 ⟨z,H3,I3,r3,k,e,q3⟩=>?_)) hm
 subst e;cases r3;refine wpAny_truthy_bool ?_;cases k with
 | false=>
  obtain⟨k',e',q'⟩:=q3;cases e';exact ite_ff ⟨H3,I3,q'⟩
 | true=>
  refine ite_tt (test_last (t6 (hc pins s3 σ H3 _ I3 q3) λw' s4 ⟨z',H4,I4,r4,q4⟩=>t6 (ho' pins s4 σ H4 y z' u w' _ I4 r2 r4 q4) λd' s5 zq=>?_));obtain⟨z2,H5,I5,r5,k2,e2,q5⟩:=zq;subst e2;cases r5;exact wpAny_truthy_bool ⟨H5,I5,q5⟩
theorem jQ:(sizeLine:Nat) < 2 ^ 63:=by rw[sizeLine_eq];decide
theorem fQ {x:V}{us:List Value}(r:f8 [x] us):∃ u,us=[u]/\g9 x u:=by
 cases r with
 | cons r1 r2=>cases r2;exact⟨_,rfl,r1⟩
theorem jC {x y:V}{us:List Value}(r:f8 [x,y] us):∃ u w',us=[u,w']/\g9 x u/\g9 y w':=by
 cases r with
 | cons r1 r2=>
  cases r2 with
  | cons r3 r4=>cases r4;exact⟨_,_,rfl,r1,r3⟩
theorem yjJ (hc:X.calm=true):P7 X (.builtin "max") (λxs H Q=>∃ i j,xs=[.int i,.int j]/\Q (.int (if j > i then j else i)) H):=by
 intro pins s σ H xs us Q I r h;obtain⟨i,j,rfl,q⟩:=h;obtain⟨u,w',rfl,⟨t,rfl⟩,⟨t',rfl⟩⟩:=jC r;refine max_two_ints (I.ok.hd hc) λh' tk k=>⟨_,H,I.kept k,?_,q⟩
 by_cases hj:j > i
 ·rw[if_pos hj,if_pos hj];exact⟨_,rfl⟩
 ·rw[if_neg hj,if_neg hj];exact⟨_,rfl⟩
end
structure Z9 (h:Heap) (x dx C:Addr) (mA:Str->Option Value):Prop where
 obj:h.get? x=some (PySem.W.instObj C dx)
 ns:h.Ns1 dx mA
 ne:dx≠x
theorem Vr {h:Heap}{dx:Addr}{mA:Str->Option Value}(n:h.Ns1 dx mA):∃ od,h.get? dx=some od/\∀ name,PySem.W.lookIn name od=some (mA name):=by
 obtain⟨o,es,ep,ho,hd,hk,_,hm⟩:=n;refine⟨o,ho,λname=>?_⟩;have e:=hm name;unfold nsFind findBy at e;rw[<- Array.find?_toList] at e;unfold PySem.W.lookIn;rw[hd];dsimp only;split
 ·rename_i y q
  rw[q] at e;exact congrArg some e
 ·rename_i q
  rw[q] at e;have a:es.toList.any (·.refKey)=false:=by
   rw[List.any_eq_false];intro y hy;obtain⟨z,t,hkey⟩:=hk y (Array.mem_toList_iff.mp hy);simp[DictEntry.refKey,hkey]
  have a':¬ es.toList.any (·.refKey)=true:=by rw[a];exact qN
  rw[if_neg a'];exact congrArg some e
theorem Z9.look {h:Heap}{x dx C:Addr}{mA:Str->Option Value}(I:Z9 h x dx C mA):∃ od,PySem.W.InstAt h x (PySem.W.instObj C dx) C (some od)/\∀ name,PySem.W.lookIn name od=some (mA name) :=
 let ⟨od,ho,hl⟩:=Vr I.ns
 ⟨od,⟨I.obj,rfl,rfl,ho⟩,hl⟩
section
variable {prog:Program} {w:World} {A:Around} {E:Value->Shared->Prop} {s:Shared} {K:qF} {x dx C f:Addr} {mA:Str->Option Value} {name:Str} {v:Value}
theorem Wy {expr:Bool}{Q:Value->Shared->Prop}(X:K.In s.heap)(I:Z9 s.heap x dx C mA)(hg:PySem.W.plainGet K C name=true)(hh:PySem.W.hasDictIn K C=true)
  (ha:PySem.W.findIn K (.ref C) name=some none) (hv:mA name=some v) (hv':PySem.W.handedIn v=true) (h:Q v { s with toks:=s.toks+1 }) :
  wpAny (model prog w) A (getAttr (.ref x) name expr) Q E s:=by
 obtain⟨od,J,hl⟩:=I.look;exact PySem.W.get_value X J (PySem.W.plainGet_of hg).1 (PySem.W.findObj_own hh ha rfl (by rw[hl,hv])) hv' h
theorem AZ {pl:Sem Bool}{Q:Value×List Value->Shared->Prop}(X:K.In s.heap)(I:Z9 s.heap x dx C mA)(hg:PySem.W.plainGet K C name=true)
  (hf:PySem.W.findIn K (.ref C) name=some (some (.ref f))) (ht:PySem.W.isFn K (.ref f)=true) (hv:mA name=none) (h:Q (.ref f,[.ref x]) s) :
  wpAny (model prog w) A (getMethod (.ref x) name pl) Q E s:=by
 obtain⟨od,J,hl⟩:=I.look;exact PySem.W.method_fn X J (PySem.W.plainGet_of hg).1 (PySem.W.plainGet_of hg).2 hf (beq_iff_eq.mp ht) (by show(PySem.W.lookIn name od).map (·.isSome)=some false;rw[hl,hv];rfl) h
theorem Yj {ns:List Str}{Q:Unit->Shared->Prop}(X:K.In s.heap)(I:Z9 s.heap x dx C mA)
  (hs:PySem.W.findIn K (.ref C) "__setattr__"=some (some (.builtin "object.__setattr__"))) (hp:PySem.W.plainOver K C=true) (ht:PySem.W.takerIn K C name=some none) (hh:PySem.W.hasDictIn K C=true)
  (hw:PySem.Within mA ns) (hsz:ns.length<=sizeLine)
  (h:∀ h',Z9 h' x dx C (λy=>if y=name then some v else mA y)->Heap.SameBut dx s.heap h'->Q () { s with heap:=h',toks:=s.toks+2 }) :
  wpAny (model prog w) A (setAttr (.ref x) name v) Q E s:=by
 obtain⟨od,J,hl⟩:=I.look;refine PySem.W.set_plain X J hs (PySem.W.osa_open (s:={ s with toks:=s.toks+1 }) (r:=none) X J hp ht λb=>?_);obtain⟨cd,hc,hd'⟩:=PySem.W.any_some hh;have hx:s.heap.get? x=some ⟨.ref C,some dx,.plain,#[]⟩:=I.obj;refine wpAny_bind (wpAny_pure (wpAny_bind (wpAny_bind (wpAny_loadPart hx (wpAny_bind (PySem.W.Looks.here (s:={ s with toks:=s.toks+1 }) (PySem.W.looks_clsIn X hc) ?_))))));rw[hd'];refine wpAny_pure (a:=some dx) (wpAny_bind (wpAny_pure (wpAny_bind ?_)));refine wpAny_nsSet1 (s:={ s with toks:=s.toks+1 }) I.ns λh' hn2 hs2=>?_
 obtain⟨oD,esD,epD,hoD,hdD,hcD⟩:=hn2.count (PySem.Within.cons name v hw);refine wpAny_bind (wpAny_lookBehind hoD (by rw[hdD];exact pastItsLine_dict (Nat.le_trans hcD (by rw[qC];omega))) ?_);exact wpAny_pure (h _ ⟨(hs2.2 _ (Ne.symm I.ne)).trans I.obj,hn2,I.ne⟩ hs2)
theorem Zp {R:Result->Shared->Prop}{vs:List Value}{kw:List (Str×Value)}(X:K.In s.heap)(hm:PySem.W.makesIn K C=true)
  (hi:PySem.W.findIn K (.ref C) "__init__"=some (some (.ref f))) (hf:PySem.W.typeIn K (.ref f)=some (.type "function"))
  (h:codeAny (model prog w) (A.under (.builtin "type.__call__" ⟨.ref C :: vs,kw⟩)) (.call (.ref f) ⟨.ref (s.heap.objs.size+1) :: vs,kw⟩) (PySem.W.InitBack (s.heap.objs.size+1) R)
   { s with heap:=(s.heap.push PySem.W.emptyDict).push (PySem.W.instObj C s.heap.objs.size) }) :
  codeAny (model prog w) A (.call (.ref C) ⟨vs,kw⟩) R s:=by
 obtain⟨hh,g,d,t,os⟩:=s;exact PySem.W.make_core (PySem.W.makes_of X hm) (PySem.W.looks_findIn X hi) (λself=>PySem.W.bind_fn X self hf) (.inl rfl) h
end
def R4 (f:Str)(v:V):List (Str×V)->List (Str×V)
 | []=>[(f,v)]
 | (g,x) :: r=>if g=f then (g,v) :: r else (g,x) :: R4 f v r
theorem yZ (f g:Str)(v:V):∀ fs:List (Str×V),(R4 f v fs).lookup g=if g=f then some v else fs.lookup g
 | []=>by
  show List.lookup g [(f,v)]=_
  by_cases h:g=f
  ·have hb:(g==f)=true:=beq_iff_eq.mpr h;simp only[List.lookup,hb,if_pos h]
  ·have hb:(g==f)=false:=beq_eq_false_iff_ne.mpr h;simp only[List.lookup,hb,if_neg h]
 | (k,x) :: r=>by
  have ih:=yZ f g v r;rw[show R4 f v ((k,x) :: r)=(if k=f then (k,v) :: r else (k,x) :: R4 f v r) from rfl];by_cases hk:k=f
  ·rw[if_pos hk];by_cases h:g=k
   ·have hb:(g==k)=true:=beq_iff_eq.mpr h;simp only[List.lookup,hb,if_pos (h.trans hk)]
   ·have hb:(g==k)=false:=beq_eq_false_iff_ne.mpr h;simp only[List.lookup,hb,if_neg (λe:g=f=>h (e.trans hk.symm))]
  ·rw[if_neg hk];by_cases h:g=k
   ·have hb:(g==k)=true:=beq_iff_eq.mpr h;simp only[List.lookup,hb,if_neg (λe:g=f=>hk (h.symm.trans e))]
   ·have hb:(g==k)=false:=beq_eq_false_iff_ne.mpr h;simp only[List.lookup,hb];exact ih
theorem uD (f:Str)(v:V):∀ fs:List (Str×V),f∈(R4 f v fs).map (·.1)/\∀ g,g∈fs.map (·.1)->g∈(R4 f v fs).map (·.1)
 | []=>⟨by simp[R4],λg h=>by simp at h⟩
 | (k,x) :: r=>by
  obtain⟨i1,i2⟩:=uD f v r;rw[show R4 f v ((k,x) :: r)=(if k=f then (k,v) :: r else (k,x) :: R4 f v r) from rfl];by_cases hk:k=f
  ·rw[if_pos hk];subst hk;exact⟨by simp,λg h=>by simpa using h⟩
  ·rw[if_neg hk];refine⟨?_,λg h=>?_⟩
   ·rw[List.map_cons];exact List.mem_cons_of_mem _ i1
   ·rw[List.map_cons] at h |-;rcases List.mem_cons.mp h with e | e
    ·exact List.mem_cons.mpr (.inl e)
    ·exact List.mem_cons_of_mem _ (i2 g e)
theorem qu (f:Str)(v:V):∀ fs:List (Str×V),(R4 f v fs).length<=fs.length+1
 | []=>by simp[R4]
 | (k,x) :: r=>by
  have ih:=qu f v r;rw[show R4 f v ((k,x) :: r)=(if k=f then (k,v) :: r else (k,x) :: R4 f v r) from rfl];by_cases hk:k=f
  ·rw[if_pos hk,qC,qC];omega
  ·rw[if_neg hk,qC,qC];omega
theorem I0.some_of {v:V}{o:Option Value}(r:I0 (some v) o):∃ u,o=some u/\g9 v u:=by
 cases o with
 | none=>exact(show False from r).elim
 | some u=>exact⟨u,rfl,r⟩
theorem I0.none_of {o:Option Value}(r:I0 none o):o=none:=by
 cases o with
 | none=>rfl
 | some u=>exact(show False from r).elim
theorem yj0 {v:V}{u:Value}(r:g9 v u):PySem.W.handedIn u=true:=by
 cases v with
 | non=>cases (show u=Value.none from r);rfl
 | bl b=>cases (show u=Value.bool b from r);rfl
 | int i=>obtain⟨t,e⟩:=(show ∃ t,u=Value.int i t from r);cases e;rfl
 | str x=>obtain⟨t,e⟩:=(show ∃ t,u=Value.str x t from r);cases e;rfl
 | byt b=>obtain⟨t,e⟩:=(show ∃ t,u=Value.bytes b t from r);cases e;rfl
 | flt b=>obtain⟨t,e⟩:=(show ∃ t,u=Value.float b t from r);cases e;rfl
 | ref a=>cases (show u=Value.ref a from r);rfl
 | ty n=>cases (show u=Value.type n from r);rfl
section
variable {P:Program} {w:World} {H H':Hp} {h h':Heap} {a C dx:Addr} {fs fs':List (Str×V)}
theorem oR (hok:C9 P w H h)(e:H a=some (.ins C dx fs)):∃ mA,Z9 h a dx C mA/\(∀ f,I0 (fs.lookup f) (mA f))/\PySem.Within mA (fs.map (·.1))/\fs.length<=1000/\H dx=some (.own a):=by
 obtain⟨d,z,ne,ob,mA,n,r,q⟩:=(show t0 P w H h a (.ins C dx fs) from hok a _ e);exact⟨mA,⟨ob,n,ne⟩,r,q,z,d⟩
end
structure R8 (K:qF) (C:Addr):Prop where
 pg:PySem.W.plainGet K C Str.empty=true
 hd:PySem.W.hasDictIn K C=true
 po:PySem.W.plainOver K C=true
 sa:PySem.W.findIn K (.ref C) "__setattr__"=some (some (.builtin "object.__setattr__"))
theorem R8.get {K:qF}{C:Addr}(c:R8 K C)(f:Str):PySem.W.plainGet K C f=true:=c.pg
def v7 (K:qF)(C:Addr)(f:Str):Prop:=PySem.W.findIn K (.ref C) f=some none
theorem v7.taker {K:qF}{C:Addr}{f:Str}(n:v7 K C f):PySem.W.takerIn K C f=some none:=by
 unfold PySem.W.takerIn;rw[show PySem.W.findIn K (.ref C) f=some none from n];rfl
structure Con (K:qF) (C:Addr) (f:Str) (v:V) (u:Value):Prop where
 at_:PySem.W.findIn K (.ref C) f=some (some u)
 rel:g9 v u
 get:PySem.W.specialIn K u "__get__"=some none
 cp:PySem.W.copiedNames.contains f=false
structure aP (K:qF) (C:Addr) (m:Str) (f:Addr):Prop where
 at_:PySem.W.findIn K (.ref C) m=some (some (.ref f))
 fn:PySem.W.isFn K (.ref f)=true
 kp:PySem.W.keepIn K (.ref f)=true
section
variable {X:Cx} {pins:List (Addr×Obj)} {σ:St} {H:Hp} {s:Shared} {a C dx:Addr} {fs:List (Str×V)} {f:Str} {v:V} {A:Around} {E:Value->Shared->Prop}
theorem Wh {b:Bool}{Q:Value->Shared->Prop}(I:f6 X pins σ H s)(e:H a=some (.ins C dx fs))(c:R8 X.K C)(n:v7 X.K C f)(l:fs.lookup f=some v)
  (h:∀ u s',f6 X pins σ H s'->g9 v u->Q u s'):wpAny (model X.prog X.w) A (getAttr (.ref a) f b) Q E s:=by
 obtain⟨mA,O,r,_,_,_⟩:=oR I.hok e;obtain⟨u,hu,ru⟩:=I0.some_of (v:=v) (o:=mA f) (by rw[<- l];exact r f);exact Wy I.kIn O (c.get f) c.hd n hu (yj0 ru) (h u _ (I.tok _) ru)
theorem xG {m:Str}{g:Addr}{pl:Sem Bool}{Q:Value×List Value->Shared->Prop}(I:f6 X pins σ H s)(e:H a=some (.ins C dx fs))(c:R8 X.K C)(k:aP X.K C m g)(l:fs.lookup m=none)
  (h:Q (.ref g,[.ref a]) s):wpAny (model X.prog X.w) A (getMethod (.ref a) m pl) Q E s:=by
 obtain⟨mA,O,r,_,_,_⟩:=oR I.hok e;have hn:mA m=none:=I0.none_of (by rw[<- l];exact r m);exact AZ I.kIn O (c.get m) k.at_ k.fn hn h
theorem MX {y:V}{u:Value}{Q:Unit->Shared->Prop}(I:f6 X pins σ H s)(e:H a=some (.ins C dx fs))(c:R8 X.K C)(n:v7 X.K C f)(hl:fs.length < 1000)(ry:g9 y u)
  (h:∀ s',f6 X pins σ (upd H a (.ins C dx (R4 f y fs))) s'->Q () s'):wpAny (model X.prog X.w) A (setAttr (.ref a) f u) Q E s:=by
 obtain⟨mA,O,r,wi,_,ho⟩:=oR I.hok e;have hz:(fs.map (·.1)).length<=sizeLine:=by rw[qM,sizeLine_eq];omega
 refine Yj I.kIn O c.sa c.po n.taker c.hd wi hz λh' O' sb=>h _ ?_
 have hd:∃ o,h'.get? dx=some o:=let ⟨o,_,_,e',_⟩:=O'.ns;⟨o,e'⟩
 refine I.write (x:=a) (e:=dx) (by rw[e];exact True.intro) (.inr ho) (λb q hb z=>(sb.2 b hb).trans z) hd ?_;refine⟨by rw[u6 O.ne];exact ho,?_,O.ne,O'.obj,_,O'.ns,λg=>?_,λg hg=>?_⟩
 ·have:=qu f y fs;omega
 ·show I0 ((R4 f y fs).lookup g) (if g=f then some u else mA g)
  rw[yZ];by_cases q:g=f
  ·rw[if_pos q,if_pos q];exact ry
  ·rw[if_neg q,if_neg q];exact r g
 ·by_cases q:g=f
  ·rw[q];exact(uD f y fs).1
  ·refine(uD f y fs).2 g (wi g λz=>hg ?_);show(if g=f then some u else mA g)=none
   rw[if_neg q];exact z
theorem f6.made (I:f6 X pins σ H s):f6 X pins σ (upd (upd H s.heap.objs.size (.own (s.heap.objs.size+1))) (s.heap.objs.size+1) (.ins C s.heap.objs.size []))
  { s with heap:=(s.heap.push PySem.W.emptyDict).push (PySem.W.instObj C s.heap.objs.size) }:=by
 have e1:(s.heap.push PySem.W.emptyDict).get? s.heap.objs.size=some PySem.W.emptyDict:=Heap.get?_push_size s.heap rfl;have e2:((s.heap.push PySem.W.emptyDict).push (PySem.W.instObj C s.heap.objs.size)).get? (s.heap.objs.size+1)=some (PySem.W.instObj C s.heap.objs.size):=by
  have:=Heap.get?_push_size (s.heap.push PySem.W.emptyDict) (o:=PySem.W.instObj C s.heap.objs.size) rfl
  rwa [Heap.size_push] at this
 have e3:(s.heap.push PySem.W.emptyDict).Ns s.heap.objs.size (λ_=>none):=⟨PySem.W.emptyDict,#[],_,e1,rfl,(λe he=>absurd he (by simp)),λ_=>rfl⟩;have I1:=I.laid (a:=s.heap.objs.size) (o:=.own (s.heap.objs.size+1)) (h':=s.heap.push PySem.W.emptyDict) (t':=s.toks) (λb u q=>Heap.get?_push_of_some _ q) (qR _) ⟨_,e1⟩;refine I1.laid (a:=s.heap.objs.size+1) (o:=.ins C s.heap.objs.size []) (t':=s.toks) (λb u q=>Heap.get?_push_of_some _ q) (Nat.le_of_eq (Heap.size_push _ _)) ?_;have ne:s.heap.objs.size≠s.heap.objs.size+1:=Nat.ne_of_lt (Nat.lt_succ_self _);refine⟨by rw[u6 ne,f9],Nat.zero_le _,ne,e2,λ_=>none,(Heap.Ns1.of_empty e3).at λo q=>Heap.get?_push_of_some _ q,λ_=>True.intro,λy hy=>absurd rfl hy⟩
theorem Gg {prog:Program}{w:World}{env:Env}{e:Expr}{f:Str}{pos:Pos}{s:Shared}{Q:Value->Shared->Prop}(hb:attributeBase e f env (eval e env)=eval e env)
  (h:wpAny (model prog w) A (eval e env) (λo s₁=>wpAny (model prog w) A (getAttr o f true) Q E s₁) E s):wpAny (model prog w) A (eval (.Attribute e f pos) env) Q E s :=
 Attribute_any_ h (by rw[arm_eval_Attribute,hb])
end
def lM (K:qF)(ta:TE)(f:Str):TE:=fun σ H Q=>ta σ H λx H1=>∃ a C dx fs v,x=.ref a/\H1 a=some (.ins C dx fs)/\R8 K C/\v7 K C f/\fs.lookup f=some v/\Q v H1
def uG (K:qF)(ta tv:TE)(f:Str):TS:=λD σ H=>tv σ H λy H1=>ta σ H1 λx H2=>∃ a C dx fs,x=.ref a/\H2 a=some (.ins C dx fs)/\R8 K C/\v7 K C f/\fs.length < 1000 /\
 D.nx σ (upd H2 a (.ins C dx (R4 f y fs)))
section
variable {X:Cx} {o e value:Expr} {f:Str} {pos pos' tpos:Pos} {ta tv:TE}
theorem M3 (he:PE X e ta)(hb:attributeBase e f X.env (eval e X.env)=eval e X.env):PE X (.Attribute e f pos) (lM X.K ta f):=by
 intro pins s σ H Q I h;refine Gg hb (t6 (he pins s σ H _ I h) λu s1 zq=>?_);obtain⟨x,H1,I1,rx,a,C,dx,fs,v,ex,ea,c,n,l,q⟩:=zq;subst ex;obtain rfl:u=Value.ref a:=rx;exact Wh I1 ea c n l λu' s2 I2 ru=>⟨v,H1,I2,ru,q⟩
theorem fO (ha:PE X o ta)(hv:PE X value tv)(hs:swapsWith value (some (.Attribute o f pos')) pos.line X.env=pure false):PS X (.Assign [.Attribute o f pos'] value pos) (uG X.K ta tv f):=by
 intro pins s σ H D I h;refine plainObj_wpAny_Assign_Attribute (t6 (hv pins s σ H _ I h) λu s1 ⟨y,H1,I1,ry,q⟩=>t6 (ha pins s1 σ H1 _ I1 q) λov s2 zq=>?_) hs;obtain⟨x,H2,I2,rx,a,C,dx,fs,ex,ea,c,n,l,q2⟩:=zq;subst ex;obtain rfl:ov=Value.ref a:=rx;exact MX I2 ea c n l ry λs3 I3=>⟨σ,_,I3,q2⟩
end
section
variable {X:Cx} {pins:List (Addr×Obj)} {σ:St} {H:Hp} {s:Shared} {A:Around} {E:Value->Shared->Prop} {Q:Value->Shared->Prop} {c:Value} {b:Bool}
inductive U3 (K:qF) (H:Hp):V->Value->Prop where
 | non:U3 K H .non (.type "NoneType")
 | bl (x:Bool):U3 K H (.bl x) (.type "bool")
 | int (i:Int):U3 K H (.int i) (.type "int")
 | str (x:Str):U3 K H (.str x) (.type "str")
 | flt (x:UInt64):U3 K H (.flt x) (.type "float")
 | lst {a:Addr} {xs:List V} (e:H a=some (.lst xs)):U3 K H (.ref a) (.type "list")
 | frz {a:Addr} {o:Obj} {xs:List V} (e:H a=some (.frz o (.lst xs))):U3 K H (.ref a) (.type "list")
 | tup {a:Addr} {xs:List V} (e:H a=some (.tup xs)):U3 K H (.ref a) (.type "tuple")
 | dK {a:Addr} {kvs:List (C5×V)} (e:H a=some (.dK kvs)):U3 K H (.ref a) (.type "dict")
 | dT {a:Addr} {kvs:List (List C5×V)} (e:H a=some (.dT kvs)):U3 K H (.ref a) (.type "dict")
 | ins {a C dx:Addr} {fs:List (Str×V)} (e:H a=some (.ins C dx fs)) (cl:R8 K C) (ha:PySem.W.findIn K (.ref C) "__class__"=some (some (.builtin "object.__class__")))
   (hn:PySem.W.specialIn K (.builtin "object.__class__") "__get__"=some (some (.builtin "getset_descriptor.__get__"))) (htk:PySem.W.takesIn K (.builtin "object.__class__")=some true)
   (hm:PySem.W.mroIn K C (.type "object")=some true):U3 K H (.ref a) (.ref C)
theorem Vl {x:V}{u t:Value}(I:f6 X pins σ H s)(rx:g9 x u)(ty:U3 X.K H x t)(e:PySem.W.kitOne X.K t c=some b)(h:∀ tk,Q (.bool b) { s with toks:=tk }) :
  wpAny (model X.prog X.w) A (call (.builtin "isinstance") [u,c]) Q E s:=by
 cases ty with
 | non=>cases (show u=Value.none from rx);exact PySem.W.kia_one PySem.W.kitx_none I.kIn True.intro e (λz=>nomatch z) h
 | bl y=>cases (show u=Value.bool y from rx);exact PySem.W.kia_one PySem.W.kitx_bool I.kIn True.intro e (λz=>nomatch z) h
 | int i=>obtain⟨t,q⟩:=(show ∃ t,u=Value.int i t from rx);cases q;exact PySem.W.kia_one PySem.W.kitx_int I.kIn True.intro e (λz=>nomatch z) h
 | str y=>obtain⟨t,q⟩:=(show ∃ t,u=Value.str y t from rx);cases q;exact PySem.W.kia_one PySem.W.kitx_str I.kIn True.intro e (λz=>nomatch z) h
 | flt y=>obtain⟨t,q⟩:=(show ∃ t,u=Value.float y t from rx);cases q;exact PySem.W.kia_one PySem.W.kitx_float I.kIn True.intro e (λz=>nomatch z) h
 | @lst a xs ea=>
  cases (show u=Value.ref a from rx);obtain⟨_,_,n,_,h1⟩:=(show t0 X.prog X.w H s.heap a (.lst xs) from I.hok a _ ea);exact PySem.W.kia_one PySem.W.kitx_list I.kIn ⟨_,h1,rfl⟩ e (λz=>nomatch z) h
 | @frz a ob xs ea=>
  cases (show u=Value.ref a from rx);obtain⟨_,_,_,n,_,h1⟩:=(show t0 X.prog X.w H s.heap a (.frz ob (.lst xs)) from I.hok a _ ea);exact PySem.W.kia_one PySem.W.kitx_list I.kIn ⟨_,h1,rfl⟩ e (λz=>nomatch z) h
 | @tup a xs ea=>
  cases (show u=Value.ref a from rx);obtain⟨_,_,_,p⟩:=(show t0 X.prog X.w H s.heap a (.tup xs) from I.hok a _ ea);obtain⟨o,h1,h2,_⟩:=p;exact PySem.W.kia_one PySem.W.kitx_tuple I.kIn ⟨o,h1,h2⟩ e (λz=>nomatch z) h
 | @dK a kvs ea=>
  cases (show u=Value.ref a from rx);obtain⟨_,_,vs,_,p⟩:=(show t0 X.prog X.w H s.heap a (.dK kvs) from I.hok a _ ea);obtain⟨o,es,ep,h1,h2,_⟩:=p;exact PySem.W.kia_one PySem.W.kitx_dict I.kIn ⟨o,h1,h2.1⟩ e (λz=>nomatch z) h
 | @dT a kvs ea=>
  cases (show u=Value.ref a from rx);obtain⟨_,_,xs,_,o,es,ep,h1,h2,_⟩:=(show t0 X.prog X.w H s.heap a (.dT kvs) from I.hok a _ ea);exact PySem.W.kia_one PySem.W.kitx_dict I.kIn ⟨o,h1,h2.1⟩ e (λz=>nomatch z) h
 | @ins a C dx fs ea cl ha hn htk hm=>
  cases (show u=Value.ref a from rx);obtain⟨mA,O,_⟩:=oR I.hok ea;obtain⟨od,J,_⟩:=O.look;exact PySem.W.kia_one (PySem.W.kitx_own (cl.get _) cl.hd ha hn htk hm) I.kIn J e (λz=>nomatch z) h
end
structure x8 (k:Nat) (A:Around):Prop where
 hd:A.handled=none
 dp:A.depth+3*k+5 < recursionLimit
 un:A.units+16*k+200 < cLine
theorem x8.mono {j k:Nat}{A:Around}(r:x8 k A)(h:j<=k):x8 j A:=⟨r.hd,by have:=r.dp;omega,by have:=r.un;omega⟩
theorem x8.deeper {k:Nat}{A:Around}(r:x8 (k+1) A)(env:Env):x8 k (A.deeper env) :=
 ⟨r.hd,by have:=r.dp;show A.depth+1+3*k+5 < _;omega,by have:=r.un;show A.units+3+16*k+200 < _;omega⟩
theorem FQ {A:Around}{C:Addr}{us:List Value}{kw:List (Str×Value)}:(A.under (.builtin "type.__call__" ⟨.ref C :: us,kw⟩)).depth=A.depth+1:=by
 first | rfl | simp[Around.under,Code.weight,Code.isCreation,Code.isGuard,Code.isCaller,Code.frames,Code.isFrame,guardIds]
theorem yja {A:Around}{C:Addr}{us:List Value}{kw:List (Str×Value)}:(A.under (.builtin "type.__call__" ⟨.ref C :: us,kw⟩)).units=A.units+1:=by
 first | rfl | simp[Around.under,Code.cUnits,Code.frames,Code.isFrame]
theorem x8.make {k:Nat}{A:Around}(r:x8 (k+1) A)(C:Addr)(us:List Value)(kw:List (Str×Value)):x8 k (A.under (.builtin "type.__call__" ⟨.ref C :: us,kw⟩)) :=
 ⟨r.hd,by have:=r.dp;rw[FQ];omega,by have:=r.un;rw[yja];omega⟩
theorem x8.depth {k:Nat}{A:Around}(r:x8 k A):A.depth < recursionLimit:=by have:=r.dp;omega
theorem x8.units {k:Nat}{A:Around}(r:x8 k A):A.units+64 < cLine:=by have:=r.un;omega
def Z8:TA:=λ_ H Q=>Q [] H
def O3 (ta:TE)(tr:TA):TA:=fun σ H Q=>ta σ H λx H1=>tr σ H1 λxs H2=>Q (x :: xs) H2
section
variable {X:Cx} {e:Expr} {es:List Expr} {te:TE} {t:TA} {pos:Pos}
theorem c6:PA X [] Z8:=λ_ _ _ _ H Q I h=>Calls.spliced_nil ⟨[],H,I,.nil,h⟩
theorem b7 (ha:PE X e te)(hr:PA X es t)(hs:starEach (e :: es) X.env=(false,eval e X.env) :: starEach es X.env:=by rfl):PA X (e :: es) (O3 te t):=by
 intro pos pins s σ H Q I h;rw[hs];show wpAny _ _ (spliced ((false,eval e X.env) :: backTo pos (starEach es X.env))) _ _ s
 refine Calls.spliced_cons (t6 (ha pins s σ H _ I h) λu s1 zq=>?_);obtain⟨x,H1,I1,r1,q1⟩:=zq;exact t6 (hr pos pins s1 σ H1 _ I1 q1) λus s2 ⟨xs,H2,I2,r2,q2⟩=>⟨x :: xs,H2,I2,.cons r1 r2,q2⟩
def hV (t:TA):TE:=fun σ H Q=>t σ H λxs H1=>xs.length<=sizeLine/\∀ p,H1 p=none->Q (.ref p) (upd H1 p (.tup xs))
def iI (t:TA):TE:=fun σ H Q=>t σ H λxs H1=>xs.length<=sizeLine/\∀ p,H1 p=none->Q (.ref p) (upd H1 p (.lst xs))
theorem g8 {x1}(h:PA X es t):PE X (.Tuple es x1 pos) (hV t):=by
 intro pins s σ H Q I hq;refine wpAny_Tuple_spliced (t6 (h pos pins s σ H _ I hq) λus s1 ⟨xs,H1,I1,r,z,q⟩=>⟨by rw[<- r.length];exact z,?_⟩);have hf:H1 s1.heap.objs.size=none:=I1.hok.fresh (qR _);refine⟨.ref s1.heap.objs.size,upd H1 s1.heap.objs.size (.tup xs),I1.laid (t':=s1.toks) (λb u e=>Heap.get?_push_of_some _ e) (qR _) ?_,rfl,q _ hf⟩;exact⟨z,us,r,⟨_,Heap.get?_push_size _ rfl,rfl,_,rfl⟩⟩
theorem j8 (h:PA X es t):PE X (.List es pos) (iI t):=by
 intro pins s σ H Q I hq;refine wpAny_List_spliced (t6 (h pos pins s σ H _ I hq) λus s1 ⟨xs,H1,I1,r,z,q⟩=>⟨by rw[<- r.length];exact z,?_⟩);have hf:H1 s1.heap.objs.size=none:=I1.hok.fresh (qR _);refine⟨.ref s1.heap.objs.size,upd H1 s1.heap.objs.size (.lst xs),I1.laid (t':=s1.toks) (λb u e=>Heap.get?_push_of_some _ e) (qR _) ?_,rfl,q _ hf⟩;exact⟨z,us,0,r,Heap.get?_push_size _ rfl⟩
end
abbrev Sp:=List V->Hp->VK->XK->Prop
abbrev P0:=List Env->Hp->Shared->XK->Value->Shared->Prop
structure R9 (P:Program) (w:World) (K:qF) (mg:Str->Option Value) (base:Heap) (A:Around) (outer:List Env) (s:Shared) (H:Hp):Prop where
 frames:A.frames=some outer
 mod:Mod K mg base
 bs:∀ b o,base.get? b=some o->s.heap.get? b=some o/\H b=none
 bsz:base.objs.size<=s.heap.objs.size
 funs:s.heap.FunFrames base outer
 frf:∀ b∈E6 outer,H b=none
 hok:C9 P w H s.heap
 bare:AllBare s.gens
def CE (outer:List Env)(P:Program)(w:World)(H:Hp)(s:Shared)(Q:VK)(u:Value)(s':Shared):Prop :=
 ∃ v H',s'.os=s.os/\AllBare s'.gens/\Un (E6 outer) [] H H' s.heap s'.heap/\C9 P w H' s'.heap/\g9 v u/\Q v H'
def CR (CX:P0)(outer:List Env)(P:Program)(w:World)(H:Hp)(s:Shared)(Q:VK)(E:XK)(r:Result)(s':Shared):Prop :=
 match r with
 | .ok (.ret u)=>CE outer P w H s Q u s'
 | .ok _=>False
 | .error e=>CX outer H s E e s'
structure z0 (P:Program) (w:World) (K:qF) (mg:Str->Option Value) (base:Heap) (CX:P0) (k:Nat) (f:Addr) (fd:FuncData) (ps:List Str) (sp:Sp):Prop where
 len:∀ vs H Q E,sp vs H Q E->vs.length=ps.length
 run:∀ (A:Around) (outer:List Env) (s:Shared) (H:Hp) (args:Args) (us:List Value) (vs:List V) (Q:VK) (E:XK),x8 k A->R9 P w K mg base A outer s H->BindsTo s fd args (ps.zip us)->f8 vs us->sp vs H Q E ->
  codeAny (model P w) A (.call (.ref f) args) (CR CX outer P w H s Q E) s
theorem z0.mono {P:Program}{w:World}{K:qF}{mg:Str->Option Value}{base:Heap}{CX:P0}{j k:Nat}{f:Addr}{fd:FuncData}{ps:List Str}{sp:Sp}(F:z0 P w K mg base CX j f fd ps sp)(h:j<=k) :
  z0 P w K mg base CX k f fd ps sp:=⟨F.len,λA outer s H args us vs Q E hr=>F.run A outer s H args us vs Q E (hr.mono h)⟩
theorem z0.imp {P:Program}{w:World}{K:qF}{mg:Str->Option Value}{base:Heap}{CX:P0}{k:Nat}{f:Addr}{fd:FuncData}{ps:List Str}{sp sp':Sp}(F:z0 P w K mg base CX k f fd ps sp)
  (h:∀ vs H Q E,sp' vs H Q E->sp vs H Q E):z0 P w K mg base CX k f fd ps sp' :=
 ⟨λvs H Q E q=>F.len vs H Q E (h _ _ _ _ q),λA outer s H args us vs Q E hr he hb hv hs=>F.run A outer s H args us vs Q E hr he hb hv (h _ _ _ _ hs)⟩
theorem R9.make {P:Program}{w:World}{K:qF}{mg:Str->Option Value}{base:Heap}{A:Around}{outer:List Env}{s:Shared}{H:Hp}(e:R9 P w K mg base A outer s H)(C:Addr)(us:List Value)(kw:List (Str×Value)) :
  R9 P w K mg base (A.under (.builtin "type.__call__" ⟨.ref C :: us,kw⟩)) outer s H:=⟨by first | exact e.frames | (simpa [Around.under,Code.envs,Code.isFrame,pushEnvs] using e.frames),e.mod,e.bs,e.bsz,e.funs,e.frf,e.hok,e.bare⟩
section
variable {X:Cx} {pins:List (Addr×Obj)} {σ:St} {H:Hp} {s s':Shared}
theorem f6.env0 (I:f6 X pins σ H s):R9 X.prog X.w X.K X.mg X.base X.A X.stack s H :=
 ⟨I.ok.frames,I.ok.mod,I.bs,Nat.le_trans I.ok.bsz I.sz,I.stack,I.stkFree,I.hok,I.bare⟩
theorem f6.after {Q:VK}{u:Value}(I:f6 X pins σ H s)(h:CE X.stack X.prog X.w H s Q u s'):EP X pins σ Q u s':=by
 obtain⟨v,H',os,bare,un,hok,r,q⟩:=h;obtain⟨hh,g,d,t,os'⟩:=s';obtain rfl:os'=s.os:=os;exact⟨v,H',I.call (h':=hh) (g':=g) (d':=d) (t':=t) (ch:=[]) un hok bare (λb z=>absurd z (by simp)),r,q⟩
end
def cI (sp:Sp)(dvs:List V)(E:XK)(t:TA):TE:=fun σ H Q=>t σ H λvs H1=>sp (vs++dvs) H1 Q E
def uF (C:Addr)(m:Str)(sp:Sp)(dvs:List V)(E:XK)(ta:TE)(t:TA):TE:=fun σ H Q=>ta σ H λx H1=>∃ a dx fs,x=.ref a/\H1 a=some (.ins C dx fs)/\fs.lookup m=none /\
 t σ H1 λvs H2=>sp (x :: (vs++dvs)) H2 Q E
def rE (C:Addr)(sp:Sp)(dvs:List V)(E:XK)(t:TA):TE:=fun σ H Q=>t σ H λvs H1=>∀ x dx,H1 x=none->H1 dx=none->dx≠x ->
 sp (.ref x :: (vs++dvs)) (upd (upd H1 dx (.own x)) x (.ins C dx [])) (λv H2=>v=.non/\Q (.ref x) H2) E
def B0 (K:qF)(fd:FuncData)(ps:List Str)(ds:List Value):Prop :=
 ∀ (s:Shared) (us:List Value),K.In s.heap->(us++ds).length=ps.length->BindsTo s fd ⟨us,[]⟩ (ps.zip (us++ds))
theorem B0.all {K:qF}{fd:FuncData}{ps:List Str}(h:∀ us:List Value,us.length=ps.length->bindArgs fd ⟨us,[]⟩=pure (ps.zip us)):B0 K fd ps []:=λs us _ hl=>by
 rw[List.append_nil] at hl |-;exact .of_eq (h us hl)
def bH (CX:P0)(X:Cx)(E:XK):Prop:=∀ (pins:List (Addr×Obj)) (σ:St) (H:Hp) (s:Shared) (e:Value) (s':Shared),f6 X pins σ H s->CX X.stack H s E e s'->X.xe e s'
section
variable {X:Cx} {CX:P0} {k:Nat} {f C:Addr} {fd:FuncData} {ps:List Str} {sp:Sp} {dvs:List V} {ds:List Value} {E:XK} {x m:Str} {p pos apos:Pos} {e o:Expr} {es:List Expr} {ta:TE} {t:TA}
theorem kR {pins:List (Addr×Obj)}{σ:St}{H:Hp}{s:Shared}{Q:VK}{us:List Value}{vs:List V}(F:z0 X.prog X.w X.K X.mg X.base CX k f fd ps sp)(hr:x8 k X.A)(hb:B0 X.K fd ps ds)(hd:f8 dvs ds)(hx:bH CX X E)
  (I:f6 X pins σ H s) (r:f8 vs us) (h:sp (vs++dvs) H Q E):wpAny (model X.prog X.w) X.A (call (.ref f) us) (EP X pins σ Q) X.xe s:=by
 have r2:f8 (vs++dvs) (us++ds):=r.append hd;have hl:(us++ds).length=ps.length:=by rw[<- r2.length];exact F.len _ _ _ _ h
 refine wpAny_call (codeAny_mono (F.run X.A X.stack s H ⟨us,[]⟩ (us++ds) (vs++dvs) Q E hr I.env0 (hb s us I.kIn hl) r2 h) λr s' hq=>?_);cases r with
 | error e=>exact hx pins σ H s e s' I hq
 | ok fl=>
  cases fl with
  | ret u=>exact I.after hq
  | next=>exact False.elim hq
  | brk=>exact False.elim hq
  | cont=>exact False.elim hq
theorem N7 (F:z0 X.prog X.w X.K X.mg X.base CX k f fd ps sp)(hr:x8 k X.A)(hg:Gl X x)(hm:X.mg x=some (.ref f))(hk:PySem.W.keepIn X.K (.ref f)=true)(hb:B0 X.K fd ps ds)(hd:f8 dvs ds)(hx:bH CX X E)
  (ha:PA X (e :: es) t) (hdb:(x==("__debug__" : Str))=false:=by decide) (he:starEach (e :: es) X.env=(false,eval e X.env) :: starEach es X.env:=by rfl) (hpl:(backTo pos (starEach es X.env)).any (·.1)=false:=by rfl) :
  PE X (.Call (.Name x p) (e :: es) [] pos) (cI sp dvs E t):=by
 intro pins s σ H Q I h;refine wpAny_Call_Name_kw (gD I hg hm ?_ hdb);refine PySem.W.callWith_K (h₀:=X.base) I.ok.mod.kin hk (t6 (ha pos pins s σ H _ I h) λus s1 ⟨vs,H1,I1,r,q⟩=>⟨I1.kIn,?_⟩) he hpl;exact kR F hr hb hd hx I1 r q
theorem ynY {pl:Sem Bool}(he:PE X o ta)(c:R8 X.K C)(hm:aP X.K C m f)(F:z0 X.prog X.w X.K X.mg X.base CX k f fd ps sp)(hr:x8 k X.A)(hb:B0 X.K fd ps ds)(hd:f8 dvs ds)(hx:bH CX X E)(ha:PA X (e :: es) t)
  (hst:starEach (e :: es) X.env=(false,eval e X.env) :: starEach es X.env:=by rfl) (hpl:(backTo pos (starEach es X.env)).any (·.1)=false:=by rfl)
  (ht:eval (.Call (.Attribute o m apos) (e :: es) [] pos) X.env=(do
   let ov ← eval o X.env
   standAt apos.atName
   let (f,first) ← holding [ov] (getMethod ov m pl)
   callWith pos f first (backTo pos (starEach (e :: es) X.env)) (backToKw pos (keywordEach [] X.env))):=by rfl) :
  PE X (.Call (.Attribute o m apos) (e :: es) [] pos) (uF C m sp dvs E ta t):=by
 intro pins s σ H Q I h;refine PySem.W.methodCall_KW (pl:=pl) (t6 (he pins s σ H _ I h) λu s1 zq=>?_) ht;obtain⟨x,H1,I1,rx,a,dx,fs,ex,ea,l,q⟩:=zq;subst ex;obtain rfl:u=Value.ref a:=rx;refine xG I1 ea c hm l ?_;refine PySem.W.callWith_K (first:=[.ref a]) (h₀:=X.base) I.ok.mod.kin hm.kp (t6 (ha pos pins s1 σ H1 _ I1 q) λus s2 ⟨vs,H2,I2,r,q2⟩=>⟨I2.kIn,?_⟩) hst hpl;exact kR (us:=.ref a :: us) (vs:=.ref a :: vs) F hr hb hd hx I2 (.cons rfl r) q2
theorem aJ {pl:Sem Bool}(he:PE X o ta)(c:R8 X.K C)(hm:aP X.K C m f)(F:z0 X.prog X.w X.K X.mg X.base CX k f fd ps sp)(hr:x8 k X.A)(hb:B0 X.K fd ps ds)(hd:f8 dvs ds)(hx:bH CX X E)
  (ht:eval (.Call (.Attribute o m apos) [] [] pos) X.env=(do
   let ov ← eval o X.env
   standAt apos.atName
   let (f,first) ← holding [ov] (getMethod ov m pl)
   callWith pos f first (backTo pos (starEach [] X.env)) (backToKw pos (keywordEach [] X.env))):=by rfl) :
  PE X (.Call (.Attribute o m apos) [] [] pos) (uF C m sp dvs E ta Z8):=by
 intro pins s σ H Q I h;refine PySem.W.methodCall_KW (pl:=pl) (t6 (he pins s σ H _ I h) λu s1 zq=>?_) ht;obtain⟨x,H1,I1,rx,a,dx,fs,ex,ea,l,q⟩:=zq;subst ex;obtain rfl:u=Value.ref a:=rx;refine xG I1 ea c hm l ?_;exact PySem.W.callWith_K0 (first:=[.ref a]) I1.kIn hm.kp (kR (us:=[.ref a]) (vs:=[.ref a]) F hr hb hd hx I1 (.cons rfl .nil) q)
structure Mk (K:qF) (C f:Addr):Prop where
 makes:PySem.W.makesIn K C=true
 init:PySem.W.findIn K (.ref C) "__init__"=some (some (.ref f))
 fn:PySem.W.isFn K (.ref f)=true
 kp:PySem.W.keepIn K (.ref C)=true
theorem ylU {pins:List (Addr×Obj)}{σ:St}{H:Hp}{s:Shared}{Q:VK}{us:List Value}{vs:List V}(M:Mk X.K C f)(F:z0 X.prog X.w X.K X.mg X.base CX k f fd ps sp)(hr:x8 (k+1) X.A)(hb:B0 X.K fd ps ds)(hd:f8 dvs ds)
  (hx:bH CX X E) (I:f6 X pins σ H s) (r:f8 vs us)
  (h:∀ x dx,H x=none->H dx=none->dx≠x->sp (.ref x :: (vs++dvs)) (upd (upd H dx (.own x)) x (.ins C dx [])) (λv H2=>v=.non/\Q (.ref x) H2) E) :
  wpAny (model X.prog X.w) X.A (call (.ref C) us) (EP X pins σ Q) X.xe s:=by
 have hq:=h (s.heap.objs.size+1) s.heap.objs.size (I.hok.fresh (Nat.le_succ _)) (I.hok.fresh (qR _)) (Nat.ne_of_lt (Nat.lt_succ_self _));have I2:=f6.made (C:=C) I;have r2:f8 (V.ref (s.heap.objs.size+1) :: (vs++dvs)) (Value.ref (s.heap.objs.size+1) :: (us++ds)):=.cons rfl (r.append hd);have hl:(Value.ref (s.heap.objs.size+1) :: us++ds).length=ps.length:=by
  have e:=r2.length;rw[F.len _ _ _ _ hq] at e;exact e.symm
 refine wpAny_call (Zp (f:=f) I.kIn M.makes M.init (beq_iff_eq.mp M.fn) (codeAny_mono (F.run _ X.stack _ _ ⟨Value.ref (s.heap.objs.size+1) :: us,[]⟩ (Value.ref (s.heap.objs.size+1) :: (us++ds)) _ _ E (hr.make C us [])
  (I2.env0.make C us []) (hb _ (Value.ref (s.heap.objs.size+1) :: us) I2.kIn hl) r2 hq) λr s' hq'=>?_))
 cases r with
 | error e=>exact hx pins σ _ _ e s' I2 hq'
 | ok fl=>
  cases fl with
  | ret u=>
   obtain⟨v,H',I3,rv,ev,q3⟩:=I2.after hq';subst ev;exact⟨rv,⟨V.ref (s.heap.objs.size+1),H',I3,rfl,q3⟩⟩
  | next=>exact False.elim hq'
  | brk=>exact False.elim hq'
  | cont=>exact False.elim hq'
theorem dD (M:Mk X.K C f)(F:z0 X.prog X.w X.K X.mg X.base CX k f fd ps sp)(hr:x8 (k+1) X.A)(hg:Gl X x)(hm:X.mg x=some (.ref C))(hb:B0 X.K fd ps ds)(hd:f8 dvs ds)(hx:bH CX X E)
  (ha:PA X (e :: es) t) (hdb:(x==("__debug__" : Str))=false:=by decide) (he:starEach (e :: es) X.env=(false,eval e X.env) :: starEach es X.env:=by rfl) (hpl:(backTo pos (starEach es X.env)).any (·.1)=false:=by rfl) :
  PE X (.Call (.Name x p) (e :: es) [] pos) (rE C sp dvs E t):=by
 intro pins s σ H Q I h;refine wpAny_Call_Name_kw (gD I hg hm ?_ hdb);refine PySem.W.callWith_K (h₀:=X.base) I.ok.mod.kin M.kp (t6 (ha pos pins s σ H _ I h) λus s1 ⟨vs,H1,I1,r,q⟩=>⟨I1.kIn,?_⟩) he hpl;exact ylU M F hr hb hd hx I1 r q
end
section
variable {X:Cx} {CX:P0} {k:Nat} {f C:Addr} {fd:FuncData} {ps ks:List Str} {sp:Sp} {E:XK} {x m:Str} {p pos apos kpos:Pos} {e o:Expr} {es:List Expr} {kws:List Keyword} {te ta:TE} {t tk:TA} {nm:Option Str}
structure yuC (K:qF) (fd:FuncData) (ps ks:List Str) (g:List Value->List Value->List Value) (gV:List V->List V->List V):Prop where
 to:∀ (s:Shared) (us ws:List Value),K.In s.heap->(g us ws).length=ps.length->BindsTo s fd ⟨us,ks.zip ws⟩ (ps.zip (g us ws))
 rel:∀ {vs:List V} {us:List Value} {zs:List V} {ws:List Value},f8 vs us->f8 zs ws->f8 (gV vs zs) (g us ws)
variable {g:List Value->List Value->List Value} {gV:List V->List V->List V}
end
structure x5 (N P:List Str) (sc:Scope):Prop where
 kind:sc.kind=.function
 co:sc.isCoroutine=false
 gen:sc.isGenerator=false
 nd:N.Nodup
 pre:N.take P.length=P
 par:∀ x∈P,sc.names.lookup x=some .local∨sc.names.lookup x=some .cell
 nofree:∀ y∈sc.names,y.2≠.free
theorem Vy {kindOf:Str->Option NameKind}{x:Str}:∀ {binds:List (Str×Value)} {m:Str->Option Value},(∀ v,(x,v)∉binds)->bindL kindOf binds m x=m x
 | [],_,_=>rfl
 | (n,v) :: r,m,h=>by
  unfold bindL;rw[Vy λw hw=>h w (List.mem_cons_of_mem _ hw)];split
  ·have:x≠n:=by rintro rfl;exact h v List.mem_cons_self
   simp[this]
  ·rfl
theorem f_ {kindOf:Str->Option NameKind}{x:Str}:∀ {binds:List (Str×Value)} {m:Str->Option Value},(∀ v,(x,v)∉binds)->bindC kindOf binds m x=m x
 | [],_,_=>rfl
 | (n,v) :: r,m,h=>by
  unfold bindC;rw[f_ λw hw=>h w (List.mem_cons_of_mem _ hw)];split
  ·rfl
  ·have:x≠n:=by rintro rfl;exact h v List.mem_cons_self
   simp[this]
theorem tS {kindOf:Str->Option NameKind}{x:Str}{v:Value}:∀ {P:List Str} {vs:List Value} {i:Nat} {m:Str->Option Value},P.Nodup->P[i]?=some x->vs[i]?=some v->kindOf x=some .local ->
  bindL kindOf (P.zip vs) m x=some v
 | [],_,_,_,_,h,_,_=>by simp at h
 | _ :: _,[],_,_,_,_,h,_=>by simp at h
 | p :: P,w :: vs,0,m,nd,h1,h2,hk=>by
  simp at h1 h2;subst h1;subst h2;show bindL kindOf ((p,w) :: P.zip vs) m p=_
  unfold bindL;rw[Vy λv hv=>(List.nodup_cons.mp nd).1 (List.of_mem_zip hv).1,if_pos hk];simp
 | p :: P,w :: vs,i+1,m,nd,h1,h2,hk=>by
  show bindL kindOf ((p,w) :: P.zip vs) m x=_
  unfold bindL;exact tS (i:=i) (List.nodup_cons.mp nd).2 (by simpa using h1) (by simpa using h2) hk
theorem vH {kindOf:Str->Option NameKind}{x:Str}{v:Value}:∀ {P:List Str} {vs:List Value} {i:Nat} {m:Str->Option Value},P.Nodup->P[i]?=some x->vs[i]?=some v->kindOf x≠some .local ->
  bindC kindOf (P.zip vs) m x=some v
 | [],_,_,_,_,h,_,_=>by simp at h
 | _ :: _,[],_,_,_,_,h,_=>by simp at h
 | p :: P,w :: vs,0,m,nd,h1,h2,hk=>by
  simp at h1 h2;subst h1;subst h2;show bindC kindOf ((p,w) :: P.zip vs) m p=_
  unfold bindC;rw[f_ λv hv=>(List.nodup_cons.mp nd).1 (List.of_mem_zip hv).1,if_neg hk];simp
 | p :: P,w :: vs,i+1,m,nd,h1,h2,hk=>by
  show bindC kindOf ((p,w) :: P.zip vs) m x=_
  unfold bindC;exact vH (i:=i) (List.nodup_cons.mp nd).2 (by simpa using h1) (by simpa using h2) hk
def B6 (N:List Str)(vs:List V):St:=vs.map some++List.replicate (N.length - vs.length) none
def J1 (CX:P0)(P:Program)(w:World)(K:qF)(mg:Str->Option Value)(base:Heap)(N:List Str)(qual:Str)(scope:Scope)(f:Addr)(cd:Value)(A:Around)(outer:List Env)(s:Shared)(H:Hp)(E:XK):Cx where
 prog:=P
 w:=w
 K:=K
 mg:=mg
 base:=base
 A:=A.deeper (envOfC qual scope s.heap.objs.size f cd)
 N:=N
 s₀:=s
 H₀:=H
 env:=envOfC qual scope s.heap.objs.size f cd
 outer:=outer
 stack:=envOfC qual scope s.heap.objs.size f cd :: outer
 ex:=[]
 calm:=true
 fn:=λ_=>true
 pn:=[]
 xe:=λe s'=>wpAny (model P w) (A.deeper (envOfC qual scope s.heap.objs.size f cd)) (leaving (envOfC qual scope s.heap.objs.size f cd) e) (λ_ s''=>CX outer H s E e s'') (λe' s''=>CX outer H s E e' s'') s'
theorem qV {sc:Scope}{n:Nat}{x:Str}(h:sc.names.lookup x=some .cell):∃ c,(cellsFrom n sc.names []).lookup x=some c:=by
 have q:=PySem.W.cellsFrom_some sc.names n [] (.inl h);exact Option.isSome_iff_exists.mp q
theorem ykQ {CX:P0}{P:Program}{w:World}{K:qF}{mg:Str->Option Value}{base:Heap}{N ps:List Str}{qual:Str}{scope:Scope}{f:Addr}{cd:Value}{A:Around}{outer:List Env}{s s1:Shared}{H:Hp}{E:XK}{us:List Value}{vs:List V}
  (S:x5 N ps scope) (hd:A.handled=none) (e0:R9 P w K mg base A outer s H) (hl:vs.length=ps.length) (r:f8 vs us)
  (x:InCallC s s.heap.objs.size (bindL (envOfC qual scope s.heap.objs.size f cd).kindOf (ps.zip us) λ_=>none) (cellsFrom (s.heap.objs.size+1) scope.names []) (bindC (envOfC qual scope s.heap.objs.size f cd).kindOf (ps.zip us) λ_=>none) s1) :
  f6 (J1 CX P w K mg base N qual scope f cd A outer s H E) [] (B6 N vs) H s1:=by
 have hpl:ps.length<=N.length:=by have:=congrArg List.length S.pre;rw[qT] at this;omega
 obtain⟨h1,tk,rfl,hk⟩:=x.done;have noA:∀ b:Addr,b∉(J1 CX P w K mg base N qual scope f cd A outer s H E).ex:=λb z=>absurd (show b∈([]:List Addr) from z) (by simp)
 refine⟨⟨e0.mod,S.kind,rfl,rfl,qR _,λy z c h1 h2=>?_,λy hy=>?_,λy c _ h=>?_,λ_=>hd,Around.frames_deeper e0.frames,.inr ⟨rfl,rfl⟩,λb z=>absurd z (noA b),e0.bs,e0.bsz,λb _ _=>noA b,λb z=>absurd z (noA b),e0.funs,e0.frf⟩,
  rfl,e0.bare,Un.kept hk,⟨_,x.toInCall.ns,λi y v h1 h2 h3=>?_⟩,λy c h=>⟨_,x.cell y c h⟩,e0.hok.fresh (qR _),λy c h=>?_,λp hp=>absurd (show p∈([]:List (Addr×Obj)) from hp) (by simp),e0.hok.kept hk,?_⟩
 ·exact name_of_addr x.apart (PySem.mem_of_lookup h1) (PySem.mem_of_lookup h2)
 ·have hy:scope.names.lookup y=some .cell∨scope.names.lookup y=some .free:=hy;rcases hy with hy | hy
  ·exact qV hy
  ·exact absurd rfl (S.nofree _ (PySem.mem_of_lookup hy))
 ·exact Nat.le_of_lt (x.above y c (PySem.mem_of_lookup h))
 ·have hi:i < vs.length:=by
   unfold B6 at h2;by_cases hi:i < vs.length
   ·exact hi
   ·rw[List.getElem?_append_right (by simpa using hi)] at h2;rw[List.getElem?_replicate] at h2;split at h2<;>cases h2
  have ha:vs[i]?=some v:=by
   unfold B6 at h2;rw[List.getElem?_append_left (by simpa using hi),qm] at h2;cases e:vs[i]? with
   | none=>rw[e] at h2;cases h2
   | some a=>rw[e] at h2;cases h2;rfl
  obtain⟨u,hu,rv⟩:=r.get ha;have hp:ps[i]?=some y:=by
   rw[<- S.pre,List.getElem?_take_of_lt (by omega)];exact h1
  have ndP:ps.Nodup:=by rw[<- S.pre];exact S.nd.sublist (List.take_sublist _ _)
  refine⟨u,rv,?_⟩;rcases S.par y (List.mem_of_getElem? hp) with k | k
  ·exact .inl ⟨k,tS ndP hp hu k⟩
  ·obtain⟨c,e⟩:=qV (n:=s.heap.objs.size+1) k;refine .inr ⟨.inl k,c,e,?_⟩;have q:=x.cell y c e;rw[vH ndP hp hu (by show scope.names.lookup y≠_;rw[k];decide)] at q;exact q
 ·exact e0.hok.fresh (Nat.le_of_lt (x.above y c (PySem.mem_of_lookup h)))
 ·unfold B6;show _=N.length
  rw[qA,qM,List.length_replicate];omega
theorem Xk {CX:P0}{P:Program}{w:World}{K:qF}{mg:Str->Option Value}{base:Heap}{k:Nat}{f:Addr}{name qual:Str}{params:Arguments}{body:List Stmt}{scope:Scope}{dV kV doc pm cdv ct oc:Value}{an od:Option Addr}
  {osl:Array (Option Value)} {N ps:List Str} {sp:Sp} (lk:K.lookup f=some ⟨oc,od,.func (PySem.W.fnOf name qual params body scope dV kV doc pm an cdv ct),osl⟩) (hcd:PySem.W.codeIn K cdv qual=true) (S:x5 N ps scope)
  (len:∀ vs H Q E,sp vs H Q E->vs.length=ps.length)
  (hbody:∀ (A:Around) (outer:List Env) (s:Shared) (H:Hp) (vs:List V) (Q:VK) (E:XK),x8 k (A.deeper (envOfC qual scope s.heap.objs.size f cdv))->sp vs H Q E ->
   ∃ t,U4 (J1 CX P w K mg base N qual scope f cdv A outer s H E) body t/\t { nx:=λ_ H'=>Q .non H',rt:=Q } (B6 N vs) H) :
  z0 P w K mg base CX (k+1) f (PySem.W.fnOf name qual params body scope dV kV doc pm an cdv ct) ps sp:=by
 refine⟨len,λA outer s H args us vs Q E hr e0 hb r hsp=>?_⟩;have hl:=len _ _ _ _ hsp;have KX:K.In s.heap:=e0.mod.kin.keeps λb o e=>(e0.bs b o e).1
 have lim:s.heap.NoLimit:=e0.mod.nolimit.keeps λb o e=>(e0.bs b o e).1
 have hkind:∀ y∈ps.zip us,scope.names.lookup y.1=some .local∨(scope.names.lookup y.1=some .cell/\((cellsFrom (s.heap.objs.size+1) scope.names []).lookup y.1).isSome=true):=λ⟨n,v⟩ hy=>by
  rcases S.par n (List.of_mem_zip hy).1 with q | q
  ·exact .inl q
  ·exact .inr ⟨q,PySem.W.cellsFrom_some _ _ _ (.inl q)⟩
 refine codeAny_call_function hr.depth (KX _ _ lk) rfl S.co S.gen rfl (PySem.W.codeRec_of KX hcd) (hb _ _ _ _ ?_);refine wpAny_newFunctionEnv_cells S.kind hkind λenv he s1 x=>?_
 subst he;refine⟨lim.keeps x.toInCall.keep,codeAny_func ?_⟩;obtain⟨t,ht,hq⟩:=hbody A outer s H vs Q E (hr.deeper _) hsp;have I:f6 (J1 CX P w K mg base N qual scope f cdv A outer s H E) [] (B6 N vs) H s1:=ykQ S hr.hd e0 hl r x;refine wpAny_mono (ht [] s1 (B6 N vs) H _ I hq) (λfl s' hs=>?_) λe s' hs=>hs
 have fin:∀ {σ':St} {H':Hp} {v:V} {u:Value},f6 (J1 CX P w K mg base N qual scope f cdv A outer s H E) [] σ' H' s'->g9 v u->Q v H'->CE outer P w H s Q u s' :=
  λ{σ' H' v u} J rv q=>⟨v,H',J.os,J.bare,J.base,J.hok,rv,q⟩
 cases fl with
 | ret u=>
  obtain⟨v,σ',H',J,rv,q⟩:=hs;exact fin J rv q
 | next=>
  obtain⟨σ',H',J,q⟩:=hs;exact fin (v:=V.non) (u:=Value.none) J rfl q
 | brk=>
  obtain⟨_,_,_,q⟩:=hs;exact False.elim q
 | cont=>
  obtain⟨_,_,_,q⟩:=hs;exact False.elim q
section
variable {X:Cx} {x:Str} {p pos:Pos} {e:Expr} {es:List Expr} {t:TA} {id T:String} {r:List V->Hp->VK->Prop}
def nQ (r:List V->Hp->VK->Prop)(t:TA):TE:=fun σ H Q=>t σ H λvs H1=>r vs H1 Q
theorem z8 (hc:P7 X (.builtin id) r)(hg:Gl X x)(hm:X.mg x=none)(hv:bootBuiltins x=some (.builtin id))(ha:PA X (e :: es) t)(hn:x≠"__name__":= by decide)(hdb:(x==("__debug__" : Str))=false:=by decide)
  (he:starEach (e :: es) X.env=(false,eval e X.env) :: starEach es X.env:=by rfl) (hpl:(backTo pos (starEach es X.env)).any (·.1)=false:=by rfl):PE X (.Call (.Name x p) (e :: es) [] pos) (nQ r t):=by
 intro pins s σ H Q I h;refine wpAny_Call_Name_kw (hU I hg hm hv ?_ hn hdb);exact PyProof.Rows.callWith_builtin1 (t6 (ha pos pins s σ H _ I h) λus s1 ⟨vs,H1,I1,r1,q1⟩=>hc pins s1 σ H1 vs us Q I1 r1 q1) he hpl
theorem bC (hc:P7 X (.type T) r)(hg:Gl X x)(hm:X.mg x=none)(hv:bootBuiltins x=some (.type T))(ha:PA X (e :: es) t)(hn:x≠"__name__":= by decide)(hdb:(x==("__debug__" : Str))=false:=by decide)
  (he:starEach (e :: es) X.env=(false,eval e X.env) :: starEach es X.env:=by rfl) (hpl:(backTo pos (starEach es X.env)).any (·.1)=false:=by rfl):PE X (.Call (.Name x p) (e :: es) [] pos) (nQ r t):=by
 intro pins s σ H Q I h;refine wpAny_Call_Name_kw (hU I hg hm hv ?_ hn hdb);exact PyProof.Rows.callWith_type1 (t6 (ha pos pins s σ H _ I h) λus s1 ⟨vs,H1,I1,r1,q1⟩=>hc pins s1 σ H1 vs us Q I1 r1 q1) he hpl
end
end L2
namespace HT
open PySem PyProof.Rows
section
open PySem.SeqAt
open PySem.AutoSeq1 (wpAny_loadPart')
open PySem.MeetsSeq PySem.MeetsSeq2 PySem.MeetsSeq3
end
section
variable {prog:Program} {w:World} {A:Around} {E:Value->Shared->Prop} {s:Shared}
theorem cat_tup {t b:Addr}{vs ws:List Value}{Q:Value->Shared->Prop}(ht:IsTup s.heap t vs.toArray)(hb:IsTup s.heap b ws.toArray)(hv:vs≠[])
  (h1:ws=[]->Q (.ref t) s) (h2:ws≠[]->Q (.ref s.heap.objs.size) { s with heap:=s.heap.push { cls:=.type "tuple",data:=.seq (vs++ws).toArray } })
  (hsz:vs.length+ws.length<=sizeLine):wpAny (model prog w) A (binaryOp .Add (.ref t) (.ref b)) Q E s:=by
 obtain⟨⟨cls,dd,data,sl⟩,ho,hc,n,hd⟩:=id ht;obtain⟨⟨cls2,dd2,data2,sl2⟩,ho2,hc2,n2,hd2⟩:=id hb;simp only at hc hd hc2 hd2;subst hc hd hc2 hd2;have e:vs.toArray++ws.toArray=(vs++ws).toArray:=by simp
 by_cases hw:ws=[]
 ·exact concat_meets ⟨_,ho,rfl⟩ ⟨_,ho2,rfl⟩ noFill_tuple_add seq_tuple_add PySem.F.slot_tuple_add PySem.F.entry_tuple_add (PySem.F.args_tuple_add_2 _ _)
   (tuple_addW1 t b vs.toArray ws.toArray n n2 dd dd2 sl sl2 (by simpa using hv) (by simp[hw])) ⟨ho,ho2,h1 hw⟩
 ·refine concat_meets ⟨_,ho,rfl⟩ ⟨_,ho2,rfl⟩ noFill_tuple_add seq_tuple_add PySem.F.slot_tuple_add PySem.F.entry_tuple_add (PySem.F.args_tuple_add_2 _ _)
   (tuple_addW2 t b vs.toArray ws.toArray n n2 dd dd2 sl sl2 (by simpa using hv) (by simpa using hw) (by rw[qZ,qZ];exact hsz)) ⟨ho,ho2,?_⟩
  rw[e];exact h2 hw
def sIx (n d:Nat):Option Int->Nat
 | none=>d
 | some v=>if v < 0 then (v+(n:Int)).toNat else min v.toNat n
theorem sIx_none (n d:Nat):sIx n d none=d:=rfl
theorem sIx_nat (n d k:Nat):sIx n d (some (k:Int))=min k n:=by
 show(if (k:Int) < 0 then ((k:Int)+(n:Int)).toNat else min (k:Int).toNat n)=min k n
 rw[if_neg (by omega),Int.toNat_natCast]
theorem Yy (n d:Nat)(hd:d<=n)(o:Option Int):sIx n d o<=n:=by
 cases o with
 | none=>exact hd
 | some v=>
  show(if v < 0 then (v+(n:Int)).toNat else min v.toNat n)<=n
  by_cases hv:v < 0
  ·rw[if_pos hv];omega
  ·rw[if_neg hv];exact Nat.min_le_right _ _
theorem xw (v:Int)(n d:Nat):(if v < 0 then max (v+(n:Int)) 0 else min v (n:Int))=((sIx n d (some v):Nat):Int):=by
 show(if v < 0 then max (v+(n:Int)) 0 else min v (n:Int))=(((if v < 0 then (v+(n:Int)).toNat else min v.toNat n):Nat):Int)
 by_cases hv:v < 0
 ·simp only[if_pos hv];omega
 ·simp only[if_neg hv];omega
theorem yiA (lo hi:Option Int)(n:Nat):Builtin.Slice.sliceAdjust lo hi 1 (n:Int)=(((sIx n 0 lo:Nat):Int),((sIx n n hi:Nat):Int)):=by
 have h1:¬ ((1:Int) < 0):=by omega
 unfold Builtin.Slice.sliceAdjust;simp only[h1,if_false];refine Prod.ext ?_ ?_
 ·cases lo with
  | none=>rfl
  | some v=>exact xw v n 0
 ·cases hi with
  | none=>rfl
  | some v=>exact xw v n n
theorem Wu (i j:Nat):Builtin.Slice.slicePlaces (i:Int) (j:Int) 1=j - i:=by
 unfold Builtin.Slice.slicePlaces;have h1:(1:Int) > 0:=by omega
 simp only[h1,if_true,Int.ediv_one];split<;>omega
theorem xk {v:Value}{o:Option Int}{Q:Option Int->Shared->Prop}(p:IsPart v o)(h:Q o s):wpAny (model prog w) A (Builtin.Slice.slicePartIndex v) Q E s:=by
 cases p with
 | none=>exact slicePart_none h
 | int i t=>exact slicePart_int h
theorem yd9 {sl:Addr}{vl vu:Value}{lo hi:Option Int}{n:Nat}{Q:Int×Int×Nat->Shared->Prop}(hs:s.heap.IsSliceOf sl vl vu .none)(pl:IsPart vl lo)(pu:IsPart vu hi)
  (h:Q (((sIx n 0 lo:Nat):Int),1,sIx n n hi - sIx n 0 lo) s):wpAny (model prog w) A (Builtin.Slice.sliceApplied (.ref sl) (pure (n:Int))) Q E s:=by
 obtain⟨os,hos,hcs,hds⟩:=id hs;unfold Builtin.Slice.sliceApplied Builtin.Slice.sliceFields;refine wpAny_bind (wpAny_bind (wpAny_field hos hds (x:=vl) rfl (wpAny_bind (wpAny_field hos hds (x:=vu) rfl (wpAny_bind (wpAny_field hos hds (x:=.none) rfl (wpAny_pure ?_)))))));refine wpAny_bind (slicePart_none ?_);show wpAny _ _ (if ((1:Int)==0)=true then _ else _) _ _ s
 rw[if_neg (by decide)];refine wpAny_bind (xk pl (wpAny_bind (xk pu (wpAny_bind (wpAny_pure ?_)))));show wpAny _ _ (match Builtin.Slice.sliceAdjust lo hi 1 (n:Int) with | (lo,hi)=>pure (lo,(1:Int),Builtin.Slice.slicePlaces lo hi 1)) _ _ s
 rw[yiA lo hi n];show wpAny _ _ (pure (((sIx n 0 lo:Nat):Int),(1:Int),Builtin.Slice.slicePlaces ((sIx n 0 lo:Nat):Int) ((sIx n n hi:Nat):Int) 1)) _ _ s
 rw[Wu];exact wpAny_pure h
theorem Yo (xs:Array Value)(i k:Nat):((List.range k).filterMap λ(m:Nat)=>xs[((i:Int)+(m:Int)*1).toNat]?).toArray=((xs.toList.drop i).take k).toArray:=by
 have e:(λ(m:Nat)=>xs[((i:Int)+(m:Int)*1).toNat]?)=λm=>xs[i+m]?:=by
  funext m
  have:((i:Int)+(m:Int)*1).toNat=i+m:=by omega
  rw[this]
 rw[e];have:=pick_run xs i k;rw[List.filterMap_map] at this;have e2:((λx=>xs[x]?) ∘ λx=>i+x)=λm=>xs[i+m]?:=rfl
 rw[e2] at this;rw[this]
theorem getItem_tuple_cut {t sl:Addr}{items:Array Value}{vl vu:Value}{lo hi:Option Int}{Q:Value->Shared->Prop}(ht:IsTup s.heap t items)(hs:s.heap.IsSliceOf sl vl vu .none)(pl:IsPart vl lo)(pu:IsPart vu hi)
  (hw:¬ (sIx items.size 0 lo=0/\sIx items.size items.size hi=items.size))
  (h:Q (.ref s.heap.objs.size) { s with heap:=s.heap.push { cls:=.type "tuple",data:=.seq ((items.toList.drop (sIx items.size 0 lo)).take (sIx items.size items.size hi - sIx items.size 0 lo)).toArray } })
  (hsz:items.size<=sizeLine):wpAny (model prog w) A (getItem (.ref t) (.ref sl)) Q E s:=by
 have htake:sizeOk (.seq ((items.toList.drop (sIx items.size 0 lo)).take (sIx items.size items.size hi - sIx items.size 0 lo)).toArray):=by
  show((items.toList.drop (sIx items.size 0 lo)).take (sIx items.size items.size hi - sIx items.size 0 lo)).toArray.size<=sizeLine
  rw[qZ,qT,List.length_drop,Array.length_toList];omega
 have hj:sIx items.size items.size hi<=items.size:=Yy _ _ (qR _) hi;obtain⟨os,hos,hcs,hds⟩:=id hs;have hTs:s.TypeIs (.ref sl) "slice":= ⟨os,hos,hcs⟩;unfold getItem;try with_reducible refine wpAny_holding ?_
 first | refine wpAny_bind (wpAny_pure ?_) | skip
 refine wpAny_bind (wpAny_sequenceKey ht.typeIs (by decide) ?_);refine wpAny_bind (wpAny_callSpecial?_slot (name:=Str.ofString "__getitem__") ht.typeIs PyProof.Rows.slot_tuple_getitem
  (wpAny_call_entry PyProof.Rows.slot_tuple_getitem ht.typeIs entry_tuple_getitem ?_ (args_tuple_getitem _ _)))
 show wpAny _ _ (Builtin.Tuple.tupleItemsOf (.ref t) >>= _) _ _ s
 refine wpAny_bind (tupleItemsOf_ ht ?_);refine wpAny_bind (wpAny_typeOf hTs ?_);rw[if_pos (by decide)];refine wpAny_bind (yd9 hs pl pu ?_);have hno:¬ ((((sIx items.size 0 lo:Nat):Int)==0&&(1:Int)==1&&(sIx items.size items.size hi - sIx items.size 0 lo)==items.size)=true):=by
  intro q;rw[Bool.and_eq_true,Bool.and_eq_true] at q;have q1:((sIx items.size 0 lo:Nat):Int)=0:=eq_of_beq q.1.1;have q2:sIx items.size items.size hi - sIx items.size 0 lo=items.size:=eq_of_beq q.2;exact hw ⟨by omega,by omega⟩
 show wpAny _ _ (if (((sIx items.size 0 lo:Nat):Int)==0&&(1:Int)==1&&(sIx items.size items.size hi - sIx items.size 0 lo)==items.size)=true then _ else _) _ _ s
 rw[if_neg hno,Yo]
 first
  | exact wpAny_bind (m:=Builtin.Tuple.tupleExact _) (wpAny_newObj_type (wpAny_pure ⟨_,rfl,wpAny_pure h⟩) htake)
  | exact wpAny_bind (m:=Builtin.Tuple.tupleExact _) (wpAny_newObj_type (wpAny_bind (wpAny_pure (wpAny_pure ⟨_,rfl,wpAny_pure h⟩))) htake)
  | exact wpAny_bind (wpAny_bind (m:=Builtin.Tuple.tupleExact _) (wpAny_newObj_type (wpAny_pure (wpAny_pure ⟨_,rfl,wpAny_pure h⟩)) htake))
  | exact wpAny_bind (wpAny_bind (m:=Builtin.Tuple.tupleExact _) (wpAny_newObj_type (wpAny_pure ⟨_,rfl,wpAny_pure h⟩) htake))
end
end HT
namespace L2
open PySem PySem.Spec PyProof.Rows
abbrev TO:=St->Hp->(Option Int->Hp->Prop)->Prop
def PO (X:Cx)(e:Option Expr)(t:TO):Prop :=
 ∀ (pins:List (Addr×Obj)) (s:Shared) (σ:St) (H:Hp) (Q:Option Int->Hp->Prop),f6 X pins σ H s->t σ H Q ->
  wpAny (model X.prog X.w) X.A (evalPart e X.env) (λu s'=>∃ o H',f6 X pins σ H' s'/\IsPart u o/\Q o H') X.xe s
def mR:TO:=λ_ H Q=>Q none H
def oP (t:TE):TO:=fun σ H Q=>t σ H λx H1=>∃ i,x=.int i/\Q (some i) H1
section
variable {X:Cx} {e:Expr} {te:TE} {lo hi:Option Expr} {tl th:TO} {pos p2:Pos}
theorem bP:PO X none mR:=by
 intro pins s σ H Q I h;rw[evalPart_none];exact wpAny_pure ⟨none,H,I,.none,h⟩
theorem bS (h:PE X e te):PO X (some e) (oP te):=by
 intro pins s σ H Q I hw;rw[evalPart_some];refine t6 (h pins s σ H _ I hw) λu s1 zq=>?_
 obtain⟨x,H1,I1,r1,q1⟩:=zq;obtain⟨i,rfl,q⟩:=q1;obtain⟨t,rfl⟩:=r1;exact⟨some i,H1,I1,.int i t,q⟩
def xN (X:Cx)(r:V->Option Int->Option Int->Hp->VK->Prop):Prop :=
 ∀ (pins:List (Addr×Obj)) (s:Shared) (σ:St) (H:Hp) (x:V) (v vl vu:Value) (lo hi:Option Int) (sl:Addr) (Q:VK),f6 X pins σ H s->g9 x v->s.heap.IsSliceOf sl vl vu .none->IsPart vl lo->IsPart vu hi->r x lo hi H Q ->
  ∃ T id,typeLookup (.type T) "__getitem__"=pure (some (.builtin id))/\s.TypeIs v T/\wpAny (model X.prog X.w) X.A (getItem v (.ref sl)) (EP X pins σ Q) X.xe s
def jH (r:V->Option Int->Option Int->Hp->VK->Prop)(te:TE)(tl th:TO):TE:=fun σ H Q=>te σ H λx H1=>tl σ H1 λl H2=>th σ H2 λu H3=>r x l u H3 Q
theorem bA {r:V->Option Int->Option Int->Hp->VK->Prop}(hr:xN X r)(he:PE X e te)(hl:PO X lo tl)(hu:PO X hi th):PE X (.Subscript e (.Slice lo hi none p2) pos) (jH r te tl th):=by
 intro pins s σ H Q I h;refine Subscript_ (t6 (he pins s σ H _ I h) λv s1 zq=>?_);obtain⟨x,H1,I1,r1,q1⟩:=zq;refine wpAny_Slice (t6 (hl pins s1 σ H1 _ I1 q1) λvl s2 ⟨l,H2,I2,pl,q2⟩=>t6 (hu pins s2 σ H2 _ I2 q2) λvu s3 zq=>?_);obtain⟨u,H3,I3,pu,q3⟩:=zq;rw[evalPart_none];refine wpAny_pure ?_;have I4:f6 X pins σ H3 { s3 with heap:=s3.heap.push { cls:=.type "slice",data:=.fields #[vl,vu,.none] } }:=I3.kept (t':=s3.toks) λb ob q=>Heap.get?_push_of_some _ q
 obtain⟨T,id,hT,ht,hg⟩:=hr pins { s3 with heap:=s3.heap.push { cls:=.type "slice",data:=.fields #[vl,vu,.none] } } σ H3 x v vl vu l u s3.heap.objs.size Q I4 r1 (Heap.IsSliceOf.new ..) pl pu q3;show wpAny (model X.prog X.w) X.A (subscriptTail e (.Slice lo hi none p2) v (.ref s3.heap.objs.size)) (EP X pins σ Q) X.xe { s3 with heap:=s3.heap.push { cls:=.type "slice",data:=.fields #[vl,vu,.none] } }
 exact tail_any (ops:=[.ref s3.heap.objs.size,v]) ht hT hg (by with_unfolding_all rfl)
def O0 (xs:List V)(lo hi:Option Int):List V:=(xs.drop (HT.sIx xs.length 0 lo)).take (HT.sIx xs.length xs.length hi - HT.sIx xs.length 0 lo)
theorem Xc (xs:List V)(lo hi:Option Int):(O0 xs lo hi).length<=xs.length:=by
 unfold O0;rw[qT,List.length_drop];omega
def wF (K:qF):V->Option Int->Option Int->Hp->VK->Prop:=λx lo hi H Q=>∃ a xs,x=.ref a/\m9 K H a xs /\
 ¬ (HT.sIx xs.length 0 lo=0/\HT.sIx xs.length xs.length hi=xs.length)/\∀ p,H p=none->Q (.ref p) (upd H p (.tup (O0 xs lo hi)))
theorem Km:xN X (wF X.K):=by
 intro pins s σ H x v vl vu lo hi sl Q I rx hs pl pu h;obtain⟨a,xs,rfl,hx,hw,q⟩:=h;cases rx;obtain⟨its,r,ht,hz⟩:=I.tuple hx;have hlen:its.toArray.size=xs.length:=by rw[qZ];exact r.length.symm
 refine⟨"tuple",_,PyProof.Rows.slot_tuple_getitem.lookup,ht.typeIs,?_⟩;refine HT.getItem_tuple_cut ht hs pl pu (by rw[hlen];exact hw) ?_ (by rw[hlen];exact hz);rw[hlen];refine⟨.ref s.heap.objs.size,_,I.laid (t':=s.toks) (o:=.tup (O0 xs lo hi)) (λb ob q=>Heap.get?_push_of_some _ q) (qR _) ?_,rfl,q _ (I.hok.fresh (qR _))⟩;exact⟨Nat.le_trans (Xc xs lo hi) hz,_,(r.drop (HT.sIx xs.length 0 lo)).take (HT.sIx xs.length xs.length hi - HT.sIx xs.length 0 lo),IsTup.new _ _⟩
def wB (K:qF):R2:=λx y H Q=>∃ a b xs ys,x=.ref a/\y=.ref b/\m9 K H a xs/\m9 K H b ys/\xs≠[]/\xs.length+ys.length<=sizeLine /\
 (ys=[]->Q (.ref a) H)/\(ys≠[]->∀ p,H p=none->Q (.ref p) (upd H p (.tup (xs++ys))))
theorem f8.nil_iff {xs:List V}{us:List Value}(r:f8 xs us):us=[]↔xs=[]:=by
 cases r with
 | nil=>simp
 | cons _ _=>simp
theorem Va:J5 X (binaryOp .Add) (wB X.K):=by
 intro pins s σ H x y v u Q I rx ry h;obtain⟨a,b,xs,ys,rfl,rfl,ha,hb,hx,hz,q1,q2⟩:=h;cases rx;cases ry;obtain⟨its,r1,p1,_⟩:=I.tuple ha;obtain⟨its2,r2,p2,_⟩:=I.tuple hb;refine HT.cat_tup p1 p2 (λz=>hx (r1.nil_iff.mp z)) (λz=>⟨.ref a,H,I,rfl,q1 (r2.nil_iff.mp z)⟩) (λz=>?_) (by rw[<- r1.length,<- r2.length];exact hz);refine⟨.ref s.heap.objs.size,_,I.laid (t':=s.toks) (o:=.tup (xs++ys)) (λb ob q=>Heap.get?_push_of_some _ q) (qR _) ?_,rfl,q2 (λw=>z (r2.nil_iff.mpr w)) _ (I.hok.fresh (qR _))⟩;exact⟨by rw[qA];exact hz,_,r1.append r2,IsTup.new _ _⟩
end
def cT (n:Nat)(i:Int):Option Nat:=if 0<=i then (if i < n then some i.toNat else none) else if -(n:Int)<=i then some (i+n).toNat else none
def bR {α:Type}(xs:List α)(i:Int):Option α:=(cT xs.length i).bind λj=>xs[j]?
theorem yY {n:Nat}{i:Int}{j:Nat}(h:cT n i=some j):seqIndex? i n=some j/\j < n/\-(n:Int)<=i/\i < n:=by
 unfold cT at h;by_cases h0:0<=i
 ·rw[if_pos h0] at h;by_cases h1:i < n
  ·rw[if_pos h1] at h;have e:i.toNat=j:=Option.some.inj h;exact⟨by rw[seqIndex_of h0 h1,e],by omega,by omega,h1⟩
  ·rw[if_neg h1] at h;cases h
 ·rw[if_neg h0] at h;by_cases h1:-(n:Int)<=i
  ·rw[if_pos h1] at h;have e:(i+n).toNat=j:=Option.some.inj h;exact⟨by rw[seqIndex_neg (by omega) h1,e],by omega,h1,by omega⟩
  ·rw[if_neg h1] at h;cases h
theorem tM {α:Type}{xs:List α}{i:Int}{v:α}(h:bR xs i=some v):∃ j,seqIndex? i xs.length=some j/\xs[j]?=some v/\j < xs.length/\-(xs.length:Int)<=i/\i < xs.length:=by
 unfold bR at h;cases e:cT xs.length i with
 | none=>rw[e] at h;cases h
 | some j=>
  rw[e] at h;obtain⟨h1,h2,h3,h4⟩:=yY e;exact⟨j,h1,h,h2,h3,h4⟩
theorem J0 {α:Type}{xs:List α}{j:Nat}{v:α}(h:xs[j]?=some v):bR xs (j:Int)=some v:=by
 have hj:j < xs.length:=(qE h).1;have e:cT xs.length (j:Int)=some j:=by
  unfold cT;rw[if_pos (by omega),if_pos (by omega)];simp
 unfold bR;rw[e];exact h
theorem fH {α:Type}(xs:List α)(v:α):bR (xs++[v]) (-1)=some v:=by
 have hl:(xs++[v]).length=xs.length+1:=by simp
 have e:cT (xs++[v]).length (-1)=some xs.length:=by
  unfold cT;rw[hl,if_neg (by decide),if_pos (by omega)]
  congr 1
  omega
 unfold bR;rw[e];show(xs++[v])[xs.length]?=some v
 simp
def Yh (b:Expr):Prop:=∀ o i,subscripted b false o i=operate [o,i] (getItem o i)
def Y2 (X:Cx)(r:R2):Prop :=
 ∀ (value slice:Expr) (pins:List (Addr×Obj)) (s:Shared) (σ:St) (H:Hp) (x y:V) (v u:Value) (Q:VK),f6 X pins σ H s->g9 x v->g9 y u->r x y H Q ->
  subscripted slice false v u=operate [v,u] (getItem v u)->wpAny (model X.prog X.w) X.A (subscriptTail value slice v u) (EP X pins σ Q) X.xe s
def wI (X:Cx)(id:String)(r:V->List V->Hp->VK->Prop):Prop :=
 ∀ (pins:List (Addr×Obj)) (s:Shared) (σ:St) (H:Hp) (x:V) (xs:List V) (v:Value) (us:List Value) (Q:VK),f6 X pins σ H s->g9 x v->f8 xs us->r x xs H Q ->
  wpAny (model X.prog X.w) X.A (call (.builtin id) (v :: us)) (EP X pins σ Q) X.xe s
section
variable {X:Cx} {a b:Expr} {ta tb:TE} {pos:Pos}
theorem Y2.or {r r':R2}(h:Y2 X r)(h':Y2 X r'):Y2 X (λx y H Q=>r x y H Q∨r' x y H Q):=by
 intro value slice pins s σ H x y v u Q I rx ry q hs;rcases q with q | q
 ·exact h value slice pins s σ H x y v u Q I rx ry q hs
 ·exact h' value slice pins s σ H x y v u Q I rx ry q hs
theorem F8 {r:R2}(hr:Y2 X r)(ha:PE X a ta)(hb:PE X b tb)(hs:Yh b):PE X (.Subscript a b pos) (R5 r ta tb):=by
 intro pins s σ H Q I h;exact Subscript_ (yN ha hb I h λv u s2 x y H2 I2 rx ry q=>hr a b pins s2 σ H2 x y v u Q I2 rx ry q (hs _ _))
def kH (K:qF):R2:=λx y H Q=>∃ p xs i v,x=.ref p/\y=.int i/\d0 K H p xs/\bR xs i=some v/\Q v H
def aS (K:qF):R2:=λx y H Q=>∃ p xs i v,x=.ref p/\y=.int i/\m9 K H p xs/\bR xs i=some v/\Q v H
def xH:R2:=λx y H Q=>∃ z i c,x=.str z/\y=.int i/\z.length<=sizeLine/\bR z.cps.toList i=some c/\Q (.str ⟨#[c]⟩) H
theorem j9:Y2 X (kH X.K):=by
 intro value slice pins s σ H x y v u Q I rx ry h hs;obtain⟨p,xs,i,z,rfl,rfl,hq,he,q⟩:=h;cases rx;obtain⟨t,rfl⟩:=ry;obtain⟨its,r,pl,hz⟩:=I.list hq;obtain⟨j,h1,h2,h3,h4,h5⟩:=tM he;obtain⟨w,ew,rw'⟩:=r.get h2;have hl:=r.length;have hn:=jQ;have fin:EP X pins σ Q w s:=⟨z,H,I,rw',q⟩;by_cases h0:0<=i
 ·have hj:i.toNat=j:=by
   rw[seqIndex_of h0 h5] at h1;exact Option.some.inj h1
  exact item_listR pl.isList h0 (by omega) (by rw[hj];simpa using ew) fin hs
 ·have hj:(i+(its.toArray.size:Int)).toNat=j:=by
   rw[seqIndex_neg (by omega) h4] at h1;rw[qZ,<- hl];exact Option.some.inj h1
  exact subscriptTail_builtinR (x:=w) pl.isList.typeIs slot_list_getitem.lookup
   (wpAny_getItem_list_neg (Q:=λr s'=>r=w/\EP X pins σ Q r s') pl.isList (by omega) (by rw[qZ]<;>omega) (by omega) (by rw[hj];simpa using ew) ⟨rfl,fin⟩) hs
theorem C8:Y2 X (aS X.K):=by
 intro value slice pins s σ H x y v u Q I rx ry h hs;obtain⟨p,xs,i,z,rfl,rfl,hq,he,q⟩:=h;cases rx;obtain⟨t,rfl⟩:=ry;obtain⟨its,r,pl,hz⟩:=I.tuple hq;obtain⟨j,h1,h2,h3,h4,h5⟩:=tM he;obtain⟨w,ew,rw'⟩:=r.get h2;have hl:=r.length;have hn:=jQ;have fin:EP X pins σ Q w s:=⟨z,H,I,rw',q⟩;exact subscriptTail_builtinR (x:=w) pl.typeIs slot_tuple_getitem.lookup
  (getItem_tuple (j:=j) (Q:=λr s'=>r=w/\EP X pins σ Q r s') pl (by omega) (by omega) (by rw[qZ,<- hl];exact h1) (by simpa using ew) ⟨rfl,fin⟩) hs
theorem l_:Y2 X xH:=by
 intro value slice pins s σ H x y v u Q I rx ry h hs;obtain⟨z,i,c,rfl,rfl,hz,he,q⟩:=h;obtain⟨t,rfl⟩:=rx;obtain⟨t',rfl⟩:=ry;obtain⟨j,h1,h2,h3,h4,h5⟩:=tM he;have hl:z.cps.toList.length=z.length:=by simp[Str.length]
 rw[hl] at h1 h4 h5;have hn:=jQ;exact tail_any (typeIs_str s z t) slot_str_getitem.lookup (getItem_str (c:=c) (by
  have e1:decide (i < -(2 ^ 63:Int))=false:=decide_eq_false (by omega);have e2:decide (i≥2 ^ 63)=false:=decide_eq_false (by omega);rw[e1,e2,Bool.or_false]) (by rw[h1];simpa using h2) ⟨.str ⟨#[c]⟩,H,I.tok _,⟨_,rfl⟩,q⟩) hs
def OZ (K:qF):R2:=λx y H Q=>kH K x y H Q∨aS K x y H Q∨xH x y H Q
theorem yqP:Y2 X (OZ X.K):=j9.or (C8.or l_)
theorem yiD (its:List Value)(n j:Nat)(u:Value):Obj.mapSeq (·.setIfInBounds j u) { cls:=.type "list",data:=.seq its.toArray n }={ cls:=.type "list",data:=.seq (its.set j u).toArray n }:=by
 simp[Obj.mapSeq]
theorem f6.lst {pins:List (Addr×Obj)}{σ:St}{H:Hp}{s:Shared}{p:Addr}{xs:List V}(I:f6 X pins σ H s)(h:H p=some (.lst xs)) :
  ∃ (its:List Value) (n:Nat),f8 xs its/\s.heap.get? p=some { cls:=.type "list",data:=.seq its.toArray n }/\xs.length<=sizeLine:=by
 obtain⟨z,its,n,r,e⟩:=I.hok p _ h;exact⟨its,n,r,e,z⟩
theorem f6.lstUpd {pins:List (Addr×Obj)}{σ:St}{H:Hp}{s:Shared}{p:Addr}{xs ys:List V}{its its':List Value}{n n':Nat}{f:Obj->Obj}(I:f6 X pins σ H s)(h:H p=some (.lst xs))
  (ho:s.heap.get? p=some { cls:=.type "list",data:=.seq its.toArray n }) (hf:f { cls:=.type "list",data:=.seq its.toArray n }={ cls:=.type "list",data:=.seq its'.toArray n' }) (r:f8 ys its') (hz:ys.length<=sizeLine) (t:Nat) :
  f6 X pins σ (upd H p (.lst ys)) { s with heap:=s.heap.update p f,toks:=t }:=by
 have e:(s.heap.update p f).get? p=some { cls:=.type "list",data:=.seq its'.toArray n' }:=by
  rw[Heap.get?_update_self f ho (by rw[hf]<;>rfl),hf]
 refine I.write (x:=p) (e:=p) (by rw[h];trivial) (.inl rfl) (λb u hb q=>(Heap.get?_update_other _ _ (Ne.symm hb)).trans q) ⟨_,e⟩ ?_;exact⟨hz,its',n',r,e⟩
def jd:V->V->V->Hp->(Hp->Prop)->Prop:=λo i v H Q=>∃ p xs k j,o=.ref p/\i=.int k/\H p=some (.lst xs)/\cT xs.length k=some j/\Q (upd H p (.lst (xs.set j v)))
theorem S_:a_ X jd:=by
 intro pins s σ H o i v ov iv u Q I ro ri rv h;obtain⟨p,xs,k,j,rfl,rfl,hp,hj,q⟩:=h;cases ro;obtain⟨t,rfl⟩:=ri;obtain⟨its,n,r,ho,hz⟩:=I.lst hp;obtain⟨h1,h2,h3,h4⟩:=yY hj;have hl:=r.length;have hn:=jQ;have I':f6 X pins σ (upd H p (.lst (xs.set j v))) { s with heap:=s.heap.update p (Obj.mapSeq (·.setIfInBounds j u)) } :=
  I.lstUpd hp ho (yiD its n j u) (r.set rv j) (by rw[List.length_set];exact hz) s.toks
 by_cases h0:0<=k
 ·have hk:k.toNat=j:=by
   rw[seqIndex_of h0 h4] at h1;exact Option.some.inj h1
  exact PySem.W.ki_setAt ho h0 (by omega) (by rw[qZ,<- hl];exact h4) (by rw[hk];exact⟨_,I',q⟩)
 ·have hk:(k+(its.toArray.size:Int)).toNat=j:=by
   rw[seqIndex_neg (by omega) h3] at h1;rw[qZ,<- hl];exact Option.some.inj h1
  exact PySem.W.ki_setBack ho (by omega) (by rw[qZ,<- hl];exact h3) (by omega) (by rw[hk];exact⟨_,I',q⟩)
theorem ygL (lo hi:Option Int)(n:Nat):(sliceBounds lo hi none n).1=((HT.sIx n 0 lo:Nat):Int)/\(sliceBounds lo hi none n).2.1=((HT.sIx n n hi:Nat):Int)/\(sliceBounds lo hi none n).2.2=1:=by
 refine⟨?_,?_,rfl⟩
 ·cases lo with
  | none=>simp[sliceBounds,HT.sIx]
  | some i=>
   simp only[sliceBounds,HT.sIx,Option.getD_none,show(1:Int) > 0 by decide,if_true];by_cases h:i < 0
   ·simp only[h,if_true]<;>omega
   ·simp only[h,if_false]<;>omega
 ·cases hi with
  | none=>simp[sliceBounds,HT.sIx]
  | some i=>
   simp only[sliceBounds,HT.sIx,Option.getD_none,show(1:Int) > 0 by decide,if_true];by_cases h:i < 0
   ·simp only[h,if_true]<;>omega
   ·simp only[h,if_false]<;>omega
theorem yfU (its:List Value)(lo hi:Option Int):slicePick its.toArray lo hi none=((its.drop (HT.sIx its.length 0 lo)).take (HT.sIx its.length its.length hi - HT.sIx its.length 0 lo)).toArray:=by
 obtain⟨h1,h2,h3⟩:=ygL lo hi its.toArray.size;unfold slicePick;rw[h1,h2,h3];simp only[sliceRange_one,pick_run,qZ]<;>rfl
def yA (K:qF):V->Option Int->Option Int->Hp->VK->Prop:=λx lo hi H Q=>∃ a xs,x=.ref a/\d0 K H a xs/\∀ p,H p=none->Q (.ref p) (upd H p (.lst (O0 xs lo hi)))
theorem dJ:xN X (yA X.K):=by
 intro pins s σ H x v vl vu lo hi sl Q I rx hs pl pu h;obtain⟨a,xs,rfl,hx,q⟩:=h;cases rx;obtain⟨its,r,ht,hz⟩:=I.list hx;have hlen:=r.length;refine⟨"list",_,slot_list_getitem.lookup,ht.isList.typeIs,?_⟩;refine wpAny_getItem_list_slice ht.isList hs pl pu .none (by simp) ?_ (by rw[qZ]<;>omega);rw[yfU,<- hlen];refine⟨.ref s.heap.objs.size,_,I.laid (t':=s.toks) (o:=.lst (O0 xs lo hi)) (λb ob q=>Heap.get?_push_of_some _ q) (qR _) ?_,rfl,q _ (I.hok.fresh (qR _))⟩;exact⟨Nat.le_trans (Xc xs lo hi) hz,_,0,(r.drop (HT.sIx xs.length 0 lo)).take (HT.sIx xs.length xs.length hi - HT.sIx xs.length 0 lo),Heap.get?_push_size _ rfl⟩
def O7:V->Bool
 | .non=>true
 | .bl _=>true
 | .int _=>true
 | .str _=>true
 | _=>false
def K9:V->V->Bool
 | .non,.non=>true
 | .bl a,.bl b=>a==b
 | .bl a,.int b=>(if a then 1 else 0)==b
 | .int a,.bl b=>a==(if b then 1 else 0)
 | .int a,.int b=>a==b
 | .str a,.str b=>a==b
 | _,_=>false
theorem Vk {A:Around}{s:Shared}{y x:V}{u v:Value}(ry:g9 y u)(rx:g9 x v)(fy:O7 y=true)(fx:O7 x=true):SeqAt.EqAt A s u v (K9 y x):=by
 cases y with
 | non=>
  cases ry;cases x with
  | non=>cases rx;exact SeqAt.EqAt.same _
  | bl b=>cases rx;exact SeqAt.EqAt.none_bool b
  | int b=>obtain⟨t,rfl⟩:=rx;exact SeqAt.EqAt.none_int b t
  | str b=>obtain⟨t,rfl⟩:=rx;exact SeqAt.EqAt.none_str b t
  | _=>exact absurd (show false=true from fx) qN
 | bl a=>
  cases ry;cases x with
  | non=>cases rx;exact SeqAt.EqAt.bool_none a
  | bl b=>cases rx;exact SeqAt.EqAt.bool_bool a b
  | int b=>obtain⟨t,rfl⟩:=rx;exact SeqAt.EqAt.bool_int a b t
  | str b=>obtain⟨t,rfl⟩:=rx;exact SeqAt.EqAt.bool_str a b t
  | _=>exact absurd (show false=true from fx) qN
 | int a=>
  obtain⟨t',rfl⟩:=ry;cases x with
  | non=>cases rx;exact SeqAt.EqAt.int_none a t'
  | bl b=>cases rx;exact SeqAt.EqAt.int_bool a t' b
  | int b=>obtain⟨t,rfl⟩:=rx;exact SeqAt.EqAt.int_int a t' b t
  | str b=>obtain⟨t,rfl⟩:=rx;exact SeqAt.EqAt.int_str a t' b t
  | _=>exact absurd (show false=true from fx) qN
 | str a=>
  obtain⟨t',rfl⟩:=ry;cases x with
  | non=>cases rx;exact SeqAt.EqAt.str_none a t'
  | bl b=>cases rx;exact SeqAt.EqAt.str_bool a t' b
  | int b=>obtain⟨t,rfl⟩:=rx;exact SeqAt.EqAt.str_int a t' b t
  | str b=>obtain⟨t,rfl⟩:=rx;exact SeqAt.EqAt.str_str a t' b t
  | _=>exact absurd (show false=true from fx) qN
 | _=>exact absurd (show false=true from fy) qN
def aV (x:V)(u:Value):Bool:=match u with
 | .none=>K9 .non x
 | .bool b=>K9 (.bl b) x
 | .int i _=>K9 (.int i) x
 | .str z _=>K9 (.str z) x
 | _=>false
theorem sQ {x y:V}{u:Value}(r:g9 y u)(f:O7 y=true):aV x u=K9 y x:=by
 cases y with
 | non=>cases r;rfl
 | bl b=>cases r;rfl
 | int i=>obtain⟨t,rfl⟩:=r;rfl
 | str z=>obtain⟨t,rfl⟩:=r;rfl
 | _=>exact absurd (show false=true from f) qN
theorem wA {x:V}:∀ {xs:List V} {us:List Value},f8 xs us->xs.all O7=true->us.any (aV x)=xs.any λy=>K9 y x
 | _,_,.nil,_=>rfl
 | y :: xs,u :: us,.cons r t,f=>by
  rw[List.all_cons,Bool.and_eq_true] at f;rw[List.any_cons,List.any_cons,sQ r f.1,wA t f.2]
theorem lH {A:Around}{s:Shared}{x:V}{v:Value}(rx:g9 x v)(fx:O7 x=true):∀ {xs:List V} {us:List Value},f8 xs us->xs.all O7=true->∀ u∈us,SeqAt.EqAt A s u v (aV x u)
 | _,_,.nil,_=>λu hu=>by cases hu
 | y :: xs,u :: us,.cons r t,f=>λu' hu=>by
  rw[List.all_cons,Bool.and_eq_true] at f;rcases List.mem_cons.mp hu with rfl | hu
  ·rw[sQ r f.1];exact Vk r rx f.1 fx
  ·exact lH rx fx t f.2 u' hu
def kF (x:V)(xs:List V):Bool:=xs.any λy=>K9 y x
def Kb (K:qF)(neg:Bool):R2:=λx y H Q=>∃ p xs,y=.ref p/\(d0 K H p xs∨m9 K H p xs)/\O7 x=true/\xs.all O7=true/\Q (.bl (if neg then !kF x xs else kF x xs)) H
theorem ZQ:J5 X (compareOp .NotIn) (Kb X.K true):=by
 intro pins s σ H x y v u Q I rx ry h;obtain⟨p,xs,rfl,hq,fx,fs,q⟩:=h;cases ry;rcases hq with hq | hq
 ·obtain⟨its,r,pl,hz⟩:=I.list hq;refine SeqAt.notIn_listAt (aV x) pl.isList (λw hw=>lH rx fx r fs w (by simpa using hw)) ⟨.bl _,H,I,rfl,?_⟩;rw[show its.toArray.any (aV x)=its.any (aV x) by simp,wA r fs];exact q
 ·obtain⟨its,r,pl,hz⟩:=I.tuple hq;refine SeqAt.notIn_tupleAt (aV x) pl (λw hw=>lH rx fx r fs w (by simpa using hw)) ⟨.bl _,H,I,rfl,?_⟩;rw[show its.toArray.any (aV x)=its.any (aV x) by simp,wA r fs];exact q
theorem T7:P7 X (.builtin "len") (λxs H Q=>∃ p ys,xs=[.ref p]/\(d0 X.K H p ys∨m9 X.K H p ys)/\Q (.int ys.length) H):=by
 intro pins s σ H xs us Q I r h;obtain⟨p,ys,rfl,hq,q⟩:=h;obtain⟨u,rfl,rx⟩:=fQ r;cases rx;have hn:=jQ;rcases hq with hq | hq
 ·obtain⟨its,r',pl,hz⟩:=I.list hq;have hlen:=r'.length;exact Calls.call_len_list pl.isList (by simp only[qZ]<;>omega) ⟨.int ys.length,H,I.tok _,⟨s.toks+1,by rw[qZ,hlen]⟩,q⟩
 ·obtain⟨its,r',pl,hz⟩:=I.tuple hq;have hlen:=r'.length;exact len_tuple pl (by simp only[qZ]<;>omega) ⟨.int ys.length,H,I.tok _,⟨s.toks+1,by rw[qZ,hlen]⟩,q⟩
theorem NQ:P7 X (.builtin "len") (λxs H Q=>∃ z,xs=[.str z]/\z.length<=sizeLine/\Q (.int z.length) H):=by
 intro pins s σ H xs us Q I r h;obtain⟨z,rfl,hz,q⟩:=h;obtain⟨u,rfl,t,rfl⟩:=fQ r;have hn:=jQ;exact len_str (by omega) ⟨.int z.length,H,I.tok _,⟨_,rfl⟩,q⟩
theorem eJ:P7 X (.type "list") (λxs H Q=>∃ p ys,xs=[.ref p]/\(d0 X.K H p ys∨m9 X.K H p ys)/\∀ l,H l=none->Q (.ref l) (upd H l (.lst ys))):=by
 intro pins s σ H xs us Q I r h;obtain⟨p,ys,rfl,hq,q⟩:=h;obtain⟨u,rfl,rx⟩:=fQ r;cases rx;have fin:∀ (its:List Value),f8 ys its->ys.length<=sizeLine->∀ (h':Heap) (c':Nat),(∀ b o',s.heap.get? b=some o'->h'.get? b=some o') ->
   h'.get? s.heap.objs.size=some { cls:=.type "list",dict:=none,data:=.seq its.toArray c',slots:=#[] }->EP X pins σ Q (.ref s.heap.objs.size) { s with heap:=h' }:=λits r' hz h' c' kp e =>
  ⟨.ref s.heap.objs.size,_,I.laid (t':=s.toks) kp (qR _) (show t0 X.prog X.w _ h' _ (.lst ys) from ⟨hz,its,c',r',e⟩),rfl,q _ (I.hok.fresh (qR _))⟩
 rcases hq with hq | hq
 ·obtain⟨its,r',pl,hz⟩:=I.list hq;have hlen:=r'.length;obtain⟨o,ho,hc,n,hd⟩:=pl.isList;exact call_list_seq p (.inl rfl) ho hc hd (λh' c' kp e=>fin its r' hz h' c' kp e) (by simp only[qZ]<;>omega)
 ·obtain⟨its,r',pl,hz⟩:=I.tuple hq;have hlen:=r'.length;obtain⟨o,ho,hc,n,hd⟩:=pl;exact call_list_seq p (.inr rfl) ho hc hd (λh' c' kp e=>fin its r' hz h' c' kp e) (by simp only[qZ]<;>omega)
theorem wN:P7 X (.type "tuple") (λxs H Q=>∃ p ys,xs=[.ref p]/\((d0 X.K H p ys/\∀ l,H l=none->Q (.ref l) (upd H l (.tup ys)))∨(m9 X.K H p ys/\Q (.ref p) H))):=by
 intro pins s σ H xs us Q I r h;obtain⟨p,ys,rfl,h⟩:=h;obtain⟨u,rfl,rx⟩:=fQ r;cases rx;rcases h with ⟨hq,q⟩ | ⟨hq,q⟩
 ·obtain⟨its,r',pl,hz⟩:=I.list hq;have hlen:=r'.length;refine call_tuple_list pl.isList (λh' kp=>?_) (by simp only[qZ]<;>omega);have I1:f6 X pins σ H { s with heap:=h' }:=I.kept (t':=s.toks) kp;have I2:f6 X pins σ (upd H h'.objs.size (.tup ys)) { s with heap:=h'.push { cls:=.type "tuple",data:=.seq its.toArray } } :=
   I1.laid (t':=s.toks) (λb o e=>Heap.get?_push_of_some _ e) (qR _) (show t0 X.prog X.w _ _ _ (.tup ys) from ⟨hz,its,r',IsTup.new _ _⟩)
  exact⟨.ref h'.objs.size,_,I2,rfl,q _ (I1.hok.fresh (qR _))⟩
 ·obtain⟨its,r',pl,hz⟩:=I.tuple hq;exact call_tuple_same pl ⟨.ref p,H,I,rfl,q⟩
def oA (K:qF)(T:String)(x:V)(H:Hp):Prop:=match x with
 | .str _=>T="str"
 | .int _=>T="int"
 | .ref p=>(T="list" /\ ∃ xs,d0 K H p xs)∨(T="tuple" /\ ∃ o,K.lookup p=some o/\o.cls=.type "tuple" /\ o.dict=none) ∨
   (T="dict" /\ ((∃ kvs,H p=some (.dK kvs))∨∃ kvs,H p=some (.dT kvs)))∨(T="set" /\ ∃ S n,H p=some (.set S n))
 | _=>False
theorem U_ {pins:List (Addr×Obj)}{σ:St}{H:Hp}{s:Shared}{T:String}{x:V}{v:Value}(I:f6 X pins σ H s)(r:g9 x v)(ty:oA X.K T x H) :
  s.TypeIs v T/\∀ a,v=.ref a->∃ ob,s.heap.get? a=some ob/\ob.dict=none:=by
 cases x with
 | str z=>
  obtain⟨t,rfl⟩:=r;cases (show T="str" from ty);exact⟨typeIs_str s z t,λ_ e=>nomatch e⟩
 | int i=>
  obtain⟨t,rfl⟩:=r;cases (show T="int" from ty);exact⟨typeIs_int s i t,λ_ e=>nomatch e⟩
 | ref p=>
  cases r;rcases ty with ⟨rfl,xs,hq⟩ | ⟨rfl,o,hk,hc,hd⟩ | ⟨rfl,hk⟩ | ⟨rfl,S,n,hk⟩
  ·obtain⟨its,_,pl,_⟩:=I.list hq;refine⟨pl.isList.typeIs,λa e=>?_⟩;cases e;obtain⟨o,n,e,c,hd,_⟩:=pl;exact⟨o,e,hd⟩
  ·refine⟨⟨o,I.kIn p o hk,hc⟩,λa e=>?_⟩;cases e;exact⟨o,I.kIn _ o hk,hd⟩
  ·have z:∃ o,s.heap.get? p=some o/\o.ExactDict:=by
    rcases hk with ⟨kvs,hk⟩ | ⟨kvs,hk⟩
    ·obtain⟨_,_,_,_,o,_,_,e,ex,_⟩:=I.hok p _ hk;exact⟨o,e,ex⟩
    ·obtain⟨_,_,_,_,o,_,_,e,ex,_⟩:=I.hok p _ hk;exact⟨o,e,ex⟩
   obtain⟨o,e,ex⟩:=z;refine⟨⟨o,e,ex.1⟩,λa e2=>?_⟩;cases e2;exact⟨o,e,ex.2.1⟩
  ·obtain⟨o,_,_,_,e,ex,_⟩:=I.hok p _ hk;refine⟨⟨o,e,ex.1⟩,λa e2=>?_⟩;cases e2;exact⟨o,e,ex.2.1⟩
 | _=>exact False.elim ty
def yO (K:qF)(T:String)(r:V->List V->Hp->VK->Prop)(to:TE):TE:=fun σ H Q=>to σ H λx H1=>oA K T x H1/\r x [] H1 Q
def sJ (K:qF)(T:String)(r:V->List V->Hp->VK->Prop)(to:TE)(t:TA):TE:=fun σ H Q=>to σ H λx H1=>oA K T x H1/\t σ H1 λxs H2=>r x xs H2 Q
variable {o e:Expr} {es:List Expr} {to:TE} {t:TA} {name:Str} {apos cpos:Pos} {T id:String} {r:V->List V->Hp->VK->Prop}
theorem nR (pa:PlainAttrs T)(slot:Slot T name id)(hty:typeOf (.builtin id)=pure (.type "method_descriptor"))(hm:wI X id r)(ho:PE X o to)
  (hbase:attributeBase o name X.env (eval o X.env)=eval o X.env:=by rfl) (hline:(apos.endLine==cpos.line)=true:=by rfl):PE X (.Call (.Attribute o name apos) [] [] cpos) (yO X.K T r to):=by
 intro pins s σ H Q I h;refine wpAny_Call_method0_late hbase hline (t6 (ho pins s σ H _ I h) λv s1 zq=>?_);obtain⟨x,H1,I1,r1,ty,q1⟩:=zq;obtain⟨h1,h2⟩:=U_ I1 r1 ty;exact⟨T,id,pa,slot,hty,h1,h2,Calls.callWith_builtin rfl (PySem.evalArgs_none (hm pins s1 σ H1 x [] v [] Q I1 r1 .nil q1))⟩
theorem lZ (pa:PlainAttrs T)(slot:Slot T name id)(hty:typeOf (.builtin id)=pure (.type "method_descriptor"))(hm:wI X id r)(ho:PE X o to)(ha:PA X (e :: es) t)
  (hbase:attributeBase o name X.env (eval o X.env)=eval o X.env:=by rfl)
  (hfew:((backTo cpos (starEach (e :: es) X.env)).all (λx=>!x.1)&&(backToKw cpos (keywordEach [] X.env)).all (λx=>x.1.isSome)
   && decide ((e :: es).length+([]:List Keyword).length+(if ([]:List Keyword).isEmpty then 0 else 1) < 30))=true:=by rfl)
  (hline:(apos.endLine==cpos.line)=true:=by rfl) (hs:starEach (e :: es) X.env=(false,eval e X.env) :: starEach es X.env:=by rfl) (hplain:(backTo cpos (starEach es X.env)).any (·.1)=false:=by rfl) :
  PE X (.Call (.Attribute o name apos) (e :: es) [] cpos) (sJ X.K T r to t):=by
 intro pins s σ H Q I h;refine wpAny_Call_method_late hbase hfew hline rfl (t6 (ho pins s σ H _ I h) λv s1 zq=>?_);obtain⟨x,H1,I1,r1,ty,q1⟩:=zq;obtain⟨h1,h2⟩:=U_ I1 r1 ty;refine⟨T,id,pa,slot,hty,h1,h2,?_⟩;have hA:=ha cpos pins s1 σ H1 _ I1 q1;rw[hs] at hA |-;refine Calls.callWith_builtin (by show(false||(backTo cpos (starEach es X.env)).any (·.1))=false;rw[hplain]<;>rfl) (Calls.evalArgs_plain ?_);exact t6 hA λus s2 ⟨vs,H2,I2,r2,q2⟩=>hm pins s2 σ H2 x vs v us Q I2 r1 r2 q2
end
def jL (X:Cx)(id:String)(r:V->List V->Hp->VK->Prop):Prop :=
 ∀ (pins:List (Addr×Obj)) (s:Shared) (σ:St) (H:Hp) (x:V) (xs:List V) (v:Value) (us:List Value) (Q:VK),f6 X pins σ H s->g9 x v->f8 xs us->r x xs H Q ->
  wpAny (model X.prog X.w) X.A (call (.builtin id) (v :: us)) (EP X pins σ Q) X.xe s
theorem f8.one:∀ {x:V} {us:List Value},f8 [x] us->∃ u,us=[u]/\g9 x u
 | _,_,.cons r .nil=>⟨_,rfl,r⟩
theorem f8.zero:∀ {us:List Value},f8 [] us->us=[]
 | _,.nil=>rfl
theorem f8.dropLast {xs:List V}{us:List Value}(h:f8 xs us):f8 xs.dropLast us.dropLast:=by
 induction h with
 | nil=>exact .nil
 | cons r t ih=>
  cases t with
  | nil=>exact .nil
  | cons q t'=>exact .cons r ih
theorem f8.reverse {xs:List V}{us:List Value}(h:f8 xs us):f8 xs.reverse us.reverse:=by
 induction h with
 | nil=>exact .nil
 | cons r t ih=>rw[List.reverse_cons,List.reverse_cons];exact f8.append ih (.cons r .nil)
theorem f8.rep {xs:List V}{us:List Value}(h:f8 xs us):∀ k:Nat,f8 (List.replicate k xs).flatten (List.replicate k us).flatten
 | 0=>.nil
 | k+1=>by
  rw[List.replicate_succ,List.replicate_succ,List.flatten_cons,List.flatten_cons];exact f8.append h (f8.rep h k)
theorem yiK {α:Type}(l:List α):l.eraseIdx (l.length - 1)=l.dropLast:=by
 induction l with
 | nil=>rfl
 | cons a r ih=>
  cases r with
  | nil=>rfl
  | cons b r=>
   have e:(a :: b :: r).length - 1=((b :: r).length - 1)+1:=by
    have h1:(a :: b :: r).length=r.length+2:=rfl;have h2:(b :: r).length=r.length+1:=rfl;omega
   rw[e,List.eraseIdx_cons_succ,ih]
   all_goals rfl
theorem Kk (its:List Value):∀ (k:Nat) (acc:List Value),
  List.foldl (λx1 x2=>x1++x2) acc.toArray (List.replicate k its.toArray)=(acc++(List.replicate k its).flatten).toArray
 | 0,acc=>by simp
 | k+1,acc=>by
  have e:acc.toArray++its.toArray=(acc++its).toArray:=by simp
  have e2:(acc++its)++(List.replicate k its).flatten=acc++(List.replicate (k+1) its).flatten:=by
   rw[List.replicate_succ,List.flatten_cons,List.append_assoc]
  rw[<- e2,<- Kk its k (acc++its),<- e,List.replicate_succ,List.foldl_cons]
section
variable {X:Cx} {pins:List (Addr×Obj)} {σ:St} {H:Hp} {s:Shared} {l b:Addr} {xs ys zs:List V}
theorem f6.lset {its its':List Value}{n:Nat}{f:Array Value->Array Value}{t':Nat}(I:f6 X pins σ H s)(hH:H l=some (.lst xs))
  (e:s.heap.get? l=some { cls:=.type "list",data:=.seq its.toArray n }) (hf:f its.toArray=its'.toArray) (hv:f8 ys its') (hz:ys.length<=sizeLine) :
  f6 X pins σ (upd H l (.lst ys)) { s with heap:=s.heap.update l (Obj.mapSeq f),toks:=t' }:=by
 have q:=PySem.IsL.update e f;rw[hf] at q;refine I.write (x:=l) (e:=l) (by rw[hH];exact trivial) (.inl rfl) (λb' u hb hu=>(Heap.get?_update_other s.heap (Obj.mapSeq f) (Ne.symm hb)).trans hu) ⟨_,q⟩ ?_;exact⟨hz,its',_,hv,q⟩
theorem f6.lnew {its:List Value}{t':Nat}(I:f6 X pins σ H s)(hv:f8 ys its)(hz:ys.length<=sizeLine) :
  f6 X pins σ (upd H s.heap.objs.size (.lst ys)) { s with heap:=s.heap.push { cls:=.type "list",data:=.seq its.toArray },toks:=t' } :=
 I.laid (λ_ _ q=>Heap.get?_push_of_some _ q) (qR _) ⟨hz,its,0,hv,Heap.get?_push_size _ rfl⟩
theorem f6.fresh (I:f6 X pins σ H s):H s.heap.objs.size=none:=I.hok.fresh (qR _)
theorem f6.lstM (I:f6 X pins σ H s)(hH:H l=some (.lst xs)):xs.length<=sizeLine/\∃ (its:List Value) (n:Nat),f8 xs its/\xs.length=its.length/\s.heap.get? l=some { cls:=.type "list",data:=.seq its.toArray n }:=by
 obtain⟨z,its,n,r,e⟩:=I.hok l _ hH;exact⟨z,its,n,r,r.length,e⟩
theorem Zl {n:Nat}(h:n<=sizeLine):Builtin.List.listTooLong n=false:=by
 unfold Builtin.List.listTooLong;exact decide_eq_false (by omega)
end
section
variable {X:Cx}
def pN:V->List V->Hp->VK->Prop:=λx vs H Q=>∃ l xs y,x=.ref l/\vs=[y]/\H l=some (.lst xs)/\xs.length < sizeLine/\Q .non (upd H l (.lst (xs++[y])))
theorem ju:jL X "list.append" pN:=by
 intro pins s σ H x vs v us Q I rx rv h;obtain⟨l,xs,y,rfl,rfl,hH,hz,q⟩:=h;cases rx;obtain⟨u,rfl,ru⟩:=rv.one;obtain⟨z,its,n,r,hl,e⟩:=I.lstM hH;refine call_meets F.slot_list_append ⟨_,e,rfl⟩ F.entry_list_append (F.args_list_append_2 _ _) (PySem.list_append l its.toArray n u (by rw[qZ];omega)) ⟨e,?_⟩;refine⟨.non,_,I.lset (its':=its++[u]) hH e (by simp) (r.append (.cons ru .nil)) ?_,rfl,q⟩;rw[qA,qS];omega
def w_:V->List V->Hp->VK->Prop:=λx vs H Q=>∃ l b xs zs,x=.ref l/\vs=[.ref b]/\H l=some (.lst xs)/\H b=some (.lst zs)/\xs.length+zs.length<=sizeLine/\Q .non (upd H l (.lst (xs++zs)))
theorem ykm:jL X "list.extend" w_:=by
 intro pins s σ H x vs v us Q I rx rv h;obtain⟨l,b,xs,zs,rfl,rfl,hH,hB,hz,q⟩:=h;cases rx;obtain⟨u,rfl,ru⟩:=rv.one;cases ru;obtain⟨z,its,n,r,hl,e⟩:=I.lstM hH;obtain⟨z2,its2,n2,r2,hl2,e2⟩:=I.lstM hB;have hsz:its.toArray.size+its2.toArray.size<=sizeLine:=by rw[qZ,qZ];omega
 have hlong:¬ (!its.toArray.isEmpty&&Builtin.List.listTooLong (its.toArray.size+its2.toArray.size))=true:=by
  rw[Zl hsz,Bool.and_false];exact qN
 refine call_meets F.slot_list_extend ⟨_,e,rfl⟩ F.entry_list_extend (F.args_list_extend_2 _ _)
  (AutoSeq1.list_extend_list_list_0 l its.toArray n b its2.toArray n2 hlong (by rw[qZ];omega) (by omega)) ⟨e,e2,?_⟩
 refine⟨.non,_,I.lset (its':=its++its2) hH e (by simp) (r.append r2) ?_,rfl,q⟩;rw[qA];omega
def Uy:V->List V->Hp->VK->Prop:=λx vs H Q=>∃ l xs y,x=.ref l/\vs=[]/\H l=some (.lst xs)/\xs[xs.length - 1]?=some y/\Q y (upd H l (.lst xs.dropLast))
theorem Vb:jL X "list.pop" Uy:=by
 intro pins s σ H x vs v us Q I rx rv h;obtain⟨l,xs,y,rfl,rfl,hH,hy,q⟩:=h;cases rx;have hus:=rv.zero;subst hus;obtain⟨z,its,n,r,hl,e⟩:=I.lstM hH;obtain⟨u,hu,ru⟩:=r.get hy;have hy':its.toArray[its.toArray.size - 1]?=some u:=by
  show its.toArray[its.length - 1]?=some u
  rw[<- Array.getElem?_toList,<- hl];exact hu
 refine call_meets F.slot_list_pop ⟨_,e,rfl⟩ F.entry_list_pop (F.args_list_pop_1 _) (MeetsSeq.list_pop_last l its.toArray n u hy' (by rw[qZ];omega)) ⟨e,?_⟩;refine⟨y,_,I.lset (its':=its.dropLast) hH e ?_ r.dropLast ?_,ru,q⟩
 ·show its.toArray.eraseIdxIfInBounds (its.toArray.size - 1)=its.dropLast.toArray
  rw[qZ,List.eraseIdxIfInBounds_toArray,yiK]
 ·rw[List.length_dropLast];omega
def Xp:V->List V->Hp->VK->Prop:=λx vs H Q=>∃ l xs,x=.ref l/\vs=[]/\H l=some (.lst xs)/\Q .non (upd H l (.lst []))
theorem xA:jL X "list.clear" Xp:=by
 intro pins s σ H x vs v us Q I rx rv h;obtain⟨l,xs,rfl,rfl,hH,q⟩:=h;cases rx;have hus:=rv.zero;subst hus;obtain⟨z,its,n,r,hl,e⟩:=I.lstM hH;refine call_meets F.slot_list_clear ⟨_,e,rfl⟩ F.entry_list_clear (F.args_list_clear_1 _) (AutoSeq1.list_clear_list_0 l its.toArray n (by rw[qZ];omega)) ⟨e,?_⟩;exact⟨.non,_,I.lset (its':=[]) (ys:=[]) hH e rfl .nil (Nat.zero_le _),rfl,q⟩
def lD:R2:=λx y H Q=>∃ l b xs zs,x=.ref l/\y=.ref b/\H l=some (.lst xs)/\H b=some (.lst zs)/\xs.length+zs.length<=sizeLine/\∀ p,H p=none->Q (.ref p) (upd H p (.lst (xs++zs)))
theorem O1:J5 X (binaryOp .Add) lD:=by
 intro pins s σ H x y v u Q I rx ry h;obtain⟨l,b,xs,zs,rfl,rfl,hH,hB,hz,q⟩:=h;cases rx;cases ry;obtain⟨z,its,n,r,hl,e⟩:=I.lstM hH;obtain⟨z2,its2,n2,r2,hl2,e2⟩:=I.lstM hB;refine PySem.P.add_list e e2 ?_ (by rw[qZ,qZ];omega);have ea:its.toArray++its2.toArray=(its++its2).toArray:=by simp
 rw[ea];exact⟨.ref _,_,I.lnew (t':=s.toks) (r.append r2) (by rw[qA];omega),rfl,q _ I.fresh⟩
def vU:R2:=λx y H Q=>∃ l k xs,x=.ref l/\y=.int k/\H l=some (.lst xs)/\-(2 ^ 63)<=k/\k < 2 ^ 63/\xs.length*k.toNat<=sizeLine /\
 ∀ p,H p=none->Q (.ref p) (upd H p (.lst (List.replicate k.toNat xs).flatten))
theorem Gy {α:Type}(xs:List α)(k:Nat):(List.replicate k xs).flatten.length=k*xs.length:=by
 induction k with
 | zero=>simp
 | succ k ih=>rw[List.replicate_succ,List.flatten_cons,qA,ih,Nat.succ_mul,Nat.add_comm]
theorem lS:J5 X (binaryOp .Mult) vU:=by
 intro pins s σ H x y v u Q I rx ry h;obtain⟨l,k,xs,rfl,rfl,hH,h1,h2,hz,q⟩:=h;cases rx;obtain⟨t,rfl⟩:=ry;obtain⟨z,its,n,r,hl,e⟩:=I.lstM hH;have hlen:its.toArray.size*k.toNat<=sizeLine:=by rw[qZ,<- hl];exact hz
 have hcap:¬ its.toArray.size*k.toNat > (2 ^ 63 - 1) / 8:=by
  have:(sizeLine:Nat)<=(2 ^ 63 - 1) / 8:=by decide
  omega
 have hfit:¬ (!Builtin.List.listFitsIndex k)=true:=by
  rw[fitsIndex_both h1 h2];exact qN
 have hlong:¬ Builtin.List.listTooLong (its.toArray.size*k.toNat)=true:=by
  rw[Zl hlen];exact qN
 have hnew:List.foldl (λx1 x2=>x1++x2) #[] (List.replicate (if its.toArray.isEmpty=true then 0 else k.toNat) its.toArray)=(List.replicate k.toNat its).flatten.toArray:=by
  have f0:∀ m:Nat,List.foldl (λx1 x2=>x1++x2) #[] (List.replicate m its.toArray)=(List.replicate m its).flatten.toArray:=λm=>by
   have:=Kk its m [];rw[List.nil_append] at this;exact this
  rw[f0];cases its with
  | nil=>simp
  | cons a r'=>rw[if_neg (by simp)]
 refine wpAny_binaryOp_repeat_ref (T := "list") (U := "int") (by decide) ⟨_,e,rfl⟩ (λs'=>typeIs_int s' k t) noFill_list_mul F.fills_int_mul F.slot_int_rmul repeat_list F.slot_int_index.lookup
  (call_meets F.slot_int_rmul (typeIs_int s k t) F.entry_int_rmul (F.args_int_rmul_2 _ _) (int___rmul___int_list k t l its.toArray n)
   ⟨e,rfl,⟨_,e,rfl⟩,call_meets F.slot_list_mul ⟨_,e,rfl⟩ F.entry_list_mul (F.args_list_mul_2 _ _) (AutoListH.list___mul___list_int_3 l its.toArray n k t hfit hcap hlong) ⟨e,?_⟩⟩)
 rw[hnew];exact⟨.ref _,_,I.lnew (t':=s.toks) (r.rep k.toNat) (by rw[Gy,Nat.mul_comm];exact hz),rfl,q _ I.fresh⟩
end
section
variable {prog:Program} {w:World} {A:Around} {E:Value->Shared->Prop} {s:Shared}
set_option maxRecDepth 100000 in
end
section
variable {X:Cx}
end
end L2
namespace Att
open PySem PySem.W PySem.Calls PyProof.Rows
theorem yeD {P:Params}{h:Heap}:∀ (ns:List Int) (vs:List Value),WellAll P h vs (ns.map WData.int)->IntsAre vs ns:=by
 intro ns
 induction ns with
 | nil=>
  intro vs w;rw[List.map_nil] at w;cases w;exact .nil
 | cons n ns ih=>
  intro vs w;rw[List.map_cons] at w;cases w with
  | cons a b=>
   cases a;exact .cons _ _ (ih _ b)
theorem Ua {l:OpenLaw}{n:Nat}(hn:l.most=some n){P:Params}{h:Heap}{args:List WData}{vals:List Value}
  (hpre:l.row.toRowW.claim.pre args=true) (hwl:WellAll P h vals args) :
  ∃ a vs ns,vals=[Value.ref a]/\args=[WData.list (ns.map WData.int)]/\h.get? a=some { cls:=.type "list",data:=.seq vs.toArray }/\IntsAre vs ns/\ns.length<=n:=by
 have hsh:WShape.hasAll [] args [.list .int]=true:=(pre_splitW hpre).1;have hc:l.pre.holds [] { args:=args }=true:=(pre_splitW hpre).2;obtain⟨d,r,rfl,h1,h2⟩:=hasAllW_cons hsh;obtain rfl:=hasAllW_nil h2;obtain⟨xs,rfl,h3⟩:=hasW_list h1;obtain⟨ns,rfl⟩:=items_int h3;have hlen:ns.length<=n:=by
  unfold OpenLaw.pre at hc;have h4:(WTm.not (.lt (.lit (.int (n:Int))) (.len (.arg 0)))).holds [] { args:=[.list (ns.map .int)] }=true:=by
   have h4:=(holds_andW hc).1;rw[hn] at h4;exact h4
  have h5:=condW_of h4 (w_not (w_lt w_lit (w_len_list (w_arg rfl))));rw[qM] at h5;refine Nat.le_of_not_lt λq=>?_
  have q':(n:Int) < ((ns.length:Nat):Int):=by omega
  first
   | (rw[decide_eq_true q'] at h5;exact absurd h5 (by decide))
   | (simp at h5;omega)
 cases hwl with
 | cons w1 w2=>
  cases w2;cases w1 with
  | list ho hall=>exact⟨_,_,ns,rfl,rfl,ho,yeD ns _ hall,hlen⟩
theorem BQ (l:OpenLaw)(args:List WData):l.row.toRowW.claim.post args (.bool true) args=true :=
 postW_of (r:=l.row.toRowW) (X:=(true==true))
  (show WShape.has [] (.bool true) .bool=true by first | rfl | decide | simp[WShape.has,WShape.arms,WShape.armsAll])
  (show(WTm.eq .res (.lit (.bool true))).value [] { args:=args,res:=some (.bool true),after:=args }=some (.bool (true==true)) from w_eq_bool (w_res rfl) w_lit) rfl
section
variable {prog:Program} {w:World} {A:Around} {E:Value->Shared->Prop} {s:Shared} {K:Frag}
end
end Att
namespace L2
open PySem PySem.Spec PyProof.Rows
theorem qv:∀ {vs:List Value} {ns:List Int},IntsAre vs ns->f8 (ns.map V.int) vs
 | _,_,.nil=>.nil
 | _,_,.cons n t h=>.cons ⟨t,rfl⟩ (qv h)
def yJ (H:Hp):Prop:=∀ b,H b=none∨∃ o xs,H b=some (.frz o (.lst xs))
theorem GX {P:Program}{w:World}{K:qF}{mg mb:Str->Option Value}{CX:P0}{k:Nat}{fa a:Addr}{fd:FuncData}{x:Str}{sp:Sp}{s₁:Shared}{vs:List Value}{ns:List Int}
  (KX:K.In s₁.heap) (hns:s₁.heap.Ns mainGlobals mg) (hb:s₁.heap.Ns builtinsNs mb) (hbb:∀ x:Str,x≠"__name__" -> mb x=bootBuiltins x) (hlim:s₁.heap.NoLimit) (hg:s₁.gens=#[])
  (ha:s₁.heap.get? a=some { cls:=.type "list",data:=.seq vs.toArray }) (hi:IntsAre vs ns) (hl:ns.length<=sizeLine) (hr:x8 k callerA)
  (F:∀ base:Heap,K.In base->base.Ns mainGlobals mg->z0 P w K mg base CX k fa fd [x] sp) (hbind:∀ (s:Shared) (u:Value),BindsTo s fd ⟨[u],[]⟩ [(x,u)])
  (hsp:∀ H:Hp,yJ H->d0 K H a (ns.map V.int)->sp [.ref a] H (λv _=>v=.bl true) λ_ _ _=>False)
  (hCX:∀ H e s',CX [] H s₁ (λ_ _ _=>False) e s'->False) :
  codeAny (model P w) callerA (.call (.ref fa) ⟨[.ref a],[]⟩) (λr s'=>r=.ok (.ret (.bool true))/\OldK s₁.heap s'.heap/\s'.os=s₁.os/\AllBare s'.gens) s₁:=by
 have rv:=qv hi;have lenV:=hi.length;have core:∀ H:Hp,yJ H->d0 K H a (ns.map V.int)->C9 P w H s₁.heap->(∀ b,H b≠none->b=a)->(H a≠none->K.lookup a=none) ->
   codeAny (model P w) callerA (.call (.ref fa) ⟨[.ref a],[]⟩) (λr s'=>r=.ok (.ret (.bool true))/\OldK s₁.heap s'.heap/\s'.os=s₁.os/\AllBare s'.gens) s₁:=by
  intro H hO hS hok hA hK;have base_of:∀ {b:Addr} {o:Obj},s₁.heap.get? b=some o->H b=none->(fV s₁.heap H).get? b=some o:=λe n=>ymU e n
  have noA:∀ {b:Addr} {o:Obj} {es:Array DictEntry} {ep:Nat},s₁.heap.get? b=some o->o.data=.dict es ep->H b=none:=λ{b o es ep} e d=>by
   cases q:H b with
   | none=>rfl
   | some u=>
    have e':b=a:=hA b (by rw[q];simp);subst e';rw[ha] at e;cases e;have d':Data.seq vs.toArray _=Data.dict es ep:=d;cases d'
  have nsK:∀ {b:Addr} {m:Str->Option Value},s₁.heap.Ns b m->(fV s₁.heap H).Ns b m:=λ{b m} ⟨o,es,ep,e,d,r⟩=>⟨o,es,ep,base_of e (noA e d),d,r⟩
  have hKb:K.In (fV s₁.heap H):=λb o e=>base_of (KX b o e) (by
   cases q:H b with
   | none=>rfl
   | some u=>
    have e':b=a:=hA b (by rw[q];simp);subst e';rw[hK (by rw[q];simp)] at e;cases e)
  have hM:Mod K mg (fV s₁.heap H):=⟨hKb,nsK hns,⟨mb,nsK hb,hbb⟩,let ⟨mc,h1,h2⟩:=hlim;⟨mc,nsK h1,h2⟩⟩;have e0:R9 P w K mg (fV s₁.heap H) callerA [] s₁ H:=⟨rfl,hM,λb o e=>yn1 e,Nat.le_of_eq (GQ _ _),trivial,λb hb=>absurd (show b∈([]:List Addr) from hb) (by simp),hok,.of_eq hg⟩;refine codeAny_mono ((F _ hKb (nsK hns)).run callerA [] s₁ H ⟨[.ref a],[]⟩ [.ref a] [.ref a] _ _ hr e0 (hbind s₁ (.ref a)) (.cons rfl .nil) (hsp H hO hS)) λr s' h=>?_
  cases r with
  | error e=>exact(hCX H e s' h).elim
  | ok fl=>
   cases fl with
   | next=>exact False.elim h
   | brk=>exact False.elim h
   | cont=>exact False.elim h
   | ret u=>
    obtain⟨v,H',os,bare,un,hok',r',q⟩:=h;have q':v=.bl true:=q;subst q';obtain rfl:u=Value.bool true:=r';refine⟨rfl,OldK.of_keep λb o e=>?_,os,bare⟩;cases q:H b with
    | none=>exact un.keep b o e q (by intro z;exact absurd (show b∈([]:List Addr) from z) (by simp)) (by simp)
    | some u=>
     rcases hO b with z | ⟨ob,xs,z⟩
     ·rw[q] at z;cases z
     ·have z2:=un.frzs b ob _ z;obtain⟨e1,_⟩:=hok b _ z;obtain⟨e2,_⟩:=hok' b _ z2;rw[e] at e1;cases e1;exact e2
 cases hk:K.lookup a with
 | some o=>
  have e:=KX a o hk;rw[ha] at e;cases e;refine core (λ_=>none) (λ_=>.inl rfl) (.inr ⟨_,vs.toArray,_,hk,rfl,rfl,rfl,by rw[qZ,lenV];exact hl,by simpa using rv⟩) (λb u z=>by have z':(none:Option HO)=some u:=z;cases z') (λb z=>absurd rfl z) λz=>absurd rfl z
 | none=>
  refine core (λb=>if b=a then some (.frz { cls:=.type "list",data:=.seq vs.toArray } (.lst (ns.map V.int))) else none) (λb=>?_) (.inl (.inr ⟨{ cls:=.type "list",data:=.seq vs.toArray },if_pos rfl⟩)) (λb u z=>?_) (λb z=>?_) λ_=>hk
  ·by_cases hb:b=a
   ·exact .inr ⟨_,_,if_pos hb⟩
   ·exact .inl (if_neg hb)
  ·by_cases hb:b=a
   ·have z':=(if_pos hb).symm.trans z;cases z';subst hb;exact⟨ha,by rw[qM];exact hl,vs,_,rv,ha⟩
   ·have z':=(if_neg hb).symm.trans z;cases z'
  ·by_cases hb:b=a
   ·exact hb
   ·exact absurd (if_neg hb) z
def eP (s:Stmt):Arguments:=match s with
 | .FunctionDef _ a _ _ _ _ _ _ _ _=>a
 | _=>{ posonlyargs:=[],args:=[],vararg:=none,kwonlyargs:=[],kw_defaults:=[],kwarg:=none,defaults:=[] }
def bW (s:Stmt):List Stmt:=match s with
 | .FunctionDef _ _ b _ _ _ _ _ _ _=>b
 | _=>[]
def v6 (s:Stmt):Scope:=match s with
 | .FunctionDef _ _ _ _ _ _ sc _ _ _=>sc
 | _=>{ kind:=.function,names:=[],isGenerator:=false,isCoroutine:=false }
abbrev S3:P0:=λ_ _ _ _ _ _=>False
abbrev E0:XK:=λ_ _ _=>False
theorem K4 {X:Cx}:bH S3 X E0:=λ_ _ _ _ _ _ _ h=>h.elim
structure cX (K:qF) (x qual:Str) (st:Stmt) (f:Addr) (fd:FuncData):Prop where
 ex:∃ (oc:Value) (od:Option Addr) (kV doc pm:Value) (an:Option Addr) (cdv ct:Value) (osl:Array (Option Value)),
  fd=PySem.W.fnOf x qual (eP st) (bW st) (v6 st) .none kV doc pm an cdv ct/\K.lookup f=some ⟨oc,od,.func fd,osl⟩/\PySem.W.codeIn K cdv qual=true
 kp:PySem.W.keepIn K (.ref f)=true
section
variable {P:Program} {w:World} {K:qF} {mg:Str->Option Value} {base:Heap}
theorem cX.ok {x qual:Str}{st:Stmt}{f:Addr}{fd:FuncData}{N ps:List Str}{k:Nat}{sp:Sp}(F:cX K x qual st f fd)(S:x5 N ps (v6 st))(len:∀ vs H Q E,sp vs H Q E->vs.length=ps.length)
  (hbody:∀ (cdv:Value) (A:Around) (outer:List Env) (s:Shared) (H:Hp) (vs:List V) (Q:VK) (E:XK),x8 k (A.deeper (envOfC qual (v6 st) s.heap.objs.size f cdv))->sp vs H Q E ->
   ∃ t,U4 (J1 S3 P w K mg base N qual (v6 st) f cdv A outer s H E).nox (bW st) t/\t { nx:=λ_ H'=>Q .non H',rt:=Q } (B6 N vs) H):z0 P w K mg base S3 (k+1) f fd ps sp:=by
 obtain⟨oc,od,kV,doc,pm,an,cdv,ct,osl,rfl,lk,hcd⟩:=F.ex;refine Xk lk hcd S len λA outer s H vs Q E hr hsp=>?_
 obtain⟨t,h,q⟩:=hbody cdv A outer s H vs Q E hr hsp;exact⟨t,h.nox,q⟩
theorem cX.binds {x qual:Str}{st:Stmt}{f:Addr}{fd:FuncData}{ps:List Str}(F:cX K x qual st f fd)
  (h:∀ (kV doc pm:Value) (an:Option Addr) (cdv ct:Value) (us:List Value),us.length=ps.length->bindArgs (PySem.W.fnOf x qual (eP st) (bW st) (v6 st) .none kV doc pm an cdv ct) ⟨us,[]⟩=pure (ps.zip us)):B0 K fd ps []:=by
 obtain⟨oc,od,kV,doc,pm,an,cdv,ct,osl,rfl,lk,hcd⟩:=F.ex;exact .all (h kV doc pm an cdv ct)
theorem pW {x qual:Str}{st:Stmt}{f:Addr}{oc:Value}{od an:Option Addr}{osl:Array (Option Value)}{kV doc pm cdv ct:Value}(l:K.lookup f=some ⟨oc,od,.func (PySem.W.fnOf x qual (eP st) (bW st) (v6 st) .none kV doc pm an cdv ct),osl⟩)
  (c:PySem.W.codeIn K cdv qual=true) (k:PySem.W.keepIn K (.ref f)=true):cX K x qual st f (PySem.W.fnOf x qual (eP st) (bW st) (v6 st) .none kV doc pm an cdv ct):=⟨⟨oc,od,kV,doc,pm,an,cdv,ct,osl,rfl,l,c⟩,k⟩
end
theorem F1 {n:Nat}(h:n<=1000):n < sizeLine:=Nat.lt_of_le_of_lt h (by decide)
section
variable {X:Cx}
theorem pv (i:Nat){x:Str}{pos:Pos}(hN:X.N[i]?=some x:=by rfl)(hv:mC X.env.scope x:=by first | exact Or.inl rfl | exact Or.inr (Or.inl rfl) | exact Or.inr (Or.inr rfl))(hd:(x==("__debug__" : Str))=false:=by decide)
  (hcd:(x==("__classdict__" : Str))=false:=by decide):PE X (.Name x pos) (D7 i):=J_ hN hv hd hcd
end
theorem kJ {c A B:Prop}[Decidable c](h1:c->A)(h2:¬ c->B):if c then A else B:=by
 by_cases h:c
 ·rw[if_pos h];exact h1 h
 ·rw[if_neg h];exact h2 h
def b9 (H H':Hp):Prop:=∀ b o,H b=some o->H' b=some o
theorem b9.refl (H:Hp):b9 H H:=λ_ _ h=>h
theorem b9.trans {H H1 H2:Hp}(a:b9 H H1)(b:b9 H1 H2):b9 H H2:=λc o h=>b c o (a c o h)
theorem b9.free {H H':Hp}(e:b9 H H'){l:Addr}(h:H' l=Option.none):H l=Option.none:=by
 cases q:H l with
 | none=>rfl
 | some o=>
  rw[e l o q] at h;cases h
theorem b9.seq {K:qF}{H H':Hp}{a:Addr}{xs:List V}(e:b9 H H')(h:d0 K H a xs):d0 K H' a xs:=by
 rcases h with (h | ⟨o,h⟩) | h
 ·exact .inl (.inl (e _ _ h))
 ·exact .inl (.inr ⟨o,e _ _ h⟩)
 ·exact .inr h
section
variable {X:Cx}
def yuY (K:qF):List V->Hp->VK->Prop:=λxs H Q=>∃ x n t b,xs=[x,.ty n]/\U3 K H x t/\PySem.W.kitOne K t (.type n)=some b/\Q (.bl b) H
theorem ym6:P7 X (.builtin "isinstance") (yuY X.K):=by
 intro pins s σ H xs us Q I r h;obtain⟨x,n,t,b,rfl,ty,e,q⟩:=h;obtain⟨u,v,rfl,ru,rv⟩:=jC r;obtain rfl:v=Value.type n:=rv;exact Vl I ru ty e λtk=>⟨.bl b,H,I.tok tk,rfl,q⟩
theorem MQ {K:qF}:PySem.W.kitOne K (.type "int") (.type "int")=some true:=by kernel_rfl
theorem ygO {K:qF}:PySem.W.kitOne K (.type "int") (.type "bool")=some false:=by kernel_rfl
theorem Yw {K:qF}:PySem.W.kitOne K (.type "int") (.type "str")=some false:=by kernel_rfl
theorem yg4 {K:qF}:PySem.W.kitOne K (.type "int") (.type "list")=some false:=by kernel_rfl
theorem yfI {K:qF}:PySem.W.kitOne K (.type "int") (.type "tuple")=some false:=by kernel_rfl
theorem XJ {K:qF}:PySem.W.kitOne K (.type "bool") (.type "int")=some true:=by kernel_rfl
theorem yfR {K:qF}:PySem.W.kitOne K (.type "bool") (.type "bool")=some true:=by kernel_rfl
theorem VQ {K:qF}:PySem.W.kitOne K (.type "bool") (.type "str")=some false:=by kernel_rfl
theorem yfQ {K:qF}:PySem.W.kitOne K (.type "bool") (.type "list")=some false:=by kernel_rfl
theorem yeZ {K:qF}:PySem.W.kitOne K (.type "bool") (.type "tuple")=some false:=by kernel_rfl
theorem Wj {K:qF}:PySem.W.kitOne K (.type "str") (.type "int")=some false:=by kernel_rfl
theorem MZ {K:qF}:PySem.W.kitOne K (.type "str") (.type "bool")=some false:=by kernel_rfl
theorem RJ {K:qF}:PySem.W.kitOne K (.type "str") (.type "str")=some true:=by kernel_rfl
theorem ygW {K:qF}:PySem.W.kitOne K (.type "str") (.type "list")=some false:=by kernel_rfl
theorem yfM {K:qF}:PySem.W.kitOne K (.type "str") (.type "tuple")=some false:=by kernel_rfl
theorem AX {K:qF}:PySem.W.kitOne K (.type "NoneType") (.type "int")=some false:=by kernel_rfl
theorem XX {K:qF}:PySem.W.kitOne K (.type "NoneType") (.type "bool")=some false:=by kernel_rfl
theorem ygx {K:qF}:PySem.W.kitOne K (.type "NoneType") (.type "str")=some false:=by kernel_rfl
theorem yfZ {K:qF}:PySem.W.kitOne K (.type "NoneType") (.type "list")=some false:=by kernel_rfl
theorem yeU {K:qF}:PySem.W.kitOne K (.type "NoneType") (.type "tuple")=some false:=by kernel_rfl
theorem ygP {K:qF}:PySem.W.kitOne K (.type "list") (.type "int")=some false:=by kernel_rfl
theorem yfu {K:qF}:PySem.W.kitOne K (.type "list") (.type "bool")=some false:=by kernel_rfl
theorem yg7 {K:qF}:PySem.W.kitOne K (.type "list") (.type "str")=some false:=by kernel_rfl
theorem yfJ {K:qF}:PySem.W.kitOne K (.type "list") (.type "list")=some true:=by kernel_rfl
theorem ye1 {K:qF}:PySem.W.kitOne K (.type "list") (.type "tuple")=some false:=by kernel_rfl
theorem yf8 {K:qF}:PySem.W.kitOne K (.type "tuple") (.type "int")=some false:=by kernel_rfl
theorem ye3 {K:qF}:PySem.W.kitOne K (.type "tuple") (.type "bool")=some false:=by kernel_rfl
theorem Gd {K:qF}:PySem.W.kitOne K (.type "tuple") (.type "str")=some false:=by kernel_rfl
theorem ye0 {K:qF}:PySem.W.kitOne K (.type "tuple") (.type "list")=some false:=by kernel_rfl
theorem yeH {K:qF}:PySem.W.kitOne K (.type "tuple") (.type "tuple")=some true:=by kernel_rfl
theorem ygS {K:qF}:PySem.W.kitOne K (.type "dict") (.type "int")=some false:=by kernel_rfl
theorem Yl {K:qF}:PySem.W.kitOne K (.type "dict") (.type "bool")=some false:=by kernel_rfl
theorem ygh {K:qF}:PySem.W.kitOne K (.type "dict") (.type "str")=some false:=by kernel_rfl
theorem yf6 {K:qF}:PySem.W.kitOne K (.type "dict") (.type "list")=some false:=by kernel_rfl
theorem yeR {K:qF}:PySem.W.kitOne K (.type "dict") (.type "tuple")=some false:=by kernel_rfl
inductive aN | non | bl | int | str | lst | tup | dct
 deriving DecidableEq
def aN.name:aN->String
 | .non => "NoneType" | .bl => "bool" | .int => "int" | .str => "str" | .lst => "list" | .tup => "tuple" | .dct => "dict"
inductive x6 (H:Hp):V->aN->Prop where
 | non:x6 H .non .non
 | bl (b:Bool):x6 H (.bl b) .bl
 | int (i:Int):x6 H (.int i) .int
 | str (x:Str):x6 H (.str x) .str
 | lst {a:Addr} {xs:List V} (e:H a=some (.lst xs)):x6 H (.ref a) .lst
 | tup {a:Addr} {xs:List V} (e:H a=some (.tup xs)):x6 H (.ref a) .tup
 | dct {a:Addr} {kvs:List (C5×V)} (e:H a=some (.dK kvs)):x6 H (.ref a) .dct
theorem x6.ty {K:qF}{H:Hp}{x:V}{k:aN}(h:x6 H x k):U3 K H x (.type k.name):=by
 cases h with
 | non=>exact .non
 | bl b=>exact .bl b
 | int i=>exact .int i
 | str x=>exact .str x
 | lst e=>exact .lst e
 | tup e=>exact .tup e
 | dct e=>exact .dK e
def aN.isA:aN->String->Bool
 | .int, "int"=> true
 | .bl, "int"=> true
 | .bl, "bool"=> true
 | .str, "str"=> true
 | .lst, "list"=> true
 | .tup, "tuple"=> true
 | .dct, "dict"=> true
 | _,_=>false
def cL (n:String):Prop:=n="int" ∨ n="bool" ∨ n="str" ∨ n="list" ∨ n="tuple"
theorem yqV {K:qF}(k:aN){n:String}(h:cL n):PySem.W.kitOne K (.type k.name) (.type n)=some (k.isA n):=by
 rcases h with rfl | rfl | rfl | rfl | rfl<;>cases k
 ·exact AX
 ·exact XJ
 ·exact MQ
 ·exact Wj
 ·exact ygP
 ·exact yf8
 ·exact ygS
 ·exact XX
 ·exact yfR
 ·exact ygO
 ·exact MZ
 ·exact yfu
 ·exact ye3
 ·exact Yl
 ·exact ygx
 ·exact VQ
 ·exact Yw
 ·exact RJ
 ·exact yg7
 ·exact Gd
 ·exact ygh
 ·exact yfZ
 ·exact yfQ
 ·exact yg4
 ·exact ygW
 ·exact yfJ
 ·exact ye0
 ·exact yf6
 ·exact yeU
 ·exact yeZ
 ·exact yfI
 ·exact yfM
 ·exact ye1
 ·exact yeH
 ·exact yeR
def vD:List V->Hp->VK->Prop:=λxs H Q=>∃ x n k,xs=[x,.ty n]/\cL n/\x6 H x k/\Q (.bl (k.isA n)) H
theorem Q7:P7 X (.builtin "isinstance") vD:=by
 intro pins s σ H xs us Q I r h;obtain⟨x,n,k,rfl,hn,hk,q⟩:=h;exact ym6 pins s σ H _ us Q I r ⟨x,n,_,_,rfl,hk.ty,yqV k hn,q⟩
end
inductive Tr where
 | vl (v:V) | ls (ts:List Tr) | tp (ts:List Tr)
mutual
def A3:Tr->Tr->Bool
 | .vl x,.vl y=>K9 x y
 | .ls xs,.ls ys=>eqTs xs ys
 | .tp xs,.tp ys=>eqTs xs ys
 | _,_=>false
def eqTs:List Tr->List Tr->Bool
 | [],[]=>true
 | x :: xs,y :: ys=>A3 x y&&eqTs xs ys
 | _,_=>false
end
mutual
def A8 (K:qF)(H:Hp):V->Tr->Prop
 | v,.vl w=>v=w/\O7 w=true
 | v,.ls ts=>∃ a xs,v=.ref a/\d0 K H a xs/\Reps K H xs ts
 | v,.tp ts=>∃ a xs,v=.ref a/\m9 K H a xs/\Reps K H xs ts
def Reps (K:qF)(H:Hp):List V->List Tr->Prop
 | xs,[]=>xs=[]
 | xs,t :: ts=>∃ x r,xs=x :: r/\A8 K H x t/\Reps K H r ts
end
mutual
def Y6:Tr->Nat
 | .vl _=>0
 | .ls ts=>deps ts+1
 | .tp ts=>deps ts+1
def deps:List Tr->Nat
 | []=>0
 | t :: ts=>max (Y6 t) (deps ts)
end
def lY (ts us:List Tr)(j:Nat):Bool:=match ts[j]?,us[j]? with
 | some t,some u=>A3 t u
 | _,_=>true
theorem uE:∀ {ts us:List Tr},ts.length=us.length->eqTs ts us=(List.range ts.length).all (lY ts us)
 | [],[],_=>rfl
 | t :: ts,u :: us,h=>by
  have h':ts.length=us.length:=by simpa using h
  rw[eqTs,qC,List.range_succ_eq_map,List.all_cons,List.all_map,uE h'];rfl
 | [],_ :: _,h=>by simp at h
 | _ :: _,[],h=>by simp at h
theorem xR:∀ {ts us:List Tr},ts.length≠us.length->eqTs ts us=false
 | [],[],h=>absurd rfl h
 | t :: ts,u :: us,h=>by
  have h':ts.length≠us.length:=λz=>h (by simp[z])
  rw[eqTs,xR h',Bool.and_false]
 | [],_ :: _,_=>rfl
 | _ :: _,[],_=>rfl
theorem Reps.length {K:qF}{H:Hp}:∀ {xs:List V} {ts:List Tr},Reps K H xs ts->xs.length=ts.length
 | xs,[],h=>by rw[Reps] at h;subst h;rfl
 | xs,t :: ts,h=>by
  rw[Reps] at h;obtain⟨x,r,rfl,_,h⟩:=h;rw[qC,qC,Reps.length h]
theorem Reps.get {K:qF}{H:Hp}:∀ {xs:List V} {ts:List Tr} {i:Nat} {x:V},Reps K H xs ts->xs[i]?=some x->∃ t,ts[i]?=some t/\A8 K H x t
 | xs,[],i,x,h,e=>by rw[Reps] at h;subst h;simp at e
 | xs,t :: ts,0,x,h,e=>by
  rw[Reps] at h;obtain⟨y,r,rfl,hy,h⟩:=h;simp at e;subst e;exact⟨t,rfl,hy⟩
 | xs,t :: ts,i+1,x,h,e=>by
  rw[Reps] at h;obtain⟨y,r,rfl,hy,h⟩:=h;obtain⟨u,h1,h2⟩:=Reps.get (i:=i) h (by simpa using e);exact⟨u,by simpa using h1,h2⟩
theorem yD:∀ {ts:List Tr} {i:Nat} {t:Tr},ts[i]?=some t->Y6 t<=deps ts
 | [],_,_,e=>by simp at e
 | t :: ts,0,u,e=>by
  simp at e;subst e;rw[deps];exact Nat.le_max_left _ _
 | t :: ts,i+1,u,e=>by
  rw[deps];exact Nat.le_trans (yD (ts:=ts) (i:=i) (by simpa using e)) (Nat.le_max_right _ _)
theorem ykc (x:V)(us:List Tr):A3 (.vl x) (.ls us)=false:=by simp[A3]
theorem Uu (x:V)(us:List Tr):A3 (.vl x) (.tp us)=false:=by simp[A3]
theorem yk4 (x:V)(us:List Tr):A3 (.ls us) (.vl x)=false:=by simp[A3]
theorem Yv (x:V)(us:List Tr):A3 (.tp us) (.vl x)=false:=by simp[A3]
theorem Wq (ts us:List Tr):A3 (.ls ts) (.tp us)=false:=by simp[A3]
theorem ylu (ts us:List Tr):A3 (.tp ts) (.ls us)=false:=by simp[A3]
theorem ymc {v:V}(f:O7 v=true):K9 v v=true:=by
 cases v<;>first | (simp[O7] at f;done) | rfl | (simp[K9];done)
section
variable {X:Cx} {pins:List (Addr×Obj)} {σ:St} {H:Hp} {s:Shared}
theorem f6.apart (I:f6 X pins σ H s){a:Addr}{xs ys:List V}(h:d0 X.K H a xs)(h':m9 X.K H a ys):False:=by
 obtain⟨its,_,p,_⟩:=I.list h;obtain⟨its',_,p',_⟩:=I.tuple h';exact SeqAt.ne_of_list_tuple p.isList p' rfl
mutual
theorem qo (I:f6 X pins σ H s):∀ (t u:Tr) (x:V),A8 X.K H x t->A8 X.K H x u->A3 t u=true
 | .vl v,.vl w,x,h1,h2=>by
  rw[A8] at h1;rw[A8] at h2;obtain⟨rfl,f⟩:=h1;obtain⟨rfl,_⟩:=h2;rw[A3];exact ymc f
 | .vl v,.ls us,x,h1,h2=>by
  rw[A8] at h1;rw[A8] at h2;obtain⟨rfl,f⟩:=h1;obtain⟨a,xs,rfl,_⟩:=h2;cases f
 | .vl v,.tp us,x,h1,h2=>by
  rw[A8] at h1;rw[A8] at h2;obtain⟨rfl,f⟩:=h1;obtain⟨a,xs,rfl,_⟩:=h2;cases f
 | .ls ts,.vl v,x,h1,h2=>by
  rw[A8] at h1;rw[A8] at h2;obtain⟨rfl,f⟩:=h2;obtain⟨a,xs,rfl,_⟩:=h1;cases f
 | .tp ts,.vl v,x,h1,h2=>by
  rw[A8] at h1;rw[A8] at h2;obtain⟨rfl,f⟩:=h2;obtain⟨a,xs,rfl,_⟩:=h1;cases f
 | .ls ts,.ls us,x,h1,h2=>by
  rw[A8] at h1;rw[A8] at h2;obtain⟨a,xs,rfl,hx,hs⟩:=h1;obtain⟨b,ys,e,hy,hu⟩:=h2;cases e;have e:=I.list_inj hx hy;subst e;rw[A3];exact reps_same I ts us xs hs hu
 | .tp ts,.tp us,x,h1,h2=>by
  rw[A8] at h1;rw[A8] at h2;obtain⟨a,xs,rfl,hx,hs⟩:=h1;obtain⟨b,ys,e,hy,hu⟩:=h2;cases e;have e:=I.tuple_inj hx hy;subst e;rw[A3];exact reps_same I ts us xs hs hu
 | .ls ts,.tp us,x,h1,h2=>by
  rw[A8] at h1;rw[A8] at h2;obtain⟨a,xs,rfl,hx,hs⟩:=h1;obtain⟨b,ys,e,hy,hu⟩:=h2;cases e;exact(I.apart hx hy).elim
 | .tp ts,.ls us,x,h1,h2=>by
  rw[A8] at h1;rw[A8] at h2;obtain⟨a,xs,rfl,hx,hs⟩:=h1;obtain⟨b,ys,e,hy,hu⟩:=h2;cases e;exact(I.apart hy hx).elim
theorem reps_same (I:f6 X pins σ H s):∀ (ts us:List Tr) (xs:List V),Reps X.K H xs ts->Reps X.K H xs us->eqTs ts us=true
 | [],[],_,_,_=>by rw[eqTs]
 | [],u :: us,xs,h1,h2=>by
  rw[Reps] at h1;rw[Reps] at h2;obtain⟨x,r,e,_⟩:=h2;rw[h1] at e;cases e
 | t :: ts,[],xs,h1,h2=>by
  rw[Reps] at h1;rw[Reps] at h2;obtain⟨x,r,e,_⟩:=h1;rw[h2] at e;cases e
 | t :: ts,u :: us,xs,h1,h2=>by
  rw[Reps] at h1;rw[Reps] at h2;obtain⟨x,r,rfl,hx,hr⟩:=h1;obtain⟨y,q,e,hy,hq⟩:=h2;cases e;rw[eqTs,qo I t u x hx hy,reps_same I ts us r hr hq];rfl
end
theorem yqM {A:Around}{y x:V}{u v:Value}(ry:g9 y u)(rx:g9 x v)(fy:O7 y=true)(fx:O7 x=true):SeqAt.RcAt A s u v (K9 y x):=by
 cases y with
 | non=>
  cases ry;cases x with
  | non=>cases rx;exact SeqAt.RcAt.none_none
  | bl b=>cases rx;exact SeqAt.RcAt.none_bool b
  | int b=>obtain⟨t,rfl⟩:=rx;exact SeqAt.RcAt.none_int b t
  | str b=>obtain⟨t,rfl⟩:=rx;exact SeqAt.RcAt.none_str b t
  | _=>exact absurd (show false=true from fx) qN
 | bl a=>
  cases ry;cases x with
  | non=>cases rx;exact SeqAt.RcAt.bool_none a
  | bl b=>cases rx;exact SeqAt.RcAt.bool_bool a b
  | int b=>obtain⟨t,rfl⟩:=rx;exact SeqAt.RcAt.bool_int a b t
  | str b=>obtain⟨t,rfl⟩:=rx;exact SeqAt.RcAt.bool_str a b t
  | _=>exact absurd (show false=true from fx) qN
 | int a=>
  obtain⟨t',rfl⟩:=ry;cases x with
  | non=>cases rx;exact SeqAt.RcAt.int_none a t'
  | bl b=>cases rx;exact SeqAt.RcAt.int_bool a t' b
  | int b=>obtain⟨t,rfl⟩:=rx;exact SeqAt.RcAt.int_int a t' b t
  | str b=>obtain⟨t,rfl⟩:=rx;exact SeqAt.RcAt.int_str a t' b t
  | _=>exact absurd (show false=true from fx) qN
 | str a=>
  obtain⟨t',rfl⟩:=ry;cases x with
  | non=>cases rx;exact SeqAt.RcAt.str_none a t'
  | bl b=>cases rx;exact SeqAt.RcAt.str_bool a t' b
  | int b=>obtain⟨t,rfl⟩:=rx;exact SeqAt.RcAt.str_int a t' b t
  | str b=>obtain⟨t,rfl⟩:=rx;exact SeqAt.RcAt.str_str a t' b t
  | _=>exact absurd (show false=true from fx) qN
 | _=>exact absurd (show false=true from fy) qN
theorem Gm {A:Around}{y x:V}{u v:Value}(ry:g9 y u)(rx:g9 x v)(fy:O7 y=true)(fx:O7 x=true):SeqAt.RcNeAt A s u v (!K9 y x):=by
 cases y with
 | non=>
  cases ry;cases x with
  | non=>cases rx;exact SeqAt.RcNeAt.none_none
  | bl b=>cases rx;exact SeqAt.RcNeAt.none_bool b
  | int b=>obtain⟨t,rfl⟩:=rx;exact SeqAt.RcNeAt.none_int b t
  | str b=>obtain⟨t,rfl⟩:=rx;exact SeqAt.RcNeAt.none_str b t
  | _=>exact absurd (show false=true from fx) qN
 | bl a=>
  cases ry;cases x with
  | non=>cases rx;exact SeqAt.RcNeAt.bool_none a
  | bl b=>cases rx;exact SeqAt.RcNeAt.bool_bool a b
  | int b=>obtain⟨t,rfl⟩:=rx;exact SeqAt.RcNeAt.bool_int a b t
  | str b=>obtain⟨t,rfl⟩:=rx;exact SeqAt.RcNeAt.bool_str a b t
  | _=>exact absurd (show false=true from fx) qN
 | int a=>
  obtain⟨t',rfl⟩:=ry;cases x with
  | non=>cases rx;exact SeqAt.RcNeAt.int_none a t'
  | bl b=>cases rx;exact SeqAt.RcNeAt.int_bool a t' b
  | int b=>obtain⟨t,rfl⟩:=rx;exact SeqAt.RcNeAt.int_int a t' b t
  | str b=>obtain⟨t,rfl⟩:=rx;exact SeqAt.RcNeAt.int_str a t' b t
  | _=>exact absurd (show false=true from fx) qN
 | str a=>
  obtain⟨t',rfl⟩:=ry;cases x with
  | non=>cases rx;exact SeqAt.RcNeAt.str_none a t'
  | bl b=>cases rx;exact SeqAt.RcNeAt.str_bool a t' b
  | int b=>obtain⟨t,rfl⟩:=rx;exact SeqAt.RcNeAt.str_int a t' b t
  | str b=>obtain⟨t,rfl⟩:=rx;exact SeqAt.RcNeAt.str_str a t' b t
  | _=>exact absurd (show false=true from fx) qN
 | _=>exact absurd (show false=true from fy) qN
def Vq (A:Around)(s:Shared)(ts us:List Tr)(its its':List Value):Prop :=
 ∀ j (h1:j < its.toArray.size) (h2:j < its'.toArray.size),SeqAt.EqAt A s its.toArray[j] its'.toArray[j] (lY ts us j)
theorem ypw {n m:Nat}{e:Nat->Bool}{ts us:List Tr}(hn:n=ts.length)(hm:m=us.length)(he:e=lY ts us):((List.range (min n m)).all e&&n==m)=eqTs ts us:=by
 subst hn hm he;by_cases h:ts.length=us.length
 ·rw[uE h,h,Nat.min_self];simp
 ·rw[xR h];have:(ts.length==us.length)=false:=by simpa using h
  rw[this,Bool.and_false]
theorem yrD (I:f6 X pins σ H s)(A:Around)(t u:Tr)(x y:V)(v w:Value)(hx:A8 X.K H x t)(hy:A8 X.K H y u)(rx:g9 x v)(ry:g9 y w)(hu:A.units+Y6 t < cLine)(hu':A.units+Y6 u < cLine)
  (ih:∀ ts us xs ys its its',(t=.ls ts/\u=.ls us∨t=.tp ts/\u=.tp us)->Reps X.K H xs ts->Reps X.K H ys us->f8 xs its->f8 ys its'->Vq A.in1 s ts us its its') :
  SeqAt.RcAt A s v w (A3 t u)/\SeqAt.RcNeAt A s v w (!A3 t u):=by
 cases t with
 | vl p=>
  rw[A8] at hx;obtain⟨rfl,fx⟩:=hx;cases u with
  | vl q=>
   rw[A8] at hy;obtain⟨rfl,fy⟩:=hy;rw[A3];exact⟨yqM rx ry fx fy,Gm rx ry fx fy⟩
  | ls us=>
   rw[A8] at hy;obtain⟨b,ys,rfl,hb,_⟩:=hy;cases ry;obtain⟨its,_,p,_⟩:=I.list hb;have hA:A.units < cLine:=by omega
   rw[ykc];cases x with
   | non=>cases rx;exact⟨.none_list p.isList hA,.none_list p.isList hA⟩
   | bl c=>cases rx;exact⟨.bool_list c p.isList hA,.bool_list c p.isList hA⟩
   | int c=>obtain⟨t,rfl⟩:=rx;exact⟨.int_list c t p.isList hA,.int_list c t p.isList hA⟩
   | str c=>obtain⟨t,rfl⟩:=rx;exact⟨.str_list c t p.isList hA,.str_list c t p.isList hA⟩
   | _=>exact absurd (show false=true from fx) qN
  | tp us=>
   rw[A8] at hy;obtain⟨b,ys,rfl,hb,_⟩:=hy;cases ry;obtain⟨its,_,p,_⟩:=I.tuple hb;have hA:A.units < cLine:=by omega
   rw[Uu];cases x with
   | non=>cases rx;exact⟨.none_tuple p hA,.none_tuple p hA⟩
   | bl c=>cases rx;exact⟨.bool_tuple c p hA,.bool_tuple c p hA⟩
   | int c=>obtain⟨t,rfl⟩:=rx;exact⟨.int_tuple c t p hA,.int_tuple c t p hA⟩
   | str c=>obtain⟨t,rfl⟩:=rx;exact⟨.str_tuple c t p hA,.str_tuple c t p hA⟩
   | _=>exact absurd (show false=true from fx) qN
 | ls ts=>
  rw[A8] at hx;obtain⟨a,xs,rfl,ha,hs⟩:=hx;cases rx;obtain⟨its,vr,p,_⟩:=I.list ha;have hA:A.units < cLine:=by omega
  cases u with
  | vl q=>
   rw[A8] at hy;obtain⟨rfl,fy⟩:=hy;rw[yk4];cases y with
   | non=>cases ry;exact⟨.list_none p.isList hA,.list_none p.isList hA⟩
   | bl c=>cases ry;exact⟨.list_bool c p.isList hA,.list_bool c p.isList hA⟩
   | int c=>obtain⟨t,rfl⟩:=ry;exact⟨.list_int c t p.isList hA,.list_int c t p.isList hA⟩
   | str c=>obtain⟨t,rfl⟩:=ry;exact⟨.list_str c t p.isList hA,.list_str c t p.isList hA⟩
   | _=>exact absurd (show false=true from fy) qN
  | ls us=>
   rw[A8] at hy;obtain⟨b,ys,rfl,hb,hs'⟩:=hy;cases ry;obtain⟨its',vr',p',_⟩:=I.list hb;have l1:its.toArray.size=ts.length:=by rw[qZ,<- vr.length,hs.length]
   have l2:its'.toArray.size=us.length:=by rw[qZ,<- vr'.length,hs'.length]
   rw[A3];by_cases hl:ts.length=us.length
   ·have hsz:its.toArray.size=its'.toArray.size:=by rw[l1,l2,hl]
    have q:=ih ts us xs ys its its' (.inl ⟨rfl,rfl⟩) hs hs' vr vr';rw[uE hl,<- l1];exact⟨.lists p.isList p'.isList hsz hA q,.lists p.isList p'.isList hsz hA q⟩
   ·have hsz:(its.toArray.size != its'.toArray.size)=true:=by rw[l1,l2];simpa using hl
    rw[xR hl];exact⟨.lists_lengths p.isList p'.isList hsz hA,.lists_lengths p.isList p'.isList hsz hA⟩
  | tp us=>
   rw[A8] at hy;obtain⟨b,ys,rfl,hb,hs'⟩:=hy;cases ry;obtain⟨its',vr',p',_⟩:=I.tuple hb;rw[Wq];exact⟨.list_tuple p.isList p' hA,.list_tuple p.isList p' hA⟩
 | tp ts=>
  rw[A8] at hx;obtain⟨a,xs,rfl,ha,hs⟩:=hx;cases rx;obtain⟨its,vr,p,_⟩:=I.tuple ha;have hA:A.units < cLine:=by omega
  cases u with
  | vl q=>
   rw[A8] at hy;obtain⟨rfl,fy⟩:=hy;rw[Yv];cases y with
   | non=>cases ry;exact⟨.tuple_none p hA,.tuple_none p hA⟩
   | bl c=>cases ry;exact⟨.tuple_bool c p hA,.tuple_bool c p hA⟩
   | int c=>obtain⟨t,rfl⟩:=ry;exact⟨.tuple_int c t p hA,.tuple_int c t p hA⟩
   | str c=>obtain⟨t,rfl⟩:=ry;exact⟨.tuple_str c t p hA,.tuple_str c t p hA⟩
   | _=>exact absurd (show false=true from fy) qN
  | ls us=>
   rw[A8] at hy;obtain⟨b,ys,rfl,hb,hs'⟩:=hy;cases ry;obtain⟨its',vr',p',_⟩:=I.list hb;rw[ylu];exact⟨.tuple_list p p'.isList hA,.tuple_list p p'.isList hA⟩
  | tp us=>
   rw[A8] at hy;obtain⟨b,ys,rfl,hb,hs'⟩:=hy;cases ry;obtain⟨its',vr',p',_⟩:=I.tuple hb;have l1:its.toArray.size=ts.length:=by rw[qZ,<- vr.length,hs.length]
   have l2:its'.toArray.size=us.length:=by rw[qZ,<- vr'.length,hs'.length]
   have q:=ih ts us xs ys its its' (.inr ⟨rfl,rfl⟩) hs hs' vr vr';rw[A3,<- ypw l1 l2 rfl];exact⟨.tuples p p' hA q,.tuples p p' hA q⟩
theorem Zb (I:f6 X pins σ H s):∀ (n:Nat) (A:Around) (t u:Tr) (x y:V) (v w:Value),Y6 t<=n->Y6 u<=n->A8 X.K H x t->A8 X.K H y u->g9 x v->g9 y w->A.units+n < cLine ->
  SeqAt.EqAt A s v w (A3 t u)/\SeqAt.RcAt A s v w (A3 t u)/\SeqAt.RcNeAt A s v w (!A3 t u):=by
 intro n
 induction n using Nat.strongRecOn with
 | _ n rec=>
  intro A t u x y v w ht hu hx hy rx ry hA;have ih:∀ ts us xs ys its its',(t=.ls ts/\u=.ls us∨t=.tp ts/\u=.tp us)->Reps X.K H xs ts->Reps X.K H ys us->f8 xs its->f8 ys its'->Vq A.in1 s ts us its its':=by
   intro ts us xs ys its its' htu h1 h2 r1 r2 j j1 j2;have d:deps ts+1<=n/\deps us+1<=n:=by
    rcases htu with ⟨rfl,rfl⟩ | ⟨rfl,rfl⟩<;>exact⟨ht,hu⟩
   cases n with
   | zero=>omega
   | succ m=>
    rw[qZ] at j1 j2;have k1:j < xs.length:=by rw[r1.length];exact j1
    have k2:j < ys.length:=by rw[r2.length];exact j2
    obtain⟨t1,e1,q1⟩:=h1.get (qG k1);obtain⟨t2,e2,q2⟩:=h2.get (qG k2);obtain⟨v1,f1,g1⟩:=r1.get (qG k1);obtain⟨v2,f2,g2⟩:=r2.get (qG k2);have z1:its.toArray[j]=v1:=by
     rw[qG j1] at f1;simpa using f1
    have z2:its'.toArray[j]=v2:=by
     rw[qG j2] at f2;simpa using f2
    have pe:lY ts us j=A3 t1 t2:=by unfold lY;rw[e1,e2]
    rw[z1,z2,pe];exact(rec m (Nat.lt_succ_self m) A.in1 t1 t2 _ _ v1 v2 (by have:=yD e1;omega) (by have:=yD e2;omega) q1 q2 g1 g2 (by show A.units+1+m < cLine;omega)).1
  have rc:=yrD I A t u x y v w hx hy rx ry (by omega) (by omega) ih;refine⟨?_,rc⟩;by_cases fl:O7 x=true/\O7 y=true
  ·cases t with
   | vl p=>
    cases u with
    | vl q=>
     rw[A8] at hx;rw[A8] at hy;obtain⟨rfl,fx⟩:=hx;obtain⟨rfl,fy⟩:=hy;rw[A3];exact Vk rx ry fx fy
    | ls us=>rw[A8] at hy;obtain⟨b,ys,rfl,_⟩:=hy;exact absurd (show false=true from fl.2) qN
    | tp us=>rw[A8] at hy;obtain⟨b,ys,rfl,_⟩:=hy;exact absurd (show false=true from fl.2) qN
   | ls ts=>rw[A8] at hx;obtain⟨b,ys,rfl,_⟩:=hx;exact absurd (show false=true from fl.1) qN
   | tp ts=>rw[A8] at hx;obtain⟨b,ys,rfl,_⟩:=hx;exact absurd (show false=true from fl.1) qN
  ·intro prog w' E Q hq;unfold eqBool;refine wpAny_holding ?_;have nf:∀ b tk,v≠Value.float b tk:=λb tk e=>by
    subst e;cases t with
    | vl p=>
     rw[A8] at hx;obtain⟨rfl,fx⟩:=hx;cases x<;>first | (simp[O7] at fx;done) | (cases rx;done) | (obtain⟨_,z⟩:=rx;cases z;done)
    | ls ts=>rw[A8] at hx;obtain⟨b,ys,rfl,_⟩:=hx;cases rx
    | tp ts=>rw[A8] at hx;obtain⟨b,ys,rfl,_⟩:=hx;cases rx
   refine wpAny_ite_split (λhab=>?_) (λ_=>?_)
   ·have e:=eq_of_beq hab;subst e;have exy:x=y:=rx.inj ry;subst exy;rw[qo I t u x hx hy] at hq;exact wpAny_bind (wpAny_rule (wpAny_pure hq))
   ·have h2:=rc.1 prog w' E (λa s'=>wpAny (model prog w') A (truthOfDropped a) Q E s') (wpAny_truthy_bool hq);cases v with
    | float b tk=>exact absurd rfl (nf b tk)
    | _=>exact wpAny_bind h2
def nV (K:qF):R2:=λx y H Q=>∃ t u,A8 K H x t/\A8 K H y u/\Y6 t<=60/\Y6 u<=60/\Q (.bl (A3 t u)) H
def mD (K:qF):R2:=λx y H Q=>∃ t u,A8 K H x t/\A8 K H y u/\Y6 t<=60/\Y6 u<=60/\Q (.bl (!A3 t u)) H
end
theorem X3 {X:Cx}(hu:X.A.units+64 < cLine):J5 X (compareOp .Eq) (nV X.K):=by
 intro pins s σ H x y v u Q I rx ry h;obtain⟨t,t',h1,h2,d1,d2,q⟩:=h;exact(Zb I 60 X.A t t' x y v u d1 d2 h1 h2 rx ry (by omega)).2.1 _ _ _ _ ⟨.bl _,H,I,rfl,q⟩
theorem bQ {X:Cx}(hu:X.A.units+64 < cLine):J5 X (compareOp .NotEq) (mD X.K):=by
 intro pins s σ H x y v u Q I rx ry h;obtain⟨t,t',h1,h2,d1,d2,q⟩:=h;exact(Zb I 60 X.A t t' x y v u d1 d2 h1 h2 rx ry (by omega)).2.2 _ _ _ _ ⟨.bl _,H,I,rfl,q⟩
end L2
namespace L2
open PySem PySem.Spec PyProof.Rows
def R3 (cells:List (Str×Addr)):List (Str×NameKind)->List (Str×Addr)->List (Str×Addr)
 | [],acc=>acc
 | (n,k) :: r,acc=>match k==.free,cells.lookup n with
  | true,some c=>R3 cells r ((n,c) :: acc)
  | _,_=>R3 cells r acc
theorem YX {scope:Scope}{env:Env}(hf:∀ y∈scope.names,y.2=.free->∃ c,env.cells.lookup y.1=some c):closureFor scope env=pure (R3 env.cells scope.names []):=by
 unfold closureFor;have key:∀ (names:List (Str×NameKind)) (acc:List (Str×Addr)),(∀ y∈names,y.2=.free->∃ c,env.cells.lookup y.1=some c) ->
   (forIn names acc λx r=>match x with | (name,kind)=>if (kind==NameKind.free)=true then do let a ← cellOf env name;pure (ForInStep.yield ((name,a) :: r)) else pure (ForInStep.yield r):Sem _)=pure (R3 env.cells names acc):=by
  intro names
  induction names with
  | nil=>intro acc _;rfl
  | cons y r ih=>
   intro acc h;obtain⟨n,k⟩:=y;rw[List.forIn_cons];have hr:∀ y∈r,y.2=.free->∃ c,env.cells.lookup y.1=some c:=λy hy=>h y (List.mem_cons_of_mem _ hy)
   by_cases hk:k=.free
   ·subst hk;obtain⟨c,hc⟩:=h _ List.mem_cons_self rfl;have e:cellOf env n=pure c:=by unfold cellOf;rw[show env.cells.lookup n=some c from hc]
    simp only[beq_self_eq_true,if_true,e];show(forIn r ((n,c) :: acc) _:Sem _)=_
    rw[ih _ hr];simp only[R3,beq_self_eq_true,show env.cells.lookup n=some c from hc]
   ·have hb:(k==NameKind.free)=false:=by simpa using hk
    simp only[hb,Bool.false_eq_true,if_false];show(forIn r acc _:Sem _)=_
    rw[ih _ hr];simp only[R3,hb]
 exact(congrArg (λm:Sem (List (Str×Addr))=>m >>= λcs=>pure cs) (key scope.names [] hf)).trans rfl
theorem vQ (cells:List (Str×Addr)):∀ (names:List (Str×NameKind)) (acc:List (Str×Addr)) (x:Str) (c:Addr),(x,c)∈R3 cells names acc->(x,c)∈acc∨cells.lookup x=some c
 | [],acc,x,c,h=>.inl h
 | (n,k) :: r,acc,x,c,h=>by
  rw[R3] at h;split at h
  ·rename_i c' h1 h2
   rcases vQ cells r _ x c h with q | q
   ·rcases List.mem_cons.mp q with q | q
    ·cases q;exact .inr h2
    ·exact .inl q
   ·exact .inr q
  ·exact vQ cells r _ x c h
theorem uJ (cells:List (Str×Addr)):∀ (names:List (Str×NameKind)) (acc:List (Str×Addr)) (p:Str×Addr),p∈acc->p∈R3 cells names acc
 | [],acc,p,h=>h
 | (n,k) :: r,acc,p,h=>by
  rw[R3];split
  ·exact uJ cells r _ p (List.mem_cons_of_mem _ h)
  ·exact uJ cells r _ p h
theorem tL (cells:List (Str×Addr)):∀ (names:List (Str×NameKind)) (acc:List (Str×Addr)) (x:Str) (c:Addr),(x,.free)∈names->cells.lookup x=some c->(x,c)∈R3 cells names acc
 | [],acc,x,c,h,_=>by simp at h
 | (n,k) :: r,acc,x,c,h,e=>by
  rw[R3];rcases List.mem_cons.mp h with q | q
  ·cases q;simp only[beq_self_eq_true,e];exact uJ cells r _ _ List.mem_cons_self
  ·split
   ·exact tL cells r _ x c q e
   ·exact tL cells r _ x c q e
theorem Vx:∀ {l:List (Str×Addr)} {x:Str} {c:Addr},(x,c)∈l->∃ c',l.lookup x=some c'
 | [],_,_,h=>by simp at h
 | (n,d) :: r,x,c,h=>by
  rw[List.lookup_cons];cases q:x==n with
  | true=>exact⟨d,rfl⟩
  | false=>
   rcases List.mem_cons.mp h with z | z
   ·cases z;simp at q
   ·exact Vx z
theorem Vv:∀ {l:List (Str×Addr)} {x:Str} {c:Addr},l.lookup x=some c->(x,c)∈l
 | [],_,_,h=>by simp at h
 | (n,d) :: r,x,c,h=>by
  rw[List.lookup_cons] at h;cases q:x==n with
  | true=>
   rw[q] at h;have e:x=n:=by simpa using q
   cases h;rw[e];exact List.mem_cons_self
  | false=>
   rw[q] at h;exact List.mem_cons_of_mem _ (Vv h)
theorem jB {cells:List (Str×Addr)}{names:List (Str×NameKind)}{x:Str}{c:Addr}(h:(R3 cells names []).lookup x=some c):cells.lookup x=some c:=by
 rcases vQ cells names [] x c (Vv h) with q | q
 ·simp at q
 ·exact q
theorem Ke {cells:List (Str×Addr)}{names:List (Str×NameKind)}{x:Str}{c:Addr}(h:(x,.free)∈names)(e:cells.lookup x=some c):(R3 cells names []).lookup x=some c:=by
 obtain⟨c',q⟩:=Vx (tL cells names [] x c h e);have:=jB q;rw[e] at this;cases this;exact q
theorem yiz {prog:Program}{w:World}{A:Around}{R:Result->Shared->Prop}{s:Shared}{elt:Expr}{gs:List Comprehension}{scope:Scope}{pos:Pos}{it acc:Value}{env:Env}(St:Nat->Shared->Prop)
  (one:∀ n s,St n s->wpAny (model prog w) A (compTurn (.ListComp elt gs scope pos) 0 it acc env) (λf s'=>(∃ r,f=.done r/\R (.ok r) s')∨(f=.again (.compLoop (.ListComp elt gs scope pos) 0 it acc env)/\∃ m,m < n/\St m s')) (notedBy (model prog w) A env λe s'=>R (.error e) s') s)
  (n:Nat) (h:St n s):codeAny (model prog w) A (.compLoop (.ListComp elt gs scope pos) 0 it acc env) R s :=
 codeAny_loop rfl St (λn s hn=>(wpAny_noted (t6 (one n s hn) λf s' z=>by
  rcases z with ⟨r,e,z⟩ | ⟨e,z⟩<;>subst e
  ·exact z
  ·exact⟨rfl,z⟩):wpAny (model prog w) A ((compTurn (.ListComp elt gs scope pos) 0 it acc env).onRaise _) _ _ s)) n h
def U8 (X:Cx)(scope:Scope)(NB:List Str)(C:Addr)(s:Shared)(H:Hp)(ex:List Addr):Cx where
 prog:=X.prog
 w:=X.w
 K:=X.K
 mg:=X.mg
 base:=X.base
 A:=X.A
 N:=NB
 s₀:=s
 H₀:=H
 env:=compEnvC scope (R3 X.env.cells scope.names []) C X.env
 outer:=X.stack
 stack:=X.stack
 ex:=ex
 fn:=λ_=>false
 calm:=X.calm
 pn:=X.pn
 xe:=λ_ _=>False
def bN (cap:List (Option Nat))(σ:St):St:=cap.map λo=>match o with
 | none=>none
 | some j=>(σ[j]?).getD none
structure C7 (X:Cx) (scope:Scope) (NB:List Str) (cap:List (Option Nat)):Prop where
 kind:scope.kind=.function
 cell:∀ y∈scope.names,y.2≠.cell
 names:∀ y∈scope.names,y.2=.local->scope.names.lookup y.1=some .local
 free:∀ y∈scope.names,y.2=.free->(X.env.kindOf y.1=some .cell∨X.env.kindOf y.1=some .free)
 len:cap.length=NB.length
 caps:∀ (i:Nat) (x:Str) (j:Nat),NB[i]?=some x->cap[i]?=some (some j)->X.N[j]?=some x/\(x,NameKind.free)∈scope.names/\((relabel scope X.env).names.lookup x=some .cell∨(relabel scope X.env).names.lookup x=some .free)
theorem Vt:∀ {l:List (Str×NameKind)} {x:Str} {c:NameKind},l.lookup x=some c->(x,c)∈l
 | [],_,_,h=>by simp at h
 | (n,d) :: r,x,c,h=>by
  rw[List.lookup_cons] at h;cases q:x==n with
  | true=>
   rw[q] at h;have e:x=n:=by simpa using q
   cases h;rw[e];exact List.mem_cons_self
  | false=>
   rw[q] at h;exact List.mem_cons_of_mem _ (Vt h)
theorem Gu {scope:Scope}{env:Env}{x:Str}(hc:∀ y∈scope.names,y.2≠.cell)(h:(relabel scope env).names.lookup x=some .cell∨(relabel scope env).names.lookup x=some .free):(x,NameKind.free)∈scope.names:=by
 have key:∀ k,(relabel scope env).names.lookup x=some k->(k=.cell∨k=.free)->(x,NameKind.free)∈scope.names:=by
  intro k hk hkk;obtain⟨⟨n,k0⟩,hm,e⟩:=List.mem_map.mp (Vt hk);dsimp only at e;split at e
  ·rename_i c
   cases e;have:k0=.free:=by
    simp only[Bool.and_eq_true] at c;simpa using c.1.1
   subst this;exact hm
  ·cases e;rcases hkk with rfl | rfl
   ·exact absurd rfl (hc _ hm)
   ·exact hm
 rcases h with h | h
 ·exact key _ h (.inl rfl)
 ·exact key _ h (.inr rfl)
section
variable {X:Cx} {pins:List (Addr×Obj)} {σ:St} {H:Hp} {s:Shared} {scope:Scope} {NB:List Str} {cap:List (Option Nat)}
theorem C7.closure (B:C7 X scope NB cap)(ok:X.Ok):closureFor scope X.env=pure (R3 X.env.cells scope.names []):=YX λy hy e=>ok.has y.1 (B.free y hy e)
theorem ykv {h₁:Heap}{m:Str->Option Value}{fp:List Addr}{tk:Nat}(B:C7 X scope NB cap)(I:f6 X pins σ H s)(hk:∀ b o,s.heap.get? b=some o->h₁.get? b=some o)(hn:h₁.Ns s.heap.objs.size m)
  (hf:∀ b∈fp,R0 X pins H b) (hlt:∀ b∈fp,b < s.heap.objs.size):f6 (U8 X scope NB s.heap.objs.size s H fp) pins (bN cap σ) H { s with heap:=h₁,toks:=tk }:=by
 have ltC:∀ {b:Addr} {o:Obj},s.heap.get? b=some o->b≠s.heap.objs.size:=λe=>Nat.ne_of_lt (Heap.lt_size e)
 refine⟨⟨I.ok.mod,B.kind,I.ok.glob,I.ok.blt,qR _,λx y c h1 h2=>I.ok.inj x y c (jB h1) (jB h2),λx hx=>?_,λx c h _=>absurd h (by simp[U8]),I.ok.hd,I.ok.frames,.inl rfl,λb hb=>⟨Nat.ne_of_lt (hlt b hb),λx c e=>(hf b hb).2.2.2.2.1 x c (jB e)⟩,
  I.bs,Nat.le_trans I.ok.bsz I.sz,λb o e hb=>?_,λb hb hs=>?_,I.stack,I.stkFree⟩,rfl,I.bare,Un.kept hk,⟨m,hn,λi x v e1 e2 e3=>?_⟩,λx c e=>?_,I.hok.fresh (qR _),λx c e=>I.freeC x c (jB e),λp hp=>?_,I.hok.kept hk,?_⟩
 ·have hm:=Gu B.cell hx;obtain⟨c,hc⟩:=I.ok.has x (B.free _ hm rfl);exact⟨c,Ke hm hc⟩
 ·rcases(hf b hb).2.2.2.1 with z | z
  ·exact I.ok.noex b o e z
  ·exact absurd (Nat.lt_of_lt_of_le (Heap.lt_size e) (Nat.le_trans I.ok.bsz z)) (Nat.lt_irrefl _)
 ·rcases List.mem_cons.mp (I.stkSub b hs) with z | z
  ·exact(hf b hb).2.1 z
  ·exact(hf b hb).2.2.1 z
 ·have e1:NB[i]?=some x:=e1;have e2:(bN cap σ)[i]?=some (some v):=e2;unfold bN at e2;rw[qm] at e2;cases q:cap[i]? with
  | none=>rw[q] at e2;cases e2
  | some o=>
   rw[q] at e2;cases o with
   | none=>cases e2
   | some j=>
    have e2':(σ[j]?).getD none=some v:=by simpa using e2
    have e2'':σ[j]?=some (some v):=by
     cases z:σ[j]? with
     | none=>rw[z] at e2';cases e2'
     | some y=>rw[z] at e2';rw[show y=some v from e2']
    obtain⟨hN,hm,hk2⟩:=B.caps i x j e1 q;obtain⟨m',hn',hl⟩:=I.loc;have cP:=B.free _ hm rfl;obtain⟨u,ru,lk⟩:=hl j x v hN e2'' (.inr cP);refine⟨u,ru,?_⟩;rcases lk with ⟨kl,_⟩ | ⟨_,c,hc,hcell⟩
    ·rcases cP with z | z<;>(rw[z] at kl;cases kl)
    ·obtain⟨oc,ho,hd⟩:=hcell;exact .inr ⟨hk2,c,Ke hm hc,oc,hk c oc ho,hd⟩
 ·obtain⟨v,oc,ho,hd⟩:=I.cell x c (jB e);exact⟨v,oc,hk c oc ho,hd⟩
 ·obtain⟨e,n,ne,nf,d⟩:=I.pin p hp;refine⟨hk _ _ e,n,ltC e,λz=>?_,d⟩;rcases List.mem_cons.mp (I.stkSub p.1 z) with z | z
  ·exact ne z
  ·exact nf z
 ·unfold bN;rw[qM];exact B.len
def gL (X:Cx)(ifs:List Expr)(t:TT):Prop :=
 ∀ (pins:List (Addr×Obj)) (s:Shared) (σ:St) (H:Hp) (Q:Bool->Hp->Prop),f6 X pins σ H s->t σ H Q ->
  wpAny (model X.prog X.w) X.A (forIn ifs true λc r=>if r=true then do let ok ← isTrue c X.env (eval c X.env);pure (ForInStep.yield ok) else pure (ForInStep.yield r)) (TP X pins σ Q) X.xe s
def Y4:TT:=λ_ H Q=>Q true H
theorem L8:gL X [] Y4:=λpins s σ H Q I h=>wpAny_tests_nil ⟨H,I,h⟩
theorem ymK {c:Expr}{t:TT}(h:PT X c t):gL X [c] t:=λpins s σ H Q I q=>wpAny_tests_one (h pins s σ H Q I q)
def T9 (J:It)(g:TG)(tc:TT)(te:TE)(D:Addr)(Fin:Hp->Prop)(W:Nat->Nat->St->Hp->Prop):Prop :=
 ∀ i m σ H,W i m σ H->(J.stop i H/\Fin H)∨(J.go i H/\∃ N:St->Hp->Prop,(∀ σ' H',N σ' H'->∃ m',m' < m/\W (i+1) m' σ' H') /\
  ∀ x H',J.yld i H x H'->g x σ H' fun σ2 H2=>tc σ2 H2 λb H3=>if b=true then te σ2 H3 λy H4=>∃ ys,H4 D=some (.lst ys)/\ys.length < sizeLine/\N σ2 (upd H4 D (.lst (ys++[y]))) else N σ2 H3)
def dQ (wi:TI)(cap:List (Option Nat))(g:TG)(tc:TT)(te:TE):TE:=fun σ H Q=>wi σ H λJ H1=>∀ D,H1 D=none ->
 ∃ W:Nat->Nat->St->Hp->Prop,(∃ m,W 0 m (bN cap σ) (upd H1 D (.lst [])))/\T9 J g tc te D (λH'=>Q (.ref D) H') W
def vO (i:Nat)(te:TE):TS:=λD σ H=>te σ H λx H1=>D.nx (σ.set i (some x)) H1
end
end L2
namespace L2
section
open PySem PySem.SeqAt
open AutoSeq1 (wpAny_loadPart')
open MeetsSeq MeetsSeq2 MeetsSeq3 SeqRoads2
end
open PySem PySem.Spec PyProof.Rows
section
variable {X:Cx}
theorem WJ (bs:List Bool):(List.range bs.length).all (λi=>(bs[i]?).getD true)=bs.all id:=by
 induction bs with
 | nil=>rfl
 | cons b r ih=>
  rw[qC,List.range_succ_eq_map,List.all_cons,List.all_map,List.all_cons,<- ih];rfl
def oM (K:qF):List V->Hp->VK->Prop:=λxs H Q=>∃ (p:Addr) (bs:List Bool),xs=[.ref p]/\d0 K H p (bs.map V.bl)/\Q (.bl (bs.all id)) H
theorem gA (hc:X.calm=true):P7 X (.builtin "all") (oM X.K):=by
 intro pins s σ H xs us Q I r h;obtain⟨p,bs,rfl,hq,q⟩:=h;obtain⟨u,rfl,ru⟩:=fQ r;cases ru;obtain⟨its,rv,pl,hz⟩:=I.list hq;have hlt:p < s.heap.objs.size:=by obtain⟨_,e,_⟩:=pl.isList;exact Heap.lt_size e
 refine call_all_walk (wpAny_pyIter_list pl.isList ?_);refine⟨s.heap.objs.size,_,_,_,_,_,(λi=>(bs[i]?).getD true),rfl,Walks.list (A:=X.A.in1) (I.ok.hd hc) s.heap.objs.size p (Nat.ne_of_lt hlt) its.toArray,⟨⟨_,Heap.get?_push_size _ rfl,rfl,rfl⟩,pl.isList.push _⟩,?_,?_⟩
 ·intro i v s' Q' E' hP hQ';have hv:its[i]?=some v:=by simpa using hP
  have hi:i < its.length:=(qE hv).1;have hb:i < bs.length:=by
   have:=rv.length;rw[qM] at this;omega
  obtain⟨w',e',r'⟩:=rv.get (x:=.bl bs[i]) (i:=i) (by rw[qm,qG hb];rfl);rw[e'] at hv;cases hv;cases r';have hQ2:Q' ((bs[i]?).getD true) s':=hQ';rw[qG hb] at hQ2;exact wpAny_truthy_bool hQ2
 ·intro h' tk hk;have e:(List.range its.toArray.size).all (λi=>(bs[i]?).getD true)=bs.all id:=by
   have:=rv.length;rw[qM] at this;rw[qZ,<- this];exact WJ bs
  rw[e];refine⟨.bl _,H,I.kept (t':=tk) λb o e=>hk b o ?_ (Heap.get?_push_of_some _ e),rfl,q⟩;intro z;have:b=s.heap.objs.size:=by simpa using z
  exact absurd (Heap.lt_size e) (by rw[this];exact Nat.lt_irrefl _)
def iC (K:qF)(a:Addr):It :=
 ⟨λi H=>∃ xs x,d0 K H a xs/\xs[i]?=some x,λi H x H'=>∃ p v,x=.ref p/\H p=none/\H'=upd H p (.tup [.int (i:Nat),v])/\∀ xs,d0 K H a xs->xs[i]?=some v,λi H=>∃ xs,d0 K H a xs/\xs.length<=i⟩
theorem ykM {P:Program}{w:World}{K:qF}{elts:List Expr}{x1}{tp:Pos}(a e it:Addr)(hne:e≠it):eG P w K (.Tuple elts x1 tp) (iC K a) [e,it] e (λi h=>∃ old,IsEnum h e it (i:Nat) old/\h.IsListIter it a i) where
 mem:=by simp
 obj:=λi h st b hb=>by
  obtain⟨old,st1,st2⟩:=st;rcases List.mem_cons.mp hb with rfl | hb
  ·exact⟨_,st1,λv z=>by cases z⟩
  ·have e':b=it:=by simpa using hb
   subst e';obtain⟨o,eo,c,d⟩:=st2;exact⟨o,eo,λv z=>by rw[d] at z;cases z⟩
 keep:=λi h h' st k=>by
  obtain⟨old,st1,st2⟩:=st;exact⟨old,k e (by simp) _ st1,st2.at λo eo=>k it (by simp) o eo⟩
 item:=by
  intro X hP hw hK hc i pins s σ H E I hf st hg;subst hP hw hK;obtain⟨old,st1,st2⟩:=st;obtain⟨xs,x,hq,hx⟩:=hg;obtain⟨its,rv,p,hz⟩:=I.list hq;obtain⟨u,hu,ru⟩:=rv.get hx;obtain⟨f0,f1,f2,f3,f4,f5⟩:=hf e (by simp);obtain⟨g0,g1,g2,g3,g4,g5⟩:=hf it (by simp);have hel:e < s.heap.objs.size:=Heap.lt_size st1;refine wpAny_pyNext_enum_item st1 st2 p.isList (x:=u) (by simpa using hu) hne λh' heo hit' ht' hz' hk'=>?_
  refine⟨.ref s.heap.objs.size,rfl,wpAny_letOwnedTupleGo_enum heo λh2 he2 sb2=>?_⟩;have sb2:Heap.SameBut e h' h2:=sb2;have fr:H s.heap.objs.size=none:=I.hok.fresh (qR _);have kp:∀ b o,b≠e->b≠it->s.heap.get? b=some o->h2.get? b=some o:=λb o h1 h3 h4=>(sb2.2 b h1).trans (hk' b o h1 h3 h4)
  have tne:∀ b u,H b=some u->b≠e/\b≠it:=λb u hb=>⟨λz=>(by rw[z,f0] at hb;cases hb),λz=>(by rw[z,g0] at hb;cases hb)⟩
  have ltp:∀ {b:Addr} {o:Obj},s.heap.get? b=some o->b≠s.heap.objs.size:=λh=>Nat.ne_of_lt (Heap.lt_size h)
  refine⟨.ref s.heap.objs.size,upd H s.heap.objs.size (.tup [.int (i:Nat),x]),?_,rfl,⟨_,x,rfl,fr,rfl,λys hy=>by rw[I.list_inj hy hq];exact hx⟩,⟨u,?_,?_⟩,λb hb=>?_⟩
  ·refine f6.step (s:=s) (h':=h2) (g':=s.gens) (d':=s.drawn) (t':=s.toks+1) (ch:=[e,it]) I (λb hb=>?_) (λb o _ _ hcn he _=>kp b o (λz=>hcn (by simp[z])) (λz=>hcn (by simp[z])) he)
    (λb o _ _ hcn he _=>⟨o.slots,kp b o (λz=>hcn (by simp[z])) (λz=>hcn (by simp[z])) he⟩) (λb o _ he hn=>by rw[u6 (ltp he)];exact hn) (λb o hcn he=>⟨o,kp b o (λz=>hcn (by simp[z])) (λz=>hcn (by simp[z])) he⟩)
    (λb ys hb=>by rw[u6 (G8 hb fr)];exact hb) (λb o ys hb=>by rw[u6 (G8 hb fr)];exact hb) (λb ps hb=>⟨#[],by rw[u6 (G8 hb fr),hb];simp⟩) (λm hm=>?_) (λb ob hb=>?_) I.bare
   ·rcases List.mem_cons.mp hb with rfl | hb
    ·exact⟨f3,f1,f4,f5⟩
    ·have e':b=it:=by simpa using hb
     subst e';exact⟨g3,g1,g4,g5⟩
   ·obtain⟨o,es,ep,ho,r⟩:=hm;exact⟨o,es,ep,kp _ o (Ne.symm f1) (Ne.symm g1) ho,r⟩
   ·by_cases hbp:b=s.heap.objs.size
    ·subst hbp;rw[f9] at hb;cases hb;refine⟨by show 2<=sizeLine;decide,[.int (i:Nat) s.toks,u],.cons ⟨_,rfl⟩ (.cons ru .nil),_,(sb2.2 _ (Nat.ne_of_gt hel)).trans ht',rfl,_,rfl⟩
    ·rw[u6 hbp] at hb;refine(I.hok b ob hb).stay (λc v hcv q=>?_) (λc hc'=>by rw[u6 (G8 hc' fr)];exact hc') λc ys hc'=>by rw[u6 (G8 hc' fr)];exact hc'
     rcases hcv with z | z
     ·rw[z] at q |-;exact kp b v (tne b ob hb).1 (tne b ob hb).2 q
     ·exact kp c v (tne c _ z).1 (tne c _ z).2 q
  ·have:((i:Int)+1)=((i+1:Nat):Int):=by omega
   rw[<- this];exact he2
  ·exact hit'.extBut sb2.extBut (Ne.symm hne)
  ·have hbl:b≠s.heap.objs.size:=by
    rcases List.mem_cons.mp hb with rfl | hb
    ·exact Nat.ne_of_lt hel
    ·have e':b=it:=by simpa using hb
     subst e';obtain⟨o,eo,_⟩:=st2;exact Nat.ne_of_lt (Heap.lt_size eo)
   rw[u6 hbl];exact(hf b hb).1
 done:=by
  intro X hP hw hK hc i pins s σ H E I hf st hg;subst hP hw hK;obtain⟨old,st1,st2⟩:=st;obtain⟨xs,hq,hx⟩:=hg;obtain⟨its,rv,p,hz⟩:=I.list hq;obtain⟨f0,f1,f2,f3,f4,f5⟩:=hf it (by simp);have hl:=rv.length;exact wpAny_pyNext_enum_end (I.ok.hd hc) st1 st2 p.isList (by simp;omega) λh' eb=>⟨rfl,I.turned (t':=s.toks) (λb o hb e=>eb b o hb e) f0 f1 f3 f4 f5⟩
 self:=λ_ _ _ _ _ st h=>by
  obtain⟨old,st1,_⟩:=st;exact wpAny_pyIter_enum st1 h
def vB (K:qF)(ta:TA):TI:=fun σ H R=>ta σ H λvs H1=>∃ a,vs=[.ref a]/\(∃ xs,d0 K H1 a xs)/\R (iC K a) H1
theorem yoA {elts:List Expr}{x1}{tp:Pos}{a:Expr}{ta:TA}{p pos:Pos}(hg:Gl X "enumerate")(hm:X.mg "enumerate"=none)(ha:PA X [a] ta)(hs:starEach [a] X.env=[(false,eval a X.env)]:=by rfl) :
  PI X (.Tuple elts x1 tp) (.Call (.Name "enumerate" p) [a] [] pos) (vB X.K ta):=by
 intro pins s σ H R I h;refine Call_ (hU I hg hm boot_enumerate (PyProof.Rows.callWith_type1 (t6 (ha pos pins s σ H _ I h) λus s1 zq=>?_) hs rfl));obtain⟨vs,H1,I1,r1,q1⟩:=zq;obtain⟨l,e,⟨xs,hq⟩,q⟩:=q1;subst e;obtain⟨u,rfl,ru⟩:=fQ r1;cases ru;obtain⟨its,rv,pl,hz⟩:=I1.list hq;refine call_enumerate_list pl.isList λh' he hit hsz hk=>?_
 refine wpAny_pyIter_enum he ?_;refine⟨s1.heap.objs.size+1,[s1.heap.objs.size+1,s1.heap.objs.size],_,_,H1,rfl,I1.kept (t':=s1.toks) hk,ykM l _ _ (Nat.succ_ne_self _),⟨_,he,hit⟩,λb hb=>?_,q⟩;rcases List.mem_cons.mp hb with rfl | hb
 ·exact I1.fpOk (Nat.le_succ _) (I1.hok.fresh (Nat.le_succ _))
 ·have e':b=s1.heap.objs.size:=by simpa using hb
  subst e';exact I1.fpOk (qR _) (I1.hok.fresh (qR _))
end
section
variable {X:Cx} {pins:List (Addr×Obj)} {σ:St} {H:Hp} {s:Shared} {a:Addr} {y v:V} {u r:Value} {o:Option V} {A:Around} {E:Value->Shared->Prop}
theorem f6.big (I:f6 X pins σ H s):sysModules < s.heap.objs.size:=by
 have h:mainGlobals < s.heap.objs.size:=(I.mod.glob.keeps I.bk).lt;exact Nat.lt_trans (by decide) h
end
theorem q_ {P:Program}{w:World}{H:Hp}(h:Heap)(hb:sysModules < h.objs.size):t0 P w H (h.push { cls:=.type "dict",data:=.dict #[] }) h.objs.size (.dK []) :=
 ⟨Nat.zero_le _,beq_eq_false_iff_ne.mpr (Ne.symm (Nat.ne_of_lt hb)),[],.nil,Heap.DictOf.new h⟩
def tW:TE:=λ_ H Q=>∀ p,H p=none->Q (.ref p) (upd H p (.dK []))
section
variable {X:Cx} {pos:Pos}
theorem vC:PE X (.Dict [] [] pos) tW:=λpins s σ H Q I h =>
 wpAny_Dict_empty ⟨.ref s.heap.objs.size,_,I.laid (a:=s.heap.objs.size) (o:=.dK []) (t':=s.toks) (λ_ _ q=>Heap.get?_push_of_some _ q) (qR _) (q_ s.heap I.big),rfl,h _ (I.hok.fresh (qR _))⟩
end
section
variable {X:Cx}
theorem yua {x z:Str}{pos:Pos}(hg:Gl X x)(hm:∃ k,X.mg x=some (.str z k))(hd:(x==("__debug__" : Str))=false:=by decide):PE X (.Name x pos) (tC (.str z)):=by
 obtain⟨k,e⟩:=hm;exact Q3 hg e ⟨k,rfl⟩ hd
theorem aA {x:Str}{z:Int}{pos:Pos}(hg:Gl X x)(hm:∃ k,X.mg x=some (.int z k))(hd:(x==("__debug__" : Str))=false:=by decide):PE X (.Name x pos) (tC (.int z)):=by
 obtain⟨k,e⟩:=hm;exact Q3 hg e ⟨k,rfl⟩ hd
theorem iZ:J5 X (binaryOp .Mult) (rI IntMulOk λi j=>.int (i*j)):=uU λ_ _ _ _ _ _ _ hc q=>mul_int q hc
end
def W9 (K:qF)(a:Addr)(xs:List V):Prop :=
 ∃ (o:Obj) (its:Array Value) (n:Nat),K.lookup a=some o/\o.cls=.type "tuple" /\ o.dict=none/\o.data=.seq its n/\its.size<=sizeLine/\f8 xs its.toList
theorem W9.sq {K:qF}{a:Addr}{xs:List V}(h:W9 K a xs)(H:Hp):m9 K H a xs:=by
 obtain⟨o,its,n,h1,h2,h3,h4,h5,h6⟩:=h;exact .inr ⟨o,its,n,h1,h2,h4,h5,h6⟩
def sZ:V->Value->Bool
 | .non,.none=>true
 | .bl b,.bool c=>b==c
 | .int i,.int j _=>i==j
 | .str x,.str y _=>x==y
 | _,_=>false
def mB:List V->List Value->Bool
 | [],[]=>true
 | x :: xs,u :: us=>sZ x u&&mB xs us
 | _,_=>false
theorem VX {x:V}{u:Value}(h:sZ x u=true):g9 x u:=by
 cases x<;>cases u<;>simp[sZ] at h
 ·rfl
 ·subst h;rfl
 ·subst h;exact⟨_,rfl⟩
 ·subst h;exact⟨_,rfl⟩
theorem xg:∀ {xs:List V} {us:List Value},mB xs us=true->f8 xs us
 | [],[],_=>.nil
 | x :: xs,u :: us,h=>by
  rw[mB,Bool.and_eq_true] at h;exact .cons (VX h.1) (xg h.2)
 | [],_ :: _,h=>by cases h
 | _ :: _,[],h=>by cases h
theorem ym1 {K:qF}{a:Addr}{xs:List V}{its:Array Value}{n:Nat}{sl:Array (Option Value)}(l:K.lookup a=some ⟨.type "tuple",none,.seq its n,sl⟩)(v:mB xs its.toList=true)(hz:its.size<=1000:=by decide):W9 K a xs :=
 ⟨_,its,n,l,rfl,rfl,rfl,Nat.le_trans hz (by decide),xg v⟩
def Xv (scope:Scope)(env:Env)(N NB:List Str)(cap:List (Option Nat)):Bool :=
 decide (scope.kind=.function)&&scope.names.all (λy=>decide (y.2≠.cell))&&scope.names.all (λy=>decide (y.2≠.local)||decide (scope.names.lookup y.1=some .local)) &&
 scope.names.all (λy=>decide (y.2≠.free)||decide (env.kindOf y.1=some .cell)||decide (env.kindOf y.1=some .free))&&decide (cap.length=NB.length) &&
 (List.range NB.length).all (λi=>match NB[i]?,cap[i]? with
  | some x,some (some j)=>decide (N[j]?=some x)&&decide ((x,NameKind.free)∈scope.names)&&(decide ((relabel scope env).names.lookup x=some .cell)||decide ((relabel scope env).names.lookup x=some .free))
  | _,_=>true)
theorem L0 {X:Cx}{scope:Scope}{NB:List Str}{cap:List (Option Nat)}(h:Xv scope X.env X.N NB cap=true):C7 X scope NB cap:=by
 unfold Xv at h;simp only[Bool.and_eq_true,decide_eq_true_eq,List.all_eq_true,Bool.or_eq_true] at h;obtain⟨⟨⟨⟨⟨h1,h2⟩,h3⟩,h4⟩,h5⟩,h6⟩:=h;refine⟨h1,h2,λy hy e=>?_,λy hy e=>?_,h5,λi x j e1 e2=>?_⟩
 ·rcases h3 y hy with z | z
  ·exact absurd e z
  ·exact z
 ·rcases h4 y hy with (z | z) | z
  ·exact absurd e z
  ·exact .inl z
  ·exact .inr z
 ·have hi:i < NB.length:=(qE e1).1;have q:=h6 i (List.mem_range.mpr hi);rw[e1,e2] at q;simp only[Bool.and_eq_true,decide_eq_true_eq,Bool.or_eq_true] at q;exact⟨q.1.1,q.1.2,q.2⟩
end L2
namespace Att
open PySem PySem.W PySem.Calls PyProof.Rows
theorem xx:∀ {ns:List Int},WData.weightAll (ns.map WData.int)<=2 ^ 20->∀ v∈ns,Builtin.Int.intBits v<=2 ^ 20
 | [],_,v,h=>by simp at h
 | n :: ns,h,v,hv=>by
  rw[List.map_cons,WData.weightAll] at h;rcases List.mem_cons.mp hv with rfl | hv
  ·have:WData.weight (.int v)<=2 ^ 20:=by omega
   simpa only[WData.weight,Builtin.Int.intBits] using this
  ·exact xx (by omega) v hv
theorem PJ {ns:List Int}(h:WData.layableAll [WData.list (ns.map WData.int)]=true):∀ v∈ns,Builtin.Int.intBits v<=2 ^ 20:=by
 simp only[WData.layableAll,List.all_cons,WData.layable,Bool.and_eq_true,decide_eq_true_eq] at h;exact xx (by have:=h.1.2;rw[WData.weight] at this;exact this)
theorem attach_callB {l:OpenLaw}{n:Nat}{q:Program}{loose:List Str}{XP:(Str->Option Value)->Heap->Prop}{YP:World->Heap->Prop}{d:DefRec}
  (hn:l.most=some n) (hdf:d.params.defaults=[])
  (call:∀ (w:World) (s₀ s₁:Shared) (mg mb:Str->Option Value) (fa:Addr) (o:Obj) (pm cd doc:Value) (a:Addr) (vs:List Value) (ns:List Int),
   Ground q loose [] XP w s₀ mg mb s₁.heap->YP w s₁.heap ->
   s₁.heap.get? fa=some o->o.data=.func (docDef d.name d.params d.body d.scope pm cd doc)->s₁.heap.CodeRec cd d.name->mg d.name=some (.ref fa) ->
   s₁.heap.get? a=some { cls:=.type "list",data:=.seq vs.toArray }->IntsAre vs ns->ns.length<=n->(∀ v∈ns,Builtin.Int.intBits v<=2 ^ 20)->s₁.gens=#[] ->
   codeAny (model l.prog w) callerA (.call (.ref fa) ⟨[.ref a],[]⟩) (λr s'=>r=.ok (.ret (.bool true))/\OldK s₁.heap s'.heap/\s'.os=s₁.os/\AllBare s'.gens) s₁) :
  WalkO q loose XP YP l.row.toRowW d [] (λf vs=>PySem.call f vs):=by
 intro w s₀ s₁ mg mb G Y fa o pm cd doc dV kV ho hd hcd hD hmg hg args vals as hpre hlay hrd hwl hlo;obtain rfl:dV=.none:=Dflts.none hD hdf;obtain rfl:kV=.none:=Dflts.noKw hD;obtain⟨a,vs,ns,rfl,rfl,hobj,hints,hlen⟩:=Ua hn hpre hwl;refine enter_call (codeAny_mono (call w s₀ s₁ mg mb fa o pm cd doc a vs ns G Y ho (fd_plain hd) hcd hmg hobj hints hlen (PJ hlay) hg) λr s' hq=>?_);obtain⟨rfl,h2,h3,h4⟩:=hq;exact⟨.inl ⟨.bool true,.bool true,[],rfl,λ_=>rfl,.bool true,BQ l _,λ_=>⟨List.Pairwise.nil,λ_ hm=>(nomatch hm)⟩⟩,h2,h3,h4⟩
end Att
namespace L2
open PySem PySem.Spec PyProof.Rows
theorem dE {l:PySem.W.OpenLaw}{n k:Nat}{q:Program}{loose:List Str}{XP:(Str->Option Value)->Heap->Prop}{YP:World->Heap->Prop}{d:DefRec}{K:Params->qF}{CX:World->P0}{sp:World->Sp}{x:Str}
  (hn:l.most=some n) (hn2:n<=sizeLine) (hdf:d.params.defaults=[]) (hr:x8 k callerA)
  (hY:∀ (w:World) (h:Heap),YP w h->(K w.params).In h)
  (F:∀ (w:World) (mg:Str->Option Value) (fa:Addr) (h:Heap),(K w.params).In h->h.Ns mainGlobals mg->mg d.name=some (.ref fa) ->
   ∃ fd:FuncData,(∀ (s:Shared) (u:Value),BindsTo s fd ⟨[u],[]⟩ [(x,u)]) /\
    ∀ base:Heap,(K w.params).In base->base.Ns mainGlobals mg->z0 l.prog w (K w.params) mg base (CX w) k fa fd [x] (sp w))
  (hsp:∀ (w:World) (H:Hp) (a:Addr) (ns:List Int),ns.length<=n->(∀ v∈ns,Builtin.Int.intBits v<=2 ^ 20)->yJ H->d0 (K w.params) H a (ns.map V.int)->sp w [.ref a] H (λv _=>v=.bl true) λ_ _ _=>False)
  (hCX:∀ (w:World) (H:Hp) (s:Shared) (e:Value) (s':Shared),CX w [] H s (λ_ _ _=>False) e s'->False) :
  PySem.W.WalkO q loose XP YP l.row.toRowW d [] (λf vs=>PySem.call f vs):=by
 refine Att.attach_callB hn hdf λw s₀ s₁ mg mb fa o pm cd doc a vs ns G Y ho hd hcd hmg hobj hints hlen hbits hg=>?_
 have KX:=hY w _ Y;obtain⟨fd,hb,hF⟩:=F w mg fa _ KX G.T.g hmg;exact GX KX G.T.g G.T.b G.T.builtins G.T.nolimit hg hobj hints (Nat.le_trans hlen hn2) hr hF hb (λH hO hS=>hsp w H a ns hlen hbits hO hS) λH e s'=>hCX w H s₁ e s'
section
variable {X:Cx} {CX:P0} {k:Nat} {E:XK} {x m:Str} {p pos apos:Pos} {e o:Expr} {es:List Expr} {ta:TE} {t:TA}
def dY (K:qF):List V->Hp->VK->Prop:=λxs H Q=>∃ x C t b,xs=[x,.ref C]/\U3 K H x t/\PySem.W.kitOne K t (.ref C)=some b/\Q (.bl b) H
theorem iQ:P7 X (.builtin "isinstance") (dY X.K):=by
 intro pins s σ H xs us Q I r h;obtain⟨x,C,t,b,rfl,ty,hk,q⟩:=h;obtain⟨u,v,rfl,ru,rv⟩:=jC r;cases (show v=Value.ref C from rv);exact Vl I ru ty hk λtk=>⟨.bl b,H,I.tok _,rfl,q⟩
def uS {ι:Type}(C:ι->Addr)(m:Str)(sp:ι->Sp)(E:XK)(ta:TE):TE:=fun σ H Q=>ta σ H λx H1=>∃ i a dx fs,x=.ref a/\H1 a=some (.ins (C i) dx fs)/\fs.lookup m=none/\sp i [x] H1 Q E
theorem jZ {pl:Sem Bool}{ι:Type}{C f:ι->Addr}{fd:ι->FuncData}{ps:ι->List Str}{sp:ι->Sp}(he:PE X o ta)(c:∀ i,R8 X.K (C i))(hm:∀ i,aP X.K (C i) m (f i))
  (F:∀ i,z0 X.prog X.w X.K X.mg X.base CX k (f i) (fd i) (ps i) (sp i)) (hr:x8 k X.A) (hb:∀ i,B0 X.K (fd i) (ps i) []) (hx:bH CX X E)
  (ht:eval (.Call (.Attribute o m apos) [] [] pos) X.env=(do
   let ov ← eval o X.env
   standAt apos.atName
   let (f,first) ← holding [ov] (getMethod ov m pl)
   callWith pos f first (backTo pos (starEach [] X.env)) (backToKw pos (keywordEach [] X.env))):=by rfl) :
  PE X (.Call (.Attribute o m apos) [] [] pos) (uS C m sp E ta):=by
 intro pins s σ H Q I h;refine PySem.W.methodCall_KW (pl:=pl) (t6 (he pins s σ H _ I h) λu s1 zq=>?_) ht;obtain⟨x,H1,I1,rx,i,a,dx,fs,ex,ea,l,q⟩:=zq;subst ex;obtain rfl:u=Value.ref a:=rx;exact xG I1 ea (c i) (hm i) l (PySem.W.callWith_K0 (first:=[.ref a]) I1.kIn (hm i).kp (kR (us:=[.ref a]) (vs:=[.ref a]) (F i) hr (hb i) .nil hx I1 (.cons rfl .nil) q))
structure xO (K:qF) (C:Addr) (m:Str) (f:Addr):Prop where
 ga:PySem.W.specialIn K (.ref C) "__getattribute__"=some (some (.builtin "type.__getattribute__"))
 rd:PySem.W.readsIn K C (.type "type")=true
 at_:PySem.W.findCls K (.ref C) (.type "type") m=some (.val (.ref f))
 hh:PySem.W.handedIn (.ref f)=true
 kp:PySem.W.keepIn K (.ref f)=true
theorem Yx {pl:Sem Bool}{C f:Addr}{fd:FuncData}{ps:List Str}{sp:Sp}(he:PE X o (tC (.ref C)))(c:xO X.K C m f)(F:z0 X.prog X.w X.K X.mg X.base CX k f fd ps sp)(hr:x8 k X.A)(hb:B0 X.K fd ps [])(hx:bH CX X E)(ha:PA X (e :: es) t)
  (hst:starEach (e :: es) X.env=(false,eval e X.env) :: starEach es X.env:=by rfl) (hpl:(backTo pos (starEach es X.env)).any (·.1)=false:=by rfl)
  (ht:eval (.Call (.Attribute o m apos) (e :: es) [] pos) X.env=(do
   let ov ← eval o X.env
   standAt apos.atName
   let (f,first) ← holding [ov] (getMethod ov m pl)
   callWith pos f first (backTo pos (starEach (e :: es) X.env)) (backToKw pos (keywordEach [] X.env))):=by rfl) :
  PE X (.Call (.Attribute o m apos) (e :: es) [] pos) (cI sp [] E t):=by
 intro pins s σ H Q I h;refine PySem.W.methodCall_KW (pl:=pl) (t6 (he pins s σ H (λx H1=>x=.ref C/\cI sp [] E t σ H1 Q) I ⟨rfl,h⟩) λu s1 zq=>?_) ht;obtain⟨x,H1,I1,rx,ex,q⟩:=zq;subst ex;obtain rfl:u=Value.ref C:=rx;refine PySem.W.method_cls I1.kIn c.ga (PySem.W.cls_value I1.kIn c.rd c.at_ c.hh ?_);have I2:=I1.tok (s1.toks+1);refine PySem.W.callWith_K (first:=[]) (h₀:=X.base) I.ok.mod.kin c.kp (t6 (ha pos pins _ σ H1 _ I2 q) λus s2 ⟨vs,H2,I3,r,q2⟩=>⟨I3.kIn,?_⟩) hst hpl;exact kR (us:=us) (vs:=vs) F hr hb .nil hx I3 r q2
end
structure M6 (K:qF) (C:Addr):Prop where
 ha:PySem.W.findIn K (.ref C) "__class__"=some (some (.builtin "object.__class__"))
 hn:PySem.W.specialIn K (.builtin "object.__class__") "__get__"=some (some (.builtin "getset_descriptor.__get__"))
 htk:PySem.W.takesIn K (.builtin "object.__class__")=some true
 hm:PySem.W.mroIn K C (.type "object")=some true
theorem M6.ty {K:qF}{C a dx:Addr}{H:Hp}{fs:List (Str×V)}(o:M6 K C)(c:R8 K C)(e:H a=some (.ins C dx fs)):U3 K H (.ref a) (.ref C):=.ins e c o.ha o.hn o.htk o.hm
section
variable {K:qF} {σ:St} {H:Hp} {Q:VK} {ta tb:TE} {f:Str} {a C dx:Addr} {fs:List (Str×V)} {v y:V} {D:S0}
theorem ysP (q:ta σ H λx H1=>∃ a C dx fs v,x=.ref a/\H1 a=some (.ins C dx fs)/\R8 K C/\v7 K C f/\fs.lookup f=some v/\Q v H1):lM K ta f σ H Q:=q
theorem Yg (q:tb σ H λy H1=>ta σ H1 λx H2=>∃ a C dx fs,x=.ref a/\H2 a=some (.ins C dx fs)/\R8 K C/\v7 K C f/\fs.length < 1000/\D.nx σ (upd H2 a (.ins C dx (R4 f y fs)))):uG K ta tb f D σ H:=q
end
section
variable {H:Hp} {Q:VK}
theorem Vs {g:Int->Int->V}{a b:Int}(h:0 < b/\b < 1073741824)(q:Q (g a b) H):rI Xl g (.int a) (.int b) H Q:=⟨a,b,rfl,rfl,h,q⟩
end
section
variable {X:Cx}
theorem P4 {x:Str}{n:String}{pos:Pos}(hg:Gl X x)(hm:X.mg x=none)(hv:bootBuiltins x=some (.type n))(hn:x≠"__name__":= by decide)(hd:(x==("__debug__" : Str))=false:=by decide):PE X (.Name x pos) (tC (.ty n)):=yo4 (v:=.ty n) hg hm hv rfl hn hd
theorem yt0 {x:Str}{a:Addr}{pos:Pos}(hg:Gl X x)(hm:X.mg x=some (.ref a))(hd:(x==("__debug__" : Str))=false:=by decide):PE X (.Name x pos) (tC (.ref a)):=Q3 (v:=.ref a) hg hm rfl hd
end
theorem m8 {H:Hp}{p:Addr}(h:H p=none)(o:HO):b9 H (upd H p o):=λb u q=>by rw[u6 (G8 q h)];exact q
theorem x6.same {H H':Hp}{x:V}{k:aN}(h:x6 H x k)(s:b9 H H'):x6 H' x k:=by
 cases h with
 | non=>exact .non
 | bl b=>exact .bl b
 | int i=>exact .int i
 | str x=>exact .str x
 | lst e=>exact .lst (s _ _ e)
 | tup e=>exact .tup (s _ _ e)
 | dct e=>exact .dct (s _ _ e)
mutual
def U6 (H:Hp):V->Tr->Prop
 | v,.vl w=>v=w/\O7 w=true
 | v,.ls ts=>∃ a xs,v=.ref a/\H a=some (.lst xs)/\Owns H xs ts
 | v,.tp ts=>∃ a xs,v=.ref a/\H a=some (.tup xs)/\Owns H xs ts
def Owns (H:Hp):List V->List Tr->Prop
 | xs,[]=>xs=[]
 | xs,t :: ts=>∃ x r,xs=x :: r/\U6 H x t/\Owns H r ts
end
mutual
theorem U6.same {H H':Hp}(s:b9 H H'):∀ {v:V} {t:Tr},U6 H v t->U6 H' v t
 | v,.vl w,h=>by rw[U6] at h |-;exact h
 | v,.ls ts,h=>by
  rw[U6] at h |-;obtain⟨a,xs,e,q,r⟩:=h;exact⟨a,xs,e,s _ _ q,Owns.same s r⟩
 | v,.tp ts,h=>by
  rw[U6] at h |-;obtain⟨a,xs,e,q,r⟩:=h;exact⟨a,xs,e,s _ _ q,Owns.same s r⟩
theorem Owns.same {H H':Hp}(s:b9 H H'):∀ {xs:List V} {ts:List Tr},Owns H xs ts->Owns H' xs ts
 | xs,[],h=>by rw[Owns] at h |-;exact h
 | xs,t :: ts,h=>by
  rw[Owns] at h |-;obtain⟨x,r,e,q,z⟩:=h;exact⟨x,r,e,U6.same s q,Owns.same s z⟩
end
mutual
theorem U6.rep {K:qF}{H:Hp}:∀ {v:V} {t:Tr},U6 H v t->A8 K H v t
 | v,.vl w,h=>by rw[U6] at h;rw[A8];exact h
 | v,.ls ts,h=>by
  rw[U6] at h;rw[A8];obtain⟨a,xs,e,q,r⟩:=h;exact⟨a,xs,e,d0.of q,Owns.rep r⟩
 | v,.tp ts,h=>by
  rw[U6] at h;rw[A8];obtain⟨a,xs,e,q,r⟩:=h;exact⟨a,xs,e,m9.of q,Owns.rep r⟩
theorem Owns.rep {K:qF}{H:Hp}:∀ {xs:List V} {ts:List Tr},Owns H xs ts->Reps K H xs ts
 | xs,[],h=>by rw[Owns] at h;rw[Reps];exact h
 | xs,t :: ts,h=>by
  rw[Owns] at h;rw[Reps];obtain⟨x,r,e,q,z⟩:=h;exact⟨x,r,e,U6.rep q,Owns.rep z⟩
end
theorem eR {A:Around}{k:Nat}(hr:x8 k A):A.units+64 < cLine:=hr.units
def T8 (x:V)(lo hi:Int):Bool:=match x with
 | .int i=>decide (lo<=i)&&decide (i<=hi)
 | _=>false
end L2
namespace L2
theorem yok (k:aN):k.isA "int"=(decide (k=.int)||decide (k=.bl)):=by cases k<;>rfl
theorem ymq (k:aN):k.isA "bool"=decide (k=.bl):=by cases k<;>rfl
theorem ynV (k:aN):k.isA "str"=decide (k=.str):=by cases k<;>rfl
theorem ylj (k:aN):k.isA "tuple"=decide (k=.tup):=by cases k<;>rfl
theorem yrA:cL "int":= .inl rfl
theorem yn5:cL "bool":= .inr (.inl rfl)
theorem ypY:cL "str":= .inr (.inr (.inl rfl))
theorem ymD:cL "tuple":= .inr (.inr (.inr (.inr rfl)))
theorem yn2:cL "int"=True:=eq_true yrA
theorem ymm:cL "bool"=True:=eq_true yn5
theorem yoK:cL "str"=True:=eq_true ypY
theorem Gf:cL "tuple"=True:=eq_true ymD
end L2
namespace L2
open PySem
end L2
namespace L2
open PySem
theorem Yi {K:qF}{a:Addr}{xs:List V}{g:TG}{tb:TS}{D:S0}{σ:St}{H:Hp}(Pv:Nat->St->Hp->Prop)(h0:Pv 0 σ H)(hl:∀ i σ H,i<=xs.length->Pv i σ H->d0 K H a xs)
  (hs:∀ i x σ H p,xs[i]?=some x->Pv i σ H->H p=none->g (.ref p) σ (upd H p (.tup [.int (i:Nat),x])) fun σ2 H2=>tb { D with nx:=Pv (i+1),ct:=Pv (i+1),bk:=D.nx } σ2 H2) (hd:∀ σ H,Pv xs.length σ H->D.nx σ H) :
  ∃ W:Nat->Nat->St->Hp->Prop,(∃ m,W 0 m σ H)/\∀ i m σ H,W i m σ H ->
   ((iC K a).stop i H/\D.nx σ H)∨((iC K a).go i H/\∃ N:St->Hp->Prop,(∀ σ' H',N σ' H'->∃ m',m' < m/\W (i+1) m' σ' H')/\∀ x H',(iC K a).yld i H x H'->g x σ H' fun σ2 H2=>tb { D with nx:=N,ct:=N,bk:=D.nx } σ2 H2):=by
 refine⟨λi m σ H=>m=xs.length - i/\i<=xs.length/\Pv i σ H,⟨xs.length,by simp,Nat.zero_le _,h0⟩,?_⟩;rintro i m σ H ⟨rfl,hi,p⟩;have q:=hl i σ H hi p;by_cases hlt:i < xs.length
 ·refine .inr ⟨⟨xs,xs[i],q,by simp[hlt]⟩,Pv (i+1),fun σ' H' p'=>⟨xs.length - (i+1),by omega,rfl,hlt,p'⟩,λx H' y=>?_⟩;obtain⟨b,v,e1,e2,e3,y⟩:=y;subst e1 e3;exact hs i v σ H b (y xs q) p e2
 ·have e:i=xs.length:=by omega
  subst e;exact .inl ⟨⟨xs,q,qR _⟩,hd σ H p⟩
theorem yjX {K:qF}{a D:Addr}{xs:List V}{g:TG}{tc:TT}{te:TE}{Fin:Hp->Prop}{σ:St}{H:Hp}(Pv:Nat->St->Hp->Prop)(h0:Pv 0 σ H)(hl:∀ i σ H,i<=xs.length->Pv i σ H->d0 K H a xs)
  (hs:∀ i x σ H,xs[i]?=some x->Pv i σ H->g x σ H fun σ2 H2=>tc σ2 H2 λb H3=>if b=true then te σ2 H3 λy H4=>∃ ys,H4 D=some (.lst ys)/\ys.length < sizeLine/\Pv (i+1) σ2 (upd H4 D (.lst (ys++[y]))) else Pv (i+1) σ2 H3)
  (hd:∀ σ H,Pv xs.length σ H->Fin H):∃ W:Nat->Nat->St->Hp->Prop,(∃ m,W 0 m σ H)/\T9 (V9 K a) g tc te D Fin W:=by
 refine⟨λi m σ H=>m=xs.length - i/\i<=xs.length/\Pv i σ H,⟨xs.length,by simp,Nat.zero_le _,h0⟩,?_⟩;rintro i m σ H ⟨rfl,hi,p⟩;have q:=hl i σ H hi p;by_cases hlt:i < xs.length
 ·refine .inr ⟨⟨xs,xs[i],q,by simp[hlt]⟩,Pv (i+1),fun σ' H' p'=>⟨xs.length - (i+1),by omega,rfl,hlt,p'⟩,λx H' y=>?_⟩;obtain⟨e,y⟩:=y;subst e;exact hs i x σ _ (y xs q) p
 ·have e:i=xs.length:=by omega
  subst e;exact .inl ⟨⟨xs,q,qR _⟩,hd σ H p⟩
theorem xP {K:qF}{a D:Addr}{xs:List V}{g:TG}{tc:TT}{te:TE}{Fin:Hp->Prop}{σ:St}{H:Hp}(Pv:Nat->St->Hp->Prop)(h0:Pv 0 σ H)(hl:∀ i σ H,i<=xs.length->Pv i σ H->m9 K H a xs)
  (hs:∀ i x σ H,xs[i]?=some x->Pv i σ H->g x σ H fun σ2 H2=>tc σ2 H2 λb H3=>if b=true then te σ2 H3 λy H4=>∃ ys,H4 D=some (.lst ys)/\ys.length < sizeLine/\Pv (i+1) σ2 (upd H4 D (.lst (ys++[y]))) else Pv (i+1) σ2 H3)
  (hd:∀ σ H,Pv xs.length σ H->Fin H):∃ W:Nat->Nat->St->Hp->Prop,(∃ m,W 0 m σ H)/\T9 (kG K a) g tc te D Fin W:=by
 refine⟨λi m σ H=>m=xs.length - i/\i<=xs.length/\Pv i σ H,⟨xs.length,by simp,Nat.zero_le _,h0⟩,?_⟩;rintro i m σ H ⟨rfl,hi,p⟩;have q:=hl i σ H hi p;by_cases hlt:i < xs.length
 ·refine .inr ⟨⟨xs,xs[i],q,by simp[hlt]⟩,Pv (i+1),fun σ' H' p'=>⟨xs.length - (i+1),by omega,rfl,hlt,p'⟩,λx H' y=>?_⟩;obtain⟨e,y⟩:=y;subst e;exact hs i x σ _ (y xs q) p
 ·have e:i=xs.length:=by omega
  subst e;exact .inl ⟨⟨xs,q,qR _⟩,hd σ H p⟩
theorem rC {lo:Int}{n:Nat}{D:Addr}{g:TG}{tc:TT}{te:TE}{Fin:Hp->Prop}{σ:St}{H:Hp}(Pv:Nat->St->Hp->Prop)(h0:Pv 0 σ H)
  (hs:∀ i σ H,i < n->Pv i σ H->g (.int (lo+i)) σ H fun σ2 H2=>tc σ2 H2 λb H3=>if b=true then te σ2 H3 λy H4=>∃ ys,H4 D=some (.lst ys)/\ys.length < sizeLine/\Pv (i+1) σ2 (upd H4 D (.lst (ys++[y]))) else Pv (i+1) σ2 H3)
  (hd:∀ σ H,Pv n σ H->Fin H):∃ W:Nat->Nat->St->Hp->Prop,(∃ m,W 0 m σ H)/\T9 (aI lo n) g tc te D Fin W:=by
 refine⟨λi m σ H=>m=n - i/\i<=n/\Pv i σ H,⟨n,by simp,Nat.zero_le _,h0⟩,?_⟩;rintro i m σ H ⟨rfl,hi,p⟩;by_cases hlt:i < n
 ·refine .inr ⟨hlt,Pv (i+1),fun σ' H' p'=>⟨n - (i+1),by omega,rfl,hlt,p'⟩,λx H' y=>?_⟩;obtain⟨e,y⟩:=y;subst e y;exact hs i σ _ hlt p
 ·have e:i=n:=by omega
  subst e;exact .inl ⟨qR _,hd σ H p⟩
end L2
namespace L2
open PySem PySem.Spec PyProof.Rows
def vN (a:Addr)(o:Obj):HO:=.ext λh=>h.get? a=some o
section
variable {P:Program} {w:World} {H:Hp} {h:Heap} {a:Addr}
end
def c9 (T:Addr)(H H':Hp):Prop:=∀ b o,b≠T->H b=some o->H' b=some o
theorem b9.t {T:Addr}{H H':Hp}(a:b9 H H'):c9 T H H':=λc o _ q=>a c o q
def yuw (H:Hp)(c:Addr)(qual:Str):Prop:=∃ o vs t,H c=some (vN c o)/\o.data=.fields vs/\vs[1]?=some (.str qual t)
def D_ (H:Hp)(fa:Addr)(name qual:Str)(params:Arguments)(body:List Stmt)(scope:Scope)(clos:List (Str×Addr)):Prop :=
 ∃ doc pm c' ctv,H fa=some (vN fa (PySem.W.fnMade name qual params body scope clos doc pm c' ctv))/\yuw H c' qual
def ysv (H:Hp)(fa:Addr):Prop:=∃ oc od fd sl,H fa=some (vN fa ⟨oc,od,.func fd,sl⟩)
theorem D_.isFn {H:Hp}{fa:Addr}{name qual:Str}{params:Arguments}{body:List Stmt}{scope:Scope}{clos:List (Str×Addr)}(F:D_ H fa name qual params body scope clos):ysv H fa:=by
 obtain⟨doc,pm,c',ctv,e,_⟩:=F;exact⟨_,_,_,_,e⟩
structure yuI (P:Program) (w:World) (K:qF) (mg:Str->Option Value) (base:Heap) (k:Nat) (spX:Addr->V->Hp->VK->Prop):Prop where
 run:∀ (A:Around) (outer:List Env) (s:Shared) (H:Hp) (fa:Addr) (u:Value) (xv:V) (Q:VK) (E:XK),x8 k A->R9 P w K mg base A outer s H->g9 xv u->spX fa xv H Q->codeAny (model P w) A (.call (.ref fa) ⟨[u],[]⟩) (CR S3 outer P w H s Q E) s
section
variable {X:Cx} {k i:Nat} {x:Str} {p pos:Pos} {e:Expr} {t:TA} {spX:Addr->V->Hp->VK->Prop}
end
theorem tF (ns:List Int):∀ j,j<=ns.length->preSum (λi=>(ns[i]?).getD 0) j=(ns.take j).sum
 | 0,_=>by simp[preSum]
 | j+1,h=>by
  have hj:j < ns.length:=h;rw[preSum,tF ns j (Nat.le_of_lt hj),List.take_add_one,List.sum_append,qG hj];simp
theorem jt:∀ {ns:List Int},(∀ n∈ns,0<=n/\n<=1000)->0<=ns.sum/\ns.sum<=1000*ns.length
 | [],_=>by simp
 | n :: r,h=>by
  have h1:=h n (by simp);have h2:=jt (ns:=r) λm hm=>h m (by simp[hm])
  rw[List.sum_cons,qC];omega
section
variable {X:Cx}
def Zt (K:qF):List V->Hp->VK->Prop:=λxs H Q=>∃ (p:Addr) (ns:List Int),xs=[.ref p]/\m9 K H p (ns.map V.int)/\(∀ n∈ns,0<=n/\n<=1000)/\ns.length<=1000/\Q (.int ns.sum) H
theorem yjK (hc:X.calm=true):P7 X (.builtin "sum") (Zt X.K):=by
 intro pins s σ H xs us Q I r h;obtain⟨p,ns,rfl,hq,hs,hln,q⟩:=h;obtain⟨u,rfl,ru⟩:=fQ r;cases ru;obtain⟨its,rv,pl,hz⟩:=I.tuple hq;have hlen:ns.length=its.length:=by have:=rv.length;rw[qM] at this;exact this
 have hlt:p < s.heap.objs.size:=pl.lt;have pt:s.heap.IsTuple p its.toArray:=pl;refine call_sum_walk (wpAny_pyIter_tuple pt ?_);refine⟨s.heap.objs.size,_,_,_,_,_,(λi=>(ns[i]?).getD 0),rfl,Walks.tuple (A:=X.A.in1) (I.ok.hd hc) s.heap.objs.size p (Nat.ne_of_lt hlt) its.toArray,⟨⟨_,Heap.get?_push_size _ rfl,rfl,rfl⟩,pt.push _⟩,?_,?_,?_,?_⟩
 ·intro b hb;show b < (s.heap.push _).objs.size
  rw[Heap.size_push];have hb:b=s.heap.objs.size∨b=p:=by simpa using hb
  rcases hb with rfl | rfl
  ·exact Nat.lt_succ_self _
  ·exact Nat.lt_succ_of_lt hlt
 ·intro i v hP;have hv:its[i]?=some v:=by simpa using hP
  have hi:i < its.length:=(qE hv).1;have hb:i < ns.length:=by omega
  obtain⟨w',e',r'⟩:=rv.get (x:=.int ns[i]) (i:=i) (by rw[qm,qG hb];rfl);rw[e'] at hv;cases hv;obtain⟨t,rfl⟩:=r';exact⟨t,by show Value.int ns[i] t=Value.int ((ns[i]?).getD 0) t;rw[qG hb];rfl⟩
 ·intro j hj;have hj:j < ns.length:=by rw[qZ] at hj;omega
  have h1:=hs ns[j] (List.getElem_mem hj);have h2:=jt (ns:=ns.take (j+1)) λn hn=>hs n (List.mem_of_mem_take hn)
  have h3:(ns.take (j+1)).length<=1000:=by rw[qT];omega
  refine⟨?_,?_⟩
  ·show InLong ((ns[j]?).getD 0)
   rw[qG hj];exact⟨by show -(2 ^ 63)<=ns[j];omega,by show ns[j] < 2 ^ 63;omega⟩
  ·rw[tF ns (j+1) hj];exact⟨by omega,by omega⟩
 ·intro h' tk t' hk;rw[qZ,<- hlen,tF ns _ (qR _),List.take_length];refine⟨.int _,H,I.kept (t':=tk) λb o e=>hk b o ?_ (Heap.get?_push_of_some _ e),⟨t',rfl⟩,q⟩;intro z;have:b=s.heap.objs.size:=by simpa using z
  exact absurd (Heap.lt_size e) (by rw[this];exact Nat.lt_irrefl _)
end
structure yuP (X:Cx) (scope:Scope) (NB:List Str) (cap:List (Option Nat)) (v:Str):Prop where
 kind:scope.kind=.function
 cell:∀ y∈scope.names,y.2=.cell->y.1=v
 nv:∀ y∈scope.names,y.2=.free->y.1≠v
 names:∀ y∈scope.names,y.2=.local->scope.names.lookup y.1=some .local
 free:∀ y∈scope.names,y.2=.free->(X.env.kindOf y.1=some .cell∨X.env.kindOf y.1=some .free)
 len:cap.length=NB.length
 caps:∀ (i:Nat) (x:Str) (j:Nat),NB[i]?=some x->cap[i]?=some (some j)->X.N[j]?=some x/\(x,NameKind.free)∈scope.names/\((relabel scope X.env).names.lookup x=some .cell∨(relabel scope X.env).names.lookup x=some .free)
 cf:∀ n cl,cellsFrom n scope.names cl=(v,n) :: cl
 pc:∀ h,pushCells h scope.names=h.push { cls:=.type "cell",data:=.cell none }
section
variable {X:Cx} {pins:List (Addr×Obj)} {σ:St} {H:Hp} {s:Shared} {scope:Scope} {NB:List Str} {cap:List (Option Nat)} {v:Str}
end
section
variable {X:Cx}
def Vz (K:qF):R2:=λx y H Q=>∃ a b xs,x=.ref a/\y=.ref b/\d0 K H a xs/\d0 K H b []/\Q (.bl xs.isEmpty) H
theorem Yq (hu:X.A.units+64 < cLine):J5 X (compareOp .Eq) (Vz X.K):=by
 intro pins s σ H x y v u Q I rx ry h;obtain⟨a,b,xs,rfl,rfl,ha,hb,q⟩:=h;cases rx;cases ry;obtain⟨its,r,p,_⟩:=I.list ha;obtain⟨its',r',p',_⟩:=I.list hb;cases r';have hA:X.A.units < cLine:=by omega
 cases r with
 | nil=>exact SeqAt.RcAt.lists p.isList p'.isList rfl hA (e:=λ_=>true) (λj h1 _=>absurd h1 (Nat.not_lt_zero _)) _ _ _ _ ⟨.bl true,H,I,rfl,q⟩
 | cons _ _=>exact SeqAt.RcAt.lists_lengths p.isList p'.isList (by simp) hA _ _ _ _ ⟨.bl false,H,I,rfl,q⟩
def W_ (K:qF):R2:=λx y H Q=>∃ a b xs,x=.ref a/\y=.ref b/\d0 K H a xs/\d0 K H b []/\Q (.bl (!xs.isEmpty)) H
theorem lO (hu:X.A.units+64 < cLine):J5 X (compareOp .NotEq) (W_ X.K):=by
 intro pins s σ H x y v u Q I rx ry h;obtain⟨a,b,xs,rfl,rfl,ha,hb,q⟩:=h;cases rx;cases ry;obtain⟨its,r,p,_⟩:=I.list ha;obtain⟨its',r',p',_⟩:=I.list hb;cases r';have hA:X.A.units < cLine:=by omega
 cases r with
 | nil=>exact SeqAt.RcNeAt.lists p.isList p'.isList rfl hA (e:=λ_=>true) (λj h1 _=>absurd h1 (Nat.not_lt_zero _)) _ _ _ _ ⟨.bl false,H,I,rfl,q⟩
 | cons _ _=>exact SeqAt.RcNeAt.lists_lengths p.isList p'.isList (by simp) hA _ _ _ _ ⟨.bl true,H,I,rfl,q⟩
theorem f6.tupBut {pins:List (Addr×Obj)}{σ:St}{H:Hp}{s:Shared}{ch:List Addr}{vs:List V}{its:List Value}{h':Heap}{t':Nat}(I:f6 X pins σ H s)(hf:∀ b∈ch,R0 X pins H b)
  (kp:∀ b o,b∉ch->s.heap.get? b=some o->h'.get? b=some o) (z:vs.length<=sizeLine) (r:f8 vs its) (g:IsTup h' s.heap.objs.size its.toArray):f6 X pins σ (upd H s.heap.objs.size (.tup vs)) { s with heap:=h',toks:=t' }:=by
 have fr:H s.heap.objs.size=none:=I.hok.fresh (qR _);have new:∀ {b:Addr} {o:Obj},s.heap.get? b=some o->b≠s.heap.objs.size:=λh=>Nat.ne_of_lt (Heap.lt_size h)
 have old:∀ {b:Addr} {u:HO},H b=some u->upd H s.heap.objs.size (.tup vs) b=some u:=λh=>by rw[u6 (G8 h fr)];exact h
 have off:∀ b u,H b=some u->b∉ch:=λb u h m=>by rw[(hf b m).1] at h;cases h
 refine I.step (g':=s.gens) (d':=s.drawn) (ch:=ch) (λb hb=>⟨(hf b hb).2.2.2.1,(hf b hb).2.1,(hf b hb).2.2.2.2⟩) (λb o _ _ n e _=>kp b o n e) (λb o _ _ n e _=>⟨o.slots,kp b o n e⟩) (λb o _ e n=>by rw[u6 (new e)];exact n)
  (λb o n e=>⟨o,kp b o n e⟩) (λ_ _ h=>old h) (λ_ _ _ h=>old h) (λ_ ps h=>⟨#[],by rw[old h];simp⟩) (λm hm=>?_) (λb u h=>?_) I.bare
 ·exact hm.at λo e=>kp _ o (λn=>(hf _ n).2.1 rfl) e
 ·by_cases hb:b=s.heap.objs.size
  ·subst hb;rw[f9] at h;cases h;exact⟨z,its,r,g⟩
  ·rw[u6 hb] at h;refine(I.hok b u h).stay (λc v hc q=>kp c v ?_ q) (λ_ h=>old h) λ_ _ h=>old h
   exact hc.elim (λe=>e▸off b u h) λe=>off c _ e
def lC (K:qF)(a b:Addr):It :=
 ⟨λi H=>∃ xs ys x y,d0 K H a xs/\d0 K H b ys/\xs[i]?=some x/\ys[i]?=some y,λi H x H'=>∃ p v u,x=.ref p/\H p=none/\H'=upd H p (.tup [v,u])/\∀ xs ys,d0 K H a xs->d0 K H b ys->xs[i]?=some v/\ys[i]?=some u,
  λi H=>∃ xs ys,d0 K H a xs/\d0 K H b ys/\(xs.length<=i∨ys.length<=i)⟩
structure kP (z TI TO i1 i2:Addr):Prop where
 a1:TI≠z
 a2:TO≠z
 a3:i1≠z
 a4:i2≠z
 a5:TI≠TO
 a6:TI≠i1
 a7:TI≠i2
 a8:TO≠i1
 a9:TO≠i2
 a0:i1≠i2
def xq (z TI TO i1 i2 a b:Addr)(i:Nat)(h:Heap):Prop:=IsZip h z TI TO .none/\IsPair h TI (.ref i1) (.ref i2)/\(∃ u v,IsPair h TO u v)/\h.IsListIter i1 a i/\h.IsListIter i2 b i
theorem X9 {h:Heap}{a b:Addr}{o p:Obj}(ga:h.get? a=some o)(gb:h.get? b=some p)(n:o.cls≠p.cls):a≠b:=λe=>n (by rw[e] at ga;rw[Option.some.inj (ga.symm.trans gb)])
theorem Xx {h:Heap}{z TI TO i1 i2 a b:Addr}{i:Nat}{xs ys:Array Value}(F:kP z TI TO i1 i2)(st:xq z TI TO i1 i2 a b i h)(ha:h.IsList a xs)(hb:h.IsList b ys):ZipApart z TI TO i1 i2 a b:=by
 obtain⟨s1,s2,⟨u,v,s3⟩,⟨o4,s4,c4,_⟩,⟨o5,s5,c5,_⟩⟩:=st;obtain⟨oa,ga,ca,_⟩:=ha;obtain⟨ob,gb,cb,_⟩:=hb;exact⟨F.a1,F.a2,F.a3,F.a4,F.a5,F.a6,F.a7,F.a8,F.a9,F.a0,X9 ga s1 (by rw[ca];show Value.type "list" ≠ .type "zip";decide),X9 ga s3 (by rw[ca];show Value.type "list" ≠ .type "tuple";decide),X9 ga s4 (by rw[ca,c4];decide),X9 ga s5 (by rw[ca,c5];decide),
  X9 gb s1 (by rw[cb];show Value.type "list" ≠ .type "zip";decide),X9 gb s3 (by rw[cb];show Value.type "list" ≠ .type "tuple";decide),X9 gb s4 (by rw[cb,c4];decide),X9 gb s5 (by rw[cb,c5];decide)⟩
theorem qb {P:Program}{w:World}{K:qF}{elts:List Expr}{x1}{tp:Pos}{z TI TO i1 i2 a b:Addr}(F:kP z TI TO i1 i2):eG P w K (.Tuple elts x1 tp) (lC K a b) [z,TI,TO,i1,i2] z (xq z TI TO i1 i2 a b) where
 mem:=by simp
 obj:=λi h st c hc=>by
  obtain⟨s1,s2,⟨u,v,s3⟩,⟨o4,s4,_,d4⟩,⟨o5,s5,_,d5⟩⟩:=st;simp only[List.mem_cons,qk,or_false] at hc;rcases hc with rfl | rfl | rfl | rfl | rfl
  ·exact⟨_,s1,λv=>nofun⟩
  ·exact⟨_,s2,λv=>nofun⟩
  ·exact⟨_,s3,λv=>nofun⟩
  ·exact⟨_,s4,λv e=>by rw[d4] at e;cases e⟩
  ·exact⟨_,s5,λv e=>by rw[d5] at e;cases e⟩
 keep:=λi h h' st k=>by
  obtain⟨s1,s2,⟨u,v,s3⟩,s4,s5⟩:=st;exact⟨k _ (by simp) _ s1,k _ (by simp) _ s2,⟨u,v,k _ (by simp) _ s3⟩,s4.at λo e=>k _ (by simp) o e,s5.at λo e=>k _ (by simp) o e⟩
 item:=by
  intro X hP hw hK hc i pins s σ H E I hf st hg;subst hP hw hK;obtain⟨xs,ys,x,y,hx,hy,ex,ey⟩:=hg;obtain⟨itx,rx,px,_⟩:=I.list hx;obtain⟨ity,ry,py,_⟩:=I.list hy;obtain⟨u,eu,ru⟩:=rx.get ex;obtain⟨v,ev,rv⟩:=ry.get ey;have D:=Xx F st px.isList py.isList;obtain⟨s1,s2,⟨p,q,s3⟩,s4,s5⟩:=st;refine wpAny_pyNext_zip_item D s1 s2 s3 s4 s5 px.isList py.isList (x:=u) (y:=v) (by simpa using eu) (by simpa using ev) λh1 b1 b2 b3 b4 b5 b6 kp=>?_
  refine⟨_,rfl,wpAny_letOwnedTupleGo_zip b1 λh2 c1 sb=>?_⟩;have sb:Heap.SameBut z h1 h2:=sb;have zl:s.heap.objs.size≠z:=Nat.ne_of_gt (Heap.lt_size s1);have fr:H s.heap.objs.size=none:=I.hok.fresh (qR _);have k2:∀ c o,c∉[z,TI,TO,i1,i2]->s.heap.get? c=some o->h2.get? c=some o:=λc o n e=>by
   simp only[List.mem_cons,qk,or_false,not_or] at n;exact(sb.2 c n.1).trans (kp c o n.1 n.2.2.1 n.2.2.2.1 n.2.2.2.2 e)
  have T2:IsPair h2 TI (.ref i1) (.ref i2):=(sb.2 _ F.a1).trans (kp _ _ F.a1 F.a5 F.a6 F.a7 s2);refine⟨.ref s.heap.objs.size,_,I.tupBut (t':=s.toks) hf k2 (vs:=[x,y]) (its:=[u,v]) (by show 2<=sizeLine;decide) (.cons ru (.cons rv .nil)) ⟨_,(sb.2 _ zl).trans b5,rfl,_,rfl⟩,rfl,⟨_,x,y,rfl,fr,rfl,λxs' ys' hx' hy'=>by rw[I.list_inj hx' hx,I.list_inj hy' hy];exact⟨ex,ey⟩⟩,
   ⟨c1,T2,⟨_,_,(sb.2 _ F.a2).trans b2⟩,b3.extBut sb.extBut F.a3,b4.extBut sb.extBut F.a4⟩,λc hcm=>?_⟩
  have nb:c≠s.heap.objs.size:=by
   obtain⟨o4,g4,_⟩:=s4;obtain⟨o5,g5,_⟩:=s5;simp only[List.mem_cons,qk,or_false] at hcm;rcases hcm with rfl | rfl | rfl | rfl | rfl
   ·exact zl.symm
   ·exact Nat.ne_of_lt (Heap.lt_size s2)
   ·exact Nat.ne_of_lt (Heap.lt_size s3)
   ·exact Nat.ne_of_lt (Heap.lt_size g4)
   ·exact Nat.ne_of_lt (Heap.lt_size g5)
  rw[u6 nb];exact(hf c hcm).1
 done:=by
  intro X hP hw hK hc i pins s σ H E I hf st hg;subst hP hw hK;obtain⟨xs,ys,hx,hy,he⟩:=hg;obtain⟨itx,rx,px,_⟩:=I.list hx;obtain⟨ity,ry,py,_⟩:=I.list hy;have D:=Xx F st px.isList py.isList;obtain⟨s1,s2,⟨p,q,s3⟩,s4,s5⟩:=st;have l1:=rx.length;have l2:=ry.length;refine wpAny_pyNext_zip_end (I.ok.hd hc) D s1 s2 s3 s4 s5 px.isList py.isList (he.imp (λh=>by simp;omega) λh=>by simp;omega) λh1 kp=>⟨rfl,?_⟩
  have off:∀ b u,H b=some u->b∉[z,TI,TO,i1,i2]:=λb u h m=>by rw[(hf b m).1] at h;cases h
  have k2:∀ c o,c∉[z,TI,TO,i1,i2]->s.heap.get? c=some o->h1.get? c=some o:=λc o n e=>by
   simp only[List.mem_cons,qk,or_false,not_or] at n;exact kp c o n.1 n.2.2.1 n.2.2.2.1 n.2.2.2.2 e
  exact I.step (g':=s.gens) (d':=s.drawn) (t':=s.toks) (ch:=[z,TI,TO,i1,i2]) (λb hb=>⟨(hf b hb).2.2.2.1,(hf b hb).2.1,(hf b hb).2.2.2.2⟩) (λb o _ _ n e _=>k2 b o n e) (λb o _ _ n e _=>⟨o.slots,k2 b o n e⟩) (λ_ _ _ _ n=>n)
   (λb o n e=>⟨o,k2 b o n e⟩) (λ_ _ h=>h) (λ_ _ _ h=>h) (λ_ ps h=>⟨#[],by rw[h];simp⟩) (λm hm=>hm.at λo e=>k2 _ o (λn=>(hf _ n).2.1 rfl) e) (λb u h=>(I.hok b u h).stay (λc v hc q=>k2 c v (hc.elim (λe=>e▸off b u h) λe=>off c _ e) q) (λ_ h=>h) λ_ _ h=>h) I.bare
 self:=λ_ _ _ _ _ st h=>wpAny_pyIter_zip st.1 h
theorem Ka:bootBuiltins "zip"=some (.type "zip"):=by decide +kernel
def Zx (K:qF)(ta:TA):TI:=fun σ H R=>ta σ H λvs H1=>∃ a b,vs=[.ref a,.ref b]/\(∃ xs,d0 K H1 a xs)/\(∃ ys,d0 K H1 b ys)/\R (lC K a b) H1
theorem yqS {elts:List Expr}{x1}{tp:Pos}{a b:Expr}{ta:TA}{p pos:Pos}(hg:Gl X "zip")(hm:X.mg "zip"=none)(ha:PA X [a,b] ta)(hs:starEach [a,b] X.env=[(false,eval a X.env),(false,eval b X.env)]:=by rfl)(hs2:starEach [b] X.env=[(false,eval b X.env)]:=by rfl) :
  PI X (.Tuple elts x1 tp) (.Call (.Name "zip" p) [a,b] [] pos) (Zx X.K ta):=by
 intro pins s σ H R I h;refine Call_ (hU I hg hm Ka (PyProof.Rows.callWith_type1 (t6 (ha pos pins s σ H _ I h) λus s1 zq=>?_) (by rw[hs,hs2]) (by rw[hs2];rfl)));obtain⟨vs,H1,I1,r1,q1⟩:=zq;obtain⟨la,lb,e,⟨xs,hx⟩,⟨ys,hy⟩,q⟩:=q1;subst e;obtain⟨u,v,rfl,ru,rv⟩:=jC r1;cases ru;cases rv;obtain⟨itx,rx,px,_⟩:=I1.list hx;obtain⟨ity,ry,py,_⟩:=I1.list hy;refine call_zip_2 px.isList py.isList λh' b1 b2 b3 b4 b5 sz kp=>wpAny_pyIter_zip b1 ?_
 have lt:∀ n,R0 X pins H1 (s1.heap.objs.size+n):=λn=>I1.fpOk (Nat.le_add_right _ _) (I1.hok.fresh (Nat.le_add_right _ _))
 have ne:∀ {n m:Nat},n≠m->s1.heap.objs.size+n≠s1.heap.objs.size+m:=λh e=>h (Nat.add_left_cancel e)
 refine⟨_,[s1.heap.objs.size+4,s1.heap.objs.size+2,s1.heap.objs.size+3,s1.heap.objs.size+0,s1.heap.objs.size+1],_,_,H1,rfl,I1.kept (t':=s1.toks) kp,qb ⟨ne (by decide),ne (by decide),ne (by decide),ne (by decide),ne (by decide),ne (by decide),ne (by decide),ne (by decide),ne (by decide),ne (by decide)⟩,⟨b1,b2,⟨_,_,b3⟩,b4,b5⟩,λc hc=>?_,q⟩;simp only[List.mem_cons,qk,or_false] at hc;rcases hc with rfl | rfl | rfl | rfl | rfl<;>exact lt _
theorem ylI {K:qF}{a b D:Addr}{xs ys:List V}{g:TG}{tc:TT}{te:TE}{Fin:Hp->Prop}{σ:St}{H:Hp}(Pv:Nat->St->Hp->Prop)(h0:Pv 0 σ H)(hl:∀ i σ H,Pv i σ H->d0 K H a xs/\d0 K H b ys)
  (hs:∀ i x y σ H p,xs[i]?=some x->ys[i]?=some y->Pv i σ H->H p=none->g (.ref p) σ (upd H p (.tup [x,y])) fun σ2 H2=>tc σ2 H2 λb H3=>if b=true then te σ2 H3 λy H4=>∃ ys,H4 D=some (.lst ys)/\ys.length < sizeLine/\Pv (i+1) σ2 (upd H4 D (.lst (ys++[y]))) else Pv (i+1) σ2 H3)
  (hd:∀ i σ H,i=min xs.length ys.length->Pv i σ H->Fin H):∃ W:Nat->Nat->St->Hp->Prop,(∃ m,W 0 m σ H)/\T9 (lC K a b) g tc te D Fin W:=by
 refine⟨λi m σ H=>m=min xs.length ys.length - i/\i<=min xs.length ys.length/\Pv i σ H,⟨min xs.length ys.length,by simp,Nat.zero_le _,h0⟩,?_⟩;rintro i m σ H ⟨rfl,hi,p⟩;obtain⟨q1,q2⟩:=hl i σ H p;by_cases hlt:i < min xs.length ys.length
 ·have l1:i < xs.length:=by omega
  have l2:i < ys.length:=by omega
  refine .inr ⟨⟨xs,ys,xs[i],ys[i],q1,q2,by simp[l1],by simp[l2]⟩,Pv (i+1),fun σ' H' p'=>⟨min xs.length ys.length - (i+1),by omega,rfl,hlt,p'⟩,λx H' y=>?_⟩;obtain⟨c,v,u,e1,e2,e3,y⟩:=y;subst e1 e3;obtain⟨y1,y2⟩:=y xs ys q1 q2;exact hs i v u σ H c y1 y2 p e2
 ·exact .inl ⟨⟨xs,ys,q1,q2,by omega⟩,hd i σ H (by omega) p⟩
end
def wZ:Int×Int->DictEntry->Bool
 | (k,v),⟨h,.int k' _,.int v' _⟩=>decide (h=hashInt k)&&decide (k=k')&&decide (v=v')
 | _,_=>false
def qD:List (Int×Int)->List DictEntry->Bool
 | [],[]=>true
 | q :: qs,e :: es=>wZ q e&&qD qs es
 | _,_=>false
structure gN (K:qF) (a:Addr) (qs:List (Int×Int)):Prop where
 ne:(a==sysModules)=false
 nd:(qs.map (·.1)).Nodup
 at':∃ (es:Array DictEntry) (ep:Nat),K.lookup a=some ⟨.type "dict",none,.dict es ep,#[]⟩/\qD qs es.toList=true
theorem ymn {q:Int×Int}{e:DictEntry}(h:wZ q e=true):∃ t t',e=⟨hashInt q.1,.int q.1 t,.int q.2 t'⟩:=by
 obtain⟨k,v⟩:=q;obtain⟨hh,kk,vv⟩:=e;cases kk<;>cases vv<;>simp[wZ] at h;obtain⟨⟨h1,h2⟩,h3⟩:=h;subst h1 h2 h3;exact⟨_,_,rfl⟩
theorem yW {prog:Program}{w:World}:∀ {qs:List (Int×Int)} {es:List DictEntry},qD qs es=true ->
  ∃ vs:List (Int×Value),vs.map (·.1)=qs.map (·.1)/\Pairs (intKind prog w) es vs/\(∀ e∈es,∃ k,(intKind prog w).is k e.key=true/\e.hash=(intKind prog w).hash k) /\
   ∀ i:Nat,∀ k v,qs[i]?=some (k,v)->∃ t,vs[i]?=some (k,.int v t)
 | [],[],_=>⟨[],rfl,.nil,λe h=>(nomatch h),λi k v h=>by simp at h⟩
 | q :: qs,e :: es,h=>by
  rw[qD,Bool.and_eq_true] at h;obtain⟨t,t',rfl⟩:=ymn h.1;obtain⟨vs,h1,h2,h3,h4⟩:=yW (prog:=prog) (w:=w) h.2;have hi:(intKind prog w).is q.1 (.int q.1 t)=true:=by simp[intKind,Value.isInt]
  refine⟨(q.1,.int q.2 t') :: vs,by simp[h1],.cons hi rfl h2,λe he=>?_,λi k v hx=>?_⟩
  ·rcases List.mem_cons.mp he with rfl | he
   ·exact⟨q.1,hi,rfl⟩
   ·exact h3 e he
  ·cases i with
   | zero=>
    rw[List.getElem?_cons_zero] at hx |-;cases hx;exact⟨t',rfl⟩
   | succ i=>
    rw[List.getElem?_cons_succ] at hx |-;exact h4 i k v hx
 | [],_ :: _,h=>by cases h
 | _ :: _,[],h=>by cases h
theorem gN.dict {K:qF}{a:Addr}{qs:List (Int×Int)}{prog:Program}{w:World}{h:Heap}(d:gN K a qs)(X:K.In h) :
  ∃ vs ep,h.DictAt (intKind prog w) a vs ep/\vs.map (·.1)=qs.map (·.1)/\∀ i:Nat,∀ k v,qs[i]?=some (k,v)->∃ t,vs[i]?=some (k,.int v t):=by
 obtain⟨es,ep,l,b⟩:=d.at';obtain⟨vs,h1,h2,h3,h4⟩:=yW (prog:=prog) (w:=w) b;exact⟨vs,ep,⟨_,es,X a _ l,⟨rfl,rfl,rfl⟩,rfl,λe he=>h3 e (by simpa using he),h2,by rw[h1];exact d.nd⟩,h1,h4⟩
section
variable {X:Cx}
end
section
variable {X:Cx} {pins l:List (Addr×Obj)} {σ:St} {H:Hp} {s:Shared} {A:Around} {E:Value->Shared->Prop} {a kS:Addr} {b:Bool} {vs:List Value} {kz:List Int} {e1 n:Nat} {f:Value}
end
section
variable {X:Cx} {tg:Expr}
end
section
variable {prog:Program} {w:World} {A:Around} {E:Value->Shared->Prop} {s:Shared}
end
section
variable {X:Cx} {tg:Expr}
end
theorem cJ {K:qF}{a:Addr}{xs:List V}{g:TG}{tb:TS}{D:S0}{σ:St}{H:Hp}(Pv:Nat->St->Hp->Prop)(h0:Pv 0 σ H)(hl:∀ i σ H,i<=xs.length->Pv i σ H->d0 K H a xs)
  (hs:∀ i x σ H (N:St->Hp->Prop),(∀ σ' H',Pv (i+1) σ' H'->N σ' H')->xs[i]?=some x->Pv i σ H->g x σ H fun σ2 H2=>tb { D with nx:=N,ct:=N,bk:=D.nx } σ2 H2) (hd:∀ σ H,Pv xs.length σ H->D.nx σ H) :
  ∃ W:Nat->Nat->St->Hp->Prop,(∃ m,W 0 m σ H)/\∀ i m σ H,W i m σ H ->
   ((V9 K a).stop i H/\D.nx σ H)∨((V9 K a).go i H/\∃ N:St->Hp->Prop,(∀ σ' H',N σ' H'->∃ m',m' < m/\W (i+1) m' σ' H')/\∀ x H',(V9 K a).yld i H x H'->g x σ H' fun σ2 H2=>tb { D with nx:=N,ct:=N,bk:=D.nx } σ2 H2) :=
 ylN Pv h0 hl (λi x σ H hx p=>hs i x σ H _ (λ_ _ z=>z) hx p) hd
theorem je {lo:Int}{n:Nat}{g:TG}{tb:TS}{D:S0}{σ:St}{H:Hp}(Pv:Nat->St->Hp->Prop)(h0:Pv 0 σ H)
  (hs:∀ i σ H (N:St->Hp->Prop),(∀ σ' H',Pv (i+1) σ' H'->N σ' H')->i < n->Pv i σ H->g (.int (lo+i)) σ H fun σ2 H2=>tb { D with nx:=N,ct:=N,bk:=D.nx } σ2 H2) (hd:∀ σ H,Pv n σ H->D.nx σ H) :
  ∃ W:Nat->Nat->St->Hp->Prop,(∃ m,W 0 m σ H)/\∀ i m σ H,W i m σ H ->
   ((aI lo n).stop i H/\D.nx σ H)∨((aI lo n).go i H/\∃ N:St->Hp->Prop,(∀ σ' H',N σ' H'->∃ m',m' < m/\W (i+1) m' σ' H')/\∀ x H',(aI lo n).yld i H x H'->g x σ H' fun σ2 H2=>tb { D with nx:=N,ct:=N,bk:=D.nx } σ2 H2) :=
 yjv Pv h0 (λi σ H hx p=>hs i σ H _ (λ_ _ z=>z) hx p) hd
theorem iH {K:qF}{a D:Addr}{xs:List V}{g:TG}{tc:TT}{te:TE}{Fin:Hp->Prop}{σ:St}{H:Hp}(Pv:Nat->St->Hp->Prop)(h0:Pv 0 σ H)(hl:∀ i σ H,i<=xs.length->Pv i σ H->d0 K H a xs)
  (hs:∀ i x σ H (N:St->Hp->Prop),(∀ σ' H',Pv (i+1) σ' H'->N σ' H')->xs[i]?=some x->Pv i σ H->g x σ H fun σ2 H2=>tc σ2 H2 λb H3=>if b=true then te σ2 H3 λy H4=>∃ ys,H4 D=some (.lst ys)/\ys.length < sizeLine/\N σ2 (upd H4 D (.lst (ys++[y]))) else N σ2 H3)
  (hd:∀ σ H,Pv xs.length σ H->Fin H):∃ W:Nat->Nat->St->Hp->Prop,(∃ m,W 0 m σ H)/\T9 (V9 K a) g tc te D Fin W :=
 yjX Pv h0 hl (λi x σ H hx p=>hs i x σ H _ (λ_ _ z=>z) hx p) hd
section
variable {X:Cx}
theorem C_:∀ {ns:List Int} {us:List Value},f8 (ns.map V.int) us->IntsAre us ns
 | [],_,.nil=>.nil
 | n :: ns,_,.cons ⟨t,e⟩ r=>by subst e;exact IntsAre.cons _ _ (C_ r)
def xf (K:qF)(R:Int->Int->Prop):List V->Hp->VK->Prop:=λxs H Q=>∃ (p:Addr) (ns:List Int),xs=[.ref p]/\d0 K H p (ns.map V.int)/\0 < ns.length/\∀ m,m∈ns->(∀ a∈ns,R a m)->Q (.int m) H
theorem EZ {ys:Array (Int×Tok)}{j:Nat}(h:j < ys.size):numAt ys j∈ys.toList.map (·.1) :=
 List.mem_map.mpr ⟨ys[j],by simp,by simp[numAt,h]⟩
theorem ykA {ys:Array (Int×Tok)}{a:Int}(h:a∈ys.toList.map (·.1)):∃ j,j < ys.size/\a=numAt ys j:=by
 obtain⟨q,hq,rfl⟩:=List.mem_map.mp h;obtain⟨j,lt,e⟩:=List.getElem_of_mem hq;have lt':j < ys.size:=by simpa using lt
 refine⟨j,lt',?_⟩;rw[<- e];simp only[numAt,Array.getElem_toList,Array.getElem?_eq_getElem lt'];rfl
theorem Wl {nm:String}{pick:(Nat->Int)->Nat->Nat}{R:Int->Int->Prop}
  (rule:∀ {s:Shared} {l:Addr} {ys:Array (Int×Tok)} {E:Value->Shared->Prop} {Q:Value->Shared->Prop},s.heap.IsList l (intItems ys)->0 < ys.size->(∀ v h' tk,(intItems ys)[pick (numAt ys) (ys.size - 1)]?=some v->(∀ b o,s.heap.get? b=some o->h'.get? b=some o)->Q v { s with heap:=h',toks:=tk })->wpAny (model X.prog X.w) X.A (call (.builtin nm) [.ref l]) Q E s)
  (best:∀ num k,pick num k<=k/\∀ j,j<=k->R (num j) (num (pick num k))):P7 X (.builtin nm) (xf X.K R):=by
 intro pins s σ H xs us Q I r h;obtain⟨p,ns,rfl,hq,one,q⟩:=h;obtain⟨u,rfl,ru⟩:=fQ r;cases ru;obtain⟨its,rv,pl,hz⟩:=I.list hq;have ia:=C_ rv;obtain⟨ys,e⟩:=ia.allInts.items;have all:ns=ys.toList.map (·.1):=by
  rw[<- ia.numsOf,show numsOf its=numsOf its.toArray.toList from rfl,e];exact nums_intItems ys
 subst all;have many:0 < ys.size:=by simpa using one
 obtain⟨b1,b2⟩:=best (numAt ys) (ys.size - 1);refine rule (e▸pl.isList) many λv h' tk hv hk=>?_
 obtain⟨t,rfl⟩:=intItems_at hv;refine⟨.int _,H,I.kept (t':=tk) hk,⟨t,rfl⟩,q _ (EZ (by omega)) λa ha=>?_⟩;obtain⟨j,lt,rfl⟩:=ykA ha;exact b2 j (by omega)
theorem js (hn:X.A.handled=none):P7 X (.builtin "max") (xf X.K (λa m=>a<=m)) :=
 Wl (pick:=λnum k=>argBest (λi j=>decide (num i > num j)) k) (λhl ne q=>max_intList hn hl ne q) λnum k=>argBest_gt num k
end
section
variable {κ:Type} [DecidableEq κ]
def dC (kvs:List (κ×V))(k:κ):Option V:=(kvs.find? λkv=>decide (kv.1=k)).map (·.2)
def cC (kvs:List (κ×V))(k:κ)(v:V):List (κ×V) :=
 if (kvs.any λkv=>decide (kv.1=k))=true then kvs.map (λkv=>if kv.1=k then (kv.1,v) else kv) else kvs++[(k,v)]
def Kn (kvs:List (κ×V))(k:κ):List (κ×V):=kvs.filter λkv=>decide (kv.1≠k)
theorem Vg {p:κ×V}{r:List (κ×V)}{k:κ}(e:p.1=k):dC (p :: r) k=some p.2:=by simp[dC,List.find?_cons,e]
theorem yS {p:κ×V}{r:List (κ×V)}{k:κ}(e:¬ p.1=k):dC (p :: r) k=dC r k:=by simp[dC,List.find?_cons,e]
theorem yhm (kvs:List (κ×V))(k:κ)(v:V):(cC kvs k v).length<=kvs.length+1:=by
 unfold cC;split
 ·rw[qM];omega
 ·rw[qA,qC,List.length_nil];omega
theorem I0.getD {o:Option V}{u:Option Value}{d:V}{d':Value}(r:I0 o u)(rd:g9 d d'):g9 (o.getD d) (u.getD d'):=by
 cases o with
 | none=>cases u with
  | none=>exact rd
  | some _=>exact(show False from r).elim
 | some _=>cases u with
  | none=>exact(show False from r).elim
  | some _=>exact r
theorem KV.val {kvs:List (κ×V)}{vs:List (κ×Value)}(r:KV kvs vs)(k:κ):I0 (dC kvs k) (valueAt vs k):=by
 unfold KV at r
 induction r with
 | nil=>exact True.intro
 | @cons p q ps qs h t ih=>
  obtain⟨h1,h2⟩:=h;by_cases e:p.1=k
  ·have e':q.1=k:=h1.symm.trans e;have b:valueAt (q :: qs) k=some q.2:=by simp[valueAt,List.find?_cons,e']
   rw[Vg e,b];exact h2
  ·have e':¬ q.1=k:=λz=>e (h1.trans z)
   have b:valueAt (q :: qs) k=valueAt qs k:=by simp[valueAt,List.find?_cons,e']
   rw[yS e,b];exact ih
theorem KV.any {kvs:List (κ×V)}{vs:List (κ×Value)}(r:KV kvs vs)(k:κ):(kvs.any λkv=>decide (kv.1=k))=vs.any λkv=>decide (kv.1=k):=by
 unfold KV at r
 induction r with
 | nil=>rfl
 | cons h t ih=>rw[List.any_cons,List.any_cons,ih,h.1]
theorem KV.repl {kvs:List (κ×V)}{vs:List (κ×Value)}(r:KV kvs vs)(k:κ){y:V}{u:Value}(ry:g9 y u) :
  KV (kvs.map λkv=>if kv.1=k then (kv.1,y) else kv) (vs.map λkv=>if kv.1=k then (kv.1,u) else kv):=by
 unfold KV at r |-
 induction r with
 | nil=>exact .nil
 | @cons p q ps qs h t ih=>
  rw[List.map_cons,List.map_cons];refine .cons ?_ ih;obtain⟨h1,h2⟩:=h;by_cases e:p.1=k
  ·rw[if_pos e,if_pos (h1.symm.trans e)];exact⟨h1,ry⟩
  ·rw[if_neg e,if_neg (λz=>e (h1.trans z))];exact⟨h1,h2⟩
theorem KV.put {kvs:List (κ×V)}{vs:List (κ×Value)}(r:KV kvs vs)(k:κ){y:V}{u:Value}(ry:g9 y u):KV (cC kvs k y) (stored vs k u):=by
 unfold cC stored;rw[r.any k];by_cases e:(vs.any λkv=>decide (kv.1=k))=true
 ·rw[if_pos e,if_pos e];exact r.repl k ry
 ·rw[if_neg e,if_neg e];exact Paired.snoc r ⟨rfl,ry⟩
theorem KV.drop {kvs:List (κ×V)}{vs:List (κ×Value)}(r:KV kvs vs)(k:κ):KV (Kn kvs k) (without vs k):=by
 unfold KV at r |-;unfold Kn without
 induction r with
 | nil=>exact .nil
 | @cons p q ps qs h t ih=>
  obtain⟨h1,h2⟩:=h;rw[List.filter_cons,List.filter_cons];by_cases e:p.1=k
  ·have a:¬ decide (p.1≠k)=true:=by simp[e]
   have b:¬ decide (q.1≠k)=true:=by simp[h1.symm.trans e]
   rw[if_neg a,if_neg b];exact ih
  ·have e':¬ q.1=k:=λz=>e (h1.trans z)
   have a:decide (p.1≠k)=true:=by simp[e]
   have b:decide (q.1≠k)=true:=by simp[e']
   rw[if_pos a,if_pos b];exact .cons ⟨h1,h2⟩ ih
theorem KV.keys {kvs:List (κ×V)}{vs:List (κ×Value)}(r:KV kvs vs):kvs.map (·.1)=vs.map (·.1):=by
 unfold KV at r
 induction r with
 | nil=>rfl
 | cons h t ih=>rw[List.map_cons,List.map_cons,ih,h.1]
theorem KV.length {kvs:List (κ×V)}{vs:List (κ×Value)}(r:KV kvs vs):kvs.length=vs.length:=Paired.length r
end
theorem ys2 {P:Program}{w:World}{k:C5}{u:Value}(r:g9 (kV k) u):(eS P w).is k u=true:=by
 cases k with
 | inl i=>obtain⟨t,e⟩:=(show ∃ t,u=Value.int i t from r);subst e;exact yhC P w i t
 | inr x=>obtain⟨t,e⟩:=(show ∃ t,u=Value.str x t from r);subst e;exact yhj P w x t
abbrev KT (H:Hp):List (List C5×V)->List (List C5×Addr×Value)->Prop:=Paired λp q=>p.1=q.1/\H q.2.1=some (.tup (p.1.map kV))/\g9 p.2 q.2.2
theorem KT.val {H:Hp}{kvs:List (List C5×V)}{xs:List (List C5×Addr×Value)}(r:KT H kvs xs)(k:List C5):I0 (dC kvs k) ((atKey xs k).map (·.2)):=by
 induction r with
 | nil=>exact True.intro
 | @cons p q ps qs h t ih=>
  obtain⟨h1,_,h2⟩:=h;by_cases e:p.1=k
  ·have e':q.1=k:=h1.symm.trans e;have b:atKey (q :: qs) k=some q.2:=by simp[atKey,List.find?_cons,e']
   rw[Vg e,b];exact h2
  ·have e':¬ q.1=k:=λz=>e (h1.trans z)
   have b:atKey (q :: qs) k=atKey qs k:=by simp[atKey,List.find?_cons,e']
   rw[yS e,b];exact ih
theorem KT.keeps {H H':Hp}{kvs:List (List C5×V)}{xs:List (List C5×Addr×Value)}(r:KT H kvs xs)(ht:∀ b ys,H b=some (.tup ys)->H' b=some (.tup ys)):KT H' kvs xs :=
 Paired.mapP r λ_ _ z=>⟨z.1,ht _ _ z.2.1,z.2.2⟩
section
variable {P:Program} {w:World} {H:Hp} {h:Heap} {a:Addr}
theorem ysK {u:HO}(ok:C9 P w H h)(e:Rd H a u):t0 P w H h a u:=e.ok ok
theorem ytJ {kvs:List (C5×V)}(ok:C9 P w H h)(e:Rd H a (.dK kvs)):kvs.length<=sizeLine/\(a==sysModules)=false/\∃ vs,KV kvs vs/\h.DictOf (eS P w) a vs :=
 show t0 P w H h a (.dK kvs) from ysK ok e
theorem ytQ {kvs:List (C5×V)}(ok:C9 P w H h)(e:H a=some (.dK kvs)):kvs.length<=sizeLine/\(a==sysModules)=false/\∃ vs,KV kvs vs/\h.DictOf (eS P w) a vs:=ytJ ok (.inl e)
end
def fG (H:Hp)(a:Addr)(y:V)(r:Option V):Prop :=
 (∃ kvs k,Rd H a (.dK kvs)/\y=kV k/\r=dC kvs k)∨∃ kvs k b,Rd H a (.dT kvs)/\y=.ref b/\H b=some (.tup (k.map kV))/\r=dC kvs k
def fW (H:Hp)(a:Addr)(y v:V)(H':Hp):Prop :=
 (∃ kvs k,H a=some (.dK kvs)/\y=kV k/\kvs.length < sizeLine/\H'=upd H a (.dK (cC kvs k v))) ∨
 ∃ kvs k b,H a=some (.dT kvs)/\y=.ref b/\H b=some (.tup (k.map kV))/\kvs.length < sizeLine/\H'=upd H a (.dT (cC kvs k v))
theorem fG.k {H:Hp}{a:Addr}{kvs:List (C5×V)}{k:C5}(e:H a=some (.dK kvs)):fG H a (kV k) (dC kvs k):=.inl ⟨kvs,k,.inl e,rfl,rfl⟩
theorem fG.t {H:Hp}{a b:Addr}{kvs:List (List C5×V)}{k:List C5}(e:H a=some (.dT kvs))(eb:H b=some (.tup (k.map kV))):fG H a (.ref b) (dC kvs k):=.inr ⟨kvs,k,b,.inl e,rfl,eb,rfl⟩
theorem fW.k {H:Hp}{a:Addr}{kvs:List (C5×V)}{k:C5}{v:V}(e:H a=some (.dK kvs))(hl:kvs.length < sizeLine):fW H a (kV k) v (upd H a (.dK (cC kvs k v))):=.inl ⟨kvs,k,e,rfl,hl,rfl⟩
theorem fW.t {H:Hp}{a b:Addr}{kvs:List (List C5×V)}{k:List C5}{v:V}(e:H a=some (.dT kvs))(eb:H b=some (.tup (k.map kV)))(hl:kvs.length < sizeLine) :
  fW H a (.ref b) v (upd H a (.dT (cC kvs k v))):=.inr ⟨kvs,k,b,e,rfl,eb,hl,rfl⟩
section
variable {X:Cx} {pins:List (Addr×Obj)} {σ:St} {H:Hp} {s:Shared} {a:Addr} {y v:V} {u r:Value} {o:Option V} {A:Around} {E:Value->Shared->Prop}
theorem Yp {h':Heap}{t':Nat}{ob:HO}(I:f6 X pins σ H s)(mu:nS (H a))(hs:Heap.SameBut a s.heap h')(he:∃ q,h'.get? a=some q)(new:t0 X.prog X.w (upd H a ob) h' a ob) :
  f6 X pins σ (upd H a ob) { s with heap:=h',toks:=t' } :=
 I.write (x:=a) (e:=a) mu (.inl rfl) (λb q hb z=>(hs.2 b hb).trans z) he new
theorem yrp {P:Program}{w:World}{H':Hp}{h':Heap}{kvs:List (C5×V)}{vs:List (C5×Value)}(z:kvs.length<=sizeLine)(hd:(a==sysModules)=false)(rel:KV kvs vs)(dd:h'.DictOf (eS P w) a vs) :
  t0 P w H' h' a (.dK kvs):=⟨z,hd,vs,rel,dd⟩
end
section
variable {X:Cx} {pins:List (Addr×Obj)} {σ:St} {H:Hp} {s:Shared} {a:Addr} {kvs:List (C5×V)} {k:C5} {u:Value} {A:Around} {E:Value->Shared->Prop}
end
section
variable {X:Cx} {o i e value:Expr} {pos pos' tpos:Pos} {td ty tv:TE}
end
def vG:List (TE×TE)->St->Hp->(List (V×V)->Hp->Prop)->Prop
 | [],_,H,Q=>Q [] H
 | (tk,tv) :: r,σ,H,Q=>tk σ H λx H1=>tv σ H1 λy H2=>vG r σ H2 λps H3=>Q ((x,y) :: ps) H3
abbrev VV:List (V×V)->List (Value×Value)->Prop:=Paired λp q=>g9 p.1 q.1/\g9 p.2 q.2
def pX (X:Cx)(pos:Pos)(keys:List (Option Expr))(values:List Expr)(trs:List (TE×TE)):Prop :=
 ∀ (pins:List (Addr×Obj)) (s:Shared) (σ:St) (H:Hp) (Q:List (V×V)->Hp->Prop),f6 X pins σ H s->vG trs σ H Q ->
  wpAny (model X.prog X.w) X.A (evalPairs (pairTrees keys values X.env pos)) (λvs s'=>∃ ps H',f6 X pins σ H' s'/\VV ps vs/\Q ps H') X.xe s
theorem yom {X:Cx}{pos:Pos}:pX X pos [] [] []:=λpins s σ H Q I h=>pairTrees_nil_walk ⟨[],H,I,.nil,h⟩
theorem TQ {X:Cx}{pos:Pos}{k v:Expr}{ks:List (Option Expr)}{vs:List Expr}{tk tv:TE}{trs:List (TE×TE)}(hk:PE X k tk)(hv:PE X v tv)(hr:pX X pos ks vs trs) :
  pX X pos (some k :: ks) (v :: vs) ((tk,tv) :: trs):=λpins s σ H Q I h =>
 pairTrees_cons_walk (t6 (hk pins s σ H _ I h) λu s1 ⟨x,H1,I1,rx,q1⟩=>t6 (hv pins s1 σ H1 _ I1 q1) λw2 s2 ⟨y,H2,I2,ry,q2⟩ =>
  t6 (hr pins s2 σ H2 _ I2 q2) λws s3 ⟨ps,H3,I3,rel,q3⟩=>⟨(x,y) :: ps,H3,I3,.cons ⟨rx,ry⟩ rel,q3⟩)
def nI (kvs more:List (C5×V)):List (C5×V):=more.foldl (λacc kv=>cC acc kv.1 kv.2) kvs
theorem KV.merge:∀ {more:List (C5×V)} {rs:List (C5×Value)} {kvs:List (C5×V)} {vs:List (C5×Value)},KV more rs->KV kvs vs->KV (nI kvs more) (merged vs rs):=by
 intro more rs kvs vs r;unfold KV at r
 induction r generalizing kvs vs with
 | nil=>intro q;exact q
 | @cons p q ps qs h t ih=>
  intro r0;have e:KV (cC kvs p.1 p.2) (stored vs q.1 q.2):=by
   have:=r0.put p.1 h.2;rw[<- h.1];exact this
  exact ih e
theorem Za:∀ (more kvs:List (C5×V)),(nI kvs more).length<=kvs.length+more.length
 | [],kvs=>by show kvs.length<=kvs.length+0;omega
 | p :: r,kvs=>by
  have h1:=Za r (cC kvs p.1 p.2);have h2:=yhm kvs p.1 p.2;show(nI (cC kvs p.1 p.2) r).length<=_
  rw[qC];omega
theorem Zn {P:Program}{w:World}:∀ {kvs:List (C5×V)} {ws:List (Value×Value)},VV (kvs.map λkv=>(kV kv.1,kv.2)) ws->∃ rs,Carries (eS P w) ws rs/\KV kvs rs
 | [],_,r=>by rw[List.map_nil] at r;cases r;exact⟨[],True.intro,.nil⟩
 | p :: kvs,_,r=>by
  rw[List.map_cons] at r;cases r with
  | @cons a b as bs h t=>
   obtain⟨rs,c,q⟩:=Zn (P:=P) (w:=w) t;obtain⟨b1,b2⟩:=b;exact⟨(p.1,b2) :: rs,⟨ys2 h.1,rfl,c⟩,.cons ⟨rfl,h.2⟩ q⟩
def Vw (trs:List (TE×TE)):TE:=fun σ H Q=>∀ p,H p=none->vG trs σ (upd H p (.dK [])) λps H2=>H2 p=some (.dK [])/\∃ kvs:List (C5×V),ps=kvs.map (λkv=>(kV kv.1,kv.2))/\kvs.length<=15/\Q (.ref p) (upd H2 p (.dK (nI [] kvs)))
theorem yn8 {X:Cx}{pos:Pos}{keys:List (Option Expr)}{values:List Expr}{trs:List (TE×TE)}(h:pX X pos keys values trs)(hall:keys.all (·.isSome)=true)(hl:keys.length=values.length)(h0:keys≠[])
  (h15:keys.length<=15):PE X (.Dict keys values pos) (Vw trs):=by
 intro pins s σ H Q I q;have hn:=I.hok.fresh (qR s.heap.objs.size);have I1:=I.laid (a:=s.heap.objs.size) (o:=.dK []) (h':=s.heap.push { cls:=.type "dict",data:=.dict #[] }) (t':=s.toks) (λ_ _ q=>Heap.get?_push_of_some _ q) (qR _) (q_ s.heap I.big);refine wpAny_Dict_walk (knd:=eS X.prog X.w) hall hl h0 h15 (t6 (h pins _ σ _ _ I1 (q _ hn)) λws s2 zq=>?_);obtain⟨ps,H2,I2,rel,e,kvs,ep,lk,q2⟩:=zq;subst ep;obtain⟨rs,c,rk⟩:=Zn (P:=X.prog) (w:=X.w) rel;obtain⟨z,hd,vs0,r0,dd⟩:=ytQ I2.hok e;cases r0;refine⟨rs,c,dd,λh' dd' hs=>⟨.ref s.heap.objs.size,_,?_,rfl,q2⟩⟩;have hz:(nI [] kvs).length<=sizeLine:=by
  have h1:=Za kvs [];rw[List.length_nil] at h1;rw[sizeLine_eq];omega
 have he:∃ q,h'.get? s.heap.objs.size=some q:=let ⟨q,_,_,hq,_⟩:=dd';⟨q,hq⟩
 exact Yp I2 (by rw[e];exact True.intro) hs he (yrp hz hd (rk.merge .nil) dd')
structure M1 (X:Cx) (o:Expr) (m:Str) (apos:Pos) (e:Expr) (cpos:Pos):Prop where
 base:attributeBase o m X.env (eval o X.env)=eval o X.env
 few:((backTo cpos (starEach [e] X.env)).all (λx=>!x.1)&&(backToKw cpos (keywordEach [] X.env)).all (λx=>x.1.isSome)
  && decide (([e]:List Expr).length+([]:List Keyword).length+(if ([]:List Keyword).isEmpty then 0 else 1) < 30))=true
 line:(apos.endLine==cpos.line)=true
 trees:backTo cpos (starEach [e] X.env)=[(false,eval e X.env)]
structure M2 (X:Cx) (o:Expr) (m:Str) (apos:Pos) (e f:Expr) (cpos:Pos):Prop where
 base:attributeBase o m X.env (eval o X.env)=eval o X.env
 few:((backTo cpos (starEach [e,f] X.env)).all (λx=>!x.1)&&(backToKw cpos (keywordEach [] X.env)).all (λx=>x.1.isSome)
  && decide (([e,f]:List Expr).length+([]:List Keyword).length+(if ([]:List Keyword).isEmpty then 0 else 1) < 30))=true
 line:(apos.endLine==cpos.line)=true
 trees:backTo cpos (starEach [e,f] X.env)=[(false,eval e X.env),(false,eval f X.env)]
section
variable {X:Cx} {pins:List (Addr×Obj)} {σ:St} {H:Hp} {s:Shared} {a:Addr} {y d:V} {u r:Value} {o:Option V} {A:Around} {E:Value->Shared->Prop}
end
section
variable {X:Cx} {o e f:Expr} {apos cpos:Pos} {td ty tx:TE}
end
section
variable {prog:Program} {w:World} {A:Around} {E:Value->Shared->Prop} {s:Shared}
end
set_option maxHeartbeats 200000 in
set_option maxHeartbeats 200000 in
section
variable {X:Cx}
set_option maxHeartbeats 400000 in
end
section
variable {X:Cx} {C:Addr->V->Int->Hp->Prop} {e ke:Expr} {te tk:TE} {p pos kp rp bp:Pos} {jb:Nat}
end
end L2
namespace L2
open PySem PySem.Spec PyProof.Rows PySem.SeqAt
open AutoSeq1 (wpAny_loadPart')
open MeetsSeq MeetsSeq2 MeetsSeq3
end L2
namespace L2
open PySem PySem.Spec PyProof.Rows
section
variable {prog:Program} {w:World} {A:Around} {E:Value->Shared->Prop} {s:Shared}
def yrr (A:Around)(s:Shared)(y x:Value)(b:Bool):Prop:=∀ (prog:Program) (w:World) (E:Value->Shared->Prop) (Q:Value->Shared->Prop),Q (.bool b) s->wpAny (model prog w) A (richCompare .Lt y x) Q E s
end
section
variable {X:Cx} {pins l1 l2:List (Addr×Obj)} {σ:St} {H:Hp} {s:Shared} {h':Heap} {a:Addr} {o o':Obj}
end
structure Gn (X:Cx) (σ:St) (A:Around) (f:Value) (vs:List Value) (H:Hp) (KV:Nat->V->Hp->Prop) (lt:Nat->Nat->Bool):Prop where
 call:∀ (i:Nat) (v:Value),vs[i]?=some v->∀ (pins:List (Addr×Obj)) (H1:Hp) (s:Shared),b9 H H1->f6 X pins σ H1 s ->
  wpAny (model X.prog X.w) A (PySem.call f [v]) (λr s'=>∃ k H2,b9 H1 H2/\f6 X pins σ H2 s'/\g9 k r/\KV i k H2) (λ_ _=>False) s
 same:∀ i k H1 H2,KV i k H1->b9 H1 H2->KV i k H2
 cmp:∀ (i j:Nat) (k k':V) (r r':Value) (pins:List (Addr×Obj)) (H1:Hp) (s:Shared),KV i k H1->KV j k' H1->g9 k r->g9 k' r'->f6 X pins σ H1 s->yrr A s r r' (lt i j)
section
variable {X:Cx} {pins:List (Addr×Obj)} {σ:St} {H:Hp} {A:Around} {B J l q:Addr} {vs:List Value} {KV:Nat->V->Hp->Prop} {lt:Nat->Nat->Bool} {R:Result->Shared->Prop}
structure yvk (X:Cx) (pins:List (Addr×Obj)) (σ:St) (H:Hp) (A:Around) (B J l q:Addr) (vs:List Value) (KV:Nat->V->Hp->Prop) (lt:Nat->Nat->Bool):Prop where
 M:Gn X σ A.in1 (.ref q) vs H KV lt
 hh:A.in1.handled=none
 hl:∀ (pins:List (Addr×Obj)) (H1:Hp) (s:Shared),b9 H H1->f6 X pins σ H1 s->s.heap.IsList l vs.toArray
 ne:B≠J
 fB:∀ H1,b9 H H1->H1 B=none->R0 X pins H1 B
 fJ:∀ H1,b9 H H1->H1 J=none->R0 X pins H1 J
end
section
variable {X:Cx} {pins:List (Addr×Obj)} {σ:St} {H:Hp} {s:Shared} {A:Around} {E:Value->Shared->Prop} {l q:Addr} {vs:List Value} {KV:Nat->V->Hp->Prop} {lt:Nat->Nat->Bool} {Q:Value->Shared->Prop}
end
end L2
namespace L2
open PySem PySem.Spec PyProof.Rows PySem.SeqAt
section
variable {X:Cx} {pins:List (Addr×Obj)} {σ:St} {H:Hp} {s:Shared} {A:Around}
end
end L2
namespace L2
open PySem PySem.Spec PyProof.Rows
section
variable {σ:St} {H:Hp} {Q:VK} {D:S0} {ta tb tc te:TE} {r:R2} {v x y:V} {i:Nat} {K:qF}
theorem E9 (e:σ[i]?=some (some v))(q:Q v H):D7 i σ H Q:=⟨v,e,q⟩
theorem Q5 (q:Q v H):tC v σ H Q:=q
theorem M9 (q:ta σ H λx H1=>tb σ H1 λy H2=>r x y H2 Q):R5 r ta tb σ H Q:=q
theorem yu2 {r:V->Hp->VK->Prop}(q:ta σ H λx H1=>r x H1 Q):pF r ta σ H Q:=q
theorem iE {g:Int->Int->V}{a b:Int}(q:Q (g a b) H):Z1 g (.int a) (.int b) H Q:=⟨a,b,rfl,rfl,q⟩
theorem pO {C:Int->Int->Prop}{g:Int->Int->V}{a b:Int}(c:C a b)(q:Q (g a b) H):rI C g (.int a) (.int b) H Q:=⟨a,b,rfl,rfl,c,q⟩
theorem i_U {g:Int->V}{a:Int}(q:Q (g a) H):rU g (.int a) H Q:=⟨a,rfl,q⟩
theorem fD {a b:Int}(q:Q (.bl (decide (a=b))) H):kB (.int a) (.int b) H Q:=⟨rfl,by rw[show decide (V.int a=V.int b)=decide (a=b) by rw[Bool.eq_iff_iff];simp];exact q⟩
theorem E8 {tr:TA}{Q:List V->Hp->Prop}(q:ta σ H λx H1=>tr σ H1 λxs H2=>Q (x :: xs) H2):O3 ta tr σ H Q:=q
theorem M0 {Q:List V->Hp->Prop}(q:Q [] H):Z8 σ H Q:=q
theorem dN {sp:Sp}{E:XK}{t:TA}(q:t σ H λvs H1=>sp (vs++[]) H1 Q E):cI sp [] E t σ H Q:=q
theorem j_ {r:List V->Hp->VK->Prop}{t:TA}(q:t σ H λvs H1=>r vs H1 Q):nQ r t σ H Q:=q
theorem x4 {t u:TS}(q:t { D with nx:=u D } σ H):tH t u D σ H:=q
theorem F9 (q:D.nx σ H):vX D σ H:=q
theorem D8 {g:TG}(q:te σ H λx H1=>g x σ H1 D.nx):bY te g D σ H:=q
theorem A2 {N:St->Hp->Prop}(q:N (σ.set i (some v)) H):G9 i v σ H N:=q
theorem xI (q:te σ H D.rt):wY te D σ H:=q
theorem lN (q:te σ H λ_ H1=>D.nx σ H1):sD te D σ H:=q
theorem W1 {c:TT}{t u:TS}(q:c σ H λb H1=>if b=true then t D σ H1 else u D σ H1):cM c t u D σ H:=q
theorem YQ {c:TT}(q:c σ H λb H1=>if b=true then ta σ H1 Q else tb σ H1 Q):vZ c ta tb σ H Q:=q
theorem dP {R:Bool->Hp->Prop}(q:te σ H λx H'=>∃ k,x=.bl k/\R k H'):rJ te σ H R:=q
theorem qX {R:Bool->Hp->Prop}(q:te σ H λx H'=>∃ k,x=.bl k/\R k H'):tB te σ H R:=q
theorem n6 {b:Bool}{R:Bool->Prop}(q:R b):∃ k,V.bl b=V.bl k/\R k:=⟨b,rfl,q⟩
theorem jq {t u:TT}{R:Bool->Hp->Prop}(q:t σ H λc H1=>if c=true then u σ H1 R else R false H1):vW t u σ H R:=q
theorem yu5 {t u:TT}{R:Bool->Hp->Prop}(q:t σ H λc H1=>if c=true then R true H1 else u σ H1 R):uI t u σ H R:=q
theorem rW {t:TT}{R:Bool->Hp->Prop}(q:t σ H λc H1=>R (!c) H1):tJ t σ H R:=q
theorem oS (q:ta σ H λx H1=>∃ c,x=.bl c/\if c=true then tb σ H1 Q else Q (.bl false) H1):jG ta tb σ H Q:=q
theorem uM (q:ta σ H λx H1=>∃ c,x=.bl c/\Q (.bl (!c)) H1):nD ta σ H Q:=q
theorem M8 {p:Addr}{xs:List V}{k:Int}(s:d0 K H p xs)(a:bR xs k=some v)(q:Q v H):kH K (.ref p) (.int k) H Q:=⟨p,xs,k,v,rfl,rfl,s,a,q⟩
theorem W3 {p:Addr}{xs:List V}{k:Int}(s:m9 K H p xs)(a:bR xs k=some v)(q:Q v H):aS K (.ref p) (.int k) H Q:=⟨p,xs,k,v,rfl,rfl,s,a,q⟩
theorem aE {R:Bool->Hp->Prop}(q:R true H):Y4 σ H R:=q
theorem yE {p:Addr}{a b:V}{m n:Nat}{N:St->Hp->Prop}(s:m9 K H p [a,b])(q:N ((σ.set m (some a)).set n (some b)) H):gB K 2 (aR (G9 m) (aR (G9 n) fZ)) (.ref p) σ H N:=⟨p,_,rfl,s,rfl,a,_,rfl,b,_,rfl,rfl,q⟩
theorem v9 {A B:Prop}(q:A):if true=true then A else B:=by rw[if_pos rfl];exact q
theorem t7 {A B:Prop}(q:B):if false=true then A else B:=by rw[if_neg (by simp)];exact q
theorem vJ {t:TA}(q:t σ H λxs H1=>xs.length<=sizeLine/\∀ p,H1 p=none->Q (.ref p) (upd H1 p (.lst xs))):iI t σ H Q:=q
theorem Gr {t:TA}(q:t σ H λxs H1=>xs.length<=sizeLine/\∀ p,H1 p=none->Q (.ref p) (upd H1 p (.tup xs))):hV t σ H Q:=q
theorem Q9 {l:Addr}{xs:List V}(h:H l=some (.lst xs))(n:xs.length < sizeLine)(q:Q .non (upd H l (.lst (xs++[y])))):pN (.ref l) [y] H Q:=⟨l,xs,y,rfl,rfl,h,n,q⟩
theorem O4 {p:Prop}[Decidable p]{A B:Prop}(h1:p->A)(h2:¬ p->B):if decide p=true then A else B:=by
 by_cases z:p
 ·rw[if_pos (decide_eq_true z)];exact h1 z
 ·rw[if_neg (by rw[decide_eq_false z];simp)];exact h2 z
theorem SX {b:Bool}{A B:Prop}(h1:b=false->A)(h2:b=true->B):if (!b)=true then A else B:=by
 cases b
 ·exact h1 rfl
 ·exact h2 rfl
theorem T_ {b:Bool}{A B:Prop}(h1:b=true->A)(h2:b=false->B):if b=true then A else B:=by
 cases b
 ·exact h2 rfl
 ·exact h1 rfl
end
end L2
namespace L2
open PySem
section
variable {prog:Program} {w:World} {A:Around} {E:Value->Shared->Prop} {s:Shared}
theorem UX {it t:Addr}{i:Nat}{items:Array Value}{x:Value}{Q:Value->Shared->Prop}(hit:s.heap.IsTupleIter it t i)(ht:s.heap.IsTuple t items)(hx:items[i]?=some x)
  (hQ:∀ h',h'.IsTupleIter it t (i+1)->Heap.SameBut it s.heap h'->Q x { s with heap:=h' }):wpAny (model prog w) A (Builtin.SmallTypes.nextOf (.ref it)) Q E s:=by
 have ty:=hit.typeIs;obtain⟨⟨c,dc,dt,sl⟩,ho,hc,hd⟩:=hit;obtain⟨⟨c',dc',dt',sl'⟩,ho',hc',n,hd'⟩:=ht;dsimp only at hc hd hc' hd';subst hc hd hc' hd';unfold Builtin.SmallTypes.nextOf;refine wpAny_bind (wpAny_callSpecial?_slot (name:=Str.ofString "__next__") ty F.slot_tuple_iterator_next (wpAny_call_entry F.slot_tuple_iterator_next ty F.entry_tuple_iterator_next ?_ (F.args_tuple_iterator_next_1 _)))
 wp_walk
 rw[Int.toNat_natCast,hx]
 wp_walk
 refine⟨x,rfl,wpAny_pure (hQ _ ?_ (Heap.SameBut.update ..))⟩;exact⟨_,Heap.get?_update_self _ ho rfl,rfl,rfl⟩
theorem ygz {it t:Addr}{i:Nat}{items:Array Value}{Q:Value->Shared->Prop}(hh:A.handled=none)(hit:s.heap.IsTupleIter it t i)(ht:s.heap.IsTuple t items)(hx:items[i]?=none)
  (hE:∀ h' e,Heap.ExtBut it s.heap h'->(∃ o,h'.get? e=some o/\o.cls=.type "StopIteration")->E (.ref e) { s with heap:=h' }):wpAny (model prog w) A (Builtin.SmallTypes.nextOf (.ref it)) Q E s:=by
 have ty:=hit.typeIs;obtain⟨⟨c,dc,dt,sl⟩,ho,hc,hd⟩:=hit;obtain⟨⟨c',dc',dt',sl'⟩,ho',hc',n,hd'⟩:=ht;dsimp only at hc hd hc' hd';subst hc hd hc' hd';have hh':A.in1.handled=none:=hh;unfold Builtin.SmallTypes.nextOf;refine wpAny_bind (wpAny_callSpecial?_slot (name:=Str.ofString "__next__") ty F.slot_tuple_iterator_next (wpAny_call_entry F.slot_tuple_iterator_next ty F.entry_tuple_iterator_next ?_ (F.args_tuple_iterator_next_1 _)))
 wp_walk
 rw[Int.toNat_natCast,hx]
 wp_walk
 unfold raiseNew
 wp_walk
 exact hE _ _ (((Heap.SameBut.update ..).extBut.push _).push _) ⟨_,Heap.get?_push_size _ rfl,rfl⟩
theorem wC (hh:A.handled=none)(it t:Addr)(ne:t≠it)(items:Array Value):Draws prog w A it [it,t] items.size (λi v=>items[i]?=some v) (λi h=>h.IsTupleIter it t i/\h.IsTuple t items) where
 live:=λ_ _ ⟨⟨o,e,_⟩,_⟩=>⟨o,e⟩
 frame:=λ_ _ _ ⟨⟨o,e,r⟩,⟨p,f,q⟩⟩ k=>⟨⟨o,k _ (by simp) _ e,r⟩,⟨p,k _ (by simp) _ f,q⟩⟩
 item:=λi s Q E hi ⟨a,b⟩ hQ=>UX a b (Array.getElem?_eq_getElem hi) λh' e k=>hQ _ h' s.toks (Array.getElem?_eq_getElem hi) ⟨e,b.extBut k.extBut ne⟩ k
 done:=λs Q E ⟨a,b⟩ hE=>ygz hh a b (Array.getElem?_eq_none (qR _)) hE
def Gv (prog:Program)(w:World)(A:Around)(it:Addr)(Q:Value->Shared->Prop)(E:Value->Shared->Prop)(s:Shared):Prop:=wpAny (model prog w) A (Builtin.SmallTypes.nextOf (.ref it)) Q E s
theorem sL {it:Addr}{Q:Value->Shared->Prop}(h:Gv prog w A it Q E s):wpAny (model prog w) A (Builtin.SmallTypes.nextOf (.ref it)) Q E s:=h
structure wD (z TO i1 i2:Addr) (f1 f2:List Addr):Prop where
 z1:z∉f1
 z2:z∉f2
 o1:TO∉f1
 o2:TO∉f2
 a2:i1∉f2
 b1:i2∉f1
 oz:TO≠z
 az:i1≠z
 bz:i2≠z
 oa:TO≠i1
 ob:TO≠i2
theorem Ye {z TI TO i1 i2:Addr}{f1 f2:List Addr}{n1 n2 k:Nat}{P1 P2:Nat->Value->Prop}{S1 S2:Nat->Heap->Prop}{a b:Value}{Q:Value->Shared->Prop}(D1:Draws prog w A i1 f1 n1 P1 S1)(D2:Draws prog w A i2 f2 n2 P2 S2)(F:wD z TO i1 i2 f1 f2)
  (hz:IsZip s.heap z TI TO .none) (hi:IsPair s.heap TI (.ref i1) (.ref i2)) (ho:IsPair s.heap TO a b) (h1:S1 k s.heap) (h2:S2 k s.heap) (k1:k < n1) (k2:k < n2)
  (hQ:∀ x y h' tk,P1 k x->P2 k y->IsZip h' z TI TO (rawInt s.heap.objs.size)->IsPair h' TO x y->S1 (k+1) h'->S2 (k+1) h'->IsPair h' s.heap.objs.size x y ->
   (∀ c o,c≠z->c≠TO->c≠i1->c≠i2->s.heap.get? c=some o->h'.get? c=some o)->Q (.ref s.heap.objs.size) { s with heap:=h',toks:=tk }) :
  wpAny (model prog w) A (Builtin.«zip.__next__» ⟨[.ref z],[]⟩) (λfin s'=>∃ v,fin=.done (.ret v)/\Q v s') E s:=by
 unfold Builtin.«zip.__next__»
 wp_walk using sL,wpAny_onRaise
 have u1:Heap.SameBut z s.heap (s.heap.update z (Obj.mapFields λx=>x.setIfInBounds 0 Value.ellipsis)):=Heap.SameBut.update ..;have v1:IsZip (s.heap.update z (Obj.mapFields λx=>x.setIfInBounds 0 Value.ellipsis)) z TI TO .ellipsis:=Heap.get?_update_self _ hz rfl;generalize s.heap.update z (Obj.mapFields λx=>x.setIfInBounds 0 Value.ellipsis)=g1 at u1 v1 |-;refine D1.item k _ _ _ k1 (D1.frame _ _ _ h1 λc hc o e=>(u1.2 c λq=>F.z1 (q▸hc)).trans e) λx g2 tk2 px st1 u2=>?_
 have u2:Heap.SameBut i1 g1 g2:=u2;have ho2:IsPair g2 TO a b:=(u2.2 _ F.oa).trans ((u1.2 _ F.oz).trans ho)
 wp_walk using sL,wpAny_onRaise
 have u3:Heap.SameBut TO g2 (g2.update TO (Obj.mapSeq λy=>y.setIfInBounds 0 x)):=Heap.SameBut.update ..;have v3:IsPair (g2.update TO (Obj.mapSeq λy=>y.setIfInBounds 0 x)) TO x b:=Heap.get?_update_self _ ho2 rfl;generalize g2.update TO (Obj.mapSeq λy=>y.setIfInBounds 0 x)=g3 at u3 v3 |-;refine D2.item k _ _ _ k2 (D2.frame _ _ _ h2 λc hc o e=>(u3.2 c λq=>F.o2 (q▸hc)).trans ((u2.2 c λq=>F.a2 (q▸hc)).trans ((u1.2 c λq=>F.z2 (q▸hc)).trans e))) λy g4 tk4 py st2 u4=>?_
 have u4:Heap.SameBut i2 g3 g4:=u4;have v4:IsPair g4 TO x b:=(u4.2 _ F.ob).trans v3;have w4:IsZip g4 z TI TO .ellipsis:=(u4.2 _ F.bz.symm).trans ((u3.2 _ F.oz.symm).trans ((u2.2 _ F.az.symm).trans v1));have w5:IsZip (g4.update TO (Obj.mapSeq λv=>v.setIfInBounds (0+1) y)) z TI TO .ellipsis:=Heap.get?_update_of_ne _ F.oz w4;have v5:IsPair (g4.update TO (Obj.mapSeq λv=>v.setIfInBounds (0+1) y)) TO x y:=Heap.get?_update_self _ v4 rfl;have u5:Heap.SameBut TO g4 (g4.update TO (Obj.mapSeq λv=>v.setIfInBounds (0+1) y)):=Heap.SameBut.update ..
 wp_walk using sL,wpAny_onRaise
 generalize g4.update TO (Obj.mapSeq λv=>v.setIfInBounds (0+1) y)=g5 at w5 v5 u5 |-;have sz:g5.objs.size=s.heap.objs.size:=by rw[u5.1,u4.1,u3.1,u2.1,u1.1]
 have zl:s.heap.objs.size≠z:=Nat.ne_of_gt (Heap.lt_size hz);rw[sz];have g6:IsPair (g5.push { cls:=Value.type "tuple",data:=Data.seq #[x,y] }) s.heap.objs.size x y:=by rw[<- sz];exact Heap.get?_push_size _ rfl
 have g7:IsZip (g5.push { cls:=Value.type "tuple",data:=Data.seq #[x,y] }) z TI TO .ellipsis:=Heap.get?_push_of_some _ w5;have up:∀ c o,c≠z->g5.get? c=some o->(((g5.push { cls:=Value.type "tuple",data:=Data.seq #[x,y] }).update z (Obj.mapFields λv=>v.setIfInBounds 0 (rawInt s.heap.objs.size))).update z (Obj.mapFields λv=>v.setIfInBounds 1 (Value.bool false))).get? c=some o:=λc o n e =>
  Heap.get?_update_of_ne _ n.symm (Heap.get?_update_of_ne _ n.symm (Heap.get?_push_of_some _ e))
 refine⟨_,rfl,hQ x y _ tk4 px py (Heap.get?_update_self _ (Heap.get?_update_self _ g7 rfl) rfl) (up _ _ F.oz v5) (D1.frame _ _ _ st1 λc hc o e=>up c o (λq=>F.z1 (q▸hc)) ?_) (D2.frame _ _ _ st2 λc hc o e=>up c o (λq=>F.z2 (q▸hc)) ?_) (Heap.get?_update_of_ne _ zl.symm (Heap.get?_update_of_ne _ zl.symm g6)) λc o n1 n2 n3 n4 e=>up c o n1 ?_⟩
 ·exact(u5.2 c λq=>F.o1 (q▸hc)).trans ((u4.2 c λq=>F.b1 (q▸hc)).trans ((u3.2 c λq=>F.o1 (q▸hc)).trans e))
 ·exact(u5.2 c λq=>F.o2 (q▸hc)).trans e
 ·exact(u5.2 c n2).trans ((u4.2 c n4).trans ((u3.2 c n2).trans ((u2.2 c n3).trans ((u1.2 c n1).trans e))))
theorem yl7 {z TI TO i1 i2:Addr}{f1:List Addr}{n1:Nat}{P1:Nat->Value->Prop}{S1:Nat->Heap->Prop}{a b:Value}{Q:Fin->Shared->Prop}(D1:Draws prog w A i1 f1 n1 P1 S1)(z1:z∉f1)(az:i1≠z)
  (hz:IsZip s.heap z TI TO .none) (hi:IsPair s.heap TI (.ref i1) (.ref i2)) (ho:IsPair s.heap TO a b) (h1:S1 n1 s.heap)
  (hE:∀ h' e,(∀ c o,c≠z->c≠i1->s.heap.get? c=some o->h'.get? c=some o)->(∃ o,h'.get? e=some o/\o.cls=.type "StopIteration")->E (.ref e) { s with heap:=h' }) :
  wpAny (model prog w) A (Builtin.«zip.__next__» ⟨[.ref z],[]⟩) Q E s:=by
 unfold Builtin.«zip.__next__»
 wp_walk using sL,wpAny_onRaise
 have u1:Heap.SameBut z s.heap (s.heap.update z (Obj.mapFields λx=>x.setIfInBounds 0 Value.ellipsis)):=Heap.SameBut.update ..;have v1:IsZip (s.heap.update z (Obj.mapFields λx=>x.setIfInBounds 0 Value.ellipsis)) z TI TO .ellipsis:=Heap.get?_update_self _ hz rfl;generalize s.heap.update z (Obj.mapFields λx=>x.setIfInBounds 0 Value.ellipsis)=g1 at u1 v1 |-;refine D1.done _ _ _ (D1.frame _ _ _ h1 λc hc o e=>(u1.2 c λq=>z1 (q▸hc)).trans e) λg2 e u2 he=>?_
 have u2:Heap.ExtBut i1 g1 g2:=u2;have v2:IsZip g2 z TI TO .ellipsis:=u2 _ _ az.symm v1
 wp_walk
 obtain⟨o,eo,co⟩:=he;have ez:e≠z:=λq=>by rw[q,v2] at eo;cases eo;simp at co
 exact hE _ _ (λc o n1 n2 q=>Heap.get?_update_of_ne _ n1.symm (u2 _ _ n2 ((u1.2 _ n1).trans q))) ⟨o,Heap.get?_update_of_ne _ ez.symm eo,co⟩
end
end L2
namespace L2
open PySem
section
variable {prog:Program} {w:World} {A:Around} {E:Value->Shared->Prop} {s:Shared}
theorem yd3 {z TI TO i1 i2:Addr}{f1 f2:List Addr}{n1 n2 k:Nat}{P1 P2:Nat->Value->Prop}{S1 S2:Nat->Heap->Prop}{a b:Value}{Q:Option Value->Shared->Prop}(D1:Draws prog w A.in1 i1 f1 n1 P1 S1)(D2:Draws prog w A.in1 i2 f2 n2 P2 S2)(F:wD z TO i1 i2 f1 f2)
  (hz:IsZip s.heap z TI TO .none) (hi:IsPair s.heap TI (.ref i1) (.ref i2)) (ho:IsPair s.heap TO a b) (h1:S1 k s.heap) (h2:S2 k s.heap) (k1:k < n1) (k2:k < n2)
  (hQ:∀ x y h' tk,P1 k x->P2 k y->IsZip h' z TI TO (rawInt s.heap.objs.size)->IsPair h' TO x y->S1 (k+1) h'->S2 (k+1) h'->IsPair h' s.heap.objs.size x y ->
   (∀ c o,c≠z->c≠TO->c≠i1->c≠i2->s.heap.get? c=some o->h'.get? c=some o)->Q (some (.ref s.heap.objs.size)) { s with heap:=h',toks:=tk }) :
  wpAny (model prog w) A (pyNext (.ref z)) Q E s:=by
 have ty:s.TypeIs (.ref z) "zip":= ⟨_,hz,rfl⟩;unfold pyNext;refine wpAny_bind (wpAny_attempt (wpAny_callSpecial?_slot (name:=Str.ofString "__next__") ty PySem.F.slot_zip_next (wpAny_call_entry PySem.F.slot_zip_next ty PySem.F.entry_zip_next ?_ (PySem.F.args_zip_next_1 _))));exact Ye D1 D2 F hz hi ho h1 h2 k1 k2 λx y h' tk p1 p2 a1 a2 a3 a4 a5 a6=>wpAny_pure (hQ x y h' tk p1 p2 a1 a2 a3 a4 a5 a6)
theorem FJ {z TI TO i1 i2:Addr}{f1:List Addr}{n1:Nat}{P1:Nat->Value->Prop}{S1:Nat->Heap->Prop}{a b:Value}{Q:Option Value->Shared->Prop}(D1:Draws prog w A.in1 i1 f1 n1 P1 S1)(z1:z∉f1)(az:i1≠z)
  (hz:IsZip s.heap z TI TO .none) (hi:IsPair s.heap TI (.ref i1) (.ref i2)) (ho:IsPair s.heap TO a b) (h1:S1 n1 s.heap)
  (hQ:∀ h',(∀ c o,c≠z->c≠i1->s.heap.get? c=some o->h'.get? c=some o)->Q none { s with heap:=h' }):wpAny (model prog w) A (pyNext (.ref z)) Q E s:=by
 have ty:s.TypeIs (.ref z) "zip":= ⟨_,hz,rfl⟩;unfold pyNext;refine wpAny_bind (wpAny_attempt (wpAny_callSpecial?_slot (name:=Str.ofString "__next__") ty PySem.F.slot_zip_next (wpAny_call_entry PySem.F.slot_zip_next ty PySem.F.entry_zip_next ?_ (PySem.F.args_zip_next_1 _))));exact yl7 D1 z1 az hz hi ho h1 λh' e k ⟨o,eo,co⟩=>wpAny_bind (wpAny_isInstance (T := "StopIteration") (b:=true) ⟨o,eo,co⟩ isSubtype_stop (wpAny_pure (hQ h' k)))
end
theorem Wi (h:Heap)(o0 o1 o2 o3 o4:Obj)(f0:o0.isFreed=false)(f1:o1.isFreed=false)(f2:o2.isFreed=false)(f3:o3.isFreed=false)(f4:o4.isFreed=false) :
  (((((h.push o0).push o1).push o2).push o3).push o4).get? h.objs.size=some o0/\(((((h.push o0).push o1).push o2).push o3).push o4).get? (h.objs.size+1)=some o1/\(((((h.push o0).push o1).push o2).push o3).push o4).get? (h.objs.size+2)=some o2 /\
  (((((h.push o0).push o1).push o2).push o3).push o4).get? (h.objs.size+3)=some o3/\(((((h.push o0).push o1).push o2).push o3).push o4).get? (h.objs.size+4)=some o4/\∀ c o,h.get? c=some o->(((((h.push o0).push o1).push o2).push o3).push o4).get? c=some o:=by
 have z1:(h.push o0).objs.size=h.objs.size+1:=Heap.size_push ..;have z2:((h.push o0).push o1).objs.size=h.objs.size+2:=(Heap.size_push ..).trans (by rw[z1]);have z3:(((h.push o0).push o1).push o2).objs.size=h.objs.size+3:=(Heap.size_push ..).trans (by rw[z2]);have z4:((((h.push o0).push o1).push o2).push o3).objs.size=h.objs.size+4:=(Heap.size_push ..).trans (by rw[z3]);have up:∀ {g:Heap} {c:Addr} {u v:Obj},g.get? c=some u->(g.push v).get? c=some u:=λe=>Heap.get?_push_of_some _ e
 refine⟨up (up (up (up (Heap.get?_push_size _ f0)))),?_,?_,?_,?_,λc o e=>up (up (up (up (up e))))⟩
 ·rw[<- z1];exact up (up (up (Heap.get?_push_size _ f1)))
 ·rw[<- z2];exact up (up (Heap.get?_push_size _ f2))
 ·rw[<- z3];exact up (Heap.get?_push_size _ f3)
 ·rw[<- z4];exact Heap.get?_push_size _ f4
theorem yiM (l1 l2:Addr)(xs ys:Array Value):Meets (Builtin.«zip.__new__» ⟨[.type "zip",.ref l1,.ref l2],[]⟩) (λ_ R s=>s.heap.IsTuple l1 xs/\s.heap.IsTuple l2 ys /\
  ∀ h',IsZip h' (s.heap.objs.size+4) (s.heap.objs.size+2) (s.heap.objs.size+3) .none->IsPair h' (s.heap.objs.size+2) (.ref s.heap.objs.size) (.ref (s.heap.objs.size+1))->IsPair h' (s.heap.objs.size+3) .none .none ->
   h'.IsTupleIter s.heap.objs.size l1 0->h'.IsTupleIter (s.heap.objs.size+1) l2 0->(∀ c o,s.heap.get? c=some o->h'.get? c=some o)->R (.ok (.ret (.ref (s.heap.objs.size+4)))) { s with heap:=h' }) :=
 .of_wp λprog w A R s h=>by
  obtain⟨hp,g,d,tk,os⟩:=s;obtain⟨t1,t2,h⟩:=h;have sub:=sub_zip;have p1:Heap.IsTuple (Shared.heap ⟨hp,g,d,tk,os⟩) l1 xs:=t1;have p2:Heap.IsTuple (Shared.heap ⟨hp.push { cls:=.type "tuple_iterator",data:=.fields #[.ref l1,.int 0 0] },g,d,tk,os⟩) l2 ys:=Heap.IsTuple.push t2 _
  wp_walk using wpAny_pyIter_tuple p1,wpAny_pyIter_tuple p2
  obtain⟨q0,q1,q2,q3,q4,q5⟩:=Wi hp { cls:=.type "tuple_iterator",data:=.fields #[.ref l1,.int 0 0] } { cls:=.type "tuple_iterator",data:=.fields #[.ref l2,.int 0 0] } { cls:=.type "tuple",data:=.seq #[.ref hp.objs.size,.ref (hp.objs.size+1)] } { cls:=.type "tuple",data:=.seq #[.none,.none] } { cls:=.type "zip",data:=.fields #[.none,.bool false,.bool false,.ref (hp.objs.size+2),.ref (hp.objs.size+3)] } rfl rfl rfl rfl rfl;have fin:=h _ q4 q2 q3 ⟨_,q0,rfl,rfl⟩ ⟨_,q1,rfl,rfl⟩ q5;simp only[Heap.size_push];exact⟨_,rfl,fin⟩
theorem yj3 {prog:Program}{w:World}{A:Around}{E:Value->Shared->Prop}{s:Shared}{l1 l2:Addr}{xs ys:Array Value}{Q:Value->Shared->Prop}(t1:s.heap.IsTuple l1 xs)(t2:s.heap.IsTuple l2 ys)
  (h:∀ h',IsZip h' (s.heap.objs.size+4) (s.heap.objs.size+2) (s.heap.objs.size+3) .none->IsPair h' (s.heap.objs.size+2) (.ref s.heap.objs.size) (.ref (s.heap.objs.size+1))->IsPair h' (s.heap.objs.size+3) .none .none ->
   h'.IsTupleIter s.heap.objs.size l1 0->h'.IsTupleIter (s.heap.objs.size+1) l2 0->(∀ c o,s.heap.get? c=some o->h'.get? c=some o)->Q (.ref (s.heap.objs.size+4)) { s with heap:=h' }) :
  wpAny (model prog w) A (call (.type "zip") [.ref l1,.ref l2]) Q E s:=by
 refine callType_new PySem.F.called_zip (by decide) (PySem.F.typeCall_zip_2 _ _) (PySem.F.newCall_zip_2 _ _) (λo=>PySem.F.args_object_init_3 o _ _) PySem.F.entry_zip_new (yiM l1 l2 xs ys) ⟨t1,t2,λh' a1 a2 a3 a4 a5 a6=>?_⟩;exact⟨⟨_,a1,rfl⟩,h h' a1 a2 a3 a4 a5 a6⟩
end L2
namespace L2
open PySem PySem.Spec PyProof.Rows
section
variable {X:Cx}
def jw (K:qF)(a b:Addr):It :=
 ⟨λi H=>∃ xs ys x y,m9 K H a xs/\m9 K H b ys/\xs[i]?=some x/\ys[i]?=some y,λi H x H'=>∃ p v u,x=.ref p/\H p=none/\H'=upd H p (.tup [v,u])/\∀ xs ys,m9 K H a xs->m9 K H b ys->xs[i]?=some v/\ys[i]?=some u,
  λi H=>∃ xs,m9 K H a xs/\xs.length=i⟩
def Vi (z TI TO i1 i2 a b:Addr)(i:Nat)(h:Heap):Prop:=IsZip h z TI TO .none/\IsPair h TI (.ref i1) (.ref i2)/\(∃ u v,IsPair h TO u v)/\h.IsTupleIter i1 a i/\h.IsTupleIter i2 b i/\a≠TO/\b≠TO
theorem cO {h:Heap}{a:Addr}{xs:Array Value}(p:IsTup h a xs):h.IsTuple a xs:=p
theorem Wn {h:Heap}{z TI TO i1 i2 a b:Addr}{i:Nat}{xs ys:Array Value}(F:kP z TI TO i1 i2)(st:Vi z TI TO i1 i2 a b i h)(ha:h.IsTuple a xs)(hb:h.IsTuple b ys):wD z TO i1 i2 [i1,a] [i2,b]/\a≠i1/\b≠i2:=by
 obtain⟨s1,s2,⟨u,v,s3⟩,⟨o4,s4,c4,_⟩,⟨o5,s5,c5,_⟩,n1,n2⟩:=st;obtain⟨oa,ga,ca,_⟩:=ha;obtain⟨ob,gb,cb,_⟩:=hb;have az:a≠z:=X9 ga s1 (by rw[ca];show Value.type "tuple" ≠ .type "zip";decide);have bz:b≠z:=X9 gb s1 (by rw[cb];show Value.type "tuple" ≠ .type "zip";decide);have a1:a≠i1:=X9 ga s4 (by rw[ca,c4];decide);have a2:a≠i2:=X9 ga s5 (by rw[ca,c5];decide);have b1:b≠i1:=X9 gb s4 (by rw[cb,c4];decide);have b2:b≠i2:=X9 gb s5 (by rw[cb,c5];decide);have off:∀ {x y c:Addr},c≠x->c≠y->c∉[x,y]:=λp q m=>by
  simp only[List.mem_cons,qk,or_false] at m;exact m.elim p q
 exact⟨⟨off F.a3.symm az.symm,off F.a4.symm bz.symm,off F.a8 n1.symm,off F.a9 n2.symm,off F.a0 b1.symm,off F.a0.symm a2.symm,F.a2,F.a3,F.a4,F.a8,F.a9⟩,a1,b2⟩
theorem Gq {P:Program}{w:World}{K:qF}{elts:List Expr}{x1}{tp:Pos}{z TI TO i1 i2 a b:Addr}(F:kP z TI TO i1 i2):eG P w K (.Tuple elts x1 tp) (jw K a b) [z,TI,TO,i1,i2] z (Vi z TI TO i1 i2 a b) where
 mem:=by simp
 obj:=λi h st c hc=>by
  obtain⟨s1,s2,⟨u,v,s3⟩,⟨o4,s4,_,d4⟩,⟨o5,s5,_,d5⟩,_⟩:=st;simp only[List.mem_cons,qk,or_false] at hc;rcases hc with rfl | rfl | rfl | rfl | rfl
  ·exact⟨_,s1,λv=>nofun⟩
  ·exact⟨_,s2,λv=>nofun⟩
  ·exact⟨_,s3,λv=>nofun⟩
  ·exact⟨_,s4,λv e=>by rw[d4] at e;cases e⟩
  ·exact⟨_,s5,λv e=>by rw[d5] at e;cases e⟩
 keep:=λi h h' st k=>by
  obtain⟨s1,s2,⟨u,v,s3⟩,s4,s5,n⟩:=st;exact⟨k _ (by simp) _ s1,k _ (by simp) _ s2,⟨u,v,k _ (by simp) _ s3⟩,s4.at λo e=>k _ (by simp) o e,s5.at λo e=>k _ (by simp) o e,n⟩
 item:=by
  intro X hP hw hK hc i pins s σ H E I hf st hg;subst hP hw hK;obtain⟨xs,ys,x,y,hx,hy,ex,ey⟩:=hg;obtain⟨itx,rx,px,_⟩:=I.tuple hx;obtain⟨ity,ry,py,_⟩:=I.tuple hy;obtain⟨u,eu,ru⟩:=rx.get ex;obtain⟨v,ev,rv⟩:=ry.get ey;obtain⟨O,na,nb⟩:=Wn F st (cO px) (cO py);obtain⟨s1,s2,⟨p,q,s3⟩,s4,s5,no⟩:=st;have hd:X.A.in1.handled=none:=I.ok.hd hc;have li:i < itx.toArray.size:=by have:=(qE eu).1;simpa using this
  have lj:i < ity.toArray.size:=by have:=(qE ev).1;simpa using this
  refine yd3 (wC hd i1 a na itx.toArray) (wC hd i2 b nb ity.toArray) O s1 s2 s3 ⟨s4,(cO px)⟩ ⟨s5,(cO py)⟩ li lj λu' v' h1 tk e1 e2 b1 b2 b3 b4 b5 kp=>?_
  have e1:itx[i]?=some u':=by simpa using e1
  have e2:ity[i]?=some v':=by simpa using e2
  rw[eu] at e1;rw[ev] at e2;cases e1;cases e2;refine⟨_,rfl,wpAny_letOwnedTupleGo_zip b1 λh2 c1 sb=>?_⟩;have sb:Heap.SameBut z h1 h2:=sb;have zl:s.heap.objs.size≠z:=Nat.ne_of_gt (Heap.lt_size s1);have fr:H s.heap.objs.size=none:=I.hok.fresh (qR _);have k2:∀ c o,c∉[z,TI,TO,i1,i2]->s.heap.get? c=some o->h2.get? c=some o:=λc o n e=>by
   simp only[List.mem_cons,qk,or_false,not_or] at n;exact(sb.2 c n.1).trans (kp c o n.1 n.2.2.1 n.2.2.2.1 n.2.2.2.2 e)
  have T2:IsPair h2 TI (.ref i1) (.ref i2):=(sb.2 _ F.a1).trans (kp _ _ F.a1 F.a5 F.a6 F.a7 s2);refine⟨.ref s.heap.objs.size,_,I.tupBut (t':=tk) hf k2 (vs:=[x,y]) (its:=[u,v]) (by show 2<=sizeLine;decide) (.cons ru (.cons rv .nil)) ⟨_,(sb.2 _ zl).trans b5,rfl,_,rfl⟩,rfl,⟨_,x,y,rfl,fr,rfl,λxs' ys' hx' hy'=>by rw[I.tuple_inj hx' hx,I.tuple_inj hy' hy];exact⟨ex,ey⟩⟩,
   ⟨c1,T2,⟨_,_,(sb.2 _ F.a2).trans b2⟩,b3.1.extBut sb.extBut F.a3,b4.1.extBut sb.extBut F.a4,no⟩,λc hcm=>?_⟩
  have nb:c≠s.heap.objs.size:=by
   obtain⟨o4,g4,_⟩:=s4;obtain⟨o5,g5,_⟩:=s5;simp only[List.mem_cons,qk,or_false] at hcm;rcases hcm with rfl | rfl | rfl | rfl | rfl
   ·exact zl.symm
   ·exact Nat.ne_of_lt (Heap.lt_size s2)
   ·exact Nat.ne_of_lt (Heap.lt_size s3)
   ·exact Nat.ne_of_lt (Heap.lt_size g4)
   ·exact Nat.ne_of_lt (Heap.lt_size g5)
  rw[u6 nb];exact(hf c hcm).1
 done:=by
  intro X hP hw hK hc i pins s σ H E I hf st hg;subst hP hw hK;obtain⟨xs,hx,he⟩:=hg;obtain⟨itx,rx,px,_⟩:=I.tuple hx;have hd:X.A.in1.handled=none:=I.ok.hd hc;obtain⟨s1,s2,⟨p,q,s3⟩,s4,s5,no⟩:=st;have na:a≠i1:=by
   obtain⟨o,e,c,_⟩:=(cO px);obtain⟨o4,e4,c4,_⟩:=id s4;exact X9 e e4 (by rw[c,c4];decide)
  have az:a≠z:=by
   obtain⟨o,e,c,_⟩:=(cO px);exact X9 e s1 (by rw[c];show Value.type "tuple" ≠ .type "zip";decide)
  have en:itx.toArray.size=i:=by rw[<- he,rx.length];simp
  refine FJ (wC hd i1 a na itx.toArray) (λm=>?_) F.a3 s1 s2 s3 ⟨by rw[en];exact s4,(cO px)⟩ λh1 kp=>⟨rfl,?_⟩
  ·simp only[List.mem_cons,qk,or_false] at m;exact m.elim (λe=>F.a3 e.symm) λe=>az e.symm
  have off:∀ b u,H b=some u->b∉[z,TI,TO,i1,i2]:=λb u h m=>by rw[(hf b m).1] at h;cases h
  have k2:∀ c o,c∉[z,TI,TO,i1,i2]->s.heap.get? c=some o->h1.get? c=some o:=λc o n e=>by
   simp only[List.mem_cons,qk,or_false,not_or] at n;exact kp c o n.1 n.2.2.2.1 e
  exact I.step (g':=s.gens) (d':=s.drawn) (t':=s.toks) (ch:=[z,TI,TO,i1,i2]) (λb hb=>⟨(hf b hb).2.2.2.1,(hf b hb).2.1,(hf b hb).2.2.2.2⟩) (λb o _ _ n e _=>k2 b o n e) (λb o _ _ n e _=>⟨o.slots,k2 b o n e⟩) (λ_ _ _ _ n=>n)
   (λb o n e=>⟨o,k2 b o n e⟩) (λ_ _ h=>h) (λ_ _ _ h=>h) (λ_ ps h=>⟨#[],by rw[h];simp⟩) (λm hm=>hm.at λo e=>k2 _ o (λn=>(hf _ n).2.1 rfl) e) (λb u h=>(I.hok b u h).stay (λc v hc q=>k2 c v (hc.elim (λe=>e▸off b u h) λe=>off c _ e) q) (λ_ h=>h) λ_ _ h=>h) I.bare
 self:=λ_ _ _ _ _ st h=>wpAny_pyIter_zip st.1 h
def Zq (K:qF)(ta:TA):TI:=fun σ H R=>ta σ H λvs H1=>∃ a b,vs=[.ref a,.ref b]/\(((∃ xs,d0 K H1 a xs)/\(∃ ys,d0 K H1 b ys)/\R (lC K a b) H1)∨((∃ xs,m9 K H1 a xs)/\(∃ ys,m9 K H1 b ys)/\R (jw K a b) H1))
theorem yof {elts:List Expr}{x1}{tp:Pos}{a b:Expr}{ta:TA}{p pos:Pos}(hg:Gl X "zip")(hm:X.mg "zip"=none)(ha:PA X [a,b] ta)(hs:starEach [a,b] X.env=[(false,eval a X.env),(false,eval b X.env)]:=by rfl)(hs2:starEach [b] X.env=[(false,eval b X.env)]:=by rfl) :
  PI X (.Tuple elts x1 tp) (.Call (.Name "zip" p) [a,b] [] pos) (Zq X.K ta):=by
 intro pins s σ H R I h;refine Call_ (hU I hg hm Ka (PyProof.Rows.callWith_type1 (t6 (ha pos pins s σ H _ I h) λus s1 zq=>?_) (by rw[hs,hs2]) (by rw[hs2];rfl)));obtain⟨vs,H1,I1,r1,q1⟩:=zq;obtain⟨la,lb,e,q⟩:=q1;subst e;obtain⟨u,v,rfl,ru,rv⟩:=jC r1;cases ru;cases rv;have lt:∀ n,R0 X pins H1 (s1.heap.objs.size+n):=λn=>I1.fpOk (Nat.le_add_right _ _) (I1.hok.fresh (Nat.le_add_right _ _))
 have ne:∀ {n m:Nat},n≠m->s1.heap.objs.size+n≠s1.heap.objs.size+m:=λh e=>h (Nat.add_left_cancel e)
 have five:kP (s1.heap.objs.size+4) (s1.heap.objs.size+2) (s1.heap.objs.size+3) (s1.heap.objs.size+0) (s1.heap.objs.size+1):=⟨ne (by decide),ne (by decide),ne (by decide),ne (by decide),ne (by decide),ne (by decide),ne (by decide),ne (by decide),ne (by decide),ne (by decide)⟩;have fp:∀ c∈[s1.heap.objs.size+4,s1.heap.objs.size+2,s1.heap.objs.size+3,s1.heap.objs.size+0,s1.heap.objs.size+1],R0 X pins H1 c:=λc hc=>by
  simp only[List.mem_cons,qk,or_false] at hc;rcases hc with rfl | rfl | rfl | rfl | rfl<;>exact lt _
 rcases q with ⟨⟨xs,hx⟩,⟨ys,hy⟩,q⟩ | ⟨⟨xs,hx⟩,⟨ys,hy⟩,q⟩
 ·obtain⟨itx,rx,px,_⟩:=I1.list hx;obtain⟨ity,ry,py,_⟩:=I1.list hy;exact call_zip_2 px.isList py.isList λh' b1 b2 b3 b4 b5 sz kp=>wpAny_pyIter_zip b1 ⟨_,[s1.heap.objs.size+4,s1.heap.objs.size+2,s1.heap.objs.size+3,s1.heap.objs.size+0,s1.heap.objs.size+1],_,_,H1,rfl,I1.kept (t':=s1.toks) kp,qb five,⟨b1,b2,⟨_,_,b3⟩,b4,b5⟩,fp,q⟩
 ·obtain⟨itx,rx,px,_⟩:=I1.tuple hx;obtain⟨ity,ry,py,_⟩:=I1.tuple hy;have old:∀ {c:Addr} {o:Obj},s1.heap.get? c=some o->c≠s1.heap.objs.size+3:=λe=>Nat.ne_of_lt (Nat.lt_of_lt_of_le (Heap.lt_size e) (Nat.le_add_right _ _))
  obtain⟨oa,ea,_⟩:=(cO px);obtain⟨ob,eb,_⟩:=(cO py);exact yj3 (cO px) (cO py) λh' b1 b2 b3 b4 b5 kp=>wpAny_pyIter_zip b1 ⟨_,[s1.heap.objs.size+4,s1.heap.objs.size+2,s1.heap.objs.size+3,s1.heap.objs.size+0,s1.heap.objs.size+1],_,_,H1,rfl,I1.kept (t':=s1.toks) kp,Gq five,⟨b1,b2,⟨_,_,b3⟩,b4,b5,old ea,old eb⟩,fp,q⟩
end
def pD (J:It)(g:TG)(tb:TS)(D:S0)(σ:St)(H:Hp):Prop:=lP (λ_ H R=>R J H) g tb D σ H
def sW (J:It)(cap:List (Option Nat))(g:TG)(tc:TT)(te:TE)(σ:St)(H:Hp)(Q:VK):Prop:=dQ (λ_ H R=>R J H) cap g tc te σ H Q
section
variable {K:qF} {σ:St} {H:Hp} {Q:VK} {ta:TA} {te to ti:TE} {g:TG} {tb:TS} {D:S0} {cap:List (Option Nat)} {tc:TT}
theorem yub (q:ta σ H λvs H1=>∃ j:Int,vs=[.int j]/\-(2 ^ 62)<=j/\j < 2 ^ 62/\pD (aI 0 j.toNat) g tb D σ H1):lP (lJ ta) g tb D σ H:=q
theorem xK (q:te σ H λx H1=>∃ a,x=.ref a/\(∃ xs,d0 K H1 a xs)/\pD (V9 K a) g tb D σ H1):lP (lW K te) g tb D σ H:=q
theorem yuq (q:ta σ H λvs H1=>∃ a,vs=[.ref a]/\(∃ xs,d0 K H1 a xs)/\pD (iC K a) g tb D σ H1):lP (vB K ta) g tb D σ H:=q
theorem R_ (q:to σ H λx H1=>∃ a,x=.ref a/\(∃ xs,d0 K H1 a xs)/\sW (V9 K a) cap g tc te σ H1 Q):dQ (lW K to) cap g tc te σ H Q:=q
theorem Zh (q:to σ H λx H1=>∃ a,x=.ref a/\(∃ xs,m9 K H1 a xs)/\sW (kG K a) cap g tc te σ H1 Q):dQ (pZ K to) cap g tc te σ H Q:=q
theorem Vc (q:ta σ H λvs H1=>∃ j:Int,vs=[.int j]/\-(2 ^ 62)<=j/\j < 2 ^ 62/\sW (aI 0 j.toNat) cap g tc te σ H1 Q):dQ (lJ ta) cap g tc te σ H Q:=q
theorem yqZ {i:Nat}(q:te σ H λx H1=>D.nx (σ.set i (some x)) H1):vO i te D σ H:=q
theorem pY {T:String}{r:V->List V->Hp->VK->Prop}(q:to σ H λx H1=>oA K T x H1/\ta σ H1 λxs H2=>r x xs H2 Q):sJ K T r to ta σ H Q:=q
theorem c_ {T:String}{r:V->List V->Hp->VK->Prop}(q:to σ H λx H1=>oA K T x H1/\r x [] H1 Q):yO K T r to σ H Q:=q
theorem yug {t:rR}{v:V}{N:St->Hp->Prop}(q:to σ H λo H1=>ti σ H1 λi H2=>t o i v H2 λH3=>N σ H3):wP to ti t v σ H N:=q
theorem tD {r:V->Option Int->Option Int->Hp->VK->Prop}{tl th:TO}(q:te σ H λx H1=>tl σ H1 λl H2=>th σ H2 λu H3=>r x l u H3 Q):jH r te tl th σ H Q:=q
theorem ysA {i:Nat}{t:nX}{x:V}(e:σ[i]?=some (some x))(q:te σ H λy H1=>t x y H1 λz H2=>D.nx (σ.set i (some z)) H2):tQ i te t D σ H:=⟨x,e,q⟩
theorem DX {f:Int->Int->Int}{a b:Int}(q:Q (.int (f a b)) H):xQ f (.int a) (.int b) H Q:=⟨a,b,rfl,rfl,q⟩
theorem uO {C:Addr}{sp:Sp}{E:XK}(q:ta σ H λvs H1=>∀ x dx,H1 x=none->H1 dx=none->dx≠x->sp (.ref x :: (vs++[])) (upd (upd H1 dx (.own x)) x (.ins C dx [])) (λv H2=>v=.non/\Q (.ref x) H2) E):rE C sp [] E ta σ H Q:=q
theorem yqR {ι:Type}{C:ι->Addr}{m:Str}{sp:ι->Sp}{E:XK}(q:te σ H λx H1=>∃ i a dx fs,x=.ref a/\H1 a=some (.ins (C i) dx fs)/\fs.lookup m=none/\sp i [x] H1 Q E):uS C m sp E te σ H Q:=q
theorem jT {g:Int->Int->V}{a b:Int}(h:(-(2 ^ 62)<=a/\a<=2 ^ 62)∨(-(2 ^ 62)<=b/\b<=2 ^ 62))(q:Q (g a b) H):rI IntMulOk g (.int a) (.int b) H Q:=⟨a,b,rfl,rfl,iG.ok (h.imp (λz=>⟨by omega,by omega⟩) λz=>⟨by omega,by omega⟩),q⟩
end
section
variable {X:Cx} {CX:P0} {E:XK} {k i:Nat} {x:Str} {p pos:Pos} {e:Expr} {es:List Expr} {t:TA}
def Kg {ι:Type}(i:Nat)(f:ι->Addr)(sp:ι->Sp)(E:XK)(t:TA):TE:=fun σ H Q=>∃ j,σ[i]?=some (some (.ref (f j)))/\t σ H λvs H1=>sp j vs H1 Q E
theorem Ut {ι:Type}{f:ι->Addr}{fd:ι->FuncData}{ps:ι->List Str}{sp:ι->Sp}(F:∀ j,z0 X.prog X.w X.K X.mg X.base CX k (f j) (fd j) (ps j) (sp j))(hr:x8 k X.A)(hN:X.N[i]?=some x)(hk:∀ j,PySem.W.keepIn X.K (.ref (f j))=true)(hb:∀ j,B0 X.K (fd j) (ps j) [])(hx:bH CX X E)
  (ha:PA X (e :: es) t) (hv:mC X.env.scope x:=by first | exact Or.inl rfl | exact Or.inr (Or.inl rfl) | exact Or.inr (Or.inr rfl)) (hd:(x==("__debug__" : Str))=false:=by decide) (hcd:(x==("__classdict__" : Str))=false:=by decide)
  (he:starEach (e :: es) X.env=(false,eval e X.env) :: starEach es X.env:=by rfl) (hpl:(backTo pos (starEach es X.env)).any (·.1)=false:=by rfl):PE X (.Call (.Name x p) (e :: es) [] pos) (Kg i f sp E t):=by
 intro pins s σ H Q I h;obtain⟨j,eσ,h⟩:=h;refine wpAny_Call_Name_kw (wpAny_mono (J_ hN hv hd hcd pins s σ H (λv H'=>v=.ref (f j)/\H'=H) I ⟨_,eσ,rfl,rfl⟩) (λu s1 q=>?_) λ_ _ z=>z);obtain⟨v,H',I1,rv,rfl,rfl⟩:=q;obtain rfl:u=.ref (f j):=rv;refine PySem.W.callWith_K (h₀:=X.base) I1.ok.mod.kin (hk j) (t6 (ha pos pins s1 σ H' _ I1 h) λus s2 ⟨vs,H2,I2,r,q⟩=>⟨I2.kIn,?_⟩) he hpl;exact kR (F j) hr (hb j) .nil hx I2 r (by rwa [List.append_nil])
theorem yF {ta tb:TE}{σ:St}{H:Hp}{Q:VK}(q:ta σ H λx H1=>∃ c,x=.bl c/\if c=true then Q (.bl true) H1 else tb σ H1 Q):oJ ta tb σ H Q:=q
theorem uV {C:Addr}{m:Str}{sp:Sp}{E:XK}{ta:TE}{t:TA}{σ:St}{H:Hp}{Q:VK}(q:ta σ H λx H1=>∃ a dx fs,x=.ref a/\H1 a=some (.ins C dx fs)/\fs.lookup m=none/\t σ H1 λvs H2=>sp (x :: (vs++[])) H2 Q E):uF C m sp [] E ta t σ H Q:=q
theorem yva {ι:Type}{i:Nat}{f:ι->Addr}{sp:ι->Sp}{E:XK}{t:TA}{σ:St}{H:Hp}{Q:VK}(j:ι)(e:σ[i]?=some (some (.ref (f j))))(q:t σ H λvs H1=>sp j vs H1 Q E):Kg i f sp E t σ H Q:=⟨j,e,q⟩
end
section
variable {X:Cx}
def pQ (z:Str):It:=⟨λi _=>i < z.cps.size,λi H x H'=>H'=H/\∃ c,z.cps.toList[i]?=some c/\x=.str ⟨#[c]⟩,λi _=>z.cps.size<=i⟩
theorem ymJ {P:Program}{w:World}{K:qF}{tg:Expr}(z:Str)(t:Tok)(it:Addr):eG P w K tg (pQ z) [it] it (λi h=>h.IsStrIter it (strIterType z) z t i) where
 mem:=by simp
 obj:=λi h st b hb=>by
  have e:b=it:=by simpa using hb
  subst e;obtain⟨o,e,c,d⟩:=st;exact⟨o,e,λv z=>by rw[d] at z;cases z⟩
 keep:=λi h h' st k=>by
  obtain⟨o,e,r⟩:=st;exact⟨o,k it (by simp) o e,r⟩
 item:=by
  intro X hP hw hK hc i pins s σ H E I hf st hg;subst hP hw hK;obtain⟨f0,f1,f2,f3,f4,f5⟩:=hf it (by simp);have hi:i < z.cps.size:=hg;have fin:∀ h',h'.IsStrIter it (strIterType z) z t (i+1)->Heap.SameBut it s.heap h'->∃ u,some (Value.str ⟨#[z.cps[i]]⟩ s.toks)=some u /\
    wpAny (model X.prog X.w) X.A (letOwnedTupleGo tg (.ref it) u) (λ_ s2=>∃ x H',f6 X pins σ H' s2/\g9 x u/\(pQ z).yld i H x H'/\s2.heap.IsStrIter it (strIterType z) z t (i+1)/\∀ b∈[it],H' b=none) E { s with heap:=h',toks:=s.toks+1 }:=λh' st' sb=>by
   have I1:f6 X pins σ H { s with heap:=h',toks:=s.toks+1 }:=I.turned (t':=s.toks+1) (λb o hb e=>(sb.2 b hb).trans e) f0 f1 f3 f4 f5;obtain⟨o,e,c,d⟩:=id st';refine⟨_,rfl,qL (s:={ s with heap:=h',toks:=s.toks+1 }) e c d (by unfold strIterType;split<;>decide) ⟨.str ⟨#[z.cps[i]]⟩,H,I1,⟨_,rfl⟩,⟨rfl,z.cps[i],by simp[hi],rfl⟩,st',λb hb=>(hf b hb).1⟩⟩
  cases ha:z.cps.all (· < 128)
  ·have e:strIterType z="str_iterator":= by simp[strIterType,ha]
   rw[e] at st;exact wpAny_pyNext_wide_item st (c:=z.cps[i]) (by simp[hi]) λh' a b=>fin h' (by rw[e];exact a) b
  ·have e:strIterType z="str_ascii_iterator":= by simp[strIterType,ha]
   rw[e] at st;exact wpAny_pyNext_ascii_item st (c:=z.cps[i]) (by simp[hi]) λh' a b=>fin h' (by rw[e];exact a) b
 done:=by
  intro X hP hw hK hc i pins s σ H E I hf st hg;subst hP hw hK;obtain⟨f0,f1,f2,f3,f4,f5⟩:=hf it (by simp);have hi:z.cps.size<=i:=hg;cases ha:z.cps.all (· < 128)
  ·have e:strIterType z="str_iterator":= by simp[strIterType,ha]
   rw[e] at st;exact wpAny_pyNext_wide_end (I.ok.hd hc) st (by simp[hi]) λh' eb=>⟨rfl,I.turned (t':=s.toks) (λb o hb e=>eb b o hb e) f0 f1 f3 f4 f5⟩
  ·have e:strIterType z="str_ascii_iterator":= by simp[strIterType,ha]
   rw[e] at st;exact wpAny_pyNext_ascii_end (I.ok.hd hc) st (by simp[hi]) λh' eb=>⟨rfl,I.turned (t':=s.toks) (λb o hb e=>eb b o hb e) f0 f1 f3 f4 f5⟩
 self:=λ_ _ _ _ _ st h=>by
  cases ha:z.cps.all (· < 128)
  ·have e:strIterType z="str_iterator":= by simp[strIterType,ha]
   rw[e] at st;exact wpAny_pyIter_striter_wide st h
  ·have e:strIterType z="str_ascii_iterator":= by simp[strIterType,ha]
   rw[e] at st;exact wpAny_pyIter_striter_ascii st h
def yu6 (tl:TE):TI:=fun σ H R=>tl σ H λx H1=>∃ z,x=.str z/\R (pQ z) H1
theorem OJ {tg l:Expr}{tl:TE}(hl:PE X l tl):PI X tg l (yu6 tl):=by
 intro pins s σ H R I h;refine t6 (hl pins s σ H _ I h) λv s1 zq=>?_
 obtain⟨x,H1,I1,r1,q1⟩:=zq;obtain⟨z,e,q⟩:=q1;subst e;obtain⟨t,rfl⟩:=r1;refine wpAny_pyIter_strU ?_;refine⟨s1.heap.objs.size,[s1.heap.objs.size],_,_,H1,rfl,I1.kept (t':=s1.toks) λb o e=>Heap.get?_push_of_some _ e,ymJ z t _,⟨_,Heap.get?_push_size _ rfl,rfl,rfl⟩,λb hb=>?_,q⟩;have e:b=s1.heap.objs.size:=by simpa using hb
 subst e;exact I1.fpOk (qR _) (I1.hok.fresh (qR _))
theorem Uj {z:Str}{D:Addr}{g:TG}{tc:TT}{te:TE}{Fin:Hp->Prop}{σ:St}{H:Hp}(Pv:Nat->St->Hp->Prop)(h0:Pv 0 σ H)
  (hs:∀ i c σ H,z.cps.toList[i]?=some c->Pv i σ H->g (.str ⟨#[c]⟩) σ H fun σ2 H2=>tc σ2 H2 λb H3=>if b=true then te σ2 H3 λy H4=>∃ ys,H4 D=some (.lst ys)/\ys.length < sizeLine/\Pv (i+1) σ2 (upd H4 D (.lst (ys++[y]))) else Pv (i+1) σ2 H3)
  (hd:∀ σ H,Pv z.cps.size σ H->Fin H):∃ W:Nat->Nat->St->Hp->Prop,(∃ m,W 0 m σ H)/\T9 (pQ z) g tc te D Fin W:=by
 refine⟨λi m σ H=>m=z.cps.size - i/\i<=z.cps.size/\Pv i σ H,⟨z.cps.size,by simp,Nat.zero_le _,h0⟩,?_⟩;rintro i m σ H ⟨rfl,hi,p⟩;by_cases hlt:i < z.cps.size
 ·refine .inr ⟨hlt,Pv (i+1),fun σ' H' p'=>⟨z.cps.size - (i+1),by omega,rfl,hlt,p'⟩,λx H' y=>?_⟩;obtain⟨e,c,hc,e2⟩:=y;subst e e2;exact hs i c σ _ hc p
 ·have e:i=z.cps.size:=by omega
  subst e;exact .inl ⟨qR _,hd σ H p⟩
theorem Zm:∀ {ts:List Str} {us:List Value},f8 (ts.map V.str) us->∃ l:List (Str×Tok),us=strValues l/\l.map (·.1)=ts
 | [],_,.nil=>⟨[],rfl,rfl⟩
 | x :: ts,_,.cons ⟨t,e⟩ r=>by
  subst e;obtain⟨l,e1,e2⟩:=Zm r;exact⟨(x,t) :: l,by rw[e1];rfl,by rw[List.map_cons,e2]⟩
def ysZ (K:qF):V->List V->Hp->VK->Prop:=λx vs H Q=>∃ (a:Str) (p:Addr) (ts:List Str),x=.str a/\vs=[.ref p]/\d0 K H p (ts.map V.str)/\JoinOk a ts=true/\Q (.str (Txt.join a ts)) H
theorem ypj:wI X "str.join" (ysZ X.K):=by
 intro pins s σ H x vs v us Q I rx rv h;obtain⟨a,p,ts,rfl,rfl,hq,hj,q⟩:=h;obtain⟨t,rfl⟩:=rx;obtain⟨u,rfl,ru⟩:=rv.one;cases ru;obtain⟨its,rvs,pl,hz⟩:=I.list hq;obtain⟨l,rfl,e2⟩:=Zm rvs;exact SC.join pl.isList e2 hj λt' k=>⟨.str _,H,I.tok _,⟨_,rfl⟩,q⟩
end
end L2
namespace TX
open PySem PySem.Builtin PySem.Builtin.Str PySem.StrLaws
def one (c:Nat):Str:=⟨#[c]⟩
def cK (c:Nat):Nat->List Nat->List Nat
 | _,[]=>[]
 | k,a :: l=>if a=c then k :: cK c (k+1) l else cK c (k+1) l
theorem ykD {x:Str}{pre L:List Nat}{a c:Nat}(h:x.cps.toList=pre++a :: L):subAt x (one c) pre.length=decide (a=c):=by
 unfold subAt one;have e:x.cps.extract pre.length (pre.length+1)=#[a]:=by
  apply Array.toList_inj.mp;rw[Array.toList_extract,List.extract_eq_take_drop,h];simp
 show(x.cps.extract pre.length (pre.length+1)==#[c])=_
 rw[e];by_cases q:a=c
 ·subst q;simp
 ·rw[decide_eq_false q];exact beq_eq_false_iff_ne.mpr λz=>q (by simpa using z)
theorem sK (x:Str)(c limit:Nat):∀ (L pre:List Nat) (arr:Array Nat) (free:Nat),x.cps.toList=pre++L->free<=pre.length ->
  (forIn (List.range' pre.length (L.length+1)) (arr,free) (occBody x (one c) x.length limit)).run.fst.toList=arr.toList++(cK c pre.length L).take (limit - arr.size)
 | [],pre,arr,free,h,hf=>by
  have hl:x.length=pre.length:=by
   have:=congrArg List.length h;simpa [Str.length] using this
  rw[List.length_nil,List.range'_succ,List.forIn_cons];unfold occBody;have:¬ (((arr,free).fst.size < limit/\(arr,free).snd<=pre.length)/\pre.length+(one c).length<=x.length):=λz=>by
   have:=z.2;rw[hl] at this;simp[one,Str.length] at this;omega
  rw[if_neg λz=>this z.1];simp[cK]
 | a :: L,pre,arr,free,h,hf=>by
  have hl:x.length=pre.length+L.length+1:=by
   have:=congrArg List.length h;simp[Str.length] at this;show x.cps.size=_
   omega
  have h2:x.cps.toList=(pre++[a])++L:=by rw[h];simp
  have l2:(pre++[a]).length=pre.length+1:=by simp
  rw[qC,List.range'_succ,List.forIn_cons];unfold occBody;rw[ykD h];have ol:(one c).length=1:=rfl;by_cases q:a=c
  ·by_cases z:arr.size < limit
   ·rw[if_pos ⟨⟨⟨z,hf⟩,by rw[ol];omega⟩,by simp[q]⟩];have ih:=sK x c limit L (pre++[a]) (arr.push pre.length) (pre.length+1) h2 (by omega);rw[l2] at ih;refine ih.trans ?_;rw[cK,if_pos q];have e:limit - arr.size=(limit - (arr.push pre.length).size)+1:=by rw[Array.size_push];omega
    rw[e,List.take_succ_cons];simp
   ·rw[if_neg λw=>z w.1.1.1];have ih:=sK x c limit L (pre++[a]) arr free h2 (by omega);rw[l2] at ih;refine ih.trans ?_;have e:limit - arr.size=0:=by omega
    rw[e];simp
  ·rw[if_neg λw=>q (by simpa using w.2)];have ih:=sK x c limit L (pre++[a]) arr free h2 (by omega);rw[l2] at ih;refine ih.trans ?_;rw[cK,if_neg q]
theorem Wv (x:Str)(c limit:Nat):occurrences x (one c) 0 x.length limit=(cK c 0 x.cps.toList).take limit:=by
 rw[occ_eq];have h:=sK x c limit x.cps.toList [] #[] 0 rfl (qR _);have e:x.cps.toList.length+1=x.length+1 - 0:=by simp[Str.length]
 rw[e] at h;simpa using h
theorem P3 {c:Nat}:∀ {k:Nat} {L:List Nat},(cK c k L=[])↔c∉L
 | _,[]=>by simp[cK]
 | k,a :: L=>by
  rw[cK];split
  ·rename_i h;simp[h]
  ·rename_i h
   rw[P3];simp[h];intro _ z;exact h z.symm
end TX
namespace TX
open PySem PySem.Builtin PySem.Builtin.Str PySem.StrLaws PySem.NumText
theorem ypS (x:Str)(c:Nat):(!(occurrences x (one c) 0 x.length 1).isEmpty)=decide (c∈x.cps.toList):=by
 rw[Wv];by_cases h:c∈x.cps.toList
 ·rw[decide_eq_true h];have:cK c 0 x.cps.toList≠[]:=λe=>P3.mp e h
  cases e:cK c 0 x.cps.toList with
  | nil=>exact absurd e this
  | cons a b=>rfl
 ·rw[decide_eq_false h,P3.mpr h];rfl
end TX
namespace TX
open PySem PySem.Builtin PySem.Builtin.Str PySem.NumText
structure yvj (m:Nat) (cs:List Nat):Prop where
 all:AllDigits cs
 ne:cs≠[]
 hd:1<=m->cs.head?≠some 48
 val:digitsVal cs=m
end TX
namespace L2
open PySem PySem.Spec PyProof.Rows
section
variable {X:Cx}
end
end L2
namespace PB
open PySem
open PySem.Sem (wp)
open PySem.AutoSeq1 (wpAny_loadPart')
end PB
namespace L2
open PySem PySem.W PyProof.Rows
section
variable {c:Nat->Nat->Bool} {n:Nat}
structure yqY (c:Nat->Nat->Bool) (n:Nat):Prop where
 irr:∀ i,i < n->c i i=false
 tr:∀ i j k,i < n->j < n->k < n->c i j=true->c j k=true->c i k=true
 tot:∀ i j,i < n->j < n->c i j=false->c j i=false->i=j
def G (p:Array Nat)(k:Nat):Nat:=p.getD k 0
structure yuR (n:Nat) (p:Array Nat):Prop where
 size:p.size=n
 perm:p.toList.Perm (List.range n)
def Up (c:Nat->Nat->Bool)(p:Array Nat)(k:Nat):Prop:=∀ a b,a<=b->b < k->c (G p b) (G p a)=false
end
end L2
namespace L2
open PySem PySem.Spec PySem.W PyProof.Rows
section
variable {X:Cx} {pins:List (Addr×Obj)} {σ:St} {H:Hp} {s:Shared} {A:Around} {E:Value->Shared->Prop} {a kS:Addr} {vs ks:List Value} {e e1 n:Nat} {f:Value}
structure yvi (X:Cx) (A:Around) (ks:List Value) (c:Nat->Nat->Bool) (n:Nat) (s:Shared):Prop where
 ord:yqY c n
 kind:2<=n->∃ κ,(∀ (Q:SortKind->Shared->Prop) (E:Value->Shared->Prop),Q κ s->wpAny (model X.prog X.w) A (keyKind' ks.toArray) Q E s)/\∀ i j C,i < n->j < n->C (c i j) s->kas_ask X.prog X.w A κ ks i j C s
structure yu4 (c:Nat->Nat->Bool) (n:Nat) (p:Array Nat):Prop where
 shuf:yuR n p
 up:Up c p n
end
end L2
namespace L2
open PySem PySem.Spec PySem.W PyProof.Rows
section
variable {X:Cx} {pins:List (Addr×Obj)} {σ:St} {H:Hp} {s:Shared} {A:Around} {E:Value->Shared->Prop} {a kS:Addr} {vs:List Value} {e1 n:Nat} {f:Value}
end
end L2
namespace L2
open PySem PySem.Spec PySem.W PyProof.Rows
section
variable {X:Cx} {pins l:List (Addr×Obj)} {σ:St} {H:Hp} {s:Shared} {A:Around} {E:Value->Shared->Prop}
end
end L2
namespace L2
open PySem PySem.Spec PySem.W PyProof.Rows
section
variable {X:Cx} {pins:List (Addr×Obj)} {σ:St} {H:Hp} {s:Shared} {A:Around} {E:Value->Shared->Prop}
end
end L2
namespace L2
open PySem PySem.Spec PySem.W PyProof.Rows
section
variable {X:Cx}
end
end L2
namespace EX
open PySem
open Sem (wp)
section
variable {prog:Program} {w:World} {A:Around} {E:Value->Shared->Prop} {s:Shared}
end
end EX
namespace EX
open PySem PyProof.Rows
structure yvd (h h':Heap) (e:Addr):Prop where
 old:∀ b o,h.get? b=some o->h'.get? b=some o
 new:h.get? e=none
 made:∃ o vs,h'.get? e=some o/\o.cls=.type "StopIteration" /\ o.data=.fields vs/\2 < vs.size
section
variable {prog:Program} {w:World} {A:Around} {s:Shared} {it:Addr}
def cZ (M:Model)(A:Around)(it:Addr)(s:Shared){α:Type}(m:Sem α):Prop :=
 ∀ (Q:α->Shared->Prop) (E:Value->Shared->Prop),(∀ h e o,Heap.ExtBut it s.heap h->h.get? e=some o->o.cls=.type "StopIteration" -> E (.ref e) { s with heap:=h })->wpAny M A m Q E s
theorem cZ.said {M:Model}{α:Type}{k:Unit->Sem α}{tag:String}(y:cZ M A it s (k ())):cZ M A it s (rule tag >>= k):=λQ E e=>wpAny_bind (wpAny_rule (y Q E e))
end
end EX
namespace EX
open PySem PyProof.Rows
section
variable {prog:Program} {w:World} {A:Around} {E:Value->Shared->Prop} {s:Shared}
end
end EX
namespace EX
open PySem PyProof.Rows
def Lft (S Z:List Addr)(h h':Heap):Prop :=
 (∀ b o,h.get? b=some o->b∉S->b∉Z->h'.get? b=some o)/\∀ b o,h.get? b=some o->b∉Z->∃ sl,h'.get? b=some { o with slots:=sl }
abbrev wr (n:Nat)(x:Value):Obj->Obj:=Obj.mapFields (·.setIfInBounds n x)
section
variable {S Z:List Addr} {h h':Heap} {a:Addr}
theorem Lft.slots (x:Heap.SlotsOnly S h h'):Lft S Z h h':=⟨λb o g n _=>(x.2.1 b n).trans g,λb o g _=>x.2.2 b o g⟩
theorem Lft.push (x:Lft S Z h h')(o:Obj):Lft S Z h (h'.push o) :=
 ⟨λb v g n m=>Heap.get?_push_of_some _ (x.1 b v g n m),λb v g m=>(x.2 b v g m).imp λ_=>Heap.get?_push_of_some _⟩
theorem Lft.upd (x:Lft S Z h h')(f:Obj->Obj)(y:a∈Z∨h.get? a=none):Lft S Z h (h'.update a f):=by
 have off:∀ b v,h.get? b=some v->b∉Z->a≠b:=λb v g n e=>y.elim (λm=>n (e▸m)) λz=>nomatch (e▸z).symm.trans g
 exact⟨λb v g n m=>(Heap.get?_update_other _ _ (off b v g m)).trans (x.1 b v g n m),λb v g m=>(x.2 b v g m).imp λ_=>(Heap.get?_update_other _ _ (off b v g m)).trans⟩
theorem Lft.first {Y:List Addr}{f:Obj->Obj}(x:Lft S Z (h.update a f) h')(m:∀ b∈Z,b∈Y)(n:a∈Y):Lft S Y h h':=by
 have same:∀ b v,h.get? b=some v->b∉Y->(h.update a f).get? b=some v:=λb v g z=>(Heap.get?_update_other _ _ λ(e:a=b)=>z (e▸n)).trans g
 exact⟨λb v g u z=>x.1 b v (same b v g z) u λq=>z (m b q),λb v g z=>x.2 b v (same b v g z) λq=>z (m b q)⟩
theorem Lft.more {Y:List Addr}(x:Lft S Z h h')(m:∀ b∈Z,b∈Y):Lft S Y h h':=⟨λb v g u z=>x.1 b v g u λq=>z (m b q),λb v g z=>x.2 b v g λq=>z (m b q)⟩
theorem oE {o:Obj}{vs:Array Value}{n:Nat}{x:Value}(g:h.get? a=some o)(d:o.data=.fields vs):(h.update a (wr n x)).get? a=some (wr n x o)/\(wr n x o).data=.fields (vs.setIfInBounds n x) :=
 ⟨Heap.get?_update_self _ g (Obj.isFreed_of_fields (Obj.data_mapFields d _)),Obj.data_mapFields d _⟩
end
section
variable {M:Model} {A:Around} {E:Value->Shared->Prop} {s:Shared} {base:Heap} {env:Env} {outer:List Env} {L e C:Addr}
theorem s_ {head:Value}{had:Bool}{k:Value->Sem Unit}{Q:Unit->Shared->Prop}(fr:A.frames=some (env :: outer))(ff:s.heap.FunFrames base (env :: outer))(ef:env.frame=some L)
  (q:∀ h T o ts,Lft ((env :: outer).filterMap (·.frame)) [] s.heap h->s.heap.objs.size<=T->h.get? T=some o->o.data=.fields ts->3 < ts.size->wpAny M A (k (.ref T)) Q E { s with heap:=h }) :
  wpAny M A (frameOf env >>= λa=>entryPlaceOf L had >>= λpl=>EntryCells.newEntry head a .none (rawInt L) .none pl >>= k) Q E s :=
 wpAny_bind (wpAny_frameOf_fun fr ff ef λh so=>wpAny_bind (wpAny_entryPlaceOf λ_ hp=>wpAny_bind (wpAny_newObj_type
  (q _ h.objs.size _ _ ((Lft.slots so).push _) (Nat.le_of_eq so.1.symm) (Heap.get?_push_size _ rfl) rfl (by simp only[qZ,qA,qC];omega)) (hp.sizeOk5 _ _ _ _ _))))
theorem yiy {T:Addr}{oe oT:Obj}{vs ts:Array Value}{Q:Unit->Shared->Prop}(ge:s.heap.get? e=some oe)(de:oe.data=.fields vs)(z:1 < vs.size)(gT:s.heap.get? T=some oT)(dT:oT.data=.fields ts)(y:3 < ts.size)(ne:T≠e)
  (q:Q () { s with heap:=(s.heap.update e (wr 1 (.ref T))).update T (wr 3 .none) }):wpAny M A (setField (.ref e) 1 (.ref T)) (λ_ s'=>wpAny M A (setFlight (.ref e) none) Q E s') E s :=
 have w:=oE (n:=1) (x:=.ref T) ge de
 wpAny_setField ge de z (wpAny_bind (wpAny_field w.1 w.2 (x:=.ref T) (by simp[z]) (wpAny_setField ((Heap.get?_update_other _ _ (Ne.symm ne)).trans gT) dT y q)))
end
end EX
namespace L2
open PySem PySem.Spec PyProof.Rows
theorem t0.there {P:Program}{w:World}{H:Hp}{h:Heap}{a:Addr}{o:HO}(x:t0 P w H h a o):∃ u,h.get? a=some u:=by
 cases o with
 | lst xs=>obtain⟨_,_,_,_,e⟩:=x;exact⟨_,e⟩
 | tup xs=>obtain⟨_,_,_,_,e,_⟩:=x;exact⟨_,e⟩
 | dK kvs=>obtain⟨_,_,_,_,_,_,_,e,_⟩:=x;exact⟨_,e⟩
 | dT kvs=>obtain⟨_,_,_,_,_,_,_,e,_⟩:=x;exact⟨_,e⟩
 | set S n=>obtain⟨_,_,_,_,e,_⟩:=x;exact⟨_,e⟩
 | ins C dx fs=>obtain⟨_,_,_,e,_⟩:=x;exact⟨_,e⟩
 | own y=>obtain⟨_,e⟩:=x;exact⟨_,e⟩
 | xd fs=>obtain⟨_,⟨_,_,_,e,_⟩,_⟩:=x;exact⟨_,e⟩
 | rng lo hi=>obtain⟨_,_,_,e⟩:=x;exact⟨_,e⟩
 | frz ob u=>obtain⟨e,_⟩:=x;exact⟨_,e⟩
 | tbl ps=>exact⟨_,(show h.get? a=some _ from x)⟩
 | met f y=>exact⟨_,(show h.get? a=some _ from x)⟩
 | ext φ=>obtain⟨_,⟨_,e⟩,_⟩:=x;exact⟨_,e⟩
theorem C9.none_of {P:Program}{w:World}{H:Hp}{h:Heap}{a:Addr}(x:C9 P w H h)(n:h.get? a=none):H a=none:=by
 cases e:H a with
 | none=>rfl
 | some o=>
  obtain⟨u,g⟩:=(x a o e).there;rw[n] at g;cases g
theorem C9.left {P:Program}{w:World}{H:Hp}{h h':Heap}{S Z:List Addr}(x:C9 P w H h)(lf:EX.Lft S Z h h')(hS:∀ b∈S,H b=none)(hZ:∀ b∈Z,H b=none):C9 P w H h':=λa o e=>by
 have no:∀ b,(b=a∨H b=some (.own a))->H b≠none:=λb hb z=>by
  rcases hb with rfl | hb
  ·rw[z] at e;cases e
  ·rw[z] at hb;cases hb
 exact(x a o e).stay (λb u hb g=>lf.1 b u g (λz=>no b hb (hS b z)) λz=>no b hb (hZ b z)) (λ_ q=>q) λ_ _ q=>q
theorem Un.left {fs S Z:List Addr}{H H1:Hp}{h h1 h2 h3:Heap}(u:Un fs [] H H1 h h1)(k:∀ b o,h1.get? b=some o->h2.get? b=some o)(lf:EX.Lft S Z h2 h3)
  (hS:∀ b o,h.get? b=some o->b∈S->b∈fs) (hZ:∀ b o,h.get? b=some o->b∉Z):Un fs [] H H1 h h3 where
 keep:=λb o g n nf nx=>lf.1 b o (k b o (u.keep b o g n nf nx)) (λz=>nf (hS b o g z)) (hZ b o g)
 slot:=λb o g n hf nx=>by
  obtain⟨sl,g1⟩:=u.slot b o g n hf nx;obtain⟨sl2,g2⟩:=lf.2 b _ (k _ _ g1) (hZ b o g);exact⟨sl2,g2⟩
 free:=u.free
 there:=λb o g nx=>by
  obtain⟨o',g1⟩:=u.there b o g nx;obtain⟨sl,g2⟩:=lf.2 b o' (k _ _ g1) (hZ b o g);exact⟨_,g2⟩
 tups:=u.tups
 frzs:=u.frzs
 tbls:=u.tbls
section
variable {P:Program} {w:World} {K:qF} {mg:Str->Option Value} {base:Heap} {N:List Str} {qual:Str} {scope:Scope} {f:Addr} {cd:Value} {A:Around} {outer:List Env} {s s1:Shared} {H H1:Hp} {E:XK} {pins:List (Addr×Obj)} {σ:St} {h':Heap} {e C:Addr} {us:List Value}
end
theorem yo2 {K:qF}{h:Heap}{C:Addr}{bmB:List Value}{newId:String}(X:K.In h)(q:PySem.W.excIn K C bmB newId=true) :
  ∃ bm n nm qn bs hdct sn sub ab col dd k0 k1 k2 k3 k5 mN,h.get? C=some (excClassObj nm qn C n bs bm hdct sn sub ab col dd k0 k1 k2 k3 k5 newId)/\h.Ns n mN/\mN "__init__"=none/\OwnTail h bmB bm:=by
 unfold PySem.W.excIn at q;split at q
 ·rename_i dd cd sl g
  split at q
  ·rename_i C2 bm k0 k1 k2 k3 n k5 hm hs
   simp only[Bool.and_eq_true,beq_iff_eq,Bool.not_eq_true'] at q;obtain⟨⟨⟨⟨⟨rfl,rfl⟩,q1⟩,q2⟩,q3⟩,q4⟩:=q;obtain⟨nm,bs,mro,ns,qn,hd,sn,sub,ab,col,del⟩:=cd;dsimp only at hm q1 q3 q4;subst hm q1;obtain⟨l⟩:=sl;simp only at hs;subst hs;exact⟨bm,ns,nm,qn,bs,hd,sn,sub,ab,col,dd,k0,k1,k2,k3,k5,_,X _ _ g,.of_isNs (PySem.W.isNs_of_in X q3),PySem.W.nsMap_none_of_in X q3 q4,PySem.W.tail_of_in X q2⟩
  ·cases q
 ·cases q
end L2
namespace EX
open PySem PySem.Spec PySem.Calls PyProof.Rows PySem.W
section
variable {prog:Program} {w:World} {A:Around} {E:Value->Shared->Prop} {K:Frag} {x D:Addr} {ox:Obj} {hh:Heap} {g:Array GenState} {d:Drawn} {t:Nat} {os:OsState}
end
theorem WZ {K:Frag}{D:Addr}{cd:ClassData}(c:clsIn K D=some cd):∃ o,K.lookup D=some o/\o.data=.cls cd:=by
 simp only[clsIn] at c;split at c
 case h_1 g=>exact⟨_,g,congrArg Data.cls (Option.some.inj c)⟩
 case h_2=>exact nomatch c
end EX
namespace EX
open PySem PySem.Spec PyProof.Rows PySem.W
structure ExcW (K:Frag) (C:Addr):Prop where
 sa:findIn K (.ref C) "__setattr__"=some (some (.builtin "object.__setattr__"))
 ps:∃ cd,clsIn K C=some cd/\cd.hasDict=true/\∀ self,refuseLoop self "__setattr__" cd.mro=pure ()
 mo:mroIn K C (.type "object")=some true
section
variable {prog:Program} {w:World} {A:Around} {E:Value->Shared->Prop} {K:Frag} {C x:Addr} {s:Shared} {ox:Obj} {od:Option Obj} {name:Str} {v:Value}
end
end EX
namespace EX
open PySem PySem.Spec PyProof.Rows PySem.W
section
variable {prog:Program} {w:World} {A:Around} {E:Value->Shared->Prop} {K:Frag} {C x:Addr} {s:Shared} {ox:Obj} {od:Option Obj} {name:Str} {v:Value}
end
end EX
namespace EX
open PySem PySem.Spec PySem.Calls PyProof.Rows PySem.W
section
variable {prog:Program} {w:World} {A:Around} {E:Value->Shared->Prop} {K:Frag} {x D:Addr} {ox:Obj} {od:Option Obj} {hh:Heap} {g:Array GenState} {d:Drawn} {t:Nat} {os:OsState}
theorem UQ {tk:Tok}{Q:Fin->Shared->Prop}(X:K.In hh)(I:W.InstAt hh x ox D od)(hf:findObj K D od "__class__"=some (.bind (.builtin "getset_descriptor.__get__") (.builtin "object.__class__")))(hm:mroIn K D (.type "object")=some true)
  (q:Q (.done (.ret (.ref D))) ⟨hh,g,d,t,os⟩):wpAny (model prog w) A (Builtin.«object.__getattribute__» ⟨[.ref x,.str "__class__" tk],[]⟩) Q E ⟨hh,g,d,t,os⟩:=by
 have l0:=I.type (M:=model prog w);have l1:=looks_find (M:=model prog w) X I hf;refine wpAny_bind (wpAny_pure (wpAny_bind (wpAny_pure (wpAny_bind (l0.at (wpAny_bind (l1.at ?_)))))));show wpAny _ _ (Builtin.ObjectAttr.bindTo _ _ _ _) _ _ _
 repeat (any_goals (first | assumption | wp_step))
 refine class_get (s:=⟨hh,g,d,t,os⟩) (ox:=ox) (od:=od) X I hm ?_
 repeat (any_goals (first | assumption | wp_step))
theorem IJ {nv:Value}{Q:Unit->Shared->Prop}(X:K.In hh)(I:W.InstAt hh x ox D od)(hb:mroIn K D (.type "BaseException")=some true)(q:Q () ⟨hh,g,d,t,os⟩) :
  wpAny (model prog w) A (checkBuiltinCall "BaseException.__getattribute__" ⟨[.ref x,nv],[]⟩) Q E ⟨hh,g,d,t,os⟩:=by
 have hk:builtinKind "BaseException.__getattribute__"=some .slot:=by decide +kernel
 have hs:splitId "BaseException.__getattribute__"=some ("BaseException","__getattribute__"):=by decide +kernel
 have ha:=F.args_bexc_ga (.ref x) nv;have l0:=I.type (M:=model prog w);have l1:=looks_mroIn (M:=model prog w) X hb;simp only[checkBuiltinCall,hk,hs];refine wpAny_bind ?_;unfold isInstance
 repeat lk
 exact q
theorem yjA {Q:Option Value->Shared->Prop}{s:Shared}(X:K.In s.heap)(I:W.InstAt s.heap x ox D od)(hga:findIn K (.ref D) "__getattribute__"=some (some (.builtin "BaseException.__getattribute__")))(hgn:findIn K (.ref D) "__getattr__"=some none)
  (hf:findObj K D od "__class__"=some (.bind (.builtin "getset_descriptor.__get__") (.builtin "object.__class__"))) (hm:mroIn K D (.type "object")=some true) (hb:mroIn K D (.type "BaseException")=some true)
  (FB:ExcAttrFacts "ValueError") (q:Q (some (.ref D)) { s with toks:=s.toks+1 }):wpAny (model prog w) A (getAttr? (.ref x) "__class__") Q E s:=by
 obtain⟨hh,g,d,t,os⟩:=s;have l0:=I.type (M:=model prog w);have l1:=looks_findIn (M:=model prog w) X hga;have l2:=looks_findIn (M:=model prog w) X hgn;have f3:=FB.ga.bind (.ref x);unfold getAttr? getAttrBy? getAttrBy;refine wpAny_bind (wpAny_mkText (wpAny_bind (wpAny_attempt (wpAny_holding (wpAny_bind (l0.at (wpAny_bind (l1.at ?_))))))));show wpAny _ _ (getAttrByItsOwn _ _ _ _ _ _) _ _ _
 unfold getAttrByItsOwn
 repeat (any_goals (first | assumption | with_reducible refine l2.at ?_ | wp_step))
 refine codeAny_call_builtin FB.ga.plain F.entry_bexc_ga (IJ X I hb (UQ X I hf hm ?_))
 repeat (any_goals (first | assumption | wp_step))
end
theorem kitx_excO {K:Frag}{x D:Addr}{ox:Obj}{od:Option Obj}{cd:ClassData}(c:clsIn K D=some cd)(hga:findIn K (.ref D) "__getattribute__"=some (some (.builtin "BaseException.__getattribute__")))(hgn:findIn K (.ref D) "__getattr__"=some none)
  (hf:findObj K D od "__class__"=some (.bind (.builtin "getset_descriptor.__get__") (.builtin "object.__class__"))) (hm:mroIn K D (.type "object")=some true) (hb:mroIn K D (.type "BaseException")=some true) (FB:ExcAttrFacts "ValueError") :
  KitX K (.ref x) (.ref D) (λh=>W.InstAt h x ox D od):=by
 obtain⟨o,g,d⟩:=WZ c;exact {
  ty:=λ_ _ _ I=>I.type
  it:=λ_ _ X _ _ _ _ _ k q=>wpAny_bind (wpAny_loadPart (k _ _ (X _ _ g)) (by rw[d];exact wpAny_pure q))
  ne:=λh tp dd its n sl X gt=>by
   rw[beq_eq_false_iff_ne];intro z;have y:=Option.some.inj ((X _ _ g).symm.trans (Value.ref.inj z▸gt));exact nomatch d.symm.trans (congrArg Obj.data y)
  ca:=λX I q=>yjA X I hga hgn hf hm hb FB q }
section
variable {prog:Program} {w:World} {A:Around} {E:Value->Shared->Prop} {K:Frag} {x D:Addr} {ox:Obj} {od:Option Obj} {hh:Heap} {g:Array GenState} {d:Drawn} {t:Nat} {os:OsState}
end
end EX
namespace L2
open PySem PySem.Spec PyProof.Rows
def wX:V->Option Value
 | .ref a=>some (.ref a)
 | .ty n=>some (.type n)
 | _=>none
structure T6 (K:qF) (D:Addr):Prop where
 cls:∃ cd,PySem.W.clsIn K D=some cd/\cd.hasDict=true/\∀ self,refuseLoop self "__setattr__" cd.mro=pure ()
 ga:PySem.W.findIn K (.ref D) "__getattribute__"=some (some (.builtin "BaseException.__getattribute__"))
 gn:PySem.W.findIn K (.ref D) "__getattr__"=some none
 sa:PySem.W.findIn K (.ref D) "__setattr__"=some (some (.builtin "object.__setattr__"))
 fc:PySem.W.findIn K (.ref D) "__class__"=some (some (.builtin "object.__class__"))
 fg:PySem.W.specialIn K (.builtin "object.__class__") "__get__"=some (some (.builtin "getset_descriptor.__get__"))
 ft:PySem.W.takesIn K (.builtin "object.__class__")=some true
 mo:PySem.W.mroIn K D (.type "object")=some true
 mb:PySem.W.mroIn K D (.type "BaseException")=some true
theorem T6.fo {K:qF}{D:Addr}(e:T6 K D)(od:Option Obj):PySem.W.findObj K D od "__class__"=some (.bind (.builtin "getset_descriptor.__get__") (.builtin "object.__class__")):=by
 obtain⟨cd,h0,_⟩:=e.cls;unfold PySem.W.findObj;rw[h0,Option.bind_some,e.fc,Option.bind_some];simp[e.fg,e.ft]
theorem T6.w {K:qF}{D:Addr}(e:T6 K D):EX.ExcW K D:=⟨e.sa,e.cls,e.mo⟩
abbrev Xn (dx:Addr)(fs:List (Str×V)):HO:=.ext λh=>∃ mA,h.Ns1 dx mA/\∀ f,I0 (fs.lookup f) (mA f)
def ExcAt (H:Hp)(x:V)(C:Addr)(fs:List (Str×V)):Prop:=∃ a o us,x=.ref a/\o.cls=.ref C/\o.data=.fields us/\H a=some (.ext λh=>h.get? a=some o)/\(o.dict=none/\fs=[]∨∃ dx,o.dict=some dx/\H dx=some (Xn dx fs))
theorem ExcAt.inst {P:Program}{w:World}{H:Hp}{h:Heap}{x:V}{C:Addr}{fs:List (Str×V)}(e:ExcAt H x C fs)(k:C9 P w H h):∃ a o od,x=.ref a/\PySem.W.InstAt h a o C od/\∀ f v,fs.lookup f=some v->∃ d u,od=some d/\PySem.W.lookIn f d=some (some u)/\g9 v u:=by
 obtain⟨a,o,us,rfl,hc,hf,ea,hd⟩:=e;have g:h.get? a=some o:=(show t0 P w H h a _ from k a _ ea).1;have nc:PySem.W.notCls o=true:=by unfold PySem.W.notCls;rw[hf]
 rcases hd with ⟨hd,rfl⟩ | ⟨dx,hd,ex⟩
 ·exact⟨a,o,none,rfl,⟨g,hc,nc,by rw[hd];trivial⟩,λf v z=>by cases z⟩
 ·obtain⟨mA,n,r⟩:=(show t0 P w H h dx (Xn dx fs) from k dx _ ex).1;obtain⟨od,ho,hl⟩:=Vr n;refine⟨a,o,some od,rfl,⟨g,hc,nc,by rw[hd];exact ho⟩,λf v z=>?_⟩;obtain⟨u,hu,ru⟩:=I0.some_of (v:=v) (o:=mA f) (by rw[<- z];exact r f);exact⟨od,u,rfl,by rw[hl,hu],ru⟩
def Xz (K:qF):List V->Hp->VK->Prop:=λxs H Q=>∃ x C fs c v b,xs=[x,c]/\ExcAt H x C fs/\T6 K C/\wX c=some v/\PySem.W.kitOne K (.ref C) v=some b/\Q (.bl b) H
theorem eA {X:Cx}:P7 X (.builtin "isinstance") (Xz X.K):=by
 intro pins s σ H xs us Q I r h;obtain⟨x,C,fs,c,v,b,rfl,hx,ek,cv,kb,q⟩:=h;obtain⟨a,o,od,rfl,J,_⟩:=hx.inst I.hok;obtain⟨u,w',rfl,ru,rv⟩:=jC r;cases ru;obtain⟨cd,hcd,_⟩:=ek.cls;have ev:w'=v:=by
  cases c<;>simp[wX] at cv
  ·subst cv;exact rv
  ·subst cv;exact rv
 subst ev;exact PySem.W.kia_one (EX.kitx_excO hcd ek.ga ek.gn (ek.fo od) ek.mo ek.mb F.excAttr_ValueError) I.kIn J kb (λz=>nomatch z) λtk=>⟨.bl b,H,I.tok _,rfl,q⟩
end L2
namespace EX
open PySem PySem.Spec PySem.Calls PyProof.Rows PySem.W
section
variable {prog:Program} {w:World} {A:Around} {E:Value->Shared->Prop} {K:Frag} {C n fI:Addr} {nm qn:Str} {bs bm bmB:List Value} {hdct:Bool} {sn:List Str} {sub:List Value} {ab:Bool} {col:Option Bool} {dd:Option Addr} {k0 k1 k2 k3 k5:Option Value} {B newId initId:String} {rest:List Value} {h:Heap} {g:Array GenState} {d:Drawn} {t:Nat} {os:OsState}
end
end EX
namespace L2
open PySem PySem.Spec PyProof.Rows
theorem Un.laidN {fs ex:List Addr}{H:Hp}{h h':Heap}{a:Addr}{o:HO}(k:∀ b u,h.get? b=some u->h'.get? b=some u)(hp:h.get? a=none)(hn:H a=none):Un fs ex H (upd H a o) h h' where
 keep:=λb u q _ _ _=>k b u q
 slot:=λb u q _ _ _=>⟨u.slots,k b u q⟩
 free:=λb u q n _=>by
  rw[u6 (λz=>by rw[z,hp] at q;cases q)];exact n
 there:=λb u q _=>⟨u,k b u q⟩
 tups:=λb xs q=>by rw[u6 (G8 q hn)];exact q
 frzs:=λb u xs q=>by rw[u6 (G8 q hn)];exact q
 tbls:=λb ps q=>⟨#[],by rw[u6 (G8 q hn),q];simp⟩
theorem C9.laidN {P:Program}{w:World}{H:Hp}{h h':Heap}{a:Addr}{o:HO}(x:C9 P w H h)(k:∀ b u,h.get? b=some u->h'.get? b=some u)(hn:H a=none)(new:t0 P w (upd H a o) h' a o):C9 P w (upd H a o) h':=λb u e=>by
 by_cases hb:b=a
 ·subst hb;rw[f9] at e;cases e;exact new
 ·rw[u6 hb] at e;exact(x b u e).stay (λc v _ q=>k c v q) (λc q=>by rw[u6 (G8 q hn)];exact q) λc xs q=>by rw[u6 (G8 q hn)];exact q
theorem f6.laidN {X:Cx}{pins:List (Addr×Obj)}{σ:St}{H:Hp}{s:Shared}{h':Heap}{a:Addr}{o:HO}{t':Nat}(I:f6 X pins σ H s)(k:∀ b u,s.heap.get? b=some u->h'.get? b=some u)(hp:s.heap.get? a=none)(new:t0 X.prog X.w (upd H a o) h' a o) :
  f6 X pins σ (upd H a o) { s with heap:=h',toks:=t' }:=I.un (Un.laidN k hp (I.hok.none_of hp)) (I.hok.laidN k (I.hok.none_of hp) new)
abbrev fP (a:Addr)(o:Obj):HO:=.ext λh=>h.get? a=some o
theorem Zd {P:Program}{w:World}{H:Hp}{h:Heap}{a:Addr}{o:Obj}(g:h.get? a=some o):t0 P w H h a (fP a o):=⟨g,⟨o,g⟩,λh1 h2 p k=>k o p⟩
structure yuW (K:qF) (C fI:Addr) (bmB:List Value) (newId:String):Prop where
 ob:∃ nm qn n bs bm hdct sn sub ab col dd k0 k1 k2 k3 k5,K.lookup C=some (excClassObj nm qn C n bs bm hdct sn sub ab col dd k0 k1 k2 k3 k5 newId)/\PySem.W.tailIn K bmB bm=true
 init:PySem.W.findIn K (.ref C) "__init__"=some (some (.ref fI))
 fn:PySem.W.isFn K (.ref fI)=true
 kp:PySem.W.keepIn K (.ref C)=true
end L2
namespace EX
open PySem PyProof.Rows
def TrdD (h:Heap)(e C T:Addr)(dd:Option Addr):Prop :=
 ∃ oe vs oT ts,h.get? e=some oe/\(oe.cls=.ref C/\oe.dict=dd)/\oe.data=.fields vs/\vs[1]?=some (.ref T)/\vs[2]?=some .none/\T≠e/\h.get? T=some oT/\oT.data=.fields ts/\ts[3]?=some .none
theorem Zy {o:Obj}{C:Value}{n:Nat}{dd:Option Addr}{x:Value}(c:o.cls=C/\o.dict=dd):(wr n x o).cls=C/\(wr n x o).dict=dd:=by
 obtain⟨c1,c2⟩:=c;cases o with | mk cls dict data slots=>cases data<;>exact⟨c1,c2⟩
section
variable {M:Model} {A:Around} {E:Value->Shared->Prop} {s:Shared} {base:Heap} {env:Env} {outer:List Env} {L e C:Addr} {dd:Option Addr}
theorem Zv {oe:Obj}{vs:Array Value}{head:Value}{had:Bool}{Q:Unit->Shared->Prop}(fr:A.frames=some (env :: outer))(ff:s.heap.FunFrames base (env :: outer))(ef:env.frame=some L)
  (ge:s.heap.get? e=some oe) (ce:oe.cls=.ref C/\oe.dict=dd) (de:oe.data=.fields vs) (z:1 < vs.size) (c2:vs[2]?=some .none)
  (q:∀ h T,s.heap.objs.size<=T->Lft ((env :: outer).filterMap (·.frame)) [e] s.heap h->TrdD h e C T dd->Q () { s with heap:=h }) :
  wpAny M A (frameOf env >>= λa=>entryPlaceOf L had >>= λpl=>EntryCells.newEntry head a .none (rawInt L) .none pl >>= λb=>setField (.ref e) 1 b) (λ_ s'=>wpAny M A (setFlight (.ref e) none) Q E s') E s:=by
 refine s_ fr ff ef λh T o ts lf le gT dT y=>?_
 have apart:e∉(env :: outer).filterMap (·.frame):=λm=>(ff.mem m).2.elim λv u=>u.2 vs (Option.some.inj (u.1.symm.trans ge)▸de)
 have ge1:h.get? e=some oe:=lf.1 e oe ge apart qk;have ne:T≠e:=Nat.ne_of_gt (Nat.lt_of_lt_of_le (Heap.lt_size ge) le);have we:=oE (n:=1) (x:=.ref T) ge1 de;have wT:=oE (n:=3) (x:=.none) ((Heap.get?_update_other h (wr 1 (.ref T)) (Ne.symm ne)).trans gT) dT;refine yiy ge1 de z gT dT y ne (q _ T le (((lf.more (by simp)).upd _ (.inl List.mem_cons_self)).upd _ (.inr (Heap.get?_none_of_le le))) ?_);exact⟨_,_,_,_,(Heap.get?_update_other _ _ ne).trans we.1,Zy ce,we.2,by simp[z],by rw[Array.getElem?_setIfInBounds_ne (by decide)];exact c2,ne,wT.1,wT.2,by simp[y]⟩
theorem leave_firstD {oe:Obj}{vs:Array Value}{Q:Unit->Shared->Prop}(fr:A.frames=some (env :: outer))(ff:s.heap.FunFrames base (env :: outer))(ef:env.frame=some L)
  (ge:s.heap.get? e=some oe) (ce:oe.cls=.ref C/\oe.dict=dd) (de:oe.data=.fields vs) (c1:vs[1]?=some .none) (c2:vs[2]?=some .none)
  (q:∀ h T,s.heap.objs.size<=T->Lft ((env :: outer).filterMap (·.frame)) [e] s.heap h->TrdD h e C T dd->Q () { s with heap:=h }):wpAny M A (leaving env (.ref e)) Q E s:=by
 refine wpAny_bind ?_;rw[noteFrame,ef];exact wpAny_bind (wpAny_field ge de c1 (Zv fr ff ef ge ce de (Array.getElem?_eq_some_iff.mp c1).1 c2 q))
theorem note_nextD {T:Addr}{Q:Unit->Shared->Prop}(fr:A.frames=some (env :: outer))(ff:s.heap.FunFrames base (env :: outer))(ef:env.frame=some L)(td:TrdD s.heap e C T dd)
  (q:∀ h T',s.heap.objs.size<=T'->Lft ((env :: outer).filterMap (·.frame)) [e,T] s.heap h->TrdD h e C T' dd->Q () { s with heap:=h }) :
  wpAny M A (noteFrame (.ref e) env) (λ_ s'=>wpAny M A (setFlight (.ref e) none) Q E s') E s:=by
 obtain⟨oe,vs,oT,ts,ge,ce,de,c1,c2,ne,gT,dT,c3⟩:=td;have same:∀ b,b≠T->(s.heap.update T (wr 3 .none)).get? b=s.heap.get? b:=λb n=>Heap.get?_update_other _ _ (Ne.symm n)
 have flown:¬ (Value.none==rawInt L)=true:=by simp[rawInt]
 have ff':(s.heap.update T (wr 3 .none)).FunFrames base (env :: outer):=ff.of_keeps λb o g n=>⟨o,(same b λm=>n ts (Option.some.inj ((m▸g).symm.trans gT)▸dT)).trans g,rfl⟩
 rw[noteFrame,ef];refine wpAny_bind (wpAny_field ge de c1 (wpAny_bind (wpAny_field gT dT c3 ?_)));rw[if_neg flown];exact wpAny_bind (wpAny_setField gT dT (Array.getElem?_eq_some_iff.mp c3).1 (Zv fr ff' ef ((same e (Ne.symm ne)).trans ge) ce de (Array.getElem?_eq_some_iff.mp c1).1 c2
  λh T' le lf=>q h T' (Heap.size_update s.heap T _▸le) (lf.first (λb m=>List.mem_cons.mpr (.inl (List.mem_singleton.mp m))) (by simp))))
end
end EX
namespace EX
open PySem PySem.Spec PySem.Calls PyProof.Rows PySem.W
theorem raise_inst {prog:Program}{w:World}{A:Around}{E:Value->Shared->Prop}{K:Frag}{env:Env}{x:Sem Value}{s:Shared}{Q:Flow->Shared->Prop}(hn:A.handled=none)
  (hx:wpAny (model prog w) A x (λv s1=>∃ e o C us,v=.ref e/\K.In s1.heap/\s1.heap.get? e=some o/\o.cls=.ref C/\o.data=.fields us/\us[1]?=some .none/\mroIn K C (.type "BaseException")=some true/\typeIn K (.ref C)=some (.type "type")/\E (.ref e) s1) E s) :
  wpAny (model prog w) A (raiseStmt env (some x) none) Q E s:=by
 unfold raiseStmt;refine wpAny_bind (wpAny_mono hx (λv s1 z=>?_) λ_ _ z=>z);obtain⟨e,o,C,us,rfl,X,g,hc,hf,h1,hb,ht,q⟩:=z;obtain⟨h,gg,d,t,os⟩:=s1;refine wpAny_bind (wpAny_pure ?_);dsimp only;unfold excFromValue isExcClass;have ty:∀ {α:Type} {k:Bool->Sem α} {R:α->Shared->Prop} {E':Value->Shared->Prop},wpAny (model prog w) A (k false) R E' ⟨h,gg,d,t,os⟩->wpAny (model prog w) A (isType (.ref e) >>= k) R E' ⟨h,gg,d,t,os⟩:=λ{α k R E'} z=>by
  refine wpAny_bind (wpAny_bind (wpAny_loadPart_at g (wpAny_pure ?_)));rw[hf];exact z
 have l0:Looks (model prog w) h (typeOf (.ref e)) (.ref C):=hc▸(Looks.ld g).andThen .now
 have l1:=looks_mroIn (M:=model prog w) X hb;have l2:=looks_typeIn (M:=model prog w) X ht;refine wpAny_bind (wpAny_holding (wpAny_bind (ty (wpAny_pure ?_))));rw[if_neg (by simp)];refine wpAny_bind (wpAny_bind (Looks.here (s:=⟨h,gg,d,t,os⟩) l0 (Looks.here (s:=⟨h,gg,d,t,os⟩) l1 ?_)));rw[if_pos rfl];refine wpAny_pure (ty ?_);rw[if_neg (by simp)];unfold raisedInstance;refine wpAny_bind (wpAny_bind (Looks.here (s:=⟨h,gg,d,t,os⟩) l0 (wpAny_bind (Looks.here (s:=⟨h,gg,d,t,os⟩) l2 ?_))));rw[if_pos (by simp)];refine wpAny_pure (wpAny_bind (wpAny_bind (wpAny_field (s:=⟨h,gg,d,t,os⟩) g hf h1 ?_)));rw[if_neg (by simp)];refine wpAny_pure ?_;unfold raiseNew;refine wpAny_bind (wpAny_handled ?_);rw[hn];exact wpAny_throw q
end EX
namespace L2
open PySem PySem.Spec PyProof.Rows
def F3 (P:Program)(w:World):P0:=λouter H s E e s'=>∃ a C T dd H',e=.ref a/\s'.os=s.os/\AllBare s'.gens/\Un (E6 outer) [] H H' s.heap s'.heap/\C9 P w H' s'.heap /\
 s.heap.get? a=none/\s.heap.get? T=none/\H' a=none/\H' T=none/\EX.TrdD s'.heap a C T dd/\∀ o us,o.cls=.ref C->o.dict=dd->o.data=.fields us->E e (some C) (upd H' a (fP a o))
def les (H:Hp)(a:Addr):Hp:=λb=>if b=a then none else H b
theorem oI {H:Hp}{a:Addr}:les H a a=none:=by unfold les;rw[if_pos rfl]
theorem gE {H:Hp}{a b:Addr}(h:b≠a):les H a b=H b:=by unfold les;rw[if_neg h]
theorem ypt {H:Hp}{a:Addr}{o:HO}:upd (les H a) a o=upd H a o:=by
 funext b
 unfold upd les;split<;>rfl
theorem C9.les {P:Program}{w:World}{H:Hp}{h:Heap}{a:Addr}{φ:Heap->Prop}(x:C9 P w H h)(ea:H a=some (.ext φ)):C9 P w (les H a) h:=λb v e=>by
 have nb:b≠a:=λz=>by rw[z,oI] at e;cases e
 rw[gE nb] at e;exact(x b v e).stay (λc u _ q=>q) (λc q=>by rw[gE (λz=>by rw[z,ea] at q;cases q)];exact q) λc xs q=>by rw[gE (λz=>by rw[z,ea] at q;cases q)];exact q
theorem Un.les {fs:List Addr}{H H1:Hp}{h h1:Heap}{a:Addr}{φ:Heap->Prop}(u:Un fs [] H H1 h h1)(ea:H1 a=some (.ext φ)):Un fs [] H (les H1 a) h h1 where
 keep:=u.keep
 slot:=u.slot
 free:=λb o q n nx=>by
  by_cases z:b=a
  ·rw[z,oI]
  ·rw[gE z];exact u.free b o q n nx
 there:=u.there
 tups:=λb xs q=>by
  have:=u.tups b xs q;rw[gE (λz=>by rw[z,ea] at this;cases this)];exact this
 frzs:=λb o x q=>by
  have:=u.frzs b o x q;rw[gE (λz=>by rw[z,ea] at this;cases this)];exact this
 tbls:=λb ps q=>by
  obtain⟨m,e⟩:=u.tbls b ps q;exact⟨m,by rw[gE (λz=>by rw[z,ea] at e;cases e)];exact e⟩
section
variable {P:Program} {w:World} {K:qF} {mg:Str->Option Value} {base:Heap} {N:List Str} {qual:Str} {scope:Scope} {f:Addr} {cd:Value} {A:Around} {outer:List Env} {s s1:Shared} {H H1:Hp} {E:XK} {pins:List (Addr×Obj)} {σ:St} {e C:Addr} {o:Obj} {us:Array Value}
theorem KZ (I:f6 (J1 (F3 P w) P w K mg base N qual scope f cd A outer s H E) pins σ H1 s1)(ea:H1 e=some (fP e o))(new:s.heap.get? e=none)(hc:o.cls=.ref C)(hf:o.data=.fields us)(h1:us[1]?=some .none)(h2:us[2]?=some .none)
  (q:∀ o2 us2,o2.cls=.ref C->o2.dict=o.dict->o2.data=.fields us2->E (.ref e) (some C) (upd H1 e (fP e o2))) :
  (J1 (F3 P w) P w K mg base N qual scope f cd A outer s H E).xe (.ref e) s1:=by
 have ge:s1.heap.get? e=some o:=(show t0 P w H1 s1.heap e (fP e o) from (show C9 P w H1 s1.heap from I.hok) e _ ea).1;have un:Un (E6 outer) [] H (les H1 e) s.heap s1.heap:=(show Un (E6 outer) [] H H1 s.heap s1.heap from I.base).les ea;have hk:C9 P w (les H1 e) s1.heap:=(show C9 P w H1 s1.heap from I.hok).les ea;refine EX.leave_firstD (C:=C) (show(A.deeper (envOfC qual scope s.heap.objs.size f cd)).frames=some (envOfC qual scope s.heap.objs.size f cd :: outer) from I.ok.frames) (show s1.heap.FunFrames base (envOfC qual scope s.heap.objs.size f cd :: outer) from I.stack) rfl ge ⟨hc,rfl⟩ hf h1 h2 λh2 T le lf tr=>?_
 have gT:s1.heap.get? T=none:=Heap.get?_none_of_le le;have nT:s.heap.get? T=none:=by
  cases g:s.heap.get? T with
  | none=>rfl
  | some v=>
   obtain⟨o',g'⟩:=un.there T v g (by simp);rw[gT] at g';cases g'
 refine⟨e,C,T,o.dict,les H1 e,rfl,I.os,I.bare,un.left (λb v z=>z) lf (λb v g z=>?_) (λb v g z=>?_),hk.left lf (λb z=>?_) (λb z=>?_),new,nT,oI,hk.none_of gT,tr,λo2 us2 a b c=>by rw[ypt];exact q o2 us2 a b c⟩
 ·have z2:b∈s.heap.objs.size :: E6 outer:=z;rcases List.mem_cons.mp z2 with rfl | z'
  ·exact absurd (Heap.lt_size g) (Nat.lt_irrefl _)
  ·exact z'
 ·rw[List.mem_singleton.mp z,new] at g;cases g
 ·by_cases y:b=e
  ·rw[y,oI]
  ·rw[gE y];exact I.stkFree b z
 ·rw[List.mem_singleton.mp z,oI]
end
section
variable {P:Program} {w:World} {K:qF} {mg:Str->Option Value} {base:Heap} {N:List Str} {qual:Str} {scope:Scope} {f:Addr} {cd:Value} {A:Around} {outer:List Env} {s:Shared} {H:Hp} {E:XK}
end
abbrev Cx.hndN (X:Cx)(a:Addr):Cx:={ X with A:=X.A.mark (some (.ref a)),calm:=false,xe:=λ_ _=>False }
section
variable {X:Cx} {pins:List (Addr×Obj)} {σ:St} {H:Hp} {s:Shared} {a:Addr}
theorem f6.hndN (I:f6 X pins σ H s)(a:Addr):f6 (X.hndN a) pins σ H s :=
 ⟨⟨I.ok.mod,I.ok.kind,I.ok.glob,I.ok.blt,I.ok.above,I.ok.inj,I.ok.has,I.ok.cab,λh=>(by cases h),I.ok.frames,I.ok.stk,I.ok.exf,I.ok.bs,I.ok.bsz,I.ok.noex,I.ok.exfs,I.ok.funs,I.ok.frf⟩,I.os,I.bare,I.base,I.loc,I.cell,I.free,I.freeC,I.pin,I.hok,I.len⟩
theorem f6.unhnd (ok:X.Ok)(I:f6 (X.hndN a) pins σ H s):f6 X pins σ H s :=
 ⟨ok,I.os,I.bare,I.base,I.loc,I.cell,I.free,I.freeC,I.pin,I.hok,I.len⟩
theorem f6.gone {h':Heap}{m':Str->Option Value}{tk:Nat}(I:f6 X pins σ H s)(hn:h'.Ns X.env.locals m')(sb:Heap.SameBut X.env.locals s.heap h'):f6 X pins (List.replicate X.N.length none) H { s with heap:=h',toks:=tk }:=by
 have k:∀ b o,b≠X.env.locals->s.heap.get? b=some o->h'.get? b=some o:=λb o hb e=>(sb.2 b hb).trans e
 have lo:∀ b o,X.s₀.heap.get? b=some o->b≠X.env.locals:=λb o e=>Nat.ne_of_lt (Nat.lt_of_lt_of_le (Heap.lt_size e) I.ok.above)
 have nz:∀ b,H b≠none->b≠X.env.locals:=λb hb z=>hb (by rw[z];exact I.free)
 refine⟨I.ok,I.os,I.bare,⟨λb o g n nf nx=>k b o (lo b o g) (I.base.keep b o g n nf nx),λb o g n hf nx=>?_,I.base.free,λb o g nx=>?_,I.base.tups,I.base.frzs,I.base.tbls⟩,⟨m',hn,λi x v _ e _=>?_⟩,λx c e=>?_,I.free,I.freeC,λp hp=>?_,λb o e=>?_,by simp⟩
 ·obtain⟨sl,e⟩:=I.base.slot b o g n hf nx;exact⟨sl,k _ _ (lo b o g) e⟩
 ·obtain⟨o',e⟩:=I.base.there b o g nx;exact⟨o',k _ _ (lo b o g) e⟩
 ·rw[List.getElem?_replicate] at e;split at e<;>cases e
 ·obtain⟨v,oc,ho,hd⟩:=I.cell x c e;exact⟨v,oc,k _ _ (I.cne x c e) ho,hd⟩
 ·obtain⟨e,n,ne,nf,d⟩:=I.pin p hp;exact⟨k _ _ ne e,n,ne,nf,d⟩
 ·refine(I.hok b o e).stay (λc u hc q=>k c u (nz c ?_) q) (λ_ q=>q) λ_ _ q=>q
  rcases hc with rfl | hc
  ·rw[e];simp
  ·rw[hc];simp
end
theorem ypq {M:Model}{A:Around}{E:Value->Shared->Prop}{s:Shared}{a C T:Addr}{dd:Option Addr}{Q:Unit->Shared->Prop}(td:EX.TrdD s.heap a C T dd)
  (q:∀ h',EX.Lft [] [T] s.heap h'->EX.TrdD h' a C T dd->Q () { s with heap:=h' }):wpAny M A (setFlight (.ref a) none) Q E s:=by
 obtain⟨oe,vs,oT,ts,ge,ce,de,c1,c2,ne,gT,dT,c3⟩:=td;unfold setFlight;refine wpAny_bind (wpAny_field ge de c1 ?_);rw[if_pos (show(Value.ref T != Value.none)=true from by simp)];refine wpAny_setField gT dT (Array.getElem?_eq_some_iff.mp c3).1 (q _ ?_ ?_)
 ·refine⟨λb o g _ n=>?_,λb o g n=>⟨o.slots,?_⟩⟩
  ·rw[Heap.get?_update_other _ _ λz=>n (by rw[z];simp)];exact g
  ·rw[Heap.get?_update_other _ _ λz=>n (by rw[z];simp)];exact g
 ·refine⟨oe,vs,_,_,?_,ce,de,c1,c2,ne,Heap.get?_update_self _ gT (Obj.isFreed_of_fields (Obj.data_mapFields dT _)),Obj.data_mapFields dT _,?_⟩
  ·rw[Heap.get?_update_other _ _ ne];exact ge
  ·have:=(Array.getElem?_eq_some_iff.mp c3).1;simp[this]
abbrev Cx.tri (X:Cx)(pins:List (Addr×Obj))(E:Value->Shared->Prop):Cx:={ X with pn:=pins++X.pn,xe:=E }
section
variable {X:Cx} {pins pins':List (Addr×Obj)} {σ:St} {H:Hp} {s:Shared} {E:Value->Shared->Prop}
theorem f6.tri (I:f6 X pins σ H s)(E:Value->Shared->Prop):f6 (X.tri pins E) [] σ H s:=by
 refine⟨⟨I.ok.mod,I.ok.kind,I.ok.glob,I.ok.blt,I.ok.above,I.ok.inj,I.ok.has,I.ok.cab,λc=>?_,I.ok.frames,I.ok.stk,I.ok.exf,I.ok.bs,I.ok.bsz,I.ok.noex,I.ok.exfs,I.ok.funs,I.ok.frf⟩,I.os,I.bare,I.base,I.loc,I.cell,I.free,I.freeC,λp hp=>?_,I.hok,I.len⟩
 ·exact I.ok.hd c
 ·have hp:p∈(pins++X.pn)++[]:=hp;rw[List.append_nil] at hp;refine I.pin p ?_;rcases List.mem_append.mp hp with z | z
  ·exact List.mem_append_right _ z
  ·exact List.mem_append_left _ z
theorem f6.untri (ok:X.Ok)(I:f6 (X.tri pins E) pins' σ H s):f6 X pins σ H s :=
 ⟨ok,I.os,I.bare,I.base,I.loc,I.cell,I.free,I.freeC,λp hp=>I.pin p (by
  have hp:p∈X.pn++pins:=hp;show p∈(pins++X.pn)++pins'
  refine List.mem_append_left _ ?_;rcases List.mem_append.mp hp with z | z
  ·exact List.mem_append_right _ z
  ·exact List.mem_append_left _ z),I.hok,I.len⟩
theorem SP.untri {D:S0}{f:Flow}{s':Shared}(ok:X.Ok)(h:SP (X.tri pins E) pins' D f s'):SP X pins D f s':=by
 cases f with
 | next=>obtain⟨σ',H',I,q⟩:=h;exact⟨σ',H',I.untri ok,q⟩
 | brk=>obtain⟨σ',H',I,q⟩:=h;exact⟨σ',H',I.untri ok,q⟩
 | cont=>obtain⟨σ',H',I,q⟩:=h;exact⟨σ',H',I.untri ok,q⟩
 | ret u=>obtain⟨v,σ',H',I,r,q⟩:=h;exact⟨v,σ',H',I.untri ok,r,q⟩
end
theorem Un.also {fs:List Addr}{H H2:Hp}{h h2:Heap}{a:Addr}{o:HO}(u:Un fs [] H H2 h h2)(g:h.get? a=none)(n:H2 a=none):Un fs [] H (upd H2 a o) h h2 where
 keep:=u.keep
 slot:=u.slot
 free:=λb v q z nx=>by
  rw[u6 (λy=>by rw[y,g] at q;cases q)];exact u.free b v q z nx
 there:=u.there
 tups:=λb xs q=>by
  have:=u.tups b xs q;rw[u6 (G8 this n)];exact this
 frzs:=λb v x q=>by
  have:=u.frzs b v x q;rw[u6 (G8 this n)];exact this
 tbls:=λb ps q=>by
  obtain⟨m,e⟩:=u.tbls b ps q;exact⟨m,by rw[u6 (G8 e n)];exact e⟩
structure F6 (k:Nat) (A:Around):Prop where
 dp:A.depth+3*k+5 < recursionLimit
 un:A.units+16*k+200 < cLine
theorem F6.deeper {k:Nat}{A:Around}(r:F6 (k+1) A)(env:Env):F6 k (A.deeper env) :=
 ⟨by have:=r.dp;show A.depth+1+3*k+5 < _;omega,by have:=r.un;show A.units+3+16*k+200 < _;omega⟩
theorem F6.depth {k:Nat}{A:Around}(r:F6 k A):A.depth < recursionLimit:=by have:=r.dp;omega
theorem F6.units {k:Nat}{A:Around}(r:F6 k A):A.units+64 < cLine:=by have:=r.un;omega
theorem x8.toN {k k':Nat}{A:Around}{v:Option Value}(hr:x8 k' A)(h:k<=k'):F6 k (A.mark v):=⟨by have:=hr.dp;show A.depth+3*k+5 < _;omega,by have:=hr.un;show A.units+16*k+200 < _;omega⟩
structure T3 (P:Program) (w:World) (K:qF) (mg:Str->Option Value) (base:Heap) (CX:P0) (k:Nat) (f:Addr) (fd:FuncData) (ps:List Str) (sp:Sp):Prop where
 len:∀ vs H Q E,sp vs H Q E->vs.length=ps.length
 run:∀ (A:Around) (outer:List Env) (s:Shared) (H:Hp) (args:Args) (us:List Value) (vs:List V) (Q:VK) (E:XK),F6 k A->R9 P w K mg base A outer s H->BindsTo s fd args (ps.zip us)->f8 vs us->sp vs H Q E->codeAny (model P w) A (.call (.ref f) args) (CR CX outer P w H s Q E) s
def jO (CX:P0)(P:Program)(w:World)(K:qF)(mg:Str->Option Value)(base:Heap)(N:List Str)(qual:Str)(scope:Scope)(f:Addr)(cd:Value)(A:Around)(outer:List Env)(s:Shared)(H:Hp)(E:XK):Cx where
 prog:=P
 w:=w
 K:=K
 mg:=mg
 base:=base
 A:=A.deeper (envOfC qual scope s.heap.objs.size f cd)
 N:=N
 s₀:=s
 H₀:=H
 env:=envOfC qual scope s.heap.objs.size f cd
 outer:=outer
 stack:=envOfC qual scope s.heap.objs.size f cd :: outer
 ex:=[]
 calm:=false
 fn:=λ_=>true
 pn:=[]
 xe:=λe s'=>wpAny (model P w) (A.deeper (envOfC qual scope s.heap.objs.size f cd)) (leaving (envOfC qual scope s.heap.objs.size f cd) e) (λ_ s''=>CX outer H s E e s'') (λe' s''=>CX outer H s E e' s'') s'
theorem yi2 {CX:P0}{P:Program}{w:World}{K:qF}{mg:Str->Option Value}{base:Heap}{N ps:List Str}{qual:Str}{scope:Scope}{f:Addr}{cd:Value}{A:Around}{outer:List Env}{s s1:Shared}{H:Hp}{E:XK}{us:List Value}{vs:List V}
  (S:x5 N ps scope) (e0:R9 P w K mg base A outer s H) (hl:vs.length=ps.length) (r:f8 vs us)
  (x:InCallC s s.heap.objs.size (bindL (envOfC qual scope s.heap.objs.size f cd).kindOf (ps.zip us) λ_=>none) (cellsFrom (s.heap.objs.size+1) scope.names []) (bindC (envOfC qual scope s.heap.objs.size f cd).kindOf (ps.zip us) λ_=>none) s1) :
  f6 (jO CX P w K mg base N qual scope f cd A outer s H E) [] (B6 N vs) H s1:=by
 have hpl:ps.length<=N.length:=by have:=congrArg List.length S.pre;rw[qT] at this;omega
 obtain⟨h1,tk,rfl,hk⟩:=x.done;have noA:∀ b:Addr,b∉(jO CX P w K mg base N qual scope f cd A outer s H E).ex:=λb z=>absurd (show b∈([]:List Addr) from z) (by simp)
 refine⟨⟨e0.mod,S.kind,rfl,rfl,qR _,λy z c h1 h2=>?_,λy hy=>?_,λy c _ h=>?_,λh=>(by cases h),Around.frames_deeper e0.frames,.inr ⟨rfl,rfl⟩,λb z=>absurd z (noA b),e0.bs,e0.bsz,λb _ _=>noA b,λb z=>absurd z (noA b),e0.funs,e0.frf⟩,
  rfl,e0.bare,Un.kept hk,⟨_,x.toInCall.ns,λi y v h1 h2 h3=>?_⟩,λy c h=>⟨_,x.cell y c h⟩,e0.hok.fresh (qR _),λy c h=>?_,λp hp=>absurd (show p∈([]:List (Addr×Obj)) from hp) (by simp),e0.hok.kept hk,?_⟩
 ·exact name_of_addr x.apart (PySem.mem_of_lookup h1) (PySem.mem_of_lookup h2)
 ·have hy:scope.names.lookup y=some .cell∨scope.names.lookup y=some .free:=hy;rcases hy with hy | hy
  ·exact qV hy
  ·exact absurd rfl (S.nofree _ (PySem.mem_of_lookup hy))
 ·exact Nat.le_of_lt (x.above y c (PySem.mem_of_lookup h))
 ·have hi:i < vs.length:=by
   unfold B6 at h2;by_cases hi:i < vs.length
   ·exact hi
   ·rw[List.getElem?_append_right (by simpa using hi)] at h2;rw[List.getElem?_replicate] at h2;split at h2<;>cases h2
  have ha:vs[i]?=some v:=by
   unfold B6 at h2;rw[List.getElem?_append_left (by simpa using hi),qm] at h2;cases e:vs[i]? with
   | none=>rw[e] at h2;cases h2
   | some a=>rw[e] at h2;cases h2;rfl
  obtain⟨u,hu,rv⟩:=r.get ha;have hp:ps[i]?=some y:=by
   rw[<- S.pre,List.getElem?_take_of_lt (by omega)];exact h1
  have ndP:ps.Nodup:=by rw[<- S.pre];exact S.nd.sublist (List.take_sublist _ _)
  refine⟨u,rv,?_⟩;rcases S.par y (List.mem_of_getElem? hp) with k | k
  ·exact .inl ⟨k,tS ndP hp hu k⟩
  ·obtain⟨c,e⟩:=qV (n:=s.heap.objs.size+1) k;refine .inr ⟨.inl k,c,e,?_⟩;have q:=x.cell y c e;rw[vH ndP hp hu (by show scope.names.lookup y≠_;rw[k];decide)] at q;exact q
 ·exact e0.hok.fresh (Nat.le_of_lt (x.above y c (PySem.mem_of_lookup h)))
 ·unfold B6;show _=N.length
  rw[qA,qM,List.length_replicate];omega
theorem yr4 {CX:P0}{P:Program}{w:World}{K:qF}{mg:Str->Option Value}{base:Heap}{k:Nat}{f:Addr}{name qual:Str}{params:Arguments}{body:List Stmt}{scope:Scope}{dV kV doc pm cdv ct oc:Value}{an od:Option Addr}
  {osl:Array (Option Value)} {N ps:List Str} {sp:Sp} (lk:K.lookup f=some ⟨oc,od,.func (PySem.W.fnOf name qual params body scope dV kV doc pm an cdv ct),osl⟩) (hcd:PySem.W.codeIn K cdv qual=true) (S:x5 N ps scope)
  (len:∀ vs H Q E,sp vs H Q E->vs.length=ps.length)
  (hbody:∀ (A:Around) (outer:List Env) (s:Shared) (H:Hp) (vs:List V) (Q:VK) (E:XK),F6 k (A.deeper (envOfC qual scope s.heap.objs.size f cdv))->sp vs H Q E ->
   ∃ t,U4 (jO CX P w K mg base N qual scope f cdv A outer s H E) body t/\t { nx:=λ_ H'=>Q .non H',rt:=Q } (B6 N vs) H) :
  T3 P w K mg base CX (k+1) f (PySem.W.fnOf name qual params body scope dV kV doc pm an cdv ct) ps sp:=by
 refine⟨len,λA outer s H args us vs Q E hr e0 hb r hsp=>?_⟩;have hl:=len _ _ _ _ hsp;have KX:K.In s.heap:=e0.mod.kin.keeps λb o e=>(e0.bs b o e).1
 have lim:s.heap.NoLimit:=e0.mod.nolimit.keeps λb o e=>(e0.bs b o e).1
 have hkind:∀ y∈ps.zip us,scope.names.lookup y.1=some .local∨(scope.names.lookup y.1=some .cell/\((cellsFrom (s.heap.objs.size+1) scope.names []).lookup y.1).isSome=true):=λ⟨n,v⟩ hy=>by
  rcases S.par n (List.of_mem_zip hy).1 with q | q
  ·exact .inl q
  ·exact .inr ⟨q,PySem.W.cellsFrom_some _ _ _ (.inl q)⟩
 refine codeAny_call_function hr.depth (KX _ _ lk) rfl S.co S.gen rfl (PySem.W.codeRec_of KX hcd) (hb _ _ _ _ ?_);refine wpAny_newFunctionEnv_cells S.kind hkind λenv he s1 x=>?_
 subst he;refine⟨lim.keeps x.toInCall.keep,codeAny_func ?_⟩;obtain⟨t,ht,hq⟩:=hbody A outer s H vs Q E (hr.deeper _) hsp;have I:f6 (jO CX P w K mg base N qual scope f cdv A outer s H E) [] (B6 N vs) H s1:=yi2 S e0 hl r x;refine wpAny_mono (ht [] s1 (B6 N vs) H _ I hq) (λfl s' hs=>?_) λe s' hs=>hs
 have fin:∀ {σ':St} {H':Hp} {v:V} {u:Value},f6 (jO CX P w K mg base N qual scope f cdv A outer s H E) [] σ' H' s'->g9 v u->Q v H'->CE outer P w H s Q u s' :=
  λ{σ' H' v u} J rv q=>⟨v,H',J.os,J.bare,J.base,J.hok,rv,q⟩
 cases fl with
 | ret u=>
  obtain⟨v,σ',H',J,rv,q⟩:=hs;exact fin J rv q
 | next=>
  obtain⟨σ',H',J,q⟩:=hs;exact fin (v:=V.non) (u:=Value.none) J rfl q
 | brk=>
  obtain⟨_,_,_,q⟩:=hs;exact False.elim q
 | cont=>
  obtain⟨_,_,_,q⟩:=hs;exact False.elim q
theorem T3.ok {P:Program}{w:World}{K:qF}{mg:Str->Option Value}{base:Heap}{CX:P0}{k:Nat}{f:Addr}{fd:FuncData}{ps:List Str}{sp:Sp}(F:T3 P w K mg base CX k f fd ps sp):z0 P w K mg base CX k f fd ps sp :=
 ⟨F.len,λA outer s H args us vs Q E hr=>F.run A outer s H args us vs Q E ⟨hr.dp,hr.un⟩⟩
theorem cX.okN {P:Program}{w:World}{K:qF}{mg:Str->Option Value}{base:Heap}{x qual:Str}{st:Stmt}{f:Addr}{fd:FuncData}{N ps:List Str}{k:Nat}{sp:Sp}(F:cX K x qual st f fd)(S:x5 N ps (v6 st))(len:∀ vs H Q E,sp vs H Q E->vs.length=ps.length)
  (hbody:∀ (cdv:Value) (A:Around) (outer:List Env) (s:Shared) (H:Hp) (vs:List V) (Q:VK) (E:XK),F6 k (A.deeper (envOfC qual (v6 st) s.heap.objs.size f cdv))->sp vs H Q E ->
   ∃ t,U4 (jO S3 P w K mg base N qual (v6 st) f cdv A outer s H E).nox (bW st) t/\t { nx:=λ_ H'=>Q .non H',rt:=Q } (B6 N vs) H):T3 P w K mg base S3 (k+1) f fd ps sp:=by
 obtain⟨oc,od,kV,doc,pm,an,cdv,ct,osl,rfl,lk,hcd⟩:=F.ex;refine yr4 lk hcd S len λA outer s H vs Q E hr hsp=>?_
 obtain⟨t,h,q⟩:=hbody cdv A outer s H vs Q E hr hsp;exact⟨t,h.nox,q⟩
section
variable {X:Cx} {k:Nat} {f:Addr} {fd:FuncData} {ps:List Str} {sp:Sp} {x:Str} {p pos:Pos} {e:Expr} {es:List Expr} {t:TA}
def t_ (sp:Sp)(t:TA):TE:=fun σ H Q=>t σ H λvs H1=>sp vs H1 Q λ_ _ _=>False
theorem Xq (F:T3 X.prog X.w X.K X.mg X.base S3 k f fd ps sp)(hr:F6 k X.A)(hg:Gl X x)(hm:X.mg x=some (.ref f))(hk:PySem.W.keepIn X.K (.ref f)=true)(hb:B0 X.K fd ps [])
  (ha:PA X (e :: es) t) (hdb:(x==("__debug__" : Str))=false:=by decide) (he:starEach (e :: es) X.env=(false,eval e X.env) :: starEach es X.env:=by rfl) (hpl:(backTo pos (starEach es X.env)).any (·.1)=false:=by rfl) :
  PE X (.Call (.Name x p) (e :: es) [] pos) (t_ sp t):=by
 intro pins s σ H Q I h;refine wpAny_Call_Name_kw (gD I hg hm ?_ hdb);refine PySem.W.callWith_K (h₀:=X.base) I.ok.mod.kin hk (t6 (ha pos pins s σ H _ I h) λus s1 ⟨vs,H1,I1,r,q⟩=>⟨I1.kIn,?_⟩) he hpl;have hl:us.length=ps.length:=by rw[<- r.length];exact F.len _ _ _ _ q
 refine wpAny_call (codeAny_mono (F.run X.A X.stack s1 H1 ⟨us,[]⟩ us vs Q _ hr I1.env0 (by have z:=hb s1 us I1.kIn (by simpa using hl);simpa using z) r q) λr s' hq=>?_);cases r with
 | error ev=>exact False.elim hq
 | ok fl=>
  cases fl with
  | ret u=>exact I1.after hq
  | next=>exact False.elim hq
  | brk=>exact False.elim hq
  | cont=>exact False.elim hq
end
end L2
namespace EX
open PySem PyProof.Rows
section
variable {M:Model} {A:Around} {E:Value->Shared->Prop} {s:Shared} {base:Heap} {env:Env} {outer:List Env} {L e C:Addr} {dd:Option Addr}
theorem leave_nextD {T:Addr}{Q:Unit->Shared->Prop}(fr:A.frames=some (env :: outer))(ff:s.heap.FunFrames base (env :: outer))(ef:env.frame=some L)(td:TrdD s.heap e C T dd)
  (q:∀ h T',s.heap.objs.size<=T'->Lft ((env :: outer).filterMap (·.frame)) [e,T] s.heap h->TrdD h e C T' dd->Q () { s with heap:=h }):wpAny M A (leaving env (.ref e)) Q E s :=
 wpAny_bind (note_nextD fr ff ef td q)
end
end EX
namespace L2
open PySem PySem.Spec PyProof.Rows
section
variable {P:Program} {w:World} {K:qF} {mg:Str->Option Value} {base:Heap} {N:List Str} {qual:Str} {scope:Scope} {f:Addr} {cd:Value} {A:Around} {outer:List Env} {s:Shared} {H:Hp} {E:XK}
theorem Q4:bH (F3 P w) (J1 (F3 P w) P w K mg base N qual scope f cd A outer s H E) E:=by
 intro pins σ H1 s1 e s2 I hq;obtain⟨a,C,T,dd,H',rfl,os,bare,un,hok,na,nT,ha,hT,td,q⟩:=hq;have J:=I.call' (ch:=[]) os un hok bare λb z=>absurd z (by simp)
 have old:∀ {b:Addr},s1.heap.get? b=none->s.heap.get? b=none:=λ{b} g=>by
  cases z:s.heap.get? b with
  | none=>rfl
  | some v=>
   obtain⟨o',g'⟩:=(show Un (E6 outer) [] H H1 s.heap s1.heap from I.base).there b v z (by simp);rw[g] at g';cases g'
 refine EX.leave_nextD (C:=C) (show(A.deeper (envOfC qual scope s.heap.objs.size f cd)).frames=some (envOfC qual scope s.heap.objs.size f cd :: outer) from J.ok.frames) (show s2.heap.FunFrames base (envOfC qual scope s.heap.objs.size f cd :: outer) from J.stack) rfl td λh2 T2 le lf tr=>?_
 have un':Un (E6 outer) [] H H' s.heap s2.heap:=J.base;have gT:s2.heap.get? T2=none:=Heap.get?_none_of_le le;have nT2:s.heap.get? T2=none:=by
  cases g:s.heap.get? T2 with
  | none=>rfl
  | some v=>
   obtain⟨o',g'⟩:=un'.there T2 v g (by simp);rw[gT] at g';cases g'
 have two:∀ {b:Addr} {p:Prop},b∈[a,T]->(b=a->p)->(b=T->p)->p:=λ{b p} z x y=>by
  rcases List.mem_cons.mp z with z | z
  ·exact x z
  ·exact y (List.mem_singleton.mp z)
 refine⟨a,C,T2,dd,H',rfl,J.os,J.bare,un'.left (λb v z=>z) lf (λb v g z=>?_) (λb v g z=>?_),hok.left lf (λb z=>J.stkFree b z) (λb z=>two z (λy=>y▸ha) λy=>y▸hT),old na,nT2,ha,hok.none_of gT,tr,q⟩
 ·have z2:b∈s.heap.objs.size :: E6 outer:=z;rcases List.mem_cons.mp z2 with rfl | z'
  ·exact absurd (Heap.lt_size g) (Nat.lt_irrefl _)
  ·exact z'
 ·exact two z (λy=>by rw[y,old na] at g;cases g) λy=>by rw[y,old nT] at g;cases g
end
def Ui (C:Addr)(t:TA)(E:XK):TS:=λ_ σ H=>t σ H λvs H1=>vs.length<=1000/\∀ e o us,H1 e=none->o.cls=.ref C->o.dict=none->o.data=.fields us->E (.ref e) (some C) (upd H1 e (fP e o))
section
variable {P:Program} {w:World} {K:qF} {mg:Str->Option Value} {base:Heap} {N:List Str} {qual:Str} {scope:Scope} {f:Addr} {cd:Value} {A:Around} {outer:List Env} {s:Shared} {H:Hp} {E:XK}
theorem Vu {C:Addr}{bmB:List Value}{B newId initId:String}{x:Str}{e:Expr}{es:List Expr}{t:TA}{p cpos pos:Pos}(FB:ExcBaseFacts B newId initId bmB)(hn:A.handled=none)
  (hk:PySem.W.excIn K C bmB newId=true) (kp:PySem.W.keepIn K (.ref C)=true) (mb:PySem.W.mroIn K C (.type "BaseException")=some true) (mt:PySem.W.typeIn K (.ref C)=some (.type "type")) (hg:Gl (J1 (F3 P w) P w K mg base N qual scope f cd A outer s H E) x) (hm:mg x=some (.ref C))
  (ha:PA (J1 (F3 P w) P w K mg base N qual scope f cd A outer s H E) (e :: es) t) (hdb:(x==("__debug__" : Str))=false:=by decide) (he:starEach (e :: es) (envOfC qual scope s.heap.objs.size f cd)=(false,eval e (envOfC qual scope s.heap.objs.size f cd)) :: starEach es (envOfC qual scope s.heap.objs.size f cd):=by rfl) (hpl:(backTo cpos (starEach es (envOfC qual scope s.heap.objs.size f cd))).any (·.1)=false:=by rfl) :
  PS (J1 (F3 P w) P w K mg base N qual scope f cd A outer s H E) (.Raise (some (.Call (.Name x p) (e :: es) [] cpos)) none pos) (Ui C t E):=by
 intro pins s1 σ H1 D I h;rw[show exec (.Raise (some (.Call (.Name x p) (e :: es) [] cpos)) none pos) (J1 (F3 P w) P w K mg base N qual scope f cd A outer s H E).env=_ from arm_exec_Raise _ _ _ _];refine wpAny_bind (wpAny_standAt ?_);refine EX.raise_inst (K:=K) (show(A.deeper _).handled=none from hn) (wpAny_bind ?_);refine wpAny_Call_Name_kw (gD I hg hm ?_ hdb);refine PySem.W.callWith_K (h₀:=base) I.ok.mod.kin kp (t6 (ha cpos pins s1 σ H1 _ I h) λus s2 ⟨vs,H2,I2,r,hl,q⟩=>⟨I2.kIn,?_⟩) he hpl;obtain⟨bm,n,nm,qn,bs,hdct,sn,sub,ab,col,dd,k0,k1,k2,k3,k5,mN,hC,hN,hni,TL⟩:=yo2 I2.kIn hk;obtain⟨h1,g1,d1,t1,os1⟩:=s2;refine wpAny_call_exc_subT FB TL hC hN hni (λh' e m=>?_) (by show us.length<=sizeLine;rw[<- r.length,sizeLine_eq];omega);obtain⟨tt,ge,_,_⟩:=m.there;have I3:=I2.laidN (t':=t1) m.keeps m.new (Zd ge);have new:s.heap.get? e=none:=by
  cases z:s.heap.get? e with
  | none=>rfl
  | some v=>
   obtain⟨o',g'⟩:=(show Un (E6 outer) [] H H2 s.heap h1 from I2.base).there e v z (by simp);rw[show h1.get? e=none from m.new] at g';cases g'
 refine wpAny_bind (wpAny_standAt (wpAny_pure ?_));refine⟨e,_,C,_,rfl,I3.kIn,ge,rfl,rfl,rfl,mb,mt,KZ I3 f9 new rfl rfl rfl rfl λo2 us2 a b c=>?_⟩;rw[kU];exact q e o2 us2 (I2.hok.none_of m.new) a b c
end
end L2
namespace EX
open PySem PyProof.Rows
def TrdV (v:Value)(h:Heap)(e C T:Addr)(dd:Option Addr):Prop :=
 ∃ oe vs oT ts,h.get? e=some oe/\(oe.cls=.ref C/\oe.dict=dd)/\oe.data=.fields vs/\vs[1]?=some (.ref T)/\vs[2]?=some .none/\T≠e/\h.get? T=some oT/\oT.data=.fields ts/\ts[3]?=some v
section
variable {M:Model} {A:Around} {E:Value->Shared->Prop} {s:Shared} {base:Heap} {env:Env} {outer:List Env} {L e C T:Addr} {dd:Option Addr} {v:Value} {Q:Unit->Shared->Prop}
theorem flyV {f:Option Addr}(td:TrdV v s.heap e C T dd)(q:∀ h,Lft [] [T] s.heap h->TrdV (f.elim .none λa=>rawInt a) h e C T dd->Q () { s with heap:=h }):wpAny M A (setFlight (.ref e) f) Q E s:=by
 obtain⟨oe,vs,oT,ts,ge,ce,de,c1,c2,ne,gT,dT,c3⟩:=td;have z:=(Array.getElem?_eq_some_iff.mp c3).1;have wT:=oE (n:=3) (x:=f.elim .none λa=>rawInt a) gT dT;refine wpAny_bind (wpAny_field ge de c1 (wpAny_setField gT dT z (q _ ?_ ⟨oe,vs,_,_,(Heap.get?_update_other _ _ ne).trans ge,ce,de,c1,c2,ne,wT.1,wT.2,by simp[z]⟩)));have l0:Lft [] [T] s.heap s.heap:=⟨λb o g _ _=>g,λb o g _=>⟨o.slots,g⟩⟩;exact l0.upd _ (.inl (by simp))
theorem noteV (fr:A.frames=some (env :: outer))(ff:s.heap.FunFrames base (env :: outer))(ef:env.frame=some L)(td:TrdV v s.heap e C T dd)
  (q:∀ h T' v',(T'=T∨s.heap.objs.size<=T')->Lft ((env :: outer).filterMap (·.frame)) [e,T] s.heap h->TrdV v' h e C T' dd->Q () { s with heap:=h }):wpAny M A (noteFrame (.ref e) env) Q E s:=by
 have td':=td;obtain⟨oe,vs,oT,ts,ge,ce,de,c1,c2,ne,gT,dT,c3⟩:=td;rw[noteFrame,ef];refine wpAny_bind (wpAny_field ge de c1 (wpAny_bind (wpAny_field gT dT c3 ?_)));by_cases hv:(v==rawInt L)=true
 ·rw[if_pos hv];exact wpAny_pure (q s.heap T v (.inl rfl) ⟨λb o g _ _=>g,λb o g _=>⟨o.slots,g⟩⟩ td')
 ·rw[if_neg hv];have same:∀ b,b≠T->(s.heap.update T (wr 3 .none)).get? b=s.heap.get? b:=λb n=>Heap.get?_update_other _ _ (Ne.symm n)
  have ff':(s.heap.update T (wr 3 .none)).FunFrames base (env :: outer):=ff.of_keeps λb o g n=>⟨o,(same b λm=>n ts (Option.some.inj ((m▸g).symm.trans gT)▸dT)).trans g,rfl⟩
  refine wpAny_bind (wpAny_setField gT dT (Array.getElem?_eq_some_iff.mp c3).1 ?_);have ge2:=(same e (Ne.symm ne)).trans ge;refine s_ fr ff' ef λh T' o ts' lf le gT' dT' y=>?_
  have apart:e∉(env :: outer).filterMap (·.frame):=λm=>(ff.mem m).2.elim λv u=>u.2 vs (Option.some.inj (u.1.symm.trans ge)▸de)
  have ge1:h.get? e=some oe:=lf.1 e oe ge2 apart qk;have ne':T'≠e:=Nat.ne_of_gt (Nat.lt_of_lt_of_le (Heap.lt_size ge2) le);have z:=(Array.getElem?_eq_some_iff.mp c1).1;have we:=oE (n:=1) (x:=.ref T') ge1 de;have l3:∃ v',ts'[3]?=some v':=⟨_,Array.getElem?_eq_getElem y⟩;obtain⟨v',l3⟩:=l3;refine wpAny_setField ge1 de z (q _ T' v' (.inr (Heap.size_update s.heap T _▸le)) (((lf.more (by simp)).upd _ (.inl List.mem_cons_self)).first (Z:=[e]) (λb m=>List.mem_cons.mpr (.inl (List.mem_singleton.mp m))) (by simp)) ?_);exact⟨_,_,_,_,we.1,Zy ce,we.2,by simp[z],by rw[Array.getElem?_setIfInBounds_ne (by decide)];exact c2,ne',(Heap.get?_update_other _ _ (Ne.symm ne')).trans gT',dT',l3⟩
end
end EX
namespace L2
open PySem PySem.Spec PyProof.Rows
structure kD (X:Cx) (H:Hp) (s:Shared):Prop where
 os:s.os=X.s₀.os
 bare:AllBare s.gens
 un:Un X.fs [] X.H₀ H X.s₀.heap s.heap
 hok:C9 X.prog X.w H s.heap
 ff:s.heap.FunFrames X.base X.stack
 fr:∀ b∈E6 X.stack,H b=none
theorem qi {S Z:List Addr}{h h' base:Heap}(lf:EX.Lft S Z h h'):∀ {l:List Env},(∀ b∈E6 l,b∉Z)->h.FunFrames base l->h'.FunFrames base l
 | [],_,f=>f
 | env :: rest,z,⟨a,⟨L,o,e,n,g,d⟩,f⟩=>by
  have m:E6 (env :: rest)=L :: E6 rest:=by simp[E6,e]
  obtain⟨sl,g'⟩:=lf.2 L o g (z L (by rw[m];exact List.mem_cons_self));exact⟨a,⟨L,_,e,n,g',d⟩,qi lf (λb hb=>z b (by rw[m];exact List.mem_cons_of_mem _ hb)) f⟩
section
variable {X:Cx} {E:XK} {e:Value} {s:Shared} {H:Hp} {M:Model} {Er:Value->Shared->Prop} {pins:List (Addr×Obj)} {σ:St} {B:List Addr}
theorem f6.flC (hx:X.ex=[])(I:f6 X pins σ H s):kD X H s:=⟨I.os,I.bare,hx▸I.base,I.hok,I.stack,I.stkFree⟩
theorem kD.lft {Z:List Addr}{h:Heap}(c:kD X H s)(hS:∀ b o,X.s₀.heap.get? b=some o->b∈E6 X.stack->b∈X.fs)(lf:EX.Lft (E6 X.stack) Z s.heap h)(hz:∀ b∈Z,X.s₀.heap.get? b=none/\H b=none/\b∉E6 X.stack):kD X H { s with heap:=h } :=
 ⟨c.os,c.bare,c.un.left (λ_ _ z=>z) lf hS (λb o g z=>nomatch (hz b z).1.symm.trans g),c.hok.left lf c.fr λb z=>(hz b z).2.1,qi lf (λb hb z=>(hz b z).2.2 hb) c.ff,c.fr⟩
def Fl (X:Cx)(B:List Addr)(E:XK)(e:Value)(s:Shared):Prop:=∃ a C T dd H v,e=.ref a/\kD X H s/\(∀ b∈B,H b=none)/\X.s₀.heap.get? a=none/\X.s₀.heap.get? T=none/\H a=none/\H T=none/\EX.TrdV v s.heap a C T dd /\
 ∀ o us,o.cls=.ref C->o.dict=dd->o.data=.fields us->E e (some C) (upd H a (fP a o))
def Kpt (S:List Addr)(h h':Heap):Prop:=∀ b o,h.get? b=some o->(∀ vs,o.data≠.fields vs)->b∉S->h'.get? b=some o
theorem vM {a T b:Addr}{p:Prop}(z:b∈[a,T])(x:b=a->p)(y:b=T->p):p:=by
 rcases List.mem_cons.mp z with z | z
 ·exact x z
 ·exact y (List.mem_singleton.mp z)
theorem xE {v:Value}{h:Heap}{a C T:Addr}{dd:Option Addr}(td:EX.TrdV v h a C T dd){b:Addr}{o:Obj}(z:b∈[a,T])(g:h.get? b=some o):∃ vs,o.data=.fields vs:=by
 obtain⟨oe,vs,oT,ts,ge,ce,de,c1,c2,ne,gT,dT,c3⟩:=td;exact vM z (λy=>⟨vs,by rw[y,ge] at g;cases g;exact de⟩) λy=>⟨ts,by rw[y,gT] at g;cases g;exact dT⟩
theorem xD {v:Value}{a C T:Addr}{dd:Option Addr}(c:kD X H s)(td:EX.TrdV v s.heap a C T dd){b:Addr}(z:b∈[a,T]):b∉E6 X.stack:=λm=>by
 obtain⟨_,o,g,d⟩:=c.ff.mem m;obtain⟨vs,y⟩:=xE td z g;exact d vs y
theorem Fl.note {L:Addr}{env:Env}{outer:List Env}(fr:X.A.frames=some X.stack)(hS:∀ b o,X.s₀.heap.get? b=some o->b∈E6 X.stack->b∈X.fs)(hs:X.stack=env :: outer)(hf:env.frame=some L)(f:Fl X B E e s) :
  wpAny M X.A (noteFrame e env) (λ_ s'=>Fl X B E e s'/\Kpt (E6 X.stack) s.heap s'.heap) Er s:=by
 obtain⟨a,C,T,dd,H,v,rfl,c,hB,na,nT,ha,hT,td,q⟩:=f;have st:=c.ff;rw[hs] at st fr;refine EX.noteV fr st hf td λh T' v' le lf td'=>?_
 have lf':EX.Lft (E6 X.stack) [a,T] s.heap h:=by rw[hs];exact lf
 have c':=c.lft hS lf' λb z=>⟨vM z (λy=>y▸na) λy=>y▸nT,vM z (λy=>y▸ha) λy=>y▸hT,xD c td z⟩
 have nT':X.s₀.heap.get? T'=none/\H T'=none:=by
  rcases le with rfl | le
  ·exact⟨nT,hT⟩
  ·have gT:s.heap.get? T'=none:=Heap.get?_none_of_le le;refine⟨?_,c.hok.none_of gT⟩;cases g:X.s₀.heap.get? T' with
   | none=>rfl
   | some o=>
    obtain⟨o',g'⟩:=c.un.there T' o g (by simp);rw[gT] at g';cases g'
 exact⟨⟨a,C,T',dd,H,v',rfl,c',hB,na,nT'.1,ha,nT'.2,td',q⟩,λb o g d n=>lf'.1 b o g n λz=>(xE td z g).elim λvs y=>d vs y⟩
theorem Fl.fly {g:Option Addr}(hS:∀ b o,X.s₀.heap.get? b=some o->b∈E6 X.stack->b∈X.fs)(f:Fl X B E e s):wpAny M X.A (setFlight e g) (λ_ s'=>Fl X B E e s') Er s:=by
 obtain⟨a,C,T,dd,H,v,rfl,c,hB,na,nT,ha,hT,td,q⟩:=f;refine EX.flyV td λh lf td'=>?_
 exact⟨a,C,T,dd,H,_,rfl,c.lft (Z:=[T]) (h:=h) hS ⟨λb o g _ z=>lf.1 b o g (by simp) z,lf.2⟩ λb z=>List.mem_singleton.mp z▸⟨nT,hT,xD c td (by simp)⟩,hB,na,nT,ha,hT,td',q⟩
theorem Fl.pass {α:Type}{what:String}{cenv:Env}(hS:∀ b o,X.s₀.heap.get? b=some o->b∈E6 X.stack->b∈X.fs)(f:Fl X B E e s):wpAny M X.A (passOn what e cenv:Sem α) (λ_ _=>False) (λe s'=>Fl X B E e s') s:=by
 have f':=f;obtain⟨a,C,T,dd,H,v,rfl,c,hB,na,nT,ha,hT,td,q⟩:=f';obtain⟨oe,vs,oT,ts,ge,ce,de,c1,c2,ne,gT,dT,c3⟩:=td;refine wpAny_bind (wpAny_field ge de c1 ?_);rw[if_neg (by simp)];exact wpAny_bind (wpAny_mono (f.fly hS) (λ_ s' z=>wpAny_throw z) λ_ _ z=>z)
theorem Fl.but {N:Addr}{m:Str->Option Value}{h:Heap}(hS:∀ b o,X.s₀.heap.get? b=some o->b∈E6 X.stack->b∈X.fs)(hn:s.heap.Ns N m)(nN:X.s₀.heap.get? N=none)(oN:N∉E6 X.stack)(sb:Heap.SameBut N s.heap h)(f:Fl X [N] E e s):Fl X [N] E e { s with heap:=h }:=by
 obtain⟨a,C,T,dd,H,v,rfl,c,hB,na,nT,ha,hT,td,q⟩:=f;obtain⟨ob,es,ep,gb,db,_⟩:=hn;have ne:∀ b∈[a,T],b≠N:=λb z y=>by
  obtain⟨vs,d⟩:=xE td (y▸z) gb;rw[db] at d;cases d
 have lf:EX.Lft (E6 X.stack) [N] s.heap h:=⟨λb o g _ z=>(sb.2 b (λy=>z (by simp[y]))).trans g,λb o g z=>⟨o.slots,(sb.2 b (λy=>z (by simp[y]))).trans g⟩⟩;refine⟨a,C,T,dd,H,v,rfl,c.lft hS lf λb z=>List.mem_singleton.mp z▸⟨nN,hB N (by simp),oN⟩,hB,na,nT,ha,hT,?_,q⟩;obtain⟨oe,vs,oT,ts,ge,ce,de,c1,c2,ne2,gT,dT,c3⟩:=td;exact⟨oe,vs,oT,ts,(sb.2 a (ne a (by simp))).trans ge,ce,de,c1,c2,ne2,(sb.2 T (ne T (by simp))).trans gT,dT,c3⟩
theorem Fl.of {s':Shared}{N:Addr}{m:Str->Option Value}(hx:X.ex=[])(I:f6 X pins σ H s)(hn:s.heap.Ns N m)(h0:H N=none)(cx:F3 X.prog X.w X.stack H s E e s'):Fl X [N] E e s':=by
 obtain⟨a,C,T,dd,H',rfl,os,bare,un,hok,na,nT,ha,hT,td,q⟩:=cx;have J:=I.call' (ch:=[]) os un hok bare λb z=>absurd z (by simp)
 have old:∀ {b:Addr},s.heap.get? b=none->X.s₀.heap.get? b=none:=λ{b} g=>by
  cases z:X.s₀.heap.get? b with
  | none=>rfl
  | some v=>
   obtain⟨o',g'⟩:=I.base.there b v z (by rw[hx];simp);rw[g] at g';cases g'
 obtain⟨ob,es,ep,gb,db,_⟩:=hn;exact⟨a,C,T,dd,H',.none,rfl,J.flC hx,λb z=>by rw[List.mem_singleton.mp z];exact un.free N ob gb h0 (by simp),old na,old nT,ha,hT,td,q⟩
end
section
variable {P:Program} {w:World} {K:qF} {mg:Str->Option Value} {base:Heap} {N:List Str} {qual:Str} {scope:Scope} {f:Addr} {cd:Value} {A:Around} {outer:List Env} {s s':Shared} {H:Hp} {E:XK} {B:List Addr} {e:Value}
theorem lG:∀ b o,(J1 (F3 P w) P w K mg base N qual scope f cd A outer s H E).s₀.heap.get? b=some o->b∈E6 (J1 (F3 P w) P w K mg base N qual scope f cd A outer s H E).stack->b∈(J1 (F3 P w) P w K mg base N qual scope f cd A outer s H E).fs:=λb o g z=>by
 have z2:b∈s.heap.objs.size :: E6 outer:=z;rcases List.mem_cons.mp z2 with rfl | z'
 ·exact absurd (Heap.lt_size (show s.heap.get? _=some o from g)) (Nat.lt_irrefl _)
 ·exact z'
theorem Fl.leave (fr:(A.deeper (envOfC qual scope s.heap.objs.size f cd)).frames=some (envOfC qual scope s.heap.objs.size f cd :: outer))(fl:Fl (J1 (F3 P w) P w K mg base N qual scope f cd A outer s H E) B E e s'):(J1 (F3 P w) P w K mg base N qual scope f cd A outer s H E).xe e s':=by
 refine wpAny_bind (wpAny_mono (fl.note (M:=model P w) (L:=s.heap.objs.size) (env:=envOfC qual scope s.heap.objs.size f cd) (outer:=outer) (Er:=λe' s''=>F3 P w outer H s E e' s'') fr lG rfl rfl) (λ_ s1 fl1=>?_) λ_ _ z=>z);obtain⟨⟨a,C,T,dd,H',v,rfl,c,hB,na,nT,ha,hT,td,q⟩,_⟩:=fl1;refine EX.flyV td λh lf td'=>?_
 have c':=c.lft (Z:=[T]) (h:=h) lG ⟨λb o g _ z=>lf.1 b o g (by simp) z,lf.2⟩ λb z=>List.mem_singleton.mp z▸⟨nT,hT,xD c td (by simp)⟩
 exact⟨a,C,T,dd,H',rfl,c'.os,c'.bare,c'.un,c'.hok,na,nT,ha,hT,td',q⟩
end
abbrev eO (X:Cx)(E0:XK)(scope:Scope)(NB:List Str)(C:Addr)(s:Shared)(H:Hp)(ex:List Addr):Cx :=
 (U8 X scope NB C s H ex).wish λe s'=>∃ pins σ H1 s1,f6 (U8 X scope NB C s H ex) pins σ H1 s1/\F3 X.prog X.w X.stack H1 s1 E0 e s'
section
variable {X:Cx} {pins:List (Addr×Obj)} {σ:St} {H:Hp} {s:Shared} {scope:Scope} {NB:List Str} {cap:List (Option Nat)}
theorem B_ {E0:XK}{C:Addr}{ex:List Addr}:bH (F3 X.prog X.w) (eO X E0 scope NB C s H ex) E0:=λpins σ H1 s1 e s' I h=>⟨pins,σ,H1,s1,I.unwish,h⟩
theorem xb {E0:XK}{elt tg iter:Expr}{ifs:List Expr}{pos:Pos}{it:Addr}{fp:List Addr}{tn:Nat->Heap->Prop}{J:It}{g:TG}{tc:TT}{te:TE}{E:Value->Shared->Prop}{RR:Value->Addr->Result->Shared->Prop}{Qd:Addr->Hp->Prop}
  (B:C7 X scope NB cap) (hc:X.calm=true) (hg:∀ C s H ex,PG (eO X E0 scope NB C s H ex) tg g) (ht:∀ C s H ex,gL (eO X E0 scope NB C s H ex) ifs tc) (he:∀ C s H ex,PE (eO X E0 scope NB C s H ex) elt te)
  (I:f6 X pins σ H s) (T:eG X.prog X.w X.K tg J fp it tn) (st:tn 0 s.heap) (hf:∀ b∈fp,R0 X pins H b)
  (rd:∀ D,H D=none->∃ W:Nat->Nat->St->Hp->Prop,(∃ m,W 0 m (bN cap σ) (upd H D (.lst [])))/\T9 J g tc te D (Qd D) W)
  (hRR:∀ D C H' s' m',f6 X pins σ H' s'->s'.heap.Ns C m'->R0 X pins H' C->Qd D H'->RR (.ref D) C (.ok .next) s')
  (hno:∀ D C H1 s1 m e s',f6 X pins σ H1 s1->s1.heap.Ns C m->R0 X pins H1 C->F3 X.prog X.w X.stack H1 s1 E0 e s'->notedBy (model X.prog X.w) X.A (compEnvC scope (R3 X.env.cells scope.names []) C X.env) (λe s'=>RR (.ref D) C (.error e) s') e s') :
  wpAny (model X.prog X.w) X.A (newList []) (λacc s₃=>wpAny (model X.prog X.w) X.A (newFunctionEnv scope X.env.globals (R3 X.env.cells scope.names []) [] X.env.qual none .none (some X.env)) (λcenv s₄ =>
   codeAny (model X.prog X.w) X.A (.compStart (.ListComp elt [⟨tg,iter,ifs,0⟩] scope pos) 0 (.ref it) acc { cenv with scope:=relabel scope X.env }) (RR acc cenv.locals) s₄) E s₃) E s:=by
 have hlt:∀ b∈fp,b < s.heap.objs.size:=λb hb=>by
  obtain⟨o,e,_⟩:=T.obj _ _ st b hb;exact Heap.lt_size e
 have hD:H s.heap.objs.size=none:=I.hok.fresh (qR _);obtain⟨W,⟨m0,w0⟩,cw⟩:=rd _ hD;refine wpAny_newObj_type (wpAny_newFunctionEnv B.cell (by intro y hy;simp at hy) (λh₁ hns₁ hsb₁=>?_) B.kind);dsimp only at hns₁ hsb₁ |-;have I3:f6 X pins σ (upd H s.heap.objs.size (.lst [])) { s with heap:=s.heap.push { cls:=.type "list",dict:=none,data:=.seq ([]:List Value).toArray } } :=
  I.laid (t':=s.toks) (λb o e=>Heap.get?_push_of_some _ e) (qR _) ⟨Nat.zero_le _,[],0,.nil,Heap.get?_push_size _ rfl⟩
 have up:∀ b o,s.heap.get? b=some o->(s.heap.push { cls:=.type "list",dict:=none,data:=.seq ([]:List Value).toArray }).get? b=some o:=λb o e=>Heap.get?_push_of_some _ e
 have hf3:∀ b∈fp,R0 X pins (upd H s.heap.objs.size (.lst [])) b:=λb hb=>⟨by rw[u6 (Nat.ne_of_lt (hlt b hb))];exact(hf b hb).1,(hf b hb).2⟩
 generalize hH2:s.heap.push { cls:=.type "list",dict:=none,data:=.seq ([]:List Value).toArray }=H2 at hns₁ hsb₁ I3 up |-;have hlt3:∀ b∈fp,b < H2.objs.size:=λb hb=>by
  rw[<- hH2,Heap.size_push];exact Nat.lt_succ_of_lt (hlt b hb)
 have keep:∀ b o,H2.get? b=some o->h₁.get? b=some o:=λb o e=>hsb₁.extBut b o (Nat.ne_of_lt (Heap.lt_size e)) (Heap.get?_push_of_some _ e)
 have IB:=λtk=>ykv (tk:=tk) (s:={ s with heap:=H2 }) B I3 keep hns₁ hf3 hlt3
 have st1:tn 0 h₁:=T.keep _ _ _ st λb hb o e=>keep b o (up b o e)
 have IB:∀ tk,f6 (eO X E0 scope NB H2.objs.size { s with heap:=H2 } (upd H s.heap.objs.size (.lst [])) fp) pins (bN cap σ) (upd H s.heap.objs.size (.lst [])) { s with heap:=h₁,toks:=tk }:=λtk=>(IB tk).wish _
 generalize hX':eO X E0 scope NB H2.objs.size { s with heap:=H2 } (upd H s.heap.objs.size (.lst [])) fp=X' at IB;have fpB:∀ {pins':List (Addr×Obj)} {H':Hp},pins'=pins->(∀ b∈fp,H' b=none)->∀ b∈fp,R0 X' pins' H' b:=λ{pins' H'} ep hn b hb=>by
  subst ep;subst hX';obtain⟨_,f1,f2,f3,f4,f5⟩:=hf b hb;refine⟨hn b hb,Nat.ne_of_lt (hlt3 b hb),λz=>?_,.inl hb,λx c e=>f4 x c (jB e),f5⟩;rcases List.mem_cons.mp (I3.stkSub b z) with z | z
  ·exact f1 z
  ·exact f2 z
 have hg':=hg H2.objs.size { s with heap:=H2 } (upd H s.heap.objs.size (.lst [])) fp;have ht':=ht H2.objs.size { s with heap:=H2 } (upd H s.heap.objs.size (.lst [])) fp;have he':=he H2.objs.size { s with heap:=H2 } (upd H s.heap.objs.size (.lst [])) fp;rw[hX'] at hg' ht' he';have pP:X'.prog=X.prog:=by subst hX';rfl
 have pw:X'.w=X.w:=by subst hX';rfl
 have pK:X'.K=X.K:=by subst hX';rfl
 have pA:X'.A=X.A:=by subst hX';rfl
 have pc:X'.calm=true:=by subst hX';exact hc
 have pe:X'.env=compEnvC scope (R3 X.env.cells scope.names []) H2.objs.size X.env:=by subst hX';rfl
 have back:∀ {pins':List (Addr×Obj)} {σ':St} {H':Hp} {s':Shared},f6 X' pins' σ' H' s'->f6 X pins σ H' s'/\(∃ m,s'.heap.Ns H2.objs.size m)/\R0 X pins H' H2.objs.size:=λ{pins' σ' H' s'} I'=>by
  have os':s'.os=s.os:=by have:=I'.os;subst hX';exact this
  have un':Un (E6 X.stack) fp (upd H s.heap.objs.size (.lst [])) H' H2 s'.heap:=by have:=I'.base;subst hX';exact this
  have IX:f6 X pins σ H' s':=I3.call' (s':=s') (ch:=fp) os' un' (by have:=I'.hok;rw[pP,pw] at this;exact this) I'.bare λb hb=>⟨(hf b hb).2.2.2.1,(hf b hb).2.1,(hf b hb).2.2.2.2.1,(hf b hb).2.2.2.2.2⟩
  obtain⟨m,hn,_⟩:=I'.loc;have hfr:=I'.free;rw[pe] at hn hfr;exact⟨IX,⟨m,hn⟩,I3.fpOk (qR _) hfr⟩
 have fin:∀ {σ':St} {H':Hp} {s':Shared},f6 X' pins σ' H' s'->Qd s.heap.objs.size H'->RR (.ref s.heap.objs.size) H2.objs.size (.ok .next) s':=λ{σ' H' s'} I' q=>by
  obtain⟨IX,⟨m,hn⟩,fp'⟩:=back I';exact hRR _ _ H' s' m IX hn fp' q
 have no:∀ (e:Value) (s':Shared),X'.xe e s'->notedBy (model X'.prog X'.w) X'.A X'.env (λe s'=>RR (.ref s.heap.objs.size) H2.objs.size (.error e) s') e s':=λe s' z=>by
  rw[pP,pw,pA,pe];subst hX';obtain⟨pins',σ',H1,s1,I1,cx⟩:=z;obtain⟨IX,⟨m,hn⟩,fp'⟩:=back (I1.wish _);exact hno _ _ H1 s1 m e s' IX hn fp' cx
 have loop:∀ s₃:Shared,s₃={ s with heap:=h₁,toks:=s.toks+([]:List (Str×Value)).length } ->
   codeAny (model X.prog X.w) X.A (.compLoop (.ListComp elt [⟨tg,iter,ifs,0⟩] scope pos) 0 (.ref it) (.ref s.heap.objs.size) (compEnvC scope (R3 X.env.cells scope.names []) H2.objs.size X.env))
    (RR (.ref s.heap.objs.size) H2.objs.size) s₃:=by
  rintro s₃ rfl;refine yiz (λn s'=>∃ i σ' H',f6 X' pins σ' H' s'/\tn i s'.heap/\(∀ b∈fp,H' b=none)/\W i n σ' H') ?_ m0 ⟨0,bN cap σ,_,IB _,st1,λb hb=>(hf3 b hb).1,w0⟩;rintro n s3 ⟨i,σ3,H3,I3',st3,fr3,w3⟩;rw[<- pe];rw[<- pP,<- pw,<- pK] at T;rw[<- pP,<- pw,<- pA];rw[compTurn_list];refine wpAny_bind (wpAny_standAt (wpAny_bind ?_));rcases cw i n σ3 H3 w3 with ⟨stop,qn⟩ | ⟨go,N,hN,step⟩
  ·refine t6 (T.done X' rfl rfl rfl pc i pins s3 σ3 H3 _ I3' (fpB rfl fr3) st3 stop) λr s4 zq=>?_
   obtain⟨hr,I4⟩:=zq;subst hr;exact wpAny_pure (.inl ⟨_,rfl,fin I4 qn⟩)
  ·refine t6 (T.item X' rfl rfl rfl pc i pins s3 σ3 H3 _ I3' (fpB rfl fr3) st3 go) λr s4 zq=>?_
   obtain⟨u,hr,h4⟩:=zq;subst hr;refine wpAny_bind (t6 h4 λ_ s5 zq=>?_);obtain⟨x,H5,I5,r5,y5,st5,fr5⟩:=zq;have I5':=I5.pinned (fpB rfl fr5) (T.obj _ _ st5);refine wpAny_bind (wpAny_mono (hg' _ s5 σ3 H5 x u _ I5' r5 (step x H5 y5)) (λ_ s6 zq=>?_) no);obtain⟨σ6,H6,I6,q6⟩:=zq;have again:∀ {σ7:St} {H7:Hp} {s7:Shared},f6 X' (pins++nY fp s5.heap) σ7 H7 s7->N σ7 H7->∃ m,m < n/\∃ i σ' H',f6 X' pins σ' H' s7/\tn i s7.heap/\(∀ b∈fp,H' b=none)/\W i m σ' H':=λ{σ7 H7 s7} I7 n7=>by
    obtain⟨m',hm,w7⟩:=hN σ7 H7 n7;refine⟨m',hm,i+1,σ7,H7,I7.unpinned,T.keep _ _ _ st5 λb hb o e=>(I7.pin (b,o) (List.mem_append_right _ (List.mem_append_right _ (pS hb e)))).1,λb hb=>?_,w7⟩;obtain⟨o,e,d⟩:=T.obj _ _ st5 b hb;exact(I7.pin (b,o) (List.mem_append_right _ (List.mem_append_right _ (pS hb e)))).2.1
   refine wpAny_bind (wpAny_mono (ht' _ s6 σ6 H6 _ I6 q6) (λb s7 zq=>?_) no);obtain⟨H7,I7,q7⟩:=zq;cases b with
   | false=>exact wpAny_pure (.inr ⟨rfl,again I7 q7⟩)
   | true=>
    refine wpAny_bind (wpAny_bind (wpAny_mono (he' _ s7 σ6 H7 _ I7 q7) (λyv s8 zq=>?_) no));obtain⟨y,H8,I8,r8,ys,hy,hz,q8⟩:=zq;refine wpAny_bind (wpAny_mono (ju (X:=X') _ s8 σ6 H8 (.ref s.heap.objs.size) [y] _ [yv] (λ_ H9=>N σ6 H9) I8 rfl (.cons r8 .nil) ⟨_,ys,y,rfl,rfl,hy,hz,q8⟩) (λ_ s9 ⟨_,H9,I9,_,q9⟩=>wpAny_pure (wpAny_pure (.inr ⟨rfl,again I9 q9⟩))) no)
 exact codeAny_compStart_list (loop _ rfl) (T.self _ 0 _ _ _ st1 (loop _ rfl))
theorem xY {P:Program}{w:World}{o:List Env}{H:Hp}{s s':Shared}{e:Value}(h:F3 P w o H s (λ_ _ _=>False) e s'):False:=by
 obtain⟨a,C,T,dd,H',rfl,_,_,_,_,_,_,_,_,td,q⟩:=h;obtain⟨oe,vs,oT,ts,ge,ce,de,_⟩:=td;exact q oe vs ce.1 ce.2 de
theorem wW {C:Addr}{ex:List Addr}:eO X (λ_ _ _=>False) scope NB C s H ex=U8 X scope NB C s H ex:=by
 show Cx.wish (U8 X scope NB C s H ex) _=U8 X scope NB C s H ex
 rw[show(λe s'=>∃ pins σ H1 s1,f6 (U8 X scope NB C s H ex) pins σ H1 s1/\F3 X.prog X.w X.stack H1 s1 (λ_ _ _=>False) e s')=λ_ _=>False from funext λe=>funext λs'=>propext ⟨λ⟨_,_,_,_,_,h⟩=>xY h,False.elim⟩];rfl
theorem xn {elt tg iter:Expr}{ifs:List Expr}{pos:Pos}{it:Addr}{fp:List Addr}{tn:Nat->Heap->Prop}{J:It}{g:TG}{tc:TT}{te:TE}{E:Value->Shared->Prop}{RR:Value->Addr->Result->Shared->Prop}{Qd:Addr->Hp->Prop}
  (B:C7 X scope NB cap) (hc:X.calm=true) (hg:∀ C s H ex,PG (U8 X scope NB C s H ex) tg g) (ht:∀ C s H ex,gL (U8 X scope NB C s H ex) ifs tc) (he:∀ C s H ex,PE (U8 X scope NB C s H ex) elt te)
  (I:f6 X pins σ H s) (T:eG X.prog X.w X.K tg J fp it tn) (st:tn 0 s.heap) (hf:∀ b∈fp,R0 X pins H b)
  (rd:∀ D,H D=none->∃ W:Nat->Nat->St->Hp->Prop,(∃ m,W 0 m (bN cap σ) (upd H D (.lst [])))/\T9 J g tc te D (Qd D) W)
  (hRR:∀ D C H' s' m',f6 X pins σ H' s'->s'.heap.Ns C m'->R0 X pins H' C->Qd D H'->RR (.ref D) C (.ok .next) s') :
  wpAny (model X.prog X.w) X.A (newList []) (λacc s₃=>wpAny (model X.prog X.w) X.A (newFunctionEnv scope X.env.globals (R3 X.env.cells scope.names []) [] X.env.qual none .none (some X.env)) (λcenv s₄ =>
   codeAny (model X.prog X.w) X.A (.compStart (.ListComp elt [⟨tg,iter,ifs,0⟩] scope pos) 0 (.ref it) acc { cenv with scope:=relabel scope X.env }) (RR acc cenv.locals) s₄) E s₃) E s:=by
 refine xb (E0:=λ_ _ _=>False) B hc (λ_ _ _ _=>?_) (λ_ _ _ _=>?_) (λ_ _ _ _=>?_) I T st hf rd hRR λ_ _ _ _ _ _ _ _ _ _ h=>(xY h).elim
 ·rw[wW];exact hg _ _ _ _
 ·rw[wW];exact ht _ _ _ _
 ·rw[wW];exact he _ _ _ _
theorem O9 {elt tg iter:Expr}{ifs:List Expr}{pos:Pos}{wi:TI}{g:TG}{tc:TT}{te:TE}(B:C7 X scope NB cap)(hc:X.calm=true)(hi:PI X tg iter wi)
  (hg:∀ C s H ex,PG (U8 X scope NB C s H ex) tg g) (ht:∀ C s H ex,gL (U8 X scope NB C s H ex) ifs tc) (he:∀ C s H ex,PE (U8 X scope NB C s H ex) elt te) (hs:∀ x,foldedSetIterable iter X.env x=pure x:=by intro _;rfl) :
  PE X (.ListComp elt [⟨tg,iter,ifs,0⟩] scope pos) (dQ wi cap g tc te):=by
 intro pins s σ H Q I h;rw[eval_ListComp];refine wpAny_comprehension_free (use:=none) rfl hs (B.closure I.ok) B.kind B.names (t6 (hi pins s σ H _ I h) λv s1 h1=>t6 h1 λitv s2 h2=>?_);obtain⟨it,fp,tn,J,H2,e,I2,T,st2,f2,rd⟩:=h2;subst e;refine xn (RR:=λacc C=>compPost (model X.prog X.w) X.A X.xe none (EP X pins σ Q) acc C) (Qd:=λD H'=>Q (.ref D) H') B hc hg ht he I2 T st2 f2 rd ?_;intro D C H' s' m' I' hn hfp q;obtain⟨f0,f1,f2',f3,f4,f5⟩:=hfp;refine⟨m',hn,λh' sb=>⟨.ref D,H',I'.turned (t':=s'.toks) (it:=C) (λb o hb e=>(sb.2 b hb).trans e) f0 f1 f3 f4 f5,rfl,q⟩⟩
theorem tV {i:Nat}{y:Str}{elt tg iter:Expr}{ifs:List Expr}{pos spos py:Pos}{wi:TI}{g:TG}{tc:TT}{te:TE}(hN:X.N.Nodup)(hi':X.N[i]?=some y)(hx:fK X.env.scope y)(B:C7 X scope NB cap)(hc:X.calm=true)(hi:PI X tg iter wi)
  (hg:∀ C s H ex,PG (U8 X scope NB C s H ex) tg g) (ht:∀ C s H ex,gL (U8 X scope NB C s H ex) ifs tc) (he:∀ C s H ex,PE (U8 X scope NB C s H ex) elt te)
  (hsw:swapsWith (.ListComp elt [⟨tg,iter,ifs,0⟩] scope pos) (some (.Name y py)) spos.line X.env=pure true:=by rfl)
  (hf:X.fn y=true∨X.env.scope.names.lookup y=some .local:=by first | exact .inl rfl | exact .inr rfl | assumption) (hs:∀ x,foldedSetIterable iter X.env x=pure x:=by intro _;rfl) :
  PS X (.Assign [.Name y py] (.ListComp elt [⟨tg,iter,ifs,0⟩] scope pos) spos) (vO i (dQ wi cap g tc te)):=by
 intro pins s σ H D I h;rw[exec_Assign_Name_used _ _ _ _ hsw];refine wpAny_bind (wpAny_standAt (wpAny_bind ?_));show wpAny _ X.A (do let _ ← comprehension (.ListComp elt [⟨tg,iter,ifs,0⟩] scope pos) scope X.env _ (newList []) false (eval iter X.env) (some (assign (.Name y py) X.env))) _ _ s
 refine wpAny_bind (wpAny_mono (wpAny_comprehension_free (use:=some (assign (.Name y py) X.env)) (Q:=λ_ s'=>SP X pins D .next s') rfl hs (B.closure I.ok) B.kind B.names
  (t6 (hi pins s σ H _ I h) λv s1 h1=>t6 h1 λitv s2 h2=>?_)) (λ_ s' hq=>wpAny_pure (wpAny_pure hq)) λ_ _ e=>e)
 obtain⟨it,fp,tn,J,H2,e,I2,T,st2,f2,rd⟩:=h2;subst e;refine xn (RR:=λacc C=>compPost (model X.prog X.w) X.A X.xe (some (assign (.Name y py) X.env)) (λ_ s'=>SP X pins D .next s') acc C) (Qd:=λd H'=>D.nx (σ.set i (some (.ref d))) H') B hc hg ht he I2 T st2 f2 rd ?_;intro d C H' s' m' I' hn hfp q;show wpAny _ X.A (assign (.Name y py) X.env (.ref d)) _ _ _
 refine wpAny_assign_Name (Kl (v:=.ref d) I' hN hi' hx rfl (λs'' I'' sb=>?_) hf);obtain⟨f0,f1,f2',f3,f4,f5⟩:=hfp;obtain⟨a,sa,ha⟩:=sb;have haC:C≠a:=by
  rcases ha with z | z
  ·rw[z];exact f1
  ·exact λe=>f4 y a z e.symm
 refine⟨m',hn.sameBut sa haC,λh' sb=>⟨_,H',I''.turned (t':=s''.toks) (it:=C) (λb o hb e=>(sb.2 b hb).trans e) f0 f1 f3 f4 f5,q⟩⟩
end
section
variable {P:Program} {w:World} {K:qF} {mg:Str->Option Value} {base:Heap} {N:List Str} {qual:Str} {sc:Scope} {f:Addr} {cd:Value} {A:Around} {outer:List Env} {s0:Shared} {H0:Hp} {E:XK} {scope:Scope} {NB:List Str} {cap:List (Option Nat)}
theorem qz {elt tg iter:Expr}{ifs:List Expr}{pos:Pos}{wi:TI}{g:TG}{tc:TT}{te:TE}(B:C7 (J1 (F3 P w) P w K mg base N qual sc f cd A outer s0 H0 E) scope NB cap)(hc:(J1 (F3 P w) P w K mg base N qual sc f cd A outer s0 H0 E).calm=true)(hi:PI (J1 (F3 P w) P w K mg base N qual sc f cd A outer s0 H0 E) tg iter wi)
  (hg:∀ C s H ex,PG (eO (J1 (F3 P w) P w K mg base N qual sc f cd A outer s0 H0 E) E scope NB C s H ex) tg g) (ht:∀ C s H ex,gL (eO (J1 (F3 P w) P w K mg base N qual sc f cd A outer s0 H0 E) E scope NB C s H ex) ifs tc) (he:∀ C s H ex,PE (eO (J1 (F3 P w) P w K mg base N qual sc f cd A outer s0 H0 E) E scope NB C s H ex) elt te) (hs:∀ x,foldedSetIterable iter (J1 (F3 P w) P w K mg base N qual sc f cd A outer s0 H0 E).env x=pure x:=by intro _;rfl) :
  PE (J1 (F3 P w) P w K mg base N qual sc f cd A outer s0 H0 E) (.ListComp elt [⟨tg,iter,ifs,0⟩] scope pos) (dQ wi cap g tc te):=by
 intro pins s σ H Q I h;rw[eval_ListComp];generalize hX:J1 (F3 P w) P w K mg base N qual sc f cd A outer s0 H0 E=X at B hc hi hg ht he hs I h |-;refine wpAny_comprehension_free (use:=none) rfl hs (B.closure I.ok) B.kind B.names (t6 (hi pins s σ H _ I h) λv s1 h1=>t6 h1 λitv s2 h2=>?_);obtain⟨it,fp,tn,J,H2,e,I2,T,st2,f2,rd⟩:=h2;subst e;refine xb (E0:=E) (RR:=λacc C=>compPost (model X.prog X.w) X.A X.xe none (EP X pins σ Q) acc C) (Qd:=λD H'=>Q (.ref D) H') B hc hg ht he I2 T st2 f2 rd ?_ ?_
 ·intro D C H' s' m' I' hn hfp q;obtain⟨f0,f1,f2',f3,f4,f5⟩:=hfp;refine⟨m',hn,λh' sb=>⟨.ref D,H',I'.turned (t':=s'.toks) (it:=C) (λb o hb e=>(sb.2 b hb).trans e) f0 f1 f3 f4 f5,rfl,q⟩⟩
 ·intro D C H1 s1 m e s' I1 hn hfp cx;have frm:=I1.ok.frames;have hn':=hn;obtain⟨ob,es,ep,gb,db,_⟩:=hn';subst hX;have nC:s0.heap.get? C=none:=by
   rcases hfp.2.2.2.1 with z | z
   ·exact absurd z (by simp[J1])
   ·exact Heap.get?_none_of_le z
  have oC:C∉E6 (J1 (F3 P w) P w K mg base N qual sc f cd A outer s0 H0 E).stack:=λz=>by
   have z2:C∈s0.heap.objs.size :: E6 outer:=z;rcases List.mem_cons.mp z2 with z' | z'
   ·exact hfp.2.1 z'
   ·exact hfp.2.2.1 z'
  have fl:=Fl.of (N:=C) rfl I1 hn hfp.1 cx;obtain⟨a,C',T',dd',H',rfl,os',bare',un',hok',na,nT,ha,hT,td,q⟩:=cx;have gC:s'.heap.get? C=some ob:=un'.keep C ob gb hfp.1 oC (by simp);refine wpAny_mono (show wpAny _ _ (noteFrame (.ref a) (envOfC qual sc s0.heap.objs.size f cd)) _ _ s' from fl.note (L:=s0.heap.objs.size) (env:=envOfC qual sc s0.heap.objs.size f cd) (outer:=outer) (Er:=λ_ _=>False) frm lG rfl rfl) (λ_ s3 zq=>?_) λ_ _ z=>z.elim
  obtain⟨fl3,kp⟩:=zq;have ns3:s3.heap.Ns C m:=by
   obtain⟨ob2,es2,ep2,gb2,db2,r2⟩:=hn;rw[gb] at gb2;cases gb2;exact⟨ob,es2,ep2,kp C ob gC (λvs z=>by rw[db] at z;cases z) oC,db2,r2⟩
  refine⟨m,ns3,λh' sb cenv _=>?_⟩;exact wpAny_mono ((fl3.but lG ns3 nC oC sb).pass lG) (λ_ _ z=>z) λe s4 z=>z.leave frm
end
end L2
namespace L2
open PySem
section
variable {prog:Program} {w:World} {A:Around} {E:Value->Shared->Prop} {s:Shared}
end
end L2
namespace PB
open PySem
open PySem.Sem (wp)
open PySem.AutoSeq1 (wpAny_loadPart')
end PB
namespace L2
open PySem PySem.Spec PyProof.Rows
section
variable {X:Cx}
structure Six (en z TI TO i1 i2:Addr):Prop extends kP z TI TO i1 i2 where
 e1:en≠z
 e2:en≠TI
 e3:en≠TO
 e4:en≠i1
 e5:en≠i2
def xo (K:qF):V->List V->Hp->VK->Prop:=λx vs H Q=>∃ (l:Addr) (xs:List V) (y:V) (j:Nat),x=.ref l/\vs=[y]/\d0 K H l xs/\O7 y=true/\xs.all O7=true/\j < xs.length/\(∀ z,xs[j]?=some z->K9 z y=true)/\(∀ i z,i < j->xs[i]?=some z->K9 z y=false)/\Q (.int (j:Int)) H
theorem ylF:jL X "list.index" (xo X.K):=by
 intro pins s σ H x vs v us Q I rx rv h;obtain⟨l,xs,y,j,rfl,rfl,hq,fy,fs,hj,hit,hno,q⟩:=h;cases rx;obtain⟨u,rfl,ru⟩:=rv.one;obtain⟨its,r,pl,hz⟩:=I.list hq;have el:=r.length;have big:sizeLine < 2 ^ 62:=by decide
 have at':∀ i (hi:i < its.length),aV y its[i]=K9 xs[i] y:=λi hi=>by
  obtain⟨w,ew,rw'⟩:=r.get (qG (show i < xs.length by omega));have:w=its[i]:=by rw[qG hi] at ew;exact(Option.some.inj ew).symm
  rw[<- this];exact sQ rw' (List.all_eq_true.mp fs _ (List.getElem_mem _))
 obtain⟨o,n,e,hc,hd,hsl⟩:=pl;obtain⟨cls,dd,data,sl⟩:=o;simp only at hc hd hsl;subst hc;subst hsl;refine call_meets F.slot_list_index ⟨_,e,rfl⟩ F.entry_list_index (F.args_list_index_2 _ _) (SeqAt.list_indexAt l its.toArray n dd sl u (aV y) j (by simp;omega) (by omega) ?_ λm hm lt=>?_) ⟨e,λw hw=>lH ru fy r fs w (by simpa using hw),⟨.int (j:Int),H,?_,⟨_,rfl⟩,q⟩⟩
 ·have:=at' j (by omega);simp only[List.getElem_toArray];rw[this];exact hit _ (qG hj)
 ·have hm':m < its.length:=by simpa using hm
  have:=at' m hm';simp only[List.getElem_toArray];rw[this];exact hno m _ lt (qG (by omega))
 ·exact I.kept (h':=s.heap) (t':=s.toks+1) λb o g=>g
def qe (K:qF)(te ts:TE):TE:=fun σ H Q=>te σ H λx H1=>ts σ H1 λz H2=>z=.int (-1)/\∃ a xs,x=.ref a/\d0 K H2 a xs/\∀ p,H2 p=none->Q (.ref p) (upd H2 p (.lst xs.reverse))
theorem Gc {e st:Expr}{te ts:TE}{p2 pos:Pos}(he:PE X e te)(hst:PE X st ts)(hsub:∀ o i,subscripted (.Slice none none (some st) p2) false o i=operate [o,i] (getItem o i)):PE X (.Subscript e (.Slice none none (some st) p2) pos) (qe X.K te ts):=by
 intro pins s σ H Q I h;refine Subscript_ (t6 (he pins s σ H _ I h) λv s1 zq=>?_);obtain⟨x,H1,I1,r1,q1⟩:=zq;refine wpAny_Slice ?_;rw[evalPart_none,evalPart_some];refine wpAny_pure (wpAny_pure (t6 (hst pins s1 σ H1 _ I1 q1) λvs s3 zq=>?_));obtain⟨z,H3,I3,rz,ez,a,xs,ex,hx,q3⟩:=zq;subst ex ez;cases r1;obtain⟨t,rfl⟩:=rz;have I4:f6 X pins σ H3 { s3 with heap:=s3.heap.push { cls:=.type "slice",data:=.fields #[.none,.none,.int (-1) t] } }:=I3.kept (t':=s3.toks) λb ob q=>Heap.get?_push_of_some _ q
 obtain⟨its,r,ht,hz⟩:=I4.list hx;have hlen:=r.length;show wpAny (model X.prog X.w) X.A (subscriptTail e (.Slice none none (some st) p2) (.ref a) (.ref s3.heap.objs.size)) (EP X pins σ Q) X.xe { s3 with heap:=s3.heap.push { cls:=.type "slice",data:=.fields #[.none,.none,.int (-1) t] } }
 refine tail_any (ops:=[.ref a,.ref s3.heap.objs.size]) ht.isList.typeIs slot_list_getitem.lookup ?_ (hsub _ _);refine wpAny_getItem_list_slice ht.isList (Heap.IsSliceOf.new ..) .none .none (.int _ _) (by simp) ?_ (by rw[qZ]<;>omega);rw[PySem.W.krv_pick,show its.toArray.toList.reverse.toArray=its.reverse.toArray by simp];refine⟨.ref _,_,I4.laid (t':=s3.toks) (o:=.lst xs.reverse) (λb ob q=>Heap.get?_push_of_some _ q) (qR _) ?_,rfl,q3 _ (I4.hok.fresh (qR _))⟩;exact⟨by rw[List.length_reverse];exact hz,its.reverse,0,r.reverse,Heap.get?_push_size _ rfl⟩
def Wp (K:qF):V->List V->Hp->VK->Prop:=λx vs H Q=>∃ (l:Addr) (xs:List V) (y:V),x=.ref l/\vs=[y]/\d0 K H l xs/\O7 y=true/\xs.all O7=true/\Q (.int ((xs.countP λz=>K9 z y:Nat):Int)) H
theorem yiJ {y:V}{xs:List V}{us:List Value}(r:f8 xs us):xs.all O7=true->us.countP (aV y)=xs.countP λz=>K9 z y:=by
 induction r with
 | nil=>intro _;rfl
 | cons a t ih=>
  intro f;rw[List.all_cons,Bool.and_eq_true] at f;rw[List.countP_cons,List.countP_cons,ih f.2,sQ a f.1]
theorem ymk:jL X "list.count" (Wp X.K):=by
 intro pins s σ H x vs v us Q I rx rv h;obtain⟨l,xs,y,rfl,rfl,hq,fy,fs,q⟩:=h;cases rx;obtain⟨u,rfl,ru⟩:=rv.one;obtain⟨its,r,pl,hz⟩:=I.list hq;obtain⟨o,n,e,hc,hd,hsl⟩:=pl;obtain⟨cls,dd,data,sl⟩:=o;simp only at hc hd hsl;subst hc;subst hsl;refine call_meets F.slot_list_count ⟨_,e,rfl⟩ F.entry_list_count (F.args_list_count_2 _ _) (SeqAt.list_countAt l its.toArray n dd sl u (aV y)) ⟨e,λw hw=>lH ru fy r fs w (by simpa using hw),⟨.int _,H,?_,⟨_,rfl⟩,?_⟩⟩
 ·exact I.kept (h':=s.heap) (t':=s.toks+1) λb o g=>g
 ·rw[show its.toArray.toList=its by simp,yiJ r fs];exact q
end
section
variable {P:Program} {w:World} {K:qF} {mg:Str->Option Value} {base:Heap} {x qual:Str} {st:Stmt} {f:Addr} {fd:FuncData} {N ps:List Str} {k:Nat} {sp:Sp}
theorem cX.okG (F:cX K x qual st f fd)(S:x5 N ps (v6 st))(len:∀ vs H Q E,sp vs H Q E->vs.length=ps.length)
  (hbody:∀ (cdv:Value) (A:Around) (outer:List Env) (s:Shared) (H:Hp) (vs:List V) (Q:VK) (E:XK),x8 k (A.deeper (envOfC qual (v6 st) s.heap.objs.size f cdv))->sp vs H Q E ->
   ∃ t,U4 (J1 (F3 P w) P w K mg base N qual (v6 st) f cdv A outer s H E) (bW st) t/\t { nx:=λ_ H'=>Q .non H',rt:=Q } (B6 N vs) H):z0 P w K mg base (F3 P w) (k+1) f fd ps sp:=by
 obtain⟨oc,od,kV,doc,pm,an,cdv,ct,osl,rfl,lk,hcd⟩:=F.ex;exact Xk lk hcd S len λA outer s H vs Q E hr hsp=>hbody cdv A outer s H vs Q E hr hsp
end
theorem wH {P:Program}{w:World}{K:qF}{mg:Str->Option Value}{base:Heap}{N:List Str}{qual:Str}{scope:Scope}{f:Addr}{cd:Value}{A:Around}{outer:List Env}{s:Shared}{H:Hp}{E:XK} :
  PassesOwn (model P w) (J1 (F3 P w) P w K mg base N qual scope f cd A outer s H E).A (J1 (F3 P w) P w K mg base N qual scope f cd A outer s H E).env (J1 (F3 P w) P w K mg base N qual scope f cd A outer s H E).xe:=PassesOwn.leaving
def uB (CX:P0)(X:Cx)(E:XK)(S:St->Prop):Prop:=∀ (pins:List (Addr×Obj)) (σ:St) (H:Hp) (s:Shared) (e:Value) (s':Shared),S σ->f6 X pins σ H s->CX X.stack H s E e s'->X.xe e s'
section
variable {X:Cx} {k:Nat} {f:Addr} {fd:FuncData} {ps:List Str} {sp:Sp} {x:Str} {p pos:Pos} {e:Expr} {es:List Expr} {t:TA}
def LJ (S:St->Prop)(sp:Sp)(E:XK)(t:TA):TE:=fun σ H Q=>S σ/\t σ H λvs H1=>sp vs H1 Q E
theorem ymG {CX:P0}{E:XK}{S:St->Prop}(F:z0 X.prog X.w X.K X.mg X.base CX k f fd ps sp)(hr:x8 k X.A)(hx:uB CX X E S)(hg:Gl X x)(hm:X.mg x=some (.ref f))(hk:PySem.W.keepIn X.K (.ref f)=true)(hb:B0 X.K fd ps [])
  (ha:PA X (e :: es) t) (hdb:(x==("__debug__" : Str))=false:=by decide) (he:starEach (e :: es) X.env=(false,eval e X.env) :: starEach es X.env:=by rfl) (hpl:(backTo pos (starEach es X.env)).any (·.1)=false:=by rfl) :
  PE X (.Call (.Name x p) (e :: es) [] pos) (LJ S sp E t):=by
 intro pins s σ H Q I h;obtain⟨hS,h⟩:=h;refine wpAny_Call_Name_kw (gD I hg hm ?_ hdb);refine PySem.W.callWith_K (h₀:=X.base) I.ok.mod.kin hk (t6 (ha pos pins s σ H _ I h) λus s1 ⟨vs,H1,I1,r,q⟩=>⟨I1.kIn,?_⟩) he hpl;have hl:us.length=ps.length:=by rw[<- r.length];exact F.len _ _ _ _ q
 refine wpAny_call (codeAny_mono (F.run X.A X.stack s1 H1 ⟨us,[]⟩ us vs Q E hr I1.env0 (by have z:=hb s1 us I1.kIn (by simpa using hl);simpa using z) r q) λr s' hq=>?_);cases r with
 | error ev=>exact hx pins σ H1 s1 ev s' hS I1 hq
 | ok fl=>
  cases fl with
  | ret u=>exact I1.after hq
  | next=>exact False.elim hq
  | brk=>exact False.elim hq
  | cont=>exact False.elim hq
end
def yM (K:qF)(B:Addr)(i:Nat)(σ:St)(th:Addr->TS)(D:S0):XK:=λev c Hx=>∃ C,c=some C/\PySem.W.exmOne K (.ref C) (.ref B)=some true/\∀ a,ev=.ref a->th a { nx:=λ_ _=>False,rt:=D.rt } (σ.set i (some (.ref a))) Hx
def k_ (K:qF)(B:Addr)(i:Nat)(ts:(St->Prop)->XK->TS)(th:Addr->TS):TS:=λD σ H=>ts (·=σ) (yM K B i σ th D) D σ H
theorem Vp {X:Cx}{B:Addr}{cx n:Str}{i:Nat}{ts:(St->Prop)->XK->TS}{th:Addr->TS}{b₁:Stmt}{su:List Stmt}{b₀:Stmt}{suite:List Stmt}{np hpos tpos:Pos}
  (hS:∀ pins Eh EE S,uB (F3 X.prog X.w) (X.tri pins Eh) EE S->U4 (X.tri pins Eh) (b₁ :: su) (ts S EE))
  (hCg:Gl X cx) (hCm:X.mg cx=some (.ref B)) (hst:X.stack=X.env :: X.outer) (hfr:X.env.frame=some X.env.locals) (hN:X.N.Nodup) (hi:X.N[i]?=some n) (hl:X.env.kindOf n=some .local) (hsu:∀ a,U4 (X.hndN a) (b₀ :: suite) (th a))
  (hdc:(cx==("__debug__" : Str))=false:=by decide) :
  PS X (.Try (b₁ :: su) [.ExceptHandler (some (.Name cx np)) (some n) (b₀ :: suite) hpos] [] [] tpos) (k_ X.K B i ts th):=by
 intro pins s σ H D I h;refine wpAny_Try_except ?_;generalize hE:(λe s₁=>wpAny (model X.prog X.w) X.A (noteFrame e X.env) (λ_ s₂=>wpAny (model X.prog X.w) X.A (setFlight e none) (λ_ s₃=>wpAny (model X.prog X.w) X.A (handleBy e X.env [.ExceptHandler (some (.Name cx np)) (some n) (b₀ :: suite) hpos]) (SP X pins D) X.xe s₃) X.xe s₂) X.xe s₁:Value->Shared->Prop)=Eh;refine wpAny_mono (hS pins Eh (yM X.K B i σ th D) (·=σ) ?_ [] s σ H D (I.tri Eh) h) (λf s1 q=>?_) λ_ _ z=>z
 ·intro pins1 σ1 H1 s1 ev s' eσ I1 hq;subst eσ;have I1:f6 X pins σ1 H1 s1:=I1.untri I.ok;obtain⟨a,C,T,dd,H2,rfl,os,bare,un,hok,ga,gT,na,nT,td,go⟩:=hq;show Eh (.ref a) s'
  rw[<- hE];have I2:f6 X pins σ1 H2 s':=I1.call' os un hok bare (λb z=>absurd z (by simp));have ff:=I2.stack;have fr:=I.ok.frames;rw[hst] at ff fr;have new:∀ b o,s1.heap.get? b=some o->b∉[a,T]:=λb o g z=>by
   simp at z;rcases z with rfl | rfl
   ·rw[ga] at g;cases g
   ·rw[gT] at g;cases g
  refine EX.note_nextD fr ff hfr td λh2 T2 le lf tr=>?_
  have free2:∀ b∈(X.env :: X.outer).filterMap (·.frame),H2 b=none:=λb z=>I2.stkFree b (by rw[hst];exact z)
  have un2:Un (E6 X.stack) [] H1 H2 s1.heap h2:=un.left (λb o g=>g) lf (λb o g z=>by rw[hst];exact z) new;have hok2:C9 X.prog X.w H2 h2:=hok.left lf free2 (λb z=>by
   simp at z;rcases z with rfl | rfl
   ·exact na
   ·exact nT)
  have nT2:H2 T2=none:=hok.fresh le;have gT2:∀ b o,s1.heap.get? b=some o->b∉[T2]:=λb o g z=>by
   have:b=T2:=by simpa using z
   subst this;obtain⟨o',g'⟩:=un.there b o g (by simp);exact absurd (Heap.lt_size g') (Nat.not_lt_of_le le)
  have at2:∀ {h3:Heap},Un (E6 X.stack) [] H1 H2 s1.heap h3->C9 X.prog X.w H2 h3->f6 X pins σ1 H2 { s' with heap:=h3 }:=λ{h3} u3 k3=>I1.call' (s':={ s' with heap:=h3 }) os u3 k3 bare (λb z=>absurd z (by simp))
  have J2:=at2 un2 hok2;obtain⟨oe,us2,oT,ts',ge,ce,de,c1,c2,ne,gT3,dT,c3⟩:=id tr;obtain⟨C',eC,hx,go⟩:=go oe us2 ce.1 ce.2 de;cases eC;have J2h:=J2.hndN a;have LT:PySem.W.Looks (model X.prog X.w) h2 (typeOf (.ref a)) (.ref C):=ce.1▸(PySem.W.Looks.ld ge).andThen .now
  refine wpAny_handleBy_cons (codeAny_handlers_test (gD (X:=X.hndN a) J2h hCg hCm ?_ hdc)) (by intro q;cases q);refine(PySem.W.exm_one (M:=model X.prog X.w) J2.kIn LT hx).at ?_;refine codeAny_handlers_suite_as ?_;refine ypq (s:={ s' with heap:=h2 }) tr λh3 lf3 tr3=>?_
  have un3:Un (E6 X.stack) [] H1 H2 s1.heap h3:=un2.left (λb o g=>g) lf3 (λb o g z=>absurd z (by simp)) gT2;have hok3:C9 X.prog X.w H2 h3:=hok2.left lf3 (λb z=>absurd z (by simp)) (λb z=>by
   have:b=T2:=by simpa using z
   rw[this];exact nT2)
  have J3:=at2 un3 hok3;have ge3:h3.get? a=some oe:=lf3.1 a oe ge (by simp) (by simpa using Ne.symm ne);have J3t:f6 X pins σ1 (upd H2 a (fP a oe)) { s' with heap:=h3 }:=I1.call' (s':={ s' with heap:=h3 }) os (un3.also ga na) (hok3.laidN (λb u z=>z) na (Zd ge3)) bare (λb z=>absurd z (by simp));have J3h:=J3t.hndN a;refine sP (X:=X.hndN a) J3h hN hi (.inl hl) (v:=.ref a) rfl (λs4 I4=>?_) (.inr hl);refine wpAny_mono (hsu a pins s4 _ _ _ I4 (go a rfl)) (λfl s5 z=>?_) λ_ _ z=>z.elim
  cases fl with
  | ret u=>
   obtain⟨v,σ5,H5,I5,r5,q5⟩:=z;have I6:=I5.unhnd I.ok;obtain⟨m,hn,_⟩:=I6.loc;refine wpAny_nameGoes hl hn (by rw[I.ok.kind];rfl) λh7 m7 hn7 sb7=>?_
   exact⟨v,_,H5,I6.gone hn7 sb7,r5,q5⟩
  | next=>obtain⟨_,_,_,z⟩:=z;exact z.elim
  | brk=>obtain⟨_,_,_,z⟩:=z;exact z.elim
  | cont=>obtain⟨_,_,_,z⟩:=z;exact z.elim
 ·have q:=SP.untri I.ok q;cases f with
  | next=>exact wpAny_execs_nil q
  | ret v=>exact q
  | brk=>exact q
  | cont=>exact q
theorem AJ {ns:List Int}:∀ {its:List Value},f8 (ns.map V.int) its->∃ l:List (Int×Tok),its=l.map (λp=>Value.int p.1 p.2)/\l.map (·.1)=ns:=by
 induction ns with
 | nil=>intro its r;cases r;exact⟨[],rfl,rfl⟩
 | cons n ns ih=>
  intro its r;cases r with
  | cons a b=>
   obtain⟨t,rfl⟩:=a;obtain⟨l,rfl,e⟩:=ih b;exact⟨(n,t) :: l,rfl,by rw[List.map_cons,e]⟩
def yus (K:qF):List V->Hp->VK->Prop:=λxs H Q=>∃ (p:Addr) (ns:List Int),xs=[.ref p]/\d0 K H p (ns.map V.int)/\Q (.int ns.sum) H
theorem Zw {X:Cx}(hc:X.calm=true):P7 X (.builtin "sum") (yus X.K):=by
 intro pins s σ H xs us Q I r h;obtain⟨p,ns,rfl,hq,q⟩:=h;obtain⟨u,rfl,ru⟩:=fQ r;cases ru;obtain⟨its,rv,pl,hz⟩:=I.list hq;obtain⟨l,rfl,e⟩:=AJ rv;have hl:s.heap.IsList p (intItems l.toArray):=by
  have z:=pl.isList
  rwa [show(l.map λp=>Value.int p.1 p.2).toArray=intItems l.toArray by simp[intItems]] at z
 refine sum_intListG (I.ok.hd hc) hl λh' tk t' hk=>⟨.int _,H,I.kept (t':=tk) hk,⟨t',rfl⟩,?_⟩
 rw[preSum_eq,show(l.toArray.toList.map (·.1))=ns by simpa using e,show l.toArray.size=ns.length by rw[<- e];simp,List.take_length];exact q
theorem jR {X:Cx}{P:Program}{w:World}:bH (F3 P w) X (λ_ _ _=>False):=λ_ _ _ _ _ _ _ h=>(xY h).elim
section
variable {X:Cx} {CX:P0} {k:Nat} {f C:Addr} {fd:FuncData} {ps:List Str} {sp:Sp} {E:XK} {S:St->Prop} {x:Str} {p pos:Pos} {e:Expr} {es:List Expr} {t:TA}
def yqk (S:St->Prop)(C:Addr)(sp:Sp)(E:XK)(t:TA):TE:=fun σ H Q=>S σ/\rE C sp [] E t σ H Q
theorem ymX (M:Mk X.K C f)(F:z0 X.prog X.w X.K X.mg X.base CX k f fd ps sp)(hr:x8 (k+1) X.A)(hx:uB CX X E S)(hg:Gl X x)(hm:X.mg x=some (.ref C))(hb:B0 X.K fd ps [])
  (ha:PA X (e :: es) t) (hdb:(x==("__debug__" : Str))=false:=by decide) (he:starEach (e :: es) X.env=(false,eval e X.env) :: starEach es X.env:=by rfl) (hpl:(backTo pos (starEach es X.env)).any (·.1)=false:=by rfl) :
  PE X (.Call (.Name x p) (e :: es) [] pos) (yqk S C sp E t):=by
 intro pins s σ H Q I h;obtain⟨hS,h⟩:=h;refine wpAny_Call_Name_kw (gD I hg hm ?_ hdb);refine PySem.W.callWith_K (h₀:=X.base) I.ok.mod.kin M.kp (t6 (ha pos pins s σ H _ I h) λus s1 ⟨vs,H1,I1,r,q⟩=>⟨I1.kIn,?_⟩) he hpl;simp only[List.append_nil] at q;have hq:=q (s1.heap.objs.size+1) s1.heap.objs.size (I1.hok.fresh (Nat.le_succ _)) (I1.hok.fresh (qR _)) (Nat.ne_of_lt (Nat.lt_succ_self _));have I2:=f6.made (C:=C) I1;have r2:f8 (V.ref (s1.heap.objs.size+1) :: vs) (Value.ref (s1.heap.objs.size+1) :: us):=.cons rfl r;have hl:(Value.ref (s1.heap.objs.size+1) :: us++[]).length=ps.length:=by
  have e:=r2.length;rw[F.len _ _ _ _ hq] at e;rw[List.append_nil];exact e.symm
 refine wpAny_call (Zp (f:=f) I1.kIn M.makes M.init (beq_iff_eq.mp M.fn) (codeAny_mono (F.run _ X.stack _ _ ⟨Value.ref (s1.heap.objs.size+1) :: us,[]⟩ (Value.ref (s1.heap.objs.size+1) :: us) _ _ E (hr.make C us [])
  (I2.env0.make C us []) (by have z:=hb _ (Value.ref (s1.heap.objs.size+1) :: us) I2.kIn hl;rw[List.append_nil] at z;exact z) r2 hq) λr s' hq'=>?_))
 cases r with
 | error ev=>exact hx pins σ _ _ ev s' hS I2 hq'
 | ok fl=>
  cases fl with
  | ret u=>
   obtain⟨v,H',I3,rv,ev,q3⟩:=I2.after hq';subst ev;exact⟨rv,⟨V.ref (s1.heap.objs.size+1),H',I3,rfl,q3⟩⟩
  | next=>exact False.elim hq'
  | brk=>exact False.elim hq'
  | cont=>exact False.elim hq'
end
end L2
namespace KW
open PySem L2
theorem F2:bootBuiltins "isinstance"=some (.builtin "isinstance"):=by decide +kernel
theorem gR:bootBuiltins "all"=some (.builtin "all"):=by decide +kernel
theorem tK:bootBuiltins "max"=some (.builtin "max"):=by decide +kernel
theorem xU:bootBuiltins "sum"=some (.builtin "sum"):=by decide +kernel
theorem Xd:bootBuiltins "int"=some (.type "int"):=by decide +kernel
theorem rY:bootBuiltins "bool"=some (.type "bool"):=by decide +kernel
theorem eE:bootBuiltins "tuple"=some (.type "tuple"):=by decide +kernel
theorem Y1:bootBuiltins "list"=some (.type "list"):=by decide +kernel
theorem tZ:bootBuiltins "str"=some (.type "str"):=by decide +kernel
theorem yey:bootBuiltins "ValueError"=some (.type "ValueError"):=by decide +kernel
def qd (i:Nat):Stmt:=PySem.Challenge.pw_barwright_k09_tunes_made_or_refused.main.body.getD i (.Pass ⟨0,0,0,0⟩)
def ytC:Stmt->List Stmt
 | .ClassDef _ _ _ body _ _ _ _ _ _ _=>body
 | _=>[]
def u8 (i:Nat):Stmt:=cond (Nat.ble 1000 i) ((ytC (qd (i / 1000 - 1))).getD (i%1000) (.Pass ⟨0,0,0,0⟩)) (qd i)
set_option genInjectivity false in
structure Ad where
 (f_zal f_zag f_zao f_zak f_zE f_zah f_zQ f_zA f_zU f_zaj f_zas f_zaq f_zk f_zad f_zi f_zG f_zn f_ze f_zac f_zR f_zy f_zar f_zai f_zq f_zm f_zL f_zX f_zap f_zaa f_zam f_zat f_zr f_zZ f_zab f_zP f_zI f_zY f_zJ f_zan f_zx f_zV f_zM f_zN f_zt f_zp f_zB f_zz f_zu f_zD f_zb f_zh f_zW f_zS f_zaf f_zH f_zF f_zw f_zo f_zj f_zd f_zc f_zf f_zT f_zC f_zK f_za f_zg f_zae f_zO f_zav Ro Rp Rq Rr Rs Rt Ru Rv Rw Rx Ry Rz RA RB RC:Addr)
 (d_zal d_zag d_zao d_zak d_zE d_zah d_zQ d_zA d_zU d_zaj d_zas d_zaq d_zk d_zad d_zi d_zG d_zn d_ze d_zac d_zR d_zy d_zar d_zai d_zq d_zm d_zL d_zX d_zap d_zaa d_zam d_zat d_zr d_zZ d_zab d_zP d_zI d_zY d_zJ d_zan d_zx d_zV d_zM d_zN d_zt d_zp d_zB d_zz d_zu d_zD d_zb d_zh d_zW d_zS d_zaf d_zH d_zF d_zw d_zo d_zj d_zd d_zc d_zf d_zT d_zC d_zK d_za d_zg d_zae d_zO d_zav:FuncData)
structure FM (K:qF) (mg:Str->Option Value) (n:Str) (m:Nat) (ps:List Str) (f:Addr) (d:FuncData):Prop where
 F:cX K n n (u8 m) f d
 B:B0 K d ps []
 M:mg n=some (.ref f)
structure FN (K:qF) (n q:Str) (m:Nat) (ps:List Str) (f:Addr) (d:FuncData):Prop where
 F:cX K n q (u8 m) f d
 B:B0 K d ps []
structure Txt (K:qF) (mg:Str->Option Value) (t:Ad):Prop where
 JV:mg "TuneError"=some (.ref t.Rp)
 Qz:mg "BadRow"=some (.ref t.Rq)
 JP:mg "BadTune"=some (.ref t.Rr)
 Qh:mg "OutOfReach"=some (.ref t.Rs)
 Qu:mg "TooFine"=some (.ref t.Rt)
 Qi:mg "BadStretch"=some (.ref t.Ru)
 Qv:mg "BadPage"=some (.ref t.Rv)
 Qw:mg "BadRoll"=some (.ref t.Rw)
 Qj:mg "OutOfPlace"=some (.ref t.Rx)
 Qr:mg "BadWidth"=some (.ref t.Ry)
 Qk:mg "Sound"=some (.ref t.Rz)
 JE:mg "Rest"=some (.ref t.RA)
 JY:mg "Tones"=some (.ref t.RB)
 JQ:mg "Tune"=some (.ref t.RC)
 Ql:Mk K t.RA t.f_zk
 Qt:Mk K t.RB t.f_zi
 JR:Mk K t.RC t.f_zn
 QP:aP K t.RA "told" t.f_zad
 Ra:aP K t.RB "told" t.f_zG
 QQ:aP K t.RC "frames" t.f_zy
 QI:aP K t.RC "many" t.f_zac
 QA:aP K t.RC "lasts" t.f_zR
 Rb:aP K t.RC "sounds_told" t.f_ze
 QR:aP K t.RC "metres_told" t.f_zb
 QM:aP K t.RC "keys_told" t.f_zh
 Rc:xO K t.Rz "__init__" t.f_zk
 QX:FM K mg "is_whole" 14 ["thing"] t.f_zal t.d_zal
 QN:FM K mg "is_among" 15 ["thing","least","most"] t.f_zag t.d_zag
 Rh:FM K mg "do_rise" 16 ["numbers"] t.f_zao t.d_zao
 Ri:FM K mg "has_only" 17 ["text","signs"] t.f_zak t.d_zak
 zE:FM K mg "is_syllable" 18 ["thing"] t.f_zE t.d_zE
 QO:FM K mg "is_metre" 30 ["thing"] t.f_zah t.d_zah
 zQ:FM K mg "are_groups" 31 ["thing","top"] t.f_zQ t.d_zQ
 zA:FM K mg "unit_grains" 32 ["bottom"] t.f_zA t.d_zA
 zU:FM K mg "bar_grains" 33 ["metre"] t.f_zU t.d_zU
 QY:FM K mg "is_pitch" 20 ["thing"] t.f_zaj t.d_zaj
 Rj:FM K mg "line" 21 ["pitch"] t.f_zas t.d_zas
 QS:FM K mg "is_key" 24 ["thing"] t.f_zaq t.d_zaq
 zk:FN K "__init__" "Sound.__init__" 43000 ["self","length"] t.f_zk t.d_zk
 Re:FN K "told" "Rest.told" 44000 ["self"] t.f_zad t.d_zad
 zi:FN K "__init__" "Tones.__init__" 45000 ["self","pitches","length","word","opens","closes"] t.f_zi t.d_zi
 zG:FN K "told" "Tones.told" 45001 ["self"] t.f_zG t.d_zG
 zn:FN K "__init__" "Tune.__init__" 46000 ["self","metres","keys","voices"] t.f_zn t.d_zn
 ze:FN K "sounds_told" "Tune.sounds_told" 46003 ["self","voice"] t.f_ze t.d_ze
 QZ:FN K "many" "Tune.many" 46004 ["self"] t.f_zac t.d_zac
 zR:FN K "lasts" "Tune.lasts" 46005 ["self"] t.f_zR t.d_zR
 zy:FN K "frames" "Tune.frames" 46006 ["self"] t.f_zy t.d_zy
 Jr:FM K mg "need" 46 ["is_so","why"] t.f_zar t.d_zar
 QB:FM K mg "sound_of" 47 ["told"] t.f_zai t.d_zai
 zq:FM K mg "is_rest_told" 48 ["thing"] t.f_zq t.d_zq
 zm:FM K mg "is_tones_told" 49 ["thing"] t.f_zm t.d_zm
 zL:FM K mg "is_told_as" 50 ["name","parts","thing"] t.f_zL t.d_zL
 zX:FM K mg "are_tones" 51 ["thing"] t.f_zX t.d_zX
 Rk:FM K mg "is_word" 52 ["thing"] t.f_zap t.d_zap
 QT:FM K mg "voices_of" 53 ["things"] t.f_zaa t.d_zaa
 QU:FM K mg "voice_of" 54 ["thing"] t.f_zam t.d_zam
 QV:FM K mg "tidy" 55 ["sounds"] t.f_zat t.d_zat
 zr:FM K mg "ends_in_rest" 56 ["sounds"] t.f_zr t.d_zr
 zZ:FM K mg "grains_in" 57 ["sounds"] t.f_zZ t.d_zZ
 QW:FM K mg "long_rest" 58 ["grains"] t.f_zab t.d_zab
 zP:FM K mg "need_slurs" 59 ["sounds"] t.f_zP t.d_zP
 zI:FM K mg "changes_of" 60 ["things","is_good"] t.f_zI t.d_zI
 zY:FM K mg "is_change" 61 ["thing","is_good"] t.f_zY t.d_zY
 zJ:FM K mg "frames_for" 62 ["metres","keys","lasts"] t.f_zJ t.d_zJ
 Rl:FM K mg "last_at" 63 ["bar","changes"] t.f_zan t.d_zan
 zx:FM K mg "need_within" 64 ["changes","bars"] t.f_zx t.d_zx
 zV:FM K mg "_law_draw" 66 ["_law_script","_law_tape","_law_size"] t.f_zV t.d_zV
 zM:FM K mg "_law_whole" 67 ["_law_found"] t.f_zM t.d_zM
 zN:FM K mg "_law_metre" 69 ["_law_script","_law_tape"] t.f_zN t.d_zN
 zt:FM K mg "_law_pitches" 70 ["_law_script","_law_tape"] t.f_zt t.d_zt
 zp:FM K mg "_law_syllable" 71 ["_law_script","_law_tape"] t.f_zp t.d_zp
 zB:FM K mg "_law_length" 72 ["_law_script","_law_tape"] t.f_zB t.d_zB
 zz:FM K mg "_law_frames" 76 ["_law_script","_law_tape","_law_lasts_here"] t.f_zz t.d_zz
 zu:FM K mg "_law_changes" 77 ["_law_frames_here","_law_part"] t.f_zu t.d_zu
 zD:FM K mg "_law_voices" 78 ["_law_script","_law_tape","_law_most"] t.f_zD t.d_zD
 zb:FN K "metres_told" "Tune.metres_told" 46001 ["self"] t.f_zb t.d_zb
 zh:FN K "keys_told" "Tune.keys_told" 46002 ["self"] t.f_zh t.d_zh
 zW:FM K mg "_law_word" 68 ["_law_e"] t.f_zW t.d_zW
 zS:FM K mg "_law_voice" 73 ["_law_script","_law_tape","_law_most"] t.f_zS t.d_zS
 Rm:FM K mg "_law_tidy" 74 ["_law_voice_here"] t.f_zaf t.d_zaf
 zH:FM K mg "_law_lasts" 75 ["_law_voices_here"] t.f_zH t.d_zH
 zF:FM K mg "_law_copied" 79 ["_law_thing"] t.f_zF t.d_zF
 zw:FM K mg "_law_refused" 80 ["_law_metres","_law_keys","_law_voices_here"] t.f_zw t.d_zw
 zo:FM K mg "_law_no_sound" 81 ["_law_told_here"] t.f_zo t.d_zo
 zj:FM K mg "_law_odd_sound" 82 ["_law_number"] t.f_zj t.d_zj
 zd:FM K mg "_law_odd_pitches" 83 ["_law_script","_law_tape"] t.f_zd t.d_zd
 zc:FM K mg "_law_odd_changes" 84 ["_law_number","_law_good","_law_other","_law_bad"] t.f_zc t.d_zc
 zf:FM K mg "_law_odd_voices" 85 ["_law_number","_law_voices_here"] t.f_zf t.d_zf
 zT:FM K mg "_law_slurs" 86 ["_law_number"] t.f_zT t.d_zT
 zC:FM K mg "_law_behind" 87 ["_law_metres","_law_voices_here","_law_count"] t.f_zC t.d_zC
 zK:FM K mg "_law_wrong" 88 ["_law_script","_law_tape","_law_metres","_law_keys","_law_voices_here","_law_count"] t.f_zK t.d_zK
 za:FM K mg "_law_sounds_right" 89 ["_law_voices_here"] t.f_za t.d_za
 zg:FM K mg "_law_made_right" 90 ["_law_told_here"] t.f_zg t.d_zg
 Rn:FM K mg "_law_told" 91 ["_law_tune","_law_count","_law_turn"] t.f_zae t.d_zae
 zO:FM K mg "_law_right" 92 ["_law_tune","_law_due","_law_lasts_here","_law_turn"] t.f_zO t.d_zO
 Rf:FM K mg "law" 93 ["_law_script"] t.f_zav t.d_zav
 Qm:mg "ValueError"=none
 JW:mg "all"=none
 Qn:mg "bool"=none
 Qp:mg "enumerate"=none
 QJ:mg "int"=none
 Ja:mg "isinstance"=none
 Ji:mg "len"=none
 Jg:mg "list"=none
 QC:mg "max"=none
 Jz:mg "range"=none
 QD:mg "str"=none
 QE:mg "sum"=none
 Jj:mg "tuple"=none
 QK:mg "zip"=none
 JS:∃ k,mg "SYLLABLE_SIGNS"=some (.str "abcdefghijklmnopqrstuvwxyzABCDEFGHIJKLMNOPQRSTUVWXYZ-" k)
 Jt:∃ k,mg "MOST_SYLLABLE_SIGNS"=some (.int (12) k)
 JG:∃ k,mg "MOST_SIGNS"=some (.int (7) k)
 QF:∃ k,mg "GRAINS"=some (.int (96) k)
 Qs:∃ k,mg "MOST_TOP"=some (.int (12) k)
 Qx:mg "BOTTOMS"=some (.ref t.Ro)
 Qy:W9 K t.Ro [.int 2,.int 4,.int 8]
 JH:∃ k,mg "MOST_BAR_GRAINS"=some (.int (192) k)
 Ju:∃ k,mg "LEAST_GRAINS"=some (.int (2) k)
 Jn:∃ k,mg "MOST_REST_GRAINS"=some (.int (4608) k)
 JB:∃ k,mg "MOST_TONES_GRAINS"=some (.int (384) k)
 JZ:∃ k,mg "MOST_PITCHES"=some (.int (4) k)
 Qb:∃ k,mg "MOST_SOUNDS"=some (.int (96) k)
 Qc:∃ k,mg "MOST_VOICES"=some (.int (2) k)
 Qq:∃ k,mg "MOST_BARS"=some (.int (24) k)
 Jq:R8 K t.RA
 Qa:M6 K t.RA
 Jk:v7 K t.RA "length"
 Qo:PySem.W.kitOne K (.ref t.RA) (.ref t.Rz)=some true
 JX:PySem.W.kitOne K (.ref t.RA) (.ref t.RA)=some true
 JI:PySem.W.kitOne K (.ref t.RA) (.ref t.RB)=some false
 Jc:R8 K t.RB
 JA:M6 K t.RB
 Jo:v7 K t.RB "length"
 Js:v7 K t.RB "pitches"
 JJ:v7 K t.RB "word"
 Jl:v7 K t.RB "opens"
 Jp:v7 K t.RB "closes"
 JC:PySem.W.kitOne K (.ref t.RB) (.ref t.Rz)=some true
 JK:PySem.W.kitOne K (.ref t.RB) (.ref t.RA)=some false
 JD:PySem.W.kitOne K (.ref t.RB) (.ref t.RB)=some true
 Jb:R8 K t.RC
 Rg:M6 K t.RC
 Jd:v7 K t.RC "metre_changes"
 Je:v7 K t.RC "key_changes"
 Jh:v7 K t.RC "voices"
 Jf:v7 K t.RC "bar_frames"
 QG:PySem.W.kitOne K (.ref t.RC) (.ref t.Rz)=some false
 QL:PySem.W.kitOne K (.ref t.RC) (.ref t.RA)=some false
 QH:PySem.W.kitOne K (.ref t.RC) (.ref t.RB)=some false
 JT:T6 K t.Rr
 JU:PySem.W.kitOne K (.ref t.Rr) (.ref t.Rq)=some false
 JL:PySem.W.kitOne K (.ref t.Rr) (.ref t.Rr)=some true
 Jv:PySem.W.kitOne K (.ref t.Rr) (.ref t.Rs)=some false
 JM:PySem.W.kitOne K (.ref t.Rr) (.ref t.Rt)=some false
 Jw:PySem.W.kitOne K (.ref t.Rr) (.ref t.Ru)=some false
 JN:PySem.W.kitOne K (.ref t.Rr) (.ref t.Rv)=some false
 JO:PySem.W.kitOne K (.ref t.Rr) (.ref t.Rw)=some false
 Jx:PySem.W.kitOne K (.ref t.Rr) (.ref t.Rx)=some false
 JF:PySem.W.kitOne K (.ref t.Rr) (.ref t.Ry)=some false
 Jy:PySem.W.kitOne K (.ref t.Rr) (.type "ValueError")=some true
 Qe:PySem.W.excIn K t.Rr [.type "ValueError",.type "Exception",.type "BaseException",.type "object"] "ValueError.__new__"=true
 Qf:PySem.W.keepIn K (.ref t.Rr)=true
 Qg:PySem.W.typeIn K (.ref t.Rr)=some (.type "type")
 Jm:PySem.W.exmOne K (.ref t.Rr) (.ref t.Rp)=some true
theorem eF {X:Cx}{k n m:Nat}{f:Addr}{fd:FuncData}{ps:List Str}{sp:Sp}{x:Str}{e:Expr}{es:List Expr}{t:TA}{p pos:Pos}(F:z0 X.prog X.w X.K X.mg X.base S3 k f fd ps sp)(hr:x8 n X.A)(M:FM X.K X.mg x m ps f fd)(ha:PA X (e :: es) t)(le:k<=n:=by first | decide | omega)(hg:Gl X x:=by rfl)(hdb:(x==("__debug__" : Str))=false:=by decide)
  (he:starEach (e :: es) X.env=(false,eval e X.env) :: starEach es X.env:=by rfl) (hpl:(backTo pos (starEach es X.env)).any (·.1)=false:=by rfl):PE X (.Call (.Name x p) (e :: es) [] pos) (cI sp [] E0 t):=N7 F (hr.mono le) hg M.M M.F.kp M.B .nil K4 ha hdb he hpl
theorem z9 {N P:List Str}{sc:Scope}(a:sc.kind=.function:=by rfl)(b:sc.isCoroutine=false:=by rfl)(c:sc.isGenerator=false:=by rfl)(d:N.Nodup:=by decide +kernel)(e:N.take P.length=P:=by rfl)(f:∀ x∈P,sc.names.lookup x=some .local∨sc.names.lookup x=some .cell:=by decide +kernel)(g:∀ y∈sc.names,y.2≠.free:=by decide +kernel):x5 N P sc:=⟨a,b,c,d,e,f,g⟩
theorem yr3:x5 ["thing"] ["thing"] (v6 (u8 14)):=z9
theorem ypR:x5 ["thing","least","most"] ["thing","least","most"] (v6 (u8 15)):=z9
theorem yrk:x5 ["numbers"] ["numbers"] (v6 (u8 16)):=z9
theorem yrF:x5 ["text","signs"] ["text","signs"] (v6 (u8 17)):=z9
theorem LZ:x5 ["thing"] ["thing"] (v6 (u8 18)):=z9
theorem Y8:x5 ["thing","top","bottom"] ["thing"] (v6 (u8 30)):=z9
theorem Yd:x5 ["thing","top"] ["thing","top"] (v6 (u8 31)):=z9
theorem Gh:x5 ["bottom"] ["bottom"] (v6 (u8 32)):=z9
theorem NJ:x5 ["metre"] ["metre"] (v6 (u8 33)):=z9
theorem Ug:x5 ["thing"] ["thing"] (v6 (u8 20)):=z9
theorem CQ:x5 ["pitch"] ["pitch"] (v6 (u8 21)):=z9
theorem LQ:x5 ["thing"] ["thing"] (v6 (u8 24)):=z9
theorem ytr:x5 ["self","length"] ["self","length"] (v6 (u8 43000)):=z9
theorem yq6:x5 ["self"] ["self"] (v6 (u8 44000)):=z9
theorem DZ:x5 ["self","pitches","length","word","opens","closes"] ["self","pitches","length","word","opens","closes"] (v6 (u8 45000)):=z9
theorem PQ:x5 ["self"] ["self"] (v6 (u8 45001)):=z9
theorem ytl:x5 ["self","metres","keys","voices"] ["self","metres","keys","voices"] (v6 (u8 46000)):=z9
theorem ytS:x5 ["self","voice"] ["self","voice"] (v6 (u8 46003)):=z9
theorem HX:x5 ["self"] ["self"] (v6 (u8 46004)):=z9
theorem ysH:x5 ["self"] ["self"] (v6 (u8 46005)):=z9
theorem ytK:x5 ["self"] ["self"] (v6 (u8 46006)):=z9
theorem Ww:x5 ["is_so","why"] ["is_so","why"] (v6 (u8 46)):=z9
theorem yse:x5 ["told"] ["told"] (v6 (u8 47)):=z9
theorem ytT:x5 ["thing"] ["thing"] (v6 (u8 48)):=z9
theorem ys7:x5 ["thing"] ["thing"] (v6 (u8 49)):=z9
theorem ysT:x5 ["name","parts","thing"] ["name","parts","thing"] (v6 (u8 50)):=z9
theorem ysW:x5 ["thing"] ["thing"] (v6 (u8 51)):=z9
theorem VZ:x5 ["thing"] ["thing"] (v6 (u8 52)):=z9
theorem yrj:x5 ["things"] ["things"] (v6 (u8 53)):=z9
theorem cS:x5 ["thing","sounds"] ["thing"] (v6 (u8 54)):=z9
theorem Z7:x5 ["sounds","kept","sound"] ["sounds"] (v6 (u8 55)):=z9
theorem yth:x5 ["sounds"] ["sounds"] (v6 (u8 56)):=z9
theorem Wd:x5 ["sounds"] ["sounds"] (v6 (u8 57)):=z9
theorem ysa:x5 ["grains"] ["grains"] (v6 (u8 58)):=z9
theorem W7:x5 ["sounds","is_open","sound"] ["sounds"] (v6 (u8 59)):=z9
theorem dH:x5 ["things","is_good","bars","values"] ["things","is_good"] (v6 (u8 60)):=z9
theorem ysV:x5 ["thing","is_good"] ["thing","is_good"] (v6 (u8 61)):=z9
theorem T1:x5 ["metres","keys","lasts","frames","begin","bar","metre"] ["metres","keys","lasts"] (v6 (u8 62)):=z9
theorem Kz:x5 ["bar","changes"] ["bar","changes"] (v6 (u8 63)):=z9
theorem yts:x5 ["changes","bars"] ["changes","bars"] (v6 (u8 64)):=z9
theorem aM:x5 ["_law_script","_law_tape","_law_size","_law_seed","_law_cell"] ["_law_script","_law_tape","_law_size"] (v6 (u8 66)):=z9
theorem yti:x5 ["_law_found"] ["_law_found"] (v6 (u8 67)):=z9
theorem dR:x5 ["_law_script","_law_tape","_law_some"] ["_law_script","_law_tape"] (v6 (u8 69)):=z9
theorem X0:x5 ["_law_script","_law_tape","_law_found","_law_at","_law_k"] ["_law_script","_law_tape"] (v6 (u8 70)):=z9
theorem dS:x5 ["_law_script","_law_tape","_law_letters","_law_size"] ["_law_script","_law_tape"] (v6 (u8 71)):=z9
theorem gF:x5 ["_law_script","_law_tape","_law_some"] ["_law_script","_law_tape"] (v6 (u8 72)):=z9
theorem N8:x5 ["_law_script","_law_tape","_law_lasts_here","_law_found","_law_begin","_law_metre_here","_law_key"] ["_law_script","_law_tape","_law_lasts_here"] (v6 (u8 76)):=z9
theorem aB:x5 ["_law_frames_here","_law_part","_law_found","_law_place","_law_frame"] ["_law_frames_here","_law_part"] (v6 (u8 77)):=z9
theorem ytn:x5 ["_law_script","_law_tape","_law_most"] ["_law_script","_law_tape","_law_most"] (v6 (u8 78)):=z9
theorem OX:x5 ["self"] ["self"] (v6 (u8 46001)):=z9
theorem ytG:x5 ["self"] ["self"] (v6 (u8 46002)):=z9
theorem X4:x5 ["_law_e","_law_some","_law_words"] ["_law_e"] (v6 (u8 68)):=z9
theorem E5:x5 ["_law_script","_law_tape","_law_most","_law_found","_law_is_open","_law_left","_law_count","_law_k","_law_length_here","_law_closes","_law_opens","_law_word_here"] ["_law_script","_law_tape","_law_most"] (v6 (u8 73)):=z9
theorem Y9:x5 ["_law_voice_here","_law_found","_law_told_here"] ["_law_voice_here"] (v6 (u8 74)):=z9
theorem cN:x5 ["_law_voices_here","_law_sums","_law_voice_here"] ["_law_voices_here"] (v6 (u8 75)):=z9
theorem Gk:x5 ["_law_thing"] ["_law_thing"] (v6 (u8 79)):=z9
theorem gH:x5 ["_law_metres","_law_keys","_law_voices_here","_law_e"] ["_law_metres","_law_keys","_law_voices_here"] (v6 (u8 80)):=z9
theorem gI:x5 ["_law_told_here","_law_e"] ["_law_told_here"] (v6 (u8 81)):=z9
theorem F5:x5 ["_law_number","_law_one","_law_some","_law_odd","_law_word_here"] ["_law_number"] (v6 (u8 82)):=z9
theorem P6:x5 ["_law_script","_law_tape","_law_found","_law_at","_law_step","_law_lean","_law_octave","_law_more"] ["_law_script","_law_tape"] (v6 (u8 83)):=z9
theorem aD:x5 ["_law_number","_law_good","_law_other","_law_bad","_law_some"] ["_law_number","_law_good","_law_other","_law_bad"] (v6 (u8 84)):=z9
theorem N3:x5 ["_law_number","_law_voices_here","_law_good","_law_tone","_law_some"] ["_law_number","_law_voices_here"] (v6 (u8 85)):=z9
theorem aL:x5 ["_law_number","_law_rows","_law_pitches_here"] ["_law_number"] (v6 (u8 86)):=z9
theorem X5:x5 ["_law_metres","_law_voices_here","_law_count","_law_good","_law_lasts_here","_law_last","_law_told_here"] ["_law_metres","_law_voices_here","_law_count"] (v6 (u8 87)):=z9
theorem D0:x5 ["_law_script","_law_tape","_law_metres","_law_keys","_law_voices_here","_law_count","_law_way","_law_number","_law_odd","_law_at","_law_spoilt","_law_own","_law_menu","_law_both","_law_tones"] ["_law_script","_law_tape","_law_metres","_law_keys","_law_voices_here","_law_count"] (v6 (u8 88)):=z9
theorem T4:x5 ["_law_voices_here","_law_voice_here","_law_told_here","_law_sound","_law_kinds","_law_length_here"] ["_law_voices_here"] (v6 (u8 89)):=z9
theorem cY:x5 ["_law_told_here","_law_pitches_here","_law_made"] ["_law_told_here"] (v6 (u8 90)):=z9
theorem Z2:x5 ["_law_tune","_law_count","_law_turn","_law_rows"] ["_law_tune","_law_count","_law_turn"] (v6 (u8 91)):=z9
theorem X1:x5 ["_law_tune","_law_due","_law_lasts_here","_law_turn","_law_count","_law_found","_law_row","_law_told_here"] ["_law_tune","_law_due","_law_lasts_here","_law_turn"] (v6 (u8 92)):=z9
theorem C1:x5 ["_law_script","_law_tape","_law_voices_here","_law_tidy_here","_law_frames_here","_law_metres","_law_keys","_law_due","_law_handed","_law_tune","_law_voice_here","_law_told_here"] ["_law_script"] (v6 (u8 93)):=z9
abbrev OF {K:qF}{mg:Str->Option Value}{n:Str}{m:Nat}{ps:List Str}{f:Addr}{d:FuncData}(P:Program)(w:World)(base:Heap)(_:FM K mg n m ps f d)(k:Nat)(sp:Sp):Prop:=z0 P w K mg base S3 k f d ps sp
abbrev OG {K:qF}{mg:Str->Option Value}{n:Str}{m:Nat}{ps:List Str}{f:Addr}{d:FuncData}(P:Program)(w:World)(base:Heap)(_:FM K mg n m ps f d)(k:Nat)(sp:Sp):Prop:=z0 P w K mg base (F3 P w) k f d ps sp
abbrev ON {K:qF}{n q:Str}{m:Nat}{ps:List Str}{f:Addr}{d:FuncData}(P:Program)(w:World)(mg:Str->Option Value)(base:Heap)(_:FN K n q m ps f d)(k:Nat)(sp:Sp):Prop:=z0 P w K mg base S3 k f d ps sp
theorem o6 {X:Cx}{k n m:Nat}{f:Addr}{fd:FuncData}{ps:List Str}{sp:Sp}{x:Str}{e:Expr}{es:List Expr}{t:TA}{p pos:Pos}{M:FM X.K X.mg x m ps f fd}(F:OF X.prog X.w X.base M k sp)(hr:x8 n X.A)(ha:PA X (e :: es) t)(le:k<=n:=by first | decide | omega)(hg:Gl X x:=by rfl)(hdb:(x==("__debug__" : Str))=false:=by decide)
  (he:starEach (e :: es) X.env=(false,eval e X.env) :: starEach es X.env:=by rfl) (hpl:(backTo pos (starEach es X.env)).any (·.1)=false:=by rfl):PE X (.Call (.Name x p) (e :: es) [] pos) (cI sp [] E0 t):=eF F hr M ha le hg hdb he hpl
theorem B9 {K:qF}{H:Hp}{Q:VK}{p:Addr}{xs:List V}{v:V}(j:Nat)(s:m9 K H p xs)(q:Q v H)(a:xs[j]?=some v:=by rfl):aS K (.ref p) (.int (j:Int)) H Q:=W3 s (J0 a) q
theorem cE {K:qF}{H:Hp}{Q:VK}{p:Addr}{xs:List V}{v:V}(j:Nat)(s:d0 K H p xs)(q:Q v H)(a:xs[j]?=some v:=by rfl):kH K (.ref p) (.int (j:Int)) H Q:=M8 s (J0 a) q
theorem D6 {n:Nat}{A:Prop}(q:A)(h:n.ble 999=true:=by rfl):n<=sizeLine/\A:=⟨Nat.le_of_lt (F1 (Nat.le_succ_of_le (Nat.le_of_ble_eq_true h))),q⟩
theorem B2 {k n:Nat}{A:Around}(h:x8 n A)(le:k<=n:=by first | decide | omega):x8 k A:=h.mono le
section
variable {X:Cx} {a e:Expr} {ta te:TE} {i:Int} {j:Nat} {p q pos pos':Pos} {x:Str} {es:List Expr} {t:TA}
theorem xT (h:PE X a ta):PE X (a.Subscript (.Constant (.int i) j p) q) (R5 (aS X.K) ta (tC (.int i))):=F8 C8 h c8 (λ_ _=>rfl)
theorem xL (h:PE X a ta):PE X (a.Subscript (.Constant (.int i) j p) q) (R5 (kH X.K) ta (tC (.int i))):=F8 j9 h c8 (λ_ _=>rfl)
theorem p0 (n:Nat)(hN:X.N.Nodup)(he:PE X e te)(hi:X.N[n]?=some x:=by rfl)(hx:fK X.env.scope x:=by exact Or.inl rfl)(hs:swapsWith e (some (.Name x pos')) pos.line X.env=pure false:=by rfl)(hf:X.fn x=true∨X.env.scope.names.lookup x=some .local:=by first | exact .inl rfl | exact .inr rfl | assumption):PS X (.Assign [.Name x pos'] e pos) (bY te (G9 n)):=rL hN hi hx he hs hf
theorem U7 (n:Nat)(hN:X.N.Nodup)(hi:X.N[n]?=some x:=by rfl)(hx:fK X.env.scope x:=by exact Or.inl rfl)(hf:X.fn x=true∨X.env.scope.names.lookup x=some .local:=by first | exact .inl rfl | exact .inr rfl | assumption):PG X (.Name x pos) (G9 n):=eV hN hi hx hf
theorem O6 (n:Nat)(hi:X.N[n]?=some x:=by rfl)(hN:X.N.Nodup:=by dsimp only[U8];decide)(hx:fK X.env.scope x:=by exact Or.inl rfl)(hf:X.fn x=true∨X.env.scope.names.lookup x=some .local:=by first | exact .inl rfl | exact .inr rfl | assumption):PG X (.Name x pos) (G9 n):=eV hN hi hx hf
abbrev pln (Z:X.mg "len"=none)(ha:PA X (e :: es) t)(he:starEach (e :: es) X.env=(false,eval e X.env) :: starEach es X.env:=by rfl)(hl:((backTo pos (starEach es X.env)).any λx=>x.fst)=false:=by rfl)(hg:Gl X "len":= by rfl):=z8 (p:=p) (pos:=pos) NQ hg Z PySem.boot_len ha (by decide) (by decide) he hl
end
abbrev U1 {X:Cx}{o e:Expr}{es:List Expr}{to:TE}{t:TA}{apos cpos:Pos}:=@lZ X o e es to t _ apos cpos _ _ _ F.plainAttrs_list F.slot_list_append F.type_list_append ju
abbrev Ym {X:Cx}{o e:Expr}{es:List Expr}{to:TE}{t:TA}{apos cpos:Pos}:=@lZ X o e es to t _ apos cpos _ _ _ F.plainAttrs_str F.slot_str_join F.type_str_join ypj
abbrev XQ {X:Cx}{o e:Expr}{es:List Expr}{to:TE}{t:TA}{apos cpos:Pos}:=@lZ X o e es to t _ apos cpos _ _ _ F.plainAttrs_list F.slot_list_extend F.type_list_extend ykm
abbrev NX {X:Cx}{o e:Expr}{es:List Expr}{to:TE}{t:TA}{apos cpos:Pos}:=@lZ X o e es to t _ apos cpos _ _ _ F.plainAttrs_list F.slot_list_count F.type_list_count ymk
abbrev Yn {X:Cx}{o e:Expr}{es:List Expr}{to:TE}{t:TA}{apos cpos:Pos}:=@lZ X o e es to t _ apos cpos _ _ _ F.plainAttrs_list F.slot_list_index F.type_list_index ylF
end KW
namespace KW
open PySem L2
seal PE PS U4 PT PW PA PG nL PI gL
local macro_rules | `(tactic| walk_at "rd") => `(tactic| simp only [wY, jG, oJ, nD, vW, uI, tJ, vZ, cM, rJ, tB, nQ, O3, Z8, D7, tC, R5, pF, oV, cI, jH, oP, mR, hV, iI, sJ, yO, tH, vX, bY, G9, fZ, aR, gB, wP, sD, rI, Z1, rU, kB, uR, vD, kH, aS, xH, nV, mD, oM, Kb, pN, jd, lD, wB, lW, pZ, lJ, vB, tW, vU, w_, Vz, W_, yA, Zx, Xp, xo, qe, lM, uS, rE, Zt, uG, dY, tQ, xQ, wM, yn2, ymm, yoK, Gf, yok, ymq, ynV, ylj, L2.B6, List.map_cons, List.map_nil, List.length_cons, List.length_nil, List.replicate, List.cons_append, List.nil_append, List.append_nil, List.getElem?_cons_zero, List.getElem?_cons_succ, List.set_cons_zero, List.set_cons_succ, Nat.reduceAdd, Nat.reduceSub, Option.some.injEq, List.cons.injEq, and_true, true_and, exists_eq_left', exists_eq_left, exists_eq_right, exists_eq_right', V.ty.injEq, V.int.injEq, V.bl.injEq, V.str.injEq, V.ref.injEq, and_assoc, exists_and_left, reduceCtorEq, false_and, and_false, exists_false, or_false, false_or, Bool.not_eq_true', Bool.false_eq_true, if_false, if_true, Bool.not_true, Bool.not_false, decide_eq_true_eq, decide_eq_false_iff_not, Bool.or_eq_true, Bool.and_eq_true, Int.reduceLT, Int.reduceNeg])
local macro_rules | `(tactic| left) => `(tactic| repeat (first | (with_reducible first | refine x4 ?_ | refine D8 ?_ | refine M9 ?_ | refine Q5 ?_ | refine iE ?_ | refine W1 ?_ | refine dP ?_ | refine n6 ?_ | refine jq ?_ | refine rW ?_ | refine A2 ?_ | refine E8 ?_ | refine M0 ?_ | refine dN ?_ | refine j_ ?_ | refine qX ?_ | refine fD ?_ | refine xI ?_ | refine F9 ?_ | refine yu2 ?_ | refine i_U ?_ | refine yu5 ?_ | refine oS ?_ | refine uM ?_ | refine YQ ?_ | refine lN ?_ | refine aE ?_ | refine v9 ?_ | refine t7 ?_ | refine vJ ?_ | refine ysP ?_ | refine yub ?_ | refine xK ?_ | refine i_itt ?_ | refine yuq ?_ | refine R_ ?_ | refine Zh ?_ | refine Vc ?_ | refine yqZ ?_ | refine pY ?_ | refine c_ ?_ | refine yug ?_ | refine tD ?_ | refine DX ?_ | refine uO ?_ | refine yqR ?_ | refine i_dg ?_ | refine Yg ?_ | refine jT (.inl (by decide)) ?_ | refine jT (.inr (by decide)) ?_ | refine ysA (by with_unfolding_all rfl) ?_ | refine pO (by decide) ?_ | refine Vs (by decide) ?_ | refine Gr ?_ | refine E9 (by with_unfolding_all rfl) ?_ | refine yF ?_ | refine uV ?_) | dsimp only))
set_option hygiene false in
local macro_rules | `(tactic| infer_instance) => `(tactic| first | (obtain ⟨rfl, _⟩ := h; rfl) | (obtain ⟨_, h⟩ := h; infer_instance))
set_option hygiene false in
local macro_rules | `(tactic| o_head ($a, $b)) => `(tactic| (refine ($a).ok $b (fun vs H Q E h => ?_) (fun _ _ _ _ H vs Q E hr h => ?_); (· infer_instance); have hu := eR hr))
set_option hygiene false in
local macro_rules | `(tactic| o_head [$a, $b]) => `(tactic| (refine ($a).okG $b (fun vs H Q E h => ?_) (fun _ _ _ _ H vs Q E hr h => ?_); (· infer_instance); have hu := eR hr))
local macro_rules | `(tactic| ac_rfl) => `(tactic| decide +kernel)
set_option hygiene false in
local macro_rules | `(tactic| exfalso) => `(tactic| repeat (first | assumption | exact lv_n | exact lv_c rfl | refine lv_s ?_ ?_ | exact lv_d | exact lv_u rfl | refine lv_l ?_ (Nat.le_of_ble_eq_true rfl) | refine lv_t ?_ (Nat.le_of_ble_eq_true rfl) | exact lv_1 (by assumption) | refine lv_tupOf ?_ rfl | refine lv_rep _ ?_ (by decide) (by decide) | refine lv_cat ?_ ?_ (by decide) | refine lv_catT ?_ ?_ (by decide) (by decide) (by decide) | refine lv_slT 2 ?_ (by decide) | refine lv_slD 3 ?_ (by decide) (by decide) | exact ln_n | refine ln_s ?_ ?_ | exact ln_c rfl | refine ln_l ?_ (by decide) | refine ln_t ?_ (by decide)))
section
variable {P:Program} {w:World} {K:qF} {mg:Str->Option Value} {base:Heap} {t:Ad} (T:Txt K mg t)
theorem S6 {n:Nat}(h:n<=1000):n<=sizeLine:=Nat.le_of_lt (F1 h)
theorem O5 {H H':Hp}{D:Addr}{o:HO}(hD:H D=none)(sm:b9 H H'):b9 H (upd H' D o):=λb u hb=>by
 rw[u6 (G8 hb hD)];exact sm _ _ hb
inductive Th where
 | im (v:V) | ls (ts:List Th) | tp (ts:List Th) | dk
def gM:V->Bool
 | .non=>true
 | .bl _=>true
 | .int _=>true
 | .str _=>true
 | _=>false
mutual
def Is (H:Hp):V->Th->Prop
 | x,.im v=>x=v/\gM v=true
 | x,.ls ts=>∃ a xs,x=.ref a/\H a=some (.lst xs)/\Iss H xs ts
 | x,.tp ts=>∃ a xs,x=.ref a/\H a=some (.tup xs)/\Iss H xs ts
 | x,.dk=>∃ a kvs,x=.ref a/\H a=some (.dK kvs)
def Iss (H:Hp):List V->List Th->Prop
 | xs,[]=>xs=[]
 | xs,t :: ts=>∃ x r,xs=x :: r/\Is H x t/\Iss H r ts
end
mutual
theorem Is.same {H H':Hp}(s:b9 H H'):∀ {v:V} {t:Th},Is H v t->Is H' v t
 | v,.im w,h=>by rw[Is] at h |-;exact h
 | v,.ls ts,h=>by
  rw[Is] at h |-;obtain⟨a,xs,e,q,r⟩:=h;exact⟨a,xs,e,s _ _ q,Iss.same s r⟩
 | v,.tp ts,h=>by
  rw[Is] at h |-;obtain⟨a,xs,e,q,r⟩:=h;exact⟨a,xs,e,s _ _ q,Iss.same s r⟩
 | v,.dk,h=>by
  rw[Is] at h |-;obtain⟨a,xs,e,q⟩:=h;exact⟨a,xs,e,s _ _ q⟩
theorem Iss.same {H H':Hp}(s:b9 H H'):∀ {xs:List V} {ts:List Th},Iss H xs ts->Iss H' xs ts
 | xs,[],h=>by rw[Iss] at h |-;exact h
 | xs,t :: ts,h=>by
  rw[Iss] at h |-;obtain⟨x,r,e,q,z⟩:=h;exact⟨x,r,e,Is.same s q,Iss.same s z⟩
end
theorem Iss.len {H:Hp}:∀ {xs:List V} {ts:List Th},Iss H xs ts->xs.length=ts.length
 | xs,[],h=>by rw[Iss] at h;rw[h];rfl
 | xs,t :: ts,h=>by
  rw[Iss] at h;obtain⟨x,r,rfl,q,z⟩:=h;rw[qC,qC,Iss.len z]
theorem Iss.app {H:Hp}:∀ {xs ys:List V} {ts us:List Th},Iss H xs ts->Iss H ys us->Iss H (xs++ys) (ts++us)
 | xs,ys,[],us,h,g=>by rw[Iss] at h;rw[h];exact g
 | xs,ys,t :: ts,us,h,g=>by
  rw[Iss] at h;obtain⟨x,r,rfl,q,z⟩:=h;rw[List.cons_append,List.cons_append,Iss];exact⟨x,_,rfl,q,Iss.app z g⟩
theorem Iss.at' {H:Hp}:∀ {xs:List V} {ts:List Th} (j:Nat) (h:Iss H xs ts) (hj:j < ts.length),∃ x,xs[j]?=some x/\Is H x ts[j]
 | xs,t :: ts,0,h,_=>by
  rw[Iss] at h;obtain⟨x,r,rfl,q,z⟩:=h;exact⟨x,rfl,q⟩
 | xs,t :: ts,j+1,h,hj=>by
  rw[Iss] at h;obtain⟨x,r,rfl,q,z⟩:=h;obtain⟨y,e,i⟩:=Iss.at' j z (by simpa using hj);exact⟨y,by rw[List.getElem?_cons_succ];exact e,by rw[List.getElem_cons_succ];exact i⟩
def kT:Th->aN
 | .im .non=>.non
 | .im (.bl _)=>.bl
 | .im (.int _)=>.int
 | .im (.str _)=>.str
 | .im _=>.non
 | .ls _=>.lst
 | .tp _=>.tup
 | .dk=>.dct
theorem Is.knd {H:Hp}{x:V}{tr:Th}(h:Is H x tr):x6 H x (kT tr):=by
 cases tr with
 | im v=>
  rw[Is] at h;obtain⟨rfl,h⟩:=h;cases x<;>first | exact .non | exact .bl _ | exact .int _ | exact .str _ | cases h
 | ls ts=>rw[Is] at h;obtain⟨a,xs,rfl,e,_⟩:=h;exact .lst e
 | tp ts=>rw[Is] at h;obtain⟨a,xs,rfl,e,_⟩:=h;exact .tup e
 | dk=>rw[Is] at h;obtain⟨a,xs,rfl,e⟩:=h;exact .dct e
theorem Iss.knd {H:Hp}:∀ {xs:List V} {ts:List Th},Iss H xs ts->∀ y∈xs,∃ t∈ts,Is H y t
 | xs,[],h,y,hy=>by rw[Iss] at h;rw[h] at hy;cases hy
 | xs,t :: ts,h,y,hy=>by
  rw[Iss] at h;obtain⟨x,r,rfl,q,z⟩:=h;rcases List.mem_cons.mp hy with rfl | hy
  ·exact⟨t,List.mem_cons_self,q⟩
  ·obtain⟨u,hu,i⟩:=Iss.knd z y hy;exact⟨u,List.mem_cons_of_mem _ hu,i⟩
def nT (i:Int):Th:=.im (.int i)
theorem Iss.ints {H:Hp}:∀ {ns:List Int} {xs:List V},Iss H xs (ns.map nT)->xs=ns.map V.int
 | [],xs,h=>by rw[List.map_nil,Iss] at h;rw[h];rfl
 | n :: ns,xs,h=>by
  rw[List.map_cons,Iss] at h;obtain⟨x,r,rfl,i,z⟩:=h;rw[nT,Is] at i;rw[i.1,Iss.ints z];rfl
theorem qW (xs:List V)(k:Nat)(h:k<=xs.length):O0 xs none (some (k:Int))=xs.take k:=by
 unfold O0;rw[HT.sIx_none,HT.sIx_nat,Nat.min_eq_left h];simp
theorem nW (xs:List V)(k:Nat)(h:k<=xs.length):O0 xs (some (k:Int)) none=xs.drop k:=by
 unfold O0;rw[HT.sIx_none,HT.sIx_nat,Nat.min_eq_left h];exact List.take_of_length_le (by rw[List.length_drop];exact qR _)
theorem Iss.take {H:Hp}:∀ {xs:List V} {ts:List Th} (k:Nat),Iss H xs ts->Iss H (xs.take k) (ts.take k)
 | xs,ts,0,_=>by rw[List.take_zero,List.take_zero,Iss]
 | xs,[],k+1,h=>by rw[Iss] at h;rw[h,List.take_nil,List.take_nil,Iss]
 | xs,t :: ts,k+1,h=>by
  rw[Iss] at h;obtain⟨x,r,rfl,i,z⟩:=h;rw[List.take_succ_cons,List.take_succ_cons,Iss];exact⟨x,_,rfl,i,Iss.take k z⟩
theorem Iss.drop {H:Hp}:∀ {xs:List V} {ts:List Th} (k:Nat),Iss H xs ts->Iss H (xs.drop k) (ts.drop k)
 | xs,ts,0,h=>by rw[List.drop_zero,List.drop_zero];exact h
 | xs,[],k+1,h=>by rw[Iss] at h;rw[h,List.drop_nil,List.drop_nil,Iss]
 | xs,t :: ts,k+1,h=>by
  rw[Iss] at h;obtain⟨x,r,rfl,i,z⟩:=h;rw[List.drop_succ_cons,List.drop_succ_cons];exact Iss.drop k z
def rm (H:Hp)(c:Addr):Hp:=λb=>if b=c then none else H b
def fr (H H':Hp):Hp:=λb=>if H b=none then H' b else none
theorem cD {H:Hp}{b c:Addr}(h:b≠c):rm H c b=H b:=by unfold rm;rw[if_neg h]
theorem yU {H:Hp}{c:Addr}:rm H c c=none:=by unfold rm;rw[if_pos rfl]
theorem iP {H:Hp}{b c:Addr}{u:HO}(h:rm H c b=some u):b≠c/\H b=some u:=by
 by_cases z:b=c
 ·rw[z,yU] at h;cases h
 ·exact⟨z,by rw[cD z] at h;exact h⟩
theorem L5 {H H':Hp}{b:Addr}(h:H b=none):fr H H' b=H' b:=by unfold fr;rw[if_pos h]
theorem N5 {H H':Hp}{b:Addr}{u:HO}(h:fr H H' b=some u):H b=none/\H' b=some u:=by
 by_cases z:H b=none
 ·exact⟨z,by rw[L5 z] at h;exact h⟩
 ·unfold fr at h;rw[if_neg z] at h;cases h
theorem wQ (H:Hp)(c:Addr):b9 (rm H c) H:=λb u h=>(iP h).2
theorem K5 (H H':Hp):b9 (fr H H') H':=λb u h=>(N5 h).2
theorem J6 {H H1 H2:Hp}(s:b9 H1 H2):b9 (fr H H1) (fr H H2):=λb u h=>by
 obtain⟨n,e⟩:=N5 h;rw[L5 n];exact s _ _ e
theorem qQ {H H1 H2:Hp}(s:b9 H H1):b9 (fr H1 H2) (fr H H2):=λb u h=>by
 obtain⟨n,e⟩:=N5 h;rw[L5 (s.free n)];exact e
theorem fM {H H':Hp}{c:Addr}(s:∀ b u,b≠c->H b=some u->H' b=some u):b9 (rm H c) (rm H' c):=λb u h=>by
 obtain⟨n,e⟩:=iP h;rw[cD n];exact s b u n e
theorem rQ (H:Hp):∀ ns:List Int,Iss H (ns.map V.int) (ns.map nT)
 | []=>by rw[List.map_nil,List.map_nil,Iss]
 | n :: ns=>by
  rw[List.map_cons,List.map_cons,Iss];exact⟨_,_,rfl,by rw[nT,Is];exact⟨rfl,rfl⟩,rQ H ns⟩
theorem B5 {H:Hp}{v:V}(h:gM v=true):Is H v (.im v):=by rw[Is];exact⟨rfl,h⟩
theorem M5 (H:Hp)(i:Int):Is H (.int i) (nT i):=B5 rfl
theorem J7 (H:Hp):Iss H [] []:=by rw[Iss]
theorem A9 {H:Hp}{x:V}{xs:List V}{tr:Th}{ts:List Th}(a:Is H x tr)(b:Iss H xs ts):Iss H (x :: xs) (tr :: ts):=by rw[Iss];exact⟨x,xs,rfl,a,b⟩
theorem E3 {H:Hp}{a:Addr}{xs:List V}{ts:List Th}(e:H a=some (.lst xs))(h:Iss H xs ts):Is H (.ref a) (.ls ts):=by rw[Is];exact⟨a,xs,rfl,e,h⟩
theorem aK {H:Hp}{a:Addr}{xs:List V}{ts:List Th}(e:H a=some (.tup xs))(h:Iss H xs ts):Is H (.ref a) (.tp ts):=by rw[Is];exact⟨a,xs,rfl,e,h⟩
theorem nM {H H4:Hp}{D:Addr}{o:HO}:b9 (rm (fr H H4) D) (rm (fr H (upd H4 D o)) D):=λb u h=>by
 obtain⟨n,e⟩:=iP h;obtain⟨n2,e2⟩:=N5 e;rw[cD n,L5 n2,u6 n];exact e2
section
variable {C:St->Hp->Prop}
end
def eN (i:Int):L2.Tr:=.vl (.int i)
theorem c9.trans {c:Addr}{H H1 H2:Hp}(a:c9 c H H1)(b:c9 c H1 H2):c9 c H H2:=λd u n e=>b d u n (a d u n e)
theorem Uh {c:Addr}{H H1:Hp}{o:HO}(a:c9 c H H1):c9 c H (upd H1 c o):=λd u n e=>by rw[u6 n];exact a d u n e
theorem rO {c f:Addr}{H H1:Hp}{o:HO}(a:c9 c H H1)(hf:H f=none):c9 c H (upd H1 f o):=λd u n e=>by rw[u6 (G8 e hf)];exact a d u n e
def BJ (c:Int):Prop:=Builtin.Int.intBits c<=2 ^ 20
theorem yn9 {tp p:Addr}{H H':Hp}{o:HO}(s:c9 tp H H')(ht:H' tp=some o)(hp:H' p=none):H p=none:=by
 cases e:H p with
 | none=>rfl
 | some u=>
  have n:p≠tp:=λz=>by rw[z,ht] at hp;cases hp
  rw[s p u n e] at hp;cases hp
theorem yve {tp:Addr}{H H' H'':Hp}{o:HO}(ht:H tp=some o)(s:c9 tp H' H''):b9 (fr H H') (fr H H''):=λb u h=>by
 obtain⟨n,e⟩:=N5 h;rw[L5 n];exact s b u (λz=>by rw[z,ht] at n;cases n) e
def jz:Sp:=λ_ _ _ _=>False
theorem never {k:Nat}{f:Addr}{fd:FuncData}{qs:List Str}:z0 P w K mg base S3 k f fd qs jz:=⟨λ_ _ _ _ h=>h.elim,λ_ _ _ _ _ _ _ _ _ _ _ _ _ h=>h.elim⟩
theorem h1 {n:Nat}(h:n+64 < cLine):n+1 < cLine:=Nat.lt_of_le_of_lt (by omega) h
def Z3 (H:Hp)(tp:Addr)(N:Nat):Prop:=∃ n:Nat,n<=N/\H tp=some (.lst [.int n])
def kQ (K:qF)(a tp:Addr)(ns:List Int)(H:Hp):Prop:=∃ Hs,d0 K Hs a (ns.map V.int)/\Hs tp=none/\b9 Hs H
theorem kQ.sq {a tp:Addr}{ns:List Int}{H:Hp}(h:kQ K a tp ns H):d0 K H a (ns.map V.int):=by
 obtain⟨Hs,h1,_,s⟩:=h;exact s.seq h1
theorem kQ.sameT {a tp:Addr}{ns:List Int}{H H':Hp}(h:kQ K a tp ns H)(s:c9 tp H H'):kQ K a tp ns H':=by
 obtain⟨Hs,h1,h2,sm⟩:=h;exact⟨Hs,h1,h2,λb u e=>s b u (G8 e h2) (sm b u e)⟩
theorem Z3.same {tp:Addr}{N:Nat}{H H':Hp}(h:Z3 H tp N)(s:b9 H H'):Z3 H' tp N:=by
 obtain⟨n,l,e⟩:=h;exact⟨n,l,s _ _ e⟩
theorem Z3.up {tp:Addr}{N M:Nat}{H:Hp}(h:Z3 H tp N)(l:N<=M):Z3 H tp M:=by
 obtain⟨n,l',e⟩:=h;exact⟨n,by omega,e⟩
theorem yiB {tp:Addr}{H:Hp}{o:HO}:c9 tp H (upd H tp o):=Uh λb u _ e=>e
def yt8 (ns:List Int):Prop:=∀ v∈ns,BJ v
theorem qy {H:Hp}:∀ {xs:List V} {ts:List Th},xs.length=ts.length->(∀ (j:Nat) (u:Th),ts[j]?=some u->∃ x,xs[j]?=some x/\Is H x u)->Iss H xs ts
 | [],[],_,_=>J7 H
 | x :: xs,t :: ts,hl,h=>by
  obtain⟨y,e,i⟩:=h 0 t rfl;cases e;refine A9 i (qy (by simpa using hl) λj u hj=>?_);obtain⟨z,e,i⟩:=h (j+1) u (by rw[List.getElem?_cons_succ];exact hj);exact⟨z,by rw[List.getElem?_cons_succ] at e;exact e,i⟩
 | [],_ :: _,hl,_=>nomatch hl
 | _ :: _,[],hl,_=>nomatch hl
def nw (Hs H H':Hp):Hp:=λb=>if H b=none then H' b else Hs b
theorem A4 {Hs H H':Hp}{b:Addr}(h:H b=none):nw Hs H H' b=H' b:=by unfold nw;rw[if_pos h]
theorem J9 {Hs H H':Hp}{b:Addr}{u:HO}(h:H b=some u):nw Hs H H' b=Hs b:=by unfold nw;rw[if_neg (by rw[h];simp)]
theorem B7 {Hs H H':Hp}(a:b9 Hs H)(b:b9 H H'):b9 (nw Hs H H') H':=λc u e=>by
 cases h:H c with
 | none=>rw[A4 h] at e;exact e
 | some v=>rw[J9 h] at e;exact b _ _ (a _ _ e)
theorem Y0 {Hs H H':Hp}(a:b9 Hs H):b9 Hs (nw Hs H H'):=λc u e=>by rw[J9 (a _ _ e)];exact e
theorem L6 {Hs H H' H'':Hp}(s:b9 H' H''):b9 (nw Hs H H') (nw Hs H H''):=λc u e=>by
 cases h:H c with
 | none=>rw[A4 h] at e |-;exact s _ _ e
 | some v=>rw[J9 h] at e |-;exact e
theorem wE {Hs H H1 H2:Hp}(s:b9 H H1)(s2:b9 H1 H2):b9 (nw (nw Hs H H1) H1 H2) (nw Hs H H2):=λc u e=>by
 cases h:H c with
 | none=>
  rw[A4 h];cases h1:H1 c with
  | none=>rw[A4 h1] at e;exact e
  | some v=>rw[J9 h1,A4 h] at e;exact s2 _ _ e
 | some v=>rw[J9 h];rw[J9 (s _ _ h),J9 h] at e;exact e
def Al {α:Type}(S:V->α->Prop)(xs:List V)(us:List α):Prop:=xs.length=us.length/\∀ i (h:i < us.length),∃ x,xs[i]?=some x/\S x us[i]
section
variable {α β:Type}
theorem Al.nil {S:V->α->Prop}:Al S [] []:=⟨rfl,λ_ h=>nomatch h⟩
theorem Al.imp {S S':V->α->Prop}{xs:List V}{us:List α}(h:Al S xs us)(k:∀ x u,u∈us->S x u->S' x u):Al S' xs us :=
 ⟨h.1,λi hi=>let ⟨x,e,s⟩:=h.2 i hi;⟨x,e,k _ _ (List.getElem_mem hi) s⟩⟩
theorem Al.snoc {S:V->α->Prop}{xs:List V}{us:List α}{x:V}{u:α}(h:Al S xs us)(s:S x u):Al S (xs++[x]) (us++[u]):=by
 refine⟨by rw[qA,qA,h.1];rfl,λi hi=>?_⟩;rw[qA,qS] at hi;by_cases e:i < us.length
 ·obtain⟨y,e1,e2⟩:=h.2 i e;exact⟨y,by rw[List.getElem?_append_left (by rw[h.1];exact e)];exact e1,by rw[List.getElem_append_left e];exact e2⟩
 ·have:i=us.length:=by omega
  subst this;refine⟨x,by rw[List.getElem?_append_right (by rw[h.1];exact qR _),h.1];simp,by simpa using s⟩
theorem Z0 {S:V->α->Prop}{xs:List V}{us:List α}{i:Nat}{x:V}(h:Al S xs us)(e:xs[i]?=some x):∃ h:i < us.length,S x us[i]:=by
 have l:i < us.length:=by have:=(qE e).1;rw[h.1] at this;exact this
 obtain⟨y,e',r⟩:=h.2 i l;rw[e] at e';cases e';exact⟨l,r⟩
theorem T5 {H:Hp}{f:α->Th}:∀ {xs:List V} {us:List α},Iss H xs (us.map f)->Al (λx u=>Is H x (f u)) xs us:=λ{xs us} h =>
 ⟨by rw[h.len,qM],λi hi=>by
  obtain⟨x,e,s⟩:=h.at' i (by rw[qM];exact hi);rw[List.getElem_map] at s;exact⟨x,e,s⟩⟩
theorem bX {H:Hp}{f:α->Th}{xs:List V}{us:List α}(h:Al (λx u=>Is H x (f u)) xs us):Iss H xs (us.map f):=by
 refine qy (by rw[qM,h.1]) λj u e=>?_
 rw[qm] at e;have hj:j < us.length:=by
  cases z:us[j]? with
  | none=>rw[z] at e;cases e
  | some v=>exact(qE z).1
 rw[qG hj] at e;obtain⟨x,e1,s⟩:=h.2 j hj;cases e;exact⟨x,e1,s⟩
def cW (R:Hp->V->α->Prop):Prop:=∀ {H H':Hp} {x:V} {u:α},b9 H H'->R H x u->R H' x u
theorem ylG {f:α->Th}:cW (λH x u=>Is H x (f u)):=λs h=>h.same s
theorem yop {K:qF}{a D:Addr}{xs:List V}{us:List α}{te:TE}{Fin:Hp->Prop}{o:Option V}{r:St}{H Hs:Hp}{R:Hp->V->α->Prop}{S:Hp->V->β->Prop}(hR:cW R)(hS:cW S)(f:α->β)
  (sH:b9 Hs H) (ha:H a=some (.lst xs)) (al:Al (R Hs) xs us) (hD:H D=none) (hz:us.length<=900)
  (hte:∀ x u (H' Hs':Hp) (Q':VK),u∈us->b9 Hs Hs'->b9 H H'->b9 Hs' H'->R Hs' x u->(∀ y H'',b9 H' H''->S (nw Hs' H' H'') y (f u)->Q' y H'')->te (some x :: r) H' Q')
  (fin:∀ ys H',b9 H H'->H' D=some (.lst ys)->Al (S (nw Hs H (rm H' D))) ys (us.map f)->Fin H') :
  ∃ W:Nat->Nat->St->Hp->Prop,(∃ m,W 0 m (o :: r) (upd H D (.lst [])))/\T9 (V9 K a) (G9 0) Y4 te D Fin W:=by
 refine iH (xs:=xs) (λi σ' H'=>(∃ o,σ'=o :: r)/\b9 H H'/\∃ ys,H' D=some (.lst ys)/\Al (S (nw Hs H (rm H' D))) ys ((us.take i).map f)) ⟨⟨_,rfl⟩,m8 hD _,[],f9,Al.nil⟩ (λ_ _ _ _ h=>d0.of (h.2.1 _ _ ha)) ?_ ?_
 ·rintro i x σ' H' N hN hx ⟨⟨o,rfl⟩,sm,ys,hd,as⟩;obtain⟨hi,rx⟩:=Z0 al hx;refine A2 (aE (v9 ?_));have s1:b9 Hs (nw Hs H (rm H' D)):=Y0 sH;have s2:b9 (nw Hs H (rm H' D)) H':=λc u e=>by
   cases h:H c with
   | none=>rw[A4 h] at e;exact(iP e).2
   | some v=>rw[J9 h] at e;exact sm _ _ (sH _ _ e)
  refine hte x us[i] H' _ _ (List.getElem_mem hi) s1 sm s2 (hR s1 rx) λy H2 t2 sy=>⟨ys,t2 _ _ hd,?_,hN _ _ ⟨⟨_,rfl⟩,O5 hD (sm.trans t2),_,f9,?_⟩⟩
  ·rw[as.1,qM,qT];exact F1 (by omega)
  ·have up:b9 (nw (nw Hs H (rm H' D)) H' H2) (nw Hs H (rm (upd H2 D (.lst (ys++[y]))) D)):=λc u e=>by
    have key:∀ {u},H2 c=some u->c≠D->H c=none->nw Hs H (rm (upd H2 D (.lst (ys++[y]))) D) c=some u:=λe n h=>by rw[A4 h,cD n,u6 n];exact e
    cases h1:H' c with
    | none=>
     rw[A4 h1] at e;exact key e (λz=>by rw[z,hd] at h1;cases h1) (sm.free h1)
    | some v=>
     rw[J9 h1] at e;cases h:H c with
     | none=>
      rw[A4 h] at e;obtain⟨n,e⟩:=iP e;exact key (t2 _ _ e) n h
     | some w=>rw[J9 h] at e |-;exact e
   rw[List.take_succ_eq_append_getElem hi,qP];refine Al.snoc (as.imp λ_ _ _ z=>hS ?_ z) (hS up sy);exact λc u e=>up c u (Y0 s2 _ _ e)
 ·rintro σ' H' ⟨_,sm,ys,hd,as⟩;rw[al.1,List.take_length] at as;exact fin ys H' sm hd as
end
def bK (te:TE)(tr:Th):Prop:=∀ σ H Q,(∀ x H',b9 H H'->Is (fr H H') x tr->Q x H')->te σ H Q
def mP (ta:TA)(ts:List Th):Prop:=∀ σ H Q,(∀ xs H',b9 H H'->Iss (fr H H') xs ts->Q xs H')->ta σ H Q
theorem ln_c {v:V}(h:gM v=true):bK (tC v) (.im v):=fun σ H Q q=>q v H (b9.refl H) (B5 h)
theorem ln_n:mP Z8 []:=fun σ H Q q=>q _ _ (b9.refl H) (J7 _)
theorem ln_s {ta:TE}{tr:TA}{t:Th}{ts:List Th}(a:bK ta t)(b:mP tr ts):mP (O3 ta tr) (t :: ts):=fun σ H Q q =>
 a σ H _ λx H1 s1 i1=>b σ H1 _ λxs H2 s2 i2=>q _ _ (s1.trans s2) (A9 (i1.same (J6 s2)) (i2.same (qQ s1)))
theorem E_ {H H1:Hp}{p:Addr}{o:HO}(hp:H1 p=none):b9 (fr H H1) (fr H (upd H1 p o)):=J6 (m8 hp o)
theorem ln_t {tr:TA}{ts:List Th}(a:mP tr ts)(h:ts.length<=1000):bK (hV tr) (.tp ts):=fun σ H Q q=>a σ H _ λxs H1 s1 i1 =>
 ⟨S6 (by rw[i1.len];exact h),λp hp=>q _ _ (s1.trans (m8 hp _)) (aK (by rw[L5 (s1.free hp)];exact f9) (i1.same (E_ hp)))⟩
theorem ln_l {tr:TA}{ts:List Th}(a:mP tr ts)(h:ts.length<=1000):bK (iI tr) (.ls ts):=fun σ H Q q=>a σ H _ λxs H1 s1 i1 =>
 ⟨S6 (by rw[i1.len];exact h),λp hp=>q _ _ (s1.trans (m8 hp _)) (E3 (by rw[L5 (s1.free hp)];exact f9) (i1.same (E_ hp)))⟩
theorem Wo {v:V}(h:gM v=true):A3 (.vl v) (.vl v)=true:=by
 cases v with
 | non=>simp[A3,K9]
 | bl b=>cases b<;>simp[A3,K9]
 | int i=>simp[A3,K9]
 | str x=>simp[A3,K9]
 | _=>cases h
theorem yqg {K:qF}{H:Hp}{v:V}(h:gM v=true):A8 K H v (.vl v):=by
 rw[A8];refine⟨rfl,?_⟩;cases v<;>first | rfl | cases h
theorem U9 {x:V}{n:String}{k:aN}{H:Hp}{Q:VK}(h:x6 H x k)(q:Q (.bl (k.isA n)) H)(hn:cL n:=by unfold cL;decide):vD [x,.ty n] H Q:=⟨x,n,k,rfl,hn,h,q⟩
theorem uZ {a b c:Int}{ta tb tc:TE}{σ:St}{H:Hp}{Q:VK}(ha:∀ Q':VK,Q' (.int a) H->ta σ H Q')(hb:∀ Q':VK,Q' (.int b) H->tb σ H Q')(hc:∀ Q':VK,Q' (.int c) H->tc σ H Q')(q:Q (.bl (decide (a<=b/\b<=c))) H) :
  oV (Z1 λi j=>V.bl (decide (i<=j))) (Z1 λi j=>V.bl (decide (i<=j))) ta tb tc σ H Q:=by
 refine ha _ (hb _ (iE (n6 ?_)));by_cases h:a<=b
 ·rw[if_pos (by simpa using h)];refine hc _ (iE ?_);rw[show decide (b<=c)=decide (a<=b/\b<=c) by simp[h]];exact q
 ·rw[if_neg (by simpa using h)];rw[show decide (a<=b/\b<=c)=false by simp[h]] at q;exact q
theorem Gw {H:Hp}{D:Addr}{n:Nat}{Q:VK}(h:H D=some (.lst ((List.replicate n true).map V.bl)))(q:Q (.bl true) H):oM K [.ref D] H Q:=⟨D,_,rfl,d0.of h,by simpa using q⟩
section
variable {α:Type}
theorem eU {a D:Addr}{xs:List V}{us:List α}{te:TE}{Fin:Hp->Prop}{o:Option V}{r:St}{H:Hp}{R:V->α->Prop}(f:α->V)(ha:H a=some (.lst xs))(al:Al R xs us)(hD:H D=none)(hz:us.length<=900)
  (hte:∀ x u (H':Hp) (Q':VK),u∈us->b9 H H'->R x u->(∀ H'',b9 H' H''->Q' (f u) H'')->te (some x :: r) H' Q') (fin:∀ H',b9 H H'->H' D=some (.lst (us.map f))->Fin H') :
  ∃ W:Nat->Nat->St->Hp->Prop,(∃ m,W 0 m (o :: r) (upd H D (.lst [])))/\T9 (V9 K a) (G9 0) Y4 te D Fin W:=by
 refine iH (xs:=xs) (λi σ' H'=>(∃ o,σ'=o :: r)/\b9 H H'/\H' D=some (.lst ((us.take i).map f))) ⟨⟨_,rfl⟩,m8 hD _,f9⟩ (λ_ _ _ _ h=>d0.of (h.2.1 _ _ ha)) ?_ ?_
 ·rintro i x σ' H' N hN hx ⟨⟨o,rfl⟩,sm,hd⟩;obtain⟨hi,rx⟩:=Z0 al hx;refine A2 (aE (v9 (hte x us[i] H' _ (List.getElem_mem hi) sm rx λH2 t2=>⟨_,t2 _ _ hd,?_,hN _ _ ⟨⟨_,rfl⟩,O5 hD (sm.trans t2),?_⟩⟩)))
  ·rw[qM,qT];exact F1 (by omega)
  ·rw[f9,List.take_succ_eq_append_getElem hi,qP];rfl
 ·rintro σ' H' ⟨_,sm,hd⟩;rw[al.1,List.take_length] at hd;exact fin H' sm hd
theorem qh {H:Hp}{D:Addr}{us:List α}{Q:VK}(h:H D=some (.lst (us.map λ_=>V.bl true)))(q:Q (.bl true) H):oM K [.ref D] H Q:=Gw (n:=us.length) (by rw[h,List.map_const',List.map_replicate]) q
end
mutual
def D9:Th->L2.Tr
 | .im v=>.vl v
 | .ls ts=>.ls (toTrs ts)
 | .tp ts=>.tp (toTrs ts)
 | .dk=>.vl .non
def toTrs:List Th->List L2.Tr
 | []=>[]
 | t :: ts=>D9 t :: toTrs ts
end
mutual
def G6:Th->Bool
 | .im v=>gM v
 | .ls ts=>cleans ts
 | .tp ts=>cleans ts
 | .dk=>false
def cleans:List Th->Bool
 | []=>true
 | t :: ts=>G6 t&&cleans ts
end
mutual
theorem Is.rep {H:Hp}:∀ {x:V} {tr:Th},G6 tr=true->Is H x tr->A8 K H x (D9 tr)
 | x,.im v,c,h=>by
  rw[Is] at h;rw[h.1,D9];exact yqg h.2
 | x,.ls ts,c,h=>by
  rw[Is] at h;obtain⟨a,xs,e,q,r⟩:=h;rw[D9,A8];exact⟨a,xs,e,d0.of q,Iss.rep (by rw[G6] at c;exact c) r⟩
 | x,.tp ts,c,h=>by
  rw[Is] at h;obtain⟨a,xs,e,q,r⟩:=h;rw[D9,A8];exact⟨a,xs,e,m9.of q,Iss.rep (by rw[G6] at c;exact c) r⟩
 | x,.dk,c,_=>by rw[G6] at c;cases c
theorem Iss.rep {H:Hp}:∀ {xs:List V} {ts:List Th},cleans ts=true->Iss H xs ts->Reps K H xs (toTrs ts)
 | xs,[],_,h=>by rw[Iss] at h;rw[toTrs,Reps];exact h
 | xs,t :: ts,c,h=>by
  rw[Iss] at h;obtain⟨x,r,e,q,z⟩:=h;rw[cleans,Bool.and_eq_true] at c;rw[toTrs,Reps];exact⟨x,r,e,Is.rep c.1 q,Iss.rep c.2 z⟩
end
mutual
theorem oQ:∀ {tr:Th},G6 tr=true->A3 (D9 tr) (D9 tr)=true
 | .im v,c=>by rw[D9];rw[G6] at c;exact Wo c
 | .ls ts,c=>by rw[D9];rw[G6] at c;exact eqs_self c
 | .tp ts,c=>by rw[D9];rw[G6] at c;exact eqs_self c
 | .dk,c=>by rw[G6] at c;cases c
theorem eqs_self:∀ {ts:List Th},cleans ts=true->eqTs (toTrs ts) (toTrs ts)=true
 | [],_=>rfl
 | t :: ts,c=>by
  rw[cleans,Bool.and_eq_true] at c;rw[toTrs];show(A3 (D9 t) (D9 t)&&eqTs (toTrs ts) (toTrs ts))=true
  rw[oQ c.1,eqs_self c.2];rfl
end
def S8 (tr:Th):Nat:=Y6 (D9 tr)
def gY (ts:List Th):Nat:=deps (toTrs ts)
theorem iN:∀ {ts:List Th},(∀ u∈ts,G6 u=true)->cleans ts=true
 | [],_=>rfl
 | t :: ts,h=>by rw[cleans,h t (by simp),iN λu hu=>h u (by simp[hu])];rfl
theorem gS {k:Nat}:∀ {ts:List Th},(∀ u∈ts,S8 u<=k)->gY ts<=k
 | [],_=>Nat.zero_le _
 | t :: ts,h=>by
  show max (S8 t) (gY ts)<=k
  have a:=h t (by simp);have b:=gS (ts:=ts) λu hu=>h u (by simp[hu])
  omega
theorem iY {ts:List Th}{k:Nat}(h:gY ts<=k):S8 (.ls ts)<=k+1:=by show deps (toTrs ts)+1<=k+1;exact Nat.succ_le_succ h
theorem eW {ts:List Th}{k:Nat}(h:gY ts<=k):S8 (.tp ts)<=k+1:=by show deps (toTrs ts)+1<=k+1;exact Nat.succ_le_succ h
theorem A6 {v:V}{k:Nat}:S8 (.im v)<=k:=by show Y6 (.vl v)<=k;rw[Y6];exact Nat.zero_le _
theorem eL {k:Nat}:gY []<=k:=Nat.zero_le _
theorem K8 {t:Th}{ts:List Th}{k:Nat}(a:S8 t<=k)(b:gY ts<=k):gY (t :: ts)<=k:=by show max (S8 t) (gY ts)<=k;omega
def bL (tr:Th):Prop:=G6 tr=true/\S8 tr<=60
theorem bJ {H:Hp}{x y:V}{tr tr':Th}{Q:VK}(a:bL tr)(b:bL tr')(ix:Is H x tr)(iy:Is H y tr')(q:Q (.bl (A3 (D9 tr) (D9 tr'))) H):nV K x y H Q:=⟨_,_,ix.rep a.1,iy.rep b.1,a.2,b.2,q⟩
theorem wV {H:Hp}{x y:V}{tr tr':Th}{Q:VK}(a:bL tr)(b:bL tr')(ix:Is H x tr)(iy:Is H y tr')(q:Q (.bl (!A3 (D9 tr) (D9 tr'))) H):mD K x y H Q:=⟨_,_,ix.rep a.1,iy.rep b.1,a.2,b.2,q⟩
theorem dZ {H:Hp}{x y:V}{tr:Th}{Q:VK}(a:bL tr)(ix:Is H x tr)(iy:Is H y tr)(q:Q (.bl true) H):nV K x y H Q:=bJ a a ix iy (by rw[oQ a.1];exact q)
theorem bE {H:Hp}{x y:V}{tr:Th}{Q:VK}(a:bL tr)(ix:Is H x tr)(iy:Is H y tr)(q:Q (.bl false) H):mD K x y H Q:=wV a a ix iy (by rw[oQ a.1];exact q)
theorem rX (ns:List Int):toTrs (ns.map nT)=ns.map eN:=by
 induction ns with
 | nil=>rfl
 | cons n ns ih=>rw[List.map_cons,toTrs,ih];rfl
theorem yQ:∀ ns ms:List Int,eqTs (ns.map eN) (ms.map eN)=decide (ns=ms)
 | [],[]=>rfl
 | [],_ :: _=>rfl
 | _ :: _,[]=>rfl
 | n :: ns,m :: ms=>by
  show(A3 (eN n) (eN m)&&eqTs (ns.map eN) (ms.map eN))=_
  rw[yQ ns ms,show A3 (eN n) (eN m)=decide (n=m) by simp[A3,eN,K9];rfl,Bool.eq_iff_iff];simp
theorem ymf (ns:List Int):bL (.tp (ns.map nT)):=⟨iN λu hu=>by obtain⟨n,_,rfl⟩:=List.mem_map.mp hu;rfl,eW (k:=59) (gS λu hu=>by obtain⟨n,_,rfl⟩:=List.mem_map.mp hu;exact A6)⟩
open TX
theorem ykl {α:Type}{l:List α}{i:Nat}{c:α}(h:l[i]?=some c):l.take (i+1)=l.take i++[c]:=by
 rw[List.take_succ,h];rfl
theorem UJ (w:Str):w.cps.toList.length=w.length:=by simp[Str.length]
def yli:Sp:=λvs H Q _=>∃ x y:Str,vs=[.str x,.str y]/\x.length<=1000/\∀ H',b9 H H'->Q (.bl (x.cps.toList.all λc=>decide (c∈y.cps.toList))) H'
theorem yr6:OF P w base T.Ri 1 yli:=by
 refine T.Ri.F.ok yrF (λvs H Q E h=>?_) (λ_ _ _ s' H vs Q E hr h=>?_)
 ·obtain⟨x,y,rfl,_⟩:=h;rfl
 obtain⟨x,y,rfl,hx,q⟩:=h;have hl:=UJ x;refine⟨_,(j0 (r6 (z8 (gA rfl) rfl T.JW gR (b7 (O9 (L0 (NB:=["sign","signs"]) (cap:=[none,some 1]) rfl) rfl (OJ (pv 0)) (λ_ _ _ _=>O6 0) (λ_ _ _ _=>L8) (λ_ _ _ _=>(N2 ykU (pv 0) (pv 1) rfl))) c6)))),?_⟩;refine⟨_,rfl,x,rfl,λD hD=>Uj (z:=x) (λi σ H'=>(∃ o,σ=[o,some (.str y)])/\b9 H H'/\H' D=some (.lst (((x.cps.toList.take i).map λc=>decide (c∈y.cps.toList)).map V.bl)))
  ⟨⟨_,rfl⟩,m8 hD _,f9⟩ ?_ ?_⟩
 ·rintro i c σ H' hc ⟨⟨o,rfl⟩,sm,hd⟩;have hi:i < x.cps.toList.length:=(qE hc).1;refine⟨_,rfl,_,rfl,_,_,rfl,rfl,_,hd,?_,⟨_,rfl⟩,O5 hD sm,?_⟩
  ·rw[qM,qM,qT];exact F1 (by omega)
  ·rw[f9,ykl hc,qP,qP];show some (HO.lst (_++[V.bl (!(Builtin.Str.occurrences y (one c) 0 (Str.length y) 1).isEmpty)]))=_
   rw[ypS];rfl
 ·rintro σ H' ⟨_,sm,hd⟩;refine⟨_,(x.cps.toList.map λc=>decide (c∈y.cps.toList)),rfl,d0.of ?_,?_⟩
  ·rw[hd,List.take_of_length_le (by rw[hl];exact qR _)]
  ·have e:(x.cps.toList.map λc=>decide (c∈y.cps.toList)).all id=x.cps.toList.all λc=>decide (c∈y.cps.toList):=by rw[List.all_map];rfl
   rw[e];exact q _ sm
def Ud:Sp:=λvs H Q _=>∃ x k,vs=[x]/\x6 H x k/\Q (.bl (decide (k=.int))) H
theorem wG:OF P w base T.QX 1 Ud:=by
 refine T.QX.F.ok yr3 (λvs H Q E h=>?_) (λ_ _ _ s H vs Q E hr h=>?_)
 ·obtain⟨x,k,rfl,_⟩:=h;rfl
 obtain⟨x,k,rfl,hk,q⟩:=h;refine⟨_,(j0 (r6 (N0 (z8 Q7 rfl T.Ja F2 (b7 (pv 0) (b7 (P4 rfl T.QJ Xd) c6))) (N6 (kW (z8 Q7 rfl T.Ja F2 (b7 (pv 0) (b7 (P4 rfl T.Qn rY) c6)))))))),?_⟩;walk_at "rd";refine⟨k,hk,?_⟩;cases k<;>simp only[reduceCtorEq,or_self,or_true,true_or,if_true,if_false]<;>first | exact q | exact⟨_,hk,q⟩
def yob:Sp:=λvs H Q _=>∃ x k lo hi,vs=[x,.int lo,.int hi]/\x6 H x k/\Q (.bl (T8 x lo hi)) H
theorem kC:OF P w base T.QN 2 yob:=by
 refine T.QN.F.ok ypR (λvs H Q E h=>?_) (λ_ _ _ s H vs Q E hr h=>?_)
 ·obtain⟨x,k,lo,hi,rfl,_⟩:=h;rfl
 obtain⟨x,k,lo,hi,rfl,hk,q⟩:=h;refine⟨_,(j0 (r6 (N0 (o6 (wG T) hr (b7 (pv 0) c6)) (N6 (rH X6 X6 (pv 1) (pv 0) (pv 2)))))),?_⟩;walk_at "rd";refine⟨x,k,rfl,hk,_,rfl,?_⟩;cases hk with
 | int i=>
  walk_at "rd";refine kJ (λz=>?_) (λz=>?_)
  ·have e:T8 (.int i) lo hi=decide (i<=hi):=by simp[T8,z]
   rw[e] at q;exact q
  ·have e:T8 (.int i) lo hi=false:=by simp[T8,z]
   rw[e] at q;exact q
 | _=>walk_at "rd";exact q
def mT:Str := "abcdefghijklmnopqrstuvwxyzABCDEFGHIJKLMNOPQRSTUVWXYZ-"
def cH (x:Str):Bool:=decide (1<=x.length)&&(decide (x.length<=12)&&x.cps.toList.all λc=>decide (c∈mT.cps.toList))
def XZ:Sp:=λvs H Q _=>∃ x k,vs=[x]/\x6 H x k/\(k≠.str->Q (.bl false) H)/\∀ w:Str,x=.str w->w.length<=1000/\∀ H',b9 H H'->Q (.bl (cH w)) H'
theorem ytB:OF P w base T.zE 2 XZ:=by
 refine T.zE.F.ok LZ (λvs H Q E h=>?_) (λ_ _ _ s' H vs Q E hr h=>?_)
 ·obtain⟨x,k,rfl,_⟩:=h;rfl
 obtain⟨x,k,rfl,hk,qn,qs⟩:=h;refine⟨_,(f7 (A7 (L3 (F4 (z8 Q7 rfl T.Ja F2 (b7 (pv 0) (b7 (P4 rfl T.QD tZ) c6))))) (j0 (r6 v8)) B4) (j0 (r6 (N0 (rH X6 X6 c8 (pln T.Ji (b7 (pv 0) c6)) (aA rfl T.Jt)) (N6 (o6 (yr6 T) hr (b7 (pv 0) (b7 (yua rfl T.JS) c6)))))))),?_⟩;walk_at "rd";refine⟨k,hk,?_⟩;cases hk with
 | str w=>
  obtain⟨hw,q⟩:=qs w rfl;have qq:∀ b H1,b9 H H1->cH w=b->Q (.bl b) H1:=λb H1 sm e=>by rw[<- e];exact q _ sm
  rw[if_neg (by simp)];refine⟨w,rfl,S6 hw,kJ (λc1=>kJ (λc2=>⟨w,_,rfl,hw,λH1 sm=>qq _ _ sm ?_⟩) (λc2=>qq _ _ (b9.refl H) ?_)) (λc1=>qq _ _ (b9.refl H) ?_)⟩
  ·unfold cH;rw[decide_eq_true (p:=1<=w.length) (by omega),decide_eq_true (p:=w.length<=12) (by omega)];rfl
  ·unfold cH;rw[decide_eq_false (p:=w.length<=12) (by omega)];simp
  ·unfold cH;rw[decide_eq_false (p:=1<=w.length) (by omega)];simp
 | _=>exact qn (by simp)
def eQ:List V->Bool
 | [a,b,c]=>T8 a 0 6&&(T8 b (-2) 2&&T8 c 0 8)
 | _=>false
def gG (H:Hp)(x:V):Bool:=match x with
 | .ref a=>match H a with
  | some (.tup xs)=>eQ xs
  | _=>false
 | _=>false
def Ue:Sp:=λvs H Q _=>∃ x k,vs=[x]/\x6 H x k/\(∀ a xs,x=.ref a->H a=some (.tup xs)->∀ y∈xs,∃ ky,x6 H y ky)/\Q (.bl (gG H x)) H
theorem Kx:OF P w base T.QY 3 Ue:=by
 refine T.QY.F.ok Ug (λvs H Q E h=>?_) (λ_ _ _ s H vs Q E hr h=>?_)
 ·obtain⟨x,k,rfl,_⟩:=h;rfl
 obtain⟨x,k,rfl,hk,hy,q⟩:=h;refine⟨_,(f7 (A7 (PW.pt (V5 (L3 (F4 (z8 Q7 rfl T.Ja F2 (b7 (pv 0) (b7 (P4 rfl T.Jj eE) c6))))) (Z5 (C3 mF (z8 T7 rfl T.Ji PySem.boot_len (b7 (pv 0) c6)) c8 (z5 _))))) (j0 (r6 v8)) B4) (j0 (r6 (N0 (o6 (kC T) hr (b7 (xT (pv 0)) (b7 c8 (b7 c8 c6)))) (N0 (o6 (kC T) hr (b7 (xT (pv 0)) (b7 (X2 W6 c8) (b7 c8 c6)))) (N6 (o6 (kC T) hr (b7 (xT (pv 0)) (b7 c8 (b7 c8 c6)))))))))),?_⟩;walk_at "rd";refine⟨k,hk,?_⟩;cases hk with
 | @tup a xs e=>
  have hy:=hy a xs rfl e;have q:Q (.bl (eQ xs)) H:=by
   have e':gG H (.ref a)=eQ xs:=by show(match H a with | some (.tup xs)=>eQ xs | _=>false)=_;rw[e]
   rw[e'] at q;exact q
  walk_at "rd";simp only[not_true_eq_false,if_false];refine⟨xs,.inr (m9.of e),?_⟩
  match xs,hy,e,q with
  | [b,c,d],hy,e,q=>
   obtain⟨kb,hb⟩:=hy b (by simp);obtain⟨kc,hc⟩:=hy c (by simp);obtain⟨kd,hd⟩:=hy d (by simp);simp only[qC,List.length_nil,Nat.reduceAdd,Int.cast_ofNat_Int,not_true_eq_false,if_false];refine⟨_,m9.of e,_,rfl,b,kb,0,6,rfl,hb,_,rfl,?_⟩;refine kJ (λz1=>?_) (λz1=>?_)
   ·refine⟨_,m9.of e,_,rfl,c,kc,-2,2,rfl,hc,_,rfl,?_⟩;refine kJ (λz2=>?_) (λz2=>?_)
    ·refine⟨_,m9.of e,_,rfl,d,kd,0,8,rfl,hd,?_⟩;simpa [eQ,z1,z2] using q
    ·simpa [eQ,z1,z2] using q
   ·simpa [eQ,z1] using q
  | [],hy,e,q=>exact q
  | [_],hy,e,q=>exact q
  | [_,_],hy,e,q=>exact q
  | _ :: _ :: _ :: _ :: r,hy,e,q=>
   refine kJ (λz=>q) (λz=>?_);exact absurd (Decidable.not_not.mp z) (by simp only[qC];omega)
 | @lst a xs e=>
  have e':gG H (.ref a)=false:=by show(match H a with | some (.tup xs)=>eQ xs | _=>false)=_;rw[e]
  rw[e'] at q;exact q
 | @dct a xs e=>
  have e':gG H (.ref a)=false:=by show(match H a with | some (.tup xs)=>eQ xs | _=>false)=_;rw[e]
  rw[e'] at q;exact q
 | _=>exact q
theorem yoV (H:Hp)(i:Int):U6 H (.int i) (.vl (.int i)):=by
 rw[U6];exact⟨rfl,rfl⟩
theorem OQ (H:Hp):Owns H [] []:=by rw[Owns]
theorem yi5 {H:Hp}{x:V}{r:List V}{t:L2.Tr}{ts:List L2.Tr}(h:U6 H x t)(hs:Owns H r ts):Owns H (x :: r) (t :: ts):=by
 rw[Owns];exact⟨x,r,rfl,h,hs⟩
def aW (gs:List Int):List L2.Tr:=gs.map λg=>.vl (.int g)
theorem V_ (H:Hp):∀ gs:List Int,Owns H (gs.map V.int) (aW gs)
 | []=>OQ H
 | g :: gs=>yi5 (yoV H g) (V_ H gs)
theorem Vo {H:Hp}{p:Addr}{gs:List Int}(h:H p=some (.tup (gs.map V.int))):U6 H (.ref p) (.tp (aW gs)):=by
 rw[U6];exact⟨p,_,rfl,h,V_ H gs⟩
theorem Ko:∀ gs:List Int,deps (aW gs)=0
 | []=>rfl
 | g :: gs=>by
  show max (Y6 (.vl (.int g))) (deps (aW gs))=0
  rw[Ko gs];rfl
theorem Xr (gs:List Int):Y6 (.tp (aW gs))<=60:=by rw[Y6,Ko];decide
theorem Zc:∀ gs hs:List Int,eqTs (aW gs) (aW hs)=decide (gs=hs)
 | [],[]=>rfl
 | [],_ :: _=>by simp[aW,eqTs]
 | _ :: _,[]=>by simp[aW,eqTs]
 | g :: gs,h :: hs=>by
  show(A3 (.vl (.int g)) (.vl (.int h))&&eqTs (aW gs) (aW hs))=_
  rw[Zc gs hs,A3];by_cases e:g=h
  ·subst e;simp[K9]
  ·simp[K9,e]
def yrs:Sp:=λvs H Q _=>∃ b:Int,vs=[.int b]/\0 < b/\b<=1000/\Q (.int (96 / b)) H
theorem Xj:OF P w base T.zA 1 yrs:=by
 refine T.zA.F.ok Gh (λvs H Q E h=>?_) (λ_ _ _ s' H vs Q E hr h=>?_)
 ·obtain⟨b,rfl,_⟩:=h;rfl
 obtain⟨b,rfl,hb,hb2,q⟩:=h;refine⟨_,(j0 (r6 (u9 lF (aA rfl T.QF) (pv 0)))),?_⟩;walk_at "rd";exact⟨⟨hb,by omega⟩,q⟩
structure ytt (H:Hp) (p g:Addr) (u8 bot:Int) (gs:List Int):Prop where
 at':H p=some (.tup [.int u8,.int bot,.ref g])
 gr:H g=some (.tup (gs.map V.int))
def jN (ys:List V):Int:=(ys.map λy=>match y with | .int i=>i | _=>0).sum
def bD (H:Hp)(w:V)(tp:Int):Bool:=match w with
 | .ref g=>match H g with
  | some (.tup ys)=>ys.all (λy=>T8 y 1 tp)&&(ys.isEmpty||decide (jN ys=tp))
  | _=>false
 | _=>false
theorem y_ {tp:Int}:∀ {ys:List V},ys.all (λy=>T8 y 1 tp)=true->∃ gs:List Int,ys=gs.map V.int/\∀ g∈gs,1<=g/\g<=tp
 | [],_=>⟨[],rfl,by simp⟩
 | y :: ys,h=>by
  rw[List.all_cons,Bool.and_eq_true] at h;obtain⟨gs,rfl,hg⟩:=y_ h.2;cases y with
  | int i=>
   have h1:(decide (1<=i)&&decide (i<=tp))=true:=h.1;simp at h1;exact⟨i :: gs,rfl,λg hm=>by rcases List.mem_cons.mp hm with rfl | hm;exact h1;exact hg g hm⟩
  | _=>exact absurd h.1 (by simp[T8])
theorem ykX (gs:List Int):jN (gs.map V.int)=gs.sum:=by
 unfold jN;rw[List.map_map];have e:((λy:V=>match y with | .int i=>i | _=>0) ∘ V.int)=id:=rfl;rw[e,List.map_id]
def m_ (H:Hp)(w:V):Prop:=∀ g ys,w=.ref g->H g=some (.tup ys)->(∀ y∈ys,∃ ky,x6 H y ky)/\ys.length<=100
def yl8:Sp:=λvs H Q _=>∃ w tp k,vs=[w,.int tp]/\x6 H w k/\m_ H w/\(1<=tp/\tp<=12)/\∀ H',b9 H H'->Q (.bl (bD H w tp)) H'
theorem ytV:OF P w base T.zQ 3 yl8:=by
 refine T.zQ.F.ok Yd (λvs H Q E h=>?_) (λ_ _ _ s' H vs Q E hr h=>?_)
 ·obtain⟨w,tp,k,rfl,_⟩:=h;rfl
 have hu:=eR hr;obtain⟨w,tp,k,rfl,hk,hy,ht,q⟩:=h;refine⟨_,(f7 (A7 (L3 (F4 (z8 Q7 rfl T.Ja F2 (b7 (pv 0) (b7 (P4 rfl T.Jj eE) c6))))) (j0 (r6 v8)) B4) (f7 (A7 (L3 (F4 (z8 (gA rfl) rfl T.JW gR (b7 (O9 (L0 (NB:=["group","top"]) (cap:=[none,some 1]) rfl) rfl (xF (pv 0)) (λ_ _ _ _=>O6 0) (λ_ _ _ _=>L8) (λ_ _ _ _=>(o6 (kC T) hr (b7 (pv 0) (b7 c8 (b7 (pv 1) c6)))))) c6)))) (j0 (r6 v8)) B4) (j0 (r6 (oK (N2 (X3 hu) (pv 0) (g8 c6) (z5 _)) (N6 (N2 S4 (z8 (yjK rfl) rfl T.QE xU (b7 (pv 0) c6)) (pv 1) (z5 _)))))))),?_⟩;walk_at "rd";refine⟨k,hk,?_⟩;have no:k≠.tup->Q (.bl false) H:=λhn=>by
  have e:bD H w tp=false:=by
   cases hk with
   | tup e=>exact absurd rfl hn
   | lst e=>unfold bD;dsimp only;rw[e]
   | dct e=>unfold bD;dsimp only;rw[e]
   | _=>rfl
  rw[e] at q;exact q H (b9.refl H)
 by_cases hn:k=.tup
 ·subst hn;rw[if_neg (by simp)];cases hk with
  | @tup g ys e=>
   obtain⟨hky,hlen⟩:=hy g ys rfl e;have eg:bD H (.ref g) tp=(ys.all (λy=>T8 y 1 tp)&&(ys.isEmpty||decide (jN ys=tp))):=by unfold bD;dsimp only;rw[e]
   refine⟨_,rfl,g,rfl,⟨_,m9.of e⟩,λD hD=>xP (xs:=ys) (λj σ H'=>(∃ o,σ=[o,some (.int tp)])/\b9 H H'/\H' D=some (.lst (((ys.take j).map λy=>T8 y 1 tp).map V.bl))) ⟨⟨_,rfl⟩,m8 hD _,f9⟩ (λj σ H' _ h=>m9.of (h.2.1 _ _ e)) ?_ ?_⟩
   ·rintro j y σ H' hx ⟨⟨o,rfl⟩,sm,hd⟩;have hj:j < ys.length:=(qE hx).1;obtain⟨ky,hky'⟩:=hky y (List.mem_of_getElem? hx);refine⟨_,rfl,_,rfl,y,ky,1,tp,rfl,hky'.same sm,_,hd,?_,⟨_,rfl⟩,O5 hD sm,?_⟩
    ·rw[qM,qM,qT];exact F1 (by omega)
    ·have e2:ys.take (j+1)=ys.take j++[y]:=by rw[List.take_add_one,hx];rfl
     rw[f9,e2,qP,qP];rfl
   ·rintro σ H' ⟨_,sm,hd⟩;rw[List.take_length] at hd;refine⟨D,rfl,_,d0.of hd,?_⟩;have ea:(ys.map λy=>T8 y 1 tp).all id=ys.all λy=>T8 y 1 tp:=by rw[List.all_map];rfl
    rw[ea];cases hall:ys.all λy=>T8 y 1 tp with
    | false=>
     rw[if_pos rfl];have:=q H' sm;rw[eg,hall] at this;exact this
    | true=>
     rw[if_neg (by simp)];obtain⟨gs,rfl,hgs⟩:=y_ hall;refine D6 λp2 g2=>?_
     have n2:=m8 g2 (HO.tup []);refine⟨_,((Vo (sm _ _ e)).same n2).rep,_,(Vo (gs:=[]) f9).rep,Xr _,Xr _,?_⟩;have em:A3 (.tp (aW gs)) (.tp (aW []))=decide (gs=[]):=by rw[A3,Zc]
     have qq:=q _ (sm.trans n2);rw[eg,hall,Bool.true_and,ykX] at qq;by_cases hg:gs=[]
     ·rw[if_pos (by rw[em];simp[hg])];subst hg;exact qq
     ·rw[if_neg (by rw[em];simp[hg])];rw[qM] at hlen;refine⟨g,rfl,gs,m9.of (n2 _ _ (sm _ _ e)),λn hn=>by have:=hgs n hn;omega,by omega,?_⟩;have:(gs.map V.int).isEmpty=false:=by simp[hg]
      rw[this,Bool.false_or] at qq;exact qq
 ·rw[if_pos (by simp[hn])];exact no hn
def mE (H:Hp)(u v w:V):Bool:=match u,v with
 | .int tp,.int bt=>decide (1<=tp)&&decide (tp<=12)&&(decide (bt=2)||decide (bt=4)||decide (bt=8))&&decide (tp*(96 / bt)<=192)&&bD H w tp
 | _,_=>false
def jY (H:Hp):List V->Bool
 | [u,v,w]=>mE H u v w
 | _=>false
def gK (H:Hp)(x:V):Bool:=match x with
 | .ref a=>match H a with
  | some (.tup xs)=>jY H xs
  | _=>false
 | _=>false
def ysf (H:Hp)(x:V):Prop:=(∃ k,x6 H x k)/\∀ a xs,x=.ref a->H a=some (.tup xs)->∀ y∈xs,(∃ k,x6 H y k)/\m_ H y
def SJ:Sp:=λvs H Q _=>∃ x,vs=[x]/\ysf H x/\∀ H',b9 H H'->Q (.bl (gK H x)) H'
theorem oH {a b:Int}{H:Hp}{Q:VK}(q:Q (.bl (!decide (a=b))) H):uR (.int a) (.int b) H Q:=⟨rfl,by rw[show decide (V.int a=V.int b)=decide (a=b) by rw[Bool.eq_iff_iff];simp];exact q⟩
theorem yrx:OF P w base T.QO 4 SJ:=by
 refine T.QO.F.ok Y8 (λvs H Q E h=>?_) (λ_ _ _ s' H vs Q E hr h=>?_)
 ·obtain⟨x,rfl,_⟩:=h;rfl
 obtain⟨x,rfl,⟨⟨k,hk⟩,hy⟩,q⟩:=h;have hu:=eR hr;have q0:=q H (b9.refl H);refine⟨_,(f7 (A7 (PW.pt (V5 (L3 (F4 (z8 Q7 rfl T.Ja F2 (b7 (pv 0) (b7 (P4 rfl T.Jj eE) c6))))) (Z5 (C3 mF (z8 T7 rfl T.Ji PySem.boot_len (b7 (pv 0) c6)) c8 (z5 _))))) (j0 (r6 v8)) B4) (f7 (p0 1 Y8.nd (xT (pv 0))) (f7 (p0 2 Y8.nd (xT (pv 0))) (f7 (A7 (PW.pt (V5 (L3 (F4 (o6 (kC T) hr (b7 (pv 1) (b7 c8 (b7 (aA rfl T.Qs) c6)))))) (V5 (L3 (F4 (o6 (wG T) hr (b7 (pv 2) c6)))) (Z5 (C3 ZQ (pv 2) (yt0 rfl T.Qx) rfl))))) (j0 (r6 v8)) B4) (j0 (r6 (N0 (N2 X6 (u9 iZ (pv 1) (o6 (Xj T) hr (b7 (pv 2) c6))) (aA rfl T.JH) (z5 _)) (N6 (o6 (ytV T) hr (b7 (xT (pv 0)) (b7 (pv 1) c6))))))))))),?_⟩;left;refine U9 hk ?_;cases hk with
 | @tup a xs e=>
  have hy:=hy a xs rfl e;have em:gK H (.ref a)=jY H xs:=by show(match H a with | some (.tup xs)=>jY H xs | _=>false)=_;rw[e]
  rw[em] at q0;refine n6 (t7 ?_);left;refine⟨a,_,rfl,.inr (m9.of e),?_⟩;left;refine oH (n6 ?_)
  match xs,hy,e,q0,em with
  | [b,c,d],hy,e,q0,em=>
   obtain⟨⟨kb,hb⟩,_⟩:=hy b (by simp);obtain⟨⟨kc,hc⟩,_⟩:=hy c (by simp);obtain⟨⟨kd,hd⟩,hdi⟩:=hy d (by simp);have ql:∀ H',b9 H H'->Q (.bl (mE H b c d)) H':=λH' sm=>by have:=q H' sm;rw[em] at this;exact this
   have fl:mE H b c d=false->Q (.bl false) H:=λz=>by have:=ql H (b9.refl H);rw[z] at this;exact this
   refine t7 ?_;left;refine B9 0 (m9.of e) ?_;left;refine B9 1 (m9.of e) ?_;left;refine⟨b,kb,1,12,rfl,hb,n6 ?_⟩;cases b with
   | int tp=>
    rw[show T8 (.int tp) 1 12=(decide (1<=tp)&&decide (tp<=12)) from rfl];cases z1:(decide (1<=tp)&&decide (tp<=12)) with
    | false=>
     refine v9 (fl ?_);cases c with
     | int bt=>
      show(decide (1<=tp)&&decide (tp<=12)&&_&&_&&_)=false
      rw[z1];rfl
     | _=>rfl
    | true=>
     have z1':=z1;rw[Bool.and_eq_true,decide_eq_true_eq,decide_eq_true_eq] at z1;refine t7 ?_;left;refine⟨c,kc,rfl,hc,n6 ?_⟩;cases hc with
     | int bt=>
      refine t7 ?_;left;refine⟨_,_,rfl,.inr (T.Qy.sq H),rfl,rfl,n6 ?_⟩;have hin:kF (V.int bt) [V.int 2,V.int 4,V.int 8]=(decide (bt=2)||decide (bt=4)||decide (bt=8)):=by
       by_cases h2:bt=2
       ·rw[h2];rfl
       by_cases h4:bt=4
       ·rw[h4];rfl
       by_cases h8:bt=8
       ·rw[h8];rfl
       rw[decide_eq_false h2,decide_eq_false h4,decide_eq_false h8];simp[kF,K9];exact⟨Ne.symm h2,Ne.symm h4,Ne.symm h8⟩
      have m3:mE H (.int tp) (.int bt) d=(kF (V.int bt) [V.int 2,V.int 4,V.int 8]&&decide (tp*(96 / bt)<=192)&&bD H d tp):=by
       show(decide (1<=tp)&&decide (tp<=12)&&(decide (bt=2)||decide (bt=4)||decide (bt=8))&&decide (tp*(96 / bt)<=192)&&bD H d tp)=_
       rw[z1',hin];rfl
      rw[m3] at ql fl;rw[if_pos rfl];cases hb2:kF (V.int bt) [V.int 2,V.int 4,V.int 8] with
      | false=>
       rw[hb2] at fl;exact v9 (fl rfl)
      | true=>
       rw[hb2,Bool.true_and] at ql;have hbt:bt=2∨bt=4∨bt=8:=by rw[hb2] at hin;simpa [or_assoc] using hin.symm
       refine t7 ?_;left;refine⟨bt,rfl,by omega,by omega,jT (.inl ⟨by omega,by omega⟩) ?_⟩;left;refine O4 (λz=>?_) λz=>?_
       ·rw[decide_eq_true z,Bool.true_and] at ql;left;refine B9 2 (m9.of e) ?_;left;exact⟨d,tp,kd,rfl,hd,hdi,z1,ql⟩
       ·rw[decide_eq_false z,Bool.false_and] at ql;exact ql H (b9.refl H)
     | _=>exact v9 (fl rfl)
   | _=>
    refine v9 (fl ?_);cases c<;>rfl
  | [],hy,e,q0,em=>exact v9 q0
  | [_],hy,e,q0,em=>exact v9 q0
  | [_,_],hy,e,q0,em=>exact v9 q0
  | _ :: _ :: _ :: _ :: r,hy,e,q0,em=>
   rw[decide_eq_false (by simp only[qC];omega)];exact v9 q0
 | @lst a xs e=>
  have em:gK H (.ref a)=false:=by show(match H a with | some (.tup xs)=>jY H xs | _=>false)=_;rw[e]
  rw[em] at q0;exact n6 (v9 q0)
 | @dct a xs e=>
  have em:gK H (.ref a)=false:=by show(match H a with | some (.tup xs)=>jY H xs | _=>false)=_;rw[e]
  rw[em] at q0;exact n6 (v9 q0)
 | _=>exact n6 (v9 q0)
def fR (ns:List Int):Bool:=(List.range (ns.length - 1)).all λi=>decide (ns.getD i 0 < ns.getD (i+1) 0)
theorem Zf {a b D:Addr}{xs ys:List V}{te:TE}{Fin:Hp->Prop}{H:Hp}{o1 o2:Option V}(f:Nat->Bool)(ha:H a=some (.lst xs))(hb:H b=some (.lst ys))(hD:H D=none)(hz:xs.length<=900)
  (ht:∀ (i:Nat) (x y:V) (H':Hp) (Q:VK),xs[i]?=some x->ys[i]?=some y->b9 H H'->(∀ H'',b9 H' H''->Q (.bl (f i)) H'')->te [some x,some y] H' Q)
  (fin:∀ H',b9 H H'->H' D=some (.lst (((List.range (min xs.length ys.length)).map f).map V.bl))->Fin H') :
  ∃ W:Nat->Nat->St->Hp->Prop,(∃ m,W 0 m [o1,o2] (upd H D (.lst [])))/\T9 (lC K a b) (gB K 2 (aR (G9 0) (aR (G9 1) fZ))) Y4 te D Fin W:=by
 refine ylI (xs:=xs) (ys:=ys) (λi σ H'=>(∃ o1 o2,σ=[o1,o2])/\b9 H H'/\(i<=xs.length/\i<=ys.length)/\H' D=some (.lst (((List.range i).map f).map V.bl))) ⟨⟨_,_,rfl⟩,m8 hD _,⟨Nat.zero_le _,Nat.zero_le _⟩,f9⟩ (λi σ H' h=>⟨d0.of (h.2.1 _ _ ha),d0.of (h.2.1 _ _ hb)⟩) ?_ ?_
 ·rintro i u v σ H' c hx hy ⟨⟨o1,o2,rfl⟩,sj,hi,hF'⟩ hc;have s3:=m8 hc (.tup [u,v]);have l1:=(qE hx).1;have l2:=(qE hy).1;refine yE (m9.of f9) (aE (v9 ?_));refine ht i u v _ _ hx hy (sj.trans s3) λH4 s4=>⟨_,s4 _ _ (s3 _ _ hF'),?_,⟨_,_,rfl⟩,O5 hD ((sj.trans s3).trans s4),⟨l1,l2⟩,?_⟩
  ·rw[qM,qM,List.length_range];exact F1 (by omega)
  ·rw[f9,List.range_succ,qP,qP];rfl
 ·rintro i σ H' hi ⟨⟨o1,o2,rfl⟩,sj,hj,hF'⟩;refine fin _ sj ?_;rw[show min xs.length ys.length=i by omega];exact hF'
theorem oY {H:Hp}{D:Addr}{bs:List Bool}{Q:VK}(h:H D=some (.lst (bs.map V.bl)))(q:Q (.bl (bs.all id)) H):oM K [.ref D] H Q:=⟨D,bs,rfl,d0.of h,q⟩
def yqI:Sp:=λvs H Q _=>∃ (a:Addr) (ns:List Int),vs=[.ref a]/\H a=some (.lst (ns.map V.int))/\ns.length<=700/\∀ H',b9 H H'->Q (.bl (fR ns)) H'
theorem qr:OF P w base T.Rh 1 yqI:=by
 o_head (T.Rh.F,yrk);obtain⟨a,ns,rfl,ea,le,q⟩:=h;have hu:=eR hr;refine⟨_,(j0 (r6 (z8 (gA rfl) rfl T.JW gR (b7 (O9 (L0 (NB:=["one","other"]) (cap:=[none,none]) rfl) rfl (yqS rfl T.QK (b7 (pv 0) (b7 (bA dJ (pv 0) (bS c8) bP) c6))) (λ_ _ _ _=>by exact(show PG _ _ (gB K 2 (aR (G9 0) (aR (G9 1) fZ))) from lK (n:=2) rfl (dG (eV (i:=0) (show List.Nodup (["one","other"]:List Str) by decide) rfl (Or.inl rfl)) (dG (eV (i:=1) (show List.Nodup (["one","other"]:List Str) by decide) rfl (Or.inl rfl)) nK)))) (λ_ _ _ _=>L8) (λ_ _ _ _=>(N2 xW (pv 0) (pv 1) (z5 _)))) c6)))),?_⟩;left;refine⟨_,rfl,_,rfl,1,rfl,a,_,rfl,d0.of ea,λp hp=>?_⟩;have s1:=m8 hp (.lst (O0 (ns.map V.int) (some 1) none));have ec:O0 (ns.map V.int) (some 1) none=(ns.drop 1).map V.int:=by
  cases ns with
  | nil=>rfl
  | cons n r=>rw[List.map_drop];exact nW _ 1 (by simp)
 rw[ec] at s1 |-;refine⟨a,p,rfl,⟨_,d0.of (s1 _ _ ea)⟩,⟨_,d0.of f9⟩,λD hD=>Zf (λi=>decide (ns.getD i 0 < ns.getD (i+1) 0)) (s1 _ _ ea) f9 hD (by rw[qM];omega) (λi x y H' Q' hx hy sm q'=>?_) λH' s2 hd=>?_⟩
 ·rw[qm] at hx hy;rw[List.getElem?_drop,Nat.add_comm] at hy;cases ex:ns[i]? with
  | none=>rw[ex] at hx;cases hx
  | some u=>
   cases ey:ns[i+1]? with
   | none=>rw[ey] at hy;cases hy
   | some v=>
    rw[ex] at hx;rw[ey] at hy;cases hx;cases hy;left;have:=q' _ (b9.refl _);rw[List.getD_eq_getElem?_getD,List.getD_eq_getElem?_getD,ex,ey] at this;exact this
 ·refine oY hd ?_;have:=q _ (s1.trans s2);unfold fR at this;rw[List.all_map,qM,qM,List.length_drop,show min ns.length (ns.length - 1)=ns.length - 1 by omega];exact this
mutual
def A1:Th->Bool
 | .im (.str w)=>decide (w.length<=1000)
 | .im _=>true
 | .ls ts=>decide (ts.length<=100)&&smTs ts
 | .tp ts=>decide (ts.length<=100)&&smTs ts
 | .dk=>true
def smTs:List Th->Bool
 | []=>true
 | t :: ts=>A1 t&&smTs ts
end
theorem uL:∀ {ts:List Th},smTs ts=true->∀ t∈ts,A1 t=true
 | t :: ts,h,u,m=>by
  rw[smTs,Bool.and_eq_true] at h;rcases List.mem_cons.mp m with rfl | m
  ·exact h.1
  ·exact uL h.2 u m
theorem vI:∀ {ts:List Th},(∀ t∈ts,A1 t=true)->smTs ts=true
 | [],_=>rfl
 | t :: ts,h=>by
  rw[smTs,h t (by simp),vI λu m=>h u (by simp[m])];rfl
theorem sE {ts:List Th}(h:A1 (.tp ts)=true):ts.length<=100/\∀ t∈ts,A1 t=true:=by
 rw[A1,Bool.and_eq_true,decide_eq_true_eq] at h;exact⟨h.1,uL h.2⟩
theorem gZ {ts:List Th}(h:A1 (.ls ts)=true):ts.length<=100/\∀ t∈ts,A1 t=true:=by
 rw[A1,Bool.and_eq_true,decide_eq_true_eq] at h;exact⟨h.1,uL h.2⟩
def nO:Th->Bool
 | .im (.int _)=>true
 | _=>false
def W5 (lo hi:Int):Th->Bool
 | .im (.int i)=>decide (lo<=i)&&decide (i<=hi)
 | _=>false
theorem lL {H:Hp}{x:V}{t:Th}{lo hi:Int}(h:Is H x t):T8 x lo hi=W5 lo hi t:=by
 cases t with
 | im v=>rw[Is] at h;rw[h.1];cases v<;>rfl
 | ls ts=>rw[Is] at h;obtain⟨a,xs,rfl,_⟩:=h;rfl
 | tp ts=>rw[Is] at h;obtain⟨a,xs,rfl,_⟩:=h;rfl
 | dk=>rw[Is] at h;obtain⟨a,xs,rfl,_⟩:=h;rfl
theorem ytb {t:Th}:decide (kT t=.int)=nO t:=by
 cases t with
 | im v=>cases v<;>rfl
 | _=>rfl
def ylW:Sp:=λvs H Q _=>∃ x tr,vs=[x]/\Is H x tr/\Q (.bl (nO tr)) H
theorem ykg:OF P w base T.QX 1 ylW:=(wG T).imp λvs H Q E ⟨x,tr,e,i,q⟩=>⟨x,kT tr,e,i.knd,by rw[ytb];exact q⟩
def FX:Sp:=λvs H Q _=>∃ x tr lo hi,vs=[x,.int lo,.int hi]/\Is H x tr/\Q (.bl (W5 lo hi tr)) H
theorem rA:OF P w base T.QN 2 FX:=(kC T).imp λvs H Q E ⟨x,tr,lo,hi,e,i,q⟩=>⟨x,kT tr,lo,hi,e,i.knd,by rw[lL i];exact q⟩
def bG:Th->Bool
 | .tp [a,b,c]=>W5 0 6 a&&(W5 (-2) 2 b&&W5 0 8 c)
 | _=>false
theorem jm {H:Hp}{xs:List V}{a b c:Th}(h:Iss H xs [a,b,c]):∃ x y z,xs=[x,y,z]/\Is H x a/\Is H y b/\Is H z c:=by
 rw[Iss] at h;obtain⟨x,r,rfl,i1,h⟩:=h;rw[Iss] at h;obtain⟨y,r,rfl,i2,h⟩:=h;rw[Iss] at h;obtain⟨z,r,rfl,i3,h⟩:=h;rw[Iss] at h;rw[h];exact⟨x,y,z,rfl,i1,i2,i3⟩
theorem yqN {H:Hp}{x:V}{t:Th}(h:Is H x t):gG H x=bG t:=by
 cases t with
 | im v=>rw[Is] at h;rw[h.1];cases v<;>first | rfl | cases h.2
 | ls ts=>rw[Is] at h;obtain⟨a,xs,rfl,e,_⟩:=h;simp only[gG,e];rfl
 | dk=>rw[Is] at h;obtain⟨a,xs,rfl,e⟩:=h;simp only[gG,e];rfl
 | tp ts=>
  rw[Is] at h;obtain⟨a,xs,rfl,e,is⟩:=h;have l:=is.len;simp only[gG,e]
  match ts,xs,l with
  | [a,b,c],xs,_=>
   obtain⟨x,y,z,rfl,i1,i2,i3⟩:=jm is;simp only[eQ,bG,lL i1,lL i2,lL i3]
  | [],[],_=>rfl
  | [_],[_],_=>rfl
  | [_,_],[_,_],_=>rfl
  | _ :: _ :: _ :: _ :: _,_ :: _ :: _ :: _ :: _,_=>rfl
theorem Is.tup {H:Hp}{a:Addr}{xs:List V}{tr:Th}(i:Is H (.ref a) tr)(ea:H a=some (.tup xs)):∃ ts,tr=.tp ts/\Iss H xs ts:=by
 cases tr with
 | tp ts=>
  rw[Is] at i;obtain⟨_,_,e1,e2,is⟩:=i;cases e1;rw[ea] at e2;cases e2;exact⟨ts,rfl,is⟩
 | im v=>rw[Is] at i;rw[<- i.1] at i;cases i.2
 | ls ts=>rw[Is] at i;obtain⟨_,_,e1,e2,_⟩:=i;cases e1;rw[ea] at e2;cases e2
 | dk=>rw[Is] at i;obtain⟨_,_,e1,e2⟩:=i;cases e1;rw[ea] at e2;cases e2
theorem H_ {H:Hp}{x:V}{tr:Th}(i:Is H x tr)(a:Addr)(xs:List V)(ex:x=.ref a)(ea:H a=some (.tup xs))(y:V)(hy:y∈xs):∃ ky,x6 H y ky:=by
 subst ex;obtain⟨ts,_,is⟩:=i.tup ea;obtain⟨t,_,iy⟩:=is.knd y hy;exact⟨_,iy.knd⟩
def yrL:Sp:=λvs H Q _=>∃ x tr,vs=[x]/\Is H x tr/\Q (.bl (bG tr)) H
theorem yov:OF P w base T.QY 3 yrL:=(Kx T).imp λvs H Q E ⟨x,tr,e,i,q⟩=>⟨x,kT tr,e,i.knd,H_ i,by rw[yqN i];exact q⟩
def iS (tp:Int):Th->Bool
 | .tp ys=>ys.all (W5 1 tp)&&(ys.isEmpty||decide ((ys.map λy=>match y with | .im (.int i)=>i | _=>0).sum=tp))
 | _=>false
def yI (a b g:Th):Bool:=match a,b with
 | .im (.int tp),.im (.int bt)=>decide (1<=tp)&&decide (tp<=12)&&(decide (bt=2)||decide (bt=4)||decide (bt=8))&&decide (tp*(96 / bt)<=192)&&iS tp g
 | _,_=>false
def hJ:Th->Bool
 | .tp [a,b,g]=>yI a b g
 | _=>false
theorem Xh {H:Hp}{tp:Int}:∀ {xs:List V} {ts:List Th},Iss H xs ts->xs.all (λy=>T8 y 1 tp)=ts.all (W5 1 tp)/\jN xs=(ts.map λy=>match y with | .im (.int i)=>i | _=>0).sum/\xs.isEmpty=ts.isEmpty
 | xs,[],h=>by rw[Iss] at h;rw[h];exact⟨rfl,rfl,rfl⟩
 | xs,t :: ts,h=>by
  rw[Iss] at h;obtain⟨x,r,rfl,i,is⟩:=h;obtain⟨a,b,_⟩:=Xh (tp:=tp) is;refine⟨by rw[List.all_cons,List.all_cons,lL i,a],?_,rfl⟩;rw[List.map_cons,List.sum_cons,<- b];show _+jN r=_
  congr 1
  cases t with
  | im v=>rw[Is] at i;rw[i.1];cases v<;>rfl
  | ls ts=>rw[Is] at i;obtain⟨a,xs,rfl,_⟩:=i;rfl
  | tp ts=>rw[Is] at i;obtain⟨a,xs,rfl,_⟩:=i;rfl
  | dk=>rw[Is] at i;obtain⟨a,xs,rfl,_⟩:=i;rfl
theorem Wc {H:Hp}{x:V}{t:Th}{tp:Int}(h:Is H x t):bD H x tp=iS tp t:=by
 cases t with
 | im v=>rw[Is] at h;rw[h.1];cases v<;>first | rfl | cases h.2
 | ls ts=>rw[Is] at h;obtain⟨a,xs,rfl,e,_⟩:=h;simp only[bD,e];rfl
 | dk=>rw[Is] at h;obtain⟨a,xs,rfl,e⟩:=h;simp only[bD,e];rfl
 | tp ts=>
  rw[Is] at h;obtain⟨a,xs,rfl,e,is⟩:=h;obtain⟨a1,a2,a3⟩:=Xh (tp:=tp) is;simp only[bD,e,iS,a1,a2,a3]
theorem Us {H:Hp}{x:V}{t:Th}(h:Is H x t):gK H x=hJ t:=by
 cases t with
 | im v=>rw[Is] at h;rw[h.1];cases v<;>first | rfl | cases h.2
 | ls ts=>rw[Is] at h;obtain⟨a,xs,rfl,e,_⟩:=h;simp only[gK,e];rfl
 | dk=>rw[Is] at h;obtain⟨a,xs,rfl,e⟩:=h;simp only[gK,e];rfl
 | tp ts=>
  rw[Is] at h;obtain⟨a,xs,rfl,e,is⟩:=h;have l:=is.len;simp only[gK,e]
  match ts,xs,l with
  | [a,b,c],xs,_=>
   obtain⟨x,y,z,rfl,i1,i2,i3⟩:=jm is;simp only[jY,mE];cases a with
   | im u=>
    rw[Is] at i1;rw[i1.1];cases u with
    | int tp=>
     cases b with
     | im v=>
      rw[Is] at i2;rw[i2.1];cases v with
      | int bt=>simp only[hJ,yI,Wc i3]
      | _=>rfl
     | ls ts=>rw[Is] at i2;obtain⟨a,xs,rfl,_⟩:=i2;rfl
     | tp ts=>rw[Is] at i2;obtain⟨a,xs,rfl,_⟩:=i2;rfl
     | dk=>rw[Is] at i2;obtain⟨a,xs,rfl,_⟩:=i2;rfl
    | _=>rfl
   | ls ts=>rw[Is] at i1;obtain⟨a,xs,rfl,_⟩:=i1;rfl
   | tp ts=>rw[Is] at i1;obtain⟨a,xs,rfl,_⟩:=i1;rfl
   | dk=>rw[Is] at i1;obtain⟨a,xs,rfl,_⟩:=i1;rfl
  | [],[],_=>rfl
  | [_],[_],_=>rfl
  | [_,_],[_,_],_=>rfl
  | _ :: _ :: _ :: _ :: _,_ :: _ :: _ :: _ :: _,_=>rfl
def Yr:Sp:=λvs H Q _=>∃ x tr,vs=[x]/\Is H x tr/\A1 tr=true/\∀ H',b9 H H'->Q (.bl (hJ tr)) H'
theorem Uw:OF P w base T.QO 4 Yr:=(yrx T).imp λvs H Q E h=>by
 obtain⟨x,tr,e,i,sm,q⟩:=h;refine⟨x,e,⟨⟨_,i.knd⟩,λa xs ex ea y hy=>?_⟩,by rw[Us i];exact q⟩;subst ex;obtain⟨ts,rfl,is⟩:=i.tup ea;obtain⟨u,mu,iy⟩:=is.knd y hy;refine⟨⟨_,iy.knd⟩,λg ys eg e2=>?_⟩;refine⟨H_ iy g ys eg e2,?_⟩;subst eg;obtain⟨us,rfl,is2⟩:=iy.tup e2;rw[is2.len];exact(sE ((sE sm).2 _ mu)).1
def yrY:Sp:=λvs H Q _=>∃ x tr,vs=[x]/\Is H x tr/\Q (.bl (W5 (-7) 7 tr)) H
theorem KQ:OF P w base T.QS 3 yrY:=by
 o_head (T.QS.F,LQ);obtain⟨x,tr,rfl,i,q⟩:=h;refine⟨_,(j0 (r6 (eF (rA T) hr T.QN (b7 (pv 0) (b7 (X2 W6 (aA rfl T.JG)) (b7 (aA rfl T.JG) c6)))))),?_⟩;left;exact⟨x,tr,-7,7,rfl,i,q⟩
def oF (n:Str):Th->Bool
 | .im (.str w)=>decide (w=n)
 | _=>false
def eM (n:Str)(p:Nat):Th->Bool
 | .tp (h :: ts)=>decide (ts.length+1=p)&&oF n h
 | _=>false
theorem R6 {H:Hp}{xs:List V}{h:Th}{ts:List Th}(is:Iss H xs (h :: ts)):∃ x r,xs=x :: r/\Is H x h/\Iss H r ts:=by rw[Iss] at is;exact is
theorem Is.tp {H:Hp}{x:V}{ts:List Th}(i:Is H x (.tp ts)):∃ a xs,x=.ref a/\H a=some (.tup xs)/\Iss H xs ts:=by rw[Is] at i;exact i
theorem Is.ls {H:Hp}{x:V}{ts:List Th}(i:Is H x (.ls ts)):∃ a xs,x=.ref a/\H a=some (.lst xs)/\Iss H xs ts:=by rw[Is] at i;exact i
theorem Is.im {H:Hp}{x v:V}(i:Is H x (.im v)):x=v:=by rw[Is] at i;exact i.1
def ymM:Sp:=λvs H Q _=>∃ (n:Str) (p:Nat) (x:V) (tr:Th),vs=[.str n,.int p,x]/\Is H x tr/\1<=p/\Q (.bl (eM n p tr)) H
theorem Zr:OF P w base T.zL 1 ymM:=by
 o_head (T.zL.F,ysT);obtain⟨n,p,x,tr,rfl,i,hp,q⟩:=h;refine⟨_,(f7 (A7 (PW.pt (V5 (L3 (F4 (z8 Q7 rfl T.Ja F2 (b7 (pv 2) (b7 (P4 rfl T.Jj eE) c6))))) (Z5 (C3 mF (z8 T7 rfl T.Ji PySem.boot_len (b7 (pv 2) c6)) (pv 1) (z5 _))))) (j0 (r6 v8)) B4) (j0 (r6 (N0 (z8 Q7 rfl T.Ja F2 (b7 (xT (pv 2)) (b7 (P4 rfl T.QD tZ) c6))) (N6 (N2 (X3 hu) (xT (pv 2)) (pv 0) (z5 _))))))),?_⟩;left;refine U9 i.knd ?_;cases tr with
 | tp ts=>
  obtain⟨a,xs,rfl,ea,is⟩:=i.tp;refine n6 (t7 ?_);left;refine⟨a,_,rfl,.inr (m9.of ea),?_⟩;left;refine oH (n6 ?_);have l:=is.len;by_cases hl:((xs.length:Nat):Int)=p
  ·rw[decide_eq_true hl];refine t7 ?_;cases ts with
   | nil=>have:xs.length=0:=l;omega
   | cons h ts=>
    obtain⟨y,r,rfl,iy,is⟩:=R6 is;have l2:ts.length+1=p:=by rw[qC] at l hl;rw[<- is.len];omega
    rw[eM,decide_eq_true l2,Bool.true_and] at q;left;refine B9 0 (m9.of ea) ?_;left;refine U9 iy.knd ?_;cases h with
    | im v=>
     cases iy.im;cases y with
     | str z=>
      refine n6 (v9 ?_);left;refine B9 0 (m9.of ea) ?_;left;refine bJ ⟨rfl,A6⟩ ⟨rfl,A6⟩ (B5 rfl) (B5 rfl) ?_;rw[show A3 (D9 (.im (.str z))) (D9 (.im (.str n)))=decide (z=n) from rfl];exact q
     | _=>exact n6 (t7 q)
    | _=>exact n6 (t7 q)
  ·rw[decide_eq_false hl];refine v9 ?_;have e:eM n p (.tp ts)=false:=by
    cases ts with
    | nil=>rfl
    | cons h ts=>rw[eM,decide_eq_false (λz=>hl (by rw[qC] at l;omega))];rfl
   rw[e] at q;exact q
 | im v=>
  cases i.im;cases x<;>exact n6 (v9 q)
 | _=>exact n6 (v9 q)
structure G7 where
 (st ln oc:Int)
def pT (p:G7):Th:=.tp [nT p.st,nT p.ln,nT p.oc]
def aQ (p:G7):Int:=7*p.oc+p.st
structure jP (p:G7):Prop where
 s0:0<=p.st
 s6:p.st<=6
 l0:-2<=p.ln
 l2:p.ln<=2
 o0:0<=p.oc
 o8:p.oc<=8
theorem Is.pit {H:Hp}{x:V}{p:G7}(h:Is H x (pT p)):∃ a,x=.ref a/\H a=some (.tup [.int p.st,.int p.ln,.int p.oc]):=by
 rw[pT,Is] at h;obtain⟨a,xs,rfl,e,is⟩:=h;have:=Iss.ints (ns:=[p.st,p.ln,p.oc]) is;rw[this] at e;exact⟨a,rfl,e⟩
theorem tE {H:Hp}{a:Addr}{p:G7}(e:H a=some (.tup [.int p.st,.int p.ln,.int p.oc])):Is H (.ref a) (pT p):=aK e (rQ H [p.st,p.ln,p.oc])
def ysd:Sp:=λvs H Q _=>∃ (x:V) (p:G7),vs=[x]/\Is H x (pT p)/\Q (.int (aQ p)) H
theorem Gz:OF P w base T.Rj 1 ysd:=by
 refine T.Rj.F.ok CQ (λvs H Q E h=>?_) (λ_ _ _ s H vs Q E hr h=>?_)
 ·obtain⟨x,m,rfl,_⟩:=h;rfl
 obtain⟨x,p,rfl,ip,q⟩:=h;have hu:=eR hr;obtain⟨a,rfl,ea⟩:=ip.pit;refine⟨_,(j0 (r6 (u9 O8 (u9 iZ c8 (xT (pv 0))) (xT (pv 0))))),?_⟩;left;refine B9 2 (m9.of ea) ?_;left;exact W3 (m9.of ea) (J0 (j:=0) rfl) (iE q)
def sT (z:Str):Th:=.im (.str z)
def bT (b:Bool):Th:=.im (.bl b)
def lT (ps:List G7):Th:=.ls (ps.map pT)
inductive Sn where
 | rest (n:Int)
 | tones (ps:List G7) (n:Int) (wd:Str) (op cl:Bool)
def z6:Sn->Th
 | .rest n=>.tp [sT "rest",nT n]
 | .tones ps n wd op cl=>.tp [sT "tones",lT ps,nT n,sT wd,bT op,bT cl]
def iR (ps:List G7):Prop:=∀ i (h:i+1 < ps.length),aQ ps[i] < aQ ps[i+1]
def nU (ps:List G7):Prop:=1<=ps.length/\ps.length<=4/\(∀ p∈ps,jP p)/\iR ps
def nE:Th->Bool
 | .im (.str w)=>decide (w="")||cH w
 | _=>false
def lQ:Th->Bool
 | .im (.bl _)=>true
 | _=>false
def Z_:Th->Int
 | .tp [.im (.int a),_,.im (.int c)]=>7*c+a
 | _=>0
def fA:Th->Bool
 | .ls ts=>decide (1<=ts.length/\ts.length<=4)&&(ts.all bG&&fR (ts.map Z_))
 | _=>false
def eY:Th->Bool
 | .tp [h,b]=>oF "rest" h&&W5 2 4608 b
 | _=>false
def eI:Th->Bool
 | .tp [h,a,b,c,d,e]=>oF "tones" h&&(fA a&&(W5 2 384 b&&(nE c&&(lQ d&&lQ e))))
 | _=>false
theorem hI {lo hi:Int}{tr:Th}(h:W5 lo hi tr=true):∃ i:Int,tr=nT i/\lo<=i/\i<=hi:=by
 cases tr with
 | im v=>
  cases v with
  | int i=>
   have h2:(decide (lo<=i)&&decide (i<=hi))=true:=h;simp at h2;exact⟨i,rfl,h2.1,h2.2⟩
  | _=>cases h
 | _=>cases h
theorem ynX {tr:Th}(h:bG tr=true):∃ p,tr=pT p/\jP p:=by
 cases tr with
 | tp ts=>
  match ts,h with
  | [a,b,c],h=>
   rw[bG,Bool.and_eq_true,Bool.and_eq_true] at h;obtain⟨i,rfl,a1,a2⟩:=hI h.1;obtain⟨j,rfl,b1,b2⟩:=hI h.2.1;obtain⟨k,rfl,c1,c2⟩:=hI h.2.2;exact⟨⟨i,j,k⟩,rfl,a1,a2,b1,b2,c1,c2⟩
  | [],h=>cases h
  | [_],h=>cases h
  | [_,_],h=>cases h
  | _ :: _ :: _ :: _ :: _,h=>cases h
 | _=>cases h
theorem wR:∀ {ts:List Th},ts.all bG=true->∃ ps:List G7,ts=ps.map pT/\∀ p∈ps,jP p
 | [],_=>⟨[],rfl,by simp⟩
 | t :: ts,h=>by
  rw[List.all_cons,Bool.and_eq_true] at h;obtain⟨p,rfl,g⟩:=ynX h.1;obtain⟨ps,rfl,gs⟩:=wR h.2;exact⟨p :: ps,rfl,λq m=>by rcases List.mem_cons.mp m with rfl | m;exact g;exact gs q m⟩
theorem AQ {p:G7}(g:jP p):bG (pT p)=true:=by
 have:=g.s0;have:=g.s6;have:=g.l0;have:=g.l2;have:=g.o0;have:=g.o8;simp[*,pT,bG,W5,nT]
theorem V7 {ps:List G7}:fR (ps.map aQ)=true↔iR ps:=by
 unfold fR iR;rw[List.all_eq_true]
 constructor
 ·intro h i hi;have:=h i (List.mem_range.mpr (by rw[qM];omega));rw[decide_eq_true_eq] at this;simpa [List.getD_eq_getElem?_getD,qG hi,qG (Nat.lt_of_succ_lt hi)] using this
 ·intro h i hi;have hi:=List.mem_range.mp hi;rw[qM] at hi;have l:i+1 < ps.length:=by omega
  have:=h i l;rw[decide_eq_true_eq];simpa [List.getD_eq_getElem?_getD,qG l,qG (Nat.lt_of_succ_lt l)] using this
theorem yG (ps:List G7):(ps.map pT).map Z_=ps.map aQ:=by rw[List.map_map];rfl
theorem X_ {tr:Th}(h:fA tr=true):∃ ps,tr=lT ps/\nU ps:=by
 cases tr with
 | ls ts=>
  rw[fA,Bool.and_eq_true,Bool.and_eq_true,decide_eq_true_eq] at h;obtain⟨ps,rfl,g⟩:=wR h.2.1;rw[qM] at h;exact⟨ps,rfl,h.1.1,h.1.2,g,V7.mp (by rw[<- yG];exact h.2.2)⟩
 | _=>cases h
theorem yl4 {ps:List G7}:fA (lT ps)=true↔nU ps:=by
 constructor
 ·intro h;obtain⟨qs,e,g⟩:=X_ h;have:ps=qs:=by
   have e2:ps.map pT=qs.map pT:=by injection e
   exact List.map_inj_right (λa b z=>by cases a;cases b;simp only[pT,nT,Th.tp.injEq,List.cons.injEq,Th.im.injEq,V.int.injEq,and_true] at z;obtain⟨rfl,rfl,rfl⟩:=z;rfl) |>.mp e2
  rw[this];exact g
 ·intro g;rw[lT,fA,yG,qM,decide_eq_true ⟨g.1,g.2.1⟩,V7.mpr g.2.2.2,Bool.and_true,Bool.true_and,List.all_eq_true];intro x m;obtain⟨p,mp,rfl⟩:=List.mem_map.mp m;exact AQ (g.2.2.1 p mp)
def kN (z:Str):Prop:=z="" ∨ cH z=true
def K3:Sn->Prop
 | .rest n=>2<=n/\n<=4608
 | .tones ps n wd _ _=>nU ps/\2<=n/\n<=384/\kN wd
theorem yrG {tr:Th}(h:nE tr=true):∃ z,tr=sT z/\kN z:=by
 cases tr with
 | im v=>
  cases v with
  | str z=>
   have h2:(decide (z="")||cH z)=true:=h;rw[Bool.or_eq_true,decide_eq_true_eq] at h2;exact⟨z,rfl,h2⟩
  | _=>cases h
 | _=>cases h
theorem Gp {z:Str}:nE (sT z)=true↔kN z:=by
 show(decide (z="")||cH z)=true↔_
 rw[Bool.or_eq_true,decide_eq_true_eq];rfl
theorem Vh {tr:Th}(h:lQ tr=true):∃ b,tr=bT b:=by
 cases tr with
 | im v=>
  cases v with
  | bl b=>exact⟨b,rfl⟩
  | _=>cases h
 | _=>cases h
theorem qa {n:Str}{tr:Th}(h:oF n tr=true):tr=sT n:=by
 cases tr with
 | im v=>
  cases v with
  | str z=>
   have h2:decide (z=n)=true:=h;rw[of_decide_eq_true h2];rfl
  | _=>cases h
 | _=>cases h
theorem xt {tr:Th}(h:eY tr=true):∃ n,tr=z6 (.rest n)/\K3 (.rest n):=by
 cases tr with
 | tp ts=>
  match ts,h with
  | [a,b],h=>
   rw[eY,Bool.and_eq_true] at h;obtain⟨n,rfl,h1,h2⟩:=hI h.2;rw[qa h.1];exact⟨n,rfl,h1,h2⟩
  | [],h=>cases h
  | [_],h=>cases h
  | _ :: _ :: _ :: _,h=>cases h
 | _=>cases h
theorem Zk {tr:Th}(h:eI tr=true):∃ ps n wd op cl,tr=z6 (.tones ps n wd op cl)/\K3 (.tones ps n wd op cl):=by
 cases tr with
 | tp ts=>
  match ts,h with
  | [a,b,c,d,e,f],h=>
   simp only[eI,Bool.and_eq_true] at h;obtain⟨h1,h2,h3,h4,h5,h6⟩:=h;obtain⟨ps,rfl,gp⟩:=X_ h2;obtain⟨n,rfl,n1,n2⟩:=hI h3;obtain⟨wd,rfl,gw⟩:=yrG h4;obtain⟨op,rfl⟩:=Vh h5;obtain⟨cl,rfl⟩:=Vh h6;rw[qa h1];exact⟨ps,n,wd,op,cl,rfl,gp,n1,n2,gw⟩
  | [],h=>cases h
  | [_],h=>cases h
  | [_,_],h=>cases h
  | [_,_,_],h=>cases h
  | [_,_,_,_],h=>cases h
  | [_,_,_,_,_],h=>cases h
  | _ :: _ :: _ :: _ :: _ :: _ :: _ :: _,h=>cases h
 | _=>cases h
theorem cR {ps:List G7}{n:Int}{wd:Str}{op cl:Bool}:eI (z6 (.tones ps n wd op cl))=true↔K3 (.tones ps n wd op cl):=by
 simp only[z6,eI,Bool.and_eq_true,yl4,Gp,K3];show decide (("tones" : Str)="tones")=true/\nU ps/\(decide (2<=n)&&decide (n<=384))=true/\kN wd/\true=true/\true=true↔_
 simp[and_assoc]
theorem aG {n:Int}:eY (z6 (.rest n))=true↔K3 (.rest n):=by
 show(decide (("rest" : Str)="rest")&&(decide (2<=n)&&decide (n<=4608)))=true↔2<=n/\n<=4608
 simp
def eD (tr:Th):Bool:=eY tr||eI tr
theorem P8 {s:Sn}:eD (z6 s)=true↔K3 s:=by
 rw[eD,Bool.or_eq_true];cases s with
 | rest n=>
  refine⟨λh=>h.elim aG.mp λz=>?_,λh=>.inl (aG.mpr h)⟩;cases z
 | tones ps n wd op cl=>
  refine⟨λh=>h.elim (λz=>?_) cR.mp,λh=>.inr (cR.mpr h)⟩;cases z
theorem Go {xs:List V}:Al (λx u=>x=u) xs xs:=⟨rfl,λi h=>⟨_,qG h,rfl⟩⟩
theorem jA {H:Hp}{xs:List V}{ts:List Th}(h:Iss H xs ts):Al (λx u=>Is H x u) xs ts:=T5 (f:=λu=>u) (by rw[List.map_id'];exact h)
theorem yV {n:Str}{p:Nat}{tr:Th}(h:eM n p tr=true):∃ b ts,tr=.tp (b :: ts)/\ts.length+1=p/\oF n b=true:=by
 cases tr with
 | tp ts=>
  cases ts with
  | nil=>cases h
  | cons b ts=>
   rw[eM,Bool.and_eq_true,decide_eq_true_eq] at h;exact⟨b,ts,rfl,h⟩
 | _=>cases h
theorem ym0 {tr:Th}(h:eM "rest" 2 tr=false):eY tr=false:=by
 cases z:eY tr with
 | false=>rfl
 | true=>
  obtain⟨n,rfl,_⟩:=xt z;cases h
theorem Wz {tr:Th}(h:eM "tones" 6 tr=false):eI tr=false:=by
 cases z:eI tr with
 | false=>rfl
 | true=>
  obtain⟨_,_,_,_,_,rfl,_⟩:=Zk z;cases h
def Yz:Sp:=λvs H Q _=>∃ x tr,vs=[x]/\Is H x tr/\Q (.bl (eY tr)) H
theorem ysS:OF P w base T.zq 3 Yz:=by
 o_head (T.zq.F,ytT);obtain⟨x,tr,rfl,i,q⟩:=h;refine⟨_,(j0 (r6 (N0 (o6 (Zr T) hr (b7 n9 (b7 c8 (b7 (pv 0) c6)))) (N6 (eF (rA T) hr T.QN (b7 (xT (pv 0)) (b7 (aA rfl T.Ju) (b7 (aA rfl T.Jn) c6)))))))),?_⟩;left;refine⟨"rest",2,x,tr,rfl,i,by decide,n6 ?_⟩;cases z:eM "rest" 2 tr with
 | false=>
  rw[ym0 z] at q;exact t7 q
 | true=>
  obtain⟨b,ts,rfl,l,hb⟩:=yV z
  match ts,l with
  | [c],_=>
   obtain⟨a,xs,rfl,ea,is⟩:=i.tp;obtain⟨y,r,rfl,iy,is⟩:=R6 is;obtain⟨z,r,rfl,iz,is⟩:=R6 is;rw[eY,hb,Bool.true_and] at q;refine v9 ?_;left;refine B9 1 (m9.of ea) ?_;left;exact⟨z,c,2,4608,rfl,iz,q⟩
def yoN:Sp:=λvs H Q _=>∃ x tr,vs=[x]/\Is H x tr/\A1 tr=true/\∀ H',b9 H H'->Q (.bl (nE tr)) H'
theorem yrC:OF P w base T.Rk 3 yoN:=by
 o_head (T.Rk.F,VZ);obtain⟨x,tr,rfl,i,sm,q⟩:=h;refine⟨_,(j0 (r6 (N0 (z8 Q7 rfl T.Ja F2 (b7 (pv 0) (b7 (P4 rfl T.QD tZ) c6))) (N6 (oK (N2 S4 (pv 0) n9 (z5 _)) (N6 (o6 (ytB T) hr (b7 (pv 0) c6)))))))),?_⟩;left;refine U9 i.knd ?_;cases tr with
 | im v=>
  cases i.im;cases x with
  | str z=>
   refine n6 (v9 ?_);left;have q2:∀ H',b9 H H'->Q (.bl (decide (z="")||cH z)) H':=q;refine⟨rfl,n6 (O4 (λe=>?_) λne=>?_)⟩
   ·have e:z="":= by injection e
    rw[decide_eq_true e,Bool.true_or] at q2;exact q2 _ (b9.refl _)
   ·have ne:z≠"":= λe=>ne (by rw[e])
    rw[decide_eq_false ne,Bool.false_or] at q2;left;refine⟨_,.str,rfl,.str _,λz=>absurd rfl z,λw e=>?_⟩;cases e;have l:decide (z.length<=1000)=true:=sm;exact⟨of_decide_eq_true l,q2⟩
  | _=>exact n6 (t7 (q _ (b9.refl _)))
 | _=>exact n6 (t7 (q _ (b9.refl _)))
def ylZ:Sp:=λvs H Q _=>∃ x tr,vs=[x]/\Is H x tr/\∀ H',b9 H H'->Q (.bl (fA tr)) H'
theorem ytL:OF P w base T.zX 4 ylZ:=by
 o_head (T.zX.F,ysW);obtain⟨x,tr,rfl,i,q⟩:=h;refine⟨_,(f7 (A7 (PW.pt (V5 (L3 (F4 (z8 Q7 rfl T.Ja F2 (b7 (pv 0) (b7 (P4 rfl T.Jg Y1) c6))))) (Z5 (L3 (ylV X6 X6 c8 (z8 T7 rfl T.Ji PySem.boot_len (b7 (pv 0) c6)) (aA rfl T.JZ)))))) (j0 (r6 v8)) B4) (j0 (r6 (N0 (z8 (gA rfl) rfl T.JW gR (b7 (O9 (L0 (NB:=["pitch"]) (cap:=[none]) rfl) rfl (K2 (pv 0)) (λ_ _ _ _=>O6 0) (λ_ _ _ _=>L8) (λ_ _ _ _=>(eF (yov T) hr T.QY (b7 (pv 0) c6)))) c6)) (N6 (o6 (qr T) hr (b7 (O9 (L0 (NB:=["pitch"]) (cap:=[none]) rfl) rfl (K2 (pv 0)) (λ_ _ _ _=>O6 0) (λ_ _ _ _=>L8) (λ_ _ _ _=>(o6 (Gz T) hr (b7 (pv 0) c6)))) c6))))))),?_⟩;left;refine U9 i.knd ?_;cases tr with
 | ls ts=>
  obtain⟨a,xs,rfl,ea,ip⟩:=i.ls;have al:=jA ip;have l:=ip.len;refine n6 (t7 ?_);left;refine uZ (a:=1) (b:=xs.length) (c:=4) (λ_ q=>q) (λQ' q'=>⟨_,rfl,a,xs,rfl,.inl (d0.of ea),q'⟩) (λ_ q=>q) (n6 ?_);by_cases hl:1<=ts.length/\ts.length<=4
  ·rw[show decide ((1:Int)<=xs.length/\(xs.length:Int)<=4)=true by rw[decide_eq_true_eq];omega];rw[fA,decide_eq_true hl,Bool.true_and] at q;refine t7 ?_;left;refine⟨a,rfl,⟨_,d0.of ea⟩,λD hD=>eU (λu=>V.bl (bG u)) ea al hD (by omega) (λx p H' Q' hp sm rx q'=>?_) λH' sm hd=>M0 (oY (bs:=ts.map bG) (by rw[List.map_map];exact hd) (n6 ?_))⟩
   ·left;exact⟨x,p,rfl,rx.same sm,q' _ (b9.refl _)⟩
   ·rw[List.all_map];show if ts.all bG=true then _ else _
    cases z:ts.all bG with
    | false=>
     rw[z,Bool.false_and] at q;exact t7 (q _ sm)
    | true=>
     rw[z,Bool.true_and] at q;obtain⟨ps,rfl,gp⟩:=wR z;refine v9 ?_;left;have al:=T5 ip;rw[qM] at hl;refine⟨a,rfl,⟨_,d0.of (sm _ _ ea)⟩,λD2 hD2=>eU (λp=>V.int (aQ p)) (sm _ _ ea) al hD2 (by omega) (λx p H2 Q' hp sm2 rx q'=>?_) λH2 sm2 hd2=>M0 ?_⟩
     ·left;exact⟨x,p,rfl,rx.same (sm.trans sm2),q' _ (b9.refl _)⟩
     ·rw[yG] at q;exact⟨D2,ps.map aQ,rfl,by rw[List.map_map];exact hd2,by rw[qM];omega,λH3 s3=>q _ ((sm.trans sm2).trans s3)⟩
  ·rw[show decide ((1:Int)<=xs.length/\(xs.length:Int)<=4)=false by rw[decide_eq_false_iff_not];omega];rw[fA,decide_eq_false hl,Bool.false_and] at q;exact v9 (q _ (b9.refl _))
 | im v=>
  cases i.im;cases x<;>exact n6 (v9 (q _ (b9.refl _)))
 | _=>exact n6 (v9 (q _ (b9.refl _)))
def ypM:Sp:=λvs H Q _=>∃ x tr,vs=[x]/\Is H x tr/\A1 tr=true/\∀ H',b9 H H'->Q (.bl (eI tr)) H'
theorem yuy:OF P w base T.zm 5 ypM:=by
 o_head (T.zm.F,ys7);obtain⟨x,tr,rfl,i,sm,q⟩:=h;refine⟨_,(f7 (A7 (PW.pt (V5 (L3 (F4 (o6 (Zr T) hr (b7 n9 (b7 c8 (b7 (pv 0) c6)))))) (Z5 (L3 (F4 (o6 (ytL T) hr (b7 (xT (pv 0)) c6))))))) (j0 (r6 v8)) B4) (f7 (A7 (L3 (F4 (eF (rA T) hr T.QN (b7 (xT (pv 0)) (b7 (aA rfl T.Ju) (b7 (aA rfl T.JB) c6)))))) (j0 (r6 v8)) B4) (j0 (r6 (N0 (o6 (yrC T) hr (b7 (xT (pv 0)) c6)) (N0 (z8 Q7 rfl T.Ja F2 (b7 (xT (pv 0)) (b7 (P4 rfl T.Qn rY) c6))) (N6 (z8 Q7 rfl T.Ja F2 (b7 (xT (pv 0)) (b7 (P4 rfl T.Qn rY) c6)))))))))),?_⟩;left;refine⟨"tones",6,x,tr,rfl,i,by decide,n6 ?_⟩;cases z:eM "tones" 6 tr with
 | false=>
  rw[Wz z] at q;exact v9 (q _ (b9.refl _))
 | true=>
  obtain⟨b,ts,rfl,l,hb⟩:=yV z
  match ts,l with
  | [t1,t2,t3,t4,t5],_=>
   obtain⟨a,xs,rfl,ea,is⟩:=i.tp;obtain⟨y0,r,rfl,i0,is⟩:=R6 is;obtain⟨y1,r,rfl,i1,is⟩:=R6 is;obtain⟨y2,r,rfl,i2,is⟩:=R6 is;obtain⟨y3,r,rfl,i3,is⟩:=R6 is;obtain⟨y4,r,rfl,i4,is⟩:=R6 is;obtain⟨y5,r,rfl,i5,is⟩:=R6 is;rw[eI,hb,Bool.true_and] at q;refine t7 ?_;left;refine B9 1 (m9.of ea) ?_;left;refine⟨y1,t1,rfl,i1,λH1 s1=>n6 ?_⟩;have e1:=s1 _ _ ea;cases z1:fA t1 with
   | false=>
    rw[z1,Bool.false_and] at q;exact v9 (q _ s1)
   | true=>
    rw[z1,Bool.true_and] at q;refine t7 ?_;left;refine B9 2 (m9.of e1) ?_;left;refine⟨y2,t2,2,384,rfl,i2.same s1,n6 ?_⟩;cases z2:W5 2 384 t2 with
    | false=>
     rw[z2,Bool.false_and] at q;exact v9 (q _ s1)
    | true=>
     rw[z2,Bool.true_and] at q;refine t7 ?_;left;refine B9 3 (m9.of e1) ?_;left;refine⟨y3,t3,rfl,i3.same s1,(sE sm).2 _ (by simp),λH2 s2=>n6 ?_⟩;have e2:=s2 _ _ e1;have s02:=s1.trans s2;cases z3:nE t3 with
     | false=>
      rw[z3,Bool.false_and] at q;exact t7 (q _ s02)
     | true=>
      rw[z3,Bool.true_and] at q;refine v9 ?_;left;refine B9 4 (m9.of e2) ?_;left;refine U9 (i4.same s02).knd (n6 ?_);have bk:∀ tr:Th,(kT tr).isA "bool"=lQ tr:=λtr=>by
       cases tr with
       | im v=>cases v<;>rfl
       | _=>rfl
      rw[bk];cases z4:lQ t4 with
      | false=>
       rw[z4,Bool.false_and] at q;exact t7 (q _ s02)
      | true=>
       rw[z4,Bool.true_and] at q;refine v9 ?_;left;refine B9 5 (m9.of e2) ?_;left;refine U9 (i5.same s02).knd ?_;rw[bk];exact q _ s02
def S5 (t:Ad)(Hs:Hp)(E:XK):Prop:=∀ (e:Addr) (o:Obj) (us:Array Value) (H':Hp),b9 Hs H'->o.cls=.ref t.Rr->o.dict=none->o.data=.fields us->H' e=some (fP e o)->E (.ref e) (some t.Rr) H'
theorem S5.up {Hs H:Hp}{E:XK}(r:S5 t Hs E)(s:b9 Hs H):S5 t H E:=λe o us H' s' a b c d=>r e o us H' (s.trans s') a b c d
def yqQ (t:Ad):Sp:=λvs H Q E=>∃ b z,vs=[.bl b,.str z]/\(b=true->Q .non H)/\(b=false->S5 t H E)
theorem aZ:OG P w base T.Jr 1 (yqQ t):=by
 o_head [T.Jr.F,Ww];obtain⟨b,z,rfl,q1,q2⟩:=h;refine⟨_,(j0 (A7 (L3 (F4 (pv 0))) (j0 (Vu F.excBase_ValueError hr.hd T.Qe T.Qf T.JT.mb T.Qg rfl T.JP (b7 (pv 1) c6))) B4)),?_⟩;left;cases b with
 | true=>exact t7 (F9 (q1 rfl))
 | false=>
  refine v9 ?_;left;refine⟨_,rfl,by show 1<=1000;decide,λe o us he hc hd hf=>q2 rfl e o us _ (m8 he _) hc hd hf f9⟩
theorem kU {H:Hp}{a:Addr}{o o':HO}:upd (upd H a o) a o'=upd H a o':=by
 funext b
 by_cases e:b=a
 ·rw[e,f9,f9]
 ·rw[u6 e,u6 e,u6 e]
def yl2 (t:Ad):Sp:=λvs H Q _=>∃ (C a dx:Addr) (n:Int),vs=[.ref a,.int n]/\(C=t.RA∨C=t.RB)/\H a=some (.ins C dx [])/\Q .non (upd H a (.ins C dx [("length",.int n)]))
theorem oO:ON P w mg base T.zk 1 (yl2 t):=by
 o_head (T.zk.F,ytr);obtain⟨C,a,dx,z,rfl,hC,ea,q⟩:=h;refine⟨_,(j0 (fO (pv 0) (pv 1) rfl)),?_⟩;left;rcases hC with rfl | rfl
 ·exact⟨a,_,dx,_,rfl,ea,T.Jq,T.Jk,by decide,q⟩
 ·exact⟨a,_,dx,_,rfl,ea,T.Jc,T.Jo,by decide,q⟩
theorem eK {H:Hp}{x:V}{c:Addr}{ty:Value}{b:Bool}{Q:VK}(h:U3 K H x ty)(k:PySem.W.kitOne K ty (.ref c)=some b)(q:Q (.bl b) H):dY K [x,.ref c] H Q:=⟨x,c,ty,b,rfl,h,k,q⟩
abbrev made (H:Hp)(C a dx:Addr):Hp:=upd (upd H dx (.own a)) a (.ins C dx [])
theorem iB {H:Hp}{C a dx:Addr}(ha:H a=none)(hd:H dx=none)(ne:dx≠a):b9 H (made H C a dx):=λb u e=>by
 unfold made;rw[u6 (G8 e ha),u6 (G8 e hd)];exact e
theorem Xg {H:Hp}{C a dx b:Addr}(h:made H C a dx b=none):b≠a/\H b=none:=by
 unfold made at h;by_cases e:b=a
 ·rw[e,f9] at h;cases h
 ·rw[u6 e] at h;by_cases e2:b=dx
  ·rw[e2,f9] at h;cases h
  ·rw[u6 e2] at h;exact⟨e,h⟩
theorem qJ {H:Hp}{C a dx:Addr}{o:HO}(ha:H a=none)(hd:H dx=none)(ne:dx≠a):b9 H (upd (made H C a dx) a o)/\∀ Hs,nw Hs H (upd (made H C a dx) a o) a=some o :=
 ⟨λb u e=>by rw[u6 (G8 e ha)];exact iB ha hd ne b u e,λHs=>by rw[A4 ha];exact f9⟩
theorem Is.tones {H:Hp}{x:V}{ps:List G7}{n:Int}{wd:Str}{op cl:Bool}(h:Is H x (z6 (.tones ps n wd op cl))):∃ a y,x=.ref a/\H a=some (.tup [.str "tones",y,.int n,.str wd,.bl op,.bl cl])/\Is H y (lT ps):=by
 unfold z6 at h;rw[Is] at h;obtain⟨a,ys,rfl,e,is⟩:=h;rw[Iss] at is;obtain⟨y0,r0,rfl,i0,is⟩:=is;rw[Iss] at is;obtain⟨y1,r1,rfl,i1,is⟩:=is;rw[Iss] at is;obtain⟨y2,r2,rfl,i2,is⟩:=is;rw[Iss] at is;obtain⟨y3,r3,rfl,i3,is⟩:=is;rw[Iss] at is;obtain⟨y4,r4,rfl,i4,is⟩:=is;rw[Iss] at is;obtain⟨y5,r5,rfl,i5,is⟩:=is;rw[Iss] at is;rw[sT,Is] at i0 i3;rw[nT,Is] at i2;rw[bT,Is] at i4 i5;rw[is,i0.1,i2.1,i3.1,i4.1,i5.1] at e;exact⟨a,y1,rfl,e,i1⟩
theorem Is.rest {H:Hp}{x:V}{n:Int}(h:Is H x (z6 (.rest n))):∃ a,x=.ref a/\H a=some (.tup [.str "rest",.int n]):=by
 unfold z6 at h;rw[Is] at h;obtain⟨a,ys,rfl,e,is⟩:=h;rw[Iss] at is;obtain⟨y0,r0,rfl,i0,is⟩:=is;rw[Iss] at is;obtain⟨y1,r1,rfl,i1,is⟩:=is;rw[Iss] at is;rw[sT,Is] at i0;rw[nT,Is] at i1;rw[is,i0.1,i1.1] at e;exact⟨a,rfl,e⟩
theorem sR {H:Hp}{a:Addr}{y:V}{ps:List G7}{n:Int}{wd:Str}{op cl:Bool}(e:H a=some (.tup [.str "tones",y,.int n,.str wd,.bl op,.bl cl]))(i:Is H y (lT ps)):Is H (.ref a) (z6 (.tones ps n wd op cl)) :=
 aK e (A9 (B5 rfl) (A9 i (A9 (M5 _ _) (A9 (B5 rfl) (A9 (B5 rfl) (A9 (B5 rfl) (J7 _)))))))
theorem xh {H:Hp}{a:Addr}{n:Int}(e:H a=some (.tup [.str "rest",.int n])):Is H (.ref a) (z6 (.rest n)):=aK e (A9 (B5 rfl) (A9 (M5 _ _) (J7 _)))
def gQ (l:Addr)(n:Int)(wd:Str)(op cl:Bool):List (Str×V):=[("length",.int n),("pitches",.ref l),("word",.str wd),("opens",.bl op),("closes",.bl cl)]
def So (t:Ad)(H:Hp)(x:V):Sn->Prop
 | .rest n=>∃ a dx,x=.ref a/\H a=some (.ins t.RA dx [("length",.int n)])
 | .tones ps n wd op cl=>∃ a dx l,x=.ref a/\H a=some (.ins t.RB dx (gQ l n wd op cl))/\Is H (.ref l) (lT ps)
theorem So.same {H H':Hp}{x:V}{sn:Sn}(s:b9 H H')(h:So t H x sn):So t H' x sn:=by
 cases sn with
 | rest n=>obtain⟨a,dx,e,ea⟩:=h;exact⟨a,dx,e,s _ _ ea⟩
 | tones ps n wd op cl=>obtain⟨a,dx,l,e,ea,i⟩:=h;exact⟨a,dx,l,e,s _ _ ea,i.same s⟩
def Ub (t:Ad):Sp:=λvs H Q _=>∃ (a dx l:Addr) (xs:List V) (n:Int) (wd:Str) (op cl:Bool),vs=[.ref a,.ref l,.int n,.str wd,.bl op,.bl cl]/\H a=some (.ins t.RB dx [])/\H l=some (.lst xs)/\l≠a /\
 ∀ l',H l'=none->Q .non (upd (upd H l' (.lst xs)) a (.ins t.RB dx (gQ l' n wd op cl)))
theorem Xb:ON P w mg base T.zi 2 (Ub t):=by
 o_head (T.zi.F,DZ);obtain⟨a,dx,l,xs,n,wd,op,cl,rfl,ea,el,nl,q⟩:=h;refine⟨_,(f7 (E7 (Yx (Q3 (v:=.ref t.Rz) rfl T.Qk rfl) T.Rc (oO T) (B2 hr) T.zk.B K4 (b7 (pv 0) (b7 (pv 2) c6)))) (f7 (fO (pv 0) (bC eJ rfl T.Jg Y1 (b7 (pv 1) c6)) rfl) (f7 (fO (pv 0) (pv 3) rfl) (f7 (fO (pv 0) (pv 4) rfl) (j0 (fO (pv 0) (pv 5) rfl)))))),?_⟩;left;refine⟨t.RB,a,dx,n,rfl,.inr rfl,ea,?_⟩;left;refine⟨l,xs,rfl,.inl (d0.of (by rw[u6 nl];exact el)),λl' hl'=>?_⟩;have n1:l'≠a:=λz=>by rw[z,f9] at hl';cases hl'
 rw[u6 n1] at hl';have fin:=q l' hl';have sw:upd (upd H a (.ins t.RB dx [("length",.int n)])) l' (.lst xs)=upd (upd H l' (.lst xs)) a (.ins t.RB dx [("length",.int n)]):=by
  funext b
  by_cases e:b=a
  ·rw[e,u6 n1.symm,f9,f9]
  ·by_cases e2:b=l'
   ·rw[e2,f9,u6 n1,f9]
   ·rw[u6 e2,u6 e,u6 e,u6 e2]
 rw[sw];generalize upd H l' (.lst xs)=H1 at fin |-;refine E9 rfl ⟨a,_,dx,_,rfl,f9,T.Jc,T.Js,by show 1 < 1000;decide,?_⟩;left;refine⟨a,_,dx,_,rfl,f9,T.Jc,T.JJ,by show 2 < 1000;decide,?_⟩;left;refine⟨a,_,dx,_,rfl,f9,T.Jc,T.Jl,by show 3 < 1000;decide,?_⟩;left;refine⟨a,_,dx,_,rfl,f9,T.Jc,T.Jp,by show 4 < 1000;decide,?_⟩;show Q .non _
 rw[kU,kU,kU,kU];exact fin
def tpo (H:Hp):Hp:=λb=>match H b with
 | some (.tup xs)=>some (.tup xs)
 | _=>none
theorem qH {H:Hp}{b:Addr}{u:HO}(h:tpo H b=some u):H b=some u/\∃ xs,u=.tup xs:=by
 unfold tpo at h;cases e:H b with
 | none=>rw[e] at h;cases h
 | some v=>
  rw[e] at h;cases v<;>first | (cases h;exact⟨rfl,_,rfl⟩) | cases h
theorem xV {H:Hp}{b:Addr}{xs:List V}(h:H b=some (.tup xs)):tpo H b=some (.tup xs):=by unfold tpo;rw[h]
theorem L9 (H:Hp):b9 (tpo H) H:=λb u h=>(qH h).1
theorem xu {H:Hp}{xs:List V}{ps:List G7}(h:Iss H xs (ps.map pT)):Iss (tpo H) xs (ps.map pT):=bX ((T5 h).imp λy p _ iy=>by
 obtain⟨a,rfl,ea⟩:=iy.pit;exact tE (xV ea))
theorem Xa {α β:Type}{K:qF}{a D:Addr}{xs:List V}{us:List α}{te:TE}{Fin:Hp->Prop}{o:Option V}{r:St}{H Hs Ht:Hp}{R:Hp->V->α->Prop}{S:Hp->V->β->Prop}(hS:cW S)(f:α->β)
  (sT:b9 Ht H) (ha:H a=some (.lst xs)) (al:Al (R Hs) xs us) (hD:H D=none) (hz:us.length<=900)
  (hte:∀ x u (H':Hp) (Q':VK),u∈us->b9 H H'->R Hs x u->(∀ y H'',b9 H' H''->S (nw Ht H' H'') y (f u)->Q' y H'')->te (some x :: r) H' Q')
  (fin:∀ ys H',b9 H H'->H' D=some (.lst ys)->Al (S (nw Ht H (rm H' D))) ys (us.map f)->Fin H') :
  ∃ W:Nat->Nat->St->Hp->Prop,(∃ m,W 0 m (o :: r) (upd H D (.lst [])))/\T9 (V9 K a) (G9 0) Y4 te D Fin W:=by
 refine iH (xs:=xs) (λi σ' H'=>(∃ o,σ'=o :: r)/\b9 H H'/\∃ ys,H' D=some (.lst ys)/\Al (S (nw Ht H (rm H' D))) ys ((us.take i).map f)) ⟨⟨_,rfl⟩,m8 hD _,[],f9,Al.nil⟩ (λ_ _ _ _ h=>d0.of (h.2.1 _ _ ha)) ?_ ?_
 ·rintro i x σ' H' N hN hx ⟨⟨o,rfl⟩,sm,ys,hd,as⟩;obtain⟨hi,rx⟩:=Z0 al hx;refine A2 (aE (v9 ?_));refine hte x us[i] H' _ (List.getElem_mem hi) sm rx λy H2 t2 sy=>⟨ys,t2 _ _ hd,?_,hN _ _ ⟨⟨_,rfl⟩,O5 hD (sm.trans t2),_,f9,?_⟩⟩
  ·rw[as.1,qM,qT];exact F1 (by omega)
  ·have key:∀ {c u},H2 c=some u->c≠D->H c=none->nw Ht H (rm (upd H2 D (.lst (ys++[y]))) D) c=some u:=λe n h=>by rw[A4 h,cD n,u6 n];exact e
   have up:b9 (nw Ht H' H2) (nw Ht H (rm (upd H2 D (.lst (ys++[y]))) D)):=λc u e=>by
    cases h1:H' c with
    | none=>
     rw[A4 h1] at e;exact key e (λz=>by rw[z,hd] at h1;cases h1) (sm.free h1)
    | some v=>
     rw[J9 h1] at e;rw[J9 (sT _ _ e)];exact e
   rw[List.take_succ_eq_append_getElem hi,qP];refine Al.snoc (as.imp λ_ _ _ z=>hS (λc u e=>?_) z) (hS up sy);cases h:H c with
   | none=>
    rw[A4 h] at e;obtain⟨n,e⟩:=iP e;exact key (t2 _ _ e) n h
   | some v=>rw[J9 h] at e |-;exact e
 ·rintro σ' H' ⟨_,sm,ys,hd,as⟩;rw[al.1,List.take_length] at as;exact fin ys H' sm hd as
inductive jI where
 | r | t
def vK (t:Ad):jI->Addr
 | .r=>t.RA
 | .t=>t.RB
def jh (t:Ad):jI->Addr
 | .r=>t.f_zad
 | .t=>t.f_zG
def Xy (t:Ad):jI->FuncData
 | .r=>t.d_zad
 | .t=>t.d_zG
theorem kX (T:Txt K mg t):∀ i,R8 K (vK t i)
 | .r=>T.Jq
 | .t=>T.Jc
theorem jX (T:Txt K mg t):∀ i,aP K (vK t i) "told" (jh t i)
 | .r=>T.QP
 | .t=>T.Ra
theorem kO (T:Txt K mg t):∀ i,B0 K (Xy t i) ["self"] []
 | .r=>T.Re.B
 | .t=>T.zG.B
def PX:Sn->jI
 | .rest _=>.r
 | .tones ..=>.t
def oX (t:Ad)(i:jI):Sp:=λvs H Q _=>∃ x sn Hs,vs=[x]/\PX sn=i/\b9 Hs H/\So t Hs x sn/\∀ y H',b9 H H'->Is (nw (tpo Hs) H H') y (z6 sn)->Q y H'
theorem ytx:ON P w mg base T.Re 1 (oX t .r):=by
 o_head (T.Re.F,yq6);obtain⟨x,sn,Hs,rfl,hk,sH,h,q⟩:=h;cases sn with
 | tones=>cases hk
 | rest n=>
  obtain⟨a,dx,rfl,ea⟩:=h;refine⟨_,(j0 (r6 (g8 (b7 n9 (b7 (M3 (pv 0) rfl) c6))))),?_⟩;left;refine⟨a,_,dx,_,_,rfl,sH _ _ ea,T.Jq,T.Jk,rfl,?_⟩;left;refine⟨by show 2<=sizeLine;decide,λp hp=>q _ _ (m8 hp _) (aK (by rw[A4 hp];exact f9) (A9 (B5 rfl) (A9 (M5 _ _) (J7 _))))⟩
theorem ysG:ON P w mg base T.zG 1 (oX t .t):=by
 o_head (T.zG.F,PQ);obtain⟨x,sn,Hs,rfl,hk,sH,h,q⟩:=h;cases sn with
 | rest=>cases hk
 | tones ps n wd op cl=>
  obtain⟨a,dx,l,rfl,ea,i⟩:=h;obtain⟨l2,xs,e,el,il⟩:∃ l2 xs,V.ref l=.ref l2/\Hs l2=some (.lst xs)/\Iss Hs xs (ps.map pT):=by rw[lT,Is] at i;exact i
  cases e;have ea':=sH _ _ ea;refine⟨_,(j0 (r6 (g8 (b7 n9 (b7 (bC eJ rfl T.Jg Y1 (b7 (M3 (pv 0) rfl) c6)) (b7 (M3 (pv 0) rfl) (b7 (M3 (pv 0) rfl) (b7 (M3 (pv 0) rfl) (b7 (M3 (pv 0) rfl) c6))))))))),?_⟩;left;refine⟨a,_,dx,_,_,rfl,ea',T.Jc,T.Js,rfl,?_⟩;left;refine⟨l,xs,rfl,.inl (d0.of (sH _ _ el)),λl' hl'=>?_⟩;have s2:=m8 hl' (.lst xs);have ea2:=s2 _ _ ea';show lM _ _ _ _ _ _
  left;refine⟨a,_,dx,_,_,rfl,ea2,T.Jc,T.Jo,rfl,?_⟩;left;refine⟨a,_,dx,_,_,rfl,ea2,T.Jc,T.JJ,rfl,?_⟩;left;refine⟨a,_,dx,_,_,rfl,ea2,T.Jc,T.Jl,rfl,?_⟩;left;refine⟨a,_,dx,_,_,rfl,ea2,T.Jc,T.Jp,rfl,?_⟩;left;refine D6 λp hp=>?_
  have s3:=s2.trans (m8 hp (.tup [.str "tones",.ref l',.int n,.str wd,.bl op,.bl cl]));refine q _ _ s3 (aK (by rw[A4 (s2.free hp)];exact f9) (A9 (B5 rfl) (A9 (E3 (xs:=xs) ?_ ((xu il).same (Y0 ((L9 Hs).trans sH)))) (A9 (M5 _ _) (A9 (B5 rfl) (A9 (B5 rfl) (A9 (B5 rfl) (J7 _))))))));rw[A4 hl'];exact m8 hp _ _ _ f9
theorem jJ (T:Txt K mg t):∀ i,z0 P w K mg base S3 1 (jh t i) (Xy t i) ["self"] (oX t i)
 | .r=>ytx T
 | .t=>ysG T
theorem hW {H Hs:Hp}{x:V}{sn:Sn}{Q:VK}{E:XK}(sH:b9 Hs H)(h:So t Hs x sn)(q:∀ y H',b9 H H'->Is (nw (tpo Hs) H H') y (z6 sn)->Q y H'):∃ (i:jI) (a dx:Addr) (fs:List (Str×V)),x=.ref a/\H a=some (.ins (vK t i) dx fs)/\fs.lookup (Str.ofString "told")=none/\oX t i [x] H Q E:=by
 cases sn with
 | rest n=>
  obtain⟨a,dx,rfl,ea⟩:=id h;exact⟨.r,a,dx,_,rfl,sH _ _ ea,rfl,_,_,Hs,rfl,rfl,sH,h,q⟩
 | tones ps n wd op cl=>
  obtain⟨a,dx,l,rfl,ea,i⟩:=id h;exact⟨.t,a,dx,_,rfl,sH _ _ ea,rfl,_,_,Hs,rfl,rfl,sH,h,q⟩
def M4:Sn->Bool
 | .rest _=>true
 | _=>false
def F7 (sns:List Sn):Bool:=match sns.getLast? with
 | some sn=>M4 sn
 | none=>false
theorem So.isa (T:Txt K mg t){H:Hp}{x:V}{sn:Sn}(h:So t H x sn):∃ C,U3 K H x C/\PySem.W.kitOne K C (.ref t.RA)=some (M4 sn):=by
 cases sn with
 | rest n=>obtain⟨a,dx,rfl,ea⟩:=h;exact⟨_,T.Qa.ty T.Jq ea,T.JX⟩
 | tones ps n wd op cl=>obtain⟨a,dx,l,rfl,ea,i⟩:=h;exact⟨_,T.JA.ty T.Jc ea,T.JK⟩
theorem fY {α:Type}{S:V->α->Prop}{xs:List V}{us:List α}{u:α}(h:Al S xs us)(e:us.getLast?=some u):∃ ys x,xs=ys++[x]/\S x u/\∃ vs,us=vs++[u]/\Al S ys vs:=by
 obtain⟨vs,rfl⟩:=List.getLast?_eq_some_iff.mp e;have l:=h.1;rw[qA,qS] at l;obtain⟨x,e1,s1⟩:=h.2 vs.length (by rw[qA,qS];omega);have ex:xs=xs.take vs.length++[x]:=by
  have:=List.take_append_drop vs.length xs;rw[List.drop_eq_getElem_cons (by omega),List.drop_eq_nil_of_le (by omega)] at this;rw[qG (by omega)] at e1;rw[<- Option.some.inj e1];exact this.symm
 refine⟨xs.take vs.length,x,ex,by simpa using s1,vs,rfl,by rw[qT];omega,λi hi=>?_⟩;obtain⟨y,e2,s2⟩:=h.2 i (by rw[qA,qS];omega);exact⟨y,by rw[List.getElem?_take_of_lt hi];exact e2,by rw[List.getElem_append_left hi] at s2;exact s2⟩
def yrS (t:Ad):Sp:=λvs H Q _=>∃ (l:Addr) (xs:List V) (sns:List Sn),vs=[.ref l]/\H l=some (.lst xs)/\Al (So t H) xs sns/\∀ H',b9 H H'->Q (.bl (F7 sns)) H'
theorem A_:OF P w base T.zr 1 (yrS t):=by
 o_head (T.zr.F,yth);obtain⟨l,xs,sns,rfl,el,al,q⟩:=h;refine⟨_,(j0 (r6 (N0 (N2 (lO hu) (pv 0) (j8 c6) (z5 _)) (N6 (z8 (show P7 _ _ (dY K) from iQ) rfl T.Ja F2 (b7 (F8 j9 (pv 0) (X2 W6 c8) (λ_ _=>rfl)) (b7 (Q3 (v:=.ref t.RA) rfl T.JE rfl) c6))))))),?_⟩;left;refine D6 λp hp=>?_
 have s2:=m8 hp (.lst []);have el2:=s2 _ _ el;refine⟨l,p,xs,rfl,rfl,d0.of el2,d0.of f9,n6 ?_⟩;cases e:sns.getLast? with
 | none=>
  have hs:sns=[]:=List.getLast?_eq_none_iff.mp e;have hx:xs=[]:=by have:=al.1;rw[hs] at this;exact List.eq_nil_of_length_eq_zero this
  rw[hx];refine t7 ?_;have:=q _ s2;unfold F7 at this;rw[e] at this;exact this
 | some sn=>
  obtain⟨ys,x,ex,sx,vs,_,_⟩:=fY al e;have ne:(!xs.isEmpty)=true:=by rw[ex];cases ys<;>rfl
  rw[ne];refine v9 ?_;left;rw[ex] at el2;refine M8 (d0.of el2) (fH ys x) ?_;left;obtain⟨C,ty,k⟩:=(sx.same s2).isa T;refine eK ty k ?_;have:=q _ s2;unfold F7 at this;rw[e] at this;exact this
theorem Kp (ys:List V)(x:V):O0 (ys++[x]) none (some (-1))=ys:=by
 unfold O0;rw[HT.sIx_none];simp[HT.sIx];rw[show(-1+((ys.length:Int)+1)).toNat=ys.length by omega];exact List.take_left
def yku (t:Ad):Sp:=λvs H Q E=>∃ (x:V) (tr:Th) (Hs:Hp),vs=[x]/\b9 Hs H/\Is Hs x tr/\A1 tr=true/\(∀ s,tr=z6 s->K3 s->∀ y H',b9 H H'->So t (nw (tpo Hs) H H') y s->Q y H')/\(eD tr=false->S5 t Hs E)
theorem xM:OG P w base T.QB 6 (yku t):=by
 o_head [T.QB.F,yse];obtain⟨x,tr,Hs,rfl,sH,i,sm,q,rf⟩:=h;refine⟨_,(f7 (A7 (F4 (o6 (ysS T) hr (b7 (pv 0) c6))) (j0 (r6 (dD T.Ql (oO T) (B2 hr) rfl T.JE T.zk.B .nil K4 (b7 (xT (pv 0)) c6)))) B4) (f7 (A7 (F4 (o6 (yuy T) hr (b7 (pv 0) c6))) (j0 (r6 (dD T.Qt (Xb T) (B2 hr) rfl T.JY T.zi.B .nil K4 (b7 (xT (pv 0)) (b7 (xT (pv 0)) (b7 (xT (pv 0)) (b7 (xT (pv 0)) (b7 (xT (pv 0)) c6)))))))) B4) (j0 (Vu F.excBase_ValueError hr.hd T.Qe T.Qf T.JT.mb T.Qg rfl T.JP (b7 n9 c6))))),?_⟩;left;refine⟨x,tr,rfl,i.same sH,n6 ?_⟩;cases z:eY tr with
 | true=>
  obtain⟨n,rfl,gs⟩:=xt z;obtain⟨a,rfl,ea⟩:=i.rest;refine v9 ?_;left;refine B9 1 (m9.of (sH _ _ ea)) ?_;left;intro a2 dx ha hd ne;refine⟨t.RA,a2,dx,n,rfl,.inl rfl,f9,rfl,?_⟩;obtain⟨s2,e2⟩:=qJ (C:=t.RA) (o:=.ins t.RA dx [("length",.int n)]) ha hd ne;exact q _ rfl gs _ _ s2 ⟨a2,dx,rfl,e2 (tpo Hs)⟩
 | false=>
  refine t7 ?_;left;refine⟨x,tr,rfl,i.same sH,sm,λH1 s1=>n6 ?_⟩;cases z2:eI tr with
  | false=>
   refine t7 ?_;left;refine⟨by show 1<=1000;decide,λe o us he hc hd hf=>rf (by rw[eD,z,z2];rfl) e o us _ ((sH.trans s1).trans (m8 he _)) hc hd hf f9⟩
  | true=>
   obtain⟨ps,n,wd,op,cl,rfl,gs⟩:=Zk z2;obtain⟨a,y,rfl,ea,iy⟩:=i.tones;obtain⟨l,xs,rfl,el,il⟩:∃ l xs,y=.ref l/\Hs l=some (.lst xs)/\Iss Hs xs (ps.map pT):=by rw[lT,Is] at iy;exact iy
   refine v9 ?_;have e1:=s1 _ _ (sH _ _ ea);left;refine B9 1 (m9.of e1) ?_;left;refine B9 2 (m9.of e1) ?_;left;refine B9 3 (m9.of e1) ?_;left;refine B9 4 (m9.of e1) ?_;left;refine B9 5 (m9.of e1) ?_;left;intro a2 dx ha hd ne;have el1:=s1 _ _ (sH _ _ el);refine⟨a2,dx,l,xs,n,wd,op,cl,rfl,f9,iB ha hd ne _ _ el1,G8 el1 ha,λl' hl'=>⟨rfl,?_⟩⟩;obtain⟨n1,n2⟩:=Xg hl';have sm:b9 H1 (upd (upd (made H1 t.RB a2 dx) l' (.lst xs)) a2 (.ins t.RB dx (gQ l' n wd op cl))):=λb u e=>by
    rw[u6 (G8 e ha),u6 (G8 e n2)];exact iB ha hd ne b u e
   refine q _ rfl gs _ _ (s1.trans sm) ⟨a2,dx,l',rfl,by rw[A4 (s1.free ha)];exact f9,E3 ?_ ((xu il).same (Y0 ((L9 _).trans sH)))⟩;rw[A4 (s1.free n2),u6 n1];exact f9
def gp (Hs H0 H:Hp)(D:Addr):Hp:=nw Hs H0 (rm H D)
section
variable {Hs H0 H H':Hp} {D:Addr}
theorem V6 (sH:b9 Hs H0)(sm:b9 H0 H):b9 (gp Hs H0 H D) H:=λc u e=>by
 unfold gp at e;cases h:H0 c with
 | none=>rw[A4 h] at e;exact(iP e).2
 | some v=>rw[J9 h] at e;exact sm _ _ (sH _ _ e)
theorem bU (sH:b9 Hs H0):b9 Hs (gp Hs H0 H D):=Y0 sH
theorem Xi (s:∀ b u,b≠D->H b=some u->H' b=some u):b9 (gp Hs H0 H D) (gp Hs H0 H' D):=L6 (fM s)
theorem L7 (s:b9 H H'):b9 (gp Hs H0 H D) (gp Hs H0 H' D):=Xi λb u _ e=>s b u e
theorem dO {o:HO}:b9 (gp Hs H0 H D) (gp Hs H0 (upd H D o) D):=Xi λb u n e=>by rw[u6 n];exact e
theorem lA (sH:b9 Hs H0)(sm:b9 H0 H){u0:HO}(hd:H D=some u0)(t2:b9 H H'):b9 (nw (gp Hs H0 H D) H H') (gp Hs H0 H' D):=λc u e=>by
 cases h1:H c with
 | none=>
  rw[A4 h1] at e;unfold gp;rw[A4 (sm.free h1),cD (λz=>by rw[z,hd] at h1;cases h1)];exact e
 | some v=>
  rw[J9 h1] at e;exact L7 t2 _ _ e
theorem pL {p:Addr}{o:HO}(hD:p≠D)(hp:H0 p=none)(e:H p=some o):gp Hs H0 H D p=some o:=by unfold gp;rw[A4 hp,cD hD];exact e
theorem P5:b9 (gp Hs H0 H D) (nw Hs H0 H):=L6 (wQ _ _)
end
def F0 {α:Type}(R:Hp->V->α->Prop)(Hs H0 H:Hp)(D:Addr)(us:List α):Prop:=b9 H0 H/\∃ ks,H D=some (.lst ks)/\Al (R (gp Hs H0 H D)) ks us
section
variable {α:Type} {R:Hp->V->α->Prop} {Hs H0 H H':Hp} {D:Addr} {us:List α}
theorem F0.nil (hD:H0 D=none):F0 R Hs H0 (upd H0 D (.lst [])) D []:=⟨m8 hD _,[],f9,Al.nil⟩
theorem F0.same (hR:cW R)(h:F0 R Hs H0 H D us)(s:b9 H H'):F0 R Hs H0 H' D us:=by
 obtain⟨sm,ks,hd,al⟩:=h;exact⟨sm.trans s,ks,s _ _ hd,al.imp λ_ _ _ z=>hR (L7 s) z⟩
theorem F0.put (hR:cW R)(hD:H0 D=none){ks:List V}{x:V}{u:α}(sm:b9 H0 H)(al:Al (R (gp Hs H0 H D)) ks us)(rx:R (gp Hs H0 H D) x u):F0 R Hs H0 (upd H D (.lst (ks++[x]))) D (us++[u]) :=
 ⟨O5 hD sm,_,f9,(al.snoc rx).imp λ_ _ _ z=>hR dO z⟩
end
def G4:Sn->Int
 | .rest n=>n
 | .tones _ n _ _ _=>n
def X7 (ks:List Sn)(s:Sn):List Sn:=match M4 s&&F7 ks with
 | true=>ks.dropLast++[.rest (G4 (ks.getLastD (.rest 0))+G4 s)]
 | false=>ks++[s]
def C6 (ss:List Sn):List Sn:=ss.foldl X7 []
def cB (ss:List Sn):List Sn:=if F7 ss then ss.dropLast else ss
def x9 (ss:List Sn):List Sn:=cB (C6 ss)
def B3 (ss:List Sn):Int:=(ss.map G4).sum
theorem wS:cW (So t):=λs h=>h.same s
theorem So.len {H:Hp}{x:V}{s:Sn}(h:So t H x s)(T:Txt K mg t):∃ a C dx fs,x=.ref a/\H a=some (.ins C dx fs)/\R8 K C/\v7 K C "length" /\ fs.lookup (Str.ofString "length")=some (.int (G4 s)):=by
 cases s with
 | rest n=>obtain⟨a,dx,rfl,ea⟩:=h;exact⟨a,_,dx,_,rfl,ea,T.Jq,T.Jk,rfl⟩
 | tones ps n wd op cl=>obtain⟨a,dx,l,rfl,ea,_⟩:=h;exact⟨a,_,dx,_,rfl,ea,T.Jc,T.Jo,rfl⟩
theorem gU {H:Hp}{x:V}{s:Sn}{Q:V->Prop}(T:Txt K mg t)(h:So t H x s)(q:Q (.int (G4 s))):∃ a C dx fs v,x=.ref a/\H a=some (.ins C dx fs)/\R8 K C/\v7 K C "length" /\ fs.lookup (Str.ofString "length")=some v/\Q v:=by
 obtain⟨a,C,dx,fs,e,ea,c,n,l⟩:=h.len T;exact⟨a,C,dx,fs,_,e,ea,c,n,l,q⟩
def ylM (t:Ad):Sp:=λvs H Q _=>∃ (a:Addr) (xs:List V) (ss:List Sn),vs=[.ref a]/\H a=some (.lst xs)/\Al (So t H) xs ss/\ss.length<=100/\∀ H',b9 H H'->Q (.int (B3 ss)) H'
theorem ytE:OF P w base T.zZ 1 (ylM t):=by
 o_head (T.zZ.F,Wd);obtain⟨a,xs,ss,rfl,ea,al,len,q⟩:=h;refine⟨_,(j0 (r6 (z8 (Zw rfl) rfl T.QE xU (b7 (O9 (L0 (NB:=["sound"]) (cap:=[none]) rfl) rfl (K2 (pv 0)) (λ_ _ _ _=>O6 0) (λ_ _ _ _=>L8) (λ_ _ _ _=>(show PE _ _ (lM K _ "length") from M3 (pv 0) rfl))) c6)))),?_⟩;left;refine⟨a,rfl,⟨_,d0.of ea⟩,λD hD=>eU (λs=>V.int (G4 s)) ea al hD (by omega) (λx s H' Q' hs sm rx q'=>?_) λH' sm hd=>M0 ⟨D,ss.map G4,rfl,d0.of (by rw[List.map_map];exact hd),q _ sm⟩⟩;left;exact gU T (rx.same sm) (q' _ (b9.refl _))
def yp5 (t:Ad):Sp:=λvs H Q E=>∃ n:Int,vs=[.int n]/\(n<=4608->∀ y H',b9 H H'->(∀ Hs,So t (nw Hs H H') y (.rest n))->Q y H')/\(¬ n<=4608->S5 t H E)
theorem yr1:OG P w base T.QW 3 (yp5 t):=by
 o_head [T.QW.F,ysa];obtain⟨n,rfl,q,rf⟩:=h;refine⟨_,(f7 (E7 (N7 (aZ T) (B2 hr) rfl T.Jr.M T.Jr.F.kp T.Jr.B .nil Q4 (b7 (N2 X6 (pv 0) (aA rfl T.Jn) (z5 _)) (b7 n9 c6)))) (j0 (r6 (dD T.Ql (oO T) (B2 hr) rfl T.JE T.zk.B .nil K4 (b7 (pv 0) c6))))),?_⟩;left;refine⟨_,_,rfl,λhn=>?_,λhn=>rf (of_decide_eq_false hn)⟩;have hn:=of_decide_eq_true hn;left;intro a2 dx ha hd ne;refine⟨t.RA,a2,dx,n,rfl,.inl rfl,f9,rfl,?_⟩;obtain⟨s2,e2⟩:=qJ (C:=t.RA) (o:=.ins t.RA dx [("length",.int n)]) ha hd ne;exact q hn _ _ s2 λHs=>⟨a2,dx,rfl,e2 Hs⟩
theorem rS {α:Type}{p:List α->Prop}(h0:p [])(h1:∀ ss s,p ss->p (ss++[s]))(l:List α):p l:=by
 have z:∀ n,p (l.take n):=λn=>by
  induction n with
  | zero=>rw[List.take_zero];exact h0
  | succ n ih=>
   by_cases h:n < l.length
   ·rw[List.take_succ_eq_append_getElem h];exact h1 _ _ ih
   ·rw[List.take_of_length_le (by omega)];rw[List.take_of_length_le (by omega)] at ih;exact ih
 have:=z l.length
 rwa [List.take_length] at this
theorem gP {ks:List Sn}(h:F7 ks=true):∃ vs m,ks=vs++[.rest m]:=by
 unfold F7 at h;cases e:ks.getLast? with
 | none=>rw[e] at h;cases h
 | some s=>
  rw[e] at h;cases s with
  | tones=>cases h
  | rest m=>
   obtain⟨vs,rfl⟩:=List.getLast?_eq_some_iff.mp e;exact⟨vs,m,rfl⟩
theorem iK {vs:List Sn}{m n:Int}:X7 (vs++[.rest m]) (.rest n)=vs++[.rest (m+n)]:=by
 have:F7 (vs++[.rest m])=true:=by unfold F7;rw[List.getLast?_append];rfl
 unfold X7;rw[this];simp[M4,G4]
theorem gO {ks:List Sn}{s:Sn}(h:(M4 s&&F7 ks)=false):X7 ks s=ks++[s]:=by unfold X7;rw[h]
theorem aY (a b:List Sn):B3 (a++b)=B3 a+B3 b:=by unfold B3;rw[qP,List.sum_append]
theorem bZ (s:Sn):B3 [s]=G4 s:=by simp[B3]
theorem yls (ks:List Sn)(s:Sn):B3 (X7 ks s)=B3 ks+G4 s:=by
 by_cases h:(M4 s&&F7 ks)=true
 ·rw[Bool.and_eq_true] at h;obtain⟨vs,m,rfl⟩:=gP h.2;cases s with
  | tones=>cases h.1
  | rest n=>
   rw[iK,aY,aY,bZ,bZ];show B3 vs+(m+n)=B3 vs+m+n
   omega
 ·rw[gO (by simpa using h),aY,bZ]
theorem cV (ss:List Sn)(s:Sn):C6 (ss++[s])=X7 (C6 ss) s:=by unfold C6;rw[List.foldl_append];rfl
theorem jk (ss:List Sn):B3 (C6 ss)=B3 ss:=by
 refine rS (p:=λss=>B3 (C6 ss)=B3 ss) rfl (λss s ih=>?_) ss;rw[cV,yls,ih,aY,bZ]
def Pos (ss:List Sn):Prop:=∀ s∈ss,2<=G4 s
theorem WQ {ks:List Sn}{s:Sn}(h:Pos ks)(hs:2<=G4 s):Pos (X7 ks s):=by
 by_cases g:(M4 s&&F7 ks)=true
 ·rw[Bool.and_eq_true] at g;obtain⟨vs,m,rfl⟩:=gP g.2;cases s with
  | tones=>cases g.1
  | rest n=>
   rw[iK];intro z hz;rcases List.mem_append.mp hz with hz | hz
   ·exact h z (List.mem_append_left _ hz)
   ·have:z=.rest (m+n):=by simpa using hz
    subst this;have:=h (.rest m) (by simp);have e1:G4 (.rest m)=m:=rfl;have e2:G4 (.rest n)=n:=rfl;show 2<=m+n
    omega
 ·rw[gO (by simpa using g)];intro z hz;rcases List.mem_append.mp hz with hz | hz
  ·exact h z hz
  ·have:z=s:=by simpa using hz
   rw[this];exact hs
theorem qj {ss:List Sn}(h:Pos ss):Pos (C6 ss):=by
 refine rS (p:=λss=>Pos ss->Pos (C6 ss)) (λ_ s hs=>nomatch hs) (λss s ih h=>?_) ss h;rw[cV];exact WQ (ih λz hz=>h z (List.mem_append_left _ hz)) (h s (by simp))
theorem qK {ss:List Sn}(h:Pos ss):0<=B3 ss:=by
 induction ss with
 | nil=>exact Int.le_refl _
 | cons s ss ih=>
  have:=ih λz hz=>h z (List.mem_cons_of_mem _ hz)
  have:=h s (by simp);have e:B3 (s :: ss)=G4 s+B3 ss:=by simp[B3]
  omega
theorem yju {ss:List Sn}(h:Pos ss)(i:Nat):B3 (ss.take i)<=B3 ss:=by
 have e:=aY (ss.take i) (ss.drop i);rw[List.take_append_drop] at e;have:=qK (ss:=ss.drop i) λz hz=>h z (List.mem_of_mem_drop hz)
 omega
theorem ylS (ks:List Sn)(s:Sn):(X7 ks s).length<=ks.length+1:=by
 unfold X7;split
 ·rw[qA,List.length_dropLast];simp
 ·rw[qA];simp
theorem rZ (ss:List Sn):(C6 ss).length<=ss.length:=by
 refine rS (p:=λss=>(C6 ss).length<=ss.length) (qR _) (λss s ih=>?_) ss;rw[cV,qA];have:=ylS (C6 ss) s;simp;omega
def Z4 (ks:List Sn)(s:Sn):Bool:=match M4 s&&F7 ks with
 | true=>decide (G4 (ks.getLastD (.rest 0))+G4 s<=4608)
 | false=>true
def gW (ss:List Sn):Bool:=(List.range ss.length).all λi=>Z4 (C6 (ss.take i)) (ss.getD i (.rest 0))
theorem yqC {ss:List Sn}{i:Nat}(h:i < ss.length)(m:Z4 (C6 (ss.take i)) ss[i]=false):gW ss=false:=by
 cases z:gW ss with
 | false=>rfl
 | true=>
  have:=List.all_eq_true.mp z i (List.mem_range.mpr h);rw[List.getD_eq_getElem?_getD,qG h] at this;rw[show Z4 (C6 (ss.take i)) ss[i]=true from this] at m;cases m
theorem Ks {ss:List Sn}(h:∀ j (h:j < ss.length),Z4 (C6 (ss.take j)) ss[j]=true):gW ss=true:=List.all_eq_true.mpr λi m=>by
 have l:=List.mem_range.mp m;rw[List.getD_eq_getElem?_getD,qG l];exact h i l
def VJ (t:Ad):Sp:=λvs H Q E=>∃ (a:Addr) (xs:List V) (ss:List Sn) (Hs:Hp),vs=[.ref a]/\b9 Hs H/\H a=some (.lst xs)/\Al (So t Hs) xs ss/\ss.length<=100 /\
 (gW ss=true->∀ D ys H',b9 H H'->H D=none->H' D=some (.lst ys)->Al (So t (nw Hs H H')) ys (x9 ss)->Q (.ref D) H')/\(gW ss=false->S5 t H E)
theorem yqy:OG P w base T.QV 4 (VJ t):=by
 o_head [T.QV.F,Z7];obtain⟨a,xs,ss,Hs,rfl,sH,ea,al,len,q,rf⟩:=h;refine⟨_,(f7 (p0 1 Z7.nd (j8 c6)) (f7 (Z6 wH rfl (K2 (pv 0)) (U7 2 Z7.nd) (j0 (A7 (PW.pt (iV (F4 (z8 (show P7 _ _ (dY K) from iQ) rfl T.Ja F2 (b7 (pv 2) (b7 (Q3 (v:=.ref t.RA) rfl T.JE rfl) c6)))) (jF (F4 (o6 (A_ T) hr (b7 (pv 1) c6)))))) (j0 (E7 (U1 (pv 1) (b7 (N7 (yr1 T) (B2 hr) rfl T.QW.M T.QW.F.kp T.QW.B .nil Q4 (b7 (u9 O8 (M3 (nR F.plainAttrs_list F.slot_list_pop F.type_list_pop Vb (pv 1)) rfl) (M3 (pv 2) rfl)) c6)) c6)))) (j0 (E7 (U1 (pv 1) (b7 (pv 2) c6))))))) (j0 (r6 (yP (F4 (o6 (A_ T) hr (b7 (pv 1) c6))) (bA dJ (pv 1) bP (bS (X2 W6 c8))) (pv 1)))))),?_⟩;left;refine D6 λD hD=>?_
 left;refine⟨a,rfl,⟨_,d0.of (m8 hD _ _ _ ea)⟩,cJ (xs:=xs) (λi σ H'=>(∃ o,σ=[some (.ref a),some (.ref D),o])/\F0 (So t) Hs H H' D (C6 (ss.take i))/\∀ j (h:j < ss.length),j < i->Z4 (C6 (ss.take j)) ss[j]=true) ⟨⟨_,rfl⟩,F0.nil hD,λj _ z=>absurd z (Nat.not_lt_zero j)⟩ (λi σ H' _ p=>d0.of (p.2.1.1 _ _ ea)) ?_ ?_⟩
 ·rintro i x σ H' N hN hx ⟨⟨o,rfl⟩,acc,mk⟩;obtain⟨hi,rx⟩:=Z0 al hx;have tk:C6 (ss.take (i+1))=X7 (C6 (ss.take i)) ss[i]:=by rw[List.take_succ_eq_append_getElem hi,cV]
  have lk:=rZ (ss.take i);rw[qT] at lk;have mk2:Z4 (C6 (ss.take i)) ss[i]=true->∀ j (h:j < ss.length),j < i+1->Z4 (C6 (ss.take j)) ss[j]=true:=λm j h z=>by
   rcases Nat.lt_succ_iff_lt_or_eq.mp z with z | rfl
   ·exact mk j h z
   ·exact m
  have mno:Z4 (C6 (ss.take i)) ss[i]=false->S5 t H E:=λm=>rf (yqC hi m)
  generalize C6 (ss.take i)=ks at acc tk lk mk2 mno;generalize ss[i]=sn at rx tk mk2 mno;obtain⟨sm,kv,hd,ak⟩:=acc;have sH':=sH.trans sm;have go:gp Hs H H' D=gp Hs H H' D:=rfl;left;obtain⟨C,ty,k⟩:=(rx.same sH').isa T;refine eK ty k ?_;left;have lkv:=ak.1;have add:∀ H2,b9 H' H2->(M4 sn&&F7 ks)=false->N [some (.ref a),some (.ref D),some x] (upd H2 D (.lst (kv++[x]))):=λH2 s2 hf=>by
   refine hN _ _ ⟨⟨_,rfl⟩,?_,mk2 (by unfold Z4;rw[hf])⟩;rw[tk,gO hf];have ak2:Al (So t (gp Hs H H2 D)) kv ks:=ak.imp λ_ _ _ z=>z.same (L7 s2)
   exact F0.put (R:=So t) wS hD (sm.trans s2) ak2 (rx.same (bU sH))
  cases hr':M4 sn with
  | false=>
   refine t7 ?_;left;refine⟨.inl ⟨rfl,_,d0.of hd⟩,?_⟩;left;exact Q9 hd (F1 (by omega)) (add _ (b9.refl _) (by rw[hr'];rfl))
  | true=>
   refine v9 ?_;left;refine⟨D,kv,ks,rfl,hd,ak.imp λ_ _ _ z=>wS (V6 sH sm) z,λH2 s2=>n6 ?_⟩;have hd2:=s2 _ _ hd;cases he:F7 ks with
   | false=>
    refine t7 ?_;left;refine⟨.inl ⟨rfl,_,d0.of hd2⟩,?_⟩;left;exact Q9 hd2 (F1 (by omega)) (add _ s2 (by rw[he,Bool.and_false]))
   | true=>
    obtain⟨vs,m,rfl⟩:=gP he;cases sn with
    | tones=>cases hr'
    | rest n=>
     obtain⟨ys,y,rfl,sy,vs',e,ay⟩:=fY ak (by rw[List.getLast?_append];rfl:(vs++[Sn.rest m]).getLast?=some (.rest m));obtain⟨e,_⟩:=List.append_inj' e rfl;subst e;refine v9 ?_;left;refine⟨.inl ⟨rfl,_,d0.of hd2⟩,?_⟩;left;have sm2:=sm.trans s2;have ya:=sy.same (L7 s2);refine⟨.inl ⟨rfl,_,d0.of hd2⟩,D,_,y,rfl,rfl,hd2,by rw[qA,qS,Nat.add_sub_cancel];simp,?_⟩;rw[List.dropLast_concat];obtain⟨a0,dx,rfl,e0⟩:=id ya;have n0:a0≠D:=λz=>by rw[z] at e0;unfold gp at e0;rw[A4 hD,yU] at e0;cases e0
     have e2:=V6 sH sm2 _ _ e0;refine⟨a0,_,dx,_,_,rfl,by rw[u6 n0];exact e2,T.Jq,T.Jk,rfl,?_⟩;left;have s3:b9 H (upd H2 D (.lst ys)):=O5 hD sm2;refine gU T (rx.same (sH.trans s3)) ?_;left;have mm:Z4 (vs++[Sn.rest m]) (.rest n)=decide (m+n<=4608):=by
      unfold Z4;rw[he,List.getLastD_concat];rfl
     rw[mm] at mk2 mno;refine⟨m+n,rfl,λle y2 H3 s4 so=>?_,λle=>(mno (decide_eq_false le)).up s3⟩;left;have ly:=ay.1;have h4:H3 D=some (.lst ys):=s4 _ _ f9;refine Q9 h4 (F1 ?_) (hN _ _ ⟨⟨_,rfl⟩,?_,mk2 (decide_eq_true le)⟩)
     ·rw[qA,qS] at lkv;omega
     rw[tk,iK];refine F0.put (R:=So t) wS hD (s3.trans s4) (ay.imp λ_ _ _ z=>z.same (((L7 s2).trans dO).trans (L7 s4))) ((so _).same (lA sH s3 f9 s4))
 ·rintro σ H' ⟨⟨o,rfl⟩,acc,mk⟩;have q:=q (Ks λj h=>mk j h (by rw[al.1];exact h));left;rw[al.1,List.take_length] at acc;obtain⟨sm,kv,hd,ak⟩:=acc;have lkv:=ak.1;have lt:=rZ ss;refine⟨D,kv,C6 ss,rfl,hd,ak.imp λ_ _ _ z=>z.same (V6 sH sm),λH2 s2=>n6 ?_⟩;have hd2:=s2 _ _ hd;have sm2:=sm.trans s2;have fin:b9 (gp Hs H H' D) (nw Hs H H2):=(L7 s2).trans P5;cases he:F7 (C6 ss) with
  | false=>
   refine t7 ?_;left;refine q D kv H2 sm2 hD hd2 ?_;unfold x9 cB;rw[if_neg (by rw[he];simp)];exact ak.imp λ_ _ _ z=>z.same fin
  | true=>
   obtain⟨vs,m,e⟩:=gP he;obtain⟨ys,y,rfl,sy,vs',e',ay⟩:=fY ak (by rw[e,List.getLast?_append];rfl:(C6 ss).getLast?=some (.rest m));refine v9 ?_;left;refine⟨1,rfl,_,rfl,D,_,rfl,d0.of hd2,λp hp=>?_⟩;rw[show(-1:Int)=-1 from rfl,Kp];have s3:=m8 hp (.lst ys);refine q p ys _ (sm2.trans s3) (sm2.free hp) f9 ?_;unfold x9 cB;rw[if_pos he,e',List.dropLast_concat];exact ay.imp λ_ _ _ z=>z.same (fin.trans (L6 s3))
def L4 (ss:List Sn):List (Bool×Bool):=ss.filterMap λs=>match s with
 | .rest _=>none
 | .tones _ _ _ op cl=>some (op,cl)
def Y3:Bool->List (Bool×Bool)->Prop
 | o,[]=>o=false
 | o,(op,cl) :: r=>(cl=true->o=true)/\(op=true->(o&&!cl)=false)/\Y3 (op||(o&&!cl)) r
theorem fX (a b:List Sn):L4 (a++b)=L4 a++L4 b:=List.filterMap_append
theorem yiF (ks:List Sn)(s:Sn):L4 (X7 ks s)=L4 ks++L4 [s]:=by
 by_cases g:(M4 s&&F7 ks)=true
 ·rw[Bool.and_eq_true] at g;obtain⟨vs,m,rfl⟩:=gP g.2;cases s with
  | tones=>cases g.1
  | rest n=>rw[iK,fX,fX];simp[L4]
 ·rw[gO (by simpa using g),fX]
theorem Kv (ss:List Sn):L4 (x9 ss)=L4 ss:=by
 have a:L4 (C6 ss)=L4 ss:=by
  refine rS (p:=λss=>L4 (C6 ss)=L4 ss) rfl (λss s ih=>?_) ss;rw[cV,yiF,ih,fX]
 unfold x9 cB;by_cases h:F7 (C6 ss)=true
 ·obtain⟨vs,m,e⟩:=gP h;rw[if_pos h,<- a,e,List.dropLast_concat,fX];simp[L4]
 ·rw[if_neg h,a]
theorem So.isT (T:Txt K mg t){H:Hp}{x:V}{sn:Sn}(h:So t H x sn):∃ C,U3 K H x C/\PySem.W.kitOne K C (.ref t.RB)=some (!M4 sn):=by
 cases sn with
 | rest n=>obtain⟨a,dx,rfl,ea⟩:=h;exact⟨_,T.Qa.ty T.Jq ea,T.JI⟩
 | tones ps n wd op cl=>obtain⟨a,dx,l,rfl,ea,i⟩:=h;exact⟨_,T.JA.ty T.Jc ea,T.JD⟩
def SQ (t:Ad):Sp:=λvs H Q E=>∃ (a:Addr) (xs:List V) (ss:List Sn),vs=[.ref a]/\H a=some (.lst xs)/\Al (So t H) xs ss/\(Y3 false (L4 ss)->Q .non H)/\(¬ Y3 false (L4 ss)->S5 t H E)
theorem ytc:OG P w base T.zP 2 (SQ t):=by
 o_head [T.zP.F,W7];obtain⟨a,xs,ss,rfl,ea,al,q,rf⟩:=h;refine⟨_,(f7 (p0 1 W7.nd v8) (f7 (Z6 wH rfl (K2 (pv 0)) (U7 2 W7.nd) (j0 (A7 (F4 (z8 (show P7 _ _ (dY K) from iQ) rfl T.Ja F2 (b7 (pv 2) (b7 (Q3 (v:=.ref t.RB) rfl T.JY rfl) c6)))) (f7 (A7 (F4 (M3 (pv 2) rfl)) (f7 (E7 (N7 (aZ T) (B2 hr) rfl T.Jr.M T.Jr.F.kp T.Jr.B .nil Q4 (b7 (pv 1) (b7 n9 c6)))) (j0 (p0 1 W7.nd v8))) B4) (j0 (A7 (F4 (M3 (pv 2) rfl)) (f7 (E7 (N7 (aZ T) (B2 hr) rfl T.Jr.M T.Jr.F.kp T.Jr.B .nil Q4 (b7 (kW (pv 1)) (b7 n9 c6)))) (j0 (p0 1 W7.nd v8))) B4))) B4))) (j0 (E7 (N7 (aZ T) (B2 hr) rfl T.Jr.M T.Jr.F.kp T.Jr.B .nil Q4 (b7 (kW (pv 1)) (b7 n9 c6))))))),?_⟩;left;refine⟨a,rfl,⟨_,d0.of ea⟩,cJ (xs:=xs) (λi σ H'=>H'=H/\∃ o b,σ=[some (.ref a),some (.bl b),o]/\(Y3 false (L4 ss)↔Y3 b (L4 (ss.drop i)))) ⟨rfl,_,false,rfl,Iff.rfl⟩ (λi σ H' _ p=>by rw[p.1];exact d0.of ea) ?_ ?_⟩
 ·rintro i x σ H' N hN hx ⟨rfl,o,b,rfl,sb⟩;obtain⟨hi,rx⟩:=Z0 al hx;rw[List.drop_eq_getElem_cons hi] at sb;generalize ss[i]=sn at rx sb;left;obtain⟨C,ty,k⟩:=rx.isT T;refine eK ty k ?_;left;cases sn with
  | rest n=>
   refine t7 (F9 (hN _ _ ⟨rfl,_,b,rfl,sb⟩))
  | tones ps n wd op cl=>
   have sb:Y3 false (L4 ss)↔(cl=true->b=true)/\(op=true->(b&&!cl)=false)/\Y3 (op||(b&&!cl)) (L4 (ss.drop (i+1))):=sb;obtain⟨ax,dx,l,rfl,ex,_⟩:=rx;refine v9 ?_;left;refine⟨ax,_,dx,_,_,rfl,ex,T.Jc,T.Jp,rfl,n6 ?_⟩;cases cl with
   | true=>
    refine v9 ?_;left;refine⟨b,_,rfl,λhb=>?_,λhb=>rf λz=>?_⟩
    ·subst hb;left;refine⟨ax,_,dx,_,_,rfl,ex,T.Jc,T.Jl,rfl,n6 ?_⟩;cases op with
     | true=>
      refine v9 ?_;left;refine⟨true,_,rfl,λ_=>?_,λz=>by cases z⟩;left;exact hN _ _ ⟨rfl,_,true,rfl,sb.trans ⟨λz=>z.2.2,λz=>⟨λ_=>rfl,λ_=>rfl,z⟩⟩⟩
     | false=>exact t7 (F9 (hN _ _ ⟨rfl,_,false,rfl,sb.trans ⟨λz=>z.2.2,λz=>⟨λ_=>rfl,λ_=>rfl,z⟩⟩⟩))
    ·have:=(sb.mp z).1 rfl;rw[hb] at this;cases this
   | false=>
    refine t7 ?_;left;refine⟨ax,_,dx,_,_,rfl,ex,T.Jc,T.Jl,rfl,n6 ?_⟩;cases op with
    | true=>
     refine v9 ?_;left;refine⟨_,_,rfl,λhb=>?_,λhb=>rf λz=>?_⟩
     ·have hb:b=false:=by simpa using hb
      subst hb;left;exact hN _ _ ⟨rfl,_,true,rfl,sb.trans ⟨λz=>z.2.2,λz=>⟨λy=>(by cases y),λ_=>rfl,z⟩⟩⟩
     ·have hb:b=true:=by simpa using hb
      have:=(sb.mp z).2.1 rfl;rw[hb] at this;cases this
    | false=>exact t7 (F9 (hN _ _ ⟨rfl,_,b,rfl,sb.trans ⟨λz=>by simpa using z.2.2,λz=>⟨λy=>(by cases y),λy=>(by cases y),by simpa using z⟩⟩⟩))
 ·rintro σ H' ⟨rfl,o,b,rfl,sb⟩;rw[al.1,List.drop_length] at sb;have sb:Y3 false (L4 ss)↔b=false:=sb;left;refine⟨_,_,rfl,λhb=>?_,λhb=>rf λz=>?_⟩
  ·left;exact q (sb.mpr (by simpa using hb))
  ·rw[sb.mp z] at hb;cases hb
def vT (ss:List Sn):Th:=.ls (ss.map z6)
structure C4 (ss:List Sn):Prop where
 n1:1<=ss.length
 n2:ss.length<=96
 g:∀ s∈ss,K3 s
 ok:gW ss=true
 ne:x9 ss≠[]
 sl:Y3 false (L4 ss)
theorem C4.pos {ss:List Sn}(h:C4 ss):Pos ss:=λs hs=>by
 have:=h.g s hs;cases s with
 | rest n=>exact this.1
 | tones=>exact this.2.1
def oG (t:Ad)(H:Hp)(x:V)(ss:List Sn):Prop:=∃ l ys,x=.ref l/\H l=some (.lst ys)/\Al (So t H) ys ss
theorem xS:cW (oG t):=λs h=>by
 obtain⟨l,ys,e,el,al⟩:=h;exact⟨l,ys,e,s _ _ el,al.imp λ_ _ _ z=>z.same s⟩
theorem ykh (ss:List Sn):(x9 ss).length<=ss.length:=by
 have:=rZ ss;unfold x9 cB;split
 ·rw[List.length_dropLast];omega
 ·exact this
theorem jo {a b:Sn}(h:z6 a=z6 b):a=b:=by
 cases a with
 | rest n=>cases b with
  | rest m=>cases h;rfl
  | tones=>cases h
 | tones ps n wd op cl=>cases b with
  | rest m=>cases h
  | tones qs m we oq cm=>
   simp only[z6,lT,sT,nT,bT,Th.tp.injEq,List.cons.injEq,Th.im.injEq,Th.ls.injEq,V.int.injEq,V.str.injEq,V.bl.injEq,and_true,true_and] at h;obtain⟨h1,rfl,rfl,rfl,rfl⟩:=h;rw[show ps=qs from List.map_inj_right (λa b z=>by cases a;cases b;simp only[pT,nT,Th.tp.injEq,List.cons.injEq,Th.im.injEq,V.int.injEq,and_true] at z;obtain⟨rfl,rfl,rfl⟩:=z;rfl) |>.mp h1]
theorem nZ {a b:List Sn}(h:vT a=vT b):a=b:=List.map_inj_right (λ_ _ z=>jo z) |>.mp (by injection h)
theorem qc {R:Hp->V->β->Prop}{f:β->Th}{G:β->Prop}{H:Hp}:∀ {ys:List V} {ts:List Th},Al (λy u=>∃ s,u=f s/\G s/\R H y s) ys ts->∃ ss:List β,ts=ss.map f/\(∀ s∈ss,G s)/\Al (R H) ys ss:=λ{ys ts}=>by
 induction ts generalizing ys with
 | nil=>intro al;exact⟨[],rfl,by simp,by rw[List.eq_nil_of_length_eq_zero (show ys.length=0 from al.1)];exact Al.nil⟩
 | cons u ts ih=>
  intro al;cases ys with
  | nil=>cases al.1
  | cons y ys=>
   obtain⟨y',e,s,rfl,g,r⟩:=al.2 0 (Nat.succ_pos _);cases e;obtain⟨ss,rfl,gs,as⟩:=ih (ys:=ys) ⟨by have:=al.1;simpa using this,λi h=>by
    obtain⟨z,e,q⟩:=al.2 (i+1) (Nat.succ_lt_succ h);exact⟨z,by simpa using e,q⟩⟩
   refine⟨s :: ss,rfl,λz m=>by rcases List.mem_cons.mp m with rfl | m;exact g;exact gs z m,by rw[qC,qC,as.1],λi h=>?_⟩;cases i with
   | zero=>exact⟨y,rfl,r⟩
   | succ i=>
    obtain⟨z,e,q⟩:=as.2 i (Nat.lt_of_succ_lt_succ h);exact⟨z,by simpa using e,q⟩
def HJ (t:Ad):Sp:=λvs H Q E=>∃ (x:V) (tr:Th) (Hs:Hp),vs=[x]/\b9 Hs H/\Is Hs x tr/\A1 tr=true/\(∀ ss,tr=vT ss->C4 ss->∀ y H',b9 H H'->oG t (nw (tpo Hs) H H') y (x9 ss)->Q y H')/\((¬ ∃ ss,tr=vT ss/\C4 ss)->S5 t Hs E)
theorem yqF:OG P w base T.QU 7 (HJ t):=by
 o_head [T.QU.F,cS];obtain⟨x,tr,Hs,rfl,sH,ix,sm0,q,rf⟩:=h;have sT:=(L9 Hs).trans sH;refine⟨_,(f7 (E7 (N7 (aZ T) (B2 hr) rfl T.Jr.M T.Jr.F.kp T.Jr.B .nil Q4 (b7 (N0 (z8 Q7 rfl T.Ja F2 (b7 (pv 0) (b7 (P4 rfl T.Jg Y1) c6))) (N6 (rH X6 X6 c8 (z8 T7 rfl T.Ji PySem.boot_len (b7 (pv 0) c6)) (aA rfl T.Qb)))) (b7 n9 c6)))) (f7 (p0 1 cS.nd (N7 (yqy T) (B2 hr) rfl T.QV.M T.QV.F.kp T.QV.B .nil Q4 (b7 (qz (L0 (NB:=["told"]) (cap:=[none]) rfl) rfl (K2 (pv 0)) (λ_ _ _ _=>O6 0) (λ_ _ _ _=>L8) (λ_ _ _ _=>(N7 (xM T) (B2 hr) rfl T.QB.M T.QB.F.kp T.QB.B .nil B_ (b7 (pv 0) c6)))) c6))) (f7 (E7 (N7 (aZ T) (B2 hr) rfl T.Jr.M T.Jr.F.kp T.Jr.B .nil Q4 (b7 (N2 (lO hu) (pv 1) (j8 c6) (z5 _)) (b7 n9 c6)))) (f7 (E7 (N7 (ytc T) (B2 hr) rfl T.zP.M T.zP.F.kp T.zP.B .nil Q4 (b7 (pv 1) c6))) (j0 (r6 (pv 1))))))),?_⟩;left;refine U9 (ix.same sH).knd ?_;cases tr with
 | ls ts=>
  obtain⟨a,xs,rfl,ea,ix⟩:=ix.ls;have ea':=sH _ _ ea;have al:=jA ix;have lx:=ix.len;refine n6 (v9 ?_);refine uZ (a:=1) (b:=xs.length) (c:=96) (λ_ q=>q) (λQ' q'=>⟨_,rfl,a,xs,rfl,.inl (d0.of ea'),q'⟩) (λ_ q=>q) ?_;left;refine⟨_,_,rfl,λhl=>?_,λhl=>(rf λ⟨ss,e,g⟩=>?_).up sH⟩
  ·have hl:=of_decide_eq_true hl;left;refine⟨a,rfl,⟨_,d0.of ea'⟩,λD hD=>Xa (Hs:=Hs) (Ht:=tpo Hs) (R:=λH x u=>Is H x u) (S:=λH y u=>∃ s,u=z6 s/\K3 s/\So t H y s) (λs h=>by obtain⟨z,e,g,r⟩:=h;exact⟨z,e,g,r.same s⟩) (λu=>u) sT ea' al hD (by omega) (λx u H' Q' hs s2 rx q'=>?_) λys H' sm hd ay=>?_⟩
   ·left;refine⟨x,u,Hs,rfl,sH.trans s2,rx,(gZ sm0).2 u hs,λs e g y H'' s4 so=>q' y H'' s4 ⟨s,e,g,so⟩,λz=>rf λ zq=>?_⟩;obtain⟨ss,e,g⟩:=zq;have e:ts=ss.map z6:=by injection e
    rw[e] at hs;obtain⟨s,ms,rfl⟩:=List.mem_map.mp hs;rw[P8.mpr (g.g s ms)] at z;cases z
   ·rw[List.map_id'] at ay;obtain⟨ss,rfl,gs,ay⟩:=qc ay;rw[qM] at lx;left;refine⟨D,ys,ss,gp (tpo Hs) H H' D,rfl,V6 sT sm,hd,ay,by omega,λtk D2 zs H2 s2 hD2 hd2 az=>?_,λtk=>(rf λ⟨s2,e,g⟩=>?_).up (sH.trans sm)⟩
    ·left;have az2:Al (So t (nw (tpo Hs) H H2)) zs (x9 ss):=az.imp λ_ _ _ z=>z.same ((lA sT sm hd s2).trans P5)
     have sm2:=sm.trans s2;refine D6 λp hp=>?_
     have s3:=m8 hp (.lst []);have hd3:=s3 _ _ hd2;refine⟨D2,p,zs,rfl,rfl,d0.of hd3,d0.of f9,?_⟩;left;have sH3:=(sH.trans sm2).trans s3;refine⟨_,_,rfl,λne=>?_,λne=>(rf λ⟨s2,e,g⟩=>?_).up sH3⟩
     ·left;refine⟨D2,zs,x9 ss,rfl,hd3,az2.imp λ_ _ _ z=>z.same ((B7 sT sm2).trans s3),λsl=>?_,λsl=>(rf λ⟨s2,e,g⟩=>?_).up sH3⟩
      ·rw[Kv] at sl;left;refine q ss rfl ⟨by omega,by omega,gs,tk,λz=>?_,sl⟩ _ _ (sm2.trans s3) ⟨D2,zs,rfl,by rw[A4 (sm.free hD2)];exact hd3,az2.imp λ_ _ _ z=>z.same (L6 s3)⟩;rw[z] at az;rw[List.eq_nil_of_length_eq_zero (show zs.length=0 from az.1)] at ne;cases ne
      ·have:=nZ (show vT ss=vT s2 from e);subst this;rw[Kv] at sl;exact sl g.sl
     ·have:=nZ (show vT ss=vT s2 from e);subst this;cases zs with
      | nil=>exact g.ne (List.eq_nil_of_length_eq_zero az.1.symm)
      | cons=>cases ne
    ·have:=nZ (show vT ss=vT s2 from e);subst this;rw[g.ok] at tk;cases tk
  ·have e:ts=ss.map z6:=by injection e
   have l:ts.length=ss.length:=by rw[e,qM]
   have:=of_decide_eq_false hl;have:=g.n1;have:=g.n2;omega
 | im v=>
  cases ix.im;have r:S5 t H E:=(rf λ⟨ss,e,_⟩=>by cases e).up sH;cases x<;>refine n6 (t7 ?_)<;>left<;>exact⟨_,_,rfl,λz=>(by cases z),λ_=>r⟩
 | _=>
  have r:S5 t H E:=(rf λ⟨ss,e,_⟩=>by cases e).up sH;refine n6 (t7 ?_);left;exact⟨_,_,rfl,λz=>(by cases z),λ_=>r⟩
structure Mt where
 (tp bt:Int)
 gs:List Int
 deriving DecidableEq
def E2 (m:Mt):Th:=.tp [nT m.tp,nT m.bt,.tp (m.gs.map nT)]
def P9 (m:Mt):Int:=m.tp*(96 / m.bt)
structure E4 (m:Mt):Prop where
 t1:1<=m.tp
 t2:m.tp<=12
 b:m.bt=2∨m.bt=4∨m.bt=8
 g:m.tp*(96 / m.bt)<=192
 gs:∀ g∈m.gs,1<=g/\g<=m.tp
 sum:m.gs=[]∨m.gs.sum=m.tp
 len:m.gs.length<=12
theorem Is.mt {H:Hp}{x:V}{m:Mt}(h:Is H x (E2 m)):∃ a b,x=.ref a/\H a=some (.tup [.int m.tp,.int m.bt,.ref b])/\H b=some (.tup (m.gs.map V.int)):=by
 rw[E2,Is] at h;obtain⟨a,xs,rfl,e,is⟩:=h;rw[Iss] at is;obtain⟨x,r,rfl,i1,is⟩:=is;rw[Iss] at is;obtain⟨y,r,rfl,i2,is⟩:=is;rw[Iss] at is;obtain⟨z,r,rfl,i3,is⟩:=is;rw[Iss] at is;subst is;rw[nT,Is] at i1 i2;rw[Is] at i3;obtain⟨b,ys,rfl,eb,ib⟩:=i3;rw[i1.1,i2.1] at e;rw[ib.ints] at eb;exact⟨a,b,rfl,e,eb⟩
def A5 (vss:List (List Sn)):Th:=.ls (vss.map vT)
def V4 (vss:List (List Sn)):Prop:=1<=vss.length/\vss.length<=2/\∀ ss∈vss,C4 ss
def S9 (t:Ad)(H:Hp)(x:V)(vss:List (List Sn)):Prop:=∃ l ys,x=.ref l/\H l=some (.lst ys)/\Al (oG t H) ys vss
theorem S9.same {H H':Hp}{x:V}{vss:List (List Sn)}(h:S9 t H x vss)(s:b9 H H'):S9 t H' x vss:=by
 obtain⟨l,ys,e,el,al⟩:=h;exact⟨l,ys,e,s _ _ el,al.imp λ_ _ _ z=>xS s z⟩
theorem iJ {a b:List (List Sn)}(h:A5 a=A5 b):a=b:=List.map_inj_right (λ_ _ z=>nZ z) |>.mp (by injection h)
def yiC (t:Ad):Sp:=λvs H Q E=>∃ (x:V) (tr:Th) (Hs:Hp),vs=[x]/\b9 Hs H/\Is Hs x tr/\A1 tr=true/\(∀ vss,tr=A5 vss->V4 vss->∀ y H',b9 H H'->S9 t (nw (tpo Hs) H H') y (vss.map x9)->Q y H')/\((¬ ∃ vss,tr=A5 vss/\V4 vss)->S5 t Hs E)
theorem yqs:OG P w base T.QT 8 (yiC t):=by
 o_head [T.QT.F,yrj];obtain⟨x,tr,Hs,rfl,sH,ix,sm0,q,rf⟩:=h;have sT:=(L9 Hs).trans sH;refine⟨_,(f7 (E7 (N7 (aZ T) (B2 hr) rfl T.Jr.M T.Jr.F.kp T.Jr.B .nil Q4 (b7 (N0 (z8 Q7 rfl T.Ja F2 (b7 (pv 0) (b7 (P4 rfl T.Jg Y1) c6))) (N6 (rH X6 X6 c8 (z8 T7 rfl T.Ji PySem.boot_len (b7 (pv 0) c6)) (aA rfl T.Qc)))) (b7 n9 c6)))) (j0 (r6 (qz (L0 (NB:=["thing"]) (cap:=[none]) rfl) rfl (K2 (pv 0)) (λ_ _ _ _=>O6 0) (λ_ _ _ _=>L8) (λ_ _ _ _=>(N7 (yqF T) (B2 hr) rfl T.QU.M T.QU.F.kp T.QU.B .nil B_ (b7 (pv 0) c6))))))),?_⟩;left;refine U9 (ix.same sH).knd ?_;cases tr with
 | ls ts=>
  obtain⟨a,xs,rfl,ea,ix⟩:=ix.ls;have ea':=sH _ _ ea;have al:=jA ix;have lx:=ix.len;refine n6 (v9 ?_);refine uZ (a:=1) (b:=xs.length) (c:=2) (λ_ q=>q) (λQ' q'=>⟨_,rfl,a,xs,rfl,.inl (d0.of ea'),q'⟩) (λ_ q=>q) ?_;left;refine⟨_,_,rfl,λhl=>?_,λhl=>(rf λ⟨vss,e,g⟩=>?_).up sH⟩
  ·have hl:=of_decide_eq_true hl;left;refine⟨a,rfl,⟨_,d0.of ea'⟩,λD hD=>Xa (Hs:=Hs) (Ht:=tpo Hs) (R:=λH x u=>Is H x u) (S:=λH y u=>∃ ss,u=vT ss/\C4 ss/\oG t H y (x9 ss)) (λs h=>by obtain⟨z,e,g,r⟩:=h;exact⟨z,e,g,xS s r⟩) (λu=>u) sT ea' al hD (by omega) (λx u H' Q' hs s2 rx q'=>?_) λys H' sm hd ay=>?_⟩
   ·left;refine⟨x,u,Hs,rfl,sH.trans s2,rx,(gZ sm0).2 u hs,λs e g y H'' s4 so=>q' y H'' s4 ⟨s,e,g,so⟩,λz=>rf λ⟨vss,e,g⟩=>z ?_⟩;have e:ts=vss.map vT:=by injection e
    rw[e] at hs;obtain⟨s,ms,rfl⟩:=List.mem_map.mp hs;exact⟨s,rfl,g.2.2 s ms⟩
   ·rw[List.map_id'] at ay;obtain⟨vss,rfl,gs,ay⟩:=qc (R:=λH y ss=>oG t H y (x9 ss)) ay;rw[qM] at lx;refine q vss rfl ⟨by omega,by omega,gs⟩ _ _ sm ⟨D,ys,rfl,by rw[A4 hD];exact hd,by rw[ay.1,qM],λi h=>?_⟩;rw[qM] at h;obtain⟨y,e,r⟩:=ay.2 i h;exact⟨y,e,by rw[List.getElem_map];exact xS P5 r⟩
  ·have e:ts=vss.map vT:=by injection e
   have l:ts.length=vss.length:=by rw[e,qM]
   have:=of_decide_eq_false hl;have:=g.1;have:=g.2.1;omega
 | im v=>
  cases ix.im;have r:S5 t H E:=(rf λ⟨ss,e,_⟩=>by cases e).up sH;cases x<;>refine n6 (t7 ?_)<;>left<;>exact⟨_,_,rfl,λz=>(by cases z),λ_=>r⟩
 | _=>
  have r:S5 t H E:=(rf λ⟨ss,e,_⟩=>by cases e).up sH;refine n6 (t7 ?_);left;exact⟨_,_,rfl,λz=>(by cases z),λ_=>r⟩
inductive Cv where
 | m (m:Mt) | k (i:Int)
 deriving DecidableEq
def J8:Cv->Th
 | .m m=>E2 m
 | .k i=>nT i
def W4:Bool->Cv->Prop
 | true,.m m=>E4 m
 | false,.k i=>-7<=i/\i<=7
 | _,_=>False
theorem KJ (m:Mt):bL (E2 m):=⟨by
 have:=(ymf m.gs).1;show(true&&(true&&(G6 (.tp (m.gs.map nT))&&true)))=true
 rw[this];rfl,eW (k:=59) (K8 A6 (K8 A6 (K8 (eW (k:=58) (gS λu hu=>by obtain⟨n,_,rfl⟩:=List.mem_map.mp hu;exact A6)) eL)))⟩
theorem lX (c:Cv):bL (J8 c):=by
 cases c with
 | m m=>exact KJ m
 | k i=>exact⟨rfl,A6⟩
theorem eq_int (a b:Int):A3 (.vl (.int a)) (.vl (.int b))=decide (a=b):=by simp[A3,K9];rfl
theorem ysR (a b:Mt):A3 (D9 (E2 a)) (D9 (E2 b))=decide (a=b):=by
 show(A3 (.vl (.int a.tp)) (.vl (.int b.tp))&&(A3 (.vl (.int a.bt)) (.vl (.int b.bt))&&(eqTs (toTrs (a.gs.map nT)) (toTrs (b.gs.map nT))&&true)))=_
 rw[eq_int,eq_int,rX,rX,yQ,Bool.eq_iff_iff];cases a;cases b;simp
theorem pU {j:Bool}{a b:Cv}(ha:W4 j a)(hb:W4 j b):A3 (D9 (J8 a)) (D9 (J8 b))=decide (a=b):=by
 cases a with
 | m a=>
  cases b with
  | m b=>rw[show D9 (J8 (.m a))=D9 (E2 a) from rfl,show D9 (J8 (.m b))=D9 (E2 b) from rfl,ysR,Bool.eq_iff_iff];simp
  | k b=>cases j<;>first | exact ha.elim | exact hb.elim
 | k a=>
  cases b with
  | m b=>cases j<;>first | exact ha.elim | exact hb.elim
  | k b=>show A3 (.vl (.int a)) (.vl (.int b))=_;rw[eq_int,Bool.eq_iff_iff];simp
def L1 (c:Nat×Cv):Th:=.tp [nT c.1,J8 c.2]
theorem Is.ch {H:Hp}{x:V}{c:Nat×Cv}(h:Is H x (L1 c)):∃ a y,x=.ref a/\H a=some (.tup [.int c.1,y])/\Is H y (J8 c.2):=by
 rw[L1,Is] at h;obtain⟨a,xs,rfl,e,is⟩:=h;rw[Iss] at is;obtain⟨x,r,rfl,i1,is⟩:=is;rw[Iss] at is;obtain⟨y,r,rfl,i2,is⟩:=is;rw[Iss] at is;subst is;rw[nT,Is] at i1;rw[i1.1] at e;exact⟨a,y,rfl,e,i2⟩
theorem ytZ {H:Hp}{a:Addr}{y:V}{n:Nat}{c:Cv}(e:H a=some (.tup [.int n,y]))(i:Is H y (J8 c)):Is H (.ref a) (L1 (n,c)):=aK e (A9 (M5 _ _) (A9 i (J7 _)))
def qU (t:Ad):Bool->Addr
 | true=>t.f_zah
 | false=>t.f_zaq
def xc (t:Ad):Bool->FuncData
 | true=>t.d_zah
 | false=>t.d_zaq
theorem yjB (T:Txt K mg t):∀ j,PySem.W.keepIn K (.ref (qU t j))=true
 | true=>T.QO.F.kp
 | false=>T.QS.F.kp
theorem yll (T:Txt K mg t):∀ j,B0 K (xc t j) ["thing"] []
 | true=>T.QO.B
 | false=>T.QS.B
def gT:Bool->Th->Bool
 | true=>hJ
 | false=>W5 (-7) 7
def dF (j:Bool):Th->Bool
 | .tp [n,v]=>nO n&&gT j v
 | _=>false
def yrT (j:Bool):Sp:=λvs H Q _=>∃ (x:V) (tr:Th),vs=[x]/\Is H x tr/\A1 tr=true/\∀ H',b9 H H'->Q (.bl (gT j tr)) H'
theorem ypa (T:Txt K mg t):∀ j,z0 P w K mg base S3 4 (qU t j) (xc t j) ["thing"] (yrT j)
 | true=>(Uw T)
 | false=>((KQ T).mono (show 3<=4 by decide)).imp λvs H Q E h=>by
  obtain⟨x,tr,rfl,i,_,q⟩:=h;exact⟨x,tr,rfl,i,q _ (b9.refl _)⟩
def ylT (t:Ad):Sp:=λvs H Q _=>∃ (x:V) (tr:Th) (j:Bool),vs=[x,.ref (qU t j)]/\Is H x tr/\A1 tr=true/\∀ H',b9 H H'->Q (.bl (dF j tr)) H'
theorem yup:OF P w base T.zY 5 (ylT t):=by
 have D_is_good:=yjB T;have E_is_good:=yll T;o_head (T.zY.F,ysV);obtain⟨x,tr,j,rfl,ic,sm,q⟩:=h;refine⟨_,(j0 (r6 (N0 (z8 Q7 rfl T.Ja F2 (b7 (pv 0) (b7 (P4 rfl T.Jj eE) c6))) (N0 (N2 S4 (z8 T7 rfl T.Ji PySem.boot_len (b7 (pv 0) c6)) c8 (z5 _)) (N0 (eF (ykg T) hr T.QX (b7 (xT (pv 0)) c6)) (N6 (Ut (i:=1) (ypa T) (hr.mono (by decide)) rfl D_is_good E_is_good K4 (b7 (xT (pv 0)) c6)))))))),?_⟩;left;refine U9 ic.knd ?_;cases tr with
 | tp ts=>
  obtain⟨a,xs,rfl,ea,is⟩:=ic.tp;refine n6 (v9 ?_);left;refine⟨a,_,rfl,.inr (m9.of ea),?_⟩;left;have l:=is.len
  match ts,l with
  | [n,v],l=>
   rw[show decide ((xs.length:Int)=2)=true by rw[l];rfl];refine v9 ?_;obtain⟨y,r,rfl,iy,is⟩:=R6 is;obtain⟨z,r,rfl,iz,is⟩:=R6 is;left;refine B9 0 (m9.of ea) ?_;left;refine⟨y,n,rfl,iy,n6 ?_⟩;rw[dF] at q;cases hw:nO n with
   | false=>
    rw[hw,Bool.false_and] at q;exact t7 (q _ (b9.refl _))
   | true=>
    rw[hw,Bool.true_and] at q;refine v9 ?_;refine yva j rfl ?_;left;refine B9 1 (m9.of ea) ?_;left;exact⟨z,v,rfl,iz,(sE sm).2 _ (by simp),q⟩
  | [],l=>rw[show decide ((xs.length:Int)=2)=false by rw[l];rfl];exact t7 (q _ (b9.refl _))
  | [_],l=>rw[show decide ((xs.length:Int)=2)=false by rw[l];rfl];exact t7 (q _ (b9.refl _))
  | _ :: _ :: _ :: r,l=>
   rw[show decide ((xs.length:Int)=2)=false by rw[l,decide_eq_false_iff_not];simp only[qC];omega];exact t7 (q _ (b9.refl _))
 | im v=>
  cases ic.im;cases x<;>exact n6 (t7 (q _ (b9.refl _)))
 | _=>exact n6 (t7 (q _ (b9.refl _)))
theorem Kq:∀ {gs:List Int},(∀ g∈gs,1<=g)->(gs.length:Int)<=gs.sum
 | [],_=>Int.le_refl _
 | g :: gs,h=>by
  have a:=h g (by simp);have b:=Kq (gs:=gs) λx m=>h x (by simp[m])
  rw[List.sum_cons,qC];omega
theorem EQ {tr:Th}(h:nO tr=true):∃ i:Int,tr=nT i:=by
 cases tr with
 | im v=>
  cases v with
  | int i=>exact⟨i,rfl⟩
  | _=>cases h
 | _=>cases h
theorem yR {tp:Int}:∀ {ys:List Th},ys.all (W5 1 tp)=true->∃ gs:List Int,ys=gs.map nT/\(∀ g∈gs,1<=g/\g<=tp)/\(ys.map λy=>match y with | .im (.int i)=>i | _=>0).sum=gs.sum
 | [],_=>⟨[],rfl,by simp,rfl⟩
 | y :: ys,h=>by
  rw[List.all_cons,Bool.and_eq_true] at h;obtain⟨g,rfl,a,b⟩:=hI h.1;obtain⟨gs,rfl,c,d⟩:=yR h.2;refine⟨g :: gs,rfl,λx m=>by rcases List.mem_cons.mp m with rfl | m;exact⟨a,b⟩;exact c x m,?_⟩;rw[List.map_cons,List.sum_cons,d,List.sum_cons];rfl
theorem ypb {tr:Th}(h:hJ tr=true):∃ m,tr=E2 m/\E4 m:=by
 cases tr with
 | tp ts=>
  match ts,h with
  | [a,b,g],h=>
   rw[hJ] at h;cases a with
   | im u=>
    cases u with
    | int tp=>
     cases b with
     | im v=>
      cases v with
      | int bt=>
       simp only[yI,Bool.and_eq_true,Bool.or_eq_true,decide_eq_true_eq] at h;obtain⟨⟨⟨⟨h1,h2⟩,h3⟩,h4⟩,h5⟩:=h;cases g with
       | tp ys=>
        rw[iS,Bool.and_eq_true,Bool.or_eq_true,decide_eq_true_eq] at h5;obtain⟨gs,rfl,hg,hs⟩:=yR h5.1;have sm:gs=[]∨gs.sum=tp:=by
         rcases h5.2 with z | z
         ·exact .inl (by cases gs;rfl;cases z)
         ·exact .inr (by rw[<- hs];exact z)
        refine⟨⟨tp,bt,gs⟩,rfl,h1,h2,by rcases h3 with (z | z) | z;exact .inl z;exact .inr (.inl z);exact .inr (.inr z),h4,hg,sm,?_⟩;have:=Kq (gs:=gs) λx m=>(hg x m).1
        rcases sm with rfl | z
        ·exact Nat.zero_le _
        ·show gs.length<=12
         omega
       | _=>cases h5
      | _=>cases h
     | _=>cases h
    | _=>cases h
   | _=>cases h
  | [],h=>cases h
  | [_],h=>cases h
  | [_,_],h=>cases h
  | _ :: _ :: _ :: _ :: _,h=>cases h
 | _=>cases h
theorem uX {lo hi i:Int}(h:lo<=i/\i<=hi):W5 lo hi (nT i)=true:=by show(decide _&&decide _)=true;simp[h]
theorem Ul {m:Mt}(g:E4 m):hJ (E2 m)=true:=by
 have h5:iS m.tp (.tp (m.gs.map nT))=true:=by
  have al:(m.gs.map nT).all (W5 1 m.tp)=true:=List.all_eq_true.mpr λx hx=>by
   obtain⟨i,mi,rfl⟩:=List.mem_map.mp hx;exact uX (g.gs i mi)
  obtain⟨gs,e,_,s⟩:=yR al;have e:m.gs=gs:=List.map_inj_right (λa b z=>by cases z;rfl) |>.mp e
  rw[iS,al,Bool.true_and,Bool.or_eq_true,decide_eq_true_eq];rcases g.sum with z | z
  ·exact .inl (by rw[z];rfl)
  ·exact .inr (s.trans (by rw[<- e];exact z))
 show(decide (1<=m.tp)&&decide (m.tp<=12)&&(decide (m.bt=2)||decide (m.bt=4)||decide (m.bt=8))&&decide (m.tp*(96 / m.bt)<=192)&&iS m.tp (.tp (m.gs.map nT)))=true
 rw[h5,decide_eq_true g.t1,decide_eq_true g.t2,decide_eq_true g.g];rcases g.b with z | z | z<;>rw[z]<;>rfl
theorem Ws {j:Bool}{tr:Th}(h:gT j tr=true):∃ c,tr=J8 c/\W4 j c:=by
 cases j with
 | true=>
  obtain⟨m,e,g⟩:=ypb h;exact⟨.m m,e,g⟩
 | false=>
  obtain⟨i,e,g⟩:=hI h;exact⟨.k i,e,g⟩
theorem jl {j:Bool}{c:Cv}(g:W4 j c):gT j (J8 c)=true:=by
 cases j with
 | true=>cases c with
  | m m=>exact Ul g
  | k i=>exact g.elim
 | false=>cases c with
  | m m=>exact g.elim
  | k i=>exact uX g
def chI (c:Int×Cv):Th:=.tp [nT c.1,J8 c.2]
theorem yoL {j:Bool}{tr:Th}(h:dF j tr=true):∃ c:Int×Cv,tr=chI c/\W4 j c.2:=by
 cases tr with
 | tp ts=>
  match ts,h with
  | [n,v],h=>
   rw[dF,Bool.and_eq_true] at h;obtain⟨i,rfl⟩:=EQ h.1;obtain⟨c,rfl,g⟩:=Ws h.2;exact⟨(i,c),rfl,g⟩
  | [],h=>cases h
  | [_],h=>cases h
  | _ :: _ :: _ :: _,h=>cases h
 | _=>cases h
theorem Zs {j:Bool}:∀ {ts:List Th},ts.all (dF j)=true->∃ cs:List (Int×Cv),ts=cs.map chI/\∀ c∈cs,W4 j c.2
 | [],_=>⟨[],rfl,by simp⟩
 | t :: ts,h=>by
  rw[List.all_cons,Bool.and_eq_true] at h;obtain⟨p,rfl,g⟩:=yoL h.1;obtain⟨ps,rfl,gs⟩:=Zs h.2;exact⟨p :: ps,rfl,λq m=>by rcases List.mem_cons.mp m with rfl | m;exact g;exact gs q m⟩
structure J4 (j:Bool) (cs:List (Nat×Cv)):Prop where
 len:cs.length<=100
 one:(cs.map (·.1)).take 1=[1]
 up:∀ i (h:i+1 < cs.length),cs[i].1 < cs[i+1].1
 ne:∀ i (h:i+1 < cs.length),cs[i].2≠cs[i+1].2
 g:∀ c∈cs,W4 j c.2
def u7 (cs:List (Nat×Cv)):Th:=.ls (cs.map L1)
structure rV (cs:List (Int×Cv)):Prop where
 one:(cs.map (·.1)).take 1=[1]
 up:fR (cs.map (·.1))=true
 ne:((List.range (cs.length - 1)).map λi=>!decide ((cs.getD i (0,.k 0)).2=(cs.getD (i+1) (0,.k 0)).2)).all id=true
theorem aC {ns:List Int}:fR ns=true↔∀ i (h:i+1 < ns.length),ns[i] < ns[i+1]:=by
 unfold fR;rw[List.all_eq_true]
 constructor
 ·intro h i hi;have:=h i (List.mem_range.mpr (by omega));rw[decide_eq_true_eq] at this;simpa [List.getD_eq_getElem?_getD,qG hi,qG (Nat.lt_of_succ_lt hi)] using this
 ·intro h i hi;have hi:=List.mem_range.mp hi;have l:i+1 < ns.length:=by omega
  have:=h i l;rw[decide_eq_true_eq];simpa [List.getD_eq_getElem?_getD,qG l,qG (Nat.lt_of_succ_lt l)] using this
theorem ji {ns:List Int}(h1:ns.take 1=[1])(h2:∀ i (h:i+1 < ns.length),ns[i] < ns[i+1]):∀ i (h:i < ns.length),1<=ns[i]
 | 0,h=>by
  cases ns with
  | nil=>cases h
  | cons n r=>
   have:n=1:=by simpa using h1
   show 1<=n
   omega
 | i+1,h=>by
  have a:=ji h1 h2 i (by omega);have b:=h2 i h;omega
def toN (cs:List (Int×Cv)):List (Nat×Cv):=cs.map λc=>(c.1.toNat,c.2)
theorem yl9 {j:Bool}{cs:List (Int×Cv)}(l:cs.length<=100)(g:∀ c∈cs,W4 j c.2)(h:rV cs):J4 j (toN cs)/\cs.map chI=(toN cs).map L1:=by
 have up:=aC.mp h.up;have ps:=ji h.one up;have ps':∀ c∈cs,1<=c.1:=λc m=>by
  obtain⟨i,hi,e⟩:=List.mem_iff_getElem.mp m;have:=ps i (by rw[qM];exact hi);rw[List.getElem_map,e] at this;exact this
 refine⟨⟨by unfold toN;rw[qM];exact l,?_,λi hi=>?_,λi hi=>?_,λc m=>?_⟩,?_⟩
 ·have:=h.one;unfold toN;cases cs with
  | nil=>cases this
  | cons c r=>
   have e:c.1=1:=by simpa using this
   show[c.1.toNat]=[1]
   rw[e];rfl
 ·unfold toN at hi;rw[qM] at hi;have:=up i (by rw[qM];exact hi);have p1:=ps i (by rw[qM];omega);simp only[List.getElem_map] at this p1;unfold toN;simp only[List.getElem_map];omega
 ·unfold toN at hi;rw[qM] at hi;have:=List.all_eq_true.mp h.ne _ (List.mem_map.mpr ⟨i,List.mem_range.mpr (by omega),rfl⟩);unfold toN;simp only[List.getElem_map];simpa [List.getD_eq_getElem?_getD,qG hi,qG (Nat.lt_of_succ_lt hi)] using this
 ·obtain⟨d,md,rfl⟩:=List.mem_map.mp m;exact g d md
 ·unfold toN;rw[List.map_map];refine List.map_congr_left λc m=>?_
  have:=ps' c m;show Th.tp [nT c.1,_]=Th.tp [nT (c.1.toNat:Int),_]
  rw[Int.toNat_of_nonneg (by omega)]
theorem yl5 {a:Addr}{i:Nat}{xs:List V}{te:TE}{σ:St}{H:Hp}{Q:VK}(f:Nat->Bool)(e:σ[i]?=some (some (.ref a)))(ea:H a=some (.lst xs))(hz:xs.length<=900)
  (ht:∀ (i:Nat) (x y:V) (H':Hp) (Q:VK),xs[i]?=some x->xs[i+1]?=some y->b9 H H'->(∀ H'',b9 H' H''->Q (.bl (f i)) H'')->te [some x,some y] H' Q)
  (fin:∀ D H',b9 H H'->H' D=some (.lst (((List.range (xs.length - 1)).map f).map V.bl))->Q (.ref D) H') :
  dQ (Zq K (O3 (D7 i) (O3 (jH (yA K) (D7 i) (oP (tC (.int 1))) mR) Z8))) [none,none] (gB K 2 (aR (G9 0) (aR (G9 1) fZ))) Y4 te σ H Q:=by
 refine⟨_,e,_,e,1,rfl,a,_,rfl,d0.of ea,λp hp=>?_⟩;have s1:=m8 hp (.lst (O0 xs (some 1) none));have e1:1<=xs.length->O0 xs (some ((1:Nat):Int)) none=xs.drop 1:=λh=>nW xs 1 h
 have l1:(O0 xs (some 1) none).length=xs.length - 1:=by
  cases xs with
  | nil=>rfl
  | cons x r=>rw[show(1:Int)=((1:Nat):Int) from rfl,e1 (by simp),List.length_drop]
 refine⟨a,p,rfl,.inl ⟨⟨_,d0.of (s1 _ _ ea)⟩,⟨_,d0.of f9⟩,λD hD=>Zf f (s1 _ _ ea) f9 hD hz (λi x y H' Q' hx hy sm q'=>?_) λH' s2 hd=>fin D H' (s1.trans s2) (by rw[hd,l1,Nat.min_eq_right (Nat.sub_le _ _)])⟩⟩;have l0:=(qE hx).1;rw[show(1:Int)=((1:Nat):Int) from rfl,e1 (by omega),List.getElem?_drop,Nat.add_comm] at hy;exact ht i x y H' Q' hx hy (s1.trans sm) q'
theorem Is.chI {H:Hp}{x:V}{c:Int×Cv}(h:Is H x (chI c)):∃ a y,x=.ref a/\H a=some (.tup [.int c.1,y])/\Is H y (J8 c.2):=by
 obtain⟨a,xs,rfl,e,is⟩:=h.tp;obtain⟨y,r,rfl,i1,is⟩:=R6 is;obtain⟨z,r,rfl,i2,is⟩:=R6 is;rw[Iss] at is;subst is;cases i1.im;exact⟨a,z,rfl,e,i2⟩
def pM (H:Hp):V->V
 | .ref a=>match H a with
  | some (.tup [_,y])=>y
  | _=>.non
 | _=>.non
theorem sS {H:Hp}{x:V}{c:Int×Cv}(h:Is H x (chI c)):Is H (pM H x) (J8 c.2)/\∃ a,x=.ref a/\H a=some (.tup [.int c.1,pM H x]):=by
 obtain⟨a,y,rfl,ea,iy⟩:=h.chI;have:pM H (.ref a)=y:=by show(match H a with | some (.tup [_,y])=>y | _=>.non)=y;rw[ea]
 rw[this];exact⟨iy,a,rfl,ea⟩
theorem xz {j:Bool}{cs:List (Nat×Cv)}(g:J4 j cs):rV (cs.map λc=>((c.1:Int),c.2)):=by
 refine⟨?_,aC.mpr λi h=>?_,List.all_eq_true.mpr λb m=>?_⟩
 ·have:=congrArg (List.map λn:Nat=>(n:Int)) g.one;rw[List.map_take,List.map_map] at this;rw[List.map_map];exact this
 ·rw[qM,qM] at h;have:=g.up i h;simp only[List.getElem_map];omega
 ·obtain⟨i,mi,rfl⟩:=List.mem_map.mp m;have hi:=List.mem_range.mp mi;rw[qM] at hi;have l:i+1 < cs.length:=by omega
  have:=g.ne i l;simp only[id,List.getD_eq_getElem?_getD,qm,qG l,qG (Nat.lt_of_succ_lt l),Option.map_some,Option.getD_some];simpa using this
theorem jp {cs ds:List (Int×Cv)}{j:Bool}(g:∀ c∈cs,W4 j c.2)(h:∀ c∈ds,W4 j c.2)(e:cs.map chI=ds.map chI):cs=ds:=by
 induction cs generalizing ds with
 | nil=>cases ds with
  | nil=>rfl
  | cons=>cases e
 | cons c cs ih=>cases ds with
  | nil=>cases e
  | cons d ds=>
   rw[List.map_cons,List.map_cons,List.cons.injEq] at e;rw[ih (λx m=>g x (by simp[m])) (λx m=>h x (by simp[m])) e.2];have gc:=g c (by simp);have gd:=h d (by simp);obtain⟨c1,c2⟩:=c;obtain⟨d1,d2⟩:=d;have e1:=e.1;simp only[chI,nT,Th.tp.injEq,List.cons.injEq,Th.im.injEq,V.int.injEq,and_true] at e1;obtain⟨rfl,e2⟩:=e1;have:c2=d2:=by
    have z:=pU gc gd;rw[show J8 c2=J8 d2 from e2,oQ (lX d2).1] at z;exact of_decide_eq_true z.symm
   rw[this]
mutual
def bB:Th->Bool
 | .im _=>true
 | .tp ts=>tpTs ts
 | _=>false
def tpTs:List Th->Bool
 | []=>true
 | t :: ts=>bB t&&tpTs ts
end
mutual
theorem Is.tpo {H:Hp}:∀ {tr:Th} {x:V},bB tr=true->Is H x tr->Is (tpo H) x tr
 | .im v,x,_,h=>by rw[Is] at h |-;exact h
 | .tp ts,x,d,h=>by
  rw[Is] at h |-;obtain⟨a,xs,e,ea,is⟩:=h;rw[bB] at d;exact⟨a,xs,e,xV ea,Iss.tpo d is⟩
theorem Iss.tpo {H:Hp}:∀ {ts:List Th} {xs:List V},tpTs ts=true->Iss H xs ts->Iss (tpo H) xs ts
 | [],xs,_,h=>by rw[Iss] at h |-;exact h
 | t :: ts,xs,d,h=>by
  rw[Iss] at h |-;obtain⟨x,r,e,i,is⟩:=h;rw[tpTs,Bool.and_eq_true] at d;exact⟨x,r,e,Is.tpo d.1 i,Iss.tpo d.2 is⟩
end
theorem kK {α:Type}{f:α->Th}:∀ {us:List α},(∀ u∈us,bB (f u)=true)->tpTs (us.map f)=true
 | [],_=>rfl
 | u :: us,h=>by
  rw[List.map_cons,tpTs,h u (by simp),kK λx m=>h x (by simp[m])];rfl
theorem vA (m:Mt):bB (E2 m)=true:=by
 show(true&&(true&&(tpTs (m.gs.map nT)&&true)))=true
 rw[kK λ_ _=>rfl];rfl
theorem r_ (c:Nat×Cv):bB (L1 c)=true:=by
 show(true&&(bB (J8 c.2)&&true))=true
 cases c.2 with
 | m m=>rw[show bB (J8 (.m m))=true from vA m];rfl
 | k k=>rfl
theorem yqx (c:Int×Cv):bB (chI c)=true:=by
 show(true&&(bB (J8 c.2)&&true))=true
 cases c.2 with
 | m m=>rw[show bB (J8 (.m m))=true from vA m];rfl
 | k k=>rfl
theorem qw (ns:List Int):bL (.ls (ns.map nT)):=⟨iN λu hu=>by obtain⟨n,_,rfl⟩:=List.mem_map.mp hu;rfl,iY (k:=59) (gS λu hu=>by obtain⟨n,_,rfl⟩:=List.mem_map.mp hu;exact A6)⟩
theorem ymj (a b:List Int):A3 (D9 (.ls (a.map nT))) (D9 (.ls (b.map nT)))=decide (a=b):=by
 rw[D9,D9,rX,rX];exact yQ _ _
theorem Gj (xs:List V):O0 xs none (some ((1:Nat):Int))=xs.take 1:=by
 cases xs with
 | nil=>rfl
 | cons x r=>exact qW _ 1 (by simp)
def yjq (t:Ad):Sp:=λvs H Q E=>∃ (x:V) (tr:Th) (j:Bool) (Hs:Hp),vs=[x,.ref (qU t j)]/\b9 Hs H/\Is Hs x tr/\A1 tr=true/\(∀ cs,tr=u7 cs->J4 j cs->∀ y H',b9 H H'->Is (nw (tpo Hs) H H') y (u7 cs)->Q y H')/\((¬ ∃ cs,tr=u7 cs/\J4 j cs)->S5 t Hs E)
theorem Ze:OG P w base T.zI 6 (yjq t):=by
 o_head [T.zI.F,dH];obtain⟨x,tr,j,Hs,rfl,sH,ix,sm0,q,rf⟩:=h;refine⟨_,(f7 (E7 (N7 (aZ T) (B2 hr) rfl T.Jr.M T.Jr.F.kp T.Jr.B .nil Q4 (b7 (z8 Q7 rfl T.Ja F2 (b7 (pv 0) (b7 (P4 rfl T.Jg Y1) c6))) (b7 n9 c6)))) (f7 (E7 (N7 (aZ T) (B2 hr) rfl T.Jr.M T.Jr.F.kp T.Jr.B .nil Q4 (b7 (z8 (gA rfl) rfl T.JW gR (b7 (O9 (L0 (NB:=["thing","is_good"]) (cap:=[none,some 1]) rfl) rfl (K2 (pv 0)) (λ_ _ _ _=>O6 0) (λ_ _ _ _=>L8) (λ_ _ _ _=>(o6 (yup T) hr (b7 (pv 0) (b7 (pv 1) c6))))) c6)) (b7 n9 c6)))) (f7 (tV (i:=2) dH.nd rfl (Or.inl rfl) (L0 (NB:=["thing"]) (cap:=[none]) rfl) rfl (K2 (pv 0)) (λ_ _ _ _=>O6 0) (λ_ _ _ _=>L8) (λ_ _ _ _=>(F8 (show Y2 _ (aS K) from C8) (pv 0) c8 (λ_ _=>rfl)))) (f7 (E7 (N7 (aZ T) (B2 hr) rfl T.Jr.M T.Jr.F.kp T.Jr.B .nil Q4 (b7 (N0 (N2 (X3 hu) (bA dJ (pv 2) bP (bS c8)) (j8 (b7 c8 c6)) (z5 _)) (N6 (o6 (qr T) hr (b7 (pv 2) c6)))) (b7 n9 c6)))) (f7 (tV (i:=3) dH.nd rfl (Or.inl rfl) (L0 (NB:=["thing"]) (cap:=[none]) rfl) rfl (K2 (pv 0)) (λ_ _ _ _=>O6 0) (λ_ _ _ _=>L8) (λ_ _ _ _=>(F8 (show Y2 _ (aS K) from C8) (pv 0) c8 (λ_ _=>rfl)))) (f7 (E7 (N7 (aZ T) (B2 hr) rfl T.Jr.M T.Jr.F.kp T.Jr.B .nil Q4 (b7 (z8 (gA rfl) rfl T.JW gR (b7 (O9 (L0 (NB:=["one","other"]) (cap:=[none,none]) rfl) rfl (yof rfl T.QK (b7 (pv 3) (b7 (bA dJ (pv 3) (bS c8) bP) c6))) (λ_ _ _ _=>by exact(show PG _ _ (gB K 2 (aR (G9 0) (aR (G9 1) fZ))) from lK (n:=2) rfl (dG (eV (i:=0) (show List.Nodup (["one","other"]:List Str) by decide) rfl (Or.inl rfl)) (dG (eV (i:=1) (show List.Nodup (["one","other"]:List Str) by decide) rfl (Or.inl rfl)) nK)))) (λ_ _ _ _=>L8) (λ_ _ _ _=>(N2 (show J5 _ _ (mD K) from bQ hu) (pv 0) (pv 1) (z5 _)))) c6)) (b7 n9 c6)))) (j0 (r6 (bC eJ rfl T.Jg Y1 (b7 (pv 0) c6)))))))))),?_⟩;left;refine U9 (ix.same sH).knd ?_;left;cases tr with
 | ls ts=>
  obtain⟨a,xs,rfl,ea,ix⟩:=ix.ls;have ea':=sH _ _ ea;have al0:=jA ix;have lx:=ix.len;have lt:=(gZ sm0).1;refine⟨_,_,rfl,λ_=>?_,λz=>by cases z⟩;left;refine⟨a,rfl,⟨_,d0.of ea'⟩,λD1 hD1=>eU (λu=>V.bl (dF j u)) ea' al0 hD1 (by omega) (λx u H' Q' hc sm rx q'=>?_) λH1 s1 hd1=>M0 (oY (bs:=ts.map (dF j)) (by rw[List.map_map];exact hd1) ?_)⟩
  ·left;exact⟨x,u,j,rfl,rx.same (sH.trans sm),(gZ sm0).2 u hc,q'⟩
  have sH1:=sH.trans s1;left;rw[List.all_map];refine⟨_,_,rfl,λha=>?_,λha=>(rf λ⟨cs,e,g⟩=>?_).up sH1⟩
  ·obtain⟨cs,rfl,gc⟩:=Zs (show ts.all (dF j)=true from ha);rw[qM] at lx lt;have al:=T5 ix;have back:(∃ ds,Th.ls (cs.map chI)=u7 ds/\J4 j ds)->rV cs:=λ⟨ds,e,g⟩=>by
    have e:cs.map chI=(ds.map λc=>((c.1:Int),c.2)).map chI:=by
     rw[List.map_map];injection e
    rw[jp gc (λc m=>by obtain⟨d,md,rfl⟩:=List.mem_map.mp m;exact g.g d md) e];exact xz g
   left;refine⟨a,rfl,⟨_,d0.of (s1 _ _ ea')⟩,λD2 hD2=>eU (λc=>V.int c.1) (s1 _ _ ea') al hD2 (by omega) (λx c H' Q' hc sm rx q'=>?_) λH2 s2 hd2=>?_⟩
   ·obtain⟨b,y,rfl,eb,_⟩:=rx.chI;left;exact W3 (m9.of (sH1.trans sm _ _ eb)) (J0 (j:=0) rfl) (q' _ (b9.refl _))
   have sH2:=sH1.trans s2;left;refine⟨1,rfl,D2,_,rfl,d0.of hd2,λp hp=>?_⟩;have ct:O0 (cs.map λc=>V.int c.1) none (some ((1:Nat):Int))=((cs.map (·.1)).take 1).map V.int:=by
    rw[Gj,<- List.map_take,<- List.map_take,List.map_map];rfl
   rw[show(1:Int)=((1:Nat):Int) from rfl,ct];have s3:=m8 hp (.lst (((cs.map (·.1)).take 1).map V.int));left;refine⟨by decide,λp2 hp2=>?_⟩;have s4:=m8 hp2 (.lst [V.int 1]);refine bJ (qw _) (qw [1]) (E3 (s4 _ _ f9) (rQ _ _)) (E3 f9 (rQ _ [1])) (n6 ?_);rw[ymj];have s24:=s3.trans s4;generalize upd (upd H2 p (.lst (((cs.map (·.1)).take 1).map V.int))) p2 (.lst [V.int 1])=H4 at s24 |-;refine O4 (λone=>?_) λone=>?_
   ·left;refine⟨D2,cs.map (·.1),rfl,by rw[List.map_map];exact s24 _ _ hd2,by rw[qM];omega,λH5 s5=>?_⟩;have s15:=(s1.trans s2).trans (s24.trans s5);have sH5:=sH.trans s15;left;refine⟨_,_,rfl,λup=>?_,λup=>(rf λz=>?_).up sH5⟩
    ·left;refine⟨a,rfl,⟨_,d0.of (s15 _ _ ea')⟩,λD3 hD3=>eU (pM Hs) (s15 _ _ ea') (Go (xs:=xs)) hD3 (by omega) (λx u H' Q' hc sm rx q'=>?_) λH6 s6 hd6=>?_⟩
     ·subst rx;obtain⟨i,hi,e⟩:=List.mem_iff_getElem.mp hc;obtain⟨x',e',rx⟩:=al.2 i (by omega);rw[qG hi,e] at e';cases e';obtain⟨_,b,rfl,eb⟩:=sS rx;left;exact W3 (m9.of (sH5.trans sm _ _ eb)) (J0 (j:=1) rfl) (q' _ (b9.refl _))
     have sH6:=sH5.trans s6;left;refine yl5 (λi=>!decide ((cs.getD i (0,.k 0)).2=(cs.getD (i+1) (0,.k 0)).2)) rfl hd6 (by rw[qM];omega) (λi x y H' Q' hx hy sm q'=>?_) λD H' sm hd=>M0 (oY hd ?_)
     ·rw[qm] at hx hy;have hi:i+1 < xs.length:=by
       cases e:xs[i+1]? with
       | none=>rw[e] at hy;cases hy
       | some v=>exact(qE e).1
      obtain⟨x',e1,r1⟩:=al.2 i (by omega);obtain⟨y',e2,r2⟩:=al.2 (i+1) (by omega);rw[e1] at hx;rw[e2] at hy;cases hx;cases hy;have sm':=sH6.trans sm;have d1:cs.getD i (0,.k 0)=cs[i]:=by rw[List.getD_eq_getElem?_getD,qG (by omega)];rfl
      have d2:cs.getD (i+1) (0,.k 0)=cs[i+1]:=by rw[List.getD_eq_getElem?_getD,qG (by omega)];rfl
      rw[d1,d2] at q';left;refine wV (lX _) (lX _) ((sS r1).1.same sm') ((sS r2).1.same sm') ?_;rw[pU (gc _ (List.getElem_mem (by omega))) (gc _ (List.getElem_mem (by omega)))];exact q' _ (b9.refl _)
     have s16:=(s15.trans s6).trans sm;rw[qM];left;rw[lx];refine⟨_,_,rfl,λne=>?_,λne=>(rf λz=>?_).up (sH.trans s16)⟩
     ·have gi:rV cs:=⟨one,up,ne⟩;obtain⟨g,e⟩:=yl9 lt gc gi;left;refine⟨a,xs,rfl,.inl (d0.of (s16 _ _ ea')),λl hl=>?_⟩;have s7:=s16.trans (m8 hl (.lst xs));refine q (toN cs) (by rw[u7,e]) g _ _ s7 ?_;rw[u7,<- e];exact E3 (by rw[A4 (s16.free hl)];exact f9) ((Iss.tpo (kK λc _=>yqx c) ix).same (Y0 ((L9 _).trans sH)))
     ·have z:=(back z).ne;rw[z] at ne;cases ne
    ·have z:=(back z).up;rw[z] at up;cases up
   ·left;exact⟨_,_,rfl,λz=>(by cases z),λ_=>(rf λz=>one (back z).one).up (sH2.trans s24)⟩
  ·have e:ts=cs.map L1:=by injection e
   have:ts.all (dF j)=true:=by
    rw[e,List.all_eq_true];intro x m;obtain⟨c,mc,rfl⟩:=List.mem_map.mp m;show(true&&gT j (J8 c.2))=true
    rw[jl (g.g c mc)];rfl
   rw[show(ts.all (id ∘ dF j))=true from this] at ha;cases ha
 | im v=>
  cases ix.im;have r:S5 t H E:=(rf λ⟨ss,e,_⟩=>by cases e).up sH;cases x<;>exact⟨_,_,rfl,λz=>(by cases z),λ_=>r⟩
 | _=>
  have r:S5 t H E:=(rf λ⟨ss,e,_⟩=>by cases e).up sH;exact⟨_,_,rfl,λz=>(by cases z),λ_=>r⟩
def NZ:Sp:=λvs H Q _=>∃ (x:V) (m:Mt),vs=[x]/\Is H x (E2 m)/\E4 m/\Q (.int (P9 m)) H
theorem ytA:OF P w base T.zU 2 NZ:=by
 refine T.zU.F.ok NJ (λvs H Q E h=>?_) (λ_ _ _ s H vs Q E hr h=>?_)
 ·obtain⟨x,m,rfl,_⟩:=h;rfl
 obtain⟨x,m,rfl,im,gm,q⟩:=h;have hu:=eR hr;obtain⟨a,b,rfl,ea,eb⟩:=im.mt;have:=gm.b;refine⟨_,(j0 (r6 (u9 iZ (xT (pv 0)) (o6 (Xj T) hr (b7 (xT (pv 0)) c6))))),?_⟩;left;refine B9 0 (m9.of ea) ?_;left;refine W3 (m9.of ea) (J0 (j:=1) rfl) (M0 ⟨_,rfl,by omega,by omega,jT (.inl ⟨by have:=gm.t1;omega,by have:=gm.t2;omega⟩) q⟩)
def Y7 (bar:Nat)(cs:List (Nat×Cv)):Option Cv:=((cs.filter λc=>decide (c.1<=bar)).getLast?).map (·.2)
def ymi:Sp:=λvs H Q _=>∃ (bar:Nat) (x:V) (cs:List (Nat×Cv)) (c:Cv) (Hs:Hp),vs=[.int bar,x]/\b9 Hs H/\Is Hs x (u7 cs)/\cs.length<=100/\Y7 bar cs=some c/\∀ y H',b9 H H'->Is Hs y (J8 c)->Q y H'
theorem Kt:OF P w base T.Rl 1 ymi:=by
 o_head (T.Rl.F,Kz);obtain⟨bar,x,cs,c,Hs,rfl,sH,ix,len,la,q⟩:=h;rw[u7,Is] at ix;obtain⟨a,xs,rfl,ea,ix⟩:=ix;have ea':=sH _ _ ea;have al:=T5 ix;have lx:=al.1;refine⟨_,(j0 (r6 (F8 j9 (O9 (L0 (NB:=["change","bar"]) (cap:=[none,some 0]) rfl) rfl (K2 (pv 1)) (λ_ _ _ _=>O6 0) (λ_ _ _ _=>(ymK (C3 X6 (F8 (show Y2 _ (aS K) from C8) (pv 0) c8 (λ_ _=>rfl)) (pv 1) (z5 _)))) (λ_ _ _ _=>(F8 (show Y2 _ (aS K) from C8) (pv 0) c8 (λ_ _=>rfl)))) (X2 W6 c8) (λ_ _=>rfl)))),?_⟩;left;refine⟨a,rfl,⟨_,d0.of ea'⟩,λD hD=>iH (xs:=xs) (λi σ' H'=>(∃ o,σ'=[o,some (.int bar)])/\b9 H H'/\∃ ys,H' D=some (.lst ys)/\Al (λy c=>Is Hs y (J8 c.2)) ys ((cs.take i).filter λc=>decide (c.1<=bar))) ⟨⟨_,rfl⟩,m8 hD _,[],f9,Al.nil⟩ (λ_ _ _ _ h=>d0.of (h.2.1 _ _ ea')) ?_ ?_⟩
 ·rintro i x σ' H' N hN hx ⟨⟨o,rfl⟩,sm,ys,hd,ay⟩;have hi:i < cs.length:=by have:=(qE hx).1;omega
  obtain⟨x',e,rx⟩:=al.2 i hi;rw[hx] at e;cases e;obtain⟨b,y,rfl,eb,iy⟩:=rx.ch;have eb':=sH.trans sm _ _ eb;have tk:(cs.take (i+1)).filter (λc=>decide (c.1<=bar))=(cs.take i).filter (λc=>decide (c.1<=bar))++if cs[i].1<=bar then [cs[i]] else []:=by
   rw[List.take_succ_eq_append_getElem hi,List.filter_append];by_cases h:cs[i].1<=bar<;>simp[h]
  left;refine B9 0 (m9.of eb') ?_;left;refine O4 (λh=>?_) λh=>?_
  ·left;refine W3 (m9.of eb') (J0 (j:=1) rfl) ⟨ys,hd,?_,hN _ _ ⟨⟨_,rfl⟩,O5 hD sm,_,f9,?_⟩⟩
   ·have:=ay.1;have l2:=List.length_filter_le (λc:Nat×Cv=>decide (c.1<=bar)) (cs.take i);rw[qT] at l2;exact F1 (by omega)
   ·rw[tk,if_pos (by omega)];exact ay.snoc iy
  ·refine hN _ _ ⟨⟨_,rfl⟩,sm,ys,hd,?_⟩;rw[tk,if_neg (by omega),List.append_nil];exact ay
 ·rintro σ' H' ⟨_,sm,ys,hd,ay⟩;rw[lx,List.take_length] at ay;unfold Y7 at la;cases e:(cs.filter λc=>decide (c.1<=bar)).getLast? with
  | none=>rw[e] at la;cases la
  | some c' =>
   rw[e] at la;cases la;obtain⟨zs,y,rfl,sy,_⟩:=fY ay e;left;exact M8 (d0.of hd) (fH zs y) (q _ _ sm sy)
def ymv (t:Ad):Sp:=λvs H Q E=>∃ (x:V) (cs:List (Nat×Cv)) (n:Nat) (c:Nat×Cv),vs=[x,.int n]/\Is H x (u7 cs)/\cs.getLast?=some c/\(c.1<=n->Q .non H)/\(¬ c.1<=n->S5 t H E)
theorem h_:OG P w base T.zx 2 (ymv t):=by
 o_head [T.zx.F,yts];obtain⟨x,cs,n,c,rfl,ix,hc,q,rf⟩:=h;rw[u7,Is] at ix;obtain⟨a,xs,rfl,ea,ix⟩:=ix;obtain⟨zs,y,rfl,sy,_⟩:=fY (T5 ix) hc;obtain⟨b,y,rfl,eb,iy⟩:=sy.ch;refine⟨_,(j0 (E7 (N7 (aZ T) (B2 hr) rfl T.Jr.M T.Jr.F.kp T.Jr.B .nil Q4 (b7 (N2 X6 (xT (F8 j9 (pv 0) (X2 W6 c8) (λ_ _=>rfl))) (pv 1) (z5 _)) (b7 n9 c6))))),?_⟩;left;refine M8 (d0.of ea) (fH zs _) ?_;left;refine B9 0 (m9.of eb) ?_;left;refine⟨_,_,rfl,λh=>?_,λh=>rf ?_⟩
 ·have:=of_decide_eq_true h;left;exact q (by omega)
 ·have:=of_decide_eq_false h;omega
abbrev Fr:=Mt×Int
def bg (fr:List Fr)(i:Nat):Int:=((fr.take i).map λf=>P9 f.1).sum
def W0 (b:Int)(f:Fr):Th:=.tp [nT b,E2 f.1,nT f.2]
def T0 (fr:List Fr)(n:Nat):List Th:=(List.range n).map λi=>W0 (bg fr i) (fr.getD i (⟨0,0,[]⟩,0))
def bF (fr:List Fr):Th:=.ls (T0 fr fr.length)
structure nF (fr:List Fr) (lasts:Int):Prop where
 len:fr.length<=24
 lo:∀ i,i < fr.length->bg fr i < lasts
 hi:lasts<=bg fr fr.length
 m:∀ f∈fr,E4 f.1
 k:∀ f∈fr,-7<=f.2/\f.2<=7
theorem lE {fr:List Fr}{i:Nat}(h:i < fr.length):bg fr (i+1)=bg fr i+P9 fr[i].1:=by
 unfold bg;rw[List.take_succ_eq_append_getElem h,qP,List.sum_append];simp
theorem DQ {fr:List Fr}{i:Nat}(h:i < fr.length):T0 fr (i+1)=T0 fr i++[W0 (bg fr i) fr[i]]:=by
 unfold T0;rw[List.range_succ,qP,List.map_singleton,List.getD_eq_getElem?_getD,qG h];rfl
theorem u_ {H:Hp}{a:Addr}{y:V}{b:Int}{f:Fr}(e:H a=some (.tup [.int b,y,.int f.2]))(i:Is H y (E2 f.1)):Is H (.ref a) (W0 b f):=aK e (A9 (M5 _ _) (A9 i (A9 (M5 _ _) (J7 _))))
theorem Is.fr {H:Hp}{x:V}{b:Int}{f:Fr}(h:Is H x (W0 b f)):∃ a y,x=.ref a/\H a=some (.tup [.int b,y,.int f.2])/\Is H y (E2 f.1):=by
 rw[W0,Is] at h;obtain⟨a,xs,rfl,e,is⟩:=h;rw[Iss] at is;obtain⟨x,r,rfl,i1,is⟩:=is;rw[Iss] at is;obtain⟨y,r,rfl,i2,is⟩:=is;rw[Iss] at is;obtain⟨z,r,rfl,i3,is⟩:=is;rw[Iss] at is;subst is;rw[nT,Is] at i1 i3;rw[i1.1,i3.1] at e;exact⟨a,y,rfl,e,i2⟩
def W2 (ms:List (Nat×Cv))(i:Nat):Mt:=match Y7 (i+1) ms with
 | some (.m m)=>m
 | _=>⟨4,4,[]⟩
def aT (ks:List (Nat×Cv))(i:Nat):Int:=match Y7 (i+1) ks with
 | some (.k k)=>k
 | _=>0
theorem Vj {j:Bool}{cs:List (Nat×Cv)}(g:J4 j cs)(i:Nat):∃ c,Y7 (i+1) cs=some c/\W4 j c:=by
 unfold Y7;cases e:(cs.filter λc=>decide (c.1<=i+1)).getLast? with
 | none=>
  have z:=List.getLast?_eq_none_iff.mp e;have o:=g.one;cases cs with
  | nil=>cases o
  | cons c r=>
   have c1:c.1=1:=by simpa using o
   have:=List.filter_eq_nil_iff.mp z c (by simp);rw[c1] at this;simp at this
 | some c=>
  have m:=List.mem_of_getLast? e;exact⟨c.2,rfl,g.g c (List.mem_filter.mp m).1⟩
theorem iT {ms:List (Nat×Cv)}(g:J4 true ms)(i:Nat):Y7 (i+1) ms=some (.m (W2 ms i))/\E4 (W2 ms i):=by
 obtain⟨c,e,h⟩:=Vj g i;unfold W2;rw[e];cases c with
 | m m=>exact⟨rfl,h⟩
 | k k=>exact h.elim
theorem oB {ks:List (Nat×Cv)}(g:J4 false ks)(i:Nat):Y7 (i+1) ks=some (.k (aT ks i))/\-7<=aT ks i/\aT ks i<=7:=by
 obtain⟨c,e,h⟩:=Vj g i;unfold aT;rw[e];cases c with
 | m m=>exact h.elim
 | k k=>exact⟨rfl,h⟩
def fz (ms ks:List (Nat×Cv))(n:Nat):List Fr:=(List.range n).map λi=>(W2 ms i,aT ks i)
theorem Q6 {ms ks:List (Nat×Cv)}{n:Nat}:(fz ms ks n).length=n:=by unfold fz;rw[qM,List.length_range]
theorem iU {ms ks:List (Nat×Cv)}{n i:Nat}(h:i < (fz ms ks n).length):(fz ms ks n)[i]=(W2 ms i,aT ks i):=by simp only[fz,List.getElem_map,List.getElem_range]
theorem xJ {ms ks:List (Nat×Cv)}{n i:Nat}(h:i<=n):(fz ms ks n).take i=fz ms ks i:=by
 unfold fz;rw[<- List.map_take,List.take_range,Nat.min_eq_left h]
theorem gX {ms ks:List (Nat×Cv)}{n i:Nat}(h:i<=n):bg (fz ms ks n) i=bg (fz ms ks i) i:=by
 unfold bg;rw[xJ h,xJ (qR i)]
theorem yqj {ms ks:List (Nat×Cv)}{n i:Nat}(h:i<=n):T0 (fz ms ks n) i=T0 (fz ms ks i) i:=by
 unfold T0;refine List.map_congr_left λk m=>?_
 have:=List.mem_range.mp m;rw[gX (by omega),<- gX (n:=i) (by omega),List.getD_eq_getElem?_getD,List.getD_eq_getElem?_getD,qG (by rw[Q6];omega),qG (by rw[Q6];omega),iU,iU]
def bV (ms ks:List (Nat×Cv))(fr:List Fr)(lasts:Int):Prop:=nF fr lasts/\∀ i (h:i < fr.length),Y7 (i+1) ms=some (.m fr[i].1)/\Y7 (i+1) ks=some (.k fr[i].2)
theorem jW {ms ks:List (Nat×Cv)}{fr:List Fr}{lasts:Int}(h:bV ms ks fr lasts):fr=fz ms ks fr.length:=by
 refine List.ext_getElem (by rw[Q6]) λi h1 h2=>?_
 rw[iU];obtain⟨a,b⟩:=h.2 i h1;unfold W2 aT;rw[a,b]
theorem Ux {m:Mt}(g:E4 m):0 < P9 m:=by
 unfold P9;have:=g.t1;rcases g.b with z | z | z<;>rw[z]<;>omega
theorem ypy {ms ks:List (Nat×Cv)}(g:J4 true ms){n i:Nat}(h:i < n):bg (fz ms ks n) i < bg (fz ms ks n) (i+1):=by
 rw[lE (by rw[Q6];exact h),iU];have:=Ux (iT g i).2;show _ < _+P9 (W2 ms i)
 omega
theorem Zz {ms ks:List (Nat×Cv)}(g:J4 true ms){n i:Nat}:∀ j,i+j<=n->bg (fz ms ks n) i<=bg (fz ms ks n) (i+j)
 | 0,_=>Int.le_refl _
 | j+1,h=>by
  have a:=Zz g (ks:=ks) (n:=n) (i:=i) j (by omega);have b:=ypy g (ks:=ks) (n:=n) (i:=i+j) (by omega);rw[Nat.add_assoc] at b;omega
def ymw (t:Ad):Sp:=λvs H Q E=>∃ (x y:V) (ms ks:List (Nat×Cv)) (lasts:Int) (Hs:Hp),vs=[x,y,.int lasts]/\b9 Hs H/\Is Hs x (u7 ms)/\Is Hs y (u7 ks)/\J4 true ms/\J4 false ks /\
 (∀ fr,bV ms ks fr lasts->∀ z H',b9 H H'->Is (nw Hs H H') z (bF fr)->Q z H')/\((¬ ∃ fr,bV ms ks fr lasts)->S5 t H E)
theorem yum:OG P w base T.zJ 3 (ymw t):=by
 o_head [T.zJ.F,T1];obtain⟨x,y,ms,ks,lasts,Hs,rfl,sH,ix,iy,gm,gk,q,rf⟩:=h;refine⟨_,(f7 (p0 3 T1.nd (j8 c6)) (f7 (p0 4 T1.nd c8) (f7 (xp wH (C3 xW (pv 4) (pv 2) (z5 _)) (f7 (p0 5 T1.nd (u9 O8 (z8 T7 rfl T.Ji PySem.boot_len (b7 (pv 3) c6)) c8)) (f7 (E7 (N7 (aZ T) (B2 hr) rfl T.Jr.M T.Jr.F.kp T.Jr.B .nil Q4 (b7 (N2 X6 (pv 5) (aA rfl T.Qq) (z5 _)) (b7 n9 c6)))) (f7 (p0 6 T1.nd (o6 (Kt T) hr (b7 (pv 5) (b7 (pv 0) c6)))) (f7 (E7 (U1 (pv 3) (b7 (g8 (b7 (pv 4) (b7 (pv 6) (b7 (o6 (Kt T) hr (b7 (pv 5) (b7 (pv 1) c6))) c6)))) c6))) (j0 (yqD (i:=4) T1.nd rfl (Or.inl rfl) (o6 (ytA T) hr (b7 (pv 6) c6)) yrw))))))) (j0 (r6 (pv 3)))))),?_⟩;left;refine D6 λD hD=>?_
 left;generalize hfr:fz ms ks 25=fr;have lf:fr.length=25:=by rw[<- hfr,Q6]
 refine⟨λm σ H'=>∃ i,m=25 - i/\i<=24/\(∀ j,j < i->bg fr j < lasts)/\(∃ o1 o2,σ=[some x,some y,some (.int lasts),some (.ref D),some (.int (bg fr i)),o1,o2])/\b9 H H'/\∃ ys,H' D=some (.lst ys)/\Iss (gp Hs H H' D) ys (T0 fr i),⟨25,0,rfl,by decide,λj z=>absurd z (Nat.not_lt_zero j),⟨_,_,rfl⟩,m8 hD _,[],f9,J7 _⟩,?_⟩;rintro m σ H' ⟨i,rfl,hi,lo,⟨o1,o2,rfl⟩,sm,ys,hd,iss⟩;left;refine O4 (λh=>?_) λh=>?_
 ·have l1:=iss.len;have l2:(T0 fr i).length=i:=by unfold T0;rw[qM,List.length_range]
  refine⟨fun σ' H''=>i+1<=24/\∃ o1 o2,σ'=[some x,some y,some (.int lasts),some (.ref D),some (.int (bg fr (i+1))),o1,o2]/\b9 H H''/\∃ ys,H'' D=some (.lst ys)/\Iss (gp Hs H H'' D) ys (T0 fr (i+1)),fun σ' H'' ⟨le,o1,o2,e,z⟩=>⟨25 - (i+1),by omega,i+1,rfl,le,λj z=>by
   rcases Nat.lt_succ_iff_lt_or_eq.mp z with z | rfl
   ·exact lo j z
   ·exact h,⟨o1,o2,e⟩,z⟩,?_⟩
  left;refine⟨D,ys,rfl,.inl (d0.of hd),?_⟩;left;rw[show((ys.length:Int)+1)=((i+1:Nat):Int) by omega];have sH':=sH.trans sm;refine⟨_,_,rfl,λle=>?_,λle=>(rf λ⟨f2,g2⟩=>?_).up sm⟩
  ·have le:=of_decide_eq_true le;have hi':i < fr.length:=by omega
   have ei:fr[i]=(W2 ms i,aT ks i):=by subst hfr;exact iU hi'
   left;refine⟨i+1,x,ms,_,Hs,rfl,sH',ix,gm.len,(iT gm i).1,λmv H1 s1 im=>?_⟩;have hd1:=s1 _ _ hd;left;refine⟨.inl ⟨rfl,_,d0.of hd1⟩,?_⟩;left;refine⟨i+1,y,ks,_,Hs,rfl,sH'.trans s1,iy,gk.len,(oB gk i).1,λkv H2 s2 ik=>?_⟩;have:kv=.int (aT ks i):=by rw[J8,nT,Is] at ik;exact ik.1
   subst this;left;refine D6 λp hp=>?_
   have s3:=m8 hp (.tup [.int (bg fr i),mv,.int (aT ks i)]);have s13:=(s1.trans s2).trans s3;left;have hd3:=s13 _ _ hd;refine Q9 hd3 (F1 (by omega)) ?_;have sm3:=sm.trans s13;have sm4:b9 H (upd (upd H2 p (.tup [.int (bg fr i),mv,.int (aT ks i)])) D (.lst (ys++[.ref p]))):=O5 hD sm3;left;refine⟨mv,W2 ms i,rfl,im.same (sH.trans sm4),(iT gm i).2,?_⟩;left;refine⟨by omega,_,_,by rw[lE hi',ei];rfl,sm4,_,f9,?_⟩;rw[DQ hi',ei];have g1:b9 (gp Hs H H' D) (gp Hs H (upd (upd H2 p (.tup [.int (bg fr i),mv,.int (aT ks i)])) D (.lst (ys++[.ref p]))) D):=(L7 s13).trans dO;have np:p≠D:=λz=>by rw[z,s2 _ _ hd1] at hp;cases hp
   exact(iss.same g1).app (A9 (u_ (f:=(W2 ms i,aT ks i)) (pL np ((sm.trans (s1.trans s2)).free hp) (by rw[u6 np];exact f9)) (im.same (bU sH))) (J7 _))
  ·have le:=of_decide_eq_false le;have i24:i=24:=by omega
   subst i24;subst hfr;have e:=jW g2;have l:=g2.1.len;have hi2:=g2.1.hi;rw[e,Q6,gX (qR _),<- gX (n:=25) (by omega)] at hi2;have:=Zz gm (ks:=ks) (n:=25) (i:=f2.length) (24 - f2.length) (by omega);rw[show f2.length+(24 - f2.length)=24 by omega] at this;omega
 ·left;subst hfr;have fin:bV ms ks (fz ms ks i) lasts:=by
   refine⟨⟨by rw[Q6];exact hi,λj z=>?_,?_,λf m=>?_,λf m=>?_⟩,λj z=>?_⟩
   ·rw[Q6] at z;rw[gX (by omega),<- gX (n:=25) (by omega)];exact lo j z
   ·rw[Q6,<- gX (n:=25) (by omega)];omega
   ·obtain⟨k,_,rfl⟩:=List.mem_map.mp m;exact(iT gm k).2
   ·obtain⟨k,_,rfl⟩:=List.mem_map.mp m;exact(oB gk k).2
   ·rw[iU];exact⟨(iT gm j).1,(oB gk j).1⟩
  refine q _ fin _ _ sm (E3 (by rw[A4 hD];exact hd) ?_);rw[Q6,<- yqj (n:=25) (by omega)];exact iss.same P5
theorem ytU (b:Int)(f:Fr):bB (W0 b f)=true:=by
 show(true&&(bB (E2 f.1)&&(true&&true)))=true
 rw[vA];rfl
def iW (m k v f:V):List (Str×V):=[("metre_changes",m),("key_changes",k),("voices",v),("bar_frames",f)]
def C0 (t:Ad)(H:Hp)(x:V)(ms ks:List (Nat×Cv))(vss:List (List Sn))(fr:List Fr):Prop:=∃ a dx m k v f,x=.ref a/\H a=some (.ins t.RC dx (iW m k v f))/\Is H m (u7 ms)/\Is H k (u7 ks)/\S9 t H v vss/\Is H f (bF fr)
theorem C0.same {H H':Hp}{x:V}{ms ks:List (Nat×Cv)}{vss:List (List Sn)}{fr:List Fr}(h:C0 t H x ms ks vss fr)(s:b9 H H'):C0 t H' x ms ks vss fr:=by
 obtain⟨a,dx,m,k,v,f,e,ea,hm,hk,hv,hf⟩:=h;exact⟨a,dx,m,k,v,f,e,s _ _ ea,hm.same s,hk.same s,hv.same s,hf.same s⟩
theorem vY {A B H H':Hp}(s:b9 A B):b9 (nw A H H') (nw B H H'):=λc u e=>by
 cases h:H c with
 | none=>rw[A4 h] at e |-;exact e
 | some v=>rw[J9 h] at e |-;exact s _ _ e
structure kL (vss:List (List Sn)):Prop where
 n1:1<=vss.length
 n2:vss.length<=2
 len:∀ ss∈vss,ss.length<=96
 pos:∀ ss∈vss,Pos ss
def M7 (vss:List (List Sn)):Int:=vss.foldl (λm ss=>max m (B3 ss)) 0
theorem x_ {vss:List (List Sn)}(n1:1<=vss.length)(pos:∀ ss∈vss,Pos ss){m:Int}(h1:m∈vss.map B3)(h2:∀ a∈vss.map B3,a<=m):m=M7 vss:=by
 have key:∀ (l:List (List Sn)) (z:Int),l.foldl (λm ss=>max m (B3 ss)) z=z∨l.foldl (λm ss=>max m (B3 ss)) z∈l.map B3:=λl=>by
  induction l with
  | nil=>exact λz=>.inl rfl
  | cons s l ih=>
   intro z;rcases ih (max z (B3 s)) with e | e
   ·rw[List.foldl_cons,e];rcases Int.le_total z (B3 s) with q | q
    ·rw[Int.max_eq_right q];exact .inr (by simp)
    ·rw[Int.max_eq_left q];exact .inl rfl
   ·exact .inr (List.mem_cons_of_mem _ e)
 have ge:∀ (l:List (List Sn)) (z:Int),z<=l.foldl (λm ss=>max m (B3 ss)) z/\∀ a∈l.map B3,a<=l.foldl (λm ss=>max m (B3 ss)) z:=λl=>by
  induction l with
  | nil=>exact λz=>⟨Int.le_refl _,λa h=>nomatch h⟩
  | cons s l ih=>
   intro z;obtain⟨a,b⟩:=ih (max z (B3 s));have:=Int.le_max_left z (B3 s);have:=Int.le_max_right z (B3 s);refine⟨by rw[List.foldl_cons];omega,λc hc=>?_⟩;rw[List.map_cons] at hc;rcases List.mem_cons.mp hc with rfl | hc
   ·rw[List.foldl_cons];omega
   ·exact b c hc
 have g:=(ge vss 0).2 m h1;have m0:0<=m:=by obtain⟨ss,hs,rfl⟩:=List.mem_map.mp h1;exact qK (pos ss hs)
 unfold M7;rcases key vss 0 with e | e
 ·rw[e] at g |-;omega
 ·have:=h2 _ e;omega
def yon (t:Ad):Sp:=λvs H Q _=>∃ (a dx:Addr) (fs:List (Str×V)) (v:V) (vss:List (List Sn)),vs=[.ref a]/\H a=some (.ins t.RC dx fs)/\fs.lookup (Str.ofString "voices")=some v/\S9 t H v vss/\kL vss/\∀ H',b9 H H'->Q (.int (M7 vss)) H'
theorem mG:ON P w mg base T.zR 2 (yon t):=by
 o_head (T.zR.F,ysH);obtain⟨a,dx,fs,v,vss,rfl,ea,lk,⟨l,ys,rfl,el,al⟩,gv,q⟩:=h;refine⟨_,(j0 (r6 (z8 (js hr.hd) rfl T.QC tK (b7 (O9 (L0 (NB:=["sounds"]) (cap:=[none]) rfl) rfl (K2 (M3 (pv 0) rfl)) (λ_ _ _ _=>O6 0) (λ_ _ _ _=>L8) (λ_ _ _ _=>(o6 (ytE T) hr (b7 (pv 0) c6)))) c6)))),?_⟩;left;refine⟨a,_,dx,_,_,rfl,ea,T.Jb,T.Jh,lk,?_⟩;left;have:=gv.n2;refine⟨l,rfl,⟨_,d0.of el⟩,λD hD=>eU (λss=>V.int (B3 ss)) el al hD (by omega) (λx ss H' Q' hs sm rx q'=>?_) λH' sm hd=>M0 ⟨D,vss.map B3,rfl,d0.of (by rw[List.map_map];exact hd),by rw[qM];exact gv.n1,λm h1 h2=>?_⟩⟩
 ·obtain⟨b,zs,rfl,eb,az⟩:=rx;left;exact⟨b,zs,ss,rfl,sm _ _ eb,az.imp λ_ _ _ z=>z.same sm,by have:=gv.len ss hs;omega,q'⟩
 ·rw[x_ gv.n1 gv.pos h1 h2];exact q _ sm
def yp1 (t:Ad):Sp:=λvs H Q _=>∃ (x:V) (ms ks:List (Nat×Cv)) (vss:List (List Sn)) (fr:List Fr),vs=[x]/\C0 t H x ms ks vss fr/\Q (.int vss.length) H
theorem Zo:ON P w mg base T.QZ 1 (yp1 t):=by
 o_head (T.QZ.F,HX);obtain⟨x,ms,ks,vss,fr,rfl,⟨a,dx,m,k,v,f,rfl,ea,_,_,⟨l,ys,rfl,el,al⟩,hf⟩,q⟩:=h;refine⟨_,(j0 (r6 (z8 T7 rfl T.Ji PySem.boot_len (b7 (M3 (pv 0) rfl) c6)))),?_⟩;left;refine⟨a,_,dx,_,_,rfl,ea,T.Jb,T.Jh,rfl,?_⟩;left;refine⟨l,ys,rfl,.inl (d0.of el),?_⟩;rw[al.1];exact q
def ysQ (t:Ad):Sp:=λvs H Q _=>∃ (x:V) (ms ks:List (Nat×Cv)) (vss:List (List Sn)) (fr:List Fr) (Hs:Hp),vs=[x]/\b9 Hs H/\C0 t Hs x ms ks vss fr/\∀ y H',b9 H H'->Is (nw (tpo Hs) H H') y (bF fr)->Q y H'
theorem v_:ON P w mg base T.zy 1 (ysQ t):=by
 o_head (T.zy.F,ytK);obtain⟨x,ms,ks,vss,fr,Hs,rfl,sH,⟨a,dx,m,k,v,f,rfl,ea,im,ik,hv,hf⟩,q⟩:=h;obtain⟨l,ys,rfl,el,is⟩:∃ l ys,f=.ref l/\Hs l=some (.lst ys)/\Iss Hs ys (T0 fr fr.length):=by rw[bF,Is] at hf;exact hf
 refine⟨_,(j0 (r6 (bC eJ rfl T.Jg Y1 (b7 (M3 (pv 0) rfl) c6)))),?_⟩;left;refine⟨a,_,dx,_,_,rfl,sH _ _ ea,T.Jb,T.Jf,rfl,?_⟩;left;refine⟨l,ys,rfl,.inl (d0.of (sH _ _ el)),λp hp=>q _ _ (m8 hp _) (E3 (by rw[A4 hp];exact f9) ((is.tpo (kK λ_ _=>ytU _ _)).same (Y0 ((L9 Hs).trans sH))))⟩
def you (t:Ad):Sp:=λvs H Q _=>∃ (x:V) (ms ks:List (Nat×Cv)) (vss:List (List Sn)) (fr:List Fr) (n:Nat) (h:n < vss.length) (Hs:Hp),vs=[x,.int (n+1:Nat)]/\b9 Hs H/\C0 t Hs x ms ks vss fr/\kL vss/\∀ y H',b9 H H'->Is (nw (tpo Hs) H H') y (vT vss[n])->Q y H'
theorem TZ:ON P w mg base T.ze 3 (you t):=by
 o_head (T.ze.F,ytS);obtain⟨x,ms,ks,vss,fr,n,hn,Hs,rfl,sH,⟨a,dx,m,k,v,f,rfl,ea,_,_,⟨l,ys,rfl,el,al⟩,hf⟩,gv,q⟩:=h;have ea':=sH _ _ ea;have el':=sH _ _ el;refine⟨_,(f7 (A7 (L3 (F4 (eF (rA T) hr T.QN (b7 (pv 1) (b7 c8 (b7 (z8 T7 rfl T.Ji PySem.boot_len (b7 (M3 (pv 0) rfl) c6)) c6)))))) (j0 (r6 (j8 c6))) B4) (j0 (r6 (O9 (L0 (NB:=["sound"]) (cap:=[none]) rfl) rfl (K2 (F8 j9 (M3 (pv 0) rfl) (u9 cU (pv 1) c8) (λ_ _=>rfl))) (λ_ _ _ _=>O6 0) (λ_ _ _ _=>L8) (λ_ _ _ _=>(jZ (pv 0) (kX T) (jX T) (jJ T) (B2 hr) (kO T) K4)))))),?_⟩;left;refine⟨a,_,dx,_,_,rfl,ea',T.Jb,T.Jh,rfl,?_⟩;left;refine⟨l,ys,rfl,.inl (d0.of el'),?_⟩;have ly:=al.1;refine M0 ⟨_,nT ((n+1:Nat):Int),1,_,rfl,M5 _ _,n6 ?_⟩;rw[uX ⟨by omega,by omega⟩];refine t7 ?_;left;refine⟨a,_,dx,_,_,rfl,ea',T.Jb,T.Jh,rfl,?_⟩;left;obtain⟨z,ez,b,zs,rfl,eb,az⟩:=al.2 n hn;rw[show((n+1:Nat):Int) - 1=(n:Nat) by omega];refine M8 (d0.of el') (J0 ez) ?_;left;have eb':=sH _ _ eb;refine⟨b,rfl,⟨_,d0.of eb'⟩,λD hD=>yop (Hs:=tpo Hs) (R:=λ_ x s=>So t Hs x s) (S:=λH y s=>Is H y (z6 s)) (λ_ h=>h) ylG (λs=>s) ((L9 Hs).trans sH) eb' az hD (by have:=gv.len _ (List.getElem_mem hn);omega) (λx s H' Hs' Q' hs s1 s2 s3 rx q'=>?_) λzs H' sm hd ay=>?_⟩
 ·left;exact hW (sH.trans s2) rx λy H'' s4 i4=>q' _ _ s4 (i4.same (vY s1))
 ·rw[List.map_id'] at ay;exact q _ _ sm (E3 (by rw[A4 hD];exact hd) ((bX ay).same P5))
def GZ (t:Ad):Sp:=λvs H Q _=>∃ (x:V) (ms ks:List (Nat×Cv)) (vss:List (List Sn)) (fr:List Fr) (Hs:Hp),vs=[x]/\b9 Hs H/\C0 t Hs x ms ks vss fr/\∀ y H',b9 H H'->Is (nw (tpo Hs) H H') y (u7 ms)->Q y H'
theorem Xm:ON P w mg base T.zb 1 (GZ t):=by
 o_head (T.zb.F,OX);obtain⟨x,ms,ks,vss,fr,Hs,rfl,sH,⟨a,dx,m,k,v,f,rfl,ea,im,ik,hv,hf⟩,q⟩:=h;obtain⟨l,ys,rfl,el,is⟩:=Is.ls (show Is Hs m (.ls (ms.map L1)) from im);refine⟨_,(j0 (r6 (bC eJ rfl T.Jg Y1 (b7 (M3 (pv 0) rfl) c6)))),?_⟩;left;refine⟨a,_,dx,_,_,rfl,sH _ _ ea,T.Jb,T.Jd,rfl,?_⟩;left;refine⟨l,ys,rfl,.inl (d0.of (sH _ _ el)),λp hp=>q _ _ (m8 hp _) (E3 (by rw[A4 hp];exact f9) ((is.tpo (kK λ_ _=>r_ _)).same (Y0 ((L9 Hs).trans sH))))⟩
def ysO (t:Ad):Sp:=λvs H Q _=>∃ (x:V) (ms ks:List (Nat×Cv)) (vss:List (List Sn)) (fr:List Fr) (Hs:Hp),vs=[x]/\b9 Hs H/\C0 t Hs x ms ks vss fr/\∀ y H',b9 H H'->Is (nw (tpo Hs) H H') y (u7 ks)->Q y H'
theorem wL:ON P w mg base T.zh 1 (ysO t):=by
 o_head (T.zh.F,ytG);obtain⟨x,ms,ks,vss,fr,Hs,rfl,sH,⟨a,dx,m,k,v,f,rfl,ea,im,ik,hv,hf⟩,q⟩:=h;obtain⟨l,ys,rfl,el,is⟩:=Is.ls (show Is Hs k (.ls (ks.map L1)) from ik);refine⟨_,(j0 (r6 (bC eJ rfl T.Jg Y1 (b7 (M3 (pv 0) rfl) c6)))),?_⟩;left;refine⟨a,_,dx,_,_,rfl,sH _ _ ea,T.Jb,T.Je,rfl,?_⟩;left;refine⟨l,ys,rfl,.inl (d0.of (sH _ _ el)),λp hp=>q _ _ (m8 hp _) (E3 (by rw[A4 hp];exact f9) ((is.tpo (kK λ_ _=>r_ _)).same (Y0 ((L9 Hs).trans sH))))⟩
structure O2 (ms ks:List (Nat×Cv)) (vss:List (List Sn)) (fr:List Fr):Prop where
 m:J4 true ms
 k:J4 false ks
 v:V4 vss
 f:bV ms ks fr (M7 (vss.map x9))
 lm:∃ c,ms.getLast?=some c/\c.1<=fr.length
 lk:∃ c,ks.getLast?=some c/\c.1<=fr.length
theorem hG {j:Bool}{cs ds:List (Nat×Cv)}(g:J4 j cs)(h:J4 j ds)(e:u7 cs=u7 ds):cs=ds:=by
 have e:(cs.map λc=>((c.1:Int),c.2)).map chI=(ds.map λc=>((c.1:Int),c.2)).map chI:=by
  rw[List.map_map,List.map_map];injection e
 have z:=jp (j:=j) (λc m=>by obtain⟨d,md,rfl⟩:=List.mem_map.mp m;exact g.g d md) (λc m=>by obtain⟨d,md,rfl⟩:=List.mem_map.mp m;exact h.g d md) e;exact List.map_inj_right (λa b z=>by cases a;cases b;simp only[Prod.mk.injEq] at z;obtain⟨z1,z2⟩:=z;rw[z2,show _=_ from Int.ofNat.inj z1]) |>.mp z
theorem xi {j:Bool}{cs:List (Nat×Cv)}(g:J4 j cs):∃ c,cs.getLast?=some c:=by
 cases e:cs.getLast? with
 | none=>
  have z:=List.getLast?_eq_none_iff.mp e;have o:=g.one;rw[z] at o;cases o
 | some c=>exact⟨c,rfl⟩
theorem Vm {ms ks:List (Nat×Cv)}{a b:List Fr}{lasts:Int}(g:J4 true ms)(ha:bV ms ks a lasts)(hb:bV ms ks b lasts):a=b:=by
 have key:∀ {a b:List Fr},bV ms ks a lasts->bV ms ks b lasts->a.length<=b.length:=λ{a b} ha hb=>by
  rcases Nat.lt_or_ge b.length a.length with z | z
  ·have h1:=ha.1.lo b.length z;have h2:=hb.1.hi;rw[jW ha,gX (Nat.le_of_lt z)] at h1;rw[jW hb,Q6] at h2;omega
  ·exact z
 have l:a.length=b.length:=Nat.le_antisymm (key ha hb) (key hb ha);rw[jW ha,jW hb,l]
theorem yjp {ss:List Sn}(h:Pos ss):Pos (cB ss):=by
 unfold cB;split
 ·exact λs hs=>h s (List.dropLast_subset _ hs)
 ·exact h
theorem kM {vss:List (List Sn)}(h:V4 vss):kL (vss.map x9) where
 n1:=by rw[qM];exact h.1
 n2:=by rw[qM];exact h.2.1
 len ss hs:=by
  obtain⟨s,h1,rfl⟩:=List.mem_map.mp hs;have:=ykh s;have:=(h.2.2 s h1).n2;omega
 pos ss hs:=by
  obtain⟨s,h1,rfl⟩:=List.mem_map.mp hs;exact yjp (qj (h.2.2 s h1).pos)
def Kr (t:Ad):Sp:=λvs H Q E=>∃ (a dx:Addr) (mx kx vx:V) (tm tk tv:Th) (Hs H0:Hp),vs=[.ref a,mx,kx,vx]/\H a=some (.ins t.RC dx [])/\H0 a=none/\b9 H0 H/\b9 Hs H0 /\
 Is Hs mx tm/\Is Hs kx tk/\Is Hs vx tv/\A1 tm=true/\A1 tk=true/\A1 tv=true/\(∀ ms ks vss fr,tm=u7 ms->tk=u7 ks->tv=A5 vss->O2 ms ks vss fr->∀ H',b9 H0 H'->C0 t (nw (tpo Hs) H0 H') (.ref a) ms ks (vss.map x9) fr->Q .non H') /\
 ((¬ ∃ ms ks vss fr,tm=u7 ms/\tk=u7 ks/\tv=A5 vss/\O2 ms ks vss fr)->S5 t Hs E)
theorem vR {Hs H0 H H':Hp}{D:Addr}{u0:HO}(sH:b9 Hs H0)(s0:b9 H0 H)(hd:H D=some u0)(t2:b9 H H'):b9 (nw (tpo (gp Hs H0 H D)) H H') (gp (tpo Hs) H0 H' D):=λc u e=>by
 refine lA ((L9 _).trans sH) s0 hd t2 c u ?_;cases h:H c with
 | none=>rw[A4 h] at e |-;exact e
 | some v=>
  rw[J9 h] at e |-;obtain⟨e,ys,rfl⟩:=qH e;unfold gp at e |-;cases h0:H0 c with
  | none=>rw[A4 h0] at e |-;exact e
  | some z=>rw[J9 h0] at e |-;exact xV e
theorem kY (T:Txt K mg t):z0 P w K mg base (F3 P w) 9 t.f_zn t.d_zn ["self","metres","keys","voices"] (Kr t):=by
 o_head [T.zn.F,ytl];obtain⟨a,dx,mx,kx,vx,tm,tk,tv,Hs,H0,rfl,ea,a0,s0,sH,im,ik,iv,sm1,sm2,sm3,q,rf⟩:=h;have sT:=(L9 Hs).trans sH;refine⟨_,(f7 (fO (pv 0) (N7 (Ze T) (B2 hr) rfl T.zI.M T.zI.F.kp T.zI.B .nil Q4 (b7 (pv 1) (b7 (Q3 (v:=.ref t.f_zah) rfl T.QO.M rfl) c6))) rfl) (f7 (fO (pv 0) (N7 (Ze T) (B2 hr) rfl T.zI.M T.zI.F.kp T.zI.B .nil Q4 (b7 (pv 2) (b7 (Q3 (v:=.ref t.f_zaq) rfl T.QS.M rfl) c6))) rfl) (f7 (fO (pv 0) (N7 (yqs T) (B2 hr) rfl T.QT.M T.QT.F.kp T.QT.B .nil Q4 (b7 (pv 3) c6)) rfl) (f7 (fO (pv 0) (N7 (yum T) (B2 hr) rfl T.zJ.M T.zJ.F.kp T.zJ.B .nil Q4 (b7 (M3 (pv 0) rfl) (b7 (M3 (pv 0) rfl) (b7 (aJ (pv 0) T.Jb T.QA (mG T) (B2 hr) T.zR.B .nil K4) c6)))) rfl) (f7 (E7 (N7 (h_ T) (B2 hr) rfl T.zx.M T.zx.F.kp T.zx.B .nil Q4 (b7 (M3 (pv 0) rfl) (b7 (z8 T7 rfl T.Ji PySem.boot_len (b7 (M3 (pv 0) rfl) c6)) c6)))) (j0 (E7 (N7 (h_ T) (B2 hr) rfl T.zx.M T.zx.F.kp T.zx.B .nil Q4 (b7 (M3 (pv 0) rfl) (b7 (z8 T7 rfl T.Ji PySem.boot_len (b7 (M3 (pv 0) rfl) c6)) c6)))))))))),?_⟩;left;refine⟨mx,tm,true,gp Hs H0 H a,rfl,V6 sH s0,im.same (bU sH),sm1,λms em gm y1 H1 s1 i1=>?_,λno=>(rf λ⟨ms,_,_,_,e,_,_,o⟩=>no ⟨ms,e,o.m⟩).up (bU sH)⟩;have j1:=i1.same (vR sH s0 ea s1);have ea1:=s1 _ _ ea;have s01:=s0.trans s1;left;refine⟨a,_,dx,_,rfl,ea1,T.Jb,T.Jd,by decide,?_⟩;have w1:b9 H0 (upd H1 a (.ins t.RC dx [("metre_changes",y1)])):=O5 a0 s01;have e1:upd H1 a (.ins t.RC dx [("metre_changes",y1)]) a=some (.ins t.RC dx [("metre_changes",y1)]):=f9;have k1:=j1.same (dO (o:=.ins t.RC dx [("metre_changes",y1)]));rw[show R4 "metre_changes" y1 []=([("metre_changes",y1)]:List (Str×V)) from rfl];generalize upd H1 a (.ins t.RC dx [("metre_changes",y1)])=G1 at w1 e1 k1 |-;left;refine⟨kx,tk,false,gp Hs H0 G1 a,rfl,V6 sH w1,ik.same (bU sH),sm2,λks ek gk y2 H2 s2 i2=>?_,λno=>(rf λ⟨_,ks,_,_,_,e,_,o⟩=>no ⟨ks,e,o.k⟩).up (bU sH)⟩;have j2:=i2.same (vR sH w1 e1 s2);left;refine⟨a,_,dx,_,rfl,s2 _ _ e1,T.Jb,T.Je,by show 1 < 1000;decide,?_⟩;have w2:b9 H0 (upd H2 a (.ins t.RC dx [("metre_changes",y1),("key_changes",y2)])):=O5 a0 (w1.trans s2);have e2:upd H2 a (.ins t.RC dx [("metre_changes",y1),("key_changes",y2)]) a=some (.ins t.RC dx [("metre_changes",y1),("key_changes",y2)]):=f9;have k2:=j2.same (dO (o:=.ins t.RC dx [("metre_changes",y1),("key_changes",y2)]));have k12:=k1.same ((L7 s2).trans (dO (o:=.ins t.RC dx [("metre_changes",y1),("key_changes",y2)])));rw[show R4 "key_changes" y2 [("metre_changes",y1)]=([("metre_changes",y1),("key_changes",y2)]:List (Str×V)) from rfl];generalize upd H2 a (.ins t.RC dx [("metre_changes",y1),("key_changes",y2)])=G2 at w2 e2 k2 k12 |-;left;refine⟨vx,tv,gp Hs H0 G2 a,rfl,V6 sH w2,iv.same (bU sH),sm3,λvss ev gv y3 H3 s3 i3=>?_,λno=>(rf λ⟨_,_,vss,_,_,_,e,o⟩=>no ⟨vss,e,o.v⟩).up (bU sH)⟩;have one:∀ {ms' ks' vss' fr'},tm=u7 ms'->tk=u7 ks'->tv=A5 vss'->O2 ms' ks' vss' fr'->O2 ms ks vss fr':=λ{ms' ks' vss' fr'} e1 e2 e3 o=>by
  rw[hG gm o.m (em.symm.trans e1),hG gk o.k (ek.symm.trans e2),iJ (ev.symm.trans e3)];exact o
 have j3:=i3.same (vR sH w2 e2 s3);left;refine⟨a,_,dx,_,rfl,s3 _ _ e2,T.Jb,T.Jh,by show 2 < 1000;decide,?_⟩;rw[show R4 "voices" y3 [("metre_changes",y1),("key_changes",y2)]=([("metre_changes",y1),("key_changes",y2),("voices",y3)]:List (Str×V)) from rfl];have w3:b9 H0 (upd H3 a (.ins t.RC dx [("metre_changes",y1),("key_changes",y2),("voices",y3)])):=O5 a0 (w2.trans s3);have e3:upd H3 a (.ins t.RC dx [("metre_changes",y1),("key_changes",y2),("voices",y3)]) a=some (.ins t.RC dx [("metre_changes",y1),("key_changes",y2),("voices",y3)]):=f9;have g3:b9 (gp (tpo Hs) H0 H3 a) (gp (tpo Hs) H0 (upd H3 a (.ins t.RC dx [("metre_changes",y1),("key_changes",y2),("voices",y3)])) a):=dO;have k3:=j3.same g3;have k13:=k12.same ((L7 s3).trans g3);have k23:=k2.same ((L7 s3).trans g3);generalize upd H3 a (.ins t.RC dx [("metre_changes",y1),("key_changes",y2),("voices",y3)])=G3 at w3 e3 k3 k13 k23 g3 |-;have o3:b9 (gp (tpo Hs) H0 G3 a) G3:=V6 sT w3;left;refine⟨a,_,dx,_,_,rfl,e3,T.Jb,T.Jd,rfl,?_⟩;left;refine⟨a,_,dx,_,_,rfl,e3,T.Jb,T.Je,rfl,?_⟩;left;refine⟨a,dx,_,rfl,e3,rfl,?_⟩;left;refine⟨a,dx,_,_,_,rfl,e3,rfl,k3.same o3,kM gv,λH4 s4=>?_⟩;left;have w4:=w3.trans s4;have g4:b9 (gp (tpo Hs) H0 G3 a) (gp (tpo Hs) H0 H4 a):=L7 s4;refine⟨y1,y2,ms,ks,_,gp (tpo Hs) H0 H4 a,rfl,V6 sT w4,k13.same g4,k23.same g4,gm,gk,λfr hfr y5 H5 s5 i5=>?_,λno=>(rf λ⟨_,_,_,fr,e1,e2,e3,o⟩=>no ⟨fr,(one e1 e2 e3 o).f⟩).up (sH.trans w4)⟩;have e4:=s4 _ _ e3;have j5:=i5.same (lA sT w4 e4 s5);have e5:=s5 _ _ e4;left;refine⟨a,_,dx,_,rfl,e5,T.Jb,T.Jf,by show 3 < 1000;decide,?_⟩;rw[show R4 "bar_frames" y5 [("metre_changes",y1),("key_changes",y2),("voices",y3)]=iW y1 y2 y3 y5 from rfl];have w5:b9 H0 (upd H5 a (.ins t.RC dx (iW y1 y2 y3 y5))):=O5 a0 (w4.trans s5);have e6:upd H5 a (.ins t.RC dx (iW y1 y2 y3 y5)) a=some (.ins t.RC dx (iW y1 y2 y3 y5)):=f9;have g5:b9 (gp (tpo Hs) H0 H5 a) (gp (tpo Hs) H0 (upd H5 a (.ins t.RC dx (iW y1 y2 y3 y5))) a):=dO;have f1:=k13.same (g4.trans ((L7 s5).trans g5));have f2:=k23.same (g4.trans ((L7 s5).trans g5));have f3:=k3.same (g4.trans ((L7 s5).trans g5));have f5:=j5.same g5;generalize upd H5 a (.ins t.RC dx (iW y1 y2 y3 y5))=G5 at w5 e6 f1 f2 f3 f5 |-;have o5:b9 (gp (tpo Hs) H0 G5 a) G5:=V6 sT w5;obtain⟨l5,ys5,rfl,el5,is5⟩:∃ l ys,y5=.ref l/\G5 l=some (.lst ys)/\Iss G5 ys (T0 fr fr.length):=by have:=f5.same o5;rw[bF,Is] at this;exact this
 have ln:ys5.length=fr.length:=by rw[is5.len];unfold T0;rw[qM,List.length_range]
 have sH5:b9 Hs G5:=sH.trans w5;obtain⟨cm,hm1⟩:=xi gm;obtain⟨ck,hk1⟩:=xi gk;have fr1:∀ {fr'},O2 ms ks vss fr'->fr'=fr:=λo=>Vm gm o.f hfr
 left;refine⟨a,_,dx,_,_,rfl,e6,T.Jb,T.Jd,rfl,?_⟩;left;refine⟨a,_,dx,_,_,rfl,e6,T.Jb,T.Jf,rfl,?_⟩;left;refine⟨l5,ys5,rfl,.inl (d0.of el5),?_⟩;left;refine⟨y1,ms,ys5.length,cm,rfl,f1.same o5,hm1,λhm2=>?_,λhm2=>(rf λ⟨_,_,_,fr',e1,e2,e3,o⟩=>hm2 ?_).up sH5⟩
 rotate_left
 ·have o:=one e1 e2 e3 o;obtain⟨c,h1,h2⟩:=o.lm;rw[hm1] at h1;cases h1;rw[fr1 o] at h2;omega
 left;refine⟨a,_,dx,_,_,rfl,e6,T.Jb,T.Je,rfl,?_⟩;left;refine⟨a,_,dx,_,_,rfl,e6,T.Jb,T.Jf,rfl,?_⟩;left;refine⟨l5,ys5,rfl,.inl (d0.of el5),?_⟩;left;refine⟨y2,ks,ys5.length,ck,rfl,f2.same o5,hk1,λhk2=>?_,λhk2=>(rf λ⟨_,_,_,fr',e1,e2,e3,o⟩=>hk2 ?_).up sH5⟩
 rotate_left
 ·have o:=one e1 e2 e3 o;obtain⟨c,h1,h2⟩:=o.lk;rw[hk1] at h1;cases h1;rw[fr1 o] at h2;omega
 exact q ms ks vss fr em ek ev ⟨gm,gk,gv,hfr,⟨cm,hm1,by omega⟩,⟨ck,hk1,by omega⟩⟩ _ w5 ⟨a,dx,y1,y2,y3,_,rfl,by rw[A4 a0];exact e6,f1.same P5,f2.same P5,f3.same P5,f5.same P5⟩
structure Dr (K:qF) (a tp:Addr) (ns:List Int) (H:Hp) (N:Nat):Prop where
 src:kQ K a tp ns H
 sm:yt8 ns
 tape:Z3 H tp N
section
variable {a tp:Addr} {ns:List Int} {H H':Hp} {N M:Nat}
theorem b9.tt {c:Addr}(s:b9 H H'):c9 c H H':=λb u _ e=>s b u e
theorem Dr.same (d:Dr K a tp ns H N)(s:b9 H H'):Dr K a tp ns H' N:=⟨d.src.sameT (b9.tt s),d.sm,d.tape.same s⟩
theorem Dr.up (d:Dr K a tp ns H N)(l:N<=M):Dr K a tp ns H M:=⟨d.src,d.sm,d.tape.up l⟩
theorem Dr.some (d:Dr K a tp ns H N):∃ u,H tp=some u:=by obtain⟨n,_,e⟩:=d.tape;exact⟨_,e⟩
theorem Dr.free (d:Dr K a tp ns H' N)(s:c9 tp H H'){p:Addr}(hp:H' p=none):H p=none:=by obtain⟨u,e⟩:=d.some;exact yn9 s e hp
theorem Dr.fr (d:Dr K a tp ns H N){H'':Hp}(s:c9 tp H' H''):b9 (KW.fr H H') (KW.fr H H''):=by obtain⟨u,e⟩:=d.some;exact yve e s
theorem jD (d:Dr K a tp ns H' N)(s:c9 tp H H'){H'':Hp}:b9 (KW.fr H' H'') (KW.fr H H''):=λb u h=>by
 obtain⟨n,e⟩:=N5 h;rw[L5 (d.free s n)];exact e
end
theorem n_ (xs:List V)(k:Nat):O0 xs none (some (k:Int))=xs.take k:=by
 unfold O0;rw[HT.sIx_none,HT.sIx_nat,List.drop_zero,Nat.sub_zero];rcases Nat.le_total k xs.length with h | h
 ·rw[Nat.min_eq_left h]
 ·rw[Nat.min_eq_right h,List.take_length,List.take_of_length_le h]
def pR (K:qF):Sp:=λvs H Q _=>∃ (a tp:Addr) (ns:List Int) (N:Nat) (size:Int),vs=[.ref a,.ref tp,.int size]/\Dr K a tp ns H N/\N<=100000/\0 < size/\size<=1000/\∀ (v:Int) (H':Hp),0<=v->v < size->c9 tp H H'->Dr K a tp ns H' (N+1)->Q (.int v) H'
theorem K1:OF P w base T.zV 1 (pR K):=by
 o_head (T.zV.F,aM);obtain⟨a,tp,ns,N,size,rfl,⟨sc,sm,⟨n,nl,ht⟩⟩,hN,hs,hs2,q⟩:=h;have hu:=eR hr;refine⟨_,(f7 (uH (u9 O8 (xL (pv 1)) c8) (jc (pv 1) c8 S_)) (f7 (A7 (C3 X6 (xL (pv 1)) (z8 T7 rfl T.Ji PySem.boot_len (b7 (pv 0) c6)) (z5 _)) (j0 (r6 (u9 dA (F8 j9 (pv 0) (u9 cU (xL (pv 1)) c8) (λ_ _=>rfl)) (pv 2)))) B4) (f7 (p0 3 aM.nd (z8 T7 rfl T.Ji PySem.boot_len (b7 (pv 0) c6))) (f7 (Z6 PassesOwn.never rfl (K2 (bA dJ (pv 0) bP (bS c8))) (U7 4 aM.nd) (j0 (p0 3 aM.nd (u9 dA (u9 O8 (u9 iZ (pv 3) c8) (pv 4)) c8)))) (j0 (r6 (u9 dA (u9 dA (u9 iZ (u9 O8 (pv 3) c8) (u9 O8 (u9 iZ (xL (pv 1)) (xL (pv 1))) c8)) c8) (pv 2)))))))),?_⟩;left;refine cE 0 (d0.of ht) ?_;left;refine⟨tp,_,0,0,rfl,rfl,ht,rfl,?_⟩;rw[show([V.int (n:Int)]:List V).set 0 (V.int ((n:Int)+1))=[V.int ((n+1:Nat):Int)] by rw[Int.natCast_add];rfl];have s2:c9 tp H (upd H tp (.lst [V.int ((n+1:Nat):Int)])):=yiB;have t2:upd H tp (.lst [V.int ((n+1:Nat):Int)]) tp=some (.lst [V.int ((n+1:Nat):Int)]):=f9;generalize upd H tp (.lst [V.int ((n+1:Nat):Int)])=H2 at s2 t2 |-;have sq:=(sc.sameT s2).sq;have dr:Dr K a tp ns H2 (N+1):=⟨sc.sameT s2,sm,n+1,by omega,t2⟩;have fin:∀ z:Int,0<=z%size/\z%size < size:=λz=>⟨Int.emod_nonneg _ (Int.ne_of_gt hs),Int.emod_lt_of_pos _ hs⟩
 left;refine cE 0 (d0.of t2) ?_;left;refine⟨a,_,rfl,.inl sq,?_⟩;left;refine O4 (λh=>?_) λh=>?_
 ·left;refine cE 0 (d0.of t2) ?_;left;rw[qM] at h;have hn:n < ns.length:=by omega
  rw[show((n+1:Nat):Int) - 1=(n:Nat) by omega];refine M8 sq (J0 (j:=n) (v:=.int ns[n]) (by rw[qm,qG hn];rfl)) ?_;left;exact pO hs (q _ _ (fin _).1 (fin _).2 s2 dr)
 ·left;refine⟨a,_,rfl,.inl sq,?_⟩;left;refine⟨4,rfl,a,_,rfl,sq,λp hp=>?_⟩;rw[show(4:Int)=((4:Nat):Int) from rfl,n_,<- List.map_take];have s3:=c9.trans s2 (b9.tt (m8 hp (.lst ((ns.take 4).map V.int))));have t3:=m8 hp (.lst ((ns.take 4).map V.int)) _ _ t2;have dr3:=dr.same (m8 hp (.lst ((ns.take 4).map V.int)));have p3:upd H2 p (.lst ((ns.take 4).map V.int)) p=some (.lst ((ns.take 4).map V.int)):=f9;generalize upd H2 p (.lst ((ns.take 4).map V.int))=H3 at s3 t3 dr3 p3 |-;refine⟨p,rfl,⟨_,d0.of p3⟩,cJ (xs:=(ns.take 4).map V.int) (λi σ H'=>H'=H3/\∃ (z:Int) (o:Option V),σ=[some (.ref a),some (.ref tp),some (.int size),some (.int z),o]) ⟨rfl,_,_,rfl⟩ (λi σ H' _ p'=>by rw[p'.1];exact d0.of p3) ?_ ?_⟩
  ·rintro i x σ H' N hN' hx ⟨rfl,z,o,rfl⟩;rw[qm] at hx;cases e:(ns.take 4)[i]? with
   | none=>rw[e] at hx;cases hx
   | some c=>
    rw[e] at hx;cases hx;left;exact hN' _ _ ⟨rfl,_,_,rfl⟩
  ·rintro σ H' ⟨rfl,z,o,rfl⟩;left;refine cE 0 (d0.of t3) ?_;left;refine cE 0 (d0.of t3) ?_;have b0:((n+1:Nat):Int)*((n+1:Nat):Int)<=100001*100001:=Int.mul_le_mul (by omega) (by omega) (by omega) (by omega);have b1:0<=((n+1:Nat):Int)*((n+1:Nat):Int):=Int.mul_nonneg (by omega) (by omega);refine jT (.inl ⟨by omega,by omega⟩) ?_;left;refine jT (.inr ⟨by omega,by omega⟩) ?_;left;exact pO hs (q _ _ (fin _).1 (fin _).2 s3 dr3)
def A0:List Mt:=[⟨4,4,[]⟩,⟨3,4,[]⟩,⟨2,4,[]⟩,⟨6,8,[]⟩,⟨7,8,[3,2,2]⟩,⟨5,8,[]⟩,⟨3,8,[]⟩,⟨2,2,[]⟩,⟨12,8,[]⟩,⟨3,4,[1,2]⟩,⟨9,8,[]⟩,⟨4,2,[]⟩,⟨7,8,[]⟩,⟨4,4,[1,1,1,1]⟩,⟨7,8,[2,2,3]⟩]
theorem uP:∀ m∈A0,E4 m/\36<=P9 m:=by
 have key:∀ m∈A0,(1<=m.tp/\m.tp<=12/\(m.bt=2∨m.bt=4∨m.bt=8)/\m.tp*(96 / m.bt)<=192/\(∀ g∈m.gs,1<=g/\g<=m.tp)/\(m.gs=[]∨m.gs.sum=m.tp)/\m.gs.length<=12)/\36<=m.tp*(96 / m.bt):=by decide
 exact λm hm=>let ⟨⟨a,b,c,d,e,f,g⟩,h⟩:=key m hm;⟨⟨a,b,c,d,e,f,g⟩,h⟩
def ypA (K:qF):Sp:=λvs H Q _=>∃ (a tp:Addr) (ns:List Int) (N:Nat),vs=[.ref a,.ref tp]/\Dr K a tp ns H N/\N<=100000/\∀ (y:V) (m:Mt) (H':Hp),m∈A0->c9 tp H H'->Dr K a tp ns H' (N+1)->Is (fr H H') y (E2 m)->Q y H'
theorem Xe:OF P w base T.zN 2 (ypA K):=by
 o_head (T.zN.F,dR);obtain⟨a,tp,ns,N,rfl,dr,hN,q⟩:=h;refine⟨_,(f7 (p0 2 dR.nd (j8 (b7 (g8 (b7 c8 (b7 c8 (b7 (g8 c6) c6)))) (b7 (g8 (b7 c8 (b7 c8 (b7 (g8 c6) c6)))) (b7 (g8 (b7 c8 (b7 c8 (b7 (g8 c6) c6)))) (b7 (g8 (b7 c8 (b7 c8 (b7 (g8 c6) c6)))) (b7 (g8 (b7 c8 (b7 c8 (b7 (g8 (b7 c8 (b7 c8 (b7 c8 c6)))) c6)))) (b7 (g8 (b7 c8 (b7 c8 (b7 (g8 c6) c6)))) (b7 (g8 (b7 c8 (b7 c8 (b7 (g8 c6) c6)))) (b7 (g8 (b7 c8 (b7 c8 (b7 (g8 c6) c6)))) c6)))))))))) (f7 (p0 2 dR.nd (u9 O1 (pv 2) (j8 (b7 (g8 (b7 c8 (b7 c8 (b7 (g8 c6) c6)))) (b7 (g8 (b7 c8 (b7 c8 (b7 (g8 (b7 c8 (b7 c8 c6))) c6)))) (b7 (g8 (b7 c8 (b7 c8 (b7 (g8 c6) c6)))) (b7 (g8 (b7 c8 (b7 c8 (b7 (g8 c6) c6)))) (b7 (g8 (b7 c8 (b7 c8 (b7 (g8 c6) c6)))) (b7 (g8 (b7 c8 (b7 c8 (b7 (g8 (b7 c8 (b7 c8 (b7 c8 (b7 c8 c6))))) c6)))) c6))))))))) (j0 (r6 (F8 j9 (u9 O1 (pv 2) (j8 (b7 (g8 (b7 c8 (b7 c8 (b7 (g8 (b7 c8 (b7 c8 (b7 c8 c6)))) c6)))) c6))) (o6 (K1 T) hr (b7 (pv 0) (b7 (pv 1) (b7 c8 c6)))) (λ_ _=>rfl)))))),?_⟩;refine x4 (D8 ?_);refine(show bK _ (.ls ((A0.take 8).map E2)) from ?_) _ _ _ λx H1 s1 i1=>?_
 ·exfalso
 rw[Is] at i1;obtain⟨a1,xs,rfl,e1,is1⟩:=i1;refine A2 (x4 (D8 (M9 (E9 rfl ?_))));refine(show bK _ (.ls (((A0.drop 8).take 6).map E2)) from ?_) _ _ _ λy H2 s2 i2=>?_
 ·exfalso
 rw[Is] at i2;obtain⟨b1,ys,rfl,e2,is2⟩:=i2;have la:=is1.len;have lb:=is2.len;have l8:xs.length=8:=la;have l6:ys.length=6:=lb;have is12:Iss (fr H H2) (xs++ys) ((A0.take 14).map E2):=(is1.same (J6 s2)).app (is2.same (qQ s1));refine⟨a1,b1,xs,ys,rfl,rfl,s2 _ _ (N5 e1).2,(N5 e2).2,by rw[l8,l6];decide,λc hc=>?_⟩;have s3:=m8 hc (.lst (xs++ys));have ec:upd H2 c (.lst (xs++ys)) c=some (.lst (xs++ys)):=f9;have is3:=is12.same (J6 s3);have s13:=(s1.trans s2).trans s3;generalize upd H2 c (.lst (xs++ys))=H3 at s3 s13 ec is3 |-;refine A2 (xI (M9 (M9 (E9 rfl ?_))));refine(show bK _ (.ls ((A0.drop 14).map E2)) from ?_) _ _ _ λz H4 s4 i4=>?_
 ·exfalso
 rw[Is] at i4;obtain⟨d1,zs,rfl,e4,is4⟩:=i4;have l1:zs.length=1:=is4.len;have s14:=s13.trans s4;have is5:Iss (fr H H4) (xs++ys++zs) (A0.map E2):=(is3.same (J6 s4)).app (is4.same (qQ s13));refine⟨c,d1,_,zs,rfl,rfl,s4 _ _ ec,(N5 e4).2,by rw[qA,l8,l6,l1];decide,λp hp=>?_⟩;have s5:=m8 hp (.lst (xs++ys++zs));have ep:upd H4 p (.lst (xs++ys++zs)) p=some (.lst (xs++ys++zs)):=f9;have is6:=is5.same (J6 s5);have s15:=s14.trans s5;generalize upd H4 p (.lst (xs++ys++zs))=H5 at s15 ep is6 |-;left;refine⟨a,tp,ns,N,15,rfl,dr.same s15,hN,by decide,by decide,λv H6 v0 v1 s6 d6=>?_⟩;obtain⟨u,et⟩:=dr.some;have np:p≠tp:=λe=>by rw[e] at hp;rw[s14 _ _ et] at hp;cases hp
 obtain⟨y,ey,iy⟩:=is6.at' v.toNat (by rw[qM];show v.toNat < 15;omega);rw[List.getElem_map] at iy;have ea:=J0 ey;rw[Int.toNat_of_nonneg v0] at ea;exact M8 (d0.of (s6 _ _ np ep)) ea (q y _ H6 (List.getElem_mem _) (c9.trans (b9.tt s15) s6) d6 (iy.same (dr.fr s6)))
theorem sV {L:List Int}{v:Int}(v0:0<=v)(v1:v < L.length):bR (L.map V.int) v=some (.int (L[v.toNat]'(by omega))):=by
 have:=J0 (xs:=L.map V.int) (j:=v.toNat) (v:=.int (L[v.toNat]'(by omega))) (by rw[qm,qG (by omega)];rfl)
 rwa [Int.toNat_of_nonneg v0] at this
theorem Dr.ne {a tp p:Addr}{ns:List Int}{H:Hp}{N:Nat}(d:Dr K a tp ns H N)(hp:H p=none):p≠tp:=λe=>by
 obtain⟨u,et⟩:=d.some;rw[e,et] at hp;cases hp
theorem Dr.put {a tp D:Addr}{ns:List Int}{H H':Hp}{N M:Nat}{o:HO}(d:Dr K a tp ns H N)(hD:H D=none)(s:c9 tp H H')(d':Dr K a tp ns H' M):Dr K a tp ns (upd H' D o) M:=by
 refine⟨d.src.sameT (rO s hD),d.sm,?_⟩;obtain⟨n,l,e⟩:=d'.tape;exact⟨n,l,by rw[u6 (d.ne hD).symm];exact e⟩
def ymt (K:qF):Sp:=λvs H Q _=>∃ (a tp:Addr) (ns:List Int) (N:Nat),vs=[.ref a,.ref tp]/\Dr K a tp ns H N/\N<=90000/\∀ (n:Int) (H':Hp),2<=n->n<=150->c9 tp H H'->Dr K a tp ns H' (N+2)->Q (.int n) H'
theorem yte:OF P w base T.zB 2 (ymt K):=by
 o_head (T.zB.F,gF);obtain⟨a,tp,ns,N,rfl,dr,hN,q⟩:=h;refine⟨_,(f7 (p0 2 gF.nd (j8 (b7 c8 (b7 c8 (b7 c8 (b7 c8 (b7 c8 (b7 c8 (b7 c8 (b7 c8 (b7 c8 (b7 c8 (b7 c8 (b7 c8 (b7 c8 (b7 (u9 O8 c8 (o6 (K1 T) hr (b7 (pv 0) (b7 (pv 1) (b7 c8 c6))))) c6)))))))))))))))) (j0 (r6 (F8 j9 (pv 2) (o6 (K1 T) hr (b7 (pv 0) (b7 (pv 1) (b7 c8 c6)))) (λ_ _=>rfl))))),?_⟩;left;refine⟨a,tp,ns,N,60,rfl,dr,by omega,by decide,by decide,λv H1 v0 v1 s1 d1=>?_⟩;left;refine D6 λp hp=>?_
 left;have s2:=m8 hp (.lst ([24,12,48,8,16,6,36,3,2,96,5,150,24,2+v].map V.int));refine⟨a,tp,ns,N+1,14,rfl,d1.same s2,by omega,by decide,by decide,λu H3 u0 u1 s3 d3=>?_⟩;have lt:u.toNat < ([24,12,48,8,16,6,36,3,2,96,5,150,24,2+v]:List Int).length:=by show u.toNat < 14;omega
 have g:∀ x∈([24,12,48,8,16,6,36,3,2,96,5,150,24,2+v]:List Int),2<=x/\x<=150:=λx hx=>by
  simp at hx;omega
 have gx:=g _ (List.getElem_mem lt);exact M8 (d0.of (s3 _ _ (d1.ne hp) f9)) (sV (L:=[24,12,48,8,16,6,36,3,2,96,5,150,24,2+v]) u0 (by show u < 14;exact u1)) (q _ _ gx.1 gx.2 (c9.trans s1 (c9.trans (b9.tt s2) s3)) d3)
def Q0:Str := "abcdefghijklmnopqrstuvwxyzABCDEFGHIJKLMNOPQRSTUVWXYZ-"
def pB (c:Nat):Bool:=decide (c∈mT.cps.toList)
theorem Wm {z:Str}(h1:z.cps.toList.length<=12)(h2:∀ c∈z.cps.toList,pB c=true):kN z:=by
 cases e:z.cps.toList with
 | nil=>
  refine .inl ?_;have:z.cps=#[]:=Array.toList_eq_nil_iff.mp e;cases z;cases this;rfl
 | cons c r=>
  refine .inr ?_;have l:z.length=z.cps.toList.length:=by rw[Array.length_toList];rfl
  unfold cH;rw[decide_eq_true (by rw[l,e];simp),decide_eq_true (by omega),Bool.true_and,Bool.true_and];exact List.all_eq_true.mpr h2
def fC (c:Nat):Str:=⟨#[c]⟩
theorem Q_:∀ (cs:List Nat) (acc:Array Nat),((cs.map fC).foldl (λacc p=>acc++(Str.ofString "").cps++p.cps) acc).toList=acc.toList++cs
 | [],acc=>by simp
 | c :: cs,acc=>by
  rw[List.map_cons,List.foldl_cons,Q_ cs];simp[fC,show(Str.ofString "").cps=#[] from rfl]
theorem o_ (cs:List Nat):(PySem.Txt.join "" (cs.map fC)).cps.toList=cs:=by
 cases cs with
 | nil=>rfl
 | cons c cs=>
  show((cs.map fC).foldl (λacc p=>acc++(Str.ofString "").cps++p.cps) (fC c).cps).toList=_
  rw[Q_];rfl
theorem Wk (cs:List Nat)(h:cs.length<=12):JoinOk "" (cs.map fC)=true:=by
 have f:∀ (cs:List Nat) (k:Nat),(cs.map fC).foldl (λx1 x2=>x1+x2.length+(Str.ofString "").length) k=k+cs.length:=λcs=>by
  induction cs with
  | nil=>exact λ_=>rfl
  | cons c cs ih=>
   intro k;rw[List.map_cons,List.foldl_cons,ih,qC];show k+1+0+cs.length=_
   omega
 unfold JoinOk Builtin.Str.tooLong;rw[List.foldl_toArray,f,decide_eq_false (by have:=(by decide:(12:Nat)<=sizeLine);omega)];rfl
theorem Uq:∀ i,i < 53->∃ c,Q0.cps.toList[i]?=some c/\pB c=true:=by
 have key:(List.range 53).all (λi=>match Q0.cps.toList[i]? with | some c=>pB c | none=>false)=true:=by ac_rfl
 intro i h;have:=List.all_eq_true.mp key i (List.mem_range.mpr h);cases e:Q0.cps.toList[i]? with
 | none=>rw[e] at this;cases this
 | some c=>rw[e] at this;exact⟨c,rfl,this⟩
def Gb (K:qF):Sp:=λvs H Q _=>∃ (a tp:Addr) (ns:List Int) (N:Nat),vs=[.ref a,.ref tp]/\Dr K a tp ns H N/\N<=90000/\∀ (z:Str) (H':Hp),kN z->c9 tp H H'->Dr K a tp ns H' (N+13)->Q (.str z) H'
theorem ysU:OF P w base T.zp 2 (Gb K):=by
 o_head (T.zp.F,dS);obtain⟨a,tp,ns,N,rfl,dr,hN,q⟩:=h;refine⟨_,(f7 (rL (i:=2) dS.nd rfl (Or.inr rfl) n9) (f7 (p0 3 dS.nd (F8 j9 (j8 (b7 c8 (b7 c8 (b7 c8 (b7 c8 (b7 c8 c6)))))) (o6 (K1 T) hr (b7 (pv 0) (b7 (pv 1) (b7 c8 c6)))) (λ_ _=>rfl))) (j0 (r6 (Ym n9 (b7 (O9 (L0 (NB:=["_law_k","_law_letters","_law_script","_law_tape"]) (cap:=[none,some 2,some 0,some 1]) rfl) rfl (kA rfl T.Jz (b7 (pv 3) c6)) (λ_ _ _ _=>O6 0) (λ_ _ _ _=>L8) (λ_ _ _ _=>(F8 l_ (pv 1) (o6 (K1 T) hr (b7 (pv 2) (b7 (pv 3) (b7 c8 c6)))) (λ_ _=>rfl)))) c6)))))),?_⟩;left;refine D6 λp hp=>?_
 left;have s1:=m8 hp (.lst ([0,0,1,3,12].map V.int));refine⟨a,tp,ns,N,5,rfl,dr.same s1,by omega,by decide,by decide,λv H1 v0 v1 s2 d2=>?_⟩;have s12:=c9.trans (b9.tt s1) s2;refine M8 (d0.of (s2 _ _ (dr.ne hp) f9)) (sV (L:=[0,0,1,3,12]) v0 (by show v < 5;exact v1)) ?_;have g:∀ x∈([0,0,1,3,12]:List Int),0<=x/\x<=12:=by decide
 have gx:=g _ (List.getElem_mem (by show v.toNat < 5;omega:v.toNat < ([0,0,1,3,12]:List Int).length));generalize ([0,0,1,3,12]:List Int)[v.toNat]'_=n at gx |-;left;refine⟨rfl,?_⟩;left;refine⟨n,rfl,by omega,by omega,λD hD=>rC (λi σ' H'=>(∃ o,σ'=[o,some (.str Q0),some (.ref a),some (.ref tp)])/\c9 tp H1 H'/\Dr K a tp ns H' (N+1+i)/\∃ cs:List Nat,cs.length=i/\(∀ c∈cs,pB c=true)/\H' D=some (.lst (cs.map λc=>V.str (fC c)))) ⟨⟨_,rfl⟩,b9.tt (m8 hD _),d2.same (m8 hD _),[],rfl,nofun,f9⟩ ?_ ?_⟩
 ·rintro i σ' H' hi ⟨⟨o,rfl⟩,sm,dd,cs,lc,gc,hd⟩;refine A2 (aE (v9 ?_));left;refine⟨a,tp,ns,_,53,rfl,dd,by omega,by decide,by decide,λu H3 u0 u1 s3 d3=>?_⟩;obtain⟨c,ec,ic⟩:=Uq u.toNat (by omega);have hD3:=s3 _ _ (d2.ne hD) hd;refine⟨Q0,u,c,rfl,rfl,by decide,by have:=J0 ec;rwa [Int.toNat_of_nonneg u0] at this,_,hD3,?_,⟨_,rfl⟩,?_,?_,cs++[c],by rw[qA,lc];rfl,?_,?_⟩
  ·rw[qM];exact F1 (by omega)
  ·exact rO (c9.trans sm s3) hD
  ·exact d2.put hD (c9.trans sm s3) d3
  ·intro z hz;rcases List.mem_append.mp hz with hz | hz
   ·exact gc z hz
   ·rw[List.mem_singleton.mp hz];exact ic
  ·rw[f9,qP];rfl
 ·rintro σ' H' ⟨⟨o,rfl⟩,sm,dd,cs,lc,gc,hd⟩;left;refine⟨"",D,cs.map fC,rfl,rfl,d0.of (by rw[List.map_map];exact hd),Wk cs (by omega),q _ _ (Wm ?_ ?_) (c9.trans s12 sm) (dd.up (by omega))⟩
  ·rw[o_];omega
  ·rw[o_];exact gc
def n8 {α:Type}(f:α->Th)(tp:Addr)(H0 H:Hp)(D:Addr)(us:List α):Prop:=c9 tp H0 H/\∃ ks,H D=some (.lst ks)/\Iss (rm (fr H0 H) D) ks (us.map f)
section
variable {α:Type} {f:α->Th} {a tp D:Addr} {ns:List Int} {N:Nat} {H0 H H':Hp} {us:List α}
theorem n8.nil (hD:H0 D=none):n8 f tp H0 (upd H0 D (.lst [])) D []:=⟨b9.tt (m8 hD _),[],f9,J7 _⟩
theorem n8.tt (d:Dr K a tp ns H0 N)(hD:H0 D=none)(h:n8 f tp H0 H D us)(s:c9 tp H H'):n8 f tp H0 H' D us:=by
 obtain⟨sm,ks,hd,is⟩:=h;exact⟨c9.trans sm s,ks,s _ _ (d.ne hD) hd,is.same (fM λb u _ e=>d.fr s b u e)⟩
theorem n8.new (d:Dr K a tp ns H N)(h:n8 f tp H0 H D us):b9 (fr H H') (rm (fr H0 H') D):=λb u e=>by
 obtain⟨sm,ks,hd,_⟩:=h;obtain⟨n,e⟩:=N5 e;rw[cD (λz=>by rw[z,hd] at n;cases n),L5 (d.free sm n)];exact e
theorem n8.put (d:Dr K a tp ns H0 N)(hD:H0 D=none)(h:n8 f tp H0 H D us){y:V}{u:α}(iy:Is (rm (fr H0 H) D) y (f u)):∃ ks,H D=some (.lst ks)/\ks.length=us.length/\n8 f tp H0 (upd H D (.lst (ks++[y]))) D (us++[u]):=by
 obtain⟨sm,ks,hd,is⟩:=h;refine⟨ks,hd,by rw[is.len,qM],rO sm hD,_,f9,?_⟩;rw[qP];exact(is.same nM).app (A9 (iy.same nM) (J7 _))
theorem n8.fin (hD:H0 D=none)(h:n8 f tp H0 H D us):Is (fr H0 H) (.ref D) (.ls (us.map f)):=by
 obtain⟨sm,ks,hd,is⟩:=h;exact E3 (by rw[L5 hD];exact hd) (is.same (wQ _ _))
end
def ykG (K:qF):Sp:=λvs H Q _=>∃ (a tp:Addr) (ns:List Int) (N:Nat),vs=[.ref a,.ref tp]/\Dr K a tp ns H N/\N<=90000/\∀ (y:V) (ps:List G7) (H':Hp),nU ps->c9 tp H H'->Dr K a tp ns H' (N+10)->Is (fr H H') y (lT ps)->Q y H'
theorem wJ:OF P w base T.zt 2 (ykG K):=by
 o_head (T.zt.F,X0);obtain⟨a,tp,ns,N,rfl,dr,hN,q⟩:=h;refine⟨_,(f7 (p0 2 X0.nd (j8 c6)) (f7 (p0 3 X0.nd (u9 O8 c8 (o6 (K1 T) hr (b7 (pv 0) (b7 (pv 1) (b7 c8 c6)))))) (f7 (Z6 PassesOwn.never rfl (kA rfl T.Jz (b7 (F8 j9 (j8 (b7 c8 (b7 c8 (b7 c8 (b7 c8 (b7 c8 c6)))))) (o6 (K1 T) hr (b7 (pv 0) (b7 (pv 1) (b7 c8 c6)))) (λ_ _=>rfl)) c6)) (U7 4 X0.nd) (f7 (E7 (U1 (pv 2) (b7 (g8 (b7 (u9 dA (pv 3) c8) (b7 (u9 cU (o6 (K1 T) hr (b7 (pv 0) (b7 (pv 1) (b7 c8 c6)))) c8) (b7 (u9 lF (pv 3) c8) c6)))) c6))) (j0 (p0 3 X0.nd (u9 O8 (u9 O8 (pv 3) c8) (o6 (K1 T) hr (b7 (pv 0) (b7 (pv 1) (b7 c8 c6))))))))) (j0 (r6 (pv 2)))))),?_⟩;left;refine D6 λD hD=>?_
 left;have s1:=m8 hD (.lst []);refine⟨a,tp,ns,N,40,rfl,dr.same s1,by omega,by decide,by decide,λv H1 v0 v1 s2 d2=>?_⟩;have s12:=c9.trans (b9.tt s1) s2;have hd1:=s2 _ _ (dr.ne hD) f9;left;refine D6 λp hp=>?_
 left;have s3:=m8 hp (.lst ([1,1,2,3,4].map V.int));refine⟨a,tp,ns,N+1,5,rfl,d2.same s3,by omega,by decide,by decide,λu H2 u0 u1 s4 d4=>?_⟩;refine M8 (d0.of (s4 _ _ (d2.ne hp) f9)) (sV (L:=[1,1,2,3,4]) u0 (by show u < 5;exact u1)) ?_;have g:∀ x∈([1,1,2,3,4]:List Int),1<=x/\x<=4:=by decide
 have gx:=g _ (List.getElem_mem (by show u.toNat < 5;omega:u.toNat < ([1,1,2,3,4]:List Int).length));generalize ([1,1,2,3,4]:List Int)[u.toNat]'_=n at gx |-;have s14:=c9.trans s12 (c9.trans (b9.tt s3) s4);have hd2:=s4 _ _ (dr.ne hD) (s3 _ _ hd1);left;have acc0:n8 pT tp H H2 D []:=n8.tt dr hD (n8.tt dr hD (n8.nil hD) s2) (c9.trans (b9.tt s3) s4);refine⟨n,rfl,by omega,by omega,je (λi σ H'=>(∃ (x:Int) (o:Option V),σ=[some (.ref a),some (.ref tp),some (.ref D),some (.int x),o]/\7+v+i<=x/\x<=7+v+5*i/\∃ ps:List G7,ps.length=i/\(∀ p∈ps,jP p)/\iR ps/\(∀ p∈ps,aQ p < x)/\n8 pT tp H H' D ps)/\Dr K a tp ns H' (N+2+2*i)) ?_ ?_ ?_⟩
 ·exact⟨⟨_,_,rfl,by omega,by omega,[],rfl,by simp,λi h=>absurd h (by simp),by simp,acc0⟩,d4⟩
 ·rintro i σ H' N' hN' hi ⟨⟨x,o,rfl,x1,x2,ps,lp,gp,ri,up,acc⟩,dd⟩;obtain⟨_,ks,hd,_⟩:=id acc;left;refine⟨.inl ⟨rfl,_,d0.of hd⟩,?_⟩;left;refine⟨a,tp,ns,_,5,rfl,dd,by omega,by decide,by decide,λl H3 l0 l1 s5 d5=>?_⟩;have acc3:=n8.tt dr hD acc s5;left;refine D6 λp hp=>?_
  have s6:=m8 hp (.tup [.int (x%7),.int (l - 2),.int (x / 7)]);have ip:Is (fr H3 (upd H3 p (.tup [.int (x%7),.int (l - 2),.int (x / 7)]))) (.ref p) (pT ⟨x%7,l - 2,x / 7⟩):=tE (by rw[L5 hp];exact f9);have acc4:=n8.tt dr hD acc3 (b9.tt s6);obtain⟨ks',hd',lk,acc5⟩:=acc4.put dr hD (ip.same (n8.new d5 acc3));have dd5:=dr.put (o:=.lst (ks'++[.ref p])) hD acc4.1 (d5.same s6);generalize upd H3 p (.tup [.int (x%7),.int (l - 2),.int (x / 7)])=H4 at hd' acc5 dd5 |-;left;refine Q9 hd' (F1 (by omega)) ?_;left;refine⟨a,tp,ns,_,4,rfl,dd5,by omega,by decide,by decide,λm H5 m0 m1 s7 d7=>?_⟩;left;have ex:aQ ⟨x%7,l - 2,x / 7⟩=x:=by show 7*(x / 7)+x%7=x;omega
  have lp1:(ps++[(⟨x%7,l - 2,x / 7⟩:G7)]).length=i+1:=by rw[qA,lp];rfl
  refine hN' _ _ ⟨⟨_,_,rfl,by omega,by omega,_,lp1,?_,?_,?_,n8.tt dr hD acc5 s7⟩,d7.up (by omega)⟩
  ·intro z hz;rcases List.mem_append.mp hz with hz | hz
   ·exact gp z hz
   ·rw[List.mem_singleton.mp hz];exact⟨by show 0<=x%7;omega,by show x%7<=6;omega,by show -2<=l - 2;omega,by show l - 2<=2;omega,by show 0<=x / 7;omega,by show x / 7<=8;omega⟩
  ·intro j hj;rw[qA,qS] at hj;by_cases e:j+1 < ps.length
   ·rw[List.getElem_append_left (by omega),List.getElem_append_left e];exact ri j e
   ·have e2:j+1=ps.length:=by omega
    rw[List.getElem_append_left (by omega),List.getElem_append_right (by omega)];simp only[e2,Nat.sub_self,List.getElem_singleton];rw[ex];exact up _ (List.getElem_mem _)
  ·intro z hz;rcases List.mem_append.mp hz with hz | hz
   ·have:=up z hz;omega
   ·rw[List.mem_singleton.mp hz,ex];omega
 ·rintro σ H' ⟨⟨x,o,rfl,x1,x2,ps,lp,gp,ri,up,acc⟩,dd⟩;left;exact q _ ps _ ⟨by omega,by omega,gp,ri⟩ acc.1 (dd.up (by omega)) (acc.fin hD)
theorem X8 {te:TS}{D:S0}{σ:St}{H:Hp}(P:St->Hp->Prop)(h1:∀ D':S0,(∀ σ H,P σ H->D'.nx σ H)->te D' σ H)(h2:∀ σ H,P σ H->D.nx σ H):te D σ H:=h1 D h2
section
variable {a tp:Addr} {ns:List Int} {σ:St} {H:Hp} {N:Nat} {Q:VK} {b cl op:Bool}
theorem tI {k:Int}(d:Dr K a tp ns H N)(hN:N<=100000)(k0:0 < k)(k1:k<=1000)(e0:σ[0]?=some (some (.ref a)))(e1:σ[1]?=some (some (.ref tp)))(q:∀ c H',c9 tp H H'->Dr K a tp ns H' (N+1)->Q (.bl c) H') :
  R5 kB (cI (pR K) [] E0 (O3 (D7 0) (O3 (D7 1) (O3 (tC (V.int k)) Z8)))) (tC (V.int 1)) σ H Q :=
 M9 (dN (E8 (E9 e0 (E8 (E9 e1 (E8 (Q5 (M0 ⟨a,tp,ns,N,k,rfl,d,hN,k0,k1,λv H' v0 v1 s d'=>Q5 (fD (q _ _ s d'))⟩))))))))
theorem ylK {i:Nat}(d:Dr K a tp ns H N)(hN:N<=90000)(e0:σ[0]?=some (some (.ref a)))(e1:σ[1]?=some (some (.ref tp)))(ei:σ[i]?=some (some (.bl b)))(q:∀ cl H',(cl=true->b=true)->c9 tp H H'->Dr K a tp ns H' (N+1)->Q (.bl cl) H') :
  jG (D7 i) (R5 kB (cI (pR K) [] E0 (O3 (D7 0) (O3 (D7 1) (O3 (tC (V.int 2)) Z8)))) (tC (V.int 1))) σ H Q:=by
 refine oS (E9 ei (n6 ?_));cases b with
 | true=>exact v9 (tI d (by omega) (by decide) (by decide) e0 e1 λc H' s d'=>q c H' (λ_=>rfl) s d')
 | false=>exact t7 (q false H (λz=>nomatch z) (λ_ _ _ e=>e) (d.up (by omega)))
theorem ypd {i j:Nat}(d:Dr K a tp ns H N)(hN:N<=90000)(e0:σ[0]?=some (some (.ref a)))(e1:σ[1]?=some (some (.ref tp)))(ei:σ[i]?=some (some (.bl b)))(ej:σ[j]?=some (some (.bl cl)))(q:∀ op H',(op=true->(b&&!cl)=false)->c9 tp H H'->Dr K a tp ns H' (N+1)->Q (.bl op) H') :
  jG (oJ (D7 j) (nD (D7 i))) (R5 kB (cI (pR K) [] E0 (O3 (D7 0) (O3 (D7 1) (O3 (tC (V.int 4)) Z8)))) (tC (V.int 1))) σ H Q:=by
 refine oS (yF (E9 ej (n6 ?_)));cases cl with
 | true=>exact v9 (n6 (v9 (tI d (by omega) (by decide) (by decide) e0 e1 λc H' s d'=>q c H' (λ_=>by simp) s d')))
 | false=>
  refine t7 (uM (E9 ei (n6 (n6 ?_))));cases b with
  | true=>exact t7 (q false H (λz=>nomatch z) (λ_ _ _ e=>e) (d.up (by omega)))
  | false=>exact v9 (tI d (by omega) (by decide) (by decide) e0 e1 λc H' s d'=>q c H' (λ_=>rfl) s d')
theorem We {i j k:Nat}(ei:σ[i]?=some (some (.bl b)))(ej:σ[j]?=some (some (.bl cl)))(ek:σ[k]?=some (some (.bl op)))(q:Q (.bl (op||(b&&!cl))) H):oJ (D7 k) (jG (D7 i) (nD (D7 j))) σ H Q:=by
 refine yF (E9 ek (n6 ?_));cases op with
 | true=>exact v9 q
 | false=>
  refine t7 (oS (E9 ei (n6 ?_)));cases b with
  | true=>exact v9 (uM (E9 ej (n6 q)))
  | false=>exact t7 q
end
structure dI (most:Int) (ss:List Sn) (b:Bool) (left:Int):Prop where
 g:∀ s∈ss,K3 s
 sum:B3 ss=most - 48 - left
 l0:0<=left
 sl:∀ r,Y3 b r->Y3 false (L4 ss++r)
theorem dI.add {most left:Int}{ss:List Sn}{b b':Bool}{s:Sn}(h:dI most ss b left)(gs:K3 s)(l:G4 s<=left)(sl:∀ r,Y3 b' r->Y3 b (L4 [s]++r)):dI most (ss++[s]) b' (left - G4 s) where
 g z hz:=by
  rcases List.mem_append.mp hz with hz | hz
  ·exact h.g z hz
  ·rw[List.mem_singleton.mp hz];exact gs
 sum:=by rw[aY,bZ,h.sum];omega
 l0:=by omega
 sl r hr:=by rw[fX,List.append_assoc];exact h.sl _ (sl r hr)
theorem Wx (ss:List Sn)(ps:List G7)(n:Int)(wd:Str)(op cl:Bool):x9 (ss++[.tones ps n wd op cl])=C6 ss++[.tones ps n wd op cl]/\x9 (ss++[.tones ps n wd op cl]++[.rest 24]++[.rest 5])=C6 ss++[.tones ps n wd op cl]:=by
 have e1:C6 (ss++[.tones ps n wd op cl])=C6 ss++[.tones ps n wd op cl]:=by rw[cV,gO rfl]
 have r1:F7 (C6 ss++[.tones ps n wd op cl])=false:=by unfold F7;rw[List.getLast?_append];rfl
 constructor
 ·unfold x9 cB;rw[e1,if_neg (by rw[r1];simp)]
 ·unfold x9 cB;have e2:X7 (C6 ss++[.tones ps n wd op cl]) (.rest 24)=C6 ss++[.tones ps n wd op cl]++[.rest 24]:=gO (by rw[r1];rfl);rw[cV,cV,e1,e2,iK,if_pos (by unfold F7;rw[List.getLast?_append];rfl),List.dropLast_concat]
theorem jg {ss:List Sn}(g:∀ s∈ss,K3 s):Pos ss:=λs hs=>by
 have:=g s hs;cases s with
 | rest n=>exact this.1
 | tones=>exact this.2.1
theorem qt {ss:List Sn}(ps:Pos ss)(h:B3 ss<=4608):gW ss=true:=Ks λj hj=>by
 unfold Z4;cases e:M4 ss[j]&&F7 (C6 (ss.take j)) with
 | false=>rfl
 | true=>
  rw[Bool.and_eq_true] at e;obtain⟨vs,m,ev⟩:=gP e.2;have p1:=qj (ss:=ss.take j) λz hz=>ps z (List.mem_of_mem_take hz)
  have a:=jk (ss.take j);have b:=yju ps (j+1);rw[List.take_succ_eq_append_getElem hj,aY,bZ] at b;rw[ev] at p1 a;have z1:=aY vs [.rest m];rw[bZ] at z1;have z2:G4 (.rest m)=m:=rfl;have z3:=qK (ss:=vs) λz hz=>p1 z (List.mem_append_left _ hz)
  rw[ev,List.getLastD_concat];exact decide_eq_true (by omega)
theorem yrg {most left:Int}{ss:List Sn}{b:Bool}{ps:List G7}{n:Int}(vi:dI most ss b left)(gl:K3 (.tones ps n "" false b))(ln:ss.length<=93)(hn:n<=41)(hm:most<=780) :
  (C4 (ss++[.tones ps n "" false b])/\F7 (x9 (ss++[.tones ps n "" false b]))=false/\B3 (x9 (ss++[.tones ps n "" false b]))<=773) /\
  (C4 (ss++[.tones ps n "" false b]++[.rest 24]++[.rest 5])/\F7 (x9 (ss++[.tones ps n "" false b]++[.rest 24]++[.rest 5]))=false/\B3 (x9 (ss++[.tones ps n "" false b]++[.rest 24]++[.rest 5]))<=773):=by
 obtain⟨e1,e2⟩:=Wx ss ps n "" false b;have r1:F7 (C6 ss++[.tones ps n "" false b])=false:=by unfold F7;rw[List.getLast?_append];rfl
 have sn:G4 (.tones ps n "" false b)=n:=rfl;have su:B3 (C6 ss++[.tones ps n "" false b])<=773:=by
  have:=vi.sum;have:=vi.l0;rw[aY,bZ,jk,sn];omega
 have s2:B3 (ss++[.tones ps n "" false b])<=773:=by
  have:=vi.sum;have:=vi.l0;rw[aY,bZ,sn];omega
 have sl:Y3 false (L4 (ss++[.tones ps n "" false b])):=by
  rw[fX];exact vi.sl _ (show(b=true->b=true)/\(false=true->(b&&!b)=false)/\(false||(b&&!b))=false from ⟨λh=>h,(λz=>nomatch z),by cases b<;>rfl⟩)
 have g:∀ s∈ss++[.tones ps n "" false b],K3 s:=λz hz=>by
  rcases List.mem_append.mp hz with hz | hz
  ·exact vi.g z hz
  ·rw[List.mem_singleton.mp hz];exact gl
 have g2:∀ s∈ss++[.tones ps n "" false b]++[.rest 24]++[.rest 5],K3 s:=λz hz=>?_
 refine⟨⟨⟨by simp,by simp;omega,g,qt (jg g) (by omega),by rw[e1];simp,sl⟩,by rw[e1];exact r1,by rw[e1];exact su⟩,⟨by simp,by simp;omega,g2,qt (jg g2) ?_,by rw[e2];simp,?_⟩,by rw[e2];exact r1,by rw[e2];exact su⟩
 rotate_left 2
 ·rcases List.mem_append.mp hz with hz | hz
  ·rcases List.mem_append.mp hz with hz | hz
   ·exact g z hz
   ·rw[List.mem_singleton.mp hz];exact⟨by decide,by decide⟩
  ·rw[List.mem_singleton.mp hz];exact⟨by decide,by decide⟩
 ·rw[aY,aY,bZ,bZ];show _+(24:Int)+5<=4608
  omega
 ·rw[fX,fX,show L4 [.rest 24]=[] from rfl,show L4 [.rest 5]=[] from rfl,List.append_nil,List.append_nil];exact sl
def Yk (K:qF):Sp:=λvs H Q _=>∃ (a tp:Addr) (ns:List Int) (N:Nat) (most:Int),vs=[.ref a,.ref tp,.int most]/\Dr K a tp ns H N/\N<=80000/\200<=most/\most<=780/\∀ (y:V) (ss:List Sn) (H':Hp),C4 ss->F7 (x9 ss)=false->B3 (x9 ss)<=773->c9 tp H H'->Dr K a tp ns H' (N+5000)->Is (fr H H') y (vT ss)->Q y H'
theorem ytH:OF P w base T.zS 3 (Yk K):=by
 o_head (T.zS.F,E5);obtain⟨a,tp,ns,N,most,rfl,dr,hN,hm,hm2,q⟩:=h;refine⟨_,(f7 (p0 3 E5.nd (j8 c6)) (f7 (p0 4 E5.nd v8) (f7 (p0 5 E5.nd (u9 cU (pv 2) c8)) (f7 (p0 6 E5.nd (o6 (K1 T) hr (b7 (pv 0) (b7 (pv 1) (b7 c8 c6))))) (f7 (A7 (C3 S4 (o6 (K1 T) hr (b7 (pv 0) (b7 (pv 1) (b7 c8 c6)))) c8 (z5 _)) (j0 (p0 6 E5.nd (o6 (K1 T) hr (b7 (pv 0) (b7 (pv 1) (b7 c8 c6)))))) B4) (f7 (Z6 PassesOwn.never rfl (kA rfl T.Jz (b7 (pv 6) c6)) (U7 7 E5.nd) (f7 (p0 8 E5.nd (o6 (yte T) hr (b7 (pv 0) (b7 (pv 1) c6)))) (f7 (A7 (C3 jv (pv 6) c8 (z5 _)) (j0 (p0 8 E5.nd (u9 O8 c8 (u9 dA (pv 8) c8)))) B4) (j0 (A7 (C3 X6 (pv 8) (pv 5) (z5 _)) (f7 (p0 5 E5.nd (u9 cU (pv 5) (pv 8))) (j0 (A7 (C3 S4 (o6 (K1 T) hr (b7 (pv 0) (b7 (pv 1) (b7 c8 c6)))) c8 (z5 _)) (j0 (E7 (U1 (pv 3) (b7 (g8 (b7 n9 (b7 (pv 8) c6))) c6)))) (f7 (p0 9 E5.nd (N0 (pv 4) (N6 (N2 S4 (o6 (K1 T) hr (b7 (pv 0) (b7 (pv 1) (b7 c8 c6)))) c8 (z5 _))))) (f7 (p0 10 E5.nd (N0 (oK (pv 9) (N6 (kW (pv 4)))) (N6 (N2 S4 (o6 (K1 T) hr (b7 (pv 0) (b7 (pv 1) (b7 c8 c6)))) c8 (z5 _))))) (f7 (p0 4 E5.nd (oK (pv 10) (N6 (N0 (pv 4) (N6 (kW (pv 9))))))) (f7 (p0 11 E5.nd (o6 (ysU T) hr (b7 (pv 0) (b7 (pv 1) c6)))) (j0 (E7 (U1 (pv 3) (b7 (g8 (b7 n9 (b7 (o6 (wJ T) hr (b7 (pv 0) (b7 (pv 1) c6))) (b7 (pv 8) (b7 (pv 11) (b7 (pv 10) (b7 (pv 9) c6))))))) c6))))))))))) B4))))) (f7 (E7 (U1 (pv 3) (b7 (g8 (b7 n9 (b7 (o6 (wJ T) hr (b7 (pv 0) (b7 (pv 1) c6))) (b7 (u9 O8 c8 (o6 (K1 T) hr (b7 (pv 0) (b7 (pv 1) (b7 c8 c6))))) (b7 n9 (b7 v8 (b7 (pv 4) c6))))))) c6))) (f7 (A7 (C3 S4 (o6 (K1 T) hr (b7 (pv 0) (b7 (pv 1) (b7 c8 c6)))) c8 (z5 _)) (j0 (E7 (XQ (pv 3) (b7 (j8 (b7 (g8 (b7 n9 (b7 c8 c6))) (b7 (g8 (b7 n9 (b7 c8 c6))) c6))) c6)))) B4) (j0 (r6 (pv 3))))))))))),?_⟩;left;refine D6 λD hD=>?_
 have s1:=m8 hD (.lst []);left;refine⟨a,tp,ns,N,9,rfl,dr.same s1,by omega,by decide,by decide,λv H1 v0 v1 s2 d2=>?_⟩;refine A2 (x4 (X8 (te:=cM _ _ _) (fun σ H'=>∃ n:Int,0<=n/\n<=93/\σ=[some (.ref a),some (.ref tp),some (.int most),some (.ref D),some (.bl false),some (.int (most - 48)),some (.int n),none,none,none,none,none]/\c9 tp (upd H D (.lst [])) H'/\Dr K a tp ns H' (N+3)) (λD' hD'=>?_) fun σ H2 p=>?_))
 ·left;refine⟨a,tp,ns,_,12,rfl,d2,by omega,by decide,by decide,λu H2 u0 u1 s3 d3=>?_⟩;left;refine O4 (λ_=>?_) λ_=>?_
  ·left;refine⟨a,tp,ns,_,94,rfl,d3,by omega,by decide,by decide,λw H3 w0 w1 s4 d4=>?_⟩;left;exact hD' _ _ ⟨w,w0,by omega,rfl,c9.trans s2 (c9.trans s3 s4),d4⟩
  ·exact F9 (hD' _ _ ⟨v,v0,by omega,rfl,c9.trans s2 s3,d3.up (by omega)⟩)
 obtain⟨n,n0,n93,rfl,s3,d3⟩:=p;have acc0:n8 z6 tp H H2 D []:=n8.tt dr hD (n8.nil hD) s3;left;refine⟨n,rfl,by omega,by omega,je (λi σ H'=>∃ (ss:List Sn) (b:Bool) (left:Int) (o7 o8 o9 o10 o11:Option V),σ=[some (.ref a),some (.ref tp),some (.int most),some (.ref D),some (.bl b),some (.int left),some (.int n),o7,o8,o9,o10,o11]/\ss.length<=i/\dI most ss b left/\n8 z6 tp H H' D ss/\Dr K a tp ns H' (N+3+40*i)) ⟨[],false,_,_,_,_,_,_,rfl,qR _,⟨by simp,by show(0:Int)=_;omega,by omega,λr h=>h⟩,acc0,d3⟩ ?_ ?_⟩
 ·rintro i σ H' N' hN' hi ⟨ss,b,left,o7,o8,o9,o10,o11,rfl,ln,vi,acc,dd⟩;left;refine⟨a,tp,ns,_,rfl,dd,by omega,λm H3 m0 m1 s4 d4=>?_⟩;have acc3:=n8.tt dr hD acc s4;refine A2 (x4 (X8 (te:=cM _ _ _) (fun σ H5=>H5=H3/\∃ m:Int,2<=m/\m<=150/\σ=[some (.ref a),some (.ref tp),some (.int most),some (.ref D),some (.bl b),some (.int left),some (.int n),some (.int (0+i)),some (.int m),o9,o10,o11]) (λD' hD'=>?_) fun σ H5 p=>?_))
  ·left;refine O4 (λ_=>?_) λ_=>?_
   ·left;exact hD' _ _ ⟨rfl,_,by omega,by omega,rfl⟩
   ·exact F9 (hD' _ _ ⟨rfl,m,m0,m1,rfl⟩)
  obtain⟨rfl,m,m0,m1,rfl⟩:=p;left;refine O4 (λhm=>?_) λ_=>?_
  ·left;refine⟨a,tp,ns,_,3,rfl,d4,by omega,by decide,by decide,λw H6 w0 w1 s5 d5=>?_⟩;have acc5:=n8.tt dr hD acc3 s5;obtain⟨_,ks,hd,_⟩:=id acc5;left;refine O4 (λ_=>?_) λ_=>?_
   ·left;refine⟨.inl ⟨rfl,_,d0.of hd⟩,?_⟩;left;refine D6 λp hp=>?_
    have s6:=m8 hp (.tup [.str "rest",.int m]);have ip:Is (fr H6 (upd H6 p (.tup [.str "rest",.int m]))) (.ref p) (z6 (.rest m)):=xh (by rw[L5 hp];exact f9);have acc6:=n8.tt dr hD acc5 (b9.tt s6);obtain⟨ks',hd',lk,acc7⟩:=acc6.put dr hD (ip.same (n8.new d5 acc5));have dd7:=dr.put (o:=.lst (ks'++[.ref p])) hD acc6.1 (d5.same s6);left;refine Q9 hd' (F1 (by omega)) (hN' _ _ ⟨_,b,left - m,_,_,_,_,_,rfl,by rw[qA,qS];omega,vi.add (s:=.rest m) ⟨m0,by omega⟩ hm (λr h=>h),acc7,dd7.up (by omega)⟩)
   ·refine x4 (D8 (ylK d5 (by omega) rfl rfl rfl λcl H7 hcl s6 d6=>A2 ?_));dsimp only;refine x4 (D8 (ypd d6 (by omega) rfl rfl rfl rfl λop H8 hop s7 d7=>A2 ?_));dsimp only;refine x4 (D8 (We rfl rfl rfl (A2 ?_)));left;refine⟨a,tp,ns,_,rfl,d7,by omega,λwd H9 gw s8 d8=>?_⟩;have acc8:=n8.tt dr hD acc5 (c9.trans s6 (c9.trans s7 s8));obtain⟨_,ks8,hd8,_⟩:=id acc8;left;refine⟨.inl ⟨rfl,_,d0.of hd8⟩,?_⟩;left;refine⟨a,tp,ns,_,rfl,d8,by omega,λy ps H10 gps s9 d9 iy=>?_⟩;have acc9:=n8.tt dr hD acc8 s9;left;refine D6 λp hp=>?_
    have s10:=m8 hp (.tup [.str "tones",y,.int m,.str wd,.bl op,.bl cl]);have np:=d9.free s9 hp;have ip:Is (fr H9 (upd H10 p (.tup [.str "tones",y,.int m,.str wd,.bl op,.bl cl]))) (.ref p) (z6 (.tones ps m wd op cl)):=sR (by rw[L5 np];exact f9) (iy.same (J6 s10));have acc10:=n8.tt dr hD acc9 (b9.tt s10);obtain⟨ks',hd',lk,acc11⟩:=acc10.put dr hD (ip.same (n8.new d8 acc8));have dd11:=dr.put (o:=.lst (ks'++[.ref p])) hD acc10.1 (d9.same s10);left;refine Q9 hd' (F1 (by omega)) (hN' _ _ ⟨_,_,left - m,_,_,_,_,_,rfl,by rw[qA,qS];omega,vi.add (s:=.tones ps m wd op cl) ⟨gps,m0,by omega,gw⟩ hm (λr h=>⟨hcl,hop,h⟩),acc11,dd11.up (by omega)⟩)
  ·exact F9 (hN' _ _ ⟨ss,b,left,_,_,_,_,_,rfl,by omega,vi,acc3,d4.up (by omega)⟩)
 ·rintro σ H' ⟨ss,b,left,o7,o8,o9,o10,o11,rfl,ln,vi,acc,dd⟩;have ln93:ss.length<=93:=by omega
  have dd:=dd.up (M:=N+3+40*93) (by omega);obtain⟨_,ks8,hd8,_⟩:=id acc;left;refine⟨.inl ⟨rfl,_,d0.of hd8⟩,?_⟩;left;refine⟨a,tp,ns,_,rfl,dd,by omega,λy ps H10 gps s9 d9 iy=>?_⟩;left;refine⟨a,tp,ns,_,40,rfl,d9,by omega,by decide,by decide,λw H11 w0 w1 s10 d10=>?_⟩;have s910:=c9.trans s9 s10;have acc10:=n8.tt dr hD acc s910;left;refine D6 λp hp=>?_
  have s11:=m8 hp (.tup [.str "tones",y,.int (2+w),.str "",.bl false,.bl b]);have ip:Is (fr H' (upd H11 p (.tup [.str "tones",y,.int (2+w),.str "",.bl false,.bl b]))) (.ref p) (z6 (.tones ps (2+w) "" false b)):=sR (by rw[L5 (d10.free s910 hp)];exact f9) (iy.same ((dd.fr s10).trans (J6 s11)));have acc11:=n8.tt dr hD acc10 (b9.tt s11);obtain⟨ks',hd',lk,acc12⟩:=acc11.put dr hD (ip.same (n8.new dd acc));have dd12:=dr.put (o:=.lst (ks'++[.ref p])) hD acc11.1 (d10.same s11);have gl:K3 (.tones ps (2+w) "" false b):=⟨gps,by omega,by omega,.inl rfl⟩;generalize upd H11 p (.tup [.str "tones",y,.int (2+w),.str "",.bl false,.bl b])=H12 at hd' acc12 dd12 |-;left;refine Q9 hd' (F1 (by omega)) ?_;generalize upd H12 D (.lst (ks'++[.ref p]))=H13 at acc12 dd12 |-;have fin:=yrg vi gl ln93 (by show 2+w<=41;omega) hm2;refine x4 (X8 (te:=cM _ _ _) (fun σ H14=>σ=[some (.ref a),some (.ref tp),some (.int most),some (.ref D),some (.bl b),some (.int left),some (.int n),o7,o8,o9,o10,o11]/\∃ ss2,(C4 ss2/\F7 (x9 ss2)=false/\B3 (x9 ss2)<=773)/\n8 z6 tp H H14 D ss2/\Dr K a tp ns H14 (N+5000)) (λD' hD'=>?_) fun σ H14 p=>?_)
  ·left;refine⟨a,tp,ns,_,4,rfl,dd12,by omega,by decide,by decide,λu2 H14 u0 u1 s13 d13=>?_⟩;have acc13:=n8.tt dr hD acc12 s13;obtain⟨_,ks13,hd13,is13⟩:=id acc13;left;refine O4 (λ_=>?_) λ_=>?_
   ·left;refine⟨.inl ⟨rfl,_,d0.of hd13⟩,E8 ?_⟩;refine(show bK _ (.ls [z6 (.rest 24),z6 (.rest 5)]) from ?_) _ _ _ λx H15 s14 i14=>?_
    ·exfalso
    rw[Is] at i14;obtain⟨b1,zs,rfl,eb,is14⟩:=i14;have acc15:=n8.tt dr hD acc13 (b9.tt s14);obtain⟨sm15,ks15,hd15,is15⟩:=id acc15;have lz:zs.length=2:=is14.len;have lk15:=is15.len;rw[qM,qA,qS] at lk15;refine M0 ⟨D,b1,ks15,zs,rfl,rfl,hd15,(N5 eb).2,?_,?_⟩
    ·rw[lz,lk15];exact S6 (by omega)
    refine hD' _ _ ⟨rfl,_,fin.2,⟨rO sm15 hD,_,f9,?_⟩,?_⟩
    ·rw[qP,qP,List.append_assoc];exact(is15.same nM).app ((is14.same (n8.new d13 acc13)).same nM)
    ·exact(dr.put hD sm15 (d13.same s14)).up (by omega)
   ·exact F9 (hD' _ _ ⟨rfl,_,fin.1,acc13,d13.up (by omega)⟩)
  obtain⟨rfl,ss2,⟨g2,e2,m2⟩,acc14,d14⟩:=p;left;exact q _ ss2 _ g2 e2 m2 acc14.1 d14 (acc14.fin hD)
theorem yvc {x:V}{s:Sn}{H:Hp}(h:Is H x (z6 s)):∃ a ys,x=.ref a/\H a=some (.tup (.str (if M4 s then "rest" else "tones") :: ys))/\(M4 s=true->ys[0]?=some (.int (G4 s)))/\(M4 s=false->ys[1]?=some (.int (G4 s))):=by
 cases s with
 | rest n=>obtain⟨a,rfl,ea⟩:=h.rest;exact⟨a,_,rfl,ea,λ_=>rfl,nofun⟩
 | tones ps n wd op cl=>obtain⟨a,y,rfl,ea,_⟩:=h.tones;exact⟨a,_,rfl,ea,nofun,λ_=>rfl⟩
theorem ym7 {n:Nat}(h:0 < n):cT n (-1)=some (n - 1):=by
 unfold cT;rw[if_neg (by omega)];simp;omega
theorem Ur {ys:List V}{x v:V}:(ys++[x]).set ((ys++[x]).length - 1) v=ys++[v]:=by
 rw[qA,qS,Nat.add_sub_cancel,List.set_append_right _ _ (qR _),Nat.sub_self];rfl
theorem pJ (b:Bool):A3 (D9 (.im (.str (if b then "rest" else "tones")))) (D9 (.im (.str "rest")))=b:=by cases b<;>rfl
theorem Kc:cW (λH x s=>Is H x (z6 s)):=λs h=>h.same s
def Yt:Sp:=λvs H Q _=>∃ (x:V) (ss:List Sn) (Hs:Hp),vs=[x]/\b9 Hs H/\Is Hs x (vT ss)/\1<=ss.length/\ss.length<=96/\∀ y H',b9 H H'->Is (nw Hs H H') y (vT (x9 ss))->Q y H'
theorem qY {x:V}{s:Sn}{H:Hp}(h:Is H x (z6 s)):∃ a ys,x=.ref a/\H a=some (.tup ys)/\ys[0]?=some (.str (if M4 s then "rest" else "tones"))/\(M4 s=true->ys[1]?=some (.int (G4 s)))/\(M4 s=false->ys[2]?=some (.int (G4 s))):=by
 obtain⟨a,ys,e,ea,h1,h2⟩:=yvc h;exact⟨a,_,e,ea,rfl,h1,h2⟩
theorem yme {ss:List Sn}(h:1<=ss.length):C6 ss≠[]:=by
 obtain⟨s,hs⟩:∃ s,ss.getLast?=some s:=by
  cases e:ss.getLast? with
  | none=>rw[List.getLast?_eq_none_iff.mp e] at h;simp at h
  | some s=>exact⟨s,rfl⟩
 obtain⟨vs,rfl⟩:=List.getLast?_eq_some_iff.mp hs;rw[cV];unfold X7;split<;>simp
theorem jn:OF P w base T.Rm 1 Yt:=by
 o_head (T.Rm.F,Y9);obtain⟨x,ss,Hs,rfl,sH,ix,n1,n2,q⟩:=h;rw[vT,Is] at ix;obtain⟨a,xs,rfl,ea,ix⟩:=ix;have ea':=sH _ _ ea;have al:=T5 ix;refine⟨_,(f7 (p0 1 Y9.nd (j8 c6)) (f7 (Z6 PassesOwn.never rfl (K2 (pv 0)) (U7 2 Y9.nd) (j0 (A7 (PW.pt (iV (C3 (X3 hu) (xT (pv 2)) n9 (z5 _)) (iV (C3 (lO hu) (pv 1) (j8 c6) (z5 _)) (jF (C3 (X3 hu) (xT (F8 j9 (pv 1) (X2 W6 c8) (λ_ _=>rfl))) n9 (z5 _)))))) (j0 (uH (g8 (b7 n9 (b7 (u9 O8 (xT (F8 j9 (pv 1) (X2 W6 c8) (λ_ _=>rfl))) (xT (pv 2))) c6))) (jc (pv 1) (X2 W6 c8) S_))) (j0 (E7 (U1 (pv 1) (b7 (pv 2) c6))))))) (f7 (A7 (C3 (X3 hu) (xT (F8 j9 (pv 1) (X2 W6 c8) (λ_ _=>rfl))) n9 (z5 _)) (j0 (E7 (nR F.plainAttrs_list F.slot_list_pop F.type_list_pop Vb (pv 1)))) B4) (j0 (r6 (pv 1)))))),?_⟩;left;refine D6 λD hD=>?_
 left;refine⟨a,rfl,⟨_,d0.of (m8 hD _ _ _ ea')⟩,cJ (xs:=xs) (λi σ H'=>(∃ o,σ=[some (.ref a),some (.ref D),o])/\F0 (λH x s=>Is H x (z6 s)) Hs H H' D (C6 (ss.take i))) ⟨⟨_,rfl⟩,F0.nil hD⟩ (λi σ H' _ p=>d0.of (p.2.1 _ _ ea')) ?_ ?_⟩
 ·rintro i x σ H' N hN hx ⟨⟨o,rfl⟩,sm,kv,hd,ak⟩;obtain⟨hi,rx⟩:=Z0 al hx;have tk:C6 (ss.take (i+1))=X7 (C6 (ss.take i)) ss[i]:=by rw[List.take_succ_eq_append_getElem hi,cV]
  have lk:=rZ (ss.take i);rw[qT] at lk;generalize C6 (ss.take i)=ks at ak tk lk;generalize ss[i]=sn at rx tk;have lkv:=ak.1;obtain⟨b,ys,rfl,eb,y0,y1,y2⟩:=qY (rx.same (sH.trans sm));have add:∀ H2,b9 H' H2->(M4 sn&&F7 ks)=false->N [some (.ref a),some (.ref D),some (.ref b)] (upd H2 D (.lst (kv++[.ref b]))):=λH2 s2 hf=>by
   refine hN _ _ ⟨⟨_,rfl⟩,?_⟩;rw[tk,gO hf];exact F0.put (R:=λH x s=>Is H x (z6 s)) Kc hD (sm.trans s2) (ak.imp λ_ _ _ z=>z.same (L7 s2)) (rx.same (bU sH))
  left;refine W3 (m9.of eb) (J0 (j:=0) y0) ?_;left;refine bJ ⟨rfl,A6⟩ ⟨rfl,A6⟩ (B5 rfl) (B5 rfl) ?_;rw[pJ];left;cases hr':M4 sn with
  | false=>
   refine t7 ?_;left;refine⟨.inl ⟨rfl,_,d0.of hd⟩,?_⟩;left;exact Q9 hd (F1 (by omega)) (add _ (b9.refl _) (by rw[hr'];rfl))
  | true=>
   refine v9 ?_;left;refine D6 λp hp=>?_
   have s2:=m8 hp (.lst []);have hd2:=s2 _ _ hd;have eb2:=s2 _ _ eb;refine⟨D,p,kv,rfl,rfl,d0.of hd2,d0.of f9,n6 ?_⟩;generalize upd H' p (.lst [])=H2 at s2 hd2 eb2 |-;cases e:ks.getLast? with
   | none=>
    have:kv=[]:=List.eq_nil_of_length_eq_zero (by rw[lkv,List.getLast?_eq_none_iff.mp e];rfl);subst this;refine t7 ?_;left;refine⟨.inl ⟨rfl,_,d0.of hd2⟩,?_⟩;left;exact Q9 hd2 (F1 (by omega)) (add _ s2 (by unfold F7;rw[e,Bool.and_false]))
   | some sl=>
    obtain⟨zs,z,rfl,sz,vs',ev,az⟩:=fY ak e;obtain⟨c,ws,rfl,ec,w0,w1,w2⟩:=qY ((sz.same (V6 sH sm)).same s2);rw[show(!(zs++[V.ref c]).isEmpty)=true by cases zs<;>rfl];refine v9 ?_;left;refine M8 (d0.of hd2) (fH zs _) ?_;left;refine W3 (m9.of ec) (J0 (j:=0) w0) ?_;left;refine bJ ⟨rfl,A6⟩ ⟨rfl,A6⟩ (B5 rfl) (B5 rfl) ?_;rw[pJ];left;have er:F7 ks=M4 sl:=by unfold F7;rw[e]
    cases hl:M4 sl with
    | false=>
     refine t7 ?_;left;refine⟨.inl ⟨rfl,_,d0.of hd2⟩,?_⟩;left;exact Q9 hd2 (F1 (by omega)) (add _ s2 (by rw[er,hl,Bool.and_false]))
    | true=>
     refine v9 ?_;left;refine M8 (d0.of hd2) (fH zs _) ?_;left;refine W3 (m9.of ec) (J0 (j:=1) (w1 hl)) ?_;left;refine W3 (m9.of eb2) (J0 (j:=1) (y1 hr')) ?_;left;refine D6 λp2 hp2=>?_
     have s3:=m8 hp2 (.tup [.str "rest",.int (G4 sl+G4 sn)]);have np:p2≠D:=λz=>by rw[z,hd2] at hp2;cases hp2
     have sm2:=sm.trans s2;have e3:upd H2 p2 (.tup [.str "rest",.int (G4 sl+G4 sn)]) p2=some (.tup [.str "rest",.int (G4 sl+G4 sn)]):=f9;left;refine⟨D,_,-1,_,rfl,rfl,s3 _ _ hd2,ym7 (by simp),?_⟩;rw[Ur];refine hN _ _ ⟨⟨_,rfl⟩,?_⟩;cases sn with
     | tones=>cases hr'
     | rest n=>
      cases sl with
      | tones=>cases hl
      | rest m=>
       rw[tk,ev,iK];exact F0.put (R:=λH x s=>Is H x (z6 s)) Kc hD (sm2.trans s3) (az.imp λ_ _ _ z=>z.same (L7 (s2.trans s3))) (xh (pL np (sm2.free hp2) e3))
 ·rintro σ H' ⟨⟨o,rfl⟩,sm,kv,hd,ak⟩;rw[al.1,List.take_length] at ak;obtain⟨sl,e⟩:∃ s,(C6 ss).getLast?=some s:=by
   cases e:(C6 ss).getLast? with
   | none=>exact(yme n1 (List.getLast?_eq_none_iff.mp e)).elim
   | some s=>exact⟨s,rfl⟩
  have er:F7 (C6 ss)=M4 sl:=by unfold F7;rw[e]
  obtain⟨zs,z,rfl,sz,vs',ev,az⟩:=fY ak e;obtain⟨c,ws,rfl,ec,w0,w1,w2⟩:=qY (sz.same (V6 sH sm));left;refine M8 (d0.of hd) (fH zs _) ?_;left;refine W3 (m9.of ec) (J0 (j:=0) w0) ?_;left;refine bJ ⟨rfl,A6⟩ ⟨rfl,A6⟩ (B5 rfl) (B5 rfl) ?_;rw[pJ];left;cases hl:M4 sl with
  | false=>
   refine t7 ?_;left;refine q _ _ sm (E3 (by rw[A4 hD];exact hd) ?_);rw[show x9 ss=C6 ss by unfold x9 cB;rw[er,hl];rfl];exact(bX ak).same P5
  | true=>
   refine v9 ?_;left;refine⟨.inl ⟨rfl,_,d0.of hd⟩,D,_,V.ref c,rfl,rfl,hd,by rw[qA,qS,Nat.add_sub_cancel];simp,?_⟩;rw[List.dropLast_concat];left;refine q _ _ (O5 hD sm) (E3 (by rw[A4 hD];exact f9) ?_);rw[show x9 ss=vs' by unfold x9 cB;rw[er,hl,ev,List.dropLast_concat];rfl];exact(bX (az.imp λ_ _ _ z=>z.same dO)).same P5
def ylO:Sp:=λvs H Q _=>∃ (x:V) (vss:List (List Sn)),vs=[x]/\Is H x (A5 vss)/\kL vss/\∀ H',b9 H H'->Q (.int (M7 vss)) H'
theorem rM:OF P w base T.zH 1 ylO:=by
 o_head (T.zH.F,cN);obtain⟨x,vss,rfl,ix,gv,q⟩:=h;rw[A5,Is] at ix;obtain⟨a,xs,rfl,ea,ix⟩:=ix;have al:=T5 ix;have n2:=gv.n2;refine⟨_,(f7 (p0 1 cN.nd (j8 c6)) (f7 (Z6 PassesOwn.never rfl (K2 (pv 0)) (U7 2 cN.nd) (j0 (E7 (U1 (pv 1) (b7 (z8 (Zw rfl) rfl T.QE xU (b7 (O9 (L0 (NB:=["_law_told_here"]) (cap:=[none]) rfl) rfl (K2 (pv 2)) (λ_ _ _ _=>O6 0) (λ_ _ _ _=>L8) (λ_ _ _ _=>(yP (C3 (show J5 _ _ (nV K) from X3 hu) (F8 (show Y2 _ (aS K) from C8) (pv 0) c8 (λ_ _=>rfl)) n9 (z5 _)) (F8 (show Y2 _ (aS K) from C8) (pv 0) c8 (λ_ _=>rfl)) (F8 (show Y2 _ (aS K) from C8) (pv 0) c8 (λ_ _=>rfl))))) c6)) c6))))) (j0 (r6 (z8 (js hr.hd) rfl T.QC tK (b7 (pv 1) c6)))))),?_⟩;left;refine D6 λD hD=>?_
 left;refine⟨a,rfl,⟨_,d0.of (m8 hD _ _ _ ea)⟩,cJ (xs:=xs) (λi σ H'=>(∃ o,σ=[some (.ref a),some (.ref D),o])/\b9 H H'/\H' D=some (.lst (((vss.take i).map B3).map V.int))) ⟨⟨_,rfl⟩,m8 hD _,f9⟩ (λi σ H' _ p=>d0.of (p.2.1 _ _ ea)) ?_ ?_⟩
 ·rintro i x σ H' N hN hx ⟨⟨o,rfl⟩,sm,hd⟩;obtain⟨hi,rx⟩:=Z0 al hx;rw[vT,Is] at rx;obtain⟨b,ys,rfl,eb,iy⟩:=rx;have eb':=sm _ _ eb;have as:=T5 iy;have hv:=List.getElem_mem hi;have tk:(vss.take (i+1)).map B3=(vss.take i).map B3++[B3 vss[i]]:=by rw[List.take_succ_eq_append_getElem hi,qP];rfl
  left;refine⟨.inl ⟨rfl,_,d0.of hd⟩,?_⟩;left;refine⟨b,rfl,⟨_,d0.of eb'⟩,λD2 hD2=>eU (λs=>V.int (G4 s)) eb' as hD2 (by have:=gv.len _ hv;omega) (λx s H2 Q' hs s2 rx q'=>?_) λH2 s2 hd2=>M0 ⟨D2,vss[i].map G4,rfl,d0.of (by rw[List.map_map];exact hd2),?_⟩⟩
  ·obtain⟨c,ws,rfl,ec,w0,w1,w2⟩:=qY (rx.same (sm.trans s2));left;refine W3 (m9.of ec) (J0 (j:=0) w0) ?_;left;refine bJ ⟨rfl,A6⟩ ⟨rfl,A6⟩ (B5 rfl) (B5 rfl) ?_;rw[pJ];left;cases hs:M4 s with
   | true=>
    refine v9 ?_;left;exact W3 (m9.of ec) (J0 (j:=1) (w1 hs)) (q' _ (b9.refl _))
   | false=>
    refine t7 ?_;left;exact W3 (m9.of ec) (J0 (j:=2) (w2 hs)) (q' _ (b9.refl _))
  ·left;refine Q9 (s2 _ _ hd) (by rw[qM,qM,qT];exact F1 (by omega)) (hN _ _ ⟨⟨_,rfl⟩,O5 hD (sm.trans s2),?_⟩);rw[f9,tk,qP];rfl
 ·rintro σ H' ⟨⟨o,rfl⟩,sm,hd⟩;rw[al.1,List.take_length] at hd;left;refine⟨D,vss.map B3,rfl,d0.of hd,by rw[qM];exact gv.n1,λm h1 h2=>?_⟩;rw[x_ gv.n1 gv.pos h1 h2];exact q _ sm
def tR (vss:List (List Sn)):Prop:=V4 vss/\∀ ss∈vss,F7 (x9 ss)=false/\B3 (x9 ss)<=773
def IQ (K:qF):Sp:=λvs H Q _=>∃ (a tp:Addr) (ns:List Int) (N:Nat) (most:Int),vs=[.ref a,.ref tp,.int most]/\Dr K a tp ns H N/\N<=60000/\200<=most/\most<=780/\∀ (y:V) (vss:List (List Sn)) (H':Hp),tR vss->c9 tp H H'->Dr K a tp ns H' (N+10001)->Is (fr H H') y (A5 vss)->Q y H'
theorem ysY:OF P w base T.zD 4 (IQ K):=by
 o_head (T.zD.F,ytn);obtain⟨a,tp,ns,N,most,rfl,dr,hN,hm,hm2,q⟩:=h;refine⟨_,(j0 (r6 (O9 (L0 (NB:=["_law_k","_law_script","_law_tape","_law_most"]) (cap:=[none,some 0,some 1,some 2]) rfl) rfl (kA rfl T.Jz (b7 (u9 O8 c8 (o6 (K1 T) hr (b7 (pv 0) (b7 (pv 1) (b7 c8 c6))))) c6)) (λ_ _ _ _=>O6 0) (λ_ _ _ _=>L8) (λ_ _ _ _=>(o6 (ytH T) hr (b7 (pv 1) (b7 (pv 2) (b7 (pv 3) c6)))))))),?_⟩;left;refine⟨a,tp,ns,N,2,rfl,dr,by omega,by decide,by decide,λv H1 v0 v1 s1 d1=>?_⟩;left;refine⟨_,rfl,by omega,by omega,λD hD=>rC (λi σ' H'=>(∃ o,σ'=[o,some (.ref a),some (.ref tp),some (.int most)])/\Dr K a tp ns H' (N+1+5000*i)/\∃ vss:List (List Sn),vss.length=i/\(∀ ss∈vss,C4 ss/\F7 (x9 ss)=false/\B3 (x9 ss)<=773)/\n8 vT tp H1 H' D vss) ⟨⟨_,rfl⟩,d1.same (m8 hD _),[],rfl,by simp,n8.nil hD⟩ ?_ ?_⟩
 ·rintro i σ' H' hi ⟨⟨o,rfl⟩,dd,vss,lv,gv,acc⟩;refine A2 (aE (v9 ?_));left;refine⟨a,tp,ns,_,most,rfl,dd,by omega,hm,hm2,λy ss H3 g1 g2 g3 s3 d3 iy=>?_⟩;have acc3:=n8.tt d1 hD acc s3;obtain⟨ks,hd,lk,acc4⟩:=acc3.put d1 hD (iy.same (n8.new dd acc));refine⟨ks,hd,F1 (by omega),⟨_,rfl⟩,(d1.put hD acc3.1 d3).up (by omega),_,by rw[qA,lv];rfl,λz hz=>?_,acc4⟩;rcases List.mem_append.mp hz with hz | hz
  ·exact gv z hz
  ·rw[List.mem_singleton.mp hz];exact⟨g1,g2,g3⟩
 ·rintro σ' H' ⟨⟨o,rfl⟩,dd,vss,lv,gv,acc⟩;refine q _ vss _ ⟨⟨by omega,by omega,λss h=>(gv ss h).1⟩,λss h=>(gv ss h).2⟩ (c9.trans s1 acc.1) (dd.up (by omega)) ((acc.fin hD).same (jD d1 s1))
theorem iM {α:Type}{l:List α}{i:Nat}{d:α}(h:i < l.length):l.getD i d=l[i]:=by rw[List.getD_eq_getElem?_getD,qG h];rfl
def Q2 (vs:List Cv):Nat->List (Nat×Cv)
 | 0=>[]
 | n+1=>if ((Q2 vs n).getLast?).map (·.2)=some (vs.getD n (.k 0)) then Q2 vs n else Q2 vs n++[(n+1,vs.getD n (.k 0))]
structure Xs (vs:List Cv) (n:Nat) (cs:List (Nat×Cv)):Prop where
 len:cs.length<=n
 le:∀ c∈cs,c.1<=n
 one:1<=n->(cs.map (·.1)).take 1=[1]
 up:∀ i (h:i+1 < cs.length),cs[i].1 < cs[i+1].1
 ne:∀ i (h:i+1 < cs.length),cs[i].2≠cs[i+1].2
 mem:∀ c∈cs,c.2∈vs
 last:1<=n->(cs.getLast?).map (·.2)=some (vs.getD (n - 1) (.k 0))
 at_:∀ i,i < n->Y7 (i+1) cs=some (vs.getD i (.k 0))
theorem jr {α:Type}(l:List α)(x:α):(l++[x]).getLast?=some x:=by rw[List.getLast?_append];rfl
theorem Xw {cs:List (Nat×Cv)}{n:Nat}(h:∀ c∈cs,c.1<=n):cs.filter (λc=>decide (c.1<=n))=cs:=List.filter_eq_self.mpr λc hc=>by simpa using h c hc
theorem wO {vs:List Cv}:∀ n,n<=vs.length->Xs vs n (Q2 vs n)
 | 0,_=>⟨qR _,(λc h=>nomatch h),(λh=>absurd h (by omega)),(λi h=>absurd h (by simp[Q2])),(λi h=>absurd h (by simp[Q2])),(λc h=>nomatch h),(λh=>absurd h (by omega)),(λi h=>absurd h (by omega))⟩
 | n+1,h=>by
  have ih:=wO (vs:=vs) n (by omega);have vm:vs.getD n (.k 0)∈vs:=by rw[iM (show n < vs.length by omega)];exact List.getElem_mem _
  by_cases e:((Q2 vs n).getLast?).map (·.2)=some (vs.getD n (.k 0))
  ·have ec:Q2 vs (n+1)=Q2 vs n:=by rw[Q2,if_pos e]
   have n1:1<=n:=by
    cases n with
    | zero=>cases e
    | succ n=>omega
   rw[ec];refine⟨by have:=ih.len;omega,λc hc=>by have:=ih.le c hc;omega,λ_=>ih.one n1,ih.up,ih.ne,ih.mem,λ_=>e,λi hi=>?_⟩;by_cases z:i < n
   ·exact ih.at_ i z
   ·have:i=n:=by omega
    subst this;unfold Y7;rw[Xw λc hc=>by have:=ih.le c hc;omega];exact e
  ·have ec:Q2 vs (n+1)=Q2 vs n++[(n+1,vs.getD n (.k 0))]:=by rw[Q2,if_neg e]
   rw[ec];generalize hcs:Q2 vs n=cs at ih e;have last_le:∀ i (h:i+1=cs.length),cs[i].1 < n+1/\cs[i].2≠vs.getD n (.k 0):=λi h=>by
    have m:=List.getElem_mem (show i < cs.length by omega);have:=ih.le _ m;refine⟨by omega,λz=>e ?_⟩;have:cs.getLast?=some cs[i]:=by
     rw[List.getLast?_eq_getElem?,qG (by omega)];simp only[← h,Nat.add_sub_cancel]
    rw[this];exact congrArg some z
   refine⟨by rw[qA,qS];have:=ih.len;omega,λc hc=>?_,λ_=>?_,λi h=>?_,λi h=>?_,λc hc=>?_,λ_=>by rw[jr];rfl,λi hi=>?_⟩
   ·rcases List.mem_append.mp hc with hc | hc
    ·have:=ih.le c hc;omega
    ·rw[List.mem_singleton.mp hc];exact qR _
   ·cases n with
    | zero=>
     have:cs=[]:=List.eq_nil_of_length_eq_zero (by have:=ih.len;omega);rw[this];rfl
    | succ n=>
     have o:=ih.one (by omega);cases cs with
     | nil=>cases o
     | cons c cs=>exact o
   ·rw[qA,qS] at h;by_cases z:i+1 < cs.length
    ·rw[List.getElem_append_left (by omega),List.getElem_append_left z];exact ih.up i z
    ·rw[List.getElem_append_left (by omega),List.getElem_append_right (by omega)];simp only[List.getElem_singleton];exact(last_le i (by omega)).1
   ·rw[qA,qS] at h;by_cases z:i+1 < cs.length
    ·rw[List.getElem_append_left (by omega),List.getElem_append_left z];exact ih.ne i z
    ·rw[List.getElem_append_left (by omega),List.getElem_append_right (by omega)];simp only[List.getElem_singleton];exact(last_le i (by omega)).2
   ·rcases List.mem_append.mp hc with hc | hc
    ·exact ih.mem c hc
    ·rw[List.mem_singleton.mp hc];exact vm
   ·unfold Y7;by_cases z:i < n
    ·rw[List.filter_append,show[((n+1:Nat),vs.getD n (.k 0))].filter (λc=>decide (c.1<=i+1))=[] by simp;omega,List.append_nil];exact ih.at_ i z
    ·have:i=n:=by omega
     subst this;rw[Xw λc hc=>?_,jr]
     ·rfl
     ·rcases List.mem_append.mp hc with hc | hc
      ·have:=ih.le c hc;omega
      ·rw[List.mem_singleton.mp hc];exact qR _
def U2:Bool->Fr->Cv
 | true,f=>.m f.1
 | false,f=>.k f.2
def V8 (j:Bool)(fw:List Fr):List (Nat×Cv):=Q2 (fw.map (U2 j)) fw.length
theorem RX {vss:List (List Sn)}{fw:List Fr}(v:V4 vss)(f:nF fw (M7 (vss.map x9)))(ne:fw≠[]):O2 (V8 true fw) (V8 false fw) vss fw:=by
 have l1:1<=fw.length:=by
  cases fw with
  | nil=>exact(ne rfl).elim
  | cons=>simp
 have l24:=f.len;have ok:∀ j,Xs (fw.map (U2 j)) fw.length (V8 j fw):=λj=>wO _ (by rw[qM];exact qR _)
 have gd:∀ j i (h:i < fw.length),(fw.map (U2 j)).getD i (.k 0)=U2 j fw[i]:=λj i h=>by rw[iM (by rw[qM];exact h),List.getElem_map]
 have gc:∀ j,J4 j (V8 j fw):=λj=>⟨by have:=(ok j).len;omega,(ok j).one l1,(ok j).up,(ok j).ne,λc hc=>by
  obtain⟨g,hg,e⟩:=List.mem_map.mp ((ok j).mem c hc);rw[<- e];cases j with
  | true=>exact f.m g hg
  | false=>exact f.k g hg⟩
 have ls:∀ j,∃ c,(V8 j fw).getLast?=some c/\c.1<=fw.length:=λj=>by
  cases e:(V8 j fw).getLast? with
  | none=>have:=(ok j).last l1;rw[e] at this;cases this
  | some c=>exact⟨c,rfl,(ok j).le c (List.mem_of_getLast? e)⟩
 exact⟨gc true,gc false,v,⟨f,λi h=>⟨by rw[(ok true).at_ i h,gd true i h];rfl,by rw[(ok false).at_ i h,gd false i h];rfl⟩⟩,ls true,ls false⟩
theorem GJ {a:Addr}{xs:List V}{g:TG}{tb:TS}{D:S0}{σ:St}{H:Hp}(Pv:Nat->St->Hp->Prop)(h0:Pv 0 σ H)(hl:∀ i σ H,i<=xs.length->Pv i σ H->d0 K H a xs)
  (hs:∀ i x σ H p (N:St->Hp->Prop),(∀ σ' H',Pv (i+1) σ' H'->N σ' H')->xs[i]?=some x->Pv i σ H->H p=none->g (.ref p) σ (upd H p (.tup [.int (i:Nat),x])) fun σ2 H2=>tb { D with nx:=N,ct:=N,bk:=D.nx } σ2 H2) (hd:∀ σ H,Pv xs.length σ H->D.nx σ H):pD (iC K a) g tb D σ H :=
 Yi Pv h0 hl (λi x σ H p hx pv hp=>hs i x σ H p _ (λ_ _ z=>z) hx pv hp) hd
def pI:Bool->Int
 | true=>1
 | false=>2
theorem Ky {H:Hp}{x:V}{b:Int}{f:Fr}(j:Bool)(h:Is H x (W0 b f)):∃ a ys y,x=.ref a/\H a=some (.tup ys)/\bR ys (pI j)=some y/\Is H y (J8 (U2 j f)):=by
 obtain⟨a,mv,rfl,ea,im⟩:=h.fr;cases j with
 | true=>exact⟨a,_,mv,rfl,ea,J0 (j:=1) rfl,im⟩
 | false=>exact⟨a,_,_,rfl,ea,J0 (j:=2) rfl,M5 _ _⟩
theorem xj:cW (λH x c=>Is H x (L1 c)):=λs h=>h.same s
def Uo:Sp:=λvs H Q _=>∃ (x:V) (j:Bool) (fw:List Fr) (Hs:Hp),vs=[x,.int (pI j)]/\b9 Hs H/\Is Hs x (bF fw)/\fw.length<=24/\(∀ f∈fw,W4 j (U2 j f))/\∀ y H',b9 H H'->Is (nw Hs H H') y (u7 (V8 j fw))->Q y H'
theorem qf:OF P w base T.zu 1 Uo:=by
 o_head (T.zu.F,aB);obtain⟨x,j,fw,Hs,rfl,sH,ix,l24,gd,q⟩:=h;rw[bF,Is] at ix;obtain⟨a,xs,rfl,ea,ix⟩:=ix;have ea':=sH _ _ ea;have al:Al (λz i=>Is Hs z (W0 (bg fw i) (fw.getD i (⟨0,0,[]⟩,0)))) xs (List.range fw.length):=T5 ix;have lx:=al.1;rw[List.length_range] at lx;refine⟨_,(f7 (p0 2 aB.nd (j8 c6)) (f7 (Z6 PassesOwn.never rfl (yoA rfl T.Qp (b7 (pv 0) c6)) (lK (n:=2) rfl (dG (U7 3 aB.nd) (dG (U7 4 aB.nd) nK))) (j0 (A7 (PW.pt (V5 (C3 (Yq hu) (pv 2) (j8 c6) (z5 _)) (Z5 (C3 (bQ hu) (xT (F8 j9 (pv 2) (X2 W6 c8) (λ_ _=>rfl))) (F8 C8 (pv 4) (pv 1) (λ_ _=>rfl)) (z5 _))))) (j0 (E7 (U1 (pv 2) (b7 (g8 (b7 (u9 O8 (pv 3) c8) (b7 (F8 C8 (pv 4) (pv 1) (λ_ _=>rfl)) c6))) c6)))) B4))) (j0 (r6 (pv 2))))),?_⟩;left;refine D6 λD hD=>?_
 left;refine⟨a,rfl,⟨_,d0.of (m8 hD _ _ _ ea')⟩,GJ (xs:=xs) (λi σ H'=>(∃ o1 o2,σ=[some (.ref a),some (.int (pI j)),some (.ref D),o1,o2])/\F0 (λH x c=>Is H x (L1 c)) Hs H H' D (Q2 (fw.map (U2 j)) i)) ⟨⟨_,_,rfl⟩,F0.nil hD⟩ (λi σ H' _ p=>d0.of (p.2.1 _ _ ea')) ?_ ?_⟩
 ·rintro i x σ H' p N hN hx ⟨⟨o1,o2,rfl⟩,acc⟩ hp;have hi:i < fw.length:=by have:=(qE hx).1;omega
  obtain⟨x',e,rx⟩:=al.2 i (by rw[List.length_range];exact hi);rw[hx] at e;cases e;rw[List.getElem_range,iM hi] at rx;have ok:=wO (vs:=fw.map (U2 j)) i (by rw[qM];omega);have vi:(fw.map (U2 j)).getD i (.k 0)=U2 j fw[i]:=by rw[iM (by rw[qM];exact hi),List.getElem_map]
  have cs1:Q2 (fw.map (U2 j)) (i+1)=if ((Q2 (fw.map (U2 j)) i).getLast?).map (·.2)=some (U2 j fw[i]) then Q2 (fw.map (U2 j)) i else Q2 (fw.map (U2 j)) i++[(i+1,U2 j fw[i])]:=by rw[Q2,vi]
  have gi:=gd _ (List.getElem_mem hi);have gm:∀ c∈Q2 (fw.map (U2 j)) i,W4 j c.2:=λc hc=>by
   obtain⟨g,hg,e⟩:=List.mem_map.mp (ok.mem c hc);rw[<- e];exact gd g hg
  have lc:=ok.len;generalize Q2 (fw.map (U2 j)) i=cs at acc cs1 gm lc;have acc:=F0.same (R:=λH x c=>Is H x (L1 c)) xj acc (m8 hp (.tup [.int (i:Nat),x]));have ep:upd H' p (.tup [.int (i:Nat),x]) p=some (.tup [.int (i:Nat),x]):=f9;generalize upd H' p (.tup [.int (i:Nat),x])=G at acc ep |-;obtain⟨sm,kv,hd,ak⟩:=acc;have lk:=ak.1;obtain⟨b,ys,y,rfl,eb,ey,iy⟩:=Ky j rx;have sG:=sH.trans sm;have add:∀ (En:S0) G2,(∀ σ H,N σ H->En.nx σ H)->b9 G G2->((cs.getLast?).map (·.2)≠some (U2 j fw[i]))->sD (sJ K "list" pN (D7 2) (O3 (hV (O3 (R5 (Z1 λi j=>V.int (i+j)) (D7 3) (tC (V.int 1))) (O3 (R5 (aS K) (D7 4) (D7 1)) Z8))) Z8)) En [some (.ref a),some (.int (pI j)),some (.ref D),some (.int (i:Nat)),some (.ref b)] G2:=λEn G2 hE s2 hne=>by
   have hd2:=s2 _ _ hd;refine lN (pY (E9 rfl ⟨.inl ⟨rfl,_,d0.of hd2⟩,?_⟩));left;refine W3 (m9.of (sG.trans s2 _ _ eb)) ey ?_;left;refine D6 λp2 hp2=>?_
   left;have np:p2≠D:=λz=>by rw[z,hd2] at hp2;cases hp2
   have s3:=m8 hp2 (.tup [.int ((i:Int)+1),y]);refine Q9 (s3 _ _ hd2) (F1 (by omega)) (hE _ _ (hN _ _ ⟨⟨_,_,rfl⟩,?_⟩));rw[cs1,if_neg hne];refine F0.put (R:=λH x c=>Is H x (L1 c)) xj hD ((sm.trans s2).trans s3) (ak.imp λ_ _ _ z=>z.same (L7 (s2.trans s3))) (ytZ ?_ (iy.same (bU sH)));refine pL np ((sm.trans s2).free hp2) ?_;rw[f9,Int.natCast_add];rfl
  refine yE (m9.of ep) ?_;left;refine D6 λp2 hp2=>?_
  have s2:=m8 hp2 (.lst []);have hd2:=s2 _ _ hd;refine⟨D,p2,kv,rfl,rfl,d0.of hd2,d0.of f9,n6 ?_⟩;generalize upd G p2 (.lst [])=G2 at s2 hd2 |-;cases e:cs.getLast? with
  | none=>
   have:kv=[]:=List.eq_nil_of_length_eq_zero (by rw[lk,List.getLast?_eq_none_iff.mp e];rfl);subst this;exact v9 (v9 (add _ G2 (λ_ _ z=>z) s2 (by rw[e];simp)))
  | some c=>
   obtain⟨zs,z,rfl,sz,_⟩:=fY ak e;obtain⟨b2,y2,rfl,eb2,iy2⟩:=((sz.same (V6 sH sm)).same s2).ch;rw[show(zs++[V.ref b2]).isEmpty=false by cases zs<;>rfl];refine t7 ?_;left;refine M8 (d0.of hd2) (fH zs _) ?_;left;refine B9 1 (m9.of eb2) ?_;left;refine W3 (m9.of (sG.trans s2 _ _ eb)) ey ?_;refine wV (lX _) (lX _) iy2 (iy.same (sG.trans s2)) ?_;rw[pU (gm c (List.mem_of_getLast? e)) gi];left;refine SX (λh=>add _ G2 (λ_ _ z=>z) s2 ?_) λh=>F9 (hN _ _ ⟨⟨_,_,rfl⟩,?_⟩)
   ·rw[e];simpa using h
   ·rw[cs1,if_pos (by rw[e];simpa using h)];exact⟨sm.trans s2,_,hd2,ak.imp λ_ _ _ z=>z.same (L7 s2)⟩
 ·rintro σ H' ⟨⟨o1,o2,rfl⟩,sm,kv,hd,ak⟩;rw[lx] at ak;left;exact q _ _ sm (E3 (by rw[A4 hD];exact hd) ((bX ak).same P5))
def aX (fw:List Fr):List (Int×Fr):=(List.range fw.length).map λi=>(bg fw i,fw.getD i (⟨0,0,[]⟩,0))
theorem rF {fw:List Fr}{f:Fr}{i:Nat}(h:i<=fw.length):bg (fw++[f]) i=bg fw i:=by unfold bg;rw[List.take_append_of_le_length h]
theorem Wf (fw:List Fr)(f:Fr):aX (fw++[f])=aX fw++[(bg fw fw.length,f)]:=by
 unfold aX;rw[qA,qS,List.range_succ,qP];have h1:(List.range fw.length).map (λi=>(bg (fw++[f]) i,(fw++[f]).getD i (⟨0,0,[]⟩,0)))=(List.range fw.length).map λi=>(bg fw i,fw.getD i (⟨0,0,[]⟩,0)):=List.map_congr_left λi hi=>by
  have:=List.mem_range.mp hi;rw[rF (by omega),iM (by rw[qA];omega),List.getElem_append_left this,iM this]
 rw[h1,List.map_singleton,rF (qR _),iM (by rw[qA];simp),List.getElem_append_right (qR _)];simp
theorem Uc (fw:List Fr):(aX fw).map (λp=>W0 p.1 p.2)=T0 fw fw.length:=by unfold aX T0;rw[List.map_map];rfl
theorem xm {fw:List Fr}{f:Fr}:bg (fw++[f]) (fw++[f]).length=bg fw fw.length+P9 f.1:=by
 have h:fw.length < (fw++[f]).length:=by simp
 rw[qA,qS,lE h,rF (qR _)];simp
theorem yrX {m:Mt}(g:E4 m):m.tp*96 / m.bt=P9 m:=by
 unfold P9;rcases g.b with e | e | e<;>rw[e]<;>omega
theorem tX {fw:List Fr}(h:∀ f∈fw,36<=P9 f.1):∀ i,i<=fw.length->36*(i:Int)<=bg fw i
 | 0,_=>by simp[bg]
 | i+1,hi=>by
  have:=tX h i (by omega);have:=h _ (List.getElem_mem (show i < fw.length by omega));rw[lE (by omega)];omega
def ykp (K:qF):Sp:=λvs H Q _=>∃ (a tp:Addr) (ns:List Int) (N:Nat) (lasts:Int),vs=[.ref a,.ref tp,.int lasts]/\Dr K a tp ns H N/\N<=80000/\0 < lasts/\lasts<=773/\∀ (y:V) (fw:List Fr) (H':Hp),nF fw lasts->fw≠[]->c9 tp H H'->Dr K a tp ns H' (N+100)->Is (fr H H') y (bF fw)->Q y H'
theorem ys9:OF P w base T.zz 3 (ykp K):=by
 o_head (T.zz.F,N8);obtain⟨a,tp,ns,N,lasts,rfl,dr,hN,l0,l1,q⟩:=h;refine⟨_,(f7 (p0 3 N8.nd (j8 c6)) (f7 (p0 4 N8.nd c8) (f7 (p0 5 N8.nd (o6 (Xe T) hr (b7 (pv 0) (b7 (pv 1) c6)))) (f7 (p0 6 N8.nd (u9 cU (o6 (K1 T) hr (b7 (pv 0) (b7 (pv 1) (b7 c8 c6)))) c8)) (f7 (xp PassesOwn.never (C3 xW (pv 4) (pv 2) (z5 _)) (f7 (A7 (PW.pt (iV (C3 (lO hu) (pv 3) (j8 c6) (z5 _)) (jF (C3 S4 (o6 (K1 T) hr (b7 (pv 0) (b7 (pv 1) (b7 c8 c6)))) c8 (z5 _))))) (j0 (p0 5 N8.nd (o6 (Xe T) hr (b7 (pv 0) (b7 (pv 1) c6))))) B4) (f7 (A7 (PW.pt (iV (C3 (lO hu) (pv 3) (j8 c6) (z5 _)) (jF (C3 S4 (o6 (K1 T) hr (b7 (pv 0) (b7 (pv 1) (b7 c8 c6)))) c8 (z5 _))))) (j0 (p0 6 N8.nd (u9 cU (o6 (K1 T) hr (b7 (pv 0) (b7 (pv 1) (b7 c8 c6)))) c8))) B4) (f7 (E7 (U1 (pv 3) (b7 (g8 (b7 (pv 4) (b7 (pv 5) (b7 (pv 6) c6)))) c6))) (j0 (p0 4 N8.nd (u9 O8 (pv 4) (u9 lF (u9 iZ (xT (pv 5)) c8) (xT (pv 5)))))))))) (j0 (r6 (pv 3)))))))),?_⟩;left;refine D6 λD hD=>?_
 have s1:=m8 hD (.lst []);have dr1:=dr.same s1;have acc0:n8 (λp:Int×Fr=>W0 p.1 p.2) tp H (upd H D (.lst [])) D []:=n8.nil hD;left;refine⟨a,tp,ns,N,rfl,dr1,by omega,λmv m H1 hm s2 d2 im=>?_⟩;left;refine⟨a,tp,ns,_,15,rfl,d2,by omega,by decide,by decide,λv H2 v0 v1 s3 d3=>?_⟩;left;have acc2:=n8.tt dr hD acc0 (c9.trans s2 s3);have im2:Is (rm (fr H H2) D) mv (E2 m):=im.same ((n8.new dr1 acc0).trans (fM λb u _ e=>dr.fr s3 b u e));refine⟨λn σ H'=>∃ (fw:List Fr) (mv:V) (m:Mt) (k:Int),n=(lasts - bg fw fw.length).toNat/\σ=[some (.ref a),some (.ref tp),some (.int lasts),some (.ref D),some (.int (bg fw fw.length)),some mv,some (.int k)]/\Is (rm (fr H H') D) mv (E2 m)/\m∈A0/\-7<=k/\k<=7/\(∀ f∈fw,f.1∈A0/\-7<=f.2/\f.2<=7)/\(∀ i,i < fw.length->bg fw i < lasts)/\n8 (λp:Int×Fr=>W0 p.1 p.2) tp H H' D (aX fw)/\Dr K a tp ns H' (N+2+4*fw.length),⟨_,[],mv,m,_,rfl,rfl,im2,hm,by omega,by omega,by simp,λi h=>absurd h (by simp),acc2,d3⟩,?_⟩;rintro n σ H' ⟨fw,mv,m,k,rfl,rfl,im,hm,k0,k7,gf,gl,acc,dd⟩;have g36:∀ f∈fw,36<=P9 f.1:=λf hf=>(uP f.1 (gf f hf).1).2
 left;refine O4 (λh=>?_) λh=>?_
 ·have ln:fw.length<=21:=by
   have:=tX g36 fw.length (qR _);omega
  refine⟨fun σ' H''=>∃ (fw2:List Fr) (mv:V) (m:Mt) (k:Int),bg fw fw.length < bg fw2 fw2.length/\σ'=[some (.ref a),some (.ref tp),some (.int lasts),some (.ref D),some (.int (bg fw2 fw2.length)),some mv,some (.int k)]/\Is (rm (fr H H'') D) mv (E2 m)/\m∈A0/\-7<=k/\k<=7/\(∀ f∈fw2,f.1∈A0/\-7<=f.2/\f.2<=7)/\(∀ i,i < fw2.length->bg fw2 i < lasts)/\n8 (λp:Int×Fr=>W0 p.1 p.2) tp H H'' D (aX fw2)/\Dr K a tp ns H'' (N+2+4*fw2.length),fun σ' H'' ⟨fw2,mv,m,k,lt,z⟩=>⟨_,by omega,fw2,mv,m,k,rfl,z⟩,?_⟩;obtain⟨_,ks0,hd0,is0⟩:=id acc;have lk0:=is0.len;rw[qM,show(aX fw).length=fw.length by unfold aX;rw[qM,List.length_range]] at lk0;refine x4 (X8 (te:=cM _ _ _) (fun σ H2=>∃ (mv:V) (m:Mt),σ=[some (.ref a),some (.ref tp),some (.int lasts),some (.ref D),some (.int (bg fw fw.length)),some mv,some (.int k)]/\Is (rm (fr H H2) D) mv (E2 m)/\m∈A0/\n8 (λp:Int×Fr=>W0 p.1 p.2) tp H H2 D (aX fw)/\Dr K a tp ns H2 (N+2+4*fw.length+2)) (λD' hD'=>?_) fun σ H2 p=>?_)
  ·left;refine D6 λp hp=>?_
   have s4:=m8 hp (.lst []);have acc4:=n8.tt dr hD acc (b9.tt s4);have d4:=dd.same s4;have im4:=im.same (fM λb u _ e=>dr.fr (b9.tt s4) b u e);refine⟨D,p,ks0,rfl,rfl,d0.of (s4 _ _ hd0),d0.of f9,n6 ?_⟩;generalize upd H' p (.lst [])=H4 at acc4 d4 im4 |-;refine T_ (λ_=>?_) λ_=>?_
   ·left;refine⟨a,tp,ns,_,5,rfl,d4,by omega,by decide,by decide,λu H5 u0 u1 s5 d5=>?_⟩;have acc5:=n8.tt dr hD acc4 s5;have im5:=im4.same (fM λb u _ e=>dr.fr s5 b u e);left;refine O4 (λ_=>?_) λ_=>?_
    ·left;refine⟨a,tp,ns,_,rfl,d5,by omega,λmv2 m2 H6 hm2 s6 d6 im6=>?_⟩;exact hD' _ _ ⟨mv2,m2,rfl,im6.same (n8.new d5 acc5),hm2,n8.tt dr hD acc5 s6,d6⟩
    ·exact F9 (hD' _ _ ⟨mv,m,rfl,im5,hm,acc5,d5.up (by omega)⟩)
   ·exact F9 (hD' _ _ ⟨mv,m,rfl,im4,hm,acc4,d4.up (by omega)⟩)
  obtain⟨mv,m,rfl,im,hm,acc,dd⟩:=p;obtain⟨_,ks0,hd0,is0⟩:=id acc;dsimp only;refine x4 (X8 (te:=cM _ _ _) (fun σ H3=>∃ (k:Int),σ=[some (.ref a),some (.ref tp),some (.int lasts),some (.ref D),some (.int (bg fw fw.length)),some mv,some (.int k)]/\-7<=k/\k<=7/\Is (rm (fr H H3) D) mv (E2 m)/\n8 (λp:Int×Fr=>W0 p.1 p.2) tp H H3 D (aX fw)/\Dr K a tp ns H3 (N+2+4*fw.length+4)) (λD' hD'=>?_) fun σ H3 p=>?_)
  ·left;refine D6 λp hp=>?_
   have s4:=m8 hp (.lst []);have acc4:=n8.tt dr hD acc (b9.tt s4);have d4:=dd.same s4;have im4:=im.same (fM λb u _ e=>dr.fr (b9.tt s4) b u e);refine⟨D,p,ks0,rfl,rfl,d0.of (s4 _ _ hd0),d0.of f9,n6 ?_⟩;generalize upd H2 p (.lst [])=H4 at acc4 d4 im4 |-;refine T_ (λ_=>?_) λ_=>?_
   ·left;refine⟨a,tp,ns,_,5,rfl,d4,by omega,by decide,by decide,λu H5 u0 u1 s5 d5=>?_⟩;have acc5:=n8.tt dr hD acc4 s5;have im5:=im4.same (fM λb u _ e=>dr.fr s5 b u e);left;refine O4 (λ_=>?_) λ_=>?_
    ·left;refine⟨a,tp,ns,_,15,rfl,d5,by omega,by decide,by decide,λk2 H6 k0 k1 s6 d6=>?_⟩;left;exact hD' _ _ ⟨k2 - 7,rfl,by omega,by omega,im5.same (fM λb u _ e=>dr.fr s6 b u e),n8.tt dr hD acc5 s6,d6⟩
    ·exact F9 (hD' _ _ ⟨k,rfl,k0,k7,im5,acc5,d5.up (by omega)⟩)
   ·exact F9 (hD' _ _ ⟨k,rfl,k0,k7,im4,acc4,d4.up (by omega)⟩)
  obtain⟨k,rfl,k0,k7,im,acc,dd⟩:=p;obtain⟨_,ks1,hd1,is1⟩:=id acc;left;refine⟨.inl ⟨rfl,_,d0.of hd1⟩,?_⟩;left;refine D6 λp hp=>?_
  have s4:=m8 hp (.tup [.int (bg fw fw.length),mv,.int k]);have acc4:=n8.tt dr hD acc (b9.tt s4);have d4:=dd.same s4;have im4:=im.same (fM λb u _ e=>dr.fr (b9.tt s4) b u e);have np:p≠D:=λz=>by rw[z,hd1] at hp;cases hp
  have ip:Is (rm (fr H (upd H3 p (.tup [.int (bg fw fw.length),mv,.int k]))) D) (.ref p) (W0 (bg fw fw.length) (m,k)):=u_ (by rw[cD np,L5 (dd.free acc.1 hp)];exact f9) im4;obtain⟨ks',hd',lk,acc5⟩:=acc4.put dr hD (u:=(bg fw fw.length,(m,k))) ip;have dd5:=dr.put (o:=.lst (ks'++[.ref p])) hD acc4.1 d4;have im5:=im4.same (nM (o:=.lst (ks'++[.ref p])));have lf:(aX fw).length=fw.length:=by unfold aX;rw[qM,List.length_range]
  generalize upd H3 p (.tup [.int (bg fw fw.length),mv,.int k])=H4 at hd' acc5 dd5 im5 |-;left;refine Q9 hd' (F1 (by omega)) ?_;generalize upd H4 D (.lst (ks'++[.ref p]))=H5 at acc5 dd5 im5 |-;have gm:=uP m hm;have so:b9 (rm (fr H H5) D) H5:=(wQ _ _).trans (K5 _ _);obtain⟨c,c2,rfl,ec,ec2⟩:=(im5.same so).mt;left;refine B9 0 (m9.of ec) ?_;left;refine B9 1 (m9.of ec) ?_;have b8:=gm.1.b;refine pO ⟨by omega,by omega⟩ ?_;left;rw[yrX gm.1];refine⟨fw++[(m,k)],_,m,k,by rw[xm];have:=gm.2;show _ < _+P9 m;omega,by rw[xm];rfl,im5,hm,k0,k7,λf hf=>?_,λi hi=>?_,by rw[Wf];exact acc5,dd5.up (by rw[qA,qS];omega)⟩
  ·rcases List.mem_append.mp hf with hf | hf
   ·exact gf f hf
   ·rw[List.mem_singleton.mp hf];exact⟨hm,k0,k7⟩
  ·rw[qA,qS] at hi;rw[rF (by omega)];by_cases e:i < fw.length
   ·exact gl i e
   ·have:i=fw.length:=by omega
    rw[this];exact h
 ·left;have ne:fw≠[]:=λe=>by
   subst e;have:bg [] ([]:List Fr).length=0:=rfl;rw[this] at h;omega
  have ln:fw.length<=22:=by
   cases e:fw.length with
   | zero=>omega
   | succ n=>
    have a1:=tX g36 n (by omega);have a2:=gl n (by omega);omega
  refine q _ fw _ ⟨by omega,gl,by omega,λf hf=>(uP _ (gf f hf).1).1,λf hf=>(gf f hf).2⟩ ne acc.1 (dd.up (by omega)) ?_;have:=acc.fin hD;rw[Uc] at this;exact this
theorem _root_.L2.ExcAt.same {H H':Hp}{x:V}{C:Addr}{fs:List (Str×V)}(e:ExcAt H x C fs)(s:b9 H H'):ExcAt H' x C fs:=by
 obtain⟨a,o,us,ex,hc,hf,ea,hd⟩:=e;exact⟨a,o,us,ex,hc,hf,s _ _ ea,hd.imp id λ⟨dx,h1,h2⟩=>⟨dx,h1,s _ _ h2⟩⟩
inductive Ek where
 | tune
 deriving DecidableEq
def cA (t:Ad):Ek->Addr
 | .tune=>t.Rr
def Zj:Ek->Str
 | .tune => "tune"
abbrev Ki (K:qF)(c:Addr)(v:Value)(b:Bool):Prop:=PySem.W.kitOne K (.ref c) v=some b
theorem kx (T:Txt K mg t):∀ k,T6 K (cA t k)/\Ki K (cA t k) (.ref t.Rq) false/\Ki K (cA t k) (.ref t.Rr) true/\Ki K (cA t k) (.ref t.Rs) false/\Ki K (cA t k) (.ref t.Rt) false/\Ki K (cA t k) (.ref t.Ru) false/\Ki K (cA t k) (.ref t.Rv) false /\
  Ki K (cA t k) (.ref t.Rw) false/\Ki K (cA t k) (.ref t.Rx) false/\Ki K (cA t k) (.ref t.Ry) false/\Ki K (cA t k) (.type "ValueError") true
 | .tune=>⟨T.JT,T.JU,T.JL,T.Jv,T.JM,T.Jw,T.JN,T.JO,T.Jx,T.JF,T.Jy⟩
theorem dW {x c:V}{C:Addr}{fs:List (Str×V)}{v:Value}{b:Bool}{H:Hp}{Q:VK}(hx:ExcAt H x C fs)(ek:T6 K C)(cv:wX c=some v)(kb:Ki K C v b)(q:Q (.bl b) H):Xz K [x,c] H Q:=⟨x,C,fs,c,v,b,rfl,hx,ek,cv,kb,q⟩
def w4 (k:Ek):List V:=[V.bl false,V.bl true,V.bl false,V.bl false]
def w3 (k:Ek):List V:=[V.bl false,V.bl false,V.bl false]
def w7 (k:Ek):List V:=[V.bl false,V.bl true,V.bl false,V.bl false,V.bl false,V.bl false,V.bl false]
def w9 (k:Ek):List V:=[V.bl false,V.bl true,V.bl false,V.bl false,V.bl false,V.bl false,V.bl false,V.bl false,V.bl false]
def jx:Ek->Nat
 | .tune=>1
def ZJ:List V:=[.str "row",.str "tune",.str "reach",.str "fine",.str "stretch",.str "page",.str "roll",.str "place",.str "width"]
theorem ysC {k:Ek}{i:Nat}{z:V}(hi:i < jx k)(h:(w9 k)[i]?=some z):K9 z (.bl true)=false:=by
 cases k;have:i=0:=by simp[jx] at hi;omega
 subst this;cases h;rfl
def ypc (t:Ad):Sp:=λvs H Q _=>∃ (x:V) (k:Ek) (fs:List (Str×V)),vs=[x]/\ExcAt H x (cA t k) fs/\∀ H',b9 H H'->Q (.str (Zj k)) H'
theorem qp (T:Txt K mg t):T3 P w K mg base S3 1 t.f_zW t.d_zW ["_law_e"] (ypc t):=by
 refine T.zW.F.okN X4 (λvs H Q E h=>?_) (λ_ _ _ s H vs Q E hr h=>?_)
 ·obtain⟨_,_,_,rfl,_⟩:=h;rfl
 have hu:=hr.units;obtain⟨x,k,fs,rfl,hx,q⟩:=h;obtain⟨ek,k1,k2,k3,k4,k5,k6,k7,k8,k9,k0⟩:=kx T k;refine⟨_,(f7 (p0 1 X4.nd (j8 (b7 (z8 eA rfl T.Ja F2 (b7 (pv 0) (b7 (Q3 (v:=.ref t.Rq) rfl T.Qz rfl) c6))) (b7 (z8 eA rfl T.Ja F2 (b7 (pv 0) (b7 (Q3 (v:=.ref t.Rr) rfl T.JP rfl) c6))) (b7 (z8 eA rfl T.Ja F2 (b7 (pv 0) (b7 (Q3 (v:=.ref t.Rs) rfl T.Qh rfl) c6))) (b7 (z8 eA rfl T.Ja F2 (b7 (pv 0) (b7 (Q3 (v:=.ref t.Rt) rfl T.Qu rfl) c6))) c6)))))) (f7 (p0 1 X4.nd (u9 O1 (pv 1) (j8 (b7 (z8 eA rfl T.Ja F2 (b7 (pv 0) (b7 (Q3 (v:=.ref t.Ru) rfl T.Qi rfl) c6))) (b7 (z8 eA rfl T.Ja F2 (b7 (pv 0) (b7 (Q3 (v:=.ref t.Rv) rfl T.Qv rfl) c6))) (b7 (z8 eA rfl T.Ja F2 (b7 (pv 0) (b7 (Q3 (v:=.ref t.Rw) rfl T.Qw rfl) c6))) c6)))))) (f7 (p0 1 X4.nd (u9 O1 (pv 1) (j8 (b7 (z8 eA rfl T.Ja F2 (b7 (pv 0) (b7 (Q3 (v:=.ref t.Rx) rfl T.Qj rfl) c6))) (b7 (z8 eA rfl T.Ja F2 (b7 (pv 0) (b7 (Q3 (v:=.ref t.Ry) rfl T.Qr rfl) c6))) c6))))) (f7 (A7 (PW.pt (V5 (C3 mF (NX (pv 1) (b7 v8 c6)) c8 (z5 _)) (Z5 (L3 (F4 (z8 eA rfl T.Ja F2 (b7 (pv 0) (b7 (P4 rfl T.Qm yey) c6)))))))) (j0 (r6 n9)) B4) (f7 (p0 2 X4.nd (j8 (b7 n9 (b7 n9 (b7 n9 (b7 n9 (b7 n9 (b7 n9 (b7 n9 (b7 n9 (b7 n9 c6))))))))))) (j0 (r6 (F8 j9 (pv 2) (Yn (pv 1) (b7 v8 c6)) (λ_ _=>rfl))))))))),?_⟩;left;refine dW hx ek rfl k1 ?_;left;refine dW hx ek rfl k2 ?_;left;refine dW hx ek rfl k3 ?_;left;refine dW hx ek rfl k4 ?_;left;refine⟨show 4<=sizeLine by decide,λp1 h1=>?_⟩;have s1:=m8 h1 (HO.lst (w4 k));have x1:=hx.same s1;left;refine dW x1 ek rfl k5 ?_;left;refine dW x1 ek rfl k6 ?_;left;refine dW x1 ek rfl k7 ?_;left;refine⟨show 3<=sizeLine by decide,λp2 h2=>?_⟩;have s2:=m8 h2 (HO.lst (w3 k));refine⟨p1,p2,_,_,rfl,rfl,s2 _ _ f9,f9,show 7<=sizeLine by decide,λp3 h3=>?_⟩;have s3:=m8 h3 (HO.lst (w7 k));have s13:b9 H (upd (upd (upd H p1 (HO.lst (w4 k))) p2 (HO.lst (w3 k))) p3 (HO.lst (w7 k))):=s1.trans (s2.trans s3);have e3:=(f9 (H:=upd (upd H p1 (HO.lst (w4 k))) p2 (HO.lst (w3 k))) (a:=p3) (o:=HO.lst (w7 k)));show G9 1 (V.ref p3) _ (upd (upd (upd H p1 (HO.lst (w4 k))) p2 (HO.lst (w3 k))) p3 (HO.lst (w7 k))) _
 generalize upd (upd (upd H p1 (HO.lst (w4 k))) p2 (HO.lst (w3 k))) p3 (HO.lst (w7 k))=H3 at s13 e3 |-;have x3:=hx.same s13;left;refine dW x3 ek rfl k8 ?_;left;refine dW x3 ek rfl k9 ?_;left;refine⟨show 2<=sizeLine by decide,λp4 h4=>?_⟩;have s4:=m8 h4 (HO.lst [V.bl false,V.bl false]);refine⟨p3,p4,_,_,rfl,rfl,s4 _ _ e3,f9,show 9<=sizeLine by decide,λp5 h5=>?_⟩;have s5:=m8 h5 (HO.lst (w9 k));have s15:b9 H (upd (upd H3 p4 (HO.lst [V.bl false,V.bl false])) p5 (HO.lst (w9 k))):=s13.trans (s4.trans s5);have e5:=(f9 (H:=upd H3 p4 (HO.lst [V.bl false,V.bl false])) (a:=p5) (o:=HO.lst (w9 k)));show G9 1 (V.ref p5) _ (upd (upd H3 p4 (HO.lst [V.bl false,V.bl false])) p5 (HO.lst (w9 k))) _
 generalize upd (upd H3 p4 (HO.lst [V.bl false,V.bl false])) p5 (HO.lst (w9 k))=H5 at s15 e5 |-;left;refine⟨.inl ⟨rfl,_,d0.of e5⟩,?_⟩;left;refine⟨p5,_,_,rfl,rfl,d0.of e5,rfl,by cases k<;>rfl,?_⟩;rw[show((w9 k).countP λz=>K9 z (.bl true))=1 by cases k<;>rfl];left;refine oH (n6 ?_);rw[show(!decide (((1:Nat):Int)=1))=false by decide];refine t7 ?_;left;refine dW (hx.same s15) ek rfl k0 (n6 ?_);refine t7 ?_;left;refine⟨show 9<=sizeLine by decide,λp6 h6=>?_⟩;have s6:=m8 h6 (HO.lst ZJ);left;refine⟨.inl ⟨rfl,_,d0.of (s6 _ _ e5)⟩,?_⟩;left;refine⟨p5,_,_,jx k,rfl,rfl,d0.of (s6 _ _ e5),rfl,by cases k<;>rfl,by cases k<;>decide,λz h=>by cases k<;>(cases h;rfl),λi z hi h=>ysC hi h,?_⟩;refine M8 (d0.of f9) (v:=.str (Zj k)) (J0 (j:=jx k) (by cases k<;>rfl)) (q _ (s15.trans s6))
theorem M_ {B:Addr}{i:Nat}{ts:(St->Prop)->XK->TS}{th:Addr->TS}{D:S0}{σ:St}{H:Hp}(q:ts (·=σ) (yM K B i σ th D) D σ H):k_ K B i ts th D σ H:=q
theorem Xo {sp:Sp}{ta:TA}{σ:St}{H:Hp}{Q:VK}(q:ta σ H λvs H1=>sp vs H1 Q λ_ _ _=>False):t_ sp ta σ H Q:=q
def yjS:Sp:=λvs H Q _=>∃ (mx kx vx:V) (tm tk tv:Th),vs=[mx,kx,vx]/\Is H mx tm/\Is H kx tk/\Is H vx tv/\A1 tm=true/\A1 tk=true/\A1 tv=true/\(¬ ∃ ms ks vss fr,tm=u7 ms/\tk=u7 ks/\tv=A5 vss/\O2 ms ks vss fr)/\∀ H',b9 H H'->Q (.bl true) H'
theorem fL:OF P w base T.zw 11 yjS:=by
 o_head (T.zw.F,gH);obtain⟨mx,kx,vx,tm,tk,tv,rfl,im,ik,iv,sm1,sm2,sm3,no,q⟩:=h;refine⟨_,(f7 (Vp (i:=3) (λpins Eh EE S hps=>(j0 (E7 (ymX T.JR (kY T) (B2 hr) hps rfl T.JQ T.zn.B (b7 (pv 0) (b7 (pv 1) (b7 (pv 2) c6))))))) rfl T.JV rfl rfl gH.nd rfl rfl (λa=>(j0 (r6 (N2 S4 (Xq (qp T) (hr.toN (by decide)) rfl T.zW.M T.zW.F.kp T.zW.B (b7 (pv 3) c6)) n9 (z5 _)))))) (j0 (r6 v8))),?_⟩;refine x4 (M_ ?_);left;refine⟨rfl,?_⟩;show O3 _ _ _ _ _
 left;intro xa dx hx hdx ndx;refine⟨xa,dx,mx,kx,vx,tm,tk,tv,H,H,rfl,f9,hx,iB hx hdx ndx,b9.refl _,im,ik,iv,sm1,sm2,sm3,λms ks vss fr e1 e2 e3 ok=>(no ⟨ms,ks,vss,fr,e1,e2,e3,ok⟩).elim,λ_ e o us H' s' hc hd hf he=>?_⟩;refine⟨t.Rr,rfl,T.Jm,λa ha=>?_⟩;cases ha;left;refine Xo ?_;left;refine⟨_,.tune,_,rfl,⟨e,o,us,rfl,hc,hf,he,.inl ⟨hd,rfl⟩⟩,λH9 s9=>?_⟩;left;refine⟨rfl,?_⟩;exact q _ (s'.trans s9)
def yjM:Sp:=λvs H Q _=>∃ (x:V) (tr:Th),vs=[x]/\Is H x tr/\A1 tr=true/\eD tr=false/\∀ H',b9 H H'->Q (.bl true) H'
theorem ys3:OF P w base T.zo 8 yjM:=by
 o_head (T.zo.F,gI);obtain⟨x,tr,rfl,ix,sm,no,q⟩:=h;refine⟨_,(f7 (Vp (i:=1) (λpins Eh EE S hps=>(j0 (E7 (ymG (xM T) (hr.mono (by decide)) hps rfl T.QB.M T.QB.F.kp T.QB.B (b7 (pv 0) c6))))) rfl T.JV rfl rfl gI.nd rfl rfl (λa=>(j0 (r6 (N2 S4 (Xq (qp T) (hr.toN (by decide)) rfl T.zW.M T.zW.F.kp T.zW.B (b7 (pv 1) c6)) n9 (z5 _)))))) (j0 (r6 v8))),?_⟩;refine x4 (M_ ?_);left;refine⟨rfl,?_⟩;left;refine⟨x,tr,H,rfl,b9.refl _,ix,sm,λs e g=>?_,λ_ e o us H' s' hc hd hf he=>?_⟩
 ·rw[e,P8.mpr g] at no;cases no
 refine⟨t.Rr,rfl,T.Jm,λa ha=>?_⟩;cases ha;left;refine Xo ?_;left;refine⟨_,.tune,_,rfl,⟨e,o,us,rfl,hc,hf,he,.inl ⟨hd,rfl⟩⟩,λH9 s9=>?_⟩;left;refine⟨rfl,?_⟩;exact q _ (s'.trans s9)
def eH:Hp:=λ_=>none
theorem Vd {Hs H0 H H':Hp}{D:Addr}{u0:HO}(sm:b9 H0 H)(hd:H D=some u0):b9 (fr H H') (gp Hs H0 H' D):=λc u e=>by
 obtain⟨n,e⟩:=N5 e;unfold gp;rw[A4 (sm.free n),cD (λz=>by rw[z,hd] at n;cases n)];exact e
theorem jE {α:Type}{f:α->Th}:cW (λH x u=>Is H x (f u)):=λs h=>h.same s
def N4 (xs:List V):Prop:=∀ (i j:Nat) (a:Addr),xs[i]?=some (V.ref a)->xs[j]?=some (V.ref a)->i=j
theorem Y_ {H H':Hp}{b:Addr}{tr:Th}(h:Is (fr H H') (.ref b) tr):H b=none/\∃ u,H' b=some u:=by
 cases tr with
 | im v=>rw[Is] at h;rw[<- h.1] at h;cases h.2
 | ls ts=>obtain⟨a,xs,e,ea,_⟩:=h.ls;cases e;exact⟨(N5 ea).1,_,(N5 ea).2⟩
 | tp ts=>obtain⟨a,xs,e,ea,_⟩:=h.tp;cases e;exact⟨(N5 ea).1,_,(N5 ea).2⟩
 | dk=>rw[Is] at h;obtain⟨a,xs,e,ea⟩:=h;cases e;exact⟨(N5 ea).1,_,(N5 ea).2⟩
theorem N4.snoc {xs:List V}{H:Hp}{y:V}(h:N4 xs)(g:∀ b,V.ref b∈xs->∃ u,H b=some u)(n:∀ b,y=.ref b->H b=none):N4 (xs++[y]):=λi j a hi hj=>by
 have key:∀ k,(xs++[y])[k]?=some (V.ref a)->(xs[k]?=some (V.ref a)/\∃ u,H a=some u)∨(k=xs.length/\H a=none):=λk hk=>by
  rcases Nat.lt_or_ge k xs.length with l | l
  ·rw[List.getElem?_append_left l] at hk;exact .inl ⟨hk,g a (List.mem_of_getElem? hk)⟩
  ·rw[List.getElem?_append_right l] at hk;obtain⟨z,e⟩:=qE hk;have z':k=xs.length:=by have:k - xs.length < 1:=z;omega
   subst z';simp at e;exact .inr ⟨rfl,n a e⟩
 rcases key i hi with ⟨h1,u,e1⟩ | ⟨h1,e1⟩<;>rcases key j hj with ⟨h2,v,e2⟩ | ⟨h2,e2⟩
 ·exact h i j a h1 h2
 ·rw[e1] at e2;cases e2
 ·rw[e1] at e2;cases e2
 ·rw[h1,h2]
theorem RQ {a D:Addr}{xs:List V}{us:List α}{te:TE}{Fin:Hp->Prop}{o:Option V}{r:St}{H:Hp}{R:V->α->Prop}(f:α->Th)(ha:H a=some (.lst xs))(al:Al R xs us)(hD:H D=none)(hz:us.length<=900)
  (hte:∀ x u (H':Hp) (Q':VK),u∈us->b9 H H'->R x u->(∀ y H'',b9 H' H''->Is (fr H' H'') y (f u)->Q' y H'')->te (some x :: r) H' Q') (fin:∀ H',b9 H H'->Is (fr H H') (.ref D) (.ls (us.map f))->(∀ zs,H' D=some (.lst zs)->N4 zs)->Fin H') :
  ∃ W:Nat->Nat->St->Hp->Prop,(∃ m,W 0 m (o :: r) (upd H D (.lst [])))/\T9 (V9 K a) (G9 0) Y4 te D Fin W:=by
 refine iH (xs:=xs) (λi σ' H'=>(∃ o,σ'=o :: r)/\F0 (λH x u=>Is H x (f u)) eH H H' D (us.take i)/\∃ kw,H' D=some (.lst kw)/\N4 kw/\∀ b,V.ref b∈kw->∃ u,H' b=some u) ⟨⟨_,rfl⟩,F0.nil hD,_,f9,(λi _ _ h=>nomatch h),λ_ h=>nomatch h⟩ (λ_ _ _ _ h=>d0.of (h.2.1.1 _ _ ha)) ?_ ?_
 ·rintro i x σ' H' N hN hx ⟨⟨o,rfl⟩,⟨sm,kv,hd,ak⟩,kw,hw,ap,eb⟩;rw[hd] at hw;cases hw;obtain⟨hi,rx⟩:=Z0 al hx;refine A2 (aE (v9 (hte x us[i] H' _ (List.getElem_mem hi) sm rx λy H2 t2 iy=>⟨kv,t2 _ _ hd,?_,hN _ _ ⟨⟨_,rfl⟩,?_,_,f9,N4.snoc ap eb (λb e=>(Y_ (e▸iy)).1),λb m=>?_⟩⟩)))
  ·rw[ak.1,qT];exact F1 (by omega)
  ·rw[List.take_succ_eq_append_getElem hi];exact F0.put (R:=λH x u=>Is H x (f u)) jE hD (sm.trans t2) (ak.imp λ_ _ _ z=>z.same (L7 t2)) (iy.same (Vd sm hd))
  ·by_cases z:b=D
   ·exact⟨_,by rw[z];exact f9⟩
   ·rw[u6 z];rcases List.mem_append.mp m with m | m
    ·obtain⟨u,e⟩:=eb b m;exact⟨u,t2 _ _ e⟩
    ·exact(Y_ ((List.mem_singleton.mp m).symm▸iy)).2
 ·rintro σ' H' ⟨_,⟨sm,kv,hd,ak⟩,kw,hw,ap,eb⟩;rw[al.1,List.take_length] at ak;exact fin _ sm (E3 (by rw[L5 hD];exact hd) ((bX ak).same P5)) λzs e=>by rw[hw] at e;cases e;exact ap
theorem ykE {a D:Addr}{xs:List V}{us:List α}{te:TE}{Fin:Hp->Prop}{o:Option V}{r:St}{H:Hp}{R:V->α->Prop}(f:α->Th)(ha:H a=some (.tup xs))(al:Al R xs us)(hD:H D=none)(hz:us.length<=900)
  (hte:∀ x u (H':Hp) (Q':VK),u∈us->b9 H H'->R x u->(∀ y H'',b9 H' H''->Is (fr H' H'') y (f u)->Q' y H'')->te (some x :: r) H' Q') (fin:∀ H',b9 H H'->Is (fr H H') (.ref D) (.ls (us.map f))->Fin H') :
  ∃ W:Nat->Nat->St->Hp->Prop,(∃ m,W 0 m (o :: r) (upd H D (.lst [])))/\T9 (kG K a) (G9 0) Y4 te D Fin W:=by
 refine xP (xs:=xs) (λi σ' H'=>(∃ o,σ'=o :: r)/\F0 (λH x u=>Is H x (f u)) eH H H' D (us.take i)) ⟨⟨_,rfl⟩,F0.nil hD⟩ (λ_ _ _ _ h=>m9.of (h.2.1 _ _ ha)) ?_ ?_
 ·rintro i x σ' H' hx ⟨⟨o,rfl⟩,sm,kv,hd,ak⟩;obtain⟨hi,rx⟩:=Z0 al hx;refine A2 (aE (v9 (hte x us[i] H' _ (List.getElem_mem hi) sm rx λy H2 t2 iy=>⟨kv,t2 _ _ hd,?_,⟨_,rfl⟩,?_⟩)))
  ·rw[ak.1,qT];exact F1 (by omega)
  ·rw[List.take_succ_eq_append_getElem hi];exact F0.put (R:=λH x u=>Is H x (f u)) jE hD (sm.trans t2) (ak.imp λ_ _ _ z=>z.same (L7 t2)) (iy.same (Vd sm hd))
 ·rintro σ' H' ⟨_,sm,kv,hd,ak⟩;rw[al.1,List.take_length] at ak;exact fin _ sm (E3 (by rw[L5 hD];exact hd) ((bX ak).same P5))
def gJ:Nat->Th->Prop
 | _,.im _=>True
 | n+1,.ls ts=>ts.length<=100/\∀ t∈ts,gJ n t
 | n+1,.tp ts=>ts.length<=100/\∀ t∈ts,gJ n t
 | _,_=>False
def yu0 (sp:Sp)(R:Th->Prop):Sp:=λvs H Q _=>∃ (x:V) (tr:Th),vs=[x]/\Is H x tr/\((∃ v,tr=.im v)∨∃ ts,(tr=.ls ts∨tr=.tp ts)/\ts.length<=100/\∀ u∈ts,∀ (y:V) (H1:Hp) (Q1:VK) (E1:XK),Is H1 y u->(∀ z H2,b9 H1 H2->Is (fr H1 H2) z u->Q1 z H2)->sp [y] H1 Q1 E1)/\∀ y H',b9 H H'->Is (fr H H') y tr->(∀ p zs,y=.ref p->H' p=some (.lst zs)->N4 zs)->Q y H'
theorem xy {j:Nat}{sp:Sp}{R:Th->Prop}(T:Txt K mg t)(G_zF:z0 P w K mg base S3 j t.f_zF t.d_zF ["_law_thing"] sp):z0 P w K mg base S3 (j+1) t.f_zF t.d_zF ["_law_thing"] (yu0 sp R):=by
 refine T.zF.F.ok Gk (λvs H Q E h=>?_) (λ_ _ _ s H vs Q E hr h=>?_)
 ·obtain⟨_,_,rfl,_⟩:=h;rfl
 have hu:=eR hr;obtain⟨x,tr,rfl,ix,cs,q⟩:=h;refine⟨_,(f7 (A7 (F4 (z8 Q7 rfl T.Ja F2 (b7 (pv 0) (b7 (P4 rfl T.Jg Y1) c6)))) (j0 (r6 (O9 (L0 (NB:=["_law_one"]) (cap:=[none]) rfl) rfl (K2 (pv 0)) (λ_ _ _ _=>(eV (i:=0) (show List.Nodup (["_law_one"]:List Str) by decide) rfl (Or.inl rfl))) (λ_ _ _ _=>L8) (λ_ _ _ _=>(eF G_zF hr T.zF (b7 (pv 0) c6)))))) B4) (f7 (A7 (F4 (z8 Q7 rfl T.Ja F2 (b7 (pv 0) (b7 (P4 rfl T.Jj eE) c6)))) (j0 (r6 (bC wN rfl T.Jj eE (b7 (O9 (L0 (NB:=["_law_one"]) (cap:=[none]) rfl) rfl (xF (pv 0)) (λ_ _ _ _=>(eV (i:=0) (show List.Nodup (["_law_one"]:List Str) by decide) rfl (Or.inl rfl))) (λ_ _ _ _=>L8) (λ_ _ _ _=>(eF G_zF hr T.zF (b7 (pv 0) c6)))) c6)))) B4) (j0 (r6 (pv 0))))),?_⟩;left;refine U9 ix.knd ?_;rcases cs with ⟨v,rfl⟩ | ⟨ts,rfl | rfl,len,rec⟩
 ·have q0:=q x H (b9.refl _) (by rw[Is] at ix |-;exact ix) λp zs e _=>by rw[Is] at ix;rw[<- ix.1,e] at ix;cases ix.2
  cases ix.im;have e1:(kT (.im x)).isA "list"=false:=by cases x<;>rfl
  have e2:(kT (.im x)).isA "tuple"=false:=by cases x<;>rfl
  rw[e1];refine n6 (t7 ?_);left;refine U9 ix.knd ?_;rw[e2];refine n6 (t7 ?_);left;exact q0
 ·obtain⟨a,xs,rfl,ea,is⟩:=ix.ls;refine n6 (v9 ?_);left;refine⟨a,rfl,⟨_,d0.of ea⟩,λD hD=>RQ (λu=>u) ea (jA is) hD (by omega) (λx u H' Q' hu sm rx q'=>?_) λH' sm iD ap=>?_⟩
  ·left;exact rec u hu x H' Q' _ (rx.same sm) q'
  ·rw[List.map_id'] at iD;exact q _ _ sm iD λp zs e ez=>by cases e;exact ap _ ez
 ·obtain⟨a,xs,rfl,ea,is⟩:=ix.tp;refine n6 (t7 ?_);left;refine U9 ix.knd (n6 (v9 ?_));left;refine⟨a,rfl,⟨_,m9.of ea⟩,λD hD=>ykE (λu=>u) ea (jA is) hD (by omega) (λx u H' Q' hu sm rx q'=>?_) λH' sm iD=>?_⟩
  ·left;exact rec u hu x H' Q' _ (rx.same sm) q'
  ·rw[List.map_id'] at iD;obtain⟨l,ys,e,el,is2⟩:=iD.ls;cases e;left;refine⟨D,ys,rfl,.inl ⟨d0.of (N5 el).2,λp hp=>?_⟩⟩;have s2:=m8 hp (.tup ys);exact q _ _ (sm.trans s2) (aK (by rw[L5 (sm.free hp)];exact f9) (is2.same (J6 s2))) λp' zs e ez=>by cases e;rw[f9] at ez;cases ez
def Yu (n:Nat):Sp:=λvs H Q _=>∃ (x:V) (tr:Th),vs=[x]/\Is H x tr/\gJ n tr/\∀ y H',b9 H H'->Is (fr H H') y tr->(∀ p zs,y=.ref p->H' p=some (.lst zs)->N4 zs)->Q y H'
theorem z_ (T:Txt K mg t):∀ n,z0 P w K mg base S3 (n+1) t.f_zF t.d_zF ["_law_thing"] (Yu n)
 | 0=>(xy T (j:=0) (sp:=jz) (R:=λ_=>True) never).imp λvs H Q E h=>by
  obtain⟨x,tr,rfl,ix,d,q⟩:=h;refine⟨x,tr,rfl,ix,.inl ?_,q⟩;cases tr with
  | im v=>exact⟨v,rfl⟩
  | ls=>exact d.elim
  | tp=>exact d.elim
  | dk=>exact d.elim
 | n+1=>(xy T (R:=λ_=>True) (z_ T n)).imp λvs H Q E h=>by
  obtain⟨x,tr,rfl,ix,d,q⟩:=h;refine⟨x,tr,rfl,ix,?_,q⟩;cases tr with
  | im v=>exact .inl ⟨v,rfl⟩
  | ls ts=>exact .inr ⟨ts,.inl rfl,d.1,λu hu y H1 Q1 E1 iy q1=>⟨y,u,rfl,iy,d.2 u hu,λz H2 s2 i2 _=>q1 z H2 s2 i2⟩⟩
  | tp ts=>exact .inr ⟨ts,.inr rfl,d.1,λu hu y H1 Q1 E1 iy q1=>⟨y,u,rfl,iy,d.2 u hu,λz H2 s2 i2 _=>q1 z H2 s2 i2⟩⟩
  | dk=>exact d.elim
def B8 (Hs:Hp)(C:St->Prop)(te:TE)(tr:Th):Prop:=∀ σ H Q,b9 Hs H->C σ->(∀ x H',b9 H H'->Is (nw Hs H H') x tr->Q x H')->te σ H Q
def kZ (Hs:Hp)(C:St->Prop)(ta:TA)(ts:List Th):Prop:=∀ σ H Q,b9 Hs H->C σ->(∀ xs H',b9 H H'->Iss (nw Hs H H') xs ts->Q xs H')->ta σ H Q
section
variable {Hs:Hp} {C:St->Prop}
theorem lv_c {v:V}(h:gM v=true):B8 Hs C (tC v) (.im v):=fun σ H Q _ _ q=>q v H (b9.refl H) (B5 h)
theorem lv_u {f:Int->V}{i:Int}(h:gM (f i)=true):B8 Hs C (pF (rU f) (tC (.int i))) (.im (f i)):=fun σ H Q _ _ q=>⟨i,rfl,q _ H (b9.refl H) (B5 h)⟩
theorem lv_d:B8 Hs C tW .dk:=fun σ H Q _ _ q p hp=>q _ _ (m8 hp _) (by rw[Is];exact⟨p,_,rfl,by rw[A4 hp];exact f9⟩)
theorem V0 {i:Nat}{tr:Th}(h:∀ σ,C σ->∃ x,σ[i]?=some (some x)/\Is Hs x tr):B8 Hs C (D7 i) tr:=fun σ H Q sH c q=>by
 obtain⟨x,e,ix⟩:=h σ c;exact⟨x,e,q _ _ (b9.refl H) (ix.same (Y0 sH))⟩
theorem lv_n:kZ Hs C Z8 []:=fun σ H Q _ _ q=>q _ _ (b9.refl H) (J7 _)
theorem cQ {H H1 H2:Hp}(sH:b9 Hs H)(s1:b9 H H1):b9 (nw Hs H1 H2) (nw Hs H H2):=λb u e=>by
 cases h:H b with
 | none=>
  rw[A4 h];cases h1:H1 b with
  | none=>rw[A4 h1] at e;exact e
  | some v=>
   rw[J9 h1] at e;rw[sH _ _ e] at h;cases h
 | some v=>rw[J9 h];rw[J9 (s1 _ _ h)] at e;exact e
theorem lv_s {ta:TE}{tr:TA}{t:Th}{ts:List Th}(a:B8 Hs C ta t)(b:kZ Hs C tr ts):kZ Hs C (O3 ta tr) (t :: ts):=fun σ H Q sH c q =>
 a σ H _ sH c λx H1 s1 i1=>b σ H1 _ (sH.trans s1) c λxs H2 s2 i2=>q _ _ (s1.trans s2) (A9 (i1.same (L6 s2)) (i2.same (cQ sH s1)))
theorem lv_1 {te:TE}{i:Int}{tr:Th}(a:B8 Hs C te tr):B8 Hs C (Vw [(tC (.int i),te)]) .dk:=fun σ H Q sH c q p hp=>by
 have s1:=m8 hp (.dK []);refine a σ _ _ (sH.trans s1) c λx H1 s2 i1=>?_
 have e1:=s2 _ _ (f9 (H:=H) (a:=p) (o:=.dK []));refine⟨e1,[(.inl i,x)],rfl,by show 1<=15;decide,?_⟩;refine q _ _ (O5 hp (s1.trans s2)) ?_;rw[Is];exact⟨p,_,rfl,by rw[A4 hp];exact f9⟩
theorem lv_t {tr:TA}{ts:List Th}(a:kZ Hs C tr ts)(h:ts.length<=1000):B8 Hs C (hV tr) (.tp ts):=fun σ H Q sH c q=>a σ H _ sH c λxs H1 s1 i1 =>
 ⟨S6 (by rw[i1.len];exact h),λp hp=>q _ _ (s1.trans (m8 hp _)) (aK (by rw[A4 (s1.free hp)];exact f9) (i1.same (L6 (m8 hp _))))⟩
theorem lv_l {tr:TA}{ts:List Th}(a:kZ Hs C tr ts)(h:ts.length<=1000):B8 Hs C (iI tr) (.ls ts):=fun σ H Q sH c q=>a σ H _ sH c λxs H1 s1 i1 =>
 ⟨S6 (by rw[i1.len];exact h),λp hp=>q _ _ (s1.trans (m8 hp _)) (E3 (by rw[A4 (s1.free hp)];exact f9) (i1.same (L6 (m8 hp _))))⟩
end
theorem G0 {Hs:Hp}{C:St->Prop}{te:TE}{tr:Th}{σ:St}{H:Hp}{Q:VK}(a:B8 Hs C te tr)(sH:b9 Hs H)(c:C σ)(q:∀ x H',b9 H H'->Is (nw Hs H H') x tr->Q x H'):te σ H Q:=a σ H Q sH c q
def aF (g o b:Th):List Th:=[.im .non,.ls [],.ls [.tp [nT 2,g]],.ls [.tp [nT 1,g],.tp [nT 1,o]],.ls [.tp [nT 1,g],.tp [nT 3,g]],.ls [.tp [nT 0,g]],.ls [.tp [bT true,g]],
 .ls [.tp [.ls [nT 1],g]],.ls [.ls [nT 1,g]],.ls [.tp [nT 1]],.ls [.tp [nT 1,b]],.tp [.tp [nT 1,g]],.dk,.ls [.tp [nT 1,g],.tp [nT 99,o]],
 .ls [.tp [nT 1,g],.tp [nT 2,b]],.ls [.tp [nT 1,g,nT 0]],.ls [.tp [sT "1",g]],.ls [.im .non],nT 5,sT "metre",.ls [.tp [nT 1,g],.tp [nT 2,.im .non]]]
def FZ:Sp:=λvs H Q _=>∃ (n:Int) (x y z:V) (g o b:Th) (Hs:Hp),vs=[.int n,x,y,z]/\0<=n/\b9 Hs H/\Is Hs x g/\Is Hs y o/\Is Hs z b/\∀ v tr H',tr∈aF g o b->b9 H H'->Is (nw Hs H H') v tr->Q v H'
theorem Kj:OF P w base T.zc 1 FZ:=by
 o_head (T.zc.F,aD);obtain⟨n,x,y,z,g,o,b,Hs,rfl,n0,sH,ig,io,ib,q⟩:=h;refine⟨_,(f7 (p0 4 aD.nd (j8 (b7 V3 (b7 (j8 c6) (b7 (j8 (b7 (g8 (b7 c8 (b7 (pv 1) c6))) c6)) (b7 (j8 (b7 (g8 (b7 c8 (b7 (pv 1) c6))) (b7 (g8 (b7 c8 (b7 (pv 2) c6))) c6))) (b7 (j8 (b7 (g8 (b7 c8 (b7 (pv 1) c6))) (b7 (g8 (b7 c8 (b7 (pv 1) c6))) c6))) (b7 (j8 (b7 (g8 (b7 c8 (b7 (pv 1) c6))) c6)) (b7 (j8 (b7 (g8 (b7 v8 (b7 (pv 1) c6))) c6)) c6))))))))) (f7 (p0 4 aD.nd (u9 O1 (pv 4) (j8 (b7 (j8 (b7 (g8 (b7 (j8 (b7 c8 c6)) (b7 (pv 1) c6))) c6)) (b7 (j8 (b7 (j8 (b7 c8 (b7 (pv 1) c6))) c6)) (b7 (j8 (b7 (g8 (b7 c8 c6)) c6)) (b7 (j8 (b7 (g8 (b7 c8 (b7 (pv 3) c6))) c6)) (b7 (g8 (b7 (g8 (b7 c8 (b7 (pv 1) c6))) c6)) (b7 (yn8 (TQ c8 (pv 1) yom) rfl rfl (List.cons_ne_nil _ _) (Nat.le_of_ble_eq_true rfl)) (b7 (j8 (b7 (g8 (b7 c8 (b7 (pv 1) c6))) (b7 (g8 (b7 c8 (b7 (pv 2) c6))) c6))) c6)))))))))) (f7 (p0 4 aD.nd (u9 O1 (pv 4) (j8 (b7 (j8 (b7 (g8 (b7 c8 (b7 (pv 1) c6))) (b7 (g8 (b7 c8 (b7 (pv 3) c6))) c6))) (b7 (j8 (b7 (g8 (b7 c8 (b7 (pv 1) (b7 c8 c6)))) c6)) (b7 (j8 (b7 (g8 (b7 n9 (b7 (pv 1) c6))) c6)) (b7 (j8 (b7 V3 c6)) (b7 c8 (b7 n9 (b7 (j8 (b7 (g8 (b7 c8 (b7 (pv 1) c6))) (b7 (g8 (b7 c8 (b7 V3 c6))) c6))) c6)))))))))) (j0 (r6 (F8 j9 (pv 4) (u9 dA (pv 0) c8) (λ_ _=>rfl))))))),?_⟩;have vg:B8 Hs (fun σ=>∃ w,σ=[some (.int n),some x,some y,some z,w]) (D7 1) g:=V0 fun σ c=>by obtain⟨w,rfl⟩:=c;exact⟨x,rfl,ig⟩
 have vo:B8 Hs (fun σ=>∃ w,σ=[some (.int n),some x,some y,some z,w]) (D7 2) o:=V0 fun σ c=>by obtain⟨w,rfl⟩:=c;exact⟨y,rfl,io⟩
 have vb:B8 Hs (fun σ=>∃ w,σ=[some (.int n),some x,some y,some z,w]) (D7 3) b:=V0 fun σ c=>by obtain⟨w,rfl⟩:=c;exact⟨z,rfl,ib⟩
 refine x4 (D8 ?_);refine G0 (C:=fun σ=>∃ w,σ=[some (.int n),some x,some y,some z,w]) (tr:=.ls ((aF g o b).take 7)) ?_ sH ⟨none,rfl⟩ λw1 H1 s1 i1=>?_
 ·exfalso
 obtain⟨p1,xs1,rfl,e1,is1⟩:=i1.ls;have l1:xs1.length=7:=is1.len;refine A2 ?_;dsimp only;refine x4 (D8 (M9 (E9 rfl ?_)));refine G0 (C:=fun σ=>∃ w,σ=[some (.int n),some x,some y,some z,w]) (tr:=.ls (((aF g o b).drop 7).take 7)) ?_ (sH.trans s1) ⟨_,rfl⟩ λw2 H2 s2 i2=>?_
 ·exfalso
 obtain⟨p2,xs2,rfl,e2,is2⟩:=i2.ls;have l2:xs2.length=7:=is2.len;have sH1:=sH.trans s1;refine⟨p1,p2,xs1,xs2,rfl,rfl,s2 _ _ (B7 sH s1 _ _ e1),B7 sH1 s2 _ _ e2,S6 (by omega),λp3 h3=>?_⟩;have s3:=m8 h3 (.lst (xs1++xs2));have s12:=s1.trans s2;have is12:Iss (nw Hs H (upd H2 p3 (.lst (xs1++xs2)))) (xs1++xs2) ((aF g o b).take 14):=Iss.app (ts:=(aF g o b).take 7) (us:=((aF g o b).drop 7).take 7) (is1.same (L6 (s2.trans s3))) ((is2.same (cQ sH s1)).same (L6 s3));have e3:upd H2 p3 (.lst (xs1++xs2)) p3=some (.lst (xs1++xs2)):=f9;have s13:=s12.trans s3;generalize upd H2 p3 (.lst (xs1++xs2))=H3 at is12 e3 s13 |-;refine A2 ?_;dsimp only;refine x4 (D8 (M9 (E9 rfl ?_)));have sH3:=sH.trans s13;refine G0 (C:=fun σ=>∃ w,σ=[some (.int n),some x,some y,some z,w]) (tr:=.ls ((aF g o b).drop 14)) ?_ sH3 ⟨_,rfl⟩ λw4 H4 s4 i4=>?_
 ·exfalso
 obtain⟨p4,xs4,rfl,e4,is4⟩:=i4.ls;have l4:xs4.length=7:=is4.len;refine⟨p3,p4,xs1++xs2,xs4,rfl,rfl,s4 _ _ e3,B7 sH3 s4 _ _ e4,S6 (by rw[qA];omega),λp5 h5=>?_⟩;have s5:=m8 h5 (.lst (xs1++xs2++xs4));have is5:Iss (nw Hs H (upd H4 p5 (.lst (xs1++xs2++xs4)))) (xs1++xs2++xs4) (aF g o b):=Iss.app (ts:=(aF g o b).take 14) (us:=(aF g o b).drop 14) (is12.same (L6 (s4.trans s5))) ((is4.same (cQ sH s13)).same (L6 s5));refine A2 ?_;dsimp only;left;have m0:0<=n%21:=Int.emod_nonneg _ (by decide);have m1:n%21 < 21:=Int.emod_lt_of_pos _ (by decide);obtain⟨v,ev,iv⟩:=is5.at' (n%21).toNat (by show(n%21).toNat < 21;omega);have ea:=J0 ev;rw[Int.toNat_of_nonneg m0] at ea;exact M8 (d0.of f9) ea (q _ _ _ (List.getElem_mem _) ((s13.trans s4).trans s5) iv)
def rN:Th->Int
 | .tp [.im (.int i),_]=>i
 | _=>0
def I_:Th->Th
 | .tp [_,v]=>v
 | _=>.dk
def jU (j:Bool):Th->Bool
 | .ls ts=>ts.all (dF j)&&(decide ((ts.map rN).take 1=[1])&&(fR (ts.map rN)&&((List.range (ts.length - 1)).all λi=>!A3 (D9 (I_ (ts.getD i .dk))) (D9 (I_ (ts.getD (i+1) .dk))))))
 | _=>false
theorem Zu {j:Bool}{cs:List (Nat×Cv)}(g:J4 j cs):jU j (u7 cs)=true:=by
 have gi:=xz g;have eb:(cs.map L1).map rN=(cs.map λc=>((c.1:Int),c.2)).map (·.1):=by rw[List.map_map,List.map_map];rfl
 rw[u7,jU,eb,gi.up,decide_eq_true gi.one,Bool.true_and,Bool.true_and,Bool.and_eq_true];refine⟨List.all_eq_true.mpr λx m=>?_,List.all_eq_true.mpr λi m=>?_⟩
 ·obtain⟨c,mc,rfl⟩:=List.mem_map.mp m;show(true&&gT j (J8 c.2))=true
  rw[jl (g.g c mc)];rfl
 ·have hi:=List.mem_range.mp m;rw[qM] at hi;have l:i+1 < cs.length:=by omega
  have e1:(cs.map L1).getD i .dk=L1 cs[i]:=by rw[List.getD_eq_getElem?_getD,qm,qG (by omega)];rfl
  have e2:(cs.map L1).getD (i+1) .dk=L1 cs[i+1]:=by rw[List.getD_eq_getElem?_getD,qm,qG l];rfl
  rw[e1,e2];show(!A3 (D9 (J8 cs[i].2)) (D9 (J8 cs[i+1].2)))=true
  rw[pU (g.g _ (List.getElem_mem _)) (g.g _ (List.getElem_mem _)),decide_eq_false (g.ne i l)];rfl
theorem Xu {ms ks:List (Nat×Cv)}{vss:List (List Sn)}{fr:List Fr}(ok:O2 ms ks vss fr):(∀ c∈ms.getLast?,c.1<=24)/\∀ c∈ks.getLast?,c.1<=24:=by
 have l:=ok.f.1.len;obtain⟨c,h1,h2⟩:=ok.lm;obtain⟨d,h3,h4⟩:=ok.lk;rw[h1,h3];exact⟨λx e=>by cases e;omega,λx e=>by cases e;omega⟩
def lB:Th->Bool
 | .ls ts=>match ts.getLast? with
  | some t=>decide (rN t<=24)
  | none=>true
 | _=>true
theorem Xf {cs:List (Nat×Cv)}(h:∀ c∈cs.getLast?,c.1<=24):lB (u7 cs)=true:=by
 rw[u7,lB,List.getLast?_map];cases e:cs.getLast? with
 | none=>rfl
 | some c=>
  have:=h c (by rw[e];rfl);exact decide_eq_true (show((c.1:Nat):Int)<=24 by omega)
theorem ytO:∀ tr∈aF (E2 ⟨4,4,[]⟩) (E2 ⟨3,4,[]⟩) (E2 ⟨3,3,[]⟩),(jU true tr&&lB tr)=false:=by ac_rfl
theorem ytX:∀ b∈[nT 8,nT (-8),bT true,.ls [nT 1],sT "0",.im .non],∀ tr∈aF (nT 3) (nT 2) b,(jU false tr&&lB tr)=false:=by ac_rfl
theorem Wb {tr tk tv:Th}(h:(jU true tr&&lB tr)=false):¬ ∃ ms ks vss fr,tr=u7 ms/\tk=u7 ks/\tv=A5 vss/\O2 ms ks vss fr:=λ⟨ms,ks,vss,fr,e,_,_,ok⟩=>by
 rw[e,Zu ok.m,Xf (Xu ok).1] at h;cases h
theorem EJ {tm tr tv:Th}(h:(jU false tr&&lB tr)=false):¬ ∃ ms ks vss fr,tm=u7 ms/\tr=u7 ks/\tv=A5 vss/\O2 ms ks vss fr:=λ⟨ms,ks,vss,fr,_,e,_,ok⟩=>by
 rw[e,Zu ok.k,Xf (Xu ok).2] at h;cases h
theorem yK {a tp:Addr}{ns:List Int}{H H1 H2:Hp}{N:Nat}(d:Dr K a tp ns H1 N)(s1:c9 tp H H1)(s2:b9 H1 H2):b9 (nw (fr H H1) H1 H2) (fr H H2):=λc u e=>by
 cases h:H1 c with
 | none=>rw[A4 h] at e;rw[L5 (d.free s1 h)];exact e
 | some v=>
  rw[J9 h] at e;obtain⟨n,e⟩:=N5 e;rw[L5 n];exact s2 _ _ e
theorem g_ {H H1 H2:Hp}(s1:b9 H H1)(s2:b9 H1 H2):b9 (nw (fr H H1) H1 H2) (fr H H2):=λc u e=>by
 cases h:H1 c with
 | none=>rw[A4 h] at e;rw[L5 (s1.free h)];exact e
 | some v=>
  rw[J9 h] at e;obtain⟨n,e⟩:=N5 e;rw[L5 n];exact s2 _ _ e
def dL:List (List (Bool×Bool)):=[[(false,true)],[(true,false)],[(true,false),(true,false),(false,true)],[(true,true)],[(true,false),(false,true),(false,true)]]
def fU (n:Nat):List Sn:=(dL.getD n []).map λb=>.tones [⟨0,0,4⟩] 24 "" b.1 b.2
def fT (b:Bool×Bool):Th:=.tp [bT b.1,bT b.2]
def MJ:Sp:=λvs H Q _=>∃ n:Nat,vs=[.int n]/\n < 5/\∀ y H',b9 H H'->Is (fr H H') y (vT (fU n))->Q y H'
theorem xB:OF P w base T.zT 1 MJ:=by
 o_head (T.zT.F,aL);obtain⟨n,rfl,hn,q⟩:=h;refine⟨_,(f7 (p0 1 aL.nd (j8 (b7 (j8 (b7 (g8 (b7 v8 (b7 v8 c6))) c6)) (b7 (j8 (b7 (g8 (b7 v8 (b7 v8 c6))) c6)) (b7 (j8 (b7 (g8 (b7 v8 (b7 v8 c6))) (b7 (g8 (b7 v8 (b7 v8 c6))) (b7 (g8 (b7 v8 (b7 v8 c6))) c6)))) c6))))) (f7 (p0 1 aL.nd (u9 O1 (pv 1) (j8 (b7 (j8 (b7 (g8 (b7 v8 (b7 v8 c6))) c6)) (b7 (j8 (b7 (g8 (b7 v8 (b7 v8 c6))) (b7 (g8 (b7 v8 (b7 v8 c6))) (b7 (g8 (b7 v8 (b7 v8 c6))) c6)))) c6))))) (f7 (rL (i:=2) aL.nd rfl (Or.inr rfl) (j8 (b7 (g8 (b7 c8 (b7 c8 (b7 c8 c6)))) c6))) (j0 (r6 (O9 (L0 (NB:=["_law_one","_law_other","_law_pitches_here"]) (cap:=[none,none,some 2]) rfl) rfl (K2 (F8 j9 (pv 1) (pv 0) (λ_ _=>rfl))) (λ_ _ _ _=>by exact(show PG _ _ (gB K 2 (aR (G9 0) (aR (G9 1) fZ))) from lK (n:=2) rfl (dG (eV (i:=0) (show List.Nodup (["_law_one","_law_other","_law_pitches_here"]:List Str) by decide) rfl (Or.inl rfl)) (dG (eV (i:=1) (show List.Nodup (["_law_one","_law_other","_law_pitches_here"]:List Str) by decide) rfl (Or.inl rfl)) nK)))) (λ_ _ _ _=>L8) (λ_ _ _ _=>(g8 (b7 n9 (b7 (pv 2) (b7 c8 (b7 n9 (b7 (pv 0) (b7 (pv 1) c6)))))))))))))),?_⟩;refine x4 (D8 ?_);refine(show bK _ (.ls ((dL.take 3).map λr=>.ls (r.map fT))) from ?_) _ _ _ λw1 H1 s1 i1=>?_
 ·exfalso
 obtain⟨p1,xs1,rfl,e1,is1⟩:=i1.ls;refine A2 ?_;dsimp only;refine x4 (D8 (M9 (E9 rfl ?_)));refine(show bK _ (.ls ((dL.drop 3).map λr=>.ls (r.map fT))) from ?_) _ _ _ λw2 H2 s2 i2=>?_
 ·exfalso
 obtain⟨p2,xs2,rfl,e2,is2⟩:=i2.ls;have l1:xs1.length=3:=is1.len;have l2:xs2.length=2:=is2.len;refine⟨p1,p2,xs1,xs2,rfl,rfl,s2 _ _ (N5 e1).2,(N5 e2).2,S6 (by omega),λp3 h3=>?_⟩;have s3:=m8 h3 (.lst (xs1++xs2));have e3:upd H2 p3 (.lst (xs1++xs2)) p3=some (.lst (xs1++xs2)):=f9;have s13:=(s1.trans s2).trans s3;have is3:Iss (upd H2 p3 (.lst (xs1++xs2))) (xs1++xs2) (dL.map λr=>.ls (r.map fT)):=Iss.app (ts:=(dL.take 3).map λr=>.ls (r.map fT)) (us:=(dL.drop 3).map λr=>.ls (r.map fT)) (is1.same λb u e=>s3 _ _ (s2 _ _ (N5 e).2)) (is2.same λb u e=>s3 _ _ (N5 e).2);generalize upd H2 p3 (.lst (xs1++xs2))=H3 at is3 e3 s13 |-;refine A2 ?_;dsimp only;refine x4 (D8 ?_);refine(show bK _ (lT [⟨0,0,4⟩]) from ?_) _ _ _ λw4 H4 s4 i4=>?_
 ·exfalso
 refine A2 ?_;dsimp only;left;obtain⟨y,ey,iy⟩:=is3.at' n (by show n < 5;exact hn);refine M8 (d0.of (s4 _ _ e3)) (J0 ey) ?_;have hr5:dL.getD n []=dL[n]'(by show n < 5;exact hn):=by rw[List.getD_eq_getElem?_getD,qG (by show n < 5;exact hn)];rfl
 rw[List.getElem_map,<- hr5] at iy;have lr:(dL.getD n []).length<=3:=by
  have a:∀ n∈List.range 5,(dL.getD n []).length<=3:=by decide
  exact a n (List.mem_range.mpr hn)
 have q:=q;unfold fU at q;generalize dL.getD n []=bs at iy lr q;obtain⟨a,xs,rfl,ea,ia⟩:=iy.ls;have al:=T5 ia;have ea4:=s4 _ _ ea;have sH4:=s13.trans s4;have iw:Is (fr H H4) w4 (lT [⟨0,0,4⟩]):=i4.same (qQ s13);refine⟨a,rfl,⟨_,d0.of ea4⟩,λD hD=>iH (xs:=xs) (λi σ' H'=>(∃ o1 o2,σ'=[o1,o2,some w4])/\F0 (λH x u=>Is H x (z6 u)) (fr H H4) H4 H' D ((bs.take i).map λb=>Sn.tones [⟨0,0,4⟩] 24 "" b.1 b.2)) ⟨⟨_,_,rfl⟩,F0.nil hD⟩ (λ_ _ _ _ h=>d0.of (h.2.1 _ _ ea4)) ?_ ?_⟩
 ·rintro i x σ' H' N hN hx ⟨⟨o1,o2,rfl⟩,sm,kv,hd,ak⟩;obtain⟨hi,rx⟩:=Z0 al hx;obtain⟨p,zs,rfl,ep,iz⟩:=(show Is H3 x (.tp [bT bs[i].1,bT bs[i].2]) from rx).tp;obtain⟨z1,r,rfl,i1,iz⟩:=R6 iz;obtain⟨z2,r,rfl,i2,iz⟩:=R6 iz;rw[Iss] at iz;subst iz;cases i1.im;cases i2.im;refine yE (m9.of (sm _ _ (s4 _ _ ep))) (aE (v9 ?_));left;refine D6 λp6 h6=>?_
  have s6:=m8 h6 (.tup [.str "tones",w4,.int 24,.str "",.bl bs[i].1,.bl bs[i].2]);refine⟨kv,s6 _ _ hd,?_,hN _ _ ⟨⟨_,_,rfl⟩,?_⟩⟩
  ·rw[ak.1,qM,qT];exact F1 (by omega)
  ·rw[List.take_succ_eq_append_getElem hi,qP];have np:p6≠D:=λz=>by rw[z,hd] at h6;cases h6
   refine F0.put (R:=λH x u=>Is H x (z6 u)) (λs h=>h.same s) hD (sm.trans s6) (ak.imp λ_ _ _ z=>z.same (L7 s6)) ?_;exact sR (pL np (sm.free h6) f9) (iw.same (bU (K5 _ _)))
 ·rintro σ' H' ⟨_,sm,kv,hd,ak⟩;rw[al.1,List.take_length] at ak;refine q _ _ (sH4.trans sm) (E3 (by rw[L5 (sH4.free hD)];exact hd) ?_);exact((bX ak).same P5).same (g_ sH4 sm)
theorem yro:∀ n,n < 5->¬ Y3 false (L4 (fU n))
 | 0,_=>λh=>by have:=h.1 rfl;cases this
 | 1,_=>λh=>by cases (show true=false from h.2.2)
 | 2,_=>λh=>by cases (show true=false from h.2.2.2.1 rfl)
 | 3,_=>λh=>by have:=h.1 rfl;cases this
 | 4,_=>λh=>by have:=h.2.2.2.2.1 rfl;cases this
 | n+5,h=>absurd h (by omega)
theorem R7 {tm tk tv:Th}(h:¬ ∃ vss,tv=A5 vss/\V4 vss):¬ ∃ ms ks vss fr,tm=u7 ms/\tk=u7 ks/\tv=A5 vss/\O2 ms ks vss fr:=λ⟨_,_,vss,_,_,_,e,ok⟩=>h ⟨vss,e,ok.v⟩
theorem CJ {vss:List (List Sn)}(h:¬ V4 vss):¬ ∃ v2,A5 vss=A5 v2/\V4 v2:=λ⟨v2,e,g⟩=>h (by rw[iJ e];exact g)
theorem yrI {ts:List Th}{vs:List Th}{u:Th}(hv:Th.ls ts∈vs)(hu:u∈ts)(no:eD u=false):¬ ∃ vss,Th.ls vs=A5 vss/\V4 vss:=λ⟨vss,e,g⟩=>by
 have e:vs=vss.map vT:=by injection e
 rw[e] at hv;obtain⟨ss,ms,es⟩:=List.mem_map.mp hv;have es:ss.map z6=ts:=by injection es
 rw[<- es] at hu;obtain⟨s,m,rfl⟩:=List.mem_map.mp hu;rw[P8.mpr ((g.2.2 ss ms).g s m)] at no;cases no
theorem lI {α:Type}{f:α->Th}{k:Nat}{us:List α}(h:∀ u,G6 (f u)=true/\S8 (f u)<=k):G6 (.ls (us.map f))=true/\S8 (.ls (us.map f))<=k+1 :=
 ⟨iN λu hu=>by obtain⟨x,_,rfl⟩:=List.mem_map.mp hu;exact(h x).1,iY (gS λu hu=>by obtain⟨x,_,rfl⟩:=List.mem_map.mp hu;exact(h x).2)⟩
theorem BZ (p:G7):G6 (pT p)=true/\S8 (pT p)<=1:=⟨rfl,eW (k:=0) (K8 A6 (K8 A6 (K8 A6 eL)))⟩
theorem cF (s:Sn):G6 (z6 s)=true/\S8 (z6 s)<=3:=by
 cases s with
 | rest n=>exact⟨rfl,eW (k:=2) (K8 A6 (K8 A6 eL))⟩
 | tones ps n wd op cl=>
  have h:=lI (us:=ps) (f:=pT) (k:=1) BZ;refine⟨?_,eW (k:=2) (K8 A6 (K8 h.2 (K8 A6 (K8 A6 (K8 A6 (K8 A6 eL))))))⟩;show(true&&(G6 (.ls (ps.map pT))&&(true&&(true&&(true&&(true&&true))))))=true
  rw[h.1];rfl
def Ys:Sp:=λvs H Q _=>∃ (x:V) (ps:List G7) (n:Int) (wd:Str) (op cl:Bool),vs=[x]/\Is H x (z6 (.tones ps n wd op cl))/\ps.length<=4/\∀ H',b9 H H'->Q (.bl true) H'
theorem Wg:OF P w base T.zg 4 Ys:=by
 o_head (T.zg.F,cY);obtain⟨x,ps,n,wd,op,cl,rfl,ix,lp,q⟩:=h;obtain⟨a,y,rfl,ea,iy⟩:=ix.tones;obtain⟨l,xs,rfl,el,il⟩:=Is.ls (show Is H y (.ls (ps.map pT)) from iy);refine⟨_,(f7 (p0 1 cY.nd (bC eJ rfl T.Jg Y1 (b7 (xT (pv 0)) c6))) (f7 (p0 2 cY.nd (dD T.Qt (Xb T) (B2 hr) rfl T.JY T.zi.B .nil K4 (b7 (pv 1) (b7 (xT (pv 0)) (b7 (xT (pv 0)) (b7 (xT (pv 0)) (b7 (xT (pv 0)) c6))))))) (f7 (E7 (nR F.plainAttrs_list F.slot_list_clear F.type_list_clear xA (pv 1))) (j0 (r6 (N0 (N2 (X3 hu) (jZ (pv 2) (kX T) (jX T) (jJ T) (B2 hr) (kO T) K4) (pv 0) (z5 _)) (N0 (N2 (X3 hu) (M3 (pv 2) rfl) (xT (pv 0)) (z5 _)) (N6 (z8 (show P7 _ _ (dY K) from iQ) rfl T.Ja F2 (b7 (pv 2) (b7 (Q3 (v:=.ref t.Rz) rfl T.Qk rfl) c6))))))))))),?_⟩;left;refine B9 1 (m9.of ea) ?_;left;refine⟨l,xs,rfl,.inl (d0.of el),λp1 h1=>?_⟩;have s1:=m8 h1 (.lst xs);have ea1:=s1 _ _ ea;left;refine B9 2 (m9.of ea1) ?_;left;refine B9 3 (m9.of ea1) ?_;left;refine B9 4 (m9.of ea1) ?_;left;refine B9 5 (m9.of ea1) ?_;left;have e1:upd H p1 (.lst xs) p1=some (.lst xs):=f9;generalize upd H p1 (.lst xs)=H1 at s1 ea1 e1 |-;intro a2 dx ha hd ne;refine⟨a2,dx,p1,xs,n,wd,op,cl,rfl,f9,iB ha hd ne _ _ e1,G8 e1 ha,λl' hl'=>⟨rfl,?_⟩⟩;obtain⟨n1,n2⟩:=Xg hl';have s2:b9 H1 (upd (upd (made H1 t.RB a2 dx) l' (.lst xs)) a2 (.ins t.RB dx (gQ l' n wd op cl))):=λb u e=>by
  rw[u6 (G8 e ha),u6 (G8 e n2)];exact iB ha hd ne b u e
 have e2:upd (upd (made H1 t.RB a2 dx) l' (.lst xs)) a2 (.ins t.RB dx (gQ l' n wd op cl)) a2=some (.ins t.RB dx (gQ l' n wd op cl)):=f9;have e3:upd (upd (made H1 t.RB a2 dx) l' (.lst xs)) a2 (.ins t.RB dx (gQ l' n wd op cl)) l'=some (.lst xs):=by rw[u6 n1];exact f9
 generalize upd (upd (made H1 t.RB a2 dx) l' (.lst xs)) a2 (.ins t.RB dx (gQ l' n wd op cl))=H2 at s2 e2 e3 |-;left;refine⟨.inl ⟨rfl,_,d0.of (s2 _ _ e1)⟩,?_⟩;refine⟨p1,xs,rfl,rfl,s2 _ _ e1,?_⟩;have m1:a2≠p1:=(G8 e1 ha).symm;have m2:l'≠p1:=(G8 e1 n2).symm;have s3:b9 H (upd H2 p1 (.lst [])):=O5 h1 (s1.trans s2);have so:So t (upd H2 p1 (.lst [])) (.ref a2) (.tones ps n wd op cl):=⟨a2,dx,l',rfl,by rw[u6 m1];exact e2,E3 (by rw[u6 m2];exact e3) (il.same s3)⟩;generalize upd H2 p1 (.lst [])=H3 at s3 so |-;left;refine hW (b9.refl _) so λy H4 s4 iy4=>?_
 have s34:=s3.trans s4;have o4:b9 (nw (tpo H3) H3 H4) H4:=B7 (L9 _) s4;left;refine dZ ⟨(cF _).1,Nat.le_trans (cF _).2 (by decide)⟩ (iy4.same o4) (ix.same s34) (n6 (v9 ?_));left;refine gU T (so.same s4) ?_;left;refine B9 2 (m9.of (s34 _ _ ea)) ?_;left;refine dZ (tr:=nT n) ⟨rfl,A6⟩ (M5 _ _) (M5 _ _) (n6 (v9 ?_));left;obtain⟨a3,dx3,l3,e,ea3,_⟩:=so.same s4;cases e;exact eK (T.JA.ty T.Jc ea3) T.JC (q _ s34)
theorem kI {Hs H H' H2:Hp}{D:Addr}{u0:HO}(sH:b9 Hs H)(sm:b9 H H')(hD:H D=none)(hd:H' D=some u0):b9 (nw Hs H' H2) (gp Hs H H2 D):=λb u e=>by
 have nb:b≠D:=λz=>by
  rw[z,J9 hd] at e;rw[sH _ _ e] at hD;cases hD
 unfold gp;cases h:H b with
 | none=>
  rw[A4 h,cD nb];cases h1:H' b with
  | none=>rw[A4 h1] at e;exact e
  | some v=>
   rw[J9 h1] at e;rw[sH _ _ e] at h;cases h
 | some v=>rw[J9 h];rw[J9 (sm _ _ h)] at e;exact e
theorem ymb {α:Type}{D:Addr}{us:List α}{te:TE}{Fin:Hp->Prop}{o:Option V}{r:St}{H Hs:Hp}(f:α->Th)(sH:b9 Hs H)(hD:H D=none)(hz:us.length<=900)
  (hte:∀ (i:Nat) (h:i < us.length) (H':Hp) (Q':VK),b9 H H'->(∀ y H'',b9 H' H''->Is (nw Hs H' H'') y (f us[i])->Q' y H'')->te (some (.int (0+i)) :: r) H' Q') (fin:∀ H',b9 H H'->Is (nw Hs H H') (.ref D) (.ls (us.map f))->Fin H') :
  ∃ W:Nat->Nat->St->Hp->Prop,(∃ m,W 0 m (o :: r) (upd H D (.lst [])))/\T9 (aI 0 us.length) (G9 0) Y4 te D Fin W:=by
 refine rC (λi σ' H'=>(∃ o,σ'=o :: r)/\F0 (λH x u=>Is H x (f u)) Hs H H' D (us.take i)) ⟨⟨_,rfl⟩,F0.nil hD⟩ ?_ ?_
 ·rintro i σ' H' hi ⟨⟨o,rfl⟩,sm,kv,hd,ak⟩;refine A2 (aE (v9 (hte i hi H' _ sm λy H2 t2 iy=>⟨kv,t2 _ _ hd,?_,⟨_,rfl⟩,?_⟩)))
  ·rw[ak.1,qT];exact F1 (by omega)
  ·rw[List.take_succ_eq_append_getElem hi];exact F0.put (R:=λH x u=>Is H x (f u)) jE hD (sm.trans t2) (ak.imp λ_ _ _ z=>z.same (L7 t2)) (iy.same (kI sH sm hD hd))
 ·rintro σ' H' ⟨_,sm,kv,hd,ak⟩;rw[List.take_length] at ak;exact fin _ sm (E3 (by rw[A4 hD];exact hd) ((bX ak).same P5))
def r9 (H H':Hp)(xs:List V):Prop:=xs.Nodup/\∀ x∈xs,∃ b u,x=.ref b/\H b=none/\H' b=some u
theorem r9.nil {H H':Hp}:r9 H H' []:=⟨List.nodup_nil,λ_ h=>nomatch h⟩
theorem r9.mono {H H' H'':Hp}{xs:List V}(h:r9 H H' xs)(s:b9 H' H''):r9 H H'' xs:=⟨h.1,λx m=>by obtain⟨b,u,e,n,e'⟩:=h.2 x m;exact⟨b,u,e,n,s _ _ e'⟩⟩
theorem r9.upd {H H':Hp}{xs:List V}{D:Addr}{o:HO}(h:r9 H H' xs):r9 H (L2.upd H' D o) xs:=⟨h.1,λx m=>by
 obtain⟨b,u,e,n,e'⟩:=h.2 x m;by_cases z:b=D
 ·exact⟨b,o,e,n,by rw[z];exact f9⟩
 ·exact⟨b,u,e,n,by rw[u6 z];exact e'⟩⟩
theorem r9.one {H H':Hp}{b:Addr}{u:HO}(n:H b=none)(e:H' b=some u):r9 H H' [.ref b]:=⟨by simp,λx m=>by rw[List.mem_singleton.mp m];exact⟨b,u,rfl,n,e⟩⟩
theorem r9.app {H H1 H':Hp}{xs ys:List V}(s:b9 H H1)(s1:b9 H1 H')(h:r9 H H1 xs)(g:r9 H1 H' ys):r9 H H' (xs++ys):=by
 refine⟨List.nodup_append.mpr ⟨h.1,g.1,λa ma b mb z=>?_⟩,λx m=>?_⟩
 ·obtain⟨c,u,e,_,e1⟩:=h.2 a ma;obtain⟨d,u',e',n,_⟩:=g.2 b mb;rw[z,e'] at e;cases e;rw[n] at e1;cases e1
 ·rcases List.mem_append.mp m with m | m
  ·obtain⟨b,u,e,n,e'⟩:=h.2 x m;exact⟨b,u,e,n,s1 _ _ e'⟩
  ·obtain⟨b,u,e,n,e'⟩:=g.2 x m;exact⟨b,u,e,s.free n,e'⟩
theorem r9.first {H0 H H':Hp}{xs:List V}(h:r9 H H' xs)(s:b9 H0 H):r9 H0 H' xs:=⟨h.1,λx m=>by obtain⟨b,u,e,n,e'⟩:=h.2 x m;exact⟨b,u,e,s.free n,e'⟩⟩
theorem r9.rev {H H':Hp}{xs:List V}(h:r9 H H' xs):r9 H H' xs.reverse:=⟨List.pairwise_reverse.mpr (h.1.imp λz=>z.symm),λx m=>h.2 x (List.mem_reverse.mp m)⟩
theorem fN {Hs H H':Hp}{y:V}{ts:List Th}(i:Is (nw (tpo Hs) H H') y (.ls ts)):r9 H H' [y]:=by
 obtain⟨b,xs,rfl,e,_⟩:=i.ls;cases h:H b with
 | none=>rw[A4 h] at e;exact .one h e
 | some v=>
  rw[J9 h] at e;obtain⟨_,z,e⟩:=qH e;cases e
theorem ykr {α:Type}{D:Addr}{us:List α}{te:TE}{Fin:Hp->Prop}{o:Option V}{r:St}{H Hs:Hp}(f:α->List Th)(sH:b9 (tpo Hs) H)(hD:H D=none)(hz:us.length<=900)
  (hte:∀ (i:Nat) (h:i < us.length) (H':Hp) (Q':VK),b9 H H'->(∀ y H'',b9 H' H''->Is (nw (tpo Hs) H' H'') y (.ls (f us[i]))->Q' y H'')->te (some (.int (0+i)) :: r) H' Q') (fin:∀ H' zs,b9 H H'->H' D=some (.lst zs)->Iss (nw (tpo Hs) H H') zs (us.map λu=>.ls (f u))->r9 H H' zs->Fin H') :
  ∃ W:Nat->Nat->St->Hp->Prop,(∃ m,W 0 m (o :: r) (upd H D (.lst [])))/\T9 (aI 0 us.length) (G9 0) Y4 te D Fin W:=by
 refine rC (λi σ' H'=>(∃ o,σ'=o :: r)/\(∃ kv,H' D=some (.lst kv)/\r9 H H' kv)/\F0 (λH x u=>Is H x (Th.ls (f u))) (tpo Hs) H H' D (us.take i)) ⟨⟨_,rfl⟩,⟨_,f9,.nil⟩,F0.nil hD⟩ ?_ ?_
 ·rintro i σ' H' hi ⟨⟨o,rfl⟩,⟨kw,hw,nl⟩,sm,kv,hd,ak⟩;rw[hd] at hw;cases hw;refine A2 (aE (v9 (hte i hi H' _ sm λy H2 t2 iy=>⟨kw,t2 _ _ hd,?_,⟨_,rfl⟩,⟨_,f9,r9.upd (r9.app sm t2 nl (fN iy))⟩,?_⟩)))
  ·rw[ak.1,qT];exact F1 (by omega)
  ·rw[List.take_succ_eq_append_getElem hi];refine F0.put (R:=λH x u=>Is H x (Th.ls (f u))) jE hD (sm.trans t2) (ak.imp λ_ _ _ z=>z.same (L7 t2)) (iy.same (kI sH sm hD hd))
 ·rintro σ' H' ⟨_,⟨kw,hw,nl⟩,sm,kv,hd,ak⟩;rw[hd] at hw;cases hw;rw[List.take_length] at ak;exact fin _ _ sm hd ((bX ak).same P5) nl
def jV (ms ks:List (Nat×Cv))(vss:List (List Sn))(fr:List Fr):Th:=.ls ([u7 ms,u7 ks,bF fr]++vss.map vT)
def yph (t:Ad):Sp:=λvs H Q _=>∃ (x:V) (ms ks:List (Nat×Cv)) (vss:List (List Sn)) (fr:List Fr) (tn:Int) (Hs:Hp),vs=[x,.int vss.length,.int tn]/\b9 Hs H/\C0 t Hs x ms ks vss fr/\kL vss/\∀ y H',b9 H H'->Is (nw (tpo Hs) H H') y (jV ms ks vss fr)->(∀ p xs,y=.ref p->H' p=some (.lst xs)->r9 H H' (xs++[y]))->Q y H'
theorem K_:OF P w base T.Rn 4 (yph t):=by
 o_head (T.Rn.F,Z2);obtain⟨x,ms,ks,vss,fr,tn,Hs,rfl,sH,tu,gw,q⟩:=h;obtain⟨a,dx,m,k,v,f,rfl,ea,im,ik,iv,iF⟩:=id tu;have ea':=sH _ _ ea;refine⟨_,(f7 (p0 3 Z2.nd (j8 (b7 (aJ (pv 0) T.Jb T.QR (Xm T) (B2 hr) T.zb.B .nil K4) (b7 (aJ (pv 0) T.Jb T.QM (wL T) (B2 hr) T.zh.B .nil K4) (b7 (aJ (pv 0) T.Jb T.QQ (v_ T) (B2 hr) T.zy.B .nil K4) c6))))) (f7 (A7 (C3 S4 (pv 2) c8 (z5 _)) (j0 (p0 3 Z2.nd (Gc (j8 (b7 (aJ (pv 0) T.Jb T.QQ (v_ T) (B2 hr) T.zy.B .nil K4) (b7 (aJ (pv 0) T.Jb T.QM (wL T) (B2 hr) T.zh.B .nil K4) (b7 (aJ (pv 0) T.Jb T.QR (Xm T) (B2 hr) T.zb.B .nil K4) c6)))) (X2 W6 c8) (λ_ _=>rfl)))) B4) (j0 (r6 (u9 O1 (pv 3) (O9 (L0 (NB:=["_law_k","_law_tune"]) (cap:=[none,some 0]) rfl) rfl (kA rfl T.Jz (b7 (pv 1) c6)) (λ_ _ _ _=>O6 0) (λ_ _ _ _=>L8) (λ_ _ _ _=>(ynY (pv 1) T.Jb T.Rb (TZ T) (B2 hr) T.ze.B .nil K4 (b7 (u9 O8 (pv 0) c8) c6))))))))),?_⟩;left;refine⟨a,dx,_,rfl,ea',rfl,?_⟩;left;refine⟨_,ms,ks,vss,fr,Hs,rfl,sH,tu,λy1 H1 s1 i1=>?_⟩;left;refine⟨a,dx,_,rfl,s1 _ _ ea',rfl,?_⟩;left;refine⟨_,ms,ks,vss,fr,Hs,rfl,sH.trans s1,tu,λy2 H2 s2 i2=>?_⟩;have s12:=s1.trans s2;left;refine⟨a,dx,_,rfl,s12 _ _ ea',rfl,?_⟩;left;refine⟨_,ms,ks,vss,fr,Hs,rfl,sH.trans s12,tu,λy3 H3 s3 i3=>?_⟩;left;refine D6 λp4 h4=>?_
 have s4:=m8 h4 (.lst [y1,y2,y3]);have sT:b9 (tpo Hs) H:=(L9 Hs).trans sH;have s13:=s12.trans s3;have is4:Iss (nw (tpo Hs) H (upd H3 p4 (.lst [y1,y2,y3]))) [y1,y2,y3] [u7 ms,u7 ks,bF fr]:=A9 (i1.same (L6 (s2.trans (s3.trans s4)))) (A9 ((i2.same (cQ sT s1)).same (L6 (s3.trans s4))) (A9 ((i3.same (cQ sT s12)).same (L6 s4)) (J7 _)));have n4:r9 H (upd H3 p4 (.lst [y1,y2,y3])) [y1,y2,y3]:=(r9.app s12 s3 (r9.app s1 s2 (fN i1) (fN i2)) (fN i3)).mono s4;have e4:upd H3 p4 (.lst [y1,y2,y3]) p4=some (.lst [y1,y2,y3]):=f9;have s04:=s13.trans s4;generalize upd H3 p4 (.lst [y1,y2,y3])=H4 at s04 is4 e4 s4 n4 |-;refine A2 ?_;refine x4 (X8 (te:=cM _ _ _) (fun σ H'=>∃ p xs,σ=[some (.ref a),some (.int vss.length),some (.int tn),some (.ref p)]/\b9 H H'/\H' p=some (.lst xs)/\Iss (nw (tpo Hs) H H') xs [u7 ms,u7 ks,bF fr]/\r9 H H' xs) (λnx' hN=>?_) ?_)
 ·left;refine O4 (λ_=>?_) λ_=>?_
  ·have ea4:=s04 _ _ ea';refine D8 ?_;show iI _ _ _ _
   left;refine⟨a,dx,_,rfl,ea4,rfl,?_⟩;left;refine⟨_,ms,ks,vss,fr,Hs,rfl,sH.trans s04,tu,λz1 H5 s5 j1=>?_⟩;left;refine⟨a,dx,_,rfl,s5 _ _ ea4,rfl,?_⟩;left;refine⟨_,ms,ks,vss,fr,Hs,rfl,sH.trans (s04.trans s5),tu,λz2 H6 s6 j2=>?_⟩;have s06:=(s04.trans s5).trans s6;left;refine⟨a,dx,_,rfl,s06 _ _ ea',rfl,?_⟩;left;refine⟨_,ms,ks,vss,fr,Hs,rfl,sH.trans s06,tu,λz3 H7 s7 j3=>?_⟩;left;refine D6 λp8 h8=>?_
   have s8:=m8 h8 (.lst [z1,z2,z3]);left;refine⟨rfl,p8,_,rfl,d0.of f9,λp9 h9=>?_⟩;have s9:=m8 h9 (.lst [z3,z2,z1]);have s08:=(s06.trans s7).trans s8;refine A2 (hN _ _ ⟨p9,[z3,z2,z1],rfl,s08.trans s9,f9,?_,?_⟩)
   ·exact A9 ((j3.same (cQ sT s06)).same (L6 (s8.trans s9))) (A9 ((j2.same (cQ sT (s04.trans s5))).same (L6 (s7.trans (s8.trans s9)))) (A9 ((j1.same (cQ sT s04)).same (L6 (s6.trans (s7.trans (s8.trans s9))))) (J7 _)))
   ·exact(r9.app (s04.trans (s5.trans s6)) (s7.trans (s8.trans s9)) (r9.app (s04.trans s5) s6 ((fN j1).first s04) (fN j2)) ((fN j3).mono (s8.trans s9))).rev
  ·exact F9 (hN _ _ ⟨p4,_,rfl,s04,e4,is4,n4⟩)
 ·rintro σ H5 ⟨p,xs,rfl,s5,e5,is5,n5⟩;have ea5:=s5 _ _ ea';left;have n2:=gw.n2;refine⟨_,rfl,by omega,by omega,λD hD=>?_⟩;rw[show((vss.length:Nat):Int).toNat=vss.length from Int.toNat_natCast _];refine ykr (Hs:=Hs) (λss=>ss.map z6) (sT.trans s5) hD (by omega) (λi hi H' Q' sm q'=>?_) λH' zs sm ed iz nz=>?_
  ·left;refine⟨a,dx,_,rfl,sm _ _ ea5,rfl,?_⟩;left;refine⟨_,ms,ks,vss,fr,i,hi,Hs,by rw[show(0+(i:Int)+1)=((i+1:Nat):Int) by omega];rfl,sH.trans (s5.trans sm),tu,gw,q'⟩
  ·have l1:xs.length=3:=is5.len;have l2:=iz.len;rw[qM] at l2;left;refine⟨p,D,xs,zs,rfl,rfl,sm _ _ e5,ed,S6 (by omega),λp9 h9=>?_⟩;have s9:=m8 h9 (.lst (xs++zs));refine q _ _ ((s5.trans sm).trans s9) (E3 (by rw[A4 ((s5.trans sm).free h9)];exact f9) ?_) λp' xs' ep' ex'=>?_
   ·exact Iss.app (is5.same (L6 (sm.trans s9))) ((iz.same (cQ sT s5)).same (L6 s9))
   ·cases ep';rw[f9] at ex';cases ex';exact r9.app (s5.trans sm) s9 (r9.app s5 sm n5 nz) (.one h9 f9)
theorem ykj {ks:List Sn}{s:Sn}(g:∀ x∈ks,K3 x)(gs:K3 s)(m:Z4 ks s=true):∀ x∈X7 ks s,K3 x:=by
 cases e:M4 s&&F7 ks with
 | false=>
  rw[gO e];intro x hx;rcases List.mem_append.mp hx with hx | hx
  ·exact g x hx
  ·rw[List.mem_singleton.mp hx];exact gs
 | true=>
  have e':=e;rw[Bool.and_eq_true] at e;obtain⟨vs,a,rfl⟩:=gP e.2;cases s with
  | tones=>cases e.1
  | rest b=>
   have mm:Z4 (vs++[Sn.rest a]) (.rest b)=decide (a+b<=4608):=by
    unfold Z4;rw[e',List.getLastD_concat];rfl
   rw[mm] at m;have m:=of_decide_eq_true m;rw[iK];intro x hx;rcases List.mem_append.mp hx with hx | hx
   ·exact g x (List.mem_append_left _ hx)
   ·rw[List.mem_singleton.mp hx];have ga:K3 (.rest a):=g _ (by simp);exact⟨by have:=ga.1;have:=gs.1;omega,m⟩
theorem N_ {ss:List Sn}(g:∀ s∈ss,K3 s)(ok:gW ss=true):∀ i,i<=ss.length->∀ x∈C6 (ss.take i),K3 x
 | 0,_=>λx hx=>by rw[List.take_zero] at hx;cases hx
 | i+1,h=>by
  have hi:i < ss.length:=h;rw[List.take_succ_eq_append_getElem hi,cV];refine ykj (N_ g ok i (by omega)) (g _ (List.getElem_mem hi)) ?_;have:=List.all_eq_true.mp ok i (List.mem_range.mpr hi);rw[List.getD_eq_getElem?_getD,qG hi] at this;exact this
theorem yiO {ss:List Sn}(g:C4 ss):∀ x∈x9 ss,K3 x:=λx hx=>by
 have a:=N_ g.g g.ok ss.length (qR _);rw[List.take_length] at a;unfold x9 cB at hx;split at hx
 ·exact a x (List.dropLast_subset _ hx)
 ·exact a x hx
theorem ymL {ps:List G7}{i:Nat}(h:i < ps.length){m:G7}(l:aQ m<=aQ ps[i]):¬ iR (ps.take (i+1)++[m]++ps.drop (i+1)):=λr=>by
 have lt:(ps.take (i+1)).length=i+1:=by rw[qT];omega
 have b:i+1 < (ps.take (i+1)++[m]++ps.drop (i+1)).length:=by rw[qA,qA,lt,qS];omega
 have z:=r i b;have e1:(ps.take (i+1)++[m]++ps.drop (i+1))[i]=ps[i]:=by
  rw[List.getElem_append_left (by rw[qA,lt];omega),List.getElem_append_left (by omega),List.getElem_take]
 have e2:(ps.take (i+1)++[m]++ps.drop (i+1))[i+1]=m:=by
  rw[List.getElem_append_left (by rw[qA,lt,qS];omega),List.getElem_append_right (by omega)];simp[lt]
 rw[e1,e2] at z;omega
theorem yjz {ps:List G7}(h:¬ iR ps){n:Int}{wd:Str}{op cl:Bool}:eD (z6 (.tones ps n wd op cl))=false:=by
 cases e:eD (z6 (.tones ps n wd op cl)) with
 | false=>rfl
 | true=>exact(h (P8.mp e).1.2.2.2).elim
def Uk (K:qF):Sp:=λvs H Q _=>∃ (a tp:Addr) (ns:List Int) (N:Nat),vs=[.ref a,.ref tp]/\Dr K a tp ns H N/\N<=80000/\∀ (y:V) (ps:List G7) (H':Hp),¬ iR ps->ps.length<=4->c9 tp H H'->Dr K a tp ns H' (N+13)->Is (fr H H') y (lT ps)->Q y H'
theorem Yc:OF P w base T.zd 3 (Uk K):=by
 o_head (T.zd.F,P6);obtain⟨a,tp,ns,N,rfl,dr,hN,q⟩:=h;refine⟨_,(f7 (p0 2 P6.nd (bA dJ (o6 (wJ T) hr (b7 (pv 0) (b7 (pv 1) c6))) bP (bS c8))) (f7 (p0 3 P6.nd (o6 (K1 T) hr (b7 (pv 0) (b7 (pv 1) (b7 (z8 T7 rfl T.Ji PySem.boot_len (b7 (pv 2) c6)) c6))))) (f7 (uH (F8 j9 (pv 2) (pv 3) (λ_ _=>rfl)) (lK (n:=3) rfl (dG (U7 4 P6.nd) (dG (U7 5 P6.nd) (dG (U7 6 P6.nd) nK))))) (f7 (p0 7 P6.nd (g8 (b7 (pv 4) (b7 (u9 cU (o6 (K1 T) hr (b7 (pv 0) (b7 (pv 1) (b7 c8 c6)))) c8) (b7 (z8 (yjJ rfl) rfl T.QC tK (b7 c8 (b7 (u9 cU (pv 6) (o6 (K1 T) hr (b7 (pv 0) (b7 (pv 1) (b7 c8 c6))))) c6))) c6))))) (j0 (r6 (u9 O1 (u9 O1 (bA dJ (pv 2) bP (bS (u9 O8 (pv 3) c8))) (j8 (b7 (pv 7) c6))) (bA dJ (pv 2) (bS (u9 O8 (pv 3) c8)) bP)))))))),?_⟩;left;refine⟨a,tp,ns,N,rfl,dr,by omega,λy ps H1 gp s1 d1 iy=>?_⟩;obtain⟨l,xs,rfl,el,il⟩:=Is.ls (show Is _ y (.ls (ps.map pT)) from iy);left;refine⟨3,rfl,l,xs,rfl,d0.of (K5 _ _ _ _ el),λp hp=>?_⟩;rw[show(3:Int)=((3:Nat):Int) from rfl,n_];have s2:=m8 hp (.lst (xs.take 3));have i3:=(il.take 3).same (J6 (H:=H) s2);rw[<- List.map_take] at i3;have l1:1<=(ps.take 3).length:=by rw[qT];have:=gp.1;omega
 have l3:(ps.take 3).length<=3:=by rw[qT];omega
 have g3:∀ p∈ps.take 3,jP p:=λp hp=>gp.2.2.1 p (List.mem_of_mem_take hp)
 have e2:upd H1 p (.lst (xs.take 3)) p=some (.lst (xs.take 3)):=f9;have d2:=d1.same s2;have s12:=c9.trans s1 (b9.tt s2);have ne:p≠tp:=λz=>by
  obtain⟨u,e⟩:=d1.some;rw[<- z,hp] at e;cases e
 generalize xs.take 3=ys at i3 e2 d2 s12 |-;generalize ps.take 3=qs at i3 l1 l3 g3;generalize upd H1 p (.lst ys)=H2 at i3 e2 d2 s12 |-;have ly:ys.length=qs.length:=by rw[i3.len,qM]
 left;refine⟨p,ys,rfl,.inl (d0.of e2),?_⟩;left;refine⟨a,tp,ns,_,_,rfl,d2,by omega,by omega,by omega,λv H3 v0 v1 s3 d3=>?_⟩;left;have e3:=s3 _ _ ne e2;have i3':=i3.same (dr.fr s3);have s13:=c9.trans s12 s3;obtain⟨x,ex,ix⟩:=i3'.at' v.toNat (by rw[qM];omega);rw[List.getElem_map] at ix;obtain⟨b,rfl,eb⟩:=ix.pit;have ea:=J0 ex;rw[Int.toNat_of_nonneg v0] at ea;refine M8 (d0.of e3) ea ?_;have hv:v.toNat < qs.length:=by omega
 refine⟨b,_,rfl,m9.of (K5 _ _ _ _ eb),rfl,_,_,rfl,_,_,rfl,_,_,rfl,rfl,?_⟩;left;refine⟨a,tp,ns,_,_,rfl,d3,by omega,by decide,by decide,λv2 H4 v20 v21 s4 d4=>?_⟩;left;refine⟨a,tp,ns,_,_,rfl,d4,by omega,by decide,by decide,λv3 H5 v30 v31 s5 d5=>?_⟩;left;refine⟨_,_,rfl,?_⟩;left;have s35:=c9.trans s4 s5;have g:=g3 _ (List.getElem_mem hv);have e5:=s35 _ _ ne e3;have i5:=i3'.same (dr.fr s35);have s15:=c9.trans s13 s35;have hp5:∀ pm:Addr,H5 pm=none->pm≠tp:=λpm hm z=>by
  obtain⟨u,e⟩:=d5.some;rw[<- z,hm] at e;cases e
 refine D6 λpm hm=>?_
 have l7:aQ ⟨qs[v.toNat].st,v2 - 2,if qs[v.toNat].oc - v3 > 0 then qs[v.toNat].oc - v3 else 0⟩<=aQ qs[v.toNat]:=by
  unfold aQ;have:=g.o0;dsimp only;split<;>omega
 have e7:upd H5 pm (.tup [.int qs[v.toNat].st,.int (v2 - 2),.int (if qs[v.toNat].oc - v3 > 0 then qs[v.toNat].oc - v3 else 0)]) pm=some (.tup [.int qs[v.toNat].st,.int (v2 - 2),.int (if qs[v.toNat].oc - v3 > 0 then qs[v.toNat].oc - v3 else 0)]):=f9;have s6:=m8 hm (.tup [.int qs[v.toNat].st,.int (v2 - 2),.int (if qs[v.toNat].oc - v3 > 0 then qs[v.toNat].oc - v3 else 0)]);have od:=ymL hv l7;generalize (if qs[v.toNat].oc - v3 > 0 then qs[v.toNat].oc - v3 else 0)=oc at l7 e7 s6 od |-;have hm0:=d5.free s15 hm;generalize upd H5 pm (.tup [.int qs[v.toNat].st,.int (v2 - 2),.int oc])=H6 at e7 s6 |-;have i7:Is (fr H H6) (.ref pm) (pT ⟨qs[v.toNat].st,v2 - 2,oc⟩):=tE (by rw[L5 hm0];exact e7);have i6:=i5.same (J6 (H:=H) s6);have e6:=s6 _ _ e5;have ev:v+1=((v.toNat+1:Nat):Int):=by omega
 have lz:v.toNat+1<=ys.length:=by omega
 left;refine⟨_,rfl,v,1,rfl,rfl,v+1,rfl,p,ys,rfl,d0.of e6,λp7 h7=>?_⟩;have s7:=m8 h7 (.lst (O0 ys none (some (v+1))));left;refine D6 λp8 h8=>?_
 have s8:=m8 h8 (.lst [.ref pm]);have e70:upd H6 p7 (.lst (O0 ys none (some (v+1)))) p7=some (.lst (O0 ys none (some (v+1)))):=f9;generalize upd H6 p7 (.lst (O0 ys none (some (v+1))))=H7 at e70 s7 s8 h8 |-;rw[ev,qW ys _ lz] at e70;refine⟨p7,p8,_,_,rfl,rfl,s8 _ _ e70,f9,S6 (by rw[qT,qS];omega),λp9 h9=>?_⟩;have s9:=m8 h9 (.lst (ys.take (v.toNat+1)++[.ref pm]));have e9:upd (upd H7 p8 (.lst [.ref pm])) p9 (.lst (ys.take (v.toNat+1)++[.ref pm])) p9=some (.lst (ys.take (v.toNat+1)++[.ref pm])):=f9;have s69:=(s7.trans s8).trans s9;generalize upd (upd H7 p8 (.lst [.ref pm])) p9 (.lst (ys.take (v.toNat+1)++[.ref pm]))=H9 at e9 s69 |-;left;refine⟨_,rfl,v,1,rfl,rfl,v+1,rfl,p,ys,rfl,d0.of (s69 _ _ e6),λpa ha=>?_⟩;rw[ev,nW ys _ lz];have sa:=m8 ha (.lst (ys.drop (v.toNat+1)));refine⟨p9,pa,_,_,rfl,rfl,sa _ _ e9,f9,S6 (by rw[qA,qT,List.length_drop,qS];omega),λpb hb=>?_⟩;have sb:=m8 hb (.lst (ys.take (v.toNat+1)++[.ref pm]++ys.drop (v.toNat+1)));have s6b:=s69.trans (sa.trans sb);have s0b:=c9.trans s15 (b9.tt (s6.trans s6b));have hb0:=(d5.same (s6.trans (s69.trans sa))).free (c9.trans s15 (b9.tt (s6.trans (s69.trans sa)))) hb;refine q _ _ _ od ?_ s0b (d5.same (s6.trans s6b)) (E3 (by rw[L5 hb0];exact f9) ?_)
 ·rw[qA,qA,qT,List.length_drop,qS];omega
 ·rw[qP,qP,List.map_take,List.map_drop];exact((i6.same (J6 s6b)).take _).app (A9 (i7.same (J6 s6b)) (J7 _)) |>.app ((i6.same (J6 s6b)).drop _)
theorem Kw {α:Type}{a D:Addr}{xs:List V}{us:List α}{te:TE}{Fin:Hp->Prop}{o:Option V}{r:St}{H Hs:Hp}{g:α->Th}(f:α->Th)(sH:b9 Hs H)(ha:H a=some (.tup xs))(al:Iss Hs xs (us.map g))(hD:H D=none)(hz:us.length<=900)
  (hte:∀ x u (H':Hp) (Q':VK),u∈us->b9 H H'->Is Hs x (g u)->(∀ y H'',b9 H' H''->Is (nw Hs H' H'') y (f u)->Q' y H'')->te (some x :: r) H' Q') (fin:∀ H',b9 H H'->Is (nw Hs H H') (.ref D) (.ls (us.map f))->Fin H') :
  ∃ W:Nat->Nat->St->Hp->Prop,(∃ m,W 0 m (o :: r) (upd H D (.lst [])))/\T9 (kG K a) (G9 0) Y4 te D Fin W:=by
 have al:=T5 al;refine xP (xs:=xs) (λi σ' H'=>(∃ o,σ'=o :: r)/\F0 (λH x u=>Is H x (f u)) Hs H H' D (us.take i)) ⟨⟨_,rfl⟩,F0.nil hD⟩ (λ_ _ _ _ h=>m9.of (h.2.1 _ _ ha)) ?_ ?_
 ·rintro i x σ' H' hx ⟨⟨o,rfl⟩,sm,kv,hd,ak⟩;obtain⟨hi,rx⟩:=Z0 al hx;refine A2 (aE (v9 (hte x us[i] H' _ (List.getElem_mem hi) sm rx λy H2 t2 iy=>⟨kv,t2 _ _ hd,?_,⟨_,rfl⟩,?_⟩)))
  ·rw[ak.1,qT];exact F1 (by omega)
  ·rw[List.take_succ_eq_append_getElem hi];exact F0.put (R:=λH x u=>Is H x (f u)) jE hD (sm.trans t2) (ak.imp λ_ _ _ z=>z.same (L7 t2)) (iy.same (kI sH sm hD hd))
 ·rintro σ' H' ⟨_,sm,kv,hd,ak⟩;rw[al.1,List.take_length] at ak;exact fin _ sm (E3 (by rw[A4 hD];exact hd) ((bX ak).same P5))
theorem wU {α:Type}{a D:Addr}{xs:List V}{us:List α}{te:TE}{Fin:Hp->Prop}{o:Option V}{r:St}{H Hs:Hp}{g:α->Th}(f:α->Th)(sH:b9 Hs H)(ha:H a=some (.lst xs))(al:Iss Hs xs (us.map g))(hD:H D=none)(hz:us.length<=900)
  (hte:∀ x u (H':Hp) (Q':VK),u∈us->b9 H H'->Is Hs x (g u)->(∀ y H'',b9 H' H''->Is (nw Hs H' H'') y (f u)->Q' y H'')->te (some x :: r) H' Q') (fin:∀ H',b9 H H'->Is (nw Hs H H') (.ref D) (.ls (us.map f))->Fin H') :
  ∃ W:Nat->Nat->St->Hp->Prop,(∃ m,W 0 m (o :: r) (upd H D (.lst [])))/\T9 (V9 K a) (G9 0) Y4 te D Fin W:=by
 have al:=T5 al;refine iH (xs:=xs) (λi σ' H'=>(∃ o,σ'=o :: r)/\F0 (λH x u=>Is H x (f u)) Hs H H' D (us.take i)) ⟨⟨_,rfl⟩,F0.nil hD⟩ (λ_ _ _ _ h=>d0.of (h.2.1 _ _ ha)) ?_ ?_
 ·rintro i x σ' H' N hN hx ⟨⟨o,rfl⟩,sm,kv,hd,ak⟩;obtain⟨hi,rx⟩:=Z0 al hx;refine A2 (aE (v9 (hte x us[i] H' _ (List.getElem_mem hi) sm rx λy H2 t2 iy=>⟨kv,t2 _ _ hd,?_,hN _ _ ⟨⟨_,rfl⟩,?_⟩⟩)))
  ·rw[ak.1,qT];exact F1 (by omega)
  ·rw[List.take_succ_eq_append_getElem hi];exact F0.put (R:=λH x u=>Is H x (f u)) jE hD (sm.trans t2) (ak.imp λ_ _ _ z=>z.same (L7 t2)) (iy.same (kI sH sm hD hd))
 ·rintro σ' H' ⟨_,sm,kv,hd,ak⟩;rw[al.1,List.take_length] at ak;exact fin _ sm (E3 (by rw[A4 hD];exact hd) ((bX ak).same P5))
def fF (Hs H0 H:Hp)(p:Addr)(ts:List Th):Prop:=H0 p=none/\b9 H0 H/\∃ ks,H p=some (.lst ks)/\Iss (gp Hs H0 H p) ks ts
section
variable {Hs:Hp} {C:St->Prop}
theorem fF.up {H0 H H':Hp}{p:Addr}{ts:List Th}(h:fF Hs H0 H p ts)(s:b9 H H'):fF Hs H0 H' p ts:=by
 obtain⟨n,s0,ks,e,is⟩:=h;exact⟨n,s0.trans s,ks,s _ _ e,is.same (L7 s)⟩
theorem vL {H0 H:Hp}{p:Addr}{o:HO}(sH:b9 Hs H0)(s0:b9 H0 H)(hp:H p=none):b9 (nw Hs H0 H) (gp Hs H0 (upd H p o) p):=λb u e=>by
 have nb:b≠p:=λz=>by rw[z] at e;rw[B7 sH s0 _ _ e] at hp;cases hp
 unfold gp;cases h:H0 b with
 | none=>rw[A4 h,cD nb,u6 nb];rw[A4 h] at e;exact e
 | some v=>rw[J9 h] at e |-;exact e
theorem jj {σ:St}{H:Hp}{Q:VK}{ts:List Th}(sH:b9 Hs H){ta:TA}(a:kZ Hs C ta ts)(c:C σ)(hl:ts.length<=900)(q:∀ p H',fF Hs H H' p ts->Q (.ref p) H'):iI ta σ H Q :=
 a σ H _ sH c λxs H1 s1 i1=>⟨S6 (by rw[i1.len];omega),λp hp=>q _ _ ⟨s1.free hp,s1.trans (m8 hp _),xs,f9,i1.same (vL sH s1 hp)⟩⟩
theorem O_ {Hs':Hp}{te:TE}{i:Nat}{σ:St}{H0 H:Hp}{Q:VK}{p:Addr}{ts us:List Th}(e:σ[i]?=some (some (.ref p)))(sH:b9 Hs H0)(tb:fF Hs H0 H p ts)(hs:b9 Hs' (gp Hs H0 H p))(a:B8 Hs' C te (.ls us))(c:C σ)(hl:ts.length+us.length<=900)
  (q:∀ p' H',fF Hs H0 H' p' (ts++us)->Q (.ref p') H'):R5 lD (D7 i) te σ H Q:=by
 obtain⟨_,s0,xs,ep,is⟩:=tb;have sg:=hs.trans (V6 sH s0);refine M9 (E9 e ?_);refine G0 a sg c λw H2 s2 i2=>?_
 obtain⟨p2,zs,rfl,e2,is2⟩:=i2.ls;have l1:=is.len;have l2:=is2.len;refine⟨p,p2,xs,zs,rfl,rfl,s2 _ _ ep,B7 sg s2 _ _ e2,S6 (by omega),λp3 h3=>?_⟩;have s02:=s0.trans s2;have is2:=is2.same ((vY hs).trans ((lA sH s0 ep s2).trans P5));exact q _ _ ⟨s02.free h3,s02.trans (m8 h3 _),_,f9,Iss.app (((is.same P5).same (L6 s2)).same (vL sH s02 h3)) (is2.same (vL sH s02 h3))⟩
theorem eT {te:TE}{i:Nat}{σ:St}{H0 H:Hp}{Q:VK}{p:Addr}{ts us:List Th}(e:σ[i]?=some (some (.ref p)))(sH:b9 Hs H0)(tb:fF Hs H0 H p ts)(a:B8 Hs C te (.ls us))(c:C σ)(hl:ts.length+us.length<=900)
  (q:∀ p' H',fF Hs H0 H' p' (ts++us)->Q (.ref p') H'):R5 lD (D7 i) te σ H Q:=O_ e sH tb (bU sH) a c hl q
theorem Ga {to te:TE}{cap:List (Option Nat)}{us:List Th}{r:St}(f:Th->Th)(a:B8 Hs C to (.tp us))(hz:us.length<=900)(hc:∀ σ,C σ->∃ o,bN cap σ=o :: r)
  (b:∀ Hs' u,u∈us->b9 Hs Hs'->B8 Hs' (fun σ=>∃ x,σ=some x :: r/\Is Hs' x u) te (f u)):B8 Hs C (dQ (pZ K to) cap (G9 0) Y4 te) (.ls (us.map f)):=fun σ H Q sH c q=>by
 refine Zh ?_;refine G0 a sH c λx H1 s1 i1=>?_
 obtain⟨p,xs,rfl,ep,is⟩:=i1.tp;have sN:b9 (nw Hs H H1) H1:=B7 sH s1;refine⟨p,rfl,⟨_,m9.of (sN _ _ ep)⟩,λD hD=>?_⟩;obtain⟨o,eo⟩:=hc σ c;rw[eo];refine Kw (Hs:=nw Hs H H1) (us:=us) (g:=λu=>u) f sN (sN _ _ ep) (by rw[List.map_id'];exact is) hD hz (λx u H' Q' hu sm ix q'=>b _ u hu (Y0 sH) _ _ _ (sN.trans sm) ⟨x,rfl,ix⟩ q') λH' sm iD=>q _ _ (s1.trans sm) (iD.same (wE s1 sm))
theorem yun {to te:TE}{cap:List (Option Nat)}{us:List Th}{r:St}(f:Th->Th)(a:B8 Hs C to (.ls us))(hz:us.length<=900)(hc:∀ σ,C σ->∃ o,bN cap σ=o :: r)
  (b:∀ Hs' u,u∈us->b9 Hs Hs'->B8 Hs' (fun σ=>∃ x,σ=some x :: r/\Is Hs' x u) te (f u)):B8 Hs C (dQ (lW K to) cap (G9 0) Y4 te) (.ls (us.map f)):=fun σ H Q sH c q=>by
 refine R_ ?_;refine G0 a sH c λx H1 s1 i1=>?_
 obtain⟨p,xs,rfl,ep,is⟩:=i1.ls;have sN:b9 (nw Hs H H1) H1:=B7 sH s1;refine⟨p,rfl,⟨_,d0.of (sN _ _ ep)⟩,λD hD=>?_⟩;obtain⟨o,eo⟩:=hc σ c;rw[eo];refine wU (Hs:=nw Hs H H1) (us:=us) (g:=λu=>u) f sN (sN _ _ ep) (by rw[List.map_id'];exact is) hD hz (λx u H' Q' hu sm ix q'=>b _ u hu (Y0 sH) _ _ _ (sN.trans sm) ⟨x,rfl,ix⟩ q') λH' sm iD=>q _ _ (s1.trans sm) (iD.same (wE s1 sm))
theorem ysM {n:Nat}{te:TE}{cap:List (Option Nat)}{r:St}(f:Int->Th)(hz:n<=900)(hc:∀ σ,C σ->∃ o,bN cap σ=o :: r)
  (b:∀ i:Int,B8 Hs (fun σ=>σ=some (.int i) :: r) te (f i)):B8 Hs C (dQ (lJ (O3 (tC (.int n)) Z8)) cap (G9 0) Y4 te) (.ls ((List.range n).map λi:Nat=>f (0+(i:Int)))):=fun σ H Q sH c q=>by
 refine Vc (E8 (Q5 (M0 ⟨_,rfl,by omega,by omega,λD hD=>?_⟩)));obtain⟨o,eo⟩:=hc σ c;rw[eo,Int.toNat_natCast];have:=ymb (Hs:=Hs) (us:=List.range n) (te:=te) (o:=o) (r:=r) (D:=D) (λi:Nat=>f (0+(i:Int))) sH hD (by rw[List.length_range];exact hz) (λi hi H' Q' sm q'=>b _ _ _ _ (sH.trans sm) rfl (by rw[List.getElem_range] at q';exact q')) (Fin:=λH'=>Q (.ref D) H') λH' sm iD=>q _ _ sm iD
 rw[List.length_range] at this;exact this
theorem wK {H:Hp}{xs:List V}{ts:List Th}(h:Iss H xs ts):∀ k,Iss H (List.replicate k xs).flatten (List.replicate k ts).flatten
 | 0=>J7 _
 | k+1=>by
  rw[List.replicate_succ,List.replicate_succ,List.flatten_cons,List.flatten_cons];exact Iss.app h (wK h k)
theorem lv_rep {te:TE}{ts:List Th}(k:Nat)(a:B8 Hs C te (.ls ts))(h:ts.length*k<=900)(hk:k<=900):B8 Hs C (R5 vU te (tC (.int k))) (.ls (List.replicate k ts).flatten):=fun σ H Q sH c q=>by
 refine M9 (G0 a sH c λx H1 s1 i1=>Q5 ?_);obtain⟨p,xs,rfl,ep,is⟩:=i1.ls;have l:=is.len;refine⟨p,k,xs,rfl,rfl,B7 sH s1 _ _ ep,by omega,by omega,S6 (by rw[Int.toNat_natCast,l];omega),λp2 h2=>?_⟩;rw[Int.toNat_natCast];have s2:=m8 h2 (.lst (List.replicate k xs).flatten);exact q _ _ (s1.trans s2) (E3 (by rw[A4 (s1.free h2)];exact f9) ((wK is k).same (L6 s2)))
theorem lv_tupOf {te:TE}{ts:List Th}{r:List V->Hp->VK->Prop}(a:B8 Hs C te (.ls ts))(hr:r=λxs H Q=>∃ p ys,xs=[.ref p]/\((d0 K H p ys/\∀ l,H l=none->Q (.ref l) (upd H l (.tup ys)))∨(m9 K H p ys/\Q (.ref p) H))):B8 Hs C (nQ r (O3 te Z8)) (.tp ts):=fun σ H Q sH c q=>by
 refine j_ (E8 (G0 a sH c λx H1 s1 i1=>M0 ?_));obtain⟨p,xs,rfl,ep,is⟩:=i1.ls;rw[hr];refine⟨p,xs,rfl,.inl ⟨d0.of (B7 sH s1 _ _ ep),λp2 h2=>?_⟩⟩;have s2:=m8 h2 (.tup xs);exact q _ _ (s1.trans s2) (aK (by rw[A4 (s1.free h2)];exact f9) (is.same (L6 s2)))
theorem lv_cat {ta tb:TE}{ts us:List Th}(a:B8 Hs C ta (.ls ts))(b:B8 Hs C tb (.ls us))(h:ts.length+us.length<=900):B8 Hs C (R5 lD ta tb) (.ls (ts++us)):=fun σ H Q sH c q=>by
 refine M9 (G0 a sH c λx H1 s1 i1=>G0 b (sH.trans s1) c λy H2 s2 i2=>?_);obtain⟨p,xs,rfl,ep,is⟩:=i1.ls;obtain⟨p2,ys,rfl,ep2,is2⟩:=i2.ls;have l:=is.len;have l2:=is2.len;refine⟨p,p2,xs,ys,rfl,rfl,s2 _ _ (B7 sH s1 _ _ ep),B7 (sH.trans s1) s2 _ _ ep2,S6 (by omega),λp3 h3=>?_⟩;have s3:=m8 h3 (.lst (xs++ys));exact q _ _ ((s1.trans s2).trans s3) (E3 (by rw[A4 ((s1.trans s2).free h3)];exact f9) (Iss.app (is.same (L6 (s2.trans s3))) ((is2.same (cQ sH s1)).same (L6 s3))))
theorem lv_catT {ta tb:TE}{ts us:List Th}(a:B8 Hs C ta (.tp ts))(b:B8 Hs C tb (.tp us))(h:ts.length+us.length<=900)(h1:0 < ts.length)(h2:0 < us.length):B8 Hs C (R5 (wB K) ta tb) (.tp (ts++us)):=fun σ H Q sH c q=>by
 refine M9 (G0 a sH c λx H1 s1 i1=>G0 b (sH.trans s1) c λy H2 s2 i2=>?_);obtain⟨p,xs,rfl,ep,is⟩:=i1.tp;obtain⟨p2,ys,rfl,ep2,is2⟩:=i2.tp;have l:=is.len;have l2:=is2.len;refine⟨p,p2,xs,ys,rfl,rfl,m9.of (s2 _ _ (B7 sH s1 _ _ ep)),m9.of (B7 (sH.trans s1) s2 _ _ ep2),(λz=>by rw[z] at l;rw[<- l] at h1;cases h1),S6 (by omega),(λz=>by rw[z] at l2;rw[<- l2] at h2;cases h2),λ_ p3 h3=>?_⟩;have s3:=m8 h3 (.tup (xs++ys));exact q _ _ ((s1.trans s2).trans s3) (aK (by rw[A4 ((s1.trans s2).free h3)];exact f9) (Iss.app (is.same (L6 (s2.trans s3))) ((is2.same (cQ sH s1)).same (L6 s3))))
theorem lv_slT {te:TE}{ts:List Th}(k:Nat)(a:B8 Hs C te (.tp ts))(h:k < ts.length):B8 Hs C (jH (wF K) te mR (oP (tC (.int k)))) (.tp (ts.take k)):=fun σ H Q sH c q=>by
 refine tD (G0 a sH c λx H1 s1 i1=>?_);obtain⟨p,xs,rfl,ep,is⟩:=i1.tp;have l:=is.len;refine⟨k,rfl,p,xs,rfl,m9.of (B7 sH s1 _ _ ep),λz=>?_,λp2 h2=>?_⟩
 ·rw[HT.sIx_nat] at z;omega
 ·rw[qW xs k (by omega)];have s2:=m8 h2 (.tup (xs.take k));exact q _ _ (s1.trans s2) (aK (by rw[A4 (s1.free h2)];exact f9) ((is.take k).same (L6 s2)))
theorem lv_slD {te:TE}{ts:List Th}(k:Nat)(a:B8 Hs C te (.tp ts))(h:k < ts.length)(h0:0 < k):B8 Hs C (jH (wF K) te (oP (tC (.int k))) mR) (.tp (ts.drop k)):=fun σ H Q sH c q=>by
 refine tD (G0 a sH c λx H1 s1 i1=>?_);obtain⟨p,xs,rfl,ep,is⟩:=i1.tp;have l:=is.len;refine⟨k,rfl,p,xs,rfl,m9.of (B7 sH s1 _ _ ep),λz=>?_,λp2 h2=>?_⟩
 ·have z:=z.1;rw[HT.sIx_nat] at z;omega
 ·rw[nW xs k (by omega)];have s2:=m8 h2 (.tup (xs.drop k));exact q _ _ (s1.trans s2) (aK (by rw[A4 (s1.free h2)];exact f9) ((is.drop k).same (L6 s2)))
end
def Q8:Th:=pT ⟨0,0,4⟩
def tU (l n w o c:Th):Th:=.tp [sT "tones",l,n,w,o,c]
def S7 (l n w:Th):Th:=tU l n w (bT false) (bT false)
def rB:List Th:=[.im .non,nT 5,sT "rest",.ls [sT "rest",nT 24],.tp [sT "rest"],.tp [sT "rest",nT 1],.tp [sT "rest",nT 4609],.tp [sT "rest",.im .non],.tp [sT "rest",bT true],.tp []]
def rD:List Th:=[.tp [sT "rest",sT "24"],.tp [sT "rest",nT 24,nT 0],.tp [sT "Rest",nT 24],.tp [sT "tones",.ls [Q8],nT 24,sT "",bT false],.tp [.ls [sT "rest"],nT 24],.dk]
def qO:List Th:=[S7 (.tp [Q8]) (nT 24) (sT ""),S7 (.ls []) (nT 24) (sT ""),.tp [.dk,nT 24],.tp [sT "",nT 24]]
def dU:List Th:=[nT 1,nT 385,bT true,.im .non,sT "24",.ls [nT 24]]
def bI:List Th:=[.tp [nT 0,nT 3,nT 4],.tp [nT 7,nT 0,nT 4],.tp [nT 0,nT 0,nT 9],.tp [nT 0,nT 0],.ls [nT 0,nT 0,nT 4],.tp [bT true,nT 0,nT 4],.tp [nT 0,nT 0,sT "4"],sT "c4",.im .non,.tp [nT 0,nT (-3),nT 4]]
def pH:List Th:=[S7 (.ls [Q8,.tp [nT 0,nT 1,nT 4]]) (nT 24) (sT ""),S7 (.ls [.tp [nT 1,nT 0,nT 4],Q8]) (nT 24) (sT "")]
def pG:List Th:=[S7 (.ls ((List.range 5).map λi:Nat=>.tp [nT (0+(i:Int)),nT 0,nT 4])) (nT 24) (sT "")]
def N9:List Th:=[sT "a b",sT "a1",sT "abcdefghijklm",nT 5,.ls [sT "la"],.im .non,sT "(",sT " "]
def uC:List Th:=[tU (.ls [Q8]) (nT 24) (sT "") (nT 1) (bT false),tU (.ls [Q8]) (nT 24) (sT "") (bT false) (.im .non)]
def uQ:List Th:=rB++rD++qO++(dU.map λu=>S7 (.ls [Q8]) u (sT ""))++(bI.map λu=>S7 (.ls [u]) (nT 24) (sT ""))++pH++pG++(N9.map λu=>S7 (.ls [Q8]) (nT 24) u)++uC
theorem Vn:∀ tr∈uQ,eD tr=false/\A1 tr=true:=by ac_rfl
def yqd:Sp:=λvs H Q _=>∃ n:Int,vs=[.int n]/\0<=n/\∀ v tr H',tr∈uQ->b9 H H'->Is (fr H H') v tr->Q v H'
theorem Gi:OF P w base T.zj 1 yqd:=by
 o_head (T.zj.F,F5);obtain⟨n,rfl,n0,q⟩:=h;refine⟨_,(f7 (rL (i:=1) F5.nd rfl (Or.inr rfl) (g8 (b7 c8 (b7 c8 (b7 c8 c6))))) (f7 (p0 2 F5.nd (j8 (b7 V3 (b7 c8 (b7 n9 (b7 (j8 (b7 n9 (b7 c8 c6))) (b7 (g8 (b7 n9 c6)) (b7 (g8 (b7 n9 (b7 c8 c6))) (b7 (g8 (b7 n9 (b7 c8 c6))) (b7 (g8 (b7 n9 (b7 V3 c6))) (b7 (g8 (b7 n9 (b7 v8 c6))) (b7 (g8 c6) c6)))))))))))) (f7 (p0 2 F5.nd (u9 O1 (pv 2) (j8 (b7 (g8 (b7 n9 (b7 n9 c6))) (b7 (g8 (b7 n9 (b7 c8 (b7 c8 c6)))) (b7 (g8 (b7 n9 (b7 c8 c6))) (b7 (g8 (b7 n9 (b7 (j8 (b7 (pv 1) c6)) (b7 c8 (b7 n9 (b7 v8 c6)))))) (b7 (g8 (b7 (j8 (b7 n9 c6)) (b7 c8 c6))) (b7 vC c6))))))))) (f7 (p0 2 F5.nd (u9 O1 (pv 2) (j8 (b7 (g8 (b7 n9 (b7 (g8 (b7 (pv 1) c6)) (b7 c8 (b7 n9 (b7 v8 (b7 v8 c6))))))) (b7 (g8 (b7 n9 (b7 (j8 c6) (b7 c8 (b7 n9 (b7 v8 (b7 v8 c6))))))) (b7 (g8 (b7 vC (b7 c8 c6))) (b7 (g8 (b7 n9 (b7 c8 c6))) c6))))))) (f7 (p0 2 F5.nd (u9 O1 (pv 2) (O9 (L0 (NB:=["_law_size","_law_one"]) (cap:=[none,some 1]) rfl) rfl (xF (g8 (b7 c8 (b7 c8 (b7 v8 (b7 V3 (b7 n9 (b7 (j8 (b7 c8 c6)) c6)))))))) (λ_ _ _ _=>O6 0) (λ_ _ _ _=>L8) (λ_ _ _ _=>(g8 (b7 n9 (b7 (j8 (b7 (pv 1) c6)) (b7 (pv 0) (b7 n9 (b7 v8 (b7 v8 c6))))))))))) (f7 (p0 3 F5.nd (j8 (b7 (g8 (b7 c8 (b7 c8 (b7 c8 c6)))) (b7 (g8 (b7 c8 (b7 c8 (b7 c8 c6)))) (b7 (g8 (b7 c8 (b7 c8 (b7 c8 c6)))) (b7 (g8 (b7 c8 (b7 c8 c6))) (b7 (j8 (b7 c8 (b7 c8 (b7 c8 c6)))) (b7 (g8 (b7 v8 (b7 c8 (b7 c8 c6)))) (b7 (g8 (b7 c8 (b7 c8 (b7 n9 c6)))) (b7 n9 (b7 V3 (b7 (g8 (b7 c8 (b7 (X2 W6 c8) (b7 c8 c6)))) c6)))))))))))) (f7 (p0 2 F5.nd (u9 O1 (pv 2) (O9 (L0 (NB:=["_law_other"]) (cap:=[none]) rfl) rfl (K2 (pv 3)) (λ_ _ _ _=>O6 0) (λ_ _ _ _=>L8) (λ_ _ _ _=>(g8 (b7 n9 (b7 (j8 (b7 (pv 0) c6)) (b7 c8 (b7 n9 (b7 v8 (b7 v8 c6))))))))))) (f7 (p0 2 F5.nd (u9 O1 (pv 2) (j8 (b7 (g8 (b7 n9 (b7 (j8 (b7 (pv 1) (b7 (g8 (b7 c8 (b7 c8 (b7 c8 c6)))) c6))) (b7 c8 (b7 n9 (b7 v8 (b7 v8 c6))))))) (b7 (g8 (b7 n9 (b7 (j8 (b7 (g8 (b7 c8 (b7 c8 (b7 c8 c6)))) (b7 (pv 1) c6))) (b7 c8 (b7 n9 (b7 v8 (b7 v8 c6))))))) c6))))) (f7 (p0 2 F5.nd (u9 O1 (pv 2) (j8 (b7 (g8 (b7 n9 (b7 (O9 (L0 (NB:=["_law_k"]) (cap:=[none]) rfl) rfl (kA rfl T.Jz (b7 c8 c6)) (λ_ _ _ _=>O6 0) (λ_ _ _ _=>L8) (λ_ _ _ _=>(g8 (b7 (pv 0) (b7 c8 (b7 c8 c6)))))) (b7 c8 (b7 n9 (b7 v8 (b7 v8 c6))))))) c6)))) (f7 (Z6 PassesOwn.never rfl (K2 (j8 (b7 n9 (b7 n9 (b7 n9 (b7 c8 (b7 (j8 (b7 n9 c6)) (b7 V3 (b7 n9 (b7 n9 c6)))))))))) (U7 4 F5.nd) (j0 (E7 (U1 (pv 2) (b7 (g8 (b7 n9 (b7 (j8 (b7 (pv 1) c6)) (b7 c8 (b7 (pv 4) (b7 v8 (b7 v8 c6))))))) c6))))) (f7 (p0 2 F5.nd (u9 O1 (pv 2) (j8 (b7 (g8 (b7 n9 (b7 (j8 (b7 (pv 1) c6)) (b7 c8 (b7 n9 (b7 c8 (b7 v8 c6))))))) (b7 (g8 (b7 n9 (b7 (j8 (b7 (pv 1) c6)) (b7 c8 (b7 n9 (b7 v8 (b7 V3 c6))))))) c6))))) (j0 (r6 (F8 j9 (pv 2) (u9 dA (pv 0) (z8 T7 rfl T.Ji PySem.boot_len (b7 (pv 2) c6))) (λ_ _=>rfl))))))))))))))),?_⟩;refine x4 (D8 ?_);refine(show bK _ Q8 from ?_) _ _ _ λw1 H1 s1 i1=>?_
 ·exfalso
 refine A2 ?_;dsimp only;have sH:=K5 H H1;have v1:B8 (fr H H1) (fun σ=>σ[1]?=some (some w1)) (D7 1) Q8:=V0 fun σ c=>⟨w1,c,i1⟩
 refine x4 (D8 ?_);refine jj (C:=fun σ=>σ[1]?=some (some w1)) (ts:=rB) sH ?_ rfl (by decide) λp H2 t2=>?_
 ·exfalso
 refine A2 ?_;dsimp only;refine x4 (D8 ?_);refine eT (C:=fun σ=>σ[1]?=some (some w1)) (us:=rD) rfl sH t2 ?_ rfl (by decide) λp H2 t2=>?_
 ·exfalso
 refine A2 ?_;dsimp only;refine x4 (D8 ?_);refine eT (C:=fun σ=>σ[1]?=some (some w1)) (us:=qO) rfl sH t2 ?_ rfl (by decide) λp H2 t2=>?_
 ·exfalso
 refine A2 ?_;dsimp only;refine x4 (D8 ?_);refine eT (C:=fun σ=>σ[1]?=some (some w1)) (us:=dU.map λu=>S7 (.ls [Q8]) u (sT "")) rfl sH t2 ?_ rfl (by decide) λp H2 t2=>?_
 ·refine Ga (r:=[some w1]) (λu=>S7 (.ls [Q8]) u (sT "")) (us:=dU) ?_ (by decide) (fun σ c=>⟨none,by unfold bN;simp only[List.map_cons,List.map_nil,Option.bind_some,c];rfl⟩) λHs' u hu sh=>?_
  ·exfalso
  ·have v1:B8 Hs' (fun σ=>∃ x,σ=[some x,some w1]/\Is Hs' x u) (D7 1) Q8:=V0 fun σ c=>by obtain⟨x,rfl,_⟩:=c;exact⟨w1,rfl,i1.same sh⟩
   have v0:B8 Hs' (fun σ=>∃ x,σ=[some x,some w1]/\Is Hs' x u) (D7 0) u:=V0 fun σ c=>by obtain⟨x,rfl,ix⟩:=c;exact⟨x,rfl,ix⟩
   exfalso
 refine A2 ?_;dsimp only;have ts5:(rB++rD++qO++List.map (λu=>S7 (Th.ls [Q8]) u (sT "")) dU).length=26:=by decide
 generalize hts:rB++rD++qO++List.map (λu=>S7 (Th.ls [Q8]) u (sT "")) dU=ts at t2 ts5;refine x4 (D8 ?_);have s2:=t2.2.1;refine G0 (C:=fun σ=>σ[1]?=some (some w1)) (tr:=.ls bI) ?_ (sH.trans s2) rfl λw3 H3 s3 i3=>?_
 ·exfalso
 have i3:=i3.same (by obtain⟨n,s,ks,e,_⟩:=t2;exact kI sH s n e);have t3:=t2.up s3;refine A2 ?_;dsimp only;refine x4 (D8 ?_);refine O_ (C:=fun σ=>σ[3]?=some (some w3)) (us:=bI.map λu=>S7 (.ls [u]) (nT 24) (sT "")) rfl sH t3 (b9.refl _) ?_ rfl (by rw[ts5];decide) λp H2 t2=>?_
 ·refine yun (r:=[]) (λu=>S7 (.ls [u]) (nT 24) (sT "")) (us:=bI) (V0 fun σ c=>⟨w3,c,i3⟩) (by decide) (fun σ c=>⟨none,rfl⟩) λHs' u hu sh=>?_
  have v0:B8 Hs' (fun σ=>∃ x,σ=[some x]/\Is Hs' x u) (D7 0) u:=V0 fun σ c=>by obtain⟨x,rfl,ix⟩:=c;exact⟨x,rfl,ix⟩
  exfalso
 refine A2 ?_;dsimp only;refine x4 (D8 ?_);refine eT (C:=fun σ=>σ[1]?=some (some w1)) (us:=pH) rfl sH t2 ?_ rfl (by rw[qA,ts5];decide) λp H2 t2=>?_
 ·exfalso
 refine A2 ?_;dsimp only;refine x4 (D8 ?_);refine eT (C:=fun σ=>σ[1]?=some (some w1)) (us:=pG) rfl sH t2 ?_ rfl (by rw[qA,qA,ts5];decide) λp H2 t2=>?_
 ·have vc:B8 (fr H H1) (fun σ=>σ[1]?=some (some w1)) _ (.ls ((List.range 5).map λi:Nat=>.tp [nT (0+(i:Int)),nT 0,nT 4])):=ysM (n:=5) (r:=[]) (cap:=[none]) (te:=hV (O3 (D7 0) (O3 (tC (.int 0)) (O3 (tC (.int 4)) Z8)))) (λi=>.tp [nT i,nT 0,nT 4]) (by decide) (fun σ c=>⟨none,rfl⟩) λi=>lv_t (lv_s (V0 fun σ c=>⟨.int i,by rw[c];rfl,M5 _ _⟩) (lv_s (lv_c rfl) (lv_s (lv_c rfl) lv_n))) (by show 3<=1000;decide)
  refine lv_l ?_ (by decide);refine lv_s ?_ lv_n;refine lv_t (lv_s (lv_c rfl) (lv_s vc ?_)) (by show 6<=1000;decide);exfalso
 refine A2 ?_;dsimp only;have us5:(ts++List.map (λu=>S7 (Th.ls [u]) (nT 24) (sT "")) bI++pH++pG).length=39:=by rw[qA,qA,qA,ts5];decide
 generalize hus:ts++List.map (λu=>S7 (Th.ls [u]) (nT 24) (sT "")) bI++pH++pG=us at t2 us5;refine x4 (xK ?_);have s2:=t2.2.1;refine G0 (C:=fun σ=>σ[1]?=some (some w1)) (tr:=.ls N9) ?_ (sH.trans s2) rfl λw8 H8 s8 i8=>?_
 ·exfalso
 have i8:=i8.same (by obtain⟨n,s,ks,e,_⟩:=t2;exact kI sH s n e);have t8:=t2.up s8;obtain⟨q8,xs8,rfl,e8,is8⟩:=i8.ls;have l8:xs8.length=8:=is8.len;refine⟨q8,rfl,⟨_,d0.of (V6 sH t8.2.1 _ _ e8)⟩,cJ (xs:=xs8) (λi σ H'=>(∃ o,σ=[some (.int n),some w1,some (.ref p),some w3,o])/\fF (fr H H1) H1 H' p (us++(N9.take i).map λu=>S7 (.ls [Q8]) (nT 24) u)/\gp (fr H H1) H1 H' p q8=some (.lst xs8)/\Iss (gp (fr H H1) H1 H' p) xs8 N9) ⟨⟨_,rfl⟩,by rw[List.take_zero,List.map_nil,List.append_nil];exact t8,e8,is8⟩ (λi σ H' _ h=>d0.of (V6 sH h.2.1.2.1 _ _ h.2.2.1)) ?_ ?_⟩
 ·rintro i x σ H' N hN hx ⟨⟨o,rfl⟩,⟨n0,sm,ks,ek,ik⟩,eq8,iq8⟩;have hi:i < N9.length:=by have:=(qE hx).1;rw[l8] at this;exact this
  obtain⟨x',e,ix⟩:=iq8.at' i hi;rw[hx] at e;cases e;have lk:=ik.len;rw[qA,us5,qM,qT,show N9.length=8 from rfl] at lk;left;refine⟨.inl ⟨rfl,_,d0.of ek⟩,?_⟩;refine E8 ?_;have v1:B8 (gp (fr H H1) H1 H' p) (fun σ=>σ[1]?=some (some w1)/\σ[4]?=some (some x)) (D7 1) Q8:=V0 fun σ c=>⟨w1,c.1,i1.same (bU sH)⟩
  have v0:B8 (gp (fr H H1) H1 H' p) (fun σ=>σ[1]?=some (some w1)/\σ[4]?=some (some x)) (D7 4) N9[i]:=V0 fun σ c=>⟨x,c.2,ix⟩
  refine G0 (C:=fun σ=>σ[1]?=some (some w1)/\σ[4]?=some (some x)) (tr:=S7 (.ls [Q8]) (nT 24) N9[i]) ?_ (V6 (D:=p) sH sm) ⟨rfl,rfl⟩ λy H3 s3 i3=>?_
  ·exfalso
  left;have i3:=(i3.same (lA sH sm ek s3)).same (dO (o:=.lst (ks++[y])));have g1:b9 (gp (fr H H1) H1 H' p) (gp (fr H H1) H1 (upd H3 p (.lst (ks++[y]))) p):=(L7 s3).trans dO;refine Q9 (s3 _ _ ek) (F1 (by omega)) (hN _ _ ⟨⟨_,rfl⟩,⟨n0,O5 n0 (sm.trans s3),_,f9,?_⟩,g1 _ _ eq8,iq8.same g1⟩);rw[List.take_succ_eq_append_getElem hi,qP,<- List.append_assoc];exact(ik.same g1).app (A9 i3 (J7 _))
 ·rintro σ H' ⟨⟨o,rfl⟩,t9,_,_⟩;rw[l8,show N9.take 8=N9 from rfl] at t9;have l9:(us++N9.map λu=>S7 (.ls [Q8]) (nT 24) u).length=47:=by rw[qA,us5];decide
  dsimp only;refine x4 (D8 ?_);refine eT (C:=fun σ=>σ[1]?=some (some w1)) (us:=uC) rfl sH t9 ?_ rfl (by rw[l9];decide) λp H2 t2=>?_
  ·exfalso
  refine A2 ?_;have es:us++N9.map (λu=>S7 (.ls [Q8]) (nT 24) u)++uC=uQ:=by rw[<- hus,<- hts];rfl
  rw[es] at t2;obtain⟨n0,s0,ks,ek,ik⟩:=t2;have lk:ks.length=49:=ik.len;dsimp only;left;refine⟨p,ks,rfl,.inl (d0.of ek),?_⟩;rw[lk];left;have m0:0<=n%((49:Nat):Int):=Int.emod_nonneg _ (by decide);have m1:n%((49:Nat):Int) < 49:=Int.emod_lt_of_pos _ (by decide);obtain⟨v,ev,iv⟩:=ik.at' (n%((49:Nat):Int)).toNat (by show _ < 49;omega);have ea:=J0 ev;rw[Int.toNat_of_nonneg m0] at ea;exact M8 (d0.of ek) ea (q _ _ _ (List.getElem_mem _) (s1.trans s0) ((iv.same P5).same (g_ s1 s0)))
def Ge:Sp:=λvs H Q _=>∃ n:Int,vs=[.int n]/\Q (.bl true) H
theorem uY:OF P w base T.zM 1 Ge:=by
 refine T.zM.F.ok yti (λvs H Q E h=>?_) (λ_ _ _ s H vs Q E hr h=>?_)
 ·obtain⟨n,rfl,_⟩:=h;rfl
 obtain⟨n,rfl,q⟩:=h;have hu:=eR hr;refine⟨_,(j0 (r6 (N0 (z8 Q7 rfl T.Ja F2 (b7 (pv 0) (b7 (P4 rfl T.QJ Xd) c6))) (N6 (kW (z8 Q7 rfl T.Ja F2 (b7 (pv 0) (b7 (P4 rfl T.Qn rY) c6)))))))),?_⟩;left;refine U9 (.int n) (n6 (v9 ?_));left;exact U9 (.int n) (n6 q)
theorem uW (m:Mt):G6 (E2 m)=true/\S8 (E2 m)<=2:=by
 have h:G6 (.tp (m.gs.map nT))=true/\S8 (.tp (m.gs.map nT))<=1:=⟨iN λu hu=>by obtain⟨n,_,rfl⟩:=List.mem_map.mp hu;rfl,eW (k:=0) (gS λu hu=>by obtain⟨n,_,rfl⟩:=List.mem_map.mp hu;exact A6)⟩;refine⟨?_,eW (k:=1) (K8 A6 (K8 A6 (K8 h.2 eL)))⟩;show(true&&(true&&(G6 (.tp (m.gs.map nT))&&true)))=true
 rw[h.1];rfl
theorem Ku (c:Cv):G6 (J8 c)=true/\S8 (J8 c)<=2:=by
 cases c with
 | m m=>exact uW m
 | k k=>exact⟨rfl,A6⟩
theorem yL (c:Nat×Cv):G6 (L1 c)=true/\S8 (L1 c)<=3:=by
 refine⟨?_,eW (k:=2) (K8 A6 (K8 (Ku c.2).2 eL))⟩;show(true&&(G6 (J8 c.2)&&true))=true
 rw[(Ku c.2).1];rfl
theorem Gx (b:Int)(f:Fr):G6 (W0 b f)=true/\S8 (W0 b f)<=3:=by
 refine⟨?_,eW (k:=2) (K8 A6 (K8 (uW f.1).2 (K8 A6 eL)))⟩;show(true&&(G6 (E2 f.1)&&(true&&true)))=true
 rw[(uW f.1).1];rfl
def W8 (ms ks:List (Nat×Cv))(vss:List (List Sn))(fr:List Fr):List (List Th):=[ms.map L1,ks.map L1,T0 fr fr.length]++vss.map λss=>ss.map z6
theorem yT (ms ks:List (Nat×Cv))(vss:List (List Sn))(fr:List Fr):jV ms ks vss fr=.ls ((W8 ms ks vss fr).map Th.ls):=by
 unfold jV W8;rw[qP,List.map_map];rfl
theorem tP {ms ks:List (Nat×Cv)}{vss:List (List Sn)}{fr:List Fr}{us:List Th}(h:us∈W8 ms ks vss fr):∀ u∈us,(∃ ts,u=.tp ts)/\G6 u=true/\S8 u<=3:=λu hu=>by
 have hc:∀ c:Nat×Cv,(∃ ts,L1 c=.tp ts)/\G6 (L1 c)=true/\S8 (L1 c)<=3:=λc=>⟨⟨_,rfl⟩,yL c⟩
 rcases List.mem_append.mp h with h | h
 ·rcases List.mem_cons.mp h with rfl | h
  ·obtain⟨c,_,rfl⟩:=List.mem_map.mp hu;exact hc c
  rcases List.mem_cons.mp h with rfl | h
  ·obtain⟨c,_,rfl⟩:=List.mem_map.mp hu;exact hc c
  rcases List.mem_cons.mp h with rfl | h
  ·obtain⟨c,_,rfl⟩:=List.mem_map.mp hu;exact⟨⟨_,rfl⟩,Gx _ _⟩
  ·cases h
 ·obtain⟨ss,_,rfl⟩:=List.mem_map.mp h;obtain⟨s,_,rfl⟩:=List.mem_map.mp hu;exact⟨by cases s<;>exact⟨_,rfl⟩,cF s⟩
theorem ymx (ms ks:List (Nat×Cv))(vss:List (List Sn))(fr:List Fr):bL (jV ms ks vss fr):=by
 rw[yT];have h:∀ us∈(W8 ms ks vss fr),G6 (.ls us)=true/\S8 (.ls us)<=4:=λus hs=>⟨iN λu hu=>(tP hs u hu).2.1,iY (k:=3) (gS λu hu=>(tP hs u hu).2.2)⟩
 exact⟨iN λu hu=>by obtain⟨us,hs,rfl⟩:=List.mem_map.mp hu;exact(h us hs).1,Nat.le_trans (iY (k:=4) (gS λu hu=>by obtain⟨us,hs,rfl⟩:=List.mem_map.mp hu;exact(h us hs).2)) (by decide)⟩
theorem ymB {ms ks:List (Nat×Cv)}{vss:List (List Sn)}{fr:List Fr}(gm:ms.length<=100)(gk:ks.length<=100)(lf:fr.length<=100)(gv:∀ ss∈vss,ss.length<=96){us:List Th}(h:us∈W8 ms ks vss fr):us.length<=100:=by
 rcases List.mem_append.mp h with h | h
 ·rcases List.mem_cons.mp h with rfl | h
  ·rw[qM];exact gm
  rcases List.mem_cons.mp h with rfl | h
  ·rw[qM];exact gk
  rcases List.mem_cons.mp h with rfl | h
  ·unfold T0;rw[qM,List.length_range];exact lf
  ·cases h
 ·obtain⟨ss,m,rfl⟩:=List.mem_map.mp h;rw[qM];have:=gv ss m;omega
def K7 (k:Nat)(H H':Hp):Prop:=(∀ c zs,H c=some (.tup zs)->H' c=some (.tup zs))/\∀ c zs,H c=some (.lst zs)->∃ zs',H' c=some (.lst zs')/\zs'.length<=zs.length+k
theorem K7.refl {H:Hp}:K7 0 H H:=⟨λ_ _ e=>e,λ_ zs e=>⟨zs,e,qR _⟩⟩
theorem K7.put {k:Nat}{H H1 H2:Hp}{b:Addr}{zs:List V}{y:V}(h:K7 k H H1)(s:b9 H1 H2)(eb:H1 b=some (.lst zs)):K7 (k+1) H (upd H2 b (.lst (zs++[y]))):=by
 refine⟨λc us e=>?_,λc us e=>?_⟩
 ·have e1:=h.1 c us e;have nc:c≠b:=λz=>by rw[z,eb] at e1;cases e1
  rw[u6 nc];exact s _ _ e1
 ·obtain⟨us',e1,l⟩:=h.2 c us e;by_cases nc:c=b
  ·subst nc;rw[eb] at e1;cases e1;exact⟨_,f9,by rw[qA,qS];omega⟩
  ·exact⟨us',by rw[u6 nc];exact s _ _ e1,by omega⟩
theorem K7.up {k:Nat}{H H1 H2:Hp}(h:K7 k H H1)(s:b9 H1 H2):K7 k H H2:=⟨λc zs e=>s _ _ (h.1 c zs e),λc zs e=>by obtain⟨z,e,l⟩:=h.2 c zs e;exact⟨z,s _ _ e,l⟩⟩
theorem Uf {ms ks:List (Nat×Cv)}{vss:List (List Sn)}{fr:List Fr}(h:3 < (W8 ms ks vss fr).length)(h0:0 < vss.length):(W8 ms ks vss fr)[3]=vss[0].map z6:=by
 cases vss with
 | nil=>cases h0
 | cons=>rfl
theorem K7.mono {k:Nat}{H H1:Hp}(h:K7 k H H1):K7 (k+1) H H1:=⟨h.1,λc zs e=>by obtain⟨z,e,l⟩:=h.2 c zs e;exact⟨z,e,by omega⟩⟩
def yoF (t:Ad):Sp:=λvs H Q _=>∃ (x y:V) (ms ks:List (Nat×Cv)) (vss:List (List Sn)) (fr:List Fr) (tn:Int) (Hs:Hp),vs=[x,y,.int (M7 vss),.int tn]/\b9 Hs H/\C0 t Hs x ms ks vss fr/\kL vss/\(∀ ss∈vss,∀ s∈ss,K3 s)/\Is Hs y (jV ms ks vss fr)/\ms.length<=100/\ks.length<=100/\fr.length<=100/\∀ H',b9 H H'->Q (.bl true) H'
theorem Kh:OF P w base T.zO 5 (yoF t):=by
 o_head (T.zO.F,X1);obtain⟨x,y,ms,ks,vss,fr,tn,Hs,rfl,sH,tu,gw,gs,iy,lm,lk,lf,q⟩:=h;obtain⟨a,dx,m,k,v,f,rfl,ea,im,ik,iv,iF⟩:=id tu;have okT:=ymx ms ks vss fr;obtain⟨yb,ys,rfl,ey,isy⟩:=Is.ls (show Is Hs y (.ls ([u7 ms,u7 ks,bF fr]++vss.map vT)) from iy);have ly:ys.length=3+vss.length:=by rw[isy.len,qA,qM];rfl
 have n2:=gw.n2;have n1:=gw.n1;refine⟨_,(f7 (p0 4 X1.nd (u9 cU (z8 T7 rfl T.Ji PySem.boot_len (b7 (pv 1) c6)) c8)) (f7 (A7 (PW.pt (V5 (C3 (bQ hu) (aJ (pv 0) T.Jb T.QI (Zo T) (B2 hr) T.QZ.B .nil K4) (pv 4) (z5 _)) (Z5 (L3 (F4 (o6 (uY T) hr (b7 (aJ (pv 0) T.Jb T.QI (Zo T) (B2 hr) T.QZ.B .nil K4) c6))))))) (j0 (r6 v8)) B4) (f7 (A7 (PW.pt (V5 (C3 (bQ hu) (aJ (pv 0) T.Jb T.QA (mG T) (B2 hr) T.zR.B .nil K4) (pv 2) (z5 _)) (Z5 (L3 (F4 (o6 (uY T) hr (b7 (aJ (pv 0) T.Jb T.QA (mG T) (B2 hr) T.zR.B .nil K4) c6))))))) (j0 (r6 v8)) B4) (f7 (p0 5 X1.nd (o6 (K_ T) hr (b7 (pv 0) (b7 (pv 4) (b7 (pv 3) c6))))) (f7 (A7 (PW.pt (V5 (C3 (bQ hu) (pv 5) (pv 1) (z5 _)) (Z5 (L3 (F4 (z8 (gA rfl) rfl T.JW gR (b7 (O9 (L0 (NB:=["_law_row"]) (cap:=[none]) rfl) rfl (K2 (pv 5)) (λ_ _ _ _=>O6 0) (λ_ _ _ _=>L8) (λ_ _ _ _=>(z8 Q7 rfl T.Ja F2 (b7 (pv 0) (b7 (P4 rfl T.Jg Y1) c6))))) c6))))))) (j0 (r6 v8)) B4) (f7 (Z6 PassesOwn.never rfl (K2 (pv 5)) (U7 6 X1.nd) (f7 (A7 (L3 (F4 (z8 (gA rfl) rfl T.JW gR (b7 (O9 (L0 (NB:=["_law_one"]) (cap:=[none]) rfl) rfl (K2 (pv 6)) (λ_ _ _ _=>O6 0) (λ_ _ _ _=>L8) (λ_ _ _ _=>(z8 Q7 rfl T.Ja F2 (b7 (pv 0) (b7 (P4 rfl T.Jj eE) c6))))) c6)))) (j0 (r6 v8)) B4) (j0 (E7 (U1 (pv 6) (b7 V3 c6)))))) (f7 (Z6 PassesOwn.never rfl (K2 (xL (pv 5))) (U7 7 X1.nd) (j0 (A7 (PW.pt (iV (C3 ypE (pv 7) V3 (z5 _)) (jF (C3 (X3 hu) (xT (pv 7)) n9 (z5 _))))) (j0 (E7 (U1 (xT (pv 7)) (b7 V3 c6)))) B4))) (j0 (r6 (N2 (X3 hu) (o6 (K_ T) hr (b7 (pv 0) (b7 (pv 4) (b7 (u9 cU c8 (pv 3)) c6)))) (pv 1) (z5 _))))))))))),?_⟩;left;refine⟨yb,ys,rfl,.inl (d0.of (sH _ _ ey)),?_⟩;left;rw[show((ys.length:Int) - 3)=((vss.length:Nat):Int) by omega];refine⟨a,dx,_,rfl,sH _ _ ea,rfl,?_⟩;left;refine⟨_,ms,ks,vss,fr,rfl,tu.same sH,?_⟩;left;refine bE (tr:=nT vss.length) ⟨rfl,A6⟩ (M5 _ _) (M5 _ _) (n6 (t7 ?_));left;refine⟨a,dx,_,rfl,sH _ _ ea,rfl,?_⟩;left;refine⟨_,ms,ks,vss,fr,rfl,tu.same sH,?_⟩;left;refine⟨_,rfl,n6 (t7 ?_)⟩;left;refine⟨a,dx,_,rfl,sH _ _ ea,rfl,?_⟩;left;refine⟨a,dx,_,_,vss,rfl,sH _ _ ea,rfl,iv.same sH,gw,λH1 s1=>?_⟩;left;refine bE (tr:=nT (M7 vss)) ⟨rfl,A6⟩ (M5 _ _) (M5 _ _) (n6 (t7 ?_));left;have sH1:=sH.trans s1;refine⟨a,dx,_,rfl,sH1 _ _ ea,rfl,?_⟩;left;refine⟨a,dx,_,_,vss,rfl,sH1 _ _ ea,rfl,iv.same sH1,gw,λH2 s2=>?_⟩;left;refine⟨_,rfl,n6 (t7 ?_)⟩;left;have s02:=s1.trans s2;have sH2:=sH.trans s02;refine⟨_,ms,ks,vss,fr,tn,Hs,rfl,sH2,tu,gw,λy3 H3 s3 i3 nl=>?_⟩;have s03:=s02.trans s3;have sT3:b9 (nw (tpo Hs) H2 H3) H3:=B7 ((L9 _).trans sH2) s3;left;refine bE okT (i3.same sT3) (iy.same (sH.trans s03)) (n6 (t7 ?_));left;obtain⟨p,xs,rfl,ep,isx⟩:=Is.ls (show Is _ y3 (.ls ((W8 ms ks vss fr).map Th.ls)) by rw[<- yT];exact i3);have ep3:=sT3 _ _ ep;have nl:=nl p xs rfl ep3;have alx:=T5 isx;have lr:(W8 ms ks vss fr).length=3+vss.length:=by unfold W8;rw[qA,qM];rfl
 refine⟨p,rfl,⟨_,d0.of ep3⟩,λD4 hD4=>eU (λ_=>V.bl true) ep3 alx hD4 (by omega) (λx u H' Q' hu sm rx q'=>?_) λH4 s4 hd4=>M0 (qh (us:=W8 ms ks vss fr) hd4 (n6 (t7 ?_)))⟩
 ·left;exact U9 ((rx.same sT3).same sm).knd (q' _ (b9.refl _))
 have s04:=s03.trans s4;have ep4:=s4 _ _ ep3;have dis:∀ i j b,xs[i]?=some (V.ref b)->xs[j]?=some (V.ref b)->i=j:=λi j b hi hj=>(List.getElem?_inj (qE hi).1 (List.nodup_append.mp nl.1).1).mp (hi.trans hj.symm)
 have row:∀ j (h:j < (W8 ms ks vss fr).length),∃ b zs,xs[j]?=some (.ref b)/\H4 b=some (.lst zs)/\Iss (nw (tpo Hs) H2 H3) zs (W8 ms ks vss fr)[j]/\H b=none/\b≠p:=λj h=>by
  obtain⟨x,ex,ix⟩:=alx.2 j h;obtain⟨b,zs,rfl,eb,iz⟩:=ix.ls;have m:=List.mem_of_getElem? ex;obtain⟨b',u,e,n,_⟩:=nl.2 _ (List.mem_append_left _ m);cases e;refine⟨b,zs,ex,s4 _ _ (sT3 _ _ eb),iz,s02.free n,λz=>?_⟩;rw[z] at m;exact(List.nodup_append.mp nl.1).2.2 _ m _ (List.mem_singleton.mpr rfl) rfl
 left;refine⟨p,rfl,⟨_,d0.of ep4⟩,cJ (xs:=xs) (λi σ H'=>(∃ o1 o2,σ=[some (.ref a),some (.ref yb),some (.int (M7 vss)),some (.int tn),some (.int vss.length),some (.ref p),o1,o2])/\b9 H H'/\K7 i H4 H'/\H' p=some (.lst xs)/\(∀ (j:Nat) (b:Addr),i<=j->xs[j]?=some (V.ref b)->H' b=H4 b)/\∀ (j:Nat) (b:Addr) (zs:List V),j < i->xs[j]?=some (V.ref b)->H4 b=some (.lst zs)->H' b=some (.lst (zs++[.non]))) ⟨⟨_,_,rfl⟩,s04,K7.refl,ep4,λ_ _ _ _=>rfl,λj _ _ h=>absurd h (Nat.not_lt_zero j)⟩ (λi σ H' _ h=>d0.of h.2.2.2.1) ?_ ?_⟩
 ·rintro i x σ H' N hN hx ⟨⟨o1,o2,rfl⟩,sm,lc,hp,hk,hd⟩;have hi:i < (W8 ms ks vss fr).length:=by have:=(qE hx).1;rw[alx.1] at this;exact this
  obtain⟨b,zs,eb,hb,iz,nb,nbp⟩:=row i hi;rw[hx] at eb;cases eb;have hb':H' b=some (.lst zs):=by rw[hk i b (qR _) hx];exact hb
  have lz:zs.length<=100:=by rw[iz.len];exact ymB lm lk lf gw.len (List.getElem_mem hi)
  left;refine⟨b,rfl,⟨_,d0.of hb'⟩,λD5 hD5=>eU (λ_=>V.bl true) hb' (jA iz) hD5 (by rw[<- iz.len];omega) (λx u H'' Q' hu sm' rx q'=>?_) λH5 s5 hd5=>M0 (qh (us:=(W8 ms ks vss fr)[i]) hd5 (n6 (t7 ?_)))⟩
  ·obtain⟨⟨ts,rfl⟩,_⟩:=tP (List.getElem_mem hi) u hu;obtain⟨c,cs,rfl,ec,_⟩:=rx.tp;left;exact U9 (k:=.tup) (.tup (sm' _ _ (lc.1 _ _ (s4 _ _ (sT3 _ _ ec))))) (q' _ (b9.refl _))
  left;refine⟨.inl ⟨rfl,_,d0.of (s5 _ _ hb')⟩,?_⟩;left;refine Q9 (s5 _ _ hb') (F1 (by omega)) (hN _ _ ⟨⟨_,_,rfl⟩,O5 nb (sm.trans s5),lc.put s5 hb',by rw[u6 (Ne.symm nbp)];exact s5 _ _ hp,λj c hj hc=>?_,λj c us hj hc hu=>?_⟩)
  ·have ne:c≠b:=λz=>by subst z;have:=dis i j c hx hc;omega
   obtain⟨c',us,ec,hc4,_⟩:=row j (by have:=(qE hc).1;rw[alx.1] at this;exact this);rw[hc] at ec;cases ec;rw[u6 ne,hc4];exact s5 _ _ (by rw[hk j c (by omega) hc];exact hc4)
  ·by_cases z:j=i
   ·subst z;rw[hx] at hc;cases hc;rw[hb] at hu;cases hu;exact f9
   ·have ne:c≠b:=λe=>by subst e;exact z (dis j i c hc hx)
    rw[u6 ne];exact s5 _ _ (hd j c us (by omega) hc hu)
 ·rintro σ H' ⟨⟨o1,o2,rfl⟩,sm,lc,hp,hk,hd⟩;have hr3:3 < (W8 ms ks vss fr).length:=by omega
  obtain⟨b,zs,eb,hb,iz,nb,nbp⟩:=row 3 hr3;have lx:xs.length=3+vss.length:=by rw[alx.1,lr]
  have hb':=hd 3 b zs (by omega) eb hb;have e3:(W8 ms ks vss fr)[3]=(vss[0]'(by omega)).map z6:=Uf hr3 (by omega);rw[e3] at iz;have alz:=T5 iz;have lz:=gw.len _ (List.getElem_mem (show 0 < vss.length by omega));have gz:=gs _ (List.getElem_mem (show 0 < vss.length by omega));generalize vss[0]'(by omega)=ss at alz lz gz;left;refine M8 (d0.of hp) (J0 (j:=3) eb) ?_;refine⟨b,rfl,⟨_,d0.of hb'⟩,cJ (xs:=zs++[.non]) (λi σ H''=>(∃ o1 o2,σ=[some (.ref a),some (.ref yb),some (.int (M7 vss)),some (.int tn),some (.int vss.length),some (.ref p),o1,o2])/\b9 H H''/\K7 (xs.length+i) H4 H''/\H'' b=some (.lst (zs++[.non]))) ⟨⟨_,_,rfl⟩,sm,lc,hb'⟩ (λi σ H' _ h=>d0.of h.2.2.2) ?_ ?_⟩
  ·rintro i x σ H5 N hN hx ⟨⟨o1,o2,rfl⟩,s5,l5,hb5⟩;have hiz:=(qE hx).1;rw[qA,qS,alz.1] at hiz;by_cases z:i < ss.length
   ·rw[List.getElem?_append_left (by rw[alz.1];exact z)] at hx;obtain⟨x',e,ix⟩:=alz.2 i z;rw[hx] at e;cases e;have gi:=gz _ (List.getElem_mem z);generalize ss[i]=sn at ix gi;cases sn with
    | rest n=>
     obtain⟨c,rfl,ec⟩:=ix.rest;have ec5:=l5.1 _ _ (s4 _ _ (sT3 _ _ ec));left;refine⟨rfl,true,rfl,v9 ?_⟩;left;refine B9 0 (m9.of ec5) ?_;left;refine bJ (tr:=sT "rest") (tr':=sT "tones") ⟨rfl,A6⟩ ⟨rfl,A6⟩ (B5 rfl) (B5 rfl) (n6 (t7 ?_));exact F9 (hN _ _ ⟨⟨_,_,rfl⟩,s5,l5.mono,hb5⟩)
    | tones ps n wd op cl=>
     obtain⟨c,y,rfl,ec,iy'⟩:=ix.tones;have ec5:=l5.1 _ _ (s4 _ _ (sT3 _ _ ec));obtain⟨l,ls,rfl,el,il⟩:=Is.ls (show Is _ y (.ls (ps.map pT)) from iy');have ll:=il.len;rw[qM] at ll;have l4:=gi.1.2.1;obtain⟨l',u,e,nl2,_⟩:=(fN (show Is _ (.ref l) (.ls (ps.map pT)) from iy')).2 _ (List.mem_singleton.mpr rfl);cases e;have el4:=s4 _ _ (sT3 _ _ el);have nlb:l≠b:=λz=>by
      subst z;rw[hb] at el4;cases el4;obtain⟨x',e,ix'⟩:=(T5 il).2 i (by have:=(qE hx).1;omega);rw[hx] at e;cases e;obtain⟨_,e,e2⟩:=ix'.pit;cases e;rw[ec] at e2;cases e2
     obtain⟨ls',el5,ll5⟩:=l5.2 _ _ el4;left;refine⟨rfl,true,rfl,v9 ?_⟩;left;refine B9 0 (m9.of ec5) ?_;left;refine dZ (tr:=sT "tones") ⟨rfl,A6⟩ (B5 rfl) (B5 rfl) (n6 (v9 ?_));left;refine B9 1 (m9.of ec5) ?_;refine⟨.inl ⟨rfl,_,d0.of el5⟩,?_⟩;left;refine Q9 el5 (F1 (by omega)) (hN _ _ ⟨⟨_,_,rfl⟩,O5 (s02.free nl2) s5,l5.put (b9.refl _) el5,by rw[u6 (Ne.symm nlb)];exact hb5⟩)
   ·rw[List.getElem?_append_right (by rw[alz.1];omega),alz.1,show i - ss.length=0 by omega] at hx;cases hx;left;refine⟨rfl,false,rfl,t7 (t7 ?_)⟩;exact F9 (hN _ _ ⟨⟨_,_,rfl⟩,s5,l5.mono,hb5⟩)
  ·rintro σ H5 ⟨⟨o1,o2,rfl⟩,s5,l5,hb5⟩;left;refine⟨_,ms,ks,vss,fr,_,Hs,rfl,sH.trans s5,tu,gw,λy6 H6 s6 i6 _=>?_⟩;left;have sH5:=sH.trans s5;exact dZ okT (i6.same (B7 ((L9 _).trans sH5) s6)) (iy.same (sH5.trans s6)) (q _ (s5.trans s6))
theorem yC {ts:List Th}(l:ts.length<=100)(h:∀ t∈ts,A1 t=true):A1 (.ls ts)=true:=by rw[A1,decide_eq_true l,vI h];rfl
theorem sY {ts:List Th}(l:ts.length<=100)(h:∀ t∈ts,A1 t=true):A1 (.tp ts)=true:=by rw[A1,decide_eq_true l,vI h];rfl
theorem oZ {α:Type}{f:α->Th}{us:List α}(l:us.length<=100)(h:∀ u∈us,A1 (f u)=true):A1 (.ls (us.map f))=true:=yC (by rw[qM];exact l) λt m=>by obtain⟨u,mu,rfl⟩:=List.mem_map.mp m;exact h u mu
theorem yos {ps:List G7}(h:ps.length<=100):A1 (lT ps)=true:=oZ h λ_ _=>rfl
theorem ja {ps:List G7}{n:Int}{wd:Str}{op cl:Bool}(h:ps.length<=100)(l:wd.length<=1000):A1 (z6 (.tones ps n wd op cl))=true:=by
 show(true&&(true&&(A1 (lT ps)&&(true&&(decide (wd.length<=1000)&&(true&&(true&&true)))))))=true
 rw[yos h,decide_eq_true l];rfl
theorem vE {s:Sn}(g:K3 s):A1 (z6 s)=true:=by
 cases s with
 | rest n=>rfl
 | tones ps n wd op cl=>
  obtain⟨⟨_,l4,_⟩,_,_,gw⟩:=g;refine ja (by omega) ?_;rcases gw with rfl | h
  ·decide
  ·unfold cH at h;rw[Bool.and_eq_true,Bool.and_eq_true,decide_eq_true_eq] at h;have:=of_decide_eq_true h.2.1;omega
theorem uK {ss:List Sn}(l:ss.length<=100)(g:∀ s∈ss,K3 s):A1 (vT ss)=true:=oZ l λs m=>vE (g s m)
theorem iL {vss:List (List Sn)}(g:V4 vss):A1 (A5 vss)=true:=oZ (by have:=g.2.1;omega) λss m=>uK (by have:=(g.2.2 ss m).n2;omega) (g.2.2 ss m).g
theorem yuX {m:Mt}(h:m.gs.length<=100):A1 (E2 m)=true:=by
 have:A1 (.tp (m.gs.map nT))=true:=sY (by rw[qM];exact h) λt m=>by obtain⟨u,_,rfl⟩:=List.mem_map.mp m;rfl
 show(true&&(true&&(true&&(A1 (.tp (m.gs.map nT))&&true))))=true
 rw[this];rfl
theorem ytq {cs:List (Nat×Cv)}(l:cs.length<=100)(h:∀ c∈cs,A1 (J8 c.2)=true):A1 (u7 cs)=true:=oZ l λc m=>by
 show(true&&(true&&(A1 (J8 c.2)&&true)))=true
 rw[h c m];rfl
def CZ:Sp:=λvs H Q _=>∃ (x:V) (vss:List (List Sn)),vs=[x]/\Is H x (A5 vss)/\(∀ ss∈vss,∀ s∈ss,K3 s)/\∀ H',b9 H H'->Q (.bl true) H'
theorem ytp:OF P w base T.za 7 CZ:=by
 o_head (T.za.F,T4);obtain⟨x,vss,rfl,ix,gs,q⟩:=h;obtain⟨a,xs,rfl,ea,is⟩:=Is.ls (show Is H x (.ls (vss.map vT)) from ix);have al:=T5 is;refine⟨_,(f7 (Z6 PassesOwn.never rfl (K2 (pv 0)) (U7 1 T4.nd) (j0 (Z6 PassesOwn.never rfl (K2 (pv 1)) (U7 2 T4.nd) (f7 (p0 3 T4.nd (N7 (xM T) (B2 hr) rfl T.QB.M T.QB.F.kp T.QB.B .nil jR (b7 (pv 2) c6))) (f7 (p0 4 T4.nd (j8 (b7 (z8 (show P7 _ _ (dY K) from iQ) rfl T.Ja F2 (b7 (pv 3) (b7 (Q3 (v:=.ref t.RA) rfl T.JE rfl) c6))) (b7 (z8 (show P7 _ _ (dY K) from iQ) rfl T.Ja F2 (b7 (pv 3) (b7 (Q3 (v:=.ref t.RB) rfl T.JY rfl) c6))) c6)))) (f7 (A7 (PW.pt (V5 (L3 (F4 (z8 (show P7 _ _ (dY K) from iQ) rfl T.Ja F2 (b7 (pv 3) (b7 (Q3 (v:=.ref t.Rz) rfl T.Qk rfl) c6))))) (Z5 (C3 (bQ hu) (pv 4) (j8 (b7 (N2 (X3 hu) (xT (pv 2)) n9 (z5 _)) (b7 (N2 (X3 hu) (xT (pv 2)) n9 (z5 _)) c6))) (z5 _))))) (j0 (r6 v8)) B4) (f7 (p0 5 T4.nd (yP (C3 (X3 hu) (xT (pv 2)) n9 (z5 _)) (xT (pv 2)) (xT (pv 2)))) (f7 (A7 (PW.pt (V5 (C3 (bQ hu) (jZ (pv 3) (kX T) (jX T) (jJ T) (B2 hr) (kO T) K4) (pv 2) (z5 _)) (V5 (C3 mF (M3 (pv 3) rfl) (pv 5) (z5 _)) (Z5 (L3 (F4 (o6 (uY T) hr (b7 (M3 (pv 3) rfl) c6)))))))) (j0 (r6 v8)) B4) (j0 (A7 (C3 (X3 hu) (xT (pv 2)) n9 (z5 _)) (f7 (E7 (U1 (F8 yqP (jZ (pv 3) (kX T) (jX T) (jJ T) (B2 hr) (kO T) K4) c8 (λ_ _=>rfl)) (b7 V3 c6))) (j0 (A7 (PW.pt (V5 (C3 (bQ hu) (jZ (pv 3) (kX T) (jX T) (jJ T) (B2 hr) (kO T) K4) (pv 2) (z5 _)) (Z5 (L3 (F4 (o6 (Wg T) hr (b7 (pv 2) c6))))))) (j0 (r6 v8)) B4))) (j0 (A7 (PW.pt (V5 (C3 (bQ hu) (jZ (dD T.Ql (oO T) (B2 hr) rfl T.JE T.zk.B .nil K4 (b7 (xT (pv 2)) c6)) (kX T) (jX T) (jJ T) (B2 hr) (kO T) K4) (pv 2) (z5 _)) (Z5 (C3 (bQ hu) (M3 (dD T.Ql (oO T) (B2 hr) rfl T.JE T.zk.B .nil K4 (b7 (xT (pv 2)) c6)) rfl) (xT (pv 2)) (z5 _))))) (j0 (r6 v8)) B4)))))))))))) (j0 (r6 v8))),?_⟩;left;refine⟨a,rfl,⟨_,d0.of ea⟩,cJ (xs:=xs) (λi σ H'=>(∃ o1 o2 o3 o4 o5,σ=[some (.ref a),o1,o2,o3,o4,o5])/\b9 H H') ⟨⟨_,_,_,_,_,rfl⟩,b9.refl _⟩ (λi σ H' _ p=>d0.of (p.2 _ _ ea)) ?_ ?_⟩
 ·rintro i x σ H' N hN hx ⟨⟨o1,o2,o3,o4,o5,rfl⟩,sm⟩;obtain⟨hi,rx⟩:=Z0 al hx;have gi:=gs _ (List.getElem_mem hi);generalize vss[i]=ss at rx gi;obtain⟨b,ys,rfl,eb,isb⟩:=Is.ls (show Is H x (.ls (ss.map z6)) from rx);have alb:=T5 isb;left;refine⟨b,rfl,⟨_,d0.of (sm _ _ eb)⟩,cJ (xs:=ys) (λi σ H'=>(∃ o2 o3 o4 o5,σ=[some (.ref a),some (.ref b),o2,o3,o4,o5])/\b9 H H') ⟨⟨_,_,_,_,rfl⟩,sm⟩ (λi σ H' _ p=>d0.of (p.2 _ _ eb)) ?_ ?_⟩
  ·rintro j x σ H1 N1 hN1 tG ⟨⟨o2,o3,o4,o5,rfl⟩,s1⟩;obtain⟨hj,rx1⟩:=Z0 alb tG;have gj:=gi _ (List.getElem_mem hj);generalize ss[j]=sn at rx1 gj;have rx2:=rx1.same s1;left;refine⟨x,_,H1,rfl,b9.refl _,rx2,vE gj,λs' e' g' y H2 s2 so=>?_,λz=>by rw[P8.mpr gj] at z;cases z⟩;have e':=jo e';subst e';have so:=so.same (B7 (L9 _) s2);have s12:=s1.trans s2;have rx3:=rx1.same s12;left;cases sn with
   | rest n=>
    obtain⟨p,rfl,ep⟩:=rx3.rest;obtain⟨a2,dx,rfl,ea2⟩:=id so;refine eK (T.Qa.ty T.Jq ea2) T.JX ?_;left;refine eK (T.Qa.ty T.Jq ea2) T.JI ?_;left;refine D6 λp4 h4=>?_
    have s4:=m8 h4 (.lst [.bl true,.bl false]);have e4:upd H2 p4 (.lst [.bl true,.bl false]) p4=some (.lst [.bl true,.bl false]):=f9;generalize upd H2 p4 (.lst [.bl true,.bl false])=H4 at s4 e4 |-;have ep4:=s4 _ _ ep;left;refine eK (T.Qa.ty T.Jq (s4 _ _ ea2)) T.Qo (n6 (t7 ?_));left;refine B9 0 (m9.of ep4) ?_;left;refine dZ (tr:=sT "rest") ⟨rfl,A6⟩ (B5 rfl) (B5 rfl) ?_;left;refine B9 0 (m9.of ep4) ?_;left;refine bJ (tr:=sT "rest") (tr':=sT "tones") ⟨rfl,A6⟩ ⟨rfl,A6⟩ (B5 rfl) (B5 rfl) ?_;rw[show A3 (D9 (sT "rest")) (D9 (sT "tones"))=false from by decide];left;refine D6 λp5 h5=>?_
    have s5:=m8 h5 (.lst [.bl true,.bl false]);refine bE (tr:=.ls [bT true,bT false]) ⟨rfl,iY (k:=59) (K8 A6 (K8 A6 eL))⟩ (E3 (s5 _ _ e4) (A9 (B5 rfl) (A9 (B5 rfl) (J7 _)))) (E3 f9 (A9 (B5 rfl) (A9 (B5 rfl) (J7 _)))) (n6 (t7 ?_));generalize upd H4 p5 (.lst [.bl true,.bl false])=H5 at s5 |-;have s25:=s4.trans s5;have so5:=so.same s25;have ep5:=s5 _ _ ep4;left;refine B9 0 (m9.of ep5) ?_;left;refine dZ (tr:=sT "rest") ⟨rfl,A6⟩ (B5 rfl) (B5 rfl) ?_;refine n6 (v9 ?_);left;refine B9 1 (m9.of ep5) ?_;left;refine hW (b9.refl _) so5 λy6 H6 s6 i6=>?_
    have ep6:=s6 _ _ ep5;have so6:=so5.same s6;have s26:=s25.trans s6;left;refine bE ⟨(cF _).1,Nat.le_trans (cF _).2 (by decide)⟩ (i6.same (B7 (L9 _) s6)) (rx3.same s26) (n6 (t7 ?_));left;refine gU T so6 ?_;left;refine oH (n6 ?_);rw[show(!decide (G4 (.rest n)=n))=false by simp[G4]];refine t7 ?_;left;refine gU T so6 ?_;left;refine⟨_,rfl,n6 (t7 ?_)⟩;left;refine B9 0 (m9.of ep6) ?_;left;refine bJ (tr:=sT "rest") (tr':=sT "tones") ⟨rfl,A6⟩ ⟨rfl,A6⟩ (B5 rfl) (B5 rfl) ?_;rw[show A3 (D9 (sT "rest")) (D9 (sT "tones"))=false from by decide];refine n6 (t7 ?_);left;refine B9 1 (m9.of ep6) ?_;left;intro a7 d7 ha hd ne;refine⟨t.RA,a7,d7,n,rfl,.inl rfl,f9,rfl,?_⟩;have s7:=(qJ (C:=t.RA) (o:=.ins t.RA d7 [("length",.int n)]) ha hd ne).1;have so7:So t (upd (made H6 t.RA a7 d7) a7 (.ins t.RA d7 [("length",.int n)])) (.ref a7) (.rest n):=⟨a7,d7,rfl,f9⟩;refine hW (H:=upd (made H6 t.RA a7 d7) a7 (.ins t.RA d7 [("length",.int n)])) (b9.refl _) so7 λy8 H8 s8 i8=>?_
    generalize upd (made H6 t.RA a7 d7) a7 (.ins t.RA d7 [("length",.int n)])=H7 at s7 so7 s8 i8;have s28:=s26.trans (s7.trans s8);left;refine bE ⟨(cF _).1,Nat.le_trans (cF _).2 (by decide)⟩ (i8.same (B7 (L9 _) s8)) (rx3.same s28) (n6 (t7 ?_));have ep8:=s28 _ _ ep;left;refine B9 1 (m9.of ep8) ?_;left;intro a9 d9 ha hd ne;refine⟨t.RA,a9,d9,n,rfl,.inl rfl,f9,rfl,?_⟩;have s9:=(qJ (C:=t.RA) (o:=.ins t.RA d9 [("length",.int n)]) ha hd ne).1;have so9:So t (upd (made H8 t.RA a9 d9) a9 (.ins t.RA d9 [("length",.int n)])) (.ref a9) (.rest n):=⟨a9,d9,rfl,f9⟩;refine gU T so9 ?_;have ep9:=s9 _ _ ep8;left;refine B9 1 (m9.of ep9) ?_;refine bE (tr:=nT n) ⟨rfl,A6⟩ (M5 _ _) (M5 _ _) (n6 (t7 ?_));exact F9 (hN1 _ _ ⟨⟨_,_,_,_,rfl⟩,s12.trans (s28.trans s9)⟩)
   | tones ps n wd op cl=>
    obtain⟨p,y0,rfl,ep,iy0⟩:=rx3.tones;obtain⟨a2,dx,l2,rfl,ea2,il2⟩:=id so;refine eK (T.JA.ty T.Jc ea2) T.JK ?_;left;refine eK (T.JA.ty T.Jc ea2) T.JD ?_;left;refine D6 λp4 h4=>?_
    have s4:=m8 h4 (.lst [.bl false,.bl true]);have e4:upd H2 p4 (.lst [.bl false,.bl true]) p4=some (.lst [.bl false,.bl true]):=f9;generalize upd H2 p4 (.lst [.bl false,.bl true])=H4 at s4 e4 |-;have ep4:=s4 _ _ ep;left;refine eK (T.JA.ty T.Jc (s4 _ _ ea2)) T.JC (n6 (t7 ?_));left;refine B9 0 (m9.of ep4) ?_;left;refine bJ (tr:=sT "tones") (tr':=sT "rest") ⟨rfl,A6⟩ ⟨rfl,A6⟩ (B5 rfl) (B5 rfl) ?_;rw[show A3 (D9 (sT "tones")) (D9 (sT "rest"))=false from by decide];left;refine B9 0 (m9.of ep4) ?_;left;refine dZ (tr:=sT "tones") ⟨rfl,A6⟩ (B5 rfl) (B5 rfl) ?_;left;refine D6 λp5 h5=>?_
    have s5:=m8 h5 (.lst [.bl false,.bl true]);refine bE (tr:=.ls [bT false,bT true]) ⟨rfl,iY (k:=59) (K8 A6 (K8 A6 eL))⟩ (E3 (s5 _ _ e4) (A9 (B5 rfl) (A9 (B5 rfl) (J7 _)))) (E3 f9 (A9 (B5 rfl) (A9 (B5 rfl) (J7 _)))) (n6 (t7 ?_));generalize upd H4 p5 (.lst [.bl false,.bl true])=H5 at s5 |-;have s25:=s4.trans s5;have so5:=so.same s25;have ep5:=s5 _ _ ep4;left;refine B9 0 (m9.of ep5) ?_;left;refine bJ (tr:=sT "tones") (tr':=sT "rest") ⟨rfl,A6⟩ ⟨rfl,A6⟩ (B5 rfl) (B5 rfl) ?_;rw[show A3 (D9 (sT "tones")) (D9 (sT "rest"))=false from by decide];refine n6 (t7 ?_);left;refine B9 2 (m9.of ep5) ?_;left;refine hW (b9.refl _) so5 λy6 H6 s6 i6=>?_
    have ep6:=s6 _ _ ep5;have so6:=so5.same s6;have s26:=s25.trans s6;left;refine bE ⟨(cF _).1,Nat.le_trans (cF _).2 (by decide)⟩ (i6.same (B7 (L9 _) s6)) (rx3.same s26) (n6 (t7 ?_));left;refine gU T so6 ?_;left;refine oH (n6 ?_);rw[show(!decide (G4 (.tones ps n wd op cl)=n))=false by simp[G4]];refine t7 ?_;left;refine gU T so6 ?_;left;refine⟨_,rfl,n6 (t7 ?_)⟩;left;refine B9 0 (m9.of ep6) ?_;left;refine dZ (tr:=sT "tones") ⟨rfl,A6⟩ (B5 rfl) (B5 rfl) ?_;refine n6 (v9 ?_);left;refine hW (b9.refl _) so6 λy7 H7 s7 i7=>?_
    obtain⟨c7,z7,rfl,ec7,iz7⟩:=i7.tones;obtain⟨l,ls,rfl,el,il⟩:=Is.ls (show Is _ z7 (.ls (ps.map pT)) from iz7);obtain⟨l',u,e,nl,_⟩:=(fN (show Is _ (.ref l) (.ls (ps.map pT)) from iz7)).2 _ (List.mem_singleton.mpr rfl);cases e;have o7:b9 (nw (tpo H6) H6 H7) H7:=B7 (L9 _) s7;have ll:=il.len;rw[qM] at ll;have l4:=gj.1.2.1;left;refine .inr (.inl (W3 (m9.of (o7 _ _ ec7)) (J0 (j:=1) rfl) ?_));refine⟨.inl ⟨rfl,_,d0.of (o7 _ _ el)⟩,?_⟩;left;refine Q9 (o7 _ _ el) (F1 (by omega)) ?_;have s68:b9 H6 (upd H7 l (.lst (ls++[.non]))):=O5 nl s7;generalize upd H7 l (.lst (ls++[.non]))=H8 at s68 |-;left;refine hW s68 so6 λy9 H9 s9 i9=>?_
    have s29:=s26.trans (s68.trans s9);left;refine bE ⟨(cF _).1,Nat.le_trans (cF _).2 (by decide)⟩ (i9.same (B7 ((L9 _).trans s68) s9)) (rx3.same s29) (n6 (t7 ?_));left;refine⟨_,ps,n,wd,op,cl,rfl,rx3.same s29,l4,λH10 s10=>n6 (t7 ?_)⟩;exact F9 (hN1 _ _ ⟨⟨_,_,_,_,rfl⟩,s12.trans (s29.trans s10)⟩)
  ·rintro σ H1 ⟨⟨o2,o3,o4,o5,rfl⟩,s1⟩;exact hN _ _ ⟨⟨_,_,_,_,_,rfl⟩,s1⟩
 ·rintro σ H1 ⟨⟨o1,o2,o3,o4,o5,rfl⟩,s1⟩;left;exact q _ s1
def rT (n:Int):Th:=.tp [sT "rest",nT n]
def lV:Sn:=.tones [⟨0,0,4⟩] 384 "" false false
def yu3:Sn:=.tones [⟨0,0,4⟩] 2 "" false false
def jK:Th:=.tp [sT "tones",.ls [Q8],nT 384,sT "",bT false,bT false]
def iO:List Th:=[sT "tones",.ls [Q8],nT 384,sT "",bT false,bT false]
def oU (g:List Sn)(vss:List (List Sn)):List Th:=[.im .non,.ls [],.ls [vT g,vT g,vT g],.tp (vss.map vT),.ls [.ls []],.ls [.im .non],.ls [.ls [rT 24]],.ls [.ls (List.replicate 97 [rT 2]).flatten],nT 5,.dk]
def pE (g:List Sn):List Th:=[.ls [vT g,.ls [rT 24,rT 24]],.ls [vT g,.ls []],.ls [.ls (List.replicate 20 [jK]).flatten],sT "voice",.ls [.tp (g.map z6)]]
def sI (g:List Sn):List Th:=[.ls [vT g,.im .non]]
def pV:List Th:=[.ls [.ls (List.replicate 97 [Th.tp (iO.take 2++[nT 2]++iO.drop 3)]).flatten],.ls [.ls [rT 4608,rT 2,jK]]]
def rG:List Th:=[.ls [.ls [jK,rT 4608,rT 2]],.ls [.ls ((List.replicate 96 [rT 2]).flatten++[jK])]]
def nB (g:List Sn)(vss:List (List Sn)):List Th:=oU g vss++pE g++sI g++pV++rG
def Um:Sp:=λvs H Q _=>∃ (n:Int) (x:V) (g:List Sn) (r:List (List Sn)) (Hs:Hp),vs=[.int n,x]/\0<=n/\b9 Hs H/\Is Hs x (A5 (g :: r))/\∀ v tr H',tr∈nB g (g :: r)->b9 H H'->Is (nw Hs H H') v tr->Q v H'
theorem yt2:OF P w base T.zf 1 Um:=by
 o_head (T.zf.F,N3);obtain⟨n,x,g,r,Hs,rfl,n0,sH,ix,q⟩:=h;obtain⟨a,xs,rfl,ea,is⟩:=Is.ls (show Is Hs x (.ls ((g :: r).map vT)) from ix);obtain⟨x0,xr,rfl,i0,_⟩:=R6 (show Iss Hs xs (vT g :: r.map vT) from is);refine⟨_,(f7 (p0 2 N3.nd (xL (pv 1))) (f7 (p0 3 N3.nd (g8 (b7 n9 (b7 (j8 (b7 (g8 (b7 c8 (b7 c8 (b7 c8 c6)))) c6)) (b7 c8 (b7 n9 (b7 v8 (b7 v8 c6)))))))) (f7 (p0 4 N3.nd (j8 (b7 V3 (b7 (j8 c6) (b7 (j8 (b7 (pv 2) (b7 (pv 2) (b7 (pv 2) c6)))) (b7 (bC wN rfl T.Jj eE (b7 (pv 1) c6)) (b7 (j8 (b7 (j8 c6) c6)) (b7 (j8 (b7 V3 c6)) (b7 (j8 (b7 (j8 (b7 (g8 (b7 n9 (b7 c8 c6))) c6)) c6)) (b7 (j8 (b7 (u9 lS (j8 (b7 (g8 (b7 n9 (b7 c8 c6))) c6)) c8) c6)) (b7 c8 (b7 vC c6)))))))))))) (f7 (p0 4 N3.nd (u9 O1 (pv 4) (j8 (b7 (j8 (b7 (pv 2) (b7 (j8 (b7 (g8 (b7 n9 (b7 c8 c6))) (b7 (g8 (b7 n9 (b7 c8 c6))) c6))) c6))) (b7 (j8 (b7 (pv 2) (b7 (j8 c6) c6))) (b7 (j8 (b7 (u9 lS (j8 (b7 (pv 3) c6)) c8) c6)) (b7 n9 (b7 (j8 (b7 (bC wN rfl T.Jj eE (b7 (pv 2) c6)) c6)) c6)))))))) (f7 (p0 4 N3.nd (u9 O1 (pv 4) (j8 (b7 (j8 (b7 (pv 2) (b7 V3 c6))) c6)))) (f7 (p0 4 N3.nd (u9 O1 (pv 4) (j8 (b7 (j8 (b7 (u9 lS (j8 (b7 (u9 Va (u9 Va (bA Km (pv 3) bP (bS c8)) (g8 (b7 c8 c6))) (bA Km (pv 3) (bS c8) bP)) c6)) c8) c6)) (b7 (j8 (b7 (j8 (b7 (g8 (b7 n9 (b7 c8 c6))) (b7 (g8 (b7 n9 (b7 c8 c6))) (b7 (pv 3) c6)))) c6)) c6))))) (f7 (p0 4 N3.nd (u9 O1 (pv 4) (j8 (b7 (j8 (b7 (j8 (b7 (pv 3) (b7 (g8 (b7 n9 (b7 c8 c6))) (b7 (g8 (b7 n9 (b7 c8 c6))) c6)))) c6)) (b7 (j8 (b7 (u9 O1 (u9 lS (j8 (b7 (g8 (b7 n9 (b7 c8 c6))) c6)) c8) (j8 (b7 (pv 3) c6))) c6)) c6))))) (j0 (r6 (F8 j9 (pv 4) (u9 dA (pv 0) c8) (λ_ _=>rfl))))))))))),?_⟩;left;refine cE 0 (d0.of (sH _ _ ea)) ?_;refine A2 ?_;refine x4 (D8 ?_);refine G0 (Hs:=Hs) (C:=λ_=>True) (tr:=jK) ?_ sH trivial λw1 H1 s1 i1=>?_
 ·exfalso
 refine A2 ?_;dsimp only;have sN:=B7 sH s1;have vx:B8 (nw Hs H H1) (fun σ=>σ[1]?=some (some (.ref a))/\σ[2]?=some (some x0)/\σ[3]?=some (some w1)) (D7 1) (.ls ((g :: r).map vT)):=V0 fun σ c=>⟨_,c.1,ix.same (Y0 sH)⟩
 have vg:B8 (nw Hs H H1) (fun σ=>σ[1]?=some (some (.ref a))/\σ[2]?=some (some x0)/\σ[3]?=some (some w1)) (D7 2) (vT g):=V0 fun σ c=>⟨x0,c.2.1,i0.same (Y0 sH)⟩
 have vg':B8 (nw Hs H H1) (fun σ=>σ[1]?=some (some (.ref a))/\σ[2]?=some (some x0)/\σ[3]?=some (some w1)) (D7 2) (.ls (g.map z6)):=vg;have vt:B8 (nw Hs H H1) (fun σ=>σ[1]?=some (some (.ref a))/\σ[2]?=some (some x0)/\σ[3]?=some (some w1)) (D7 3) (.tp iO):=V0 fun σ c=>⟨w1,c.2.2,i1⟩
 refine x4 (D8 ?_);refine jj (C:=fun σ=>σ[1]?=some (some (.ref a))/\σ[2]?=some (some x0)/\σ[3]?=some (some w1)) (ts:=oU g (g :: r)) sN ?_ ⟨rfl,rfl,rfl⟩ (by show 10<=900;decide) λp H2 t2=>?_
 ·exfalso
 refine A2 ?_;dsimp only;refine x4 (D8 ?_);refine eT (C:=fun σ=>σ[1]?=some (some (.ref a))/\σ[2]?=some (some x0)/\σ[3]?=some (some w1)) (us:=pE g) rfl sN t2 ?_ ⟨rfl,rfl,rfl⟩ (by show 15<=900;decide) λp H2 t2=>?_
 ·exfalso
 refine A2 ?_;dsimp only;refine x4 (D8 ?_);refine eT (C:=fun σ=>σ[1]?=some (some (.ref a))/\σ[2]?=some (some x0)/\σ[3]?=some (some w1)) (us:=sI g) rfl sN t2 ?_ ⟨rfl,rfl,rfl⟩ (by show 16<=900;decide) λp H2 t2=>?_
 ·exfalso
 refine A2 ?_;dsimp only;refine x4 (D8 ?_);refine eT (C:=fun σ=>σ[1]?=some (some (.ref a))/\σ[2]?=some (some x0)/\σ[3]?=some (some w1)) (us:=pV) rfl sN t2 ?_ ⟨rfl,rfl,rfl⟩ (by show 18<=900;decide) λp H2 t2=>?_
 ·exfalso
 refine A2 ?_;dsimp only;refine x4 (D8 ?_);refine eT (C:=fun σ=>σ[1]?=some (some (.ref a))/\σ[2]?=some (some x0)/\σ[3]?=some (some w1)) (us:=rG) rfl sN t2 ?_ ⟨rfl,rfl,rfl⟩ (by show 20<=900;decide) λp H2 t2=>?_
 ·exfalso
 refine A2 ?_;dsimp only;obtain⟨_,s0,ks,ek,ik⟩:=t2;left;have m0:0<=n%20:=Int.emod_nonneg _ (by decide);have m1:n%20 < 20:=Int.emod_lt_of_pos _ (by decide);obtain⟨v,ev,iv⟩:=ik.at' (n%20).toNat (by show _ < 20;omega);have ea:=J0 ev;rw[Int.toNat_of_nonneg m0] at ea;exact M8 (d0.of ek) ea (q _ _ _ (List.getElem_mem _) (s1.trans s0) ((iv.same P5).same (wE s1 s0)))
theorem G_ {fr:List Fr}{lasts:Int}(h:nF fr lasts):∀ i:Nat,i<=fr.length->bg fr i<=192*(i:Int)
 | 0,_=>by unfold bg;simp
 | i+1,hi=>by
  have:=G_ h i (by omega);rw[lE (by omega)];have:=(h.m _ (List.getElem_mem (show i < fr.length by omega))).g;unfold P9;omega
theorem yoh {ms ks:List (Nat×Cv)}{vss:List (List Sn)}{fr:List Fr}(ok:O2 ms ks vss fr):M7 (vss.map x9)<=4608:=by
 have h:=ok.f.1;have a:=h.hi;have b:=G_ h fr.length (qR _);have c:=h.len;omega
theorem cG {ts:List Th}{u:Th}(h:u∈ts)(no:¬ ∃ ss,u=vT ss/\C4 ss):¬ ∃ vss,Th.ls ts=A5 vss/\V4 vss:=λ⟨vss,e,g⟩=>by
 have e:ts=vss.map vT:=by injection e
 rw[e] at h;obtain⟨ss,ms,rfl⟩:=List.mem_map.mp h;exact no ⟨ss,rfl,g.2.2 ss ms⟩
theorem eZ {ss:List Sn}(h:¬ C4 ss):¬ ∃ s2,vT ss=vT s2/\C4 s2:=λ⟨s2,e,g⟩=>h (by rw[nZ e];exact g)
theorem Ve {ts:List Th}(h:¬ (1<=ts.length/\ts.length<=2)):¬ ∃ vss,Th.ls ts=A5 vss/\V4 vss:=λ⟨vss,e,g⟩=>by
 have e:ts=vss.map vT:=by injection e
 rw[e,qM] at h;exact h ⟨g.1,g.2.1⟩
theorem yrd {tm tk:Th}{g:List Sn}{vss:List (List Sn)}:∀ tr∈nB g vss,¬ ∃ ms ks v2 fr,tm=u7 ms/\tk=u7 ks/\tr=A5 v2/\O2 ms ks v2 fr:=λtr m=>by
 have last:¬ ∃ v2:List (List Sn),Th.ls [vT (List.replicate 20 lV)]=A5 v2/\M7 (v2.map x9)<=4608:=λ⟨v2,e,l⟩=>by
  have e:=iJ (show A5 [List.replicate 20 lV]=A5 v2 from e);subst e;revert l;decide +kernel
 unfold nB oU pE sI pV rG at m;simp only[List.cons_append,List.nil_append,List.mem_cons,qk,or_false] at m;have im:∀ {v:V},¬ ∃ vss,Th.im v=A5 vss/\V4 vss:=λ⟨_,e,_⟩=>by cases e
 have im':∀ {v:V},¬ ∃ ss,Th.im v=vT ss/\C4 ss:=λ⟨_,e,_⟩=>by cases e
 rcases m with rfl | rfl | rfl | rfl | rfl | rfl | rfl | rfl | rfl | rfl | rfl | rfl | rfl | rfl | rfl | rfl | rfl | rfl | rfl | rfl
 ·exact R7 im
 ·exact R7 (Ve (by decide))
 ·exact R7 (Ve (by show ¬ (1<=3/\3<=2);decide))
 ·exact R7 λ⟨_,e,_⟩=>by cases e
 ·exact R7 (cG (List.mem_singleton.mpr rfl) (eZ (ss:=[]) λh=>by have:=h.n1;cases this))
 ·exact R7 (cG (List.mem_singleton.mpr rfl) im')
 ·exact R7 (cG (List.mem_singleton.mpr rfl) (eZ (ss:=[.rest 24]) λh=>h.ne (by decide)))
 ·exact R7 (cG (List.mem_singleton.mpr rfl) (eZ (ss:=List.replicate 97 (.rest 2)) λh=>by have:=h.n2;revert this;decide))
 ·exact R7 im
 ·exact R7 λ⟨_,e,_⟩=>by cases e
 ·exact R7 (cG (List.mem_cons_of_mem _ (List.mem_singleton.mpr rfl)) (eZ (ss:=[.rest 24,.rest 24]) λh=>h.ne (by decide)))
 ·exact R7 (cG (List.mem_cons_of_mem _ (List.mem_singleton.mpr rfl)) (eZ (ss:=[]) λh=>by have:=h.n1;cases this))
 ·exact λ⟨ms,ks,v2,fr,_,_,e,ok⟩=>last ⟨v2,e,yoh ok⟩
 ·exact R7 im
 ·exact R7 (cG (List.mem_singleton.mpr rfl) λ⟨_,e,_⟩=>by cases e)
 ·exact R7 (cG (List.mem_cons_of_mem _ (List.mem_singleton.mpr rfl)) im')
 ·exact R7 (cG (List.mem_singleton.mpr rfl) (eZ (ss:=List.replicate 97 yu3) λh=>by have:=h.n2;revert this;decide))
 ·exact R7 (cG (List.mem_singleton.mpr rfl) (eZ (ss:=[.rest 4608,.rest 2,lV]) λh=>by have:=h.ok;revert this;decide))
 ·exact R7 (cG (List.mem_singleton.mpr rfl) (eZ (ss:=[lV,.rest 4608,.rest 2]) λh=>by have:=h.ok;revert this;decide))
 ·rw[show Th.ls ((List.replicate 96 [rT 2]).flatten++[jK])=vT (List.replicate 96 (Sn.rest 2)++[lV]) from rfl];exact R7 (cG (List.mem_singleton.mpr rfl) (eZ λh=>by have:=h.n2;revert this;decide))
theorem Kf:∀ tr∈pV++rG,A1 tr=true:=by ac_rfl
theorem yp8 {g:List Sn}{vss:List (List Sn)}(hg:g.length<=100)(gg:∀ s∈g,K3 s)(hv:V4 vss):∀ tr∈nB g vss,A1 tr=true:=λtr m=>by
 have sg:=uK hg gg;have sg':A1 (.tp (g.map z6))=true:=sY (gZ sg).1 (gZ sg).2;have sv':A1 (.tp (vss.map vT))=true:=sY (gZ (iL hv)).1 (gZ (iL hv)).2;unfold nB at m;rcases List.mem_append.mp m with m | m
 ·rcases List.mem_append.mp m with m | m
  ·rcases List.mem_append.mp m with m | m
   ·rcases List.mem_append.mp m with m | m
    ·unfold oU at m;simp only[List.mem_cons,qk,or_false] at m;rcases m with rfl | rfl | rfl | rfl | rfl | rfl | rfl | rfl | rfl | rfl
     ·rfl
     ·rfl
     ·show(true&&(A1 (vT g)&&(A1 (vT g)&&(A1 (vT g)&&true))))=true
      rw[sg];rfl
     ·exact sv'
     ·rfl
     ·rfl
     ·rfl
     ·decide +kernel
     ·rfl
     ·rfl
    ·unfold pE at m;simp only[List.mem_cons,qk,or_false] at m;rcases m with rfl | rfl | rfl | rfl | rfl
     ·show(true&&(A1 (vT g)&&(A1 (.ls [rT 24,rT 24])&&true)))=true
      rw[sg];decide +kernel
     ·show(true&&(A1 (vT g)&&(A1 (.ls [])&&true)))=true
      rw[sg];rfl
     ·decide +kernel
     ·decide +kernel
     ·show(true&&(A1 (.tp (g.map z6))&&true))=true
      rw[sg'];rfl
   ·unfold sI at m;rw[List.mem_singleton.mp m];show(true&&(A1 (vT g)&&(true&&true)))=true
    rw[sg];rfl
  ·exact Kf tr (List.mem_append_left _ m)
 ·exact Kf tr (List.mem_append_right _ m)
def bM (ms:List (Nat×Cv))(i:Nat):Int:=((List.range i).map λj=>P9 (W2 ms j)).sum
theorem qI {ms:List (Nat×Cv)}{i:Nat}:bM ms (i+1)=bM ms i+P9 (W2 ms i):=by
 unfold bM;rw[List.range_succ,qP,List.sum_append];simp
theorem tT {ms ks:List (Nat×Cv)}{n i:Nat}(h:i<=n):bg (fz ms ks n) i=bM ms i:=by
 unfold bg bM;rw[xJ h];unfold fz;rw[List.map_map];rfl
theorem oW {ms ks:List (Nat×Cv)}{n:Nat}{lasts:Int}(gm:J4 true ms)(gk:J4 false ks)(n24:n<=24)(lo:∀ i,i < n->bM ms i < lasts)(hi:lasts<=bM ms n):bV ms ks (fz ms ks n) lasts:=by
 have mem:∀ f∈fz ms ks n,∃ i,f=(W2 ms i,aT ks i):=λf m=>by
  obtain⟨i,_,rfl⟩:=List.mem_map.mp m;exact⟨i,rfl⟩
 refine⟨⟨by rw[Q6];exact n24,λi h=>?_,?_,λf m=>?_,λf m=>?_⟩,λi h=>?_⟩
 ·rw[Q6] at h;rw[tT (by omega)];exact lo i h
 ·rw[Q6,tT (qR _)];exact hi
 ·obtain⟨i,rfl⟩:=mem f m;exact(iT gm i).2
 ·obtain⟨i,rfl⟩:=mem f m;exact(oB gk i).2
 ·rw[iU];exact⟨(iT gm i).1,(oB gk i).1⟩
theorem nP {ms ks:List (Nat×Cv)}{fr:List Fr}{lasts:Int}(h:bV ms ks fr lasts):(∀ i,i < fr.length->bM ms i < lasts)/\lasts<=bM ms fr.length:=by
 have e:=jW h;have a:∀ i,i<=fr.length->bg fr i=bM ms i:=λi hi=>by
  rw[e];exact tT hi
 refine⟨λi hi=>?_,?_⟩
 ·rw[<- a i (by omega)];exact h.1.lo i hi
 ·rw[<- a _ (qR _)];exact h.1.hi
theorem yqW {ms ks k2:List (Nat×Cv)}{fr f2:List Fr}{lasts:Int}(h:bV ms ks fr lasts)(h2:bV ms k2 f2 lasts):fr.length=f2.length:=by
 obtain⟨a,b⟩:=nP h;obtain⟨c,d⟩:=nP h2;rcases Nat.lt_trichotomy fr.length f2.length with l | l | l
 ·have:=c _ l;omega
 ·exact l
 ·have:=a _ l;omega
theorem jM {j:Bool}{c d:Cv}{k:Nat}(gc:W4 j c)(gd:W4 j d)(ne:c≠d)(hk:1 < k):J4 j [(1,c),(k,d)]:=by
 refine⟨by show 2<=100;decide,rfl,λi h=>?_,λi h=>?_,λx m=>?_⟩
 ·have z:i=0:=by have:i+1 < 2:=h;omega
  subst z;exact hk
 ·have z:i=0:=by have:i+1 < 2:=h;omega
  subst z;exact ne
 ·rcases List.mem_cons.mp m with rfl | m
  ·exact gc
  ·rw[List.mem_singleton.mp m];exact gd
theorem dX {j:Bool}{c:Cv}(gc:W4 j c):J4 j [(1,c)]:=by
 refine⟨by show 1<=100;decide,rfl,λi h=>absurd (show i+1 < 1 from h) (by omega),λi h=>absurd (show i+1 < 1 from h) (by omega),λx m=>?_⟩;rw[List.mem_singleton.mp m];exact gc
theorem dM {k:Int}(h:-7<=k/\k<=7):W4 false (.k k):=h
def U0:Mt:=⟨4,4,[]⟩
def aU:Mt:=⟨3,4,[]⟩
def fS:Mt:=⟨3,8,[]⟩
theorem xX:E4 U0:=⟨by decide,by decide,.inr (.inl rfl),by decide,(λ_ h=>nomatch h),.inl rfl,by decide⟩
theorem xZ:E4 aU:=⟨by decide,by decide,.inr (.inl rfl),by decide,(λ_ h=>nomatch h),.inl rfl,by decide⟩
theorem vF:E4 fS:=⟨by decide,by decide,.inr (.inr rfl),by decide,(λ_ h=>nomatch h),.inl rfl,by decide⟩
theorem vV {a b:Mt}{k i:Nat}:W2 [(1,.m a),(k,.m b)] i=if k<=i+1 then b else a:=by
 unfold W2 Y7;by_cases h:k<=i+1
 ·simp[h]
 ·simp[h]
theorem ZX {a:Mt}{i:Nat}:W2 [(1,.m a)] i=a:=by
 unfold W2 Y7;simp
theorem sM {a:Mt}:∀ i:Nat,bM [(1,.m a)] i=P9 a*i
 | 0=>by unfold bM;simp
 | i+1=>by
  rw[qI,sM i,ZX]
  push_cast
  rw[Int.mul_add,Int.mul_one]
theorem rK {a b:Mt}{k:Nat}:∀ i:Nat,i < k->bM [(1,.m a),(k,.m b)] i=P9 a*i
 | 0,_=>by unfold bM;simp
 | i+1,h=>by
  rw[qI,rK i (by omega),vV,if_neg (by omega)]
  push_cast
  rw[Int.mul_add,Int.mul_one]
theorem yiU {vss:List (List Sn)}{last:Nat}{tk:Th}(l1:1<=last)(h:M7 (vss.map x9)<=96*(last:Int)):¬ ∃ ms ks v2 fr,u7 [(1,.m U0),(last+1,.m aU)]=u7 ms/\tk=u7 ks/\A5 vss=A5 v2/\O2 ms ks v2 fr:=λ⟨ms,ks,v2,fr,e,_,ev,ok⟩=>by
 have g:J4 true [(1,.m U0),(last+1,.m aU)]:=jM xX xZ (by decide) (by omega);have e:=hG g ok.m e;subst e;rw[iJ ev] at h;obtain⟨c,hc,hl⟩:=ok.lm;have hc:(last+1,Cv.m aU)=c:=by simpa using hc
 subst hc;have:=(nP ok.f).1 last hl;rw[rK last (by omega),show P9 U0=96 from rfl] at this;omega
theorem yjc {ms ks:List (Nat×Cv)}{vss:List (List Sn)}{fr:List Fr}(ok:O2 ms ks vss fr):¬ ∃ m2 k2 v2 f2,u7 ms=u7 m2/\u7 [(1,.k 3),(fr.length+1,.k 2)]=u7 k2/\A5 vss=A5 v2/\O2 m2 k2 v2 f2:=λ⟨m2,k2,v2,f2,em,e,ev,ok2⟩=>by
 obtain⟨c,_,h1⟩:=ok.lm;have l1:1<=fr.length:=by
  have:=ok.f.1.hi;cases fr with
  | nil=>
   have g1:=ok.m.one;cases ms with
   | nil=>cases g1
   | cons a r=>
    obtain⟨c,hc,hl⟩:=ok.lm;have hl:c.1<=0:=hl;have:=List.mem_of_getLast? hc;have a1:a.1=1:=by simpa using g1
    obtain⟨i,hi,ei⟩:=List.mem_iff_getElem.mp this;cases i with
    | zero=>rw[<- ei] at hl;have:a.1<=0:=hl;omega
    | succ i=>have:=ok.m.up i hi;rw[ei] at this;omega
  | cons=>simp
 have g:J4 false [(1,.k 3),(fr.length+1,.k 2)]:=jM (dM (by decide)) (dM (by decide)) (by decide) (by omega);have e:=hG g ok2.k e;subst e;have em:=hG ok.m ok2.m em;subst em;have ev:=iJ ev;subst ev;obtain⟨c,hc,hl⟩:=ok2.lk;have hc:(fr.length+1,Cv.k 2)=c:=by simpa using hc
 subst hc;have:=yqW ok.f ok2.f;omega
theorem yn6 {ms ks:List (Nat×Cv)}{vss:List (List Sn)}{fr:List Fr}(ok:O2 ms ks vss fr)(h:1 < fr.length):O2 ms [(1,.k 3),(fr.length,.k 2)] vss (fz ms [(1,.k 3),(fr.length,.k 2)] fr.length):=by
 have g:J4 false [(1,.k 3),(fr.length,.k 2)]:=jM (dM (by decide)) (dM (by decide)) (by decide) h;obtain⟨a,b⟩:=nP ok.f;refine⟨ok.m,g,ok.v,oW ok.m g ok.f.1.len a b,?_,⟨_,rfl,by rw[Q6];exact qR _⟩⟩;obtain⟨c,hc,hl⟩:=ok.lm;exact⟨c,hc,by rw[Q6];exact hl⟩
theorem yo3 {vss:List (List Sn)}{last:Nat}(gv:V4 vss)(h1:1 < last)(h2:last<=20)(lo:96*((last:Int) - 1) < M7 (vss.map x9))(hi:M7 (vss.map x9)<=96*(last:Int)):∃ fr,O2 [(1,.m U0),(last,.m aU)] [(1,.k 0)] vss fr:=by
 have gm:J4 true [(1,.m U0),(last,.m aU)]:=jM xX xZ (by decide) h1;have gk:J4 false [(1,.k 0)]:=dX (dM (by decide));have g4:P9 U0=96:=rfl;have g3:P9 aU=72:=rfl;have e0:bM [(1,.m U0),(last,.m aU)] (last - 1)=96*((last:Int) - 1):=by
  rw[rK (last - 1) (by omega),g4];omega
 have e1:bM [(1,.m U0),(last,.m aU)] last=96*((last:Int) - 1)+72:=by
  have:=qI (ms:=[(1,.m U0),(last,.m aU)]) (i:=last - 1);rw[show last - 1+1=last by omega,e0,vV,if_pos (by omega),g3] at this;exact this
 have e2:bM [(1,.m U0),(last,.m aU)] (last+1)=96*((last:Int) - 1)+144:=by
  rw[qI,e1,vV,if_pos (by omega),g3];omega
 have low:∀ i,i < last->bM [(1,.m U0),(last,.m aU)] i < M7 (vss.map x9):=λi hi=>by
  rw[rK i hi,g4];omega
 by_cases z:M7 (vss.map x9)<=96*((last:Int) - 1)+72
 ·exact⟨_,gm,gk,gv,oW gm gk (n:=last) (by omega) low (by omega),⟨_,rfl,by rw[Q6];exact qR _⟩,⟨_,rfl,by rw[Q6];exact Nat.le_of_lt h1⟩⟩
 ·refine⟨_,gm,gk,gv,oW gm gk (n:=last+1) (by omega) (λi hi=>?_) (by rw[e2];omega),⟨_,rfl,by rw[Q6];exact Nat.le_succ last⟩,⟨_,rfl,by rw[Q6];exact Nat.succ_le_succ (Nat.zero_le last)⟩⟩;rcases Nat.lt_succ_iff_lt_or_eq.mp hi with h | rfl
  ·exact low i h
  ·rw[e1];omega
def R1 (n:Int):Sn:=.tones [⟨1,0,4⟩] n "" false false
theorem ysF {n:Int}(h:2<=n/\n<=384):K3 (R1 n):=⟨⟨by decide,by decide,λp m=>by rw[List.mem_singleton.mp m];exact⟨by decide,by decide,by decide,by decide,by decide,by decide⟩,λi h=>absurd (show i+1 < 1 from h) (by omega)⟩,h.1,h.2,.inl rfl⟩
theorem yn0:V4 [List.replicate 12 (R1 72)]:=⟨by decide,by decide,λss m=>by
 rw[List.mem_singleton.mp m];exact⟨by decide,by decide,λs hs=>by rw[List.eq_of_mem_replicate hs];exact ysF (by decide),by ac_rfl,by ac_rfl,by simp[L4,R1,Y3]⟩⟩
theorem xC:M7 ([List.replicate 12 (R1 72)].map x9)=864:=by ac_rfl
theorem ymg:M7 ([List.replicate 12 (R1 72)++[R1 2]].map x9)=866:=by ac_rfl
theorem HZ:∃ fr,O2 [(1,.m fS)] [(1,.k 0)] [List.replicate 12 (R1 72)] fr:=by
 have gm:J4 true [(1,.m fS)]:=dX vF;have gk:J4 false [(1,.k 0)]:=dX (dM (by decide));have g:P9 fS=36:=rfl;refine⟨_,gm,gk,yn0,oW gm gk (n:=24) (by decide) (λi hi=>?_) ?_,⟨_,rfl,by rw[Q6];show 1<=24;decide⟩,⟨_,rfl,by rw[Q6];show 1<=24;decide⟩⟩
 ·rw[sM,xC,g];omega
 ·rw[sM,xC,g];decide
theorem yut {tk:Th}:¬ ∃ ms ks v2 fr,u7 [(1,.m fS)]=u7 ms/\tk=u7 ks/\A5 [List.replicate 12 (R1 72)++[R1 2]]=A5 v2/\O2 ms ks v2 fr:=λ⟨ms,ks,v2,fr,e,_,ev,ok⟩=>by
 have e:=hG (dX (j:=true) (c:=.m fS) vF) ok.m e;subst e;have ev:=iJ ev;subst ev;have h:=(nP ok.f).2;have l:=ok.f.1.len;rw[sM,ymg,show P9 fS=36 from rfl] at h;omega
theorem b_ {tm tk:Th}{n:Nat}{vss:List (List Sn)}(hn:n < 5)(m:fU n∈vss):¬ ∃ ms ks v2 fr,tm=u7 ms/\tk=u7 ks/\A5 vss=A5 v2/\O2 ms ks v2 fr:=R7 (CJ λg=>yro n hn (g.2.2 _ m).sl)
theorem V2 {j:Bool}{cs:List (Nat×Cv)}(g:J4 j cs):A1 (u7 cs)=true:=ytq g.len λc m=>by
 have h:=g.g c m;cases e:c.2 with
 | m m=>
  rw[e] at h;cases j with
  | true=>exact yuX (by have:=E4.len h;omega)
  | false=>exact h.elim
 | k k=>rfl
theorem nH {H Hs:Hp}{x dx:Addr}{mx kx vx:V}{ms ks:List (Nat×Cv)}{vss:List (List Sn)}{fr:List Fr}{Q:VK}{E:XK}(ha:H x=none)(hd:H dx=none)(ne:dx≠x)(sH:b9 Hs H)(im:Is Hs mx (u7 ms))(ik:Is Hs kx (u7 ks))(iv:Is Hs vx (A5 vss))(ok:O2 ms ks vss fr)
  (q:∀ H',b9 H H'->C0 t (nw (tpo Hs) H H') (.ref x) ms ks (vss.map x9) fr->Q .non H'):Kr t [.ref x,mx,kx,vx] (upd (upd H dx (.own x)) x (.ins t.RC dx [])) Q E:=by
 refine⟨x,dx,mx,kx,vx,_,_,_,Hs,H,rfl,f9,ha,iB ha hd ne,sH,im,ik,iv,V2 ok.m,V2 ok.k,iL ok.v,λms' ks' vss' fr' e1 e2 e3 ok' H' s' tu=>?_,λno=>absurd ⟨ms,ks,vss,fr,rfl,rfl,rfl,ok⟩ no⟩;have e1:=hG ok.m ok'.m e1;have e2:=hG ok.k ok'.k e2;have e3:=iJ e3;subst e1 e2 e3;have e4:=Vm ok.m ok'.f ok.f;subst e4;exact q H' s' tu
theorem jy {Hs:Hp}{C:St->Prop}{i:Nat}{n k:Int}(h:∀ σ,C σ->σ[i]?=some (some (.int n))):B8 Hs C (R5 (Z1 λi j=>V.int (i+j)) (D7 i) (tC (.int k))) (nT (n+k)):=fun σ H Q _ c q=>M9 (E9 (h σ c) (Q5 (iE (q _ _ (b9.refl _) (M5 _ _)))))
def ymh:Sp:=λvs H Q _=>∃ (mx vx:V) (ms ks:List (Nat×Cv)) (vss:List (List Sn)) (fr:List Fr),vs=[mx,vx,.int fr.length]/\Is H mx (u7 ms)/\Is H vx (A5 vss)/\O2 ms ks vss fr/\0 < M7 (vss.map x9)/\M7 (vss.map x9)<=773/\∀ H',b9 H H'->Q (.bl true) H'
theorem ytu:OF P w base T.zC 12 ymh:=by
 o_head (T.zC.F,X5);obtain⟨mx,vx,ms,ks,vss,fr,rfl,im,iv,ok,la0,la1,q⟩:=h;obtain⟨a,xs,rfl,ea,is⟩:=Is.ls (show Is H vx (.ls (vss.map vT)) from iv);refine⟨_,(f7 (p0 3 X5.nd (g8 (b7 c8 (b7 c8 (b7 (g8 c6) c6))))) (f7 (p0 4 X5.nd (o6 (rM T) hr (b7 (O9 (L0 (NB:=["_law_voice_here"]) (cap:=[none]) rfl) rfl (K2 (pv 1)) (λ_ _ _ _=>O6 0) (λ_ _ _ _=>L8) (λ_ _ _ _=>(o6 (jn T) hr (b7 (pv 0) c6)))) c6))) (f7 (p0 5 X5.nd (u9 lF (u9 O8 (pv 4) c8) c8)) (f7 (A7 (L3 (F4 (o6 (fL T) hr (b7 (j8 (b7 (g8 (b7 c8 (b7 (pv 3) c6))) (b7 (g8 (b7 (u9 O8 (pv 5) c8) (b7 (g8 (b7 c8 (b7 c8 (b7 (g8 c6) c6)))) c6))) c6))) (b7 (j8 (b7 (g8 (b7 c8 (b7 c8 c6))) c6)) (b7 (pv 1) c6)))))) (j0 (r6 v8)) B4) (f7 (A7 (L3 (F4 (o6 (fL T) hr (b7 (pv 0) (b7 (j8 (b7 (g8 (b7 c8 (b7 c8 c6))) (b7 (g8 (b7 (u9 O8 (pv 2) c8) (b7 c8 c6))) c6))) (b7 (pv 1) c6)))))) (j0 (r6 v8)) B4) (f7 (A7 (PW.pt (iV (C3 jv (pv 5) c8 (z5 _)) (jF (C3 (bQ hu) (aJ (dD T.JR (kY T) (B2 hr) rfl T.JQ T.zn.B .nil jR (b7 (j8 (b7 (g8 (b7 c8 (b7 (pv 3) c6))) (b7 (g8 (b7 (pv 5) (b7 (g8 (b7 c8 (b7 c8 (b7 (g8 c6) c6)))) c6))) c6))) (b7 (j8 (b7 (g8 (b7 c8 (b7 c8 c6))) c6)) (b7 (pv 1) c6)))) T.Jb T.QA (mG T) (B2 hr) T.zR.B .nil K4) (pv 4) (z5 _))))) (j0 (r6 v8)) B4) (f7 (p0 6 X5.nd (j8 (b7 (g8 (b7 c8 (b7 c8 c6))) (b7 (g8 (b7 (pv 2) (b7 c8 c6))) c6)))) (j0 (r6 (oK (N2 S4 (pv 2) c8 (z5 _)) (N6 (N2 (X3 hu) (aJ (dD T.JR (kY T) (B2 hr) rfl T.JQ T.zn.B .nil jR (b7 (pv 0) (b7 (pv 6) (b7 (pv 1) c6)))) T.Jb T.QM (wL T) (B2 hr) T.zh.B .nil K4) (pv 6) (z5 _))))))))))))),?_⟩;refine x4 (D8 ?_);refine(show bK _ (E2 U0) from ?_) _ _ _ λw1 H1 s1 i1=>?_
 ·exfalso
 have i1:=i1.same (K5 _ _);left;have n2:=ok.v.2.1;refine⟨a,rfl,⟨_,d0.of (s1 _ _ ea)⟩,λD hD=>wU (Hs:=H1) (us:=vss) (g:=vT) (λss=>vT (x9 ss)) (b9.refl _) (s1 _ _ ea) (is.same s1) hD (by omega) (λx ss H' Q' hu sm rx q'=>?_) λH2 s2 iD=>?_⟩
 ·left;have g:=ok.v.2.2 ss hu;exact⟨x,ss,H1,rfl,sm,rx,g.n1,g.n2,q'⟩
 have iD:=iD.same (B7 (b9.refl _) s2);left;refine⟨_,vss.map x9,rfl,by unfold A5;rw[List.map_map];exact iD,kM ok.v,λH3 s3=>?_⟩;refine A2 ?_;refine x4 (D8 (M9 (M9 (E9 rfl (Q5 (iE (Q5 (Vs (by decide) (A2 ?_)))))))));generalize hL:M7 (vss.map x9)=L at la0 la1;have hN:(L+95) / 96=(((L+95) / 96).toNat:Int):=by omega
 have lN1:96*((((L+95) / 96).toNat:Int) - 1) < L:=by omega
 have lN2:L<=96*(((L+95) / 96).toNat:Int):=by omega
 have lN3:1<=((L+95) / 96).toNat/\((L+95) / 96).toNat<=20:=by omega
 rw[hN];generalize ((L+95) / 96).toNat=last at lN1 lN2 lN3 |-;have s03:=(s1.trans s2).trans s3;have i3:Is H3 w1 (E2 U0):=i1.same (s2.trans s3);dsimp only;refine x4 (W1 (rW (qX (dN (E8 ?_)))));refine G0 (Hs:=H3) (C:=fun σ=>σ[3]?=some (some w1)/\σ[5]?=some (some (.int last))) (tr:=u7 [(1,.m U0),(last+1,.m aU)]) ?_ (b9.refl _) ⟨rfl,rfl⟩ λw4 H4 s4 i4=>?_
 ·have vg:B8 H3 (fun σ=>σ[3]?=some (some w1)/\σ[5]?=some (some (.int last))) (D7 3) (E2 U0):=V0 fun σ c=>⟨w1,c.1,i3⟩
  have va:B8 H3 (fun σ=>σ[3]?=some (some w1)/\σ[5]?=some (some (.int last))) (R5 (Z1 λi j=>V.int (i+j)) (D7 5) (tC (.int 1))) (nT ((last+1:Nat):Int)):=jy (n:=last) (k:=1) fun σ c=>c.2
  exfalso
 refine E8 ?_;have s34:=s03.trans s4;have i4:=i4.same (B7 (b9.refl _) s4);refine G0 (Hs:=H4) (C:=λ_=>True) (tr:=u7 [(1,.k 0)]) ?_ (b9.refl _) trivial λw5 H5 s5 i5=>?_
 ·exfalso
 have i5:=i5.same (B7 (b9.refl _) s5);have s35:=s34.trans s5;refine E8 (E9 rfl (M0 ?_));refine⟨w4,w5,.ref a,_,_,_,rfl,i4.same s5,i5,iv.same s35,V2 (j:=true) (jM xX xZ (by decide) (by omega)),V2 (j:=false) (dX (dM (by decide))),iL ok.v,yiU lN3.1 (by rw[hL];exact lN2),λH6 s6=>n6 (t7 ?_)⟩;refine F9 ?_;have s06:=s35.trans s6;dsimp only;refine x4 (W1 (rW (qX (dN (E8 (E9 rfl (E8 ?_)))))));refine G0 (Hs:=H6) (C:=fun σ=>σ[2]?=some (some (.int fr.length))) (tr:=u7 [(1,.k 3),(fr.length+1,.k 2)]) ?_ (b9.refl _) rfl λw7 H7 s7 i7=>?_
 ·have va:B8 H6 (fun σ=>σ[2]?=some (some (.int fr.length))) (R5 (Z1 λi j=>V.int (i+j)) (D7 2) (tC (.int 1))) (nT ((fr.length+1:Nat):Int)):=jy (n:=fr.length) (k:=1) fun σ c=>c
  exfalso
 have i7:=i7.same (B7 (b9.refl _) s7);have s07:=s06.trans s7;refine E8 (E9 rfl (M0 ?_));have l1:1<=fr.length:=by
  cases e:fr with
  | nil=>
   have:=ok.f.1.hi;rw[e,hL] at this;have z:bg ([]:List Fr) ([]:List Fr).length=0:=rfl;omega
  | cons=>simp
 refine⟨mx,w7,.ref a,_,_,_,rfl,im.same s07,i7,iv.same s07,V2 ok.m,V2 (j:=false) (jM (dM (by decide)) (dM (by decide)) (by decide) (by omega)),iL ok.v,yjc ok,λH8 s8=>n6 (t7 ?_)⟩;refine F9 ?_;have s08:=s07.trans s8;have i8:Is H8 w1 (E2 U0):=i3.same (((s4.trans s5).trans s6).trans (s7.trans s8));dsimp only;refine x4 (X8 (te:=cM _ _ _) (fun σ H'=>σ=[some mx,some (.ref a),some (.int fr.length),some w1,some (.int L),some (.int last),none]/\b9 H H') (λnx' hN=>?_) ?_)
 ·refine W1 (jq (dP (M9 (E9 rfl (Q5 (iE (n6 (O4 (λh=>?_) λh=>?_))))))))
  ·refine dP (M9 (uV (uO (E8 ?_))));refine G0 (Hs:=H8) (C:=fun σ=>σ[3]?=some (some w1)/\σ[5]?=some (some (.int last))) (tr:=u7 [(1,.m U0),(last,.m aU)]) ?_ (b9.refl _) ⟨rfl,rfl⟩ λw9 H9 s9 i9=>?_
   ·have vg:B8 H8 (fun σ=>σ[3]?=some (some w1)/\σ[5]?=some (some (.int last))) (D7 3) (E2 U0):=V0 fun σ c=>⟨w1,c.1,i8⟩
    have va:B8 H8 (fun σ=>σ[3]?=some (some w1)/\σ[5]?=some (some (.int last))) (D7 5) (nT last):=V0 fun σ c=>⟨_,c.2,M5 _ _⟩
    exfalso
   have i9:=i9.same (B7 (b9.refl _) s9);refine E8 ?_;refine G0 (Hs:=H9) (C:=λ_=>True) (tr:=u7 [(1,.k 0)]) ?_ (b9.refl _) trivial λwa Ha sa ia=>?_
   ·exfalso
   have ia:=ia.same (B7 (b9.refl _) sa);have s8a:=s9.trans sa;refine E8 (E9 rfl (M0 ?_));intro x dx hx hd ne;obtain⟨f2,ok2⟩:=yo3 ok.v (by omega) lN3.2 (by rw[hL];exact lN1) (by rw[hL];exact lN2);refine nH hx hd ne (b9.refl _) (i9.same sa) ia (iv.same (s08.trans s8a)) ok2 λHb sb tu=>⟨rfl,?_⟩
   obtain⟨_,dx2,m2,k2,v2,fv,e,eb,_,_,ivb,_⟩:=tu.same (B7 (L9 _) sb);cases e;refine⟨x,dx2,_,rfl,eb,rfl,M0 ?_⟩;refine⟨x,dx2,_,_,_,rfl,eb,rfl,ivb,kM ok.v,λHc sc=>?_⟩;refine E9 rfl ?_;rw[hL];refine bE (tr:=nT L) ⟨rfl,A6⟩ (M5 _ _) (M5 _ _) (n6 (t7 ?_));exact F9 (hN _ _ ⟨rfl,s08.trans (s8a.trans (sb.trans sc))⟩)
  ·exact t7 (F9 (hN _ _ ⟨rfl,s08⟩))
 ·rintro σ H9 ⟨rfl,s9⟩;dsimp only;refine x4 (D8 ?_);refine G0 (Hs:=H9) (C:=fun σ=>σ[2]?=some (some (.int fr.length))) (tr:=u7 [(1,.k 3),(fr.length,.k 2)]) ?_ (b9.refl _) rfl λwa Ha sa ia=>?_
  ·have va:B8 H9 (fun σ=>σ[2]?=some (some (.int fr.length))) (D7 2) (nT fr.length):=V0 fun σ c=>⟨_,c,M5 _ _⟩
   exfalso
  have ia:=ia.same (B7 (b9.refl _) sa);have s0a:=s9.trans sa;refine A2 ?_;dsimp only;left;refine O4 (λh=>?_) λh=>?_
  ·exact q _ s0a
  ·left;intro x dx hx hd ne;have ok2:=yn6 ok (by omega);refine nH hx hd ne (b9.refl _) (im.same s0a) ia (iv.same s0a) ok2 λHb sb tu=>⟨rfl,?_⟩
   have tu:=tu.same (B7 (L9 _) sb);obtain⟨_,dx2,m2,k2,v2,fv,e,eb,_,_,ivb,_⟩:=id tu;cases e;refine⟨x,dx2,_,rfl,eb,rfl,?_⟩;left;refine⟨_,_,_,_,_,Hb,rfl,b9.refl _,tu,λy Hc sc iy=>?_⟩;left;have oc:bL (u7 [(1,.k 3),(fr.length,.k 2)]):=by
    have h:=lI (us:=[(1,Cv.k 3),(fr.length,Cv.k 2)]) (f:=L1) (k:=3) yL;exact⟨h.1,Nat.le_trans h.2 (by decide)⟩
   exact dZ oc (iy.same (B7 (L9 _) sc)) (ia.same (sb.trans sc)) (q _ (s0a.trans (sb.trans sc)))
theorem nA {Hs H H':Hp}{tp:Addr}(s:b9 Hs H)(n:Hs tp=none)(s':c9 tp H H'):b9 Hs H':=λb u e=>s' b u (λz=>by rw[z,n] at e;cases e) (s _ _ e)
theorem ypB:∀ tr∈aF (E2 ⟨4,4,[]⟩) (E2 ⟨3,4,[]⟩) (E2 ⟨3,3,[]⟩),A1 tr=true:=by ac_rfl
theorem yo6:∀ b∈[nT 8,nT (-8),bT true,.ls [nT 1],sT "0",.im .non],∀ tr∈aF (nT 3) (nT 2) b,A1 tr=true:=by ac_rfl
theorem Wa {H:Hp}{xs:List V}{us:List Th}{u:Th}(h:Iss H xs (us++[u])):∃ ys x,xs=ys++[x]/\Iss H ys us/\Is H x u:=by
 have a:=h.take us.length;have b:=h.drop us.length;rw[List.take_left] at a;rw[List.drop_left] at b;obtain⟨x,r,e,i,ir⟩:=R6 b;rw[Iss] at ir;subst ir;exact⟨xs.take us.length,x,by rw[<- e,List.take_append_drop],a,i⟩
def U5:List Int:=[0,0,0,1,2,3,4,5,6,6]
theorem yo8:∀ x∈U5,0<=x/\x<=6:=by decide
def yH:Mt:=⟨4,2,[]⟩
theorem yX:E4 yH:=⟨by decide,by decide,.inl rfl,by decide,(λ_ h=>nomatch h),.inl rfl,by decide⟩
def ypx (K:qF):Sp:=λvs H Q _=>∃ (a tp:Addr) (ns:List Int) (N:Nat) (mx kx vx:V) (ms ks:List (Nat×Cv)) (vss:List (List Sn)) (fr:List Fr) (Hs:Hp),vs=[.ref a,.ref tp,mx,kx,vx,.int fr.length]/\Dr K a tp ns H N/\N<=70000/\b9 Hs H/\Hs tp=none/\Is Hs mx (u7 ms)/\Is Hs kx (u7 ks)/\Is Hs vx (A5 vss)/\O2 ms ks vss fr/\0 < M7 (vss.map x9)/\M7 (vss.map x9)<=773/\∀ H',c9 tp H H'->Q (.bl true) H'
theorem RZ:OF P w base T.zK 13 (ypx K):=by
 o_head (T.zK.F,D0);obtain⟨a,tp,ns,N,mx,kx,vx,ms,ks,vss,fw,Hs,rfl,dr,hN,sH,nT0,im,ik,iv,ok,la0,la1,q⟩:=h;refine⟨_,(f7 (p0 6 D0.nd (F8 j9 (j8 (b7 c8 (b7 c8 (b7 c8 (b7 c8 (b7 c8 (b7 c8 (b7 c8 (b7 c8 (b7 c8 (b7 c8 c6))))))))))) (o6 (K1 T) hr (b7 (pv 0) (b7 (pv 1) (b7 c8 c6)))) (λ_ _=>rfl))) (f7 (p0 7 D0.nd (o6 (K1 T) hr (b7 (pv 0) (b7 (pv 1) (b7 c8 c6))))) (f7 (A7 (C3 S4 (pv 6) c8 (z5 _)) (j0 (r6 (o6 (ytu T) hr (b7 (pv 2) (b7 (pv 4) (b7 (pv 5) c6)))))) B4) (f7 (A7 (C3 S4 (pv 6) c8 (z5 _)) (f7 (p0 8 D0.nd (o6 (Gi T) hr (b7 (pv 7) c6))) (f7 (A7 (C3 S4 (o6 (K1 T) hr (b7 (pv 0) (b7 (pv 1) (b7 c8 c6)))) c8 (z5 _)) (j0 (p0 8 D0.nd (g8 (b7 n9 (b7 (o6 (Yc T) hr (b7 (pv 0) (b7 (pv 1) c6))) (b7 c8 (b7 n9 (b7 v8 (b7 v8 c6))))))))) B4) (f7 (p0 9 D0.nd (o6 (K1 T) hr (b7 (pv 0) (b7 (pv 1) (b7 (u9 O8 (z8 T7 rfl T.Ji PySem.boot_len (b7 (F8 j9 (pv 4) (X2 W6 c8) (λ_ _=>rfl)) c6)) c8) c6))))) (f7 (p0 10 D0.nd (bA dJ (pv 4) bP (bS (X2 W6 c8)))) (f7 (p0 11 D0.nd (F8 j9 (pv 4) (X2 W6 c8) (λ_ _=>rfl))) (f7 (E7 (U1 (pv 10) (b7 (u9 O1 (u9 O1 (bA dJ (pv 11) bP (bS (pv 9))) (j8 (b7 (pv 8) c6))) (bA dJ (pv 11) (bS (pv 9)) bP)) c6))) (j0 (r6 (N0 (o6 (ys3 T) hr (b7 (pv 8) c6)) (N6 (o6 (fL T) hr (b7 (pv 2) (b7 (pv 3) (b7 (pv 10) c6)))))))))))))) B4) (f7 (A7 (C3 S4 (pv 6) c8 (z5 _)) (f7 (p0 8 D0.nd (o6 (Kj T) hr (b7 (pv 7) (b7 (g8 (b7 c8 (b7 c8 (b7 (g8 c6) c6)))) (b7 (g8 (b7 c8 (b7 c8 (b7 (g8 c6) c6)))) (b7 (g8 (b7 c8 (b7 c8 (b7 (g8 c6) c6)))) c6)))))) (j0 (r6 (o6 (fL T) hr (b7 (pv 8) (b7 (pv 3) (b7 (pv 4) c6))))))) B4) (f7 (A7 (C3 S4 (pv 6) c8 (z5 _)) (f7 (p0 12 D0.nd (j8 (b7 c8 (b7 (X2 W6 c8) (b7 v8 (b7 (j8 (b7 c8 c6)) (b7 n9 (b7 V3 c6)))))))) (f7 (p0 8 D0.nd (o6 (Kj T) hr (b7 (pv 7) (b7 c8 (b7 c8 (b7 (F8 j9 (pv 12) (u9 dA (u9 lF (pv 7) c8) c8) (λ_ _=>rfl)) c6)))))) (j0 (r6 (o6 (fL T) hr (b7 (pv 2) (b7 (pv 8) (b7 (pv 4) c6)))))))) B4) (f7 (A7 (C3 S4 (pv 6) c8 (z5 _)) (j0 (r6 (o6 (fL T) hr (b7 (pv 2) (b7 (pv 3) (b7 (o6 (yt2 T) hr (b7 (pv 7) (b7 (pv 4) c6))) c6)))))) B4) (f7 (A7 (C3 S4 (pv 6) c8 (z5 _)) (f7 (p0 13 D0.nd (j8 (b7 (o6 (xB T) hr (b7 c8 c6)) (b7 (o6 (xB T) hr (b7 c8 c6)) c6)))) (f7 (A7 (L3 (F4 (o6 (fL T) hr (b7 (j8 (b7 (g8 (b7 c8 (b7 (g8 (b7 c8 (b7 c8 (b7 (g8 c6) c6)))) c6))) c6)) (b7 (j8 (b7 (g8 (b7 c8 (b7 c8 c6))) c6)) (b7 (pv 13) c6)))))) (j0 (r6 v8)) B4) (j0 (r6 (o6 (fL T) hr (b7 (j8 (b7 (g8 (b7 c8 (b7 (g8 (b7 c8 (b7 c8 (b7 (g8 c6) c6)))) c6))) c6)) (b7 (j8 (b7 (g8 (b7 c8 (b7 c8 c6))) c6)) (b7 (j8 (b7 (o6 (xB T) hr (b7 (u9 dA (pv 7) c8) c6)) c6)) c6)))))))) B4) (f7 (p0 14 D0.nd (u9 lS (j8 (b7 (g8 (b7 n9 (b7 (j8 (b7 (g8 (b7 c8 (b7 c8 (b7 c8 c6)))) c6)) (b7 c8 (b7 n9 (b7 v8 (b7 v8 c6))))))) c6)) c8)) (f7 (A7 (C3 (bQ hu) (aJ (dD T.JR (kY T) (B2 hr) rfl T.JQ T.zn.B .nil jR (b7 (j8 (b7 (g8 (b7 c8 (b7 (g8 (b7 c8 (b7 c8 (b7 (g8 c6) c6)))) c6))) c6)) (b7 (j8 (b7 (g8 (b7 c8 (b7 c8 c6))) c6)) (b7 (j8 (b7 (bC eJ rfl T.Jg Y1 (b7 (pv 14) c6)) c6)) c6)))) T.Jb T.QA (mG T) (B2 hr) T.zR.B .nil K4) c8 (z5 _)) (j0 (r6 v8)) B4) (f7 (E7 (U1 (pv 14) (b7 (g8 (b7 n9 (b7 (j8 (b7 (g8 (b7 c8 (b7 c8 (b7 c8 c6)))) c6)) (b7 c8 (b7 n9 (b7 v8 (b7 v8 c6))))))) c6))) (f7 (p0 4 D0.nd (j8 (b7 (pv 14) c6))) (f7 (p0 2 D0.nd (j8 (b7 (g8 (b7 c8 (b7 (g8 (b7 c8 (b7 c8 (b7 (g8 c6) c6)))) c6))) c6))) (j0 (r6 (o6 (fL T) hr (b7 (pv 2) (b7 (pv 3) (b7 (pv 4) c6))))))))))))))))))),?_⟩;have ne:∀ p:Addr,H p=none->p≠tp:=λp h z=>by obtain⟨u,e⟩:=dr.some;rw[<- z,h] at e;cases e
 refine x4 (X8 (te:=bY _ _) (fun σ H'=>∃ w:Int,0<=w/\w<=6/\σ=[some (.ref a),some (.ref tp),some mx,some kx,some vx,some (.int fw.length),some (.int w),none,none,none,none,none,none,none,none]/\c9 tp H H'/\Dr K a tp ns H' (N+1)) (λD' hD=>?_) ?_)
 ·left;refine D6 λp1 h1=>?_
  have s1:=m8 h1 (.lst (U5.map V.int));have e1:upd H p1 (.lst (U5.map V.int)) p1=some (.lst (U5.map V.int)):=f9;have ne1:=ne _ h1;show cI _ _ _ _ _ (upd H p1 (.lst (U5.map V.int))) _
  have d1:=dr.same s1;generalize upd H p1 (.lst (U5.map V.int))=H1 at s1 e1 d1 |-;left;refine⟨a,tp,ns,N,_,rfl,d1,by omega,by decide,by decide,λv H2 v0 v1 s2 d2=>?_⟩;have hv:v.toNat < U5.length:=by show v.toNat < 10;omega
  have ex:(U5.map V.int)[v.toNat]?=some (.int U5[v.toNat]):=by rw[qm,qG hv];rfl
  have ea:=J0 ex;rw[Int.toNat_of_nonneg v0] at ea;have wk:=yo8 _ (List.getElem_mem hv);exact M8 (d0.of (s2 _ _ ne1 e1)) ea (A2 (hD _ _ ⟨_,wk.1,wk.2,rfl,c9.trans (b9.tt s1) s2,d2⟩))
 rintro σ H1 ⟨w,w0,w6,rfl,s1,d1⟩;dsimp only;refine x4 (X8 (te:=bY _ _) (fun σ H'=>∃ n:Int,0<=n/\n < 1000/\σ=[some (.ref a),some (.ref tp),some mx,some kx,some vx,some (.int fw.length),some (.int w),some (.int n),none,none,none,none,none,none,none]/\c9 tp H H'/\Dr K a tp ns H' (N+2)) (λD' hD=>?_) ?_)
 ·left;refine⟨a,tp,ns,_,_,rfl,d1,by omega,by decide,by decide,λv H2 v0 v1 s2 d2=>A2 (hD _ _ ⟨v,v0,v1,rfl,c9.trans s1 s2,d2⟩)⟩
 rintro σ H2 ⟨n,n0,n1,rfl,s2,d2⟩;have sH2:=nA sH nT0 s2;dsimp only;refine x4 (W1 (dP (M9 (E9 rfl (Q5 (fD (n6 (O4 (λh6=>?_) λh6=>F9 ?_))))))))
 ·left;exact⟨mx,vx,ms,ks,vss,fw,rfl,im.same sH2,iv.same sH2,ok,la0,la1,λH' s'=>q _ (c9.trans s2 (b9.tt s'))⟩
 dsimp only;refine x4 (W1 (dP (M9 (E9 rfl (Q5 (fD (n6 (O4 (λh0=>?_) λh0=>F9 ?_))))))))
 ·refine x4 (D8 (dN (E8 (E9 rfl (M0 ?_)))));refine⟨n,rfl,n0,λx3 tr H3 m3 s3 i3=>A2 ?_⟩;have d3:=d2.same s3;have s23:=c9.trans s2 (b9.tt s3);dsimp only;refine x4 (X8 (te:=cM _ _ _) (fun σ H'=>∃ (x:V) (tr:Th),σ=[some (.ref a),some (.ref tp),some mx,some kx,some vx,some (.int fw.length),some (.int w),some (.int n),some x,none,none,none,none,none,none]/\c9 tp H H'/\Dr K a tp ns H' (N+20)/\Is (fr H H') x tr/\eD tr=false/\A1 tr=true) (λD' hD=>?_) ?_)
  ·refine W1 (dP (M9 (dN (E8 (E9 rfl (E8 (E9 rfl (E8 (Q5 (M0 ?_))))))))));refine⟨a,tp,ns,_,_,rfl,d3,by omega,by decide,by decide,λv H4 v0 v1 s4 d4=>Q5 (fD (n6 (O4 (λhv=>?_) λhv=>?_)))⟩
   ·have s24:=c9.trans s23 s4;left;refine⟨a,tp,ns,_,rfl,d4,by omega,λy ps H5 no l4 s5 d5 iy=>?_⟩;left;refine⟨by show 6<=sizeLine;decide,λp6 h6'=>A2 (hD _ _ ⟨_,_,rfl,c9.trans (c9.trans s24 s5) (b9.tt (m8 h6' _)),(d5.same (m8 h6' _)).up (by omega),?_,yjz no,ja (ps:=ps) (n:=24) (wd := "") (op:=false) (cl:=false) (by omega) (by decide)⟩)⟩;have s25:=c9.trans s24 s5;exact sR (by rw[L5 (d5.free s25 h6')];exact f9) ((iy.same (jD d4 s24)).same (J6 (m8 h6' _)))
   ·refine F9 (hD _ _ ⟨x3,tr,rfl,c9.trans s23 s4,d4.up (by omega),?_,(Vn tr m3).1,(Vn tr m3).2⟩);exact(i3.same (jD d2 s2)).same (dr.fr s4)
  rintro σ H4 ⟨x,tr,rfl,s4,d4,i4,no,sm⟩;dsimp only;have sH4:=nA sH nT0 s4;obtain⟨vi,vl,rfl⟩:∃ vi vl,vss=vi++[vl]:=⟨vss.dropLast,vss.getLast (λz=>by have:=ok.v.1;rw[z] at this;cases this),(List.dropLast_concat_getLast _).symm⟩;obtain⟨b,xs,rfl,eb,isx⟩:=Is.ls (show Is Hs vx (.ls ((vi++[vl]).map vT)) from iv);rw[qP] at isx;obtain⟨ys,xl,rfl,iys,ixl⟩:=Wa isx;obtain⟨l,zs,rfl,el,iz⟩:=Is.ls (show Is Hs xl (.ls (vl.map z6)) from ixl);have gl:=ok.v.2.2 vl (by simp);have lz:zs.length=vl.length:=by rw[iz.len,qM]
  have g2:=gl.n2;refine x4 (D8 ?_);left;refine M8 (d0.of (sH4 _ _ eb)) (fH _ _) ?_;left;refine⟨l,zs,rfl,.inl (d0.of (sH4 _ _ el)),?_⟩;left;refine⟨a,tp,ns,_,_,rfl,d4,by omega,by omega,by omega,λv H5 v0 v1 s5 d5=>?_⟩;have s05:=c9.trans s4 s5;have sH5:=nA sH nT0 s05;have i5:=(i4.same (dr.fr s5)).same (K5 _ _);have ev:v=(v.toNat:Int):=by omega
  have lk:v.toNat<=zs.length:=by omega
  generalize v.toNat=k at ev lk;subst ev;left;refine⟨1,rfl,-1,rfl,b,_,rfl,d0.of (sH5 _ _ eb),λp6 h6'=>?_⟩;rw[Kp];have s6:=m8 h6' (.lst ys);have e6:upd H5 p6 (.lst ys) p6=some (.lst ys):=f9;generalize upd H5 p6 (.lst ys)=H6 at s6 e6 |-;have sH6:=sH5.trans s6;left;refine M8 (d0.of (sH6 _ _ eb)) (fH _ _) ?_;left;refine⟨.inl ⟨rfl,_,d0.of e6⟩,?_⟩;left;refine⟨_,rfl,k,rfl,l,zs,rfl,d0.of (sH6 _ _ el),λp7 h7=>?_⟩;rw[qW zs k lk];have s7:=m8 h7 (.lst (zs.take k));have e7:upd H6 p7 (.lst (zs.take k)) p7=some (.lst (zs.take k)):=f9;generalize upd H6 p7 (.lst (zs.take k))=H7 at s7 e7 |-;left;refine D6 λp8 h8=>?_
  have s8:=m8 h8 (.lst [x]);refine⟨p7,p8,_,_,rfl,rfl,s8 _ _ e7,f9,S6 (by rw[qT,qS];omega),λp9 h9=>?_⟩;have s9:=m8 h9 (.lst (zs.take k++[x]));have e9:upd (upd H7 p8 (.lst [x])) p9 (.lst (zs.take k++[x])) p9=some (.lst (zs.take k++[x])):=f9;have s69:=s7.trans (s8.trans s9);generalize upd (upd H7 p8 (.lst [x])) p9 (.lst (zs.take k++[x]))=H9 at s69 e9 |-;left;refine⟨_,rfl,k,rfl,l,zs,rfl,d0.of (s69 _ _ (sH6 _ _ el)),λpa ha=>?_⟩;rw[nW zs k lk];have sa:=m8 ha (.lst (zs.drop k));refine⟨p9,pa,_,_,rfl,rfl,sa _ _ e9,f9,S6 (by rw[qA,qT,List.length_drop,qS];omega),λpb hb=>?_⟩;have sb:=m8 hb (.lst (zs.take k++[x]++zs.drop k));have ebb:upd (upd H9 pa (.lst (zs.drop k))) pb (.lst (zs.take k++[x]++zs.drop k)) pb=some (.lst (zs.take k++[x]++zs.drop k)):=f9;have s6b:=s69.trans (sa.trans sb);have npb:pb≠p6:=λz=>by rw[z,sa _ _ (s69 _ _ e6)] at hb;cases hb
  generalize upd (upd H9 pa (.lst (zs.drop k))) pb (.lst (zs.take k++[x]++zs.drop k))=Hb at s6b ebb |-;left;have ly:=iys.len;rw[qM] at ly;have n2:=ok.v.2.1;rw[qA,qS] at n2;refine Q9 (s6b _ _ e6) (F1 (by omega)) ?_;have s5c:b9 H5 (upd Hb p6 (.lst (ys++[.ref pb]))):=O5 h6' (s6.trans s6b);have e6c:upd Hb p6 (.lst (ys++[.ref pb])) p6=some (.lst (ys++[.ref pb])):=f9;have ebc:upd Hb p6 (.lst (ys++[.ref pb])) pb=some (.lst (zs.take k++[x]++zs.drop k)):=by rw[u6 npb];exact ebb
  generalize upd Hb p6 (.lst (ys++[.ref pb]))=Hc at s5c e6c ebc |-;have sHc:=sH5.trans s5c;have izc:=iz.same sHc;have ibc:Is Hc (.ref pb) (.ls ((vl.map z6).take k++[tr]++(vl.map z6).drop k)):=E3 ebc (((izc.take k).app (A9 (i5.same s5c) (J7 _))).app (izc.drop k));have i6c:Is Hc (.ref p6) (.ls (vi.map vT++[.ls ((vl.map z6).take k++[tr]++(vl.map z6).drop k)])):=E3 e6c ((iys.same sHc).app (A9 ibc (J7 _)));have smu:∀ u∈vl.map z6,A1 u=true:=λu hu=>by obtain⟨z,mz,rfl⟩:=List.mem_map.mp hu;exact vE (gl.g z mz)
  left;refine⟨x,tr,rfl,i5.same s5c,sm,no,λHd sd=>n6 (v9 ?_)⟩;left;refine⟨mx,kx,.ref p6,_,_,_,rfl,(im.same sHc).same sd,(ik.same sHc).same sd,i6c.same sd,V2 ok.m,V2 ok.k,yC ?_ λu hu=>?_,R7 (yrI (List.mem_append_right _ (List.mem_singleton.mpr rfl)) (List.mem_append_left _ (List.mem_append_right _ (List.mem_singleton.mpr rfl))) no),λHe se=>q _ (c9.trans s05 (b9.tt (s5c.trans (sd.trans se))))⟩
  ·rw[qA,qM,qS];omega
  ·rcases List.mem_append.mp hu with hu | hu
   ·obtain⟨z,mz,rfl⟩:=List.mem_map.mp hu;have gz:=ok.v.2.2 z (List.mem_append_left _ mz);exact uK (by have:=gz.n2;omega) gz.g
   ·rw[List.mem_singleton.mp hu];refine yC ?_ λu hu=>?_
    ·rw[qA,qA,qT,List.length_drop,qM,qS];omega
    ·rcases List.mem_append.mp hu with hu | hu
     ·rcases List.mem_append.mp hu with hu | hu
      ·exact smu u (List.mem_of_mem_take hu)
      ·rw[List.mem_singleton.mp hu];exact sm
     ·exact smu u (List.mem_of_mem_drop hu)
 dsimp only;refine x4 (W1 (dP (M9 (E9 rfl (Q5 (fD (n6 (O4 (λh1=>?_) λh1=>F9 ?_))))))))
 ·refine x4 (D8 (dN (E8 (E9 rfl (E8 ?_)))));refine G0 (Hs:=H2) (C:=λ_=>True) (tr:=E2 ⟨4,4,[]⟩) ?_ (b9.refl _) trivial λw3 H3 s3 i3=>?_
  ·exfalso
  refine E8 ?_;refine G0 (Hs:=H3) (C:=λ_=>True) (tr:=E2 ⟨3,4,[]⟩) ?_ (b9.refl _) trivial λw4 H4 s4 i4=>?_
  ·exfalso
  refine E8 ?_;refine G0 (Hs:=H4) (C:=λ_=>True) (tr:=E2 ⟨3,3,[]⟩) ?_ (b9.refl _) trivial λw5 H5 s5 i5=>?_
  ·exfalso
  refine M0 ?_;have s25:=s3.trans (s4.trans s5);refine⟨n,w3,w4,w5,_,_,_,H5,rfl,n0,b9.refl _,(i3.same (B7 (b9.refl _) s3)).same (s4.trans s5),(i4.same (B7 (b9.refl _) s4)).same s5,i5.same (B7 (b9.refl _) s5),λv tr H6 m s6 i6=>A2 ?_⟩;have s26:=s25.trans s6;have sH6:=sH2.trans s26;dsimp only;left;exact⟨v,kx,vx,tr,u7 ks,A5 vss,rfl,i6.same (B7 (b9.refl _) s6),ik.same sH6,iv.same sH6,ypB tr m,V2 ok.k,iL ok.v,Wb (ytO tr m),λH7 s7=>q _ (c9.trans s2 (b9.tt (s26.trans s7)))⟩
 dsimp only;refine x4 (W1 (dP (M9 (E9 rfl (Q5 (fD (n6 (O4 (λh2=>?_) λh2=>F9 ?_))))))))
 ·refine x4 (D8 ?_);refine G0 (Hs:=H2) (C:=λ_=>True) (tr:=.ls [nT 8,nT (-8),bT true,.ls [nT 1],sT "0",.im .non]) ?_ (b9.refl _) trivial λw3 H3 s3 i3=>A2 ?_
  ·exfalso
  have i3:=i3.same (B7 (b9.refl _) s3);obtain⟨p3,xs3,rfl,e3,is3⟩:=i3.ls;dsimp only;refine x4 (D8 (dN (E8 (E9 rfl (E8 (Q5 (E8 (Q5 (E8 ?_)))))))));left;have m0:0<=n / 21%6:=Int.emod_nonneg _ (by decide);have m1:n / 21%6 < 6:=Int.emod_lt_of_pos _ (by decide);obtain⟨y,ey,iy⟩:=is3.at' (n / 21%6).toNat (by show _ < 6;omega);have ea:=J0 ey;rw[Int.toNat_of_nonneg m0] at ea;refine M8 (d0.of e3) ea ?_;left;refine⟨n,.int 3,.int 2,y,nT 3,nT 2,_,H3,rfl,n0,b9.refl _,M5 _ _,M5 _ _,iy,λv tr H6 m s6 i6=>?_⟩;have s26:=s3.trans s6;have sH6:=sH2.trans s26;left;exact⟨mx,v,vx,u7 ms,tr,A5 vss,rfl,im.same sH6,i6.same (B7 (b9.refl _) s6),iv.same sH6,V2 ok.m,yo6 _ (List.getElem_mem _) tr m,iL ok.v,EJ (ytX _ (List.getElem_mem _) tr m),λH7 s7=>q _ (c9.trans s2 (b9.tt (s26.trans s7)))⟩
 dsimp only;refine x4 (W1 (dP (M9 (E9 rfl (Q5 (fD (n6 (O4 (λh3=>?_) λh3=>F9 ?_))))))))
 ·left;cases vss with
  | nil=>cases ok.v.1
  | cons g r=>
   have gg:=ok.v.2.2 g (by simp);refine⟨n,vx,g,r,H2,rfl,n0,b9.refl _,iv.same sH2,λv tr H3 m s3 i3=>?_⟩;left;have sH3:=sH2.trans s3;exact⟨mx,kx,v,_,_,tr,rfl,im.same sH3,ik.same sH3,i3.same (B7 (b9.refl _) s3),V2 ok.m,V2 ok.k,yp8 (by have:=gg.n2;omega) gg.g ok.v tr m,yrd tr m,λH7 s7=>q _ (c9.trans s2 (b9.tt (s3.trans s7)))⟩
 dsimp only;refine x4 (W1 (dP (M9 (E9 rfl (Q5 (fD (n6 (O4 (λh4=>?_) λh4=>F9 ?_))))))))
 ·refine x4 (D8 ?_);left;refine⟨1,rfl,by decide,λy3 H3 s3 i3=>?_⟩;left;refine⟨0,rfl,by decide,λy4 H4 s4 i4=>?_⟩;left;refine D6 λp5 h5=>?_
  have s5:=m8 h5 (.lst [y3,y4]);have i5:Is (upd H4 p5 (.lst [y3,y4])) (.ref p5) (A5 [fU 1,fU 0]):=E3 f9 (A9 ((i3.same (K5 _ _)).same (s4.trans s5)) (A9 ((i4.same (K5 _ _)).same s5) (J7 _)));generalize upd H4 p5 (.lst [y3,y4])=H5 at s5 i5 |-;have s25:=s3.trans (s4.trans s5);refine A2 ?_;refine x4 (W1 (rW (qX (dN (E8 ?_)))));refine G0 (Hs:=H5) (C:=λ_=>True) (tr:=u7 [(1,.m yH)]) ?_ (b9.refl _) trivial λwa Ha sa ia=>?_
  ·exfalso
  refine E8 ?_;refine G0 (Hs:=Ha) (C:=λ_=>True) (tr:=u7 [(1,.k 0)]) ?_ (b9.refl _) trivial λwb Hb sb ib=>?_
  ·exfalso
  have ia:=(ia.same (B7 (b9.refl _) sa)).same sb;have ib:=ib.same (B7 (b9.refl _) sb);refine E8 (E9 rfl (M0 ?_));have s2b:=s25.trans (sa.trans sb);refine⟨wa,wb,.ref p5,_,_,_,rfl,ia,ib,i5.same (sa.trans sb),V2 (j:=true) (dX yX),V2 (j:=false) (dX (dM (by decide))),by ac_rfl,b_ (n:=1) (by decide) (by simp),λH6 s6=>n6 (t7 (F9 ?_))⟩;have s26:=s2b.trans s6;dsimp only;refine xI (dN (E8 ?_));refine G0 (Hs:=H6) (C:=λ_=>True) (tr:=u7 [(1,.m yH)]) ?_ (b9.refl _) trivial λwa Ha sa ia=>?_
  ·exfalso
  refine E8 ?_;refine G0 (Hs:=Ha) (C:=λ_=>True) (tr:=u7 [(1,.k 0)]) ?_ (b9.refl _) trivial λwb Hb sb ib=>?_
  ·exfalso
  have ia:=(ia.same (B7 (b9.refl _) sa)).same sb;have ib:=ib.same (B7 (b9.refl _) sb);refine E8 ?_;have m0:0<=n%5:=Int.emod_nonneg _ (by decide);have m1:n%5 < 5:=Int.emod_lt_of_pos _ (by decide);left;refine⟨(n%5).toNat,by rw[Int.toNat_of_nonneg m0];rfl,by omega,λy7 H7 s7 i7=>?_⟩;left;refine D6 λp8 h8=>?_
  have s8:=m8 h8 (.lst [y7]);have sl:(n%5).toNat < 5:=by omega
  have sms:∀ j,j < 5->A1 (A5 [fU j])=true:=by
   have:∀ j∈List.range 5,A1 (A5 [fU j])=true:=by ac_rfl
   exact λj h=>this j (List.mem_range.mpr h)
  exact⟨wa,wb,.ref p8,_,_,A5 [fU (n%5).toNat],rfl,ia.same (s7.trans s8),ib.same (s7.trans s8),E3 f9 (A9 ((i7.same (K5 _ _)).same s8) (J7 _)),V2 (j:=true) (dX yX),V2 (j:=false) (dX (dM (by decide))),sms _ sl,b_ sl (by simp),λH9 s9=>q _ (c9.trans s2 (b9.tt (s26.trans ((sa.trans sb).trans ((s7.trans s8).trans s9)))))⟩
 dsimp only;refine x4 (D8 (M9 ?_));refine G0 (Hs:=H2) (C:=λ_=>True) (tr:=.ls [z6 (R1 72)]) ?_ (b9.refl _) trivial λw3 H3 s3 i3=>?_
 ·exfalso
 have i3:=i3.same (B7 (b9.refl _) s3);obtain⟨p3,xs3,rfl,e3,is3⟩:=i3.ls;have l3:xs3.length=1:=is3.len;refine Q5 ⟨p3,12,xs3,rfl,rfl,e3,by decide,by decide,S6 (by rw[l3];decide),λp4 h4'=>?_⟩;have is4:=wK is3 12;rw[show(List.replicate 12 [z6 (R1 72)]).flatten=(List.replicate 12 (R1 72)).map z6 from rfl] at is4;rw[show(12:Int).toNat=12 from rfl];generalize (List.replicate 12 xs3).flatten=xs4 at is4 |-;have l4:xs4.length=12:=is4.len;have s4:=m8 h4' (.lst xs4);have e4:upd H3 p4 (.lst xs4) p4=some (.lst xs4):=f9;generalize upd H3 p4 (.lst xs4)=H4 at s4 e4 |-;refine A2 ?_;dsimp only;refine x4 (W1 (dP (M9 (uV (uO (E8 ?_))))));refine G0 (Hs:=H4) (C:=λ_=>True) (tr:=u7 [(1,.m fS)]) ?_ (b9.refl _) trivial λwa Ha sa ia=>?_
 ·exfalso
 refine E8 ?_;refine G0 (Hs:=Ha) (C:=λ_=>True) (tr:=u7 [(1,.k 0)]) ?_ (b9.refl _) trivial λwb Hb sb ib=>?_
 ·exfalso
 have ia:=(ia.same (B7 (b9.refl _) sa)).same sb;have ib:=ib.same (B7 (b9.refl _) sb);have s4b:=sa.trans sb;left;refine⟨p4,xs4,rfl,.inl (d0.of (s4b _ _ e4)),λpc hc=>?_⟩;have sc:=m8 hc (.lst xs4);have ic:Is (upd Hb pc (.lst xs4)) (.ref pc) (vT (List.replicate 12 (R1 72))):=E3 f9 (is4.same (s4.trans (s4b.trans sc)));generalize upd Hb pc (.lst xs4)=Hc at sc ic |-;left;refine D6 λpd hd=>?_
 have sd:=m8 hd (.lst [.ref pc]);have id':Is (upd Hc pd (.lst [.ref pc])) (.ref pd) (A5 [List.replicate 12 (R1 72)]):=E3 f9 (A9 (ic.same sd) (J7 _));generalize upd Hc pd (.lst [.ref pc])=Hd at sd id' |-;left;intro x dx hx hdx ne';obtain⟨f2,ok2⟩:=HZ;refine nH hx hdx ne' (b9.refl _) (ia.same (sc.trans sd)) (ib.same (sc.trans sd)) id' ok2 λHe se tu=>⟨rfl,?_⟩
 obtain⟨_,dx2,m2,k2,v2,fv,e,ee,_,_,ive,_⟩:=tu.same (B7 (L9 _) se);cases e;refine⟨x,dx2,_,rfl,ee,rfl,M0 ?_⟩;refine⟨x,dx2,_,_,_,rfl,ee,rfl,ive,kM ok2.v,λHf sf=>?_⟩;rw[xC];refine Q5 (bE (tr:=nT 864) ⟨rfl,A6⟩ (M5 _ _) (M5 _ _) (n6 (t7 (F9 ?_))));have s4f:=s4b.trans (sc.trans (sd.trans (se.trans sf)));have e4f:=s4f _ _ e4;dsimp only;refine x4 (lN (pY (E9 rfl ⟨.inl ⟨rfl,_,d0.of e4f⟩,E8 ?_⟩)));have s3f:=s4.trans s4f;refine G0 (Hs:=H3) (C:=λ_=>True) (tr:=z6 (R1 2)) ?_ s3f trivial λwg Hg sg ig=>?_
 ·exfalso
 refine M0 (Q9 (sg _ _ e4f) (F1 (by omega)) ?_);have sub:b9 (nw H3 Hf Hg) (upd Hg p4 (.lst (xs4++[wg]))):=λb u e=>by
  have nb:b≠p4:=λz=>by rw[z,J9 e4f] at e;rw[e] at h4';cases h4'
  rw[u6 nb];exact B7 s3f sg _ _ e
 have s3h:b9 H3 (upd Hg p4 (.lst (xs4++[wg]))):=O5 h4' (s3f.trans sg);have ih:Is (upd Hg p4 (.lst (xs4++[wg]))) (.ref p4) (vT (List.replicate 12 (R1 72)++[R1 2])):=E3 f9 (by rw[qP];exact(is4.same s3h).app (A9 (ig.same sub) (J7 _)));generalize upd Hg p4 (.lst (xs4++[wg]))=Hh at s3h ih |-;dsimp only;refine x4 (D8 (vJ (E8 (E9 rfl (M0 ⟨by show 1<=sizeLine;decide,λp5 h5=>A2 ?_⟩)))));have s5:=m8 h5 (.lst [.ref p4]);have i5:Is (upd Hh p5 (.lst [.ref p4])) (.ref p5) (A5 [List.replicate 12 (R1 72)++[R1 2]]):=E3 f9 (A9 (ih.same s5) (J7 _));generalize upd Hh p5 (.lst [.ref p4])=H5 at s5 i5 |-;dsimp only;refine x4 (D8 ?_);refine G0 (Hs:=H5) (C:=λ_=>True) (tr:=u7 [(1,.m fS)]) ?_ (b9.refl _) trivial λwm H6 s6 i6=>A2 ?_
 ·exfalso
 have s26:=s3.trans (s3h.trans (s5.trans s6));have sv:A1 (A5 [List.replicate 12 (R1 72)++[R1 2]])=true:=by ac_rfl
 dsimp only;left;exact⟨wm,kx,.ref p5,_,_,_,rfl,i6.same (B7 (b9.refl _) s6),(ik.same sH2).same s26,i5.same s6,V2 (j:=true) (dX vF),V2 ok.k,sv,yut,λH7 s7=>q _ (c9.trans s2 (b9.tt (s26.trans s7)))⟩
theorem d_ {M:Int}:∀ {vss:List (List Sn)} {z:Int},z<=M->(∀ ss∈vss,B3 ss<=M)->vss.foldl (λm ss=>max m (B3 ss)) z<=M
 | [],_,h,_=>h
 | s :: r,z,h,g=>d_ (vss:=r) (Int.max_le.mpr ⟨h,g s (by simp)⟩) λss m=>g ss (by simp[m])
theorem P_ {k:Int}:∀ {vss:List (List Sn)} {z:Int},(k<=z∨∃ ss∈vss,k<=B3 ss)->k<=vss.foldl (λm ss=>max m (B3 ss)) z
 | [],z,h=>by
  rcases h with h | ⟨_,m,_⟩
  ·exact h
  ·cases m
 | s :: r,z,h=>P_ (vss:=r) (by
   rcases h with h | ⟨ss,m,h⟩
   ·exact .inl (Int.le_trans h (Int.le_max_left _ _))
   ·rcases List.mem_cons.mp m with rfl | m
    ·exact .inl (Int.le_trans h (Int.le_max_right _ _))
    ·exact .inr ⟨ss,m,h⟩)
theorem ymW {vss:List (List Sn)}(ok:tR vss):0 < M7 (vss.map x9)/\M7 (vss.map x9)<=773:=by
 refine⟨?_,d_ (by decide) λss m=>by obtain⟨s,ms,rfl⟩:=List.mem_map.mp m;exact(ok.2 s ms).2⟩;have gw:=kM ok.1;cases vss with
 | nil=>cases ok.1.1
 | cons g r=>
  have gg:=ok.1.2.2 g (by simp);have m:x9 g∈(g :: r).map x9:=by simp
  have ps:=gw.pos _ m;refine P_ (k:=1) (.inr ⟨_,m,?_⟩);cases e:x9 g with
  | nil=>exact(gg.ne e).elim
  | cons s q=>
   rw[e] at ps;have a:=ps s (by simp);have b:=qK (ss:=q) λx mx=>ps x (by simp[mx])
   have c:=aY [s] q;rw[bZ] at c;show 1<=B3 ([s]++q)
   omega
theorem iA {n:Nat}{v:V}:gJ n (.im v):=by cases n<;>trivial
theorem tY {n:Nat}{α:Type}{f:α->Th}{us:List α}(l:us.length<=100)(h:∀ u∈us,gJ n (f u)):gJ (n+1) (.ls (us.map f)):=⟨by rw[qM];exact l,λt m=>by obtain⟨u,mu,rfl⟩:=List.mem_map.mp m;exact h u mu⟩
theorem yoH (n:Nat)(p:G7):gJ (n+1) (pT p):=⟨by show 3<=100;decide,λt m=>by
 simp only[List.mem_cons,qk,or_false] at m;rcases m with rfl | rfl | rfl<;>exact iA⟩
theorem ypZ {vss:List (List Sn)}(ok:V4 vss):gJ 5 (A5 vss):=by
 refine tY (by have:=ok.2.1;omega) λss ms=>?_
 have g:=ok.2.2 ss ms;refine tY (by have:=g.n2;omega) λs m=>?_
 cases s with
 | rest n=>
  refine⟨by show 2<=100;decide,λt m=>?_⟩;simp only[List.mem_cons,qk,or_false] at m;rcases m with rfl | rfl<;>exact iA
 | tones ps n wd op cl=>
  have g4:=(g.g _ m).1.2.1;refine⟨by show 6<=100;decide,λt m=>?_⟩;simp only[List.mem_cons,qk,or_false] at m;rcases m with rfl | rfl | rfl | rfl | rfl | rfl
  ·exact iA
  ·exact tY (by omega) λp _=>yoH _ p
  ·exact iA
  ·exact iA
  ·exact iA
  ·exact iA
def un (A C:Hp):Hp:=λb=>match A b with
 | some u=>some u
 | none=>C b
theorem HQ {A C:Hp}:b9 A (un A C):=λb u e=>by unfold un;rw[e]
theorem yu7 {A C H:Hp}(sA:b9 A H)(sC:b9 C H):b9 C (un A C):=λb u e=>by
 unfold un;cases h:A b with
 | none=>exact e
 | some v=>rw[<- sA _ _ h,sC _ _ e]
theorem yqi {A C H:Hp}(sA:b9 A H)(sC:b9 C H):b9 (un A C) H:=λb u e=>by
 unfold un at e;cases h:A b with
 | none=>rw[h] at e;exact sC _ _ e
 | some v=>rw[h] at e;rw[<- e];exact sA _ _ h
theorem Vf {A C:Hp}{b:Addr}(h:A b=none)(g:C b=none):un A C b=none:=by unfold un;rw[h];exact g
def nJ (H7 H8:Hp)(b:Addr):Prop:=H7 b=none/\∃ xs,H8 b=some (.lst xs)
structure Cl (H7 H8 H9:Hp) (pv:Addr) (bs:List V) (i:Nat) (Hc:Hp):Prop where
 kp:∀ b u,H9 b=some u->¬ nJ H7 H8 b->Hc b=some u
 pv:Hc pv=H9 pv
 vs:∀ (j:Nat) (b:Addr),i<=j->bs[j]?=some (V.ref b)->Hc b=H9 b
 ls:∀ c xs,H9 c=some (.lst xs)->∃ xs',Hc c=some (.lst xs')
theorem Cl.put {H7 H8 H9 Hc:Hp}{pv c:Addr}{bs:List V}{i k:Nat}{zs:List V}(h:Cl H7 H8 H9 pv bs i Hc)(le:i<=k)(g:nJ H7 H8 c)(n1:c≠pv)(n2:∀ (j:Nat) (b:Addr),k<=j->bs[j]?=some (V.ref b)->b≠c):Cl H7 H8 H9 pv bs k (upd Hc c (.lst zs)):=by
 refine⟨λb u e n=>?_,?_,λj b hj e=>?_,λb xs e=>?_⟩
 ·rw[u6 (λz=>by rw[z] at n;exact n g)];exact h.kp b u e n
 ·rw[u6 n1.symm];exact h.pv
 ·rw[u6 (n2 j b hj e)];exact h.vs j b (by omega) e
 ·by_cases z:b=c
  ·exact⟨zs,by rw[z];exact f9⟩
  ·rw[u6 z];exact h.ls b xs e
theorem Cl.up {H7 H8 H9 Hc Hd:Hp}{pv:Addr}{bs:List V}{i:Nat}(h:Cl H7 H8 H9 pv bs i Hc)(s:b9 Hc Hd)(hp:∃ u,H9 pv=some u)(hb:∀ (j:Nat) (b:Addr),bs[j]?=some (V.ref b)->∃ u,H9 b=some u):Cl H7 H8 H9 pv bs i Hd:=by
 refine⟨λb u e n=>s _ _ (h.kp b u e n),?_,λj b hj e=>?_,λb xs e=>?_⟩
 ·obtain⟨u,e⟩:=hp;rw[e];exact s _ _ (by rw[h.pv];exact e)
 ·obtain⟨u,e'⟩:=hb j b e;rw[e'];exact s _ _ (by rw[h.vs j b hj e];exact e')
 ·obtain⟨z,ez⟩:=h.ls b xs e;exact⟨z,s _ _ ez⟩
theorem yl1 {ms ks:List (Nat×Cv)}{vss:List (List Sn)}:bL (.ls [u7 ms,u7 ks,A5 vss]):=by
 have a:=λcs:List (Nat×Cv)=>lI (us:=cs) (f:=L1) (k:=3) yL
 have b:=lI (us:=vss) (f:=vT) (k:=4) λss=>lI (us:=ss) (f:=z6) (k:=3) cF
 refine⟨?_,Nat.le_trans (iY (k:=5) (K8 (Nat.le_succ_of_le (a ms).2) (K8 (Nat.le_succ_of_le (a ks).2) (K8 b.2 eL)))) (by decide)⟩;show(G6 (u7 ms)&&(G6 (u7 ks)&&(G6 (A5 vss)&&true)))=true
 rw[show G6 (u7 ms)=true from (a ms).1,show G6 (u7 ks)=true from (a ks).1,show G6 (A5 vss)=true from b.1];rfl
theorem Cl.same {H7 H8 H9 Hc:Hp}{pv:Addr}{bs:List V}{i:Nat}(h:Cl H7 H8 H9 pv bs i Hc){A:Hp}(sA:b9 A H9)(n:∀ b u,A b=some u->¬ nJ H7 H8 b):b9 A Hc:=λb u e=>h.kp b u (sA _ _ e) (n b u e)
theorem Gs {H:Hp}{b l:Addr}{xs ys:List V}{ss:List Sn}{ps:List G7}(eb:H b=some (.lst xs))(el:H l=some (.lst ys))(ib:Iss H xs (ss.map z6))(il:Iss H ys (ps.map pT))(n:1<=ss.length):b≠l:=λz=>by
 rw[z,el] at eb;cases eb;cases ss with
 | nil=>cases n
 | cons s r=>
  obtain⟨x,r',rfl,ix,_⟩:=R6 (show Iss H _ (z6 s :: r.map z6) from ib);cases ps with
  | nil=>have:=il.len;cases this
  | cons p q=>
   obtain⟨x',r2,e,ix',_⟩:=R6 (show Iss H (x :: r') (pT p :: q.map pT) from il);cases e;obtain⟨a,rfl,ea⟩:=ix'.pit;cases s with
   | rest k=>obtain⟨a',e,ea'⟩:=ix.rest;cases e;rw[ea] at ea';cases ea'
   | tones=>obtain⟨a',y,e,ea',_⟩:=ix.tones;cases e;rw[ea] at ea';cases ea'
theorem Zg {H:Hp}{b l:Addr}{xs ys:List V}{vss:List (List Sn)}{us:List Th}(eb:H b=some (.lst xs))(el:H l=some (.lst ys))(ib:Iss H xs (vss.map vT))(il:Iss H ys us)(tu:∀ u∈us,∃ ts,u=Th.tp ts)(n:1<=vss.length):b≠l:=λz=>by
 rw[z,el] at eb;cases eb;cases vss with
 | nil=>cases n
 | cons s r=>
  obtain⟨x,r',rfl,ix,_⟩:=R6 (show Iss H _ (vT s :: r.map vT) from ib);cases us with
  | nil=>have:=il.len;cases this
  | cons p q=>
   obtain⟨x',r2,e,ix',_⟩:=R6 il;cases e;obtain⟨ts,rfl⟩:=tu p (by simp);obtain⟨a,_,rfl,ea,_⟩:=Is.ls (show Is H x (.ls (s.map z6)) from ix);obtain⟨a',_,e,ea',_⟩:=ix'.tp;cases e;rw[ea] at ea';cases ea'
def K6:List Int:=[200,200,400,780]
theorem IZ:∀ x∈K6,200<=x/\x<=780:=by decide
def lU (K:qF):Sp:=λvs H Q _=>∃ (a:Addr) (ns:List Int),vs=[.ref a]/\d0 K H a (ns.map V.int)/\(∀ v∈ns,Builtin.Int.intBits v<=2 ^ 20)/\∀ H',Q (.bl true) H'
theorem LX:OF P w base T.Rf 14 (lU K):=by
 o_head (T.Rf.F,C1);obtain⟨a,ns,rfl,hs,sm,q⟩:=h;refine⟨_,(f7 (p0 1 C1.nd (j8 (b7 c8 c6))) (f7 (p0 2 C1.nd (o6 (ysY T) hr (b7 (pv 0) (b7 (pv 1) (b7 (F8 j9 (j8 (b7 c8 (b7 c8 (b7 c8 (b7 c8 c6))))) (o6 (K1 T) hr (b7 (pv 0) (b7 (pv 1) (b7 c8 c6)))) (λ_ _=>rfl)) c6))))) (f7 (tV (i:=3) C1.nd rfl (Or.inl rfl) (L0 (NB:=["_law_voice_here"]) (cap:=[none]) rfl) rfl (K2 (pv 2)) (λ_ _ _ _=>O6 0) (λ_ _ _ _=>L8) (λ_ _ _ _=>(o6 (jn T) hr (b7 (pv 0) c6)))) (f7 (p0 4 C1.nd (o6 (ys9 T) hr (b7 (pv 0) (b7 (pv 1) (b7 (o6 (rM T) hr (b7 (pv 3) c6)) c6))))) (f7 (p0 5 C1.nd (o6 (qf T) hr (b7 (pv 4) (b7 c8 c6)))) (f7 (p0 6 C1.nd (o6 (qf T) hr (b7 (pv 4) (b7 c8 c6)))) (f7 (p0 7 C1.nd (u9 O1 (j8 (b7 (pv 5) (b7 (pv 6) (b7 (pv 4) c6)))) (pv 3))) (f7 (p0 8 C1.nd (j8 (b7 (bC eJ rfl T.Jg Y1 (b7 (pv 5) c6)) (b7 (bC eJ rfl T.Jg Y1 (b7 (pv 6) c6)) (b7 (eF (z_ T 5) hr T.zF (b7 (pv 2) c6)) c6))))) (f7 (p0 9 C1.nd (dD T.JR (kY T) (B2 hr) rfl T.JQ T.zn.B .nil jR (b7 (xL (pv 8)) (b7 (xL (pv 8)) (b7 (xL (pv 8)) c6))))) (f7 (A7 (C3 (bQ hu) (pv 8) (j8 (b7 (pv 5) (b7 (pv 6) (b7 (pv 2) c6)))) (z5 _)) (j0 (r6 v8)) B4) (f7 (E7 (nR F.plainAttrs_list F.slot_list_clear F.type_list_clear xA (xL (pv 8)))) (f7 (E7 (U1 (xL (pv 8)) (b7 (g8 (b7 c8 (b7 c8 c6))) c6))) (f7 (Z6 PassesOwn.never rfl (K2 (xL (pv 8))) (U7 10 C1.nd) (f7 (Z6 PassesOwn.never rfl (K2 (pv 10)) (U7 11 C1.nd) (j0 (A7 (C3 (X3 hu) (xT (pv 11)) n9 (z5 _)) (j0 (E7 (nR F.plainAttrs_list F.slot_list_clear F.type_list_clear xA (xT (pv 11))))) B4))) (j0 (E7 (U1 (pv 10) (b7 V3 c6)))))) (f7 (A7 (L3 (F4 (o6 (Kh T) hr (b7 (pv 9) (b7 (pv 7) (b7 (o6 (rM T) hr (b7 (pv 3) c6)) (b7 (o6 (K1 T) hr (b7 (pv 0) (b7 (pv 1) (b7 c8 c6)))) c6))))))) (j0 (r6 v8)) B4) (f7 (A7 (L3 (F4 (o6 (ytp T) hr (b7 (pv 3) c6)))) (j0 (r6 v8)) B4) (f7 (A7 (L3 (F4 (o6 (RZ T) hr (b7 (pv 0) (b7 (pv 1) (b7 (pv 5) (b7 (pv 6) (b7 (pv 2) (b7 (z8 T7 rfl T.Ji PySem.boot_len (b7 (pv 4) c6)) c6))))))))) (j0 (r6 v8)) B4) (j0 (r6 (o6 (Kh T) hr (b7 (dD T.JR (kY T) (B2 hr) rfl T.JQ T.zn.B .nil jR (b7 (pv 5) (b7 (pv 6) (b7 (pv 2) c6)))) (b7 (pv 7) (b7 (o6 (rM T) hr (b7 (pv 3) c6)) (b7 c8 c6))))))))))))))))))))))),?_⟩;refine x4 (D8 (vJ (E8 (Q5 (M0 ⟨by show 1<=sizeLine;decide,λtp htp=>A2 ?_⟩)))));have sB:=m8 htp (.lst [.int 0]);have eB:upd H tp (.lst [.int 0]) tp=some (.lst [.int 0]):=f9;have dB:Dr K a tp ns (upd H tp (.lst [.int 0])) 0:=⟨⟨H,hs,htp,sB⟩,sm,0,qR _,f9⟩;generalize upd H tp (.lst [.int 0])=B at sB eB dB |-;dsimp only;refine x4 (X8 (te:=bY _ _) (fun σ H'=>∃ (y:V) (vss:List (List Sn)),σ=[some (.ref a),some (.ref tp),some y,none,none,none,none,none,none,none,none,none]/\tR vss/\c9 tp B H'/\Dr K a tp ns H' 10002/\Is (fr B H') y (A5 vss)) (λD' hD=>?_) ?_)
 ·refine D8 (dN (E8 (E9 rfl (E8 (E9 rfl (E8 ?_))))));left;refine D6 λp1 h1=>?_
  have s1:=m8 h1 (.lst (K6.map V.int));have e1:upd B p1 (.lst (K6.map V.int)) p1=some (.lst (K6.map V.int)):=f9;have ne1:p1≠tp:=λz=>by rw[z,eB] at h1;cases h1
  show cI _ _ _ _ _ (upd B p1 (.lst (K6.map V.int))) _
  have d1:=dB.same s1;generalize upd B p1 (.lst (K6.map V.int))=H1 at s1 e1 d1 |-;left;refine⟨a,tp,ns,_,_,rfl,d1,by omega,by decide,by decide,λv H2 v0 v1 s2 d2=>?_⟩;have hv:v.toNat < K6.length:=by show v.toNat < 4;omega
  have ex:(K6.map V.int)[v.toNat]?=some (.int K6[v.toNat]):=by rw[qm,qG hv];rfl
  have ea:=J0 ex;rw[Int.toNat_of_nonneg v0] at ea;have wk:=IZ _ (List.getElem_mem hv);refine M8 (d0.of (s2 _ _ ne1 e1)) ea ?_;left;have s12:=c9.trans (b9.tt s1) s2;exact⟨a,tp,ns,_,_,rfl,d2,by omega,wk.1,wk.2,λy vss H3 ok s3 d3 i3=>A2 (hD _ _ ⟨y,vss,rfl,ok,c9.trans s12 s3,d3.up (by omega),i3.same (jD d2 s12)⟩)⟩
 rintro σ H2 ⟨y2,vss,rfl,okv,s2,d2,i2⟩;have n2:=okv.1.2.1;have lo:=ymW okv;dsimp only;refine x4 (X8 (te:=vO _ _) (fun σ H'=>∃ (y:V),σ=[some (.ref a),some (.ref tp),some y2,some y,none,none,none,none,none,none,none,none]/\c9 tp B H'/\Dr K a tp ns H' 10002/\Is (fr B H') y2 (A5 vss)/\Is (fr B H') y (A5 (vss.map x9))) (λD' hD=>?_) ?_)
 ·obtain⟨b,xs,rfl,eb,is⟩:=Is.ls (show Is _ y2 (.ls (vss.map vT)) from i2);left;refine⟨b,rfl,⟨_,d0.of (K5 _ _ _ _ eb)⟩,λD hD'=>wU (Hs:=fr B H2) (us:=vss) (g:=vT) (λss=>vT (x9 ss)) (K5 _ _) (K5 _ _ _ _ eb) is hD' (by omega) (λx ss H' Q' hu sm rx q'=>?_) λH3 s3 iD=>?_⟩
  ·left;have g:=okv.1.2.2 ss hu;exact⟨x,ss,fr B H2,rfl,(K5 _ _).trans sm,rx,g.n1,g.n2,q'⟩
  ·exact hD _ _ ⟨_,rfl,c9.trans s2 (b9.tt s3),d2.same s3,i2.same (J6 s3),by unfold A5;rw[List.map_map];exact iD.same (yK d2 s2 s3)⟩
 rintro σ H3 ⟨y3,rfl,s3,d3,i2,i3⟩;dsimp only;have gw:=kM okv.1;refine x4 (X8 (te:=bY _ _) (fun σ H'=>∃ (y:V) (fw:List Fr),σ=[some (.ref a),some (.ref tp),some y2,some y3,some y,none,none,none,none,none,none,none]/\nF fw (M7 (vss.map x9))/\fw≠[]/\c9 tp B H'/\Dr K a tp ns H' 10102/\Is (fr B H') y2 (A5 vss)/\Is (fr B H') y3 (A5 (vss.map x9))/\Is (fr B H') y (bF fw)) (λD' hD=>?_) ?_)
 ·left;refine⟨y3,vss.map x9,rfl,i3.same (K5 _ _),gw,λH4 s4=>?_⟩;left;have s34:=c9.trans s3 (b9.tt s4);have d4:=d3.same s4;exact⟨a,tp,ns,_,_,rfl,d4,by omega,lo.1,lo.2,λy4 fw H5 okf ne s5 d5 i5=>A2 (hD _ _ ⟨y4,fw,rfl,okf,ne,c9.trans s34 s5,d5.up (by omega),(i2.same (J6 s4)).same (dB.fr s5),(i3.same (J6 s4)).same (dB.fr s5),i5.same (jD d4 s34)⟩)⟩
 rintro σ H4 ⟨y4,fw,rfl,okf,nef,s4,d4,i2,i3,i4⟩;have ok:=RX okv.1 okf nef;have l24:=okf.len;dsimp only;refine x4 (X8 (te:=bY _ _) (fun σ H'=>∃ (y:V),σ=[some (.ref a),some (.ref tp),some y2,some y3,some y4,some y,none,none,none,none,none,none]/\b9 H4 H'/\Is (fr B H') y (u7 (V8 true fw))) (λD' hD=>?_) ?_)
 ·left;exact⟨y4,true,fw,fr B H4,rfl,K5 _ _,i4,l24,λf hf=>okf.m f hf,λy H5 s5 i5=>A2 (hD _ _ ⟨y,rfl,s5,i5.same (yK d4 s4 s5)⟩)⟩
 rintro σ H5 ⟨y5,rfl,s5,i5⟩;dsimp only;have d5:=d4.same s5;have s05:=c9.trans s4 (b9.tt s5);refine x4 (X8 (te:=bY _ _) (fun σ H'=>∃ (y:V),σ=[some (.ref a),some (.ref tp),some y2,some y3,some y4,some y5,some y,none,none,none,none,none]/\b9 H5 H'/\Is (fr B H') y (u7 (V8 false fw))) (λD' hD=>?_) ?_)
 ·left;exact⟨y4,false,fw,fr B H5,rfl,K5 _ _,i4.same (J6 s5),l24,λf hf=>okf.k f hf,λy H6 s6 i6=>A2 (hD _ _ ⟨y,rfl,s6,i6.same (yK d5 s05 s6)⟩)⟩
 rintro σ H6 ⟨y6,rfl,s6,i6⟩;dsimp only;refine x4 (X8 (te:=bY _ _) (fun σ H'=>∃ (y:V),σ=[some (.ref a),some (.ref tp),some y2,some y3,some y4,some y5,some y6,some y,none,none,none,none]/\b9 H6 H'/\Is (fr B H') y (jV (V8 true fw) (V8 false fw) (vss.map x9) fw)) (λD' hD=>?_) ?_)
 ·have s46:=s5.trans s6;obtain⟨b,xs,rfl,eb,is⟩:=Is.ls (show Is _ y3 (.ls ((vss.map x9).map vT)) from i3.same (J6 s46));have lx:=is.len;rw[qM,qM] at lx;have s06:=c9.trans s4 (b9.tt s46);have d6:=d4.same s46;left;refine D6 λp1 h1=>?_
  left;have s7:=m8 h1 (.lst [y5,y6,y4]);refine⟨p1,b,_,_,rfl,rfl,f9,s7 _ _ (K5 _ _ _ _ eb),S6 (by show 3+xs.length<=1000;omega),λp2 h2=>A2 (hD _ _ ⟨_,rfl,s7.trans (m8 h2 _),?_⟩)⟩;have s68:=s7.trans (m8 h2 (.lst ([y5,y6,y4]++xs)));refine E3 (by rw[L5 ((d6.same s7).free (c9.trans s06 (b9.tt s7)) h2)];exact f9) (Iss.app (A9 (i5.same (J6 (s6.trans s68))) (A9 (i6.same (J6 s68)) (A9 (i4.same (J6 (s46.trans s68))) (J7 _)))) (is.same (J6 s68)))
 rintro σ H7 ⟨y7,rfl,s7,i7⟩;dsimp only;have s47:=(s5.trans s6).trans s7;have s07:=c9.trans s4 (b9.tt s47);have d7:=d4.same s47;have i2:=i2.same (J6 (H:=B) s47);have i3:=i3.same (J6 (H:=B) s47);have i4:=i4.same (J6 (H:=B) s47);have i5:=i5.same (J6 (H:=B) (s6.trans s7));have i6:=i6.same (J6 (H:=B) s7);obtain⟨q5,xs5,rfl,e5,is5⟩:=Is.ls (show Is _ y5 (.ls ((V8 true fw).map L1)) from i5);obtain⟨q6,xs6,rfl,e6,is6⟩:=Is.ls (show Is _ y6 (.ls ((V8 false fw).map L1)) from i6);have sF:b9 (fr B H7) H7:=K5 _ _;have l6:=is6.len;rw[qM] at l6;have g6:=ok.k.len;refine x4 (D8 ?_);left;refine⟨q5,xs5,rfl,.inl (d0.of (sF _ _ e5)),λh0 n0=>?_⟩;have sa:=m8 n0 (.lst xs5);have ea0:upd H7 h0 (.lst xs5) h0=some (.lst xs5):=f9;generalize upd H7 h0 (.lst xs5)=Ha at sa ea0 |-;left;refine⟨q6,xs6,rfl,.inl (d0.of (sa _ _ (sF _ _ e6))),λh1 n1=>?_⟩;have sb:=m8 n1 (.lst xs6);have eb1:upd Ha h1 (.lst xs6) h1=some (.lst xs6):=f9;generalize upd Ha h1 (.lst xs6)=Hb at sb eb1 |-;left;refine⟨y2,A5 vss,rfl,(i2.same sF).same (sa.trans sb),ypZ okv.1,λyv Hc sc ic apt=>?_⟩;left;refine D6 λph nh=>?_
 obtain⟨pv,vs,rfl,ev,isv⟩:=Is.ls (show Is _ yv (.ls (vss.map vT)) from ic);have apt:=apt pv vs rfl (K5 _ _ _ _ ev);have sd:=m8 nh (.lst [.ref h0,.ref h1,.ref pv]);have ed:upd Hc ph (.lst [.ref h0,.ref h1,.ref pv]) ph=some (.lst [.ref h0,.ref h1,.ref pv]):=f9;generalize upd Hc ph (.lst [.ref h0,.ref h1,.ref pv])=H8 at sd ed |-;have sab:=sa.trans sb;have s78:=sab.trans (sc.trans sd);have s08:=c9.trans s07 (b9.tt s78);have s0b:=c9.trans s07 (b9.tt sab);have db:=d7.same sab;have ih0:Is (fr B H8) (.ref h0) (u7 (V8 true fw)):=E3 (by rw[L5 (d7.free s07 n0)];exact(sb.trans (sc.trans sd)) _ _ ea0) (is5.same (J6 s78));have ih1:Is (fr B H8) (.ref h1) (u7 (V8 false fw)):=E3 (by rw[L5 ((d7.same sa).free (c9.trans s07 (b9.tt sa)) n1)];exact(sc.trans sd) _ _ eb1) (is6.same (J6 s78));have ihv:Is (fr B H8) (.ref pv) (A5 vss):=(ic.same (jD db s0b)).same (J6 sd);refine A2 ?_;try dsimp only
 refine x4 (D8 ?_);left;refine cE 0 (d0.of ed) ?_;left;refine cE 1 (d0.of ed) ?_;left;refine cE 2 (d0.of ed) ?_;left;intro x dx hx hdx ne';refine nH hx hdx ne' (K5 B H8) ih0 ih1 ihv ok λH9 s9 tu=>⟨rfl,A2 ?_⟩
 have sTt:b9 (nw (tpo (fr B H8)) H8 H9) H9:=B7 ((L9 _).trans (K5 _ _)) s9;have s79:=s78.trans s9;have sA:b9 (fr B H7) H9:=sF.trans s79;have sU:=yqi sA sTt;have uA:b9 (fr B H7) (un (fr B H7) (nw (tpo (fr B H8)) H8 H9)):=HQ;have tu:=tu.same (yu7 sA sTt);have uN:∀ b u,un (fr B H7) (nw (tpo (fr B H8)) H8 H9) b=some u->¬ nJ H7 H8 b:=λb u e ⟨c1,zs,c2⟩=>by
  have z1:fr B H7 b=none:=by
   cases h:fr B H7 b with
   | none=>rfl
   | some v=>rw[sF _ _ h] at c1;cases c1
  have z2:nw (tpo (fr B H8)) H8 H9 b=none:=by
   rw[J9 c2];cases h:tpo (fr B H8) b with
   | none=>rfl
   | some v=>
    obtain⟨e1,ys,rfl⟩:=qH h;rw[K5 _ _ _ _ e1] at c2;cases c2
  rw[Vf z1 z2] at e;cases e
 obtain⟨n7,_,e7⟩:=d7.tape;have uTp:un (fr B H7) (nw (tpo (fr B H8)) H8 H9) tp=none:=by
  have z:∀ H':Hp,fr B H' tp=none:=λH'=>by unfold fr;rw[if_neg (by rw[eB];simp)]
  refine Vf (z _) ?_;rw[J9 (s78 _ _ e7)];cases h:tpo (fr B H8) tp with
  | none=>rfl
  | some v=>rw[L9 _ _ _ h |>.symm.trans (z _)]
 generalize un (fr B H7) (nw (tpo (fr B H8)) H8 H9)=U at sU uA tu uN uTp;try dsimp only
 refine x4 (W1 ?_);left;refine D6 λpe ne=>?_
 have se:=m8 ne (.lst [.ref q5,.ref q6,y2]);have s8e:=s9.trans se;have sAe:=sA.trans se;refine bE (yl1 (ms:=V8 true fw) (ks:=V8 false fw) (vss:=vss)) (E3 (s8e _ _ ed) (A9 (ih0.same ((K5 _ _).trans s8e)) (A9 (ih1.same ((K5 _ _).trans s8e)) (A9 (ihv.same ((K5 _ _).trans s8e)) (J7 _))))) (E3 f9 (A9 (i5.same sAe) (A9 (i6.same sAe) (A9 (i2.same sAe) (J7 _))))) (n6 (t7 (F9 ?_)));generalize upd H9 pe (.lst [.ref q5,.ref q6,y2])=He at se s8e sAe |-;have sUe:=sU.trans se;have sbe:b9 Hb He:=sc.trans (sd.trans s8e);have sfc:b9 (fr Hb Hc) He:=(K5 _ _).trans (sd.trans s8e);have isve:=isv.same sfc;have evE:=sfc _ _ ev;have alv:=T5 isv;have e0e:=(sb.trans sbe) _ _ ea0;have e1e:=sbe _ _ eb1;have phe:=s8e _ _ ed;have new:∀ {b:Addr} {u:HO},fr Hb Hc b=some u->Hb b=none:=λe=>(N5 e).1
 have chb:∀ {b:Addr} {zs:List V},fr Hb Hc b=some (.lst zs)->nJ H7 H8 b:=λe=>⟨sab.free (new e),_,sd _ _ (K5 _ _ _ _ e)⟩
 have row:∀ j (h:j < vss.length),∃ b zs,vs[j]?=some (.ref b)/\fr Hb Hc b=some (.lst zs)/\Iss (fr Hb Hc) zs (vss[j].map z6):=λj h=>by
  obtain⟨y,ey,iy⟩:=alv.2 j h;obtain⟨b,zs,rfl,eb,iz⟩:=Is.ls (show Is _ y (.ls (vss[j].map z6)) from iy);exact⟨b,zs,ey,eb,iz⟩
 have rowA:∀ (j:Nat) (b:Addr),vs[j]?=some (V.ref b)->∃ h:j < vss.length,∃ zs,fr Hb Hc b=some (.lst zs)/\Iss (fr Hb Hc) zs (vss[j].map z6):=λj b e=>by
  have h:j < vss.length:=by have:=(qE e).1;rw[alv.1] at this;exact this
  obtain⟨b',zs,eb,r1,r2⟩:=row j h;rw[e] at eb;cases eb;exact⟨h,zs,r1,r2⟩
 have old:∀ {b c:Addr} {u:HO},Hb c=some u->fr Hb Hc b≠none->b≠c:=λ{b c u} e n z=>by
  cases h:fr Hb Hc b with
  | none=>exact n h
  | some v=>have:=new h;rw[z,e] at this;cases this
 have hbx:∀ (j:Nat) (b:Addr),vs[j]?=some (V.ref b)->∃ u,He b=some u:=λj b e=>by obtain⟨_,zs,e1,_⟩:=rowA j b e;exact⟨_,sfc _ _ e1⟩
 have c0:Cl H7 H8 He pv vs 0 He:=⟨λ_ _ e _=>e,rfl,λ_ _ _ _=>rfl,λ_ xs e=>⟨xs,e⟩⟩;have some_ne:∀ {b:Addr} {u:HO},fr Hb Hc b=some u->fr Hb Hc b≠none:=λe z=>by rw[e] at z;cases z
 have c1:=c0.put (zs:=[]) (qR _) (c:=h0) ⟨n0,_,(sb.trans (sc.trans sd)) _ _ ea0⟩ (Ne.symm (old (sb _ _ ea0) (some_ne ev))) λj b _ e=>by obtain⟨_,zs,e1,_⟩:=rowA j b e;exact old (sb _ _ ea0) (some_ne e1)
 try dsimp only
 refine x4 (lN (c_ ?_));left;refine cE 0 (d0.of phe) ?_;refine⟨.inl ⟨rfl,_,d0.of e0e⟩,?_⟩;refine⟨h0,xs5,rfl,rfl,e0e,?_⟩;have nph:∀ {c:Addr} {u:HO},Hc c=some u->ph≠c:=λe z=>by rw[z,e] at nh;cases nh
 have h01:h1≠h0:=λz=>by rw[z,ea0] at n1;cases n1
 have phg:upd He h0 (.lst []) ph=some (.lst [.ref h0,.ref h1,.ref pv]):=by rw[u6 (nph ((sb.trans sc) _ _ ea0))];exact phe
 have e1g:upd He h0 (.lst []) h1=some (.lst xs6):=by rw[u6 h01];exact e1e
 generalize upd He h0 (.lst [])=G1 at c1 phg e1g |-;try dsimp only
 refine x4 (lN (pY ?_));left;refine cE 1 (d0.of phg) ?_;refine⟨.inl ⟨rfl,_,d0.of e1g⟩,?_⟩;left;refine D6 λp99 n99=>?_
 have s99:=m8 n99 (.tup [.int 99,.int 0]);left;refine Q9 (s99 _ _ e1g) (F1 (by omega)) ?_;have c2:=((c1.up s99 ⟨_,evE⟩ hbx).put (zs:=xs6++[.ref p99]) (qR _) (c:=h1) ⟨sa.free n1,_,(sc.trans sd) _ _ eb1⟩ (Ne.symm (old eb1 (some_ne ev))) λj b _ e=>by obtain⟨_,zs,e1,_⟩:=rowA j b e;exact old eb1 (some_ne e1));have phg2:upd (upd G1 p99 (.tup [.int 99,.int 0])) h1 (.lst (xs6++[.ref p99])) ph=some (.lst [.ref h0,.ref h1,.ref pv]):=by rw[u6 (nph (sc _ _ eb1))];exact s99 _ _ phg
 generalize upd (upd G1 p99 (.tup [.int 99,.int 0])) h1 (.lst (xs6++[.ref p99]))=G2 at c2 phg2 |-;try dsimp only
 refine x4 (xK ?_);left;refine cE 2 (d0.of phg2) ?_;refine⟨pv,rfl,⟨_,d0.of (by rw[c2.pv];exact evE)⟩,cJ (xs:=vs) (λi σ Hz=>(∃ o1 o2,σ=[some (.ref a),some (.ref tp),some y2,some y3,some y4,some (.ref q5),some (.ref q6),some y7,some (.ref ph),some (.ref x),o1,o2])/\Cl H7 H8 He pv vs i Hz) ⟨⟨_,_,rfl⟩,c2⟩ (λi σ Hz _ h=>d0.of (by rw[h.2.pv];exact evE)) ?_ ?_⟩
 ·rintro i y σ Hz N hN hy ⟨⟨o1,o2,rfl⟩,cz⟩;have hi:i < vss.length:=by have:=(qE hy).1;rw[alv.1] at this;exact this
  obtain⟨b,zs,eb,fb,iz⟩:=row i hi;rw[hy] at eb;cases eb;have gi:=okv.1.2.2 _ (List.getElem_mem hi);have bz:Hz b=some (.lst zs):=by rw[cz.vs i b (qR _) hy];exact sfc _ _ fb
  have alz:=T5 iz;have lz:=iz.len;rw[qM] at lz;left;refine⟨b,rfl,⟨_,d0.of bz⟩,cJ (xs:=zs) (λj σ Hy=>(∃ o,σ=[some (.ref a),some (.ref tp),some y2,some y3,some y4,some (.ref q5),some (.ref q6),some y7,some (.ref ph),some (.ref x),some (.ref b),o])/\Cl H7 H8 He pv vs i Hy) ⟨⟨_,rfl⟩,cz⟩ (λj σ Hy _ h=>d0.of (by rw[h.2.vs i b (qR _) hy];exact sfc _ _ fb)) ?_ ?_⟩
  ·rintro j y σ Hy N1 hN1 hy1 ⟨⟨o,rfl⟩,cy⟩;obtain⟨hj,iy⟩:=Z0 alz hy1;have gj:=gi.g _ (List.getElem_mem hj);generalize vss[i][j]=sn at iy gj;have tupk:∀ {c:Addr} {us:List V},fr Hb Hc c=some (.tup us)->Hy c=some (.tup us):=λ{c us} e=>cy.kp _ _ (sfc _ _ e) λ⟨_,ws,z⟩=>by rw[sd _ _ (K5 _ _ _ _ e)] at z;cases z
   cases sn with
   | rest n=>
    obtain⟨c,rfl,ec⟩:=iy.rest;left;refine B9 0 (m9.of (tupk ec)) ?_;left;refine bJ (tr:=sT "rest") (tr':=sT "tones") ⟨rfl,A6⟩ ⟨rfl,A6⟩ (B5 rfl) (B5 rfl) (n6 (t7 ?_));exact F9 (hN1 _ _ ⟨⟨_,rfl⟩,cy⟩)
   | tones ps n wd op cl=>
    obtain⟨c,z,rfl,ec,iz'⟩:=iy.tones;obtain⟨l,ls,rfl,el,il⟩:=Is.ls (show Is _ z (.ls (ps.map pT)) from iz');obtain⟨ls',el'⟩:=cy.ls _ _ (sfc _ _ el);left;refine B9 0 (m9.of (tupk ec)) ?_;left;refine dZ (tr:=sT "tones") ⟨rfl,A6⟩ (B5 rfl) (B5 rfl) (n6 (v9 ?_));left;refine B9 1 (m9.of (tupk ec)) ?_;refine⟨.inl ⟨rfl,_,d0.of el'⟩,?_⟩;refine⟨l,ls',rfl,rfl,el',hN1 _ _ ⟨⟨_,rfl⟩,cy.put (qR _) (chb el) (Ne.symm (Zg ev el isv il (λu hu=>by obtain⟨p,_,rfl⟩:=List.mem_map.mp hu;exact⟨_,rfl⟩) okv.1.1)) λj' b' _ e'=>?_⟩⟩;obtain⟨hj',zs',f1,f2⟩:=rowA j' b' e';exact Gs f1 el f2 il (okv.1.2.2 _ (List.getElem_mem hj')).n1
  ·rintro σ Hy ⟨⟨o,rfl⟩,cy⟩;have by':Hy b=some (.lst zs):=by rw[cy.vs i b (qR _) hy];exact sfc _ _ fb
   left;refine⟨.inl ⟨rfl,_,d0.of by'⟩,?_⟩;left;have g2:=gi.n2;refine Q9 by' (F1 (by omega)) (hN _ _ ⟨⟨_,_,rfl⟩,cy.put (Nat.le_succ _) (chb fb) (Ne.symm (Zg ev fb isv iz (λu hu=>by obtain⟨p,_,rfl⟩:=List.mem_map.mp hu;cases p<;>exact⟨_,rfl⟩) okv.1.1)) λj' b' hj' e' z=>?_⟩);subst z;have:=apt i j' b' hy e';omega
 rintro σ Hf ⟨⟨o1,o2,rfl⟩,cf⟩;have sUf:b9 U Hf:=cf.same sUe uN;have sBe:=c9.trans s08 (b9.tt s8e);have sBf:c9 tp B Hf:=λb u n e=>cf.kp _ _ (sBe b u n e) λ⟨z,_⟩=>by rw[s07 b u n e] at z;cases z
 have tpf:Hf tp=some (.lst [.int n7]):=cf.kp _ _ ((s78.trans s8e) _ _ e7) λ⟨z,_⟩=>by rw[e7] at z;cases z
 have df:Dr K a tp ns Hf 10102:=⟨dB.src.sameT sBf,dB.sm,n7,by assumption,tpf⟩;have gs:∀ ss∈vss.map x9,∀ s∈ss,K3 s:=λss m s hs=>by obtain⟨z,mz,rfl⟩:=List.mem_map.mp m;exact yiO (okv.1.2.2 z mz) s hs
 have j2:=i2.same uA;have j3:=i3.same uA;have j4:=i4.same uA;have j5:=i5.same uA;have j6:=i6.same uA;have j7:=i7.same uA;have g5:=ok.m.len;try dsimp only
 refine x4 (W1 ?_);left;refine⟨y3,vss.map x9,rfl,j3.same sUf,gw,λHg sg=>?_⟩;left;refine⟨a,tp,ns,_,_,rfl,df.same sg,by omega,by decide,by decide,λv Hh v0 v1 sh dh=>?_⟩;left;have sUh:=nA (sUf.trans sg) uTp sh;refine⟨.ref x,y7,_,_,vss.map x9,fw,v,U,rfl,sUh,tu,gw,gs,j7,g5,g6,by omega,λHi si=>n6 (t7 (F9 ?_))⟩;have sUi:=sUh.trans si;try dsimp only
 refine x4 (W1 ?_);left;refine⟨y3,vss.map x9,rfl,j3.same sUi,gs,λHj sj=>n6 (t7 (F9 ?_))⟩;have sUj:=sUi.trans sj;obtain⟨q4,xs4,rfl,e4,is4⟩:=Is.ls (show Is U y4 (.ls (T0 fw fw.length)) from j4);have l4:xs4.length=fw.length:=by rw[is4.len];unfold T0;rw[qM,List.length_range]
 try dsimp only
 refine x4 (W1 ?_);left;refine⟨q4,xs4,rfl,.inl (d0.of (sUj _ _ e4)),?_⟩;rw[l4];left;refine⟨a,tp,ns,_,.ref q5,.ref q6,y2,_,_,vss,fw,U,rfl,(dh.same si).same sj,by omega,sUj,uTp,j5,j6,j2,ok,lo.1,lo.2,λHk sk=>n6 (t7 (F9 ?_))⟩;have sUk:=nA sUj uTp sk;try dsimp only
 left;intro x2 dx2 yB hdx2 ne2;refine nH yB hdx2 ne2 sUk j5 j6 j2 ok λHl sl tu2=>⟨rfl,?_⟩
 left;have sUl:=B7 sUk sl;refine⟨y3,vss.map x9,rfl,(j3.same (Y0 sUk)).same sUl,gw,λHm sm'=>?_⟩;left;exact⟨.ref x2,y7,_,_,vss.map x9,fw,0,nw U Hk Hl,rfl,sUl.trans sm',tu2.same (vY (L9 _)),gw,gs,j7.same (Y0 sUk),g5,g6,by omega,λHn sn=>q _⟩
end
end KW
namespace KW
open PySem L2
section
variable {P:Program} {w:World} {K:qF} {mg:Str->Option Value} {base:Heap} {t:Ad}
theorem yrZ (T:Txt K mg t):z0 P w K mg base S3 14 t.f_zav t.d_zav ["_law_script"] (lU K):=LX T
theorem all_mk {l:PySem.W.OpenLaw}{w:World}{K:qF}{mg:Str->Option Value}{fa:Addr}(hfa:mg "law"=some (.ref fa))(h:∃ t,Txt K mg t/\∀ (s:Shared) (v:Value),BindsTo s t.d_zav ⟨[v],[]⟩ [("_law_script",v)]) :
  ∃ fd:FuncData,(∀ (s:Shared) (v:Value),BindsTo s fd ⟨[v],[]⟩ [("_law_script",v)])/\∀ base:Heap,K.In base->base.Ns mainGlobals mg->z0 l.prog w K mg base S3 14 fa fd ["_law_script"] (lU K):=by
 obtain⟨t,T,hb⟩:=h;have e:=hfa.symm.trans T.Rf.M;cases e;exact⟨_,hb,λbase _ _=>yrZ T⟩
theorem walk {l:PySem.W.OpenLaw}{q:Program}{loose:List Str}{XP:(Str->Option Value)->Heap->Prop}{YP:World->Heap->Prop}{d:DefRec}{K:Params->qF}(hn:l.most=some 63)(hdf:d.params.defaults=[])
  (hY:∀ (w:World) (h:Heap),YP w h->(K w.params).In h)
  (F:∀ (w:World) (mg:Str->Option Value) (fa:Addr) (h:Heap),(K w.params).In h->h.Ns mainGlobals mg->mg d.name=some (.ref fa) ->
   ∃ fd:FuncData,(∀ (s:Shared) (u:Value),BindsTo s fd ⟨[u],[]⟩ [("_law_script",u)])/\∀ base:Heap,(K w.params).In base->base.Ns mainGlobals mg->z0 l.prog w (K w.params) mg base S3 14 fa fd ["_law_script"] (lU (K w.params))) :
  PySem.W.WalkO q loose XP YP l.row.toRowW d [] (λf vs=>PySem.call f vs) :=
 L2.dE (n:=63) (k:=14) (x := "_law_script") (CX:=λ_=>S3) (sp:=λw=>lU (K w.params)) hn (by decide) hdf ⟨rfl,by decide,by decide⟩ hY F (λ_ _ a ns hl hb _ hS=>⟨a,ns,rfl,hS,hb,λ_=>rfl⟩) λ_ _ _ _ _ z=>z
theorem kE {u:List Value}{n:Nat}(h:u.length=n+1):∃ a r,u=a::r/\r.length=n:=by
 cases u with
 | nil=>cases h
 | cons a r=>exact ⟨a,r,rfl,Nat.succ.inj h⟩
theorem tN {u:List Value}(h:u.length=1):∃ a,u=[a]:=by
 obtain⟨a,r,rfl,k⟩:=kE h;cases List.eq_nil_of_length_eq_zero k;exact ⟨a,rfl⟩
theorem uT {u:List Value}(h:u.length=2):∃ a b,u=[a,b]:=by
 obtain⟨a,r,rfl,k⟩:=kE h;obtain⟨b,rfl⟩:=tN k;exact ⟨a,b,rfl⟩
theorem sX {u:List Value}(h:u.length=3):∃ a b c,u=[a,b,c]:=by
 obtain⟨a,r,rfl,k⟩:=kE h;obtain⟨b,c,rfl⟩:=uT k;exact ⟨a,b,c,rfl⟩
theorem vS {u:List Value}(h:u.length=4):∃ a b c d,u=[a,b,c,d]:=by
 obtain⟨a,r,rfl,k⟩:=kE h;obtain⟨b,c,d,rfl⟩:=sX k;exact ⟨a,b,c,d,rfl⟩
theorem Kd {u:List Value}(h:u.length=6):∃ a b c d e f,u=[a,b,c,d,e,f]:=by
 obtain⟨a,r,rfl,k⟩:=kE h;obtain⟨b,s,rfl,l⟩:=kE k;obtain⟨c,d,e,f,rfl⟩:=vS l;exact ⟨a,b,c,d,e,f,rfl⟩
theorem B1 {K:qF}{h:Heap}{mg:Str->Option Value}{n:Str}{m:Nat}{ps:List Str}{f:Addr}{od an:Option Addr}{sl:Array (Option Value)}{oc kV dc pm cd ct:Value}(X:K.In h)(G:h.Ns mainGlobals mg)
  (a:PySem.W.nsIn K mainGlobals n=some (some (.ref f)):=by (try dsimp only);k_is) (l:K.lookup f=some ⟨oc,od,.func (PySem.W.fnOf n n (eP (u8 m)) (bW (u8 m)) (v6 (u8 m)) .none kV dc pm an cd ct),sl⟩:=by (try dsimp only);k_is)
  (c:PySem.W.codeIn K cd n=true:=by (try dsimp only);k_is) (k:PySem.W.keepIn K (.ref f)=true:=by (try dsimp only);k_is)
  (e:∀ (kV dc pm:Value) (an:Option Addr) (cd ct:Value) (us:List Value),us.length=ps.length->bindArgs (PySem.W.fnOf n n (eP (u8 m)) (bW (u8 m)) (v6 (u8 m)) .none kV dc pm an cd ct) ⟨us,[]⟩=pure (ps.zip us):=by first | (intro _ _ _ _ _ _ us hl;obtain⟨_,rfl⟩:=tN hl;rfl) | (intro _ _ _ _ _ _ us hl;obtain⟨_,_,rfl⟩:=uT hl;rfl) | (intro _ _ _ _ _ _ us hl;obtain⟨_,_,_,rfl⟩:=sX hl;rfl) | (intro _ _ _ _ _ _ us hl;obtain⟨_,_,_,_,rfl⟩:=vS hl;rfl) | (intro _ _ _ _ _ _ us hl;obtain⟨_,_,_,_,_,_,rfl⟩:=Kd hl;rfl)) :
  FM K mg n m ps f (PySem.W.fnOf n n (eP (u8 m)) (bW (u8 m)) (v6 (u8 m)) .none kV dc pm an cd ct) :=
 ⟨pW l c k,(pW l c k).binds e,PySem.W.mg_of X G a⟩
theorem mN {K:qF}{n q:Str}{m:Nat}{ps:List Str}{f:Addr}{od an:Option Addr}{sl:Array (Option Value)}{oc kV dc pm cd ct:Value}
  (l:K.lookup f=some ⟨oc,od,.func (PySem.W.fnOf n q (eP (u8 m)) (bW (u8 m)) (v6 (u8 m)) .none kV dc pm an cd ct),sl⟩:=by (try dsimp only);k_is)
  (c:PySem.W.codeIn K cd q=true:=by (try dsimp only);k_is) (k:PySem.W.keepIn K (.ref f)=true:=by (try dsimp only);k_is)
  (e:∀ (kV dc pm:Value) (an:Option Addr) (cd ct:Value) (us:List Value),us.length=ps.length->bindArgs (PySem.W.fnOf n q (eP (u8 m)) (bW (u8 m)) (v6 (u8 m)) .none kV dc pm an cd ct) ⟨us,[]⟩=pure (ps.zip us):=by first | (intro _ _ _ _ _ _ us hl;obtain⟨_,rfl⟩:=tN hl;rfl) | (intro _ _ _ _ _ _ us hl;obtain⟨_,_,rfl⟩:=uT hl;rfl) | (intro _ _ _ _ _ _ us hl;obtain⟨_,_,_,rfl⟩:=sX hl;rfl) | (intro _ _ _ _ _ _ us hl;obtain⟨_,_,_,_,rfl⟩:=vS hl;rfl) | (intro _ _ _ _ _ _ us hl;obtain⟨_,_,_,_,_,_,rfl⟩:=Kd hl;rfl)) :
  FN K n q m ps f (PySem.W.fnOf n q (eP (u8 m)) (bW (u8 m)) (v6 (u8 m)) .none kV dc pm an cd ct) :=
 ⟨pW l c k,(pW l c k).binds e⟩
section
variable {K:qF} {h:Heap} {mg:Str->Option Value} {n:Str} {v:Value} {f C:Addr}
theorem mV (X:K.In h)(G:h.Ns mainGlobals mg)(a:PySem.W.nsIn K mainGlobals n=some (some v):=by (try dsimp only);k_is):mg n=some v:=PySem.W.mg_of X G a
theorem mZ (X:K.In h)(G:h.Ns mainGlobals mg)(a:PySem.W.nsIn K mainGlobals n=some none:=by (try dsimp only);k_is):mg n=none:=PySem.W.mg_none_of X G a
theorem mK (a:PySem.W.makesIn K C=true:=by (try dsimp only);k_is)(b:PySem.W.findIn K (.ref C) "__init__"=some (some (.ref f)):=by (try dsimp only);k_is)(c:PySem.W.isFn K (.ref f)=true:=by (try dsimp only);k_is)(d:PySem.W.keepIn K (.ref C)=true:=by (try dsimp only);k_is):Mk K C f:=⟨a,b,c,d⟩
theorem mM (a:PySem.W.findIn K (.ref C) n=some (some (.ref f)):=by (try dsimp only);k_is)(b:PySem.W.isFn K (.ref f)=true:=by (try dsimp only);k_is)(c:PySem.W.keepIn K (.ref f)=true:=by (try dsimp only);k_is):aP K C n f:=⟨a,b,c⟩
theorem mS (a:PySem.W.specialIn K (.ref C) "__getattribute__"=some (some (.builtin "type.__getattribute__")):=by (try dsimp only);k_is)(b:PySem.W.readsIn K C (.type "type")=true:=by (try dsimp only);k_is)(c:PySem.W.findCls K (.ref C) (.type "type") n=some (.val (.ref f)):=by (try dsimp only);k_is)(d:PySem.W.keepIn K (.ref f)=true:=by (try dsimp only);k_is):xO K C n f:=⟨a,b,c,rfl,d⟩
theorem mL (a:PySem.W.plainGet K C Str.empty=true:=by (try dsimp only);k_is)(b:PySem.W.hasDictIn K C=true:=by (try dsimp only);k_is)(c:PySem.W.plainOver K C=true:=by (try dsimp only);k_is)(d:PySem.W.findIn K (.ref C) "__setattr__"=some (some (.builtin "object.__setattr__")):=by (try dsimp only);k_is):R8 K C:=⟨a,b,c,d⟩
theorem mO (a:PySem.W.findIn K (.ref C) "__class__"=some (some (.builtin "object.__class__")):=by (try dsimp only);k_is)(b:PySem.W.specialIn K (.builtin "object.__class__") "__get__"=some (some (.builtin "getset_descriptor.__get__")):=by (try dsimp only);k_is)(c:PySem.W.takesIn K (.builtin "object.__class__")=some true:=by (try dsimp only);k_is)(d:PySem.W.mroIn K C (.type "object")=some true:=by (try dsimp only);k_is):M6 K C:=⟨a,b,c,d⟩
theorem mA (a:PySem.W.findIn K (.ref C) n=some none:=by (try dsimp only);k_is):v7 K C n:=a
theorem mI {D:Addr}{b:Bool}(a:PySem.W.kitOne K (.ref C) (.ref D)=some b:=by (try dsimp only);kit_is):PySem.W.kitOne K (.ref C) (.ref D)=some b:=a
theorem mQ {xs:List V}{i:List Value}{k:Nat}(l:K.lookup f=some ⟨.type "tuple",none,.seq i.toArray k,#[]⟩:=by (try dsimp only);k_is)(v:mB xs i=true:=by rfl)(y:i.length<=1000:=by decide):W9 K f xs:=ym1 l v (by simpa using y)
theorem mJ {b:Bool}(a:PySem.W.kitOne K (.ref C) (.type "ValueError")=some b:=by (try dsimp only);kit_is):PySem.W.kitOne K (.ref C) (.type "ValueError")=some b:=a
theorem mW (a:PySem.W.keepIn K (.ref C)=true:=by (try dsimp only);k_is):PySem.W.keepIn K (.ref C)=true:=a
theorem mU {v:Value}(a:PySem.W.typeIn K (.ref C)=some v:=by (try dsimp only);k_is):PySem.W.typeIn K (.ref C)=some v:=a
theorem mX {bm:List Value}{s:String}(a:PySem.W.excIn K C bm s=true:=by (try dsimp only);k_exc):PySem.W.excIn K C bm s=true:=a
theorem mH {D:Addr}{cd:ClassData}{b:Bool}(h0:PySem.W.clsIn K D=some cd:=by (try dsimp only);k_is)(h1:PySem.W.typeIn K (.ref D)=some (.type "type"):=by (try dsimp only);k_is)(h2:PySem.W.mroIn K D (.type "BaseException")=some true:=by (try dsimp only);k_is)(h3:PySem.W.mroIn K C (.ref D)=some b:=by (try dsimp only);k_is):PySem.W.exmOne K (.ref C) (.ref D)=some b:=by
 unfold PySem.W.exmOne PySem.W.kitCls PySem.W.subIn;simp[h0,h1,h2,h3]
theorem mY {cd:ClassData}(a:PySem.W.clsIn K C=some cd:=by (try dsimp only);k_is)(b:cd.hasDict=true:=by rfl)(c:∀ self,refuseLoop self "__setattr__" cd.mro=pure ():=by (intro self;(try dsimp only);rw[refuseLoop_ref,refuseLoop_ref];kernel_rfl))
  (d:PySem.W.findIn K (.ref C) "__getattribute__"=some (some (.builtin "BaseException.__getattribute__")):=by (try dsimp only);k_is) (e:PySem.W.findIn K (.ref C) "__getattr__"=some none:=by (try dsimp only);k_is) (f:PySem.W.findIn K (.ref C) "__setattr__"=some (some (.builtin "object.__setattr__")):=by (try dsimp only);k_is) (g:PySem.W.findIn K (.ref C) "__class__"=some (some (.builtin "object.__class__")):=by (try dsimp only);k_is)
  (h:PySem.W.specialIn K (.builtin "object.__class__") "__get__"=some (some (.builtin "getset_descriptor.__get__")):=by (try dsimp only);k_is) (i:PySem.W.takesIn K (.builtin "object.__class__")=some true:=by (try dsimp only);k_is) (j:PySem.W.mroIn K C (.type "object")=some true:=by (try dsimp only);k_is) (k:PySem.W.mroIn K C (.type "BaseException")=some true:=by (try dsimp only);k_is):T6 K C:=⟨⟨cd,a,b,c⟩,d,e,f,g,h,i,j,k⟩
end
end
section
open PySem PySem.W PyProof.Rows
theorem txx {w:World}{mg:Str->Option Value}{h:Heap}(X:(pre.heap_1 w.params).In h)(G:h.Ns mainGlobals mg):∃ t,Txt (pre.heap_1 w.params) mg t/\∀ (s:Shared) (v:Value),BindsTo s t.d_zav ⟨[v],[]⟩ [("_law_script",v)] :=
 ⟨⟨_,_,_,_,_,_,_,_,_,_,_,_,_,_,_,_,_,_,_,_,_,_,_,_,_,_,_,_,_,_,_,_,_,_,_,_,_,_,_,_,_,_,_,_,_,_,_,_,_,_,_,_,_,_,_,_,_,_,_,_,_,_,_,_,_,_,_,_,_,_,_,_,_,_,_,_,_,_,_,_,_,_,_,_,_,_,_,_,_,_,_,_,_,_,_,_,_,_,_,_,_,_,_,_,_,_,_,_,_,_,_,_,_,_,_,_,_,_,_,_,_,_,_,_,_,_,_,_,_,_,_,_,_,_,_,_,_,_,_,_,_,_,_,_,_,_,_,_,_,_,_,_,_,_,_⟩,⟨mV X G,mV X G,mV X G,mV X G,mV X G,mV X G,mV X G,mV X G,mV X G,mV X G,mV X G,mV X G,mV X G,mV X G,mK,mK,mK,mM,mM,mM,mM,mM,mM,mM,mM,mS,B1 X G,B1 X G,B1 X G,B1 X G,B1 X G,B1 X G,B1 X G,B1 X G,B1 X G,B1 X G,B1 X G,B1 X G,mN,mN,mN,mN,mN,mN,mN,mN,mN,B1 X G,B1 X G,B1 X G,B1 X G,B1 X G,B1 X G,B1 X G,B1 X G,B1 X G,B1 X G,B1 X G,B1 X G,B1 X G,B1 X G,B1 X G,B1 X G,B1 X G,B1 X G,B1 X G,B1 X G,B1 X G,B1 X G,B1 X G,B1 X G,B1 X G,B1 X G,B1 X G,B1 X G,mN,mN,B1 X G,B1 X G,B1 X G,B1 X G,B1 X G,B1 X G,B1 X G,B1 X G,B1 X G,B1 X G,B1 X G,B1 X G,B1 X G,B1 X G,B1 X G,B1 X G,B1 X G,B1 X G,B1 X G,mZ X G,mZ X G,mZ X G,mZ X G,mZ X G,mZ X G,mZ X G,mZ X G,mZ X G,mZ X G,mZ X G,mZ X G,mZ X G,mZ X G,⟨_,mV X G⟩,⟨_,mV X G⟩,⟨_,mV X G⟩,⟨_,mV X G⟩,⟨_,mV X G⟩,mV X G,mQ,⟨_,mV X G⟩,⟨_,mV X G⟩,⟨_,mV X G⟩,⟨_,mV X G⟩,⟨_,mV X G⟩,⟨_,mV X G⟩,⟨_,mV X G⟩,⟨_,mV X G⟩,mL,mO,mA,mI,mI,mI,mL,mO,mA,mA,mA,mA,mA,mI,mI,mI,mL,mO,mA,mA,mA,mA,mI,mI,mI,mY,mI,mI,mI,mI,mI,mI,mI,mI,mI,mJ,mX,mW,mU,mH⟩,λs v=>.of_eq rfl⟩
end
end KW
open PySem PySem.W PyProof.Rows
set_option maxRecDepth 100000 in
set_option maxHeartbeats 0 in
theorem PySem.Challenge.cw_barwright_k09_tunes_made_or_refused_holds : PySem.Challenge.rw_barwright_k09_tunes_made_or_refused.Holds := by
 refine KW.headx ?_;k_fill;refine KW.walk (l:=PySem.Challenge.rw_barwright_k09_tunes_made_or_refused) (K:=KW.pre.heap_1) rfl KW.dx_dfl (λw h Y=>PySem.W.kIn_of Y) ?F
 case F =>
  intro w mg fa h KX G hmg;rw[KW.dx_name] at hmg;exact KW.all_mk hmg (KW.txx KX G)
