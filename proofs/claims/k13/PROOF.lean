import PyProof.Rows.All
import Wide.All
import OpenK.AllK
import Wide.FinOn
import Lean
import PyProof.EqAt
import PyProof.EqKinds
import PyProof.TupleCall
import PyProof.NeKinds
import PyProof.CompFree
import PyProof.EnumMake
import PyProof.Draws
import PyProof.Rows.CallKwBuiltin
import OpenK.KCls
import KE.KNest
import PyProof.SumWalk
import PyProof.WalksMore
import PyProof.ZipIter
import PyProof.DictWalks
import PyProof.DictKinds
import PyProof.DictStraight
import KE.KSortKey
import PyProof.Rows.Range3
import KE.KRevIter
import PyProof.Rows.MinMaxN
import PyProof.DictDisplay
import KE.KLam
import KE.KMinKey
import PyProof.TupleIter
import PyProof.StrWalks
import KE.KIntText
import PyProof.Rows.StrNews2
import PyProof.StrCalls6
import PyProof.StrLawsIn
import PyProof.StrBlockL
import KE.IntTextLaws
import KE.KSortAsk
import KE.KSortTup
import PyProof.ListRange
import PyProof.CollectIter
import PyProof.RaisesMany
import OpenK.KOwn
import KE.KIsAll
import PyProof.ExcArgsOwn
import PyProof.ExcClass2
import KE.KTryMore
import KE.KRevSl
import PyProof.AutoSeq1
import PyProof.Rows.SumAny
import KE.IntBitsLaws
import KE.RegKIsAll
import PySem.Challenge.RW_barwright_k13_threes
set_option bootstrap.genMatcherCode false
set_option Elab.async false
set_option linter.all false
set_option maxRecDepth 100000
set_option maxHeartbeats 4000000
namespace KT
section
open PySem PySem.W PyProof.Rows
noncomputable def ynS (p:Program)(w:World)(N:Nat):Option Shared :=
 ((Fast.tw10274390034422433532 Fast.tw14364793385576792824 (opening p) w N (Fast.tw1435165496053646825 (opening p)).fst (Fast.tw1435165496053646825 (opening p)).snd).bind (Fast.tw14289696077712309145 p)).bind
  λs₀=>match s₀.heap.isNs mainGlobals&&s₀.gens.size==0 with
  | true=>(Fast.tw14082659384304107361 Fast.tw14364793385576792824 p w s₀.heap.objs.size (s₀.heap.nsMap mainGlobals (Str.ofString "__annotations__")) N s₀ (topStub p)).bind
    λs₁=>match staticsOk (importedModules p.main.body) s₀.heap s₁.heap&&namesBound p s₁.heap&&gensDone s₁&&laidKept s₀.heap s₁.heap with
    | true=>some s₁
    | false=>none
  | false=>none
noncomputable abbrev ycn (p q:Program)(loose:List Str)(Xt:Shared->Bool):=Fast.tw4187177175401517315 q loose (importedModules p.main.body) Xt true
theorem yk4 {p q:Program}{loose:List Str}{Xt:Shared->Bool}{α:Type}{Yf:Shared->α}{a:α}{N:Nat}{w:World}{s:Shared}(hr:ynS p w N=some s/\True)
  (hb1:(ycn p q loose Xt s).1=PyProof.Rows.expectedOf q/\True)
  (h2:((ycn p q loose Xt s).2.1,(ycn p q loose Xt s).2.2.2.2.1,(ycn p q loose Xt s).2.2.2.2.2.2.1,(ycn p q loose Xt s).2.2.2.2.2.2.2.2)=(bltViewBooted,pinGoodD (PyProof.Rows.drecsOf q),PyProof.Rows.plainGoodD q loose,clsGoodW q loose)/\True)
  (h3:(ycn p q loose Xt s).2.2.1=true/\True) (h4:(ycn p q loose Xt s).2.2.2.1=true/\True) (h5:(ycn p q loose Xt s).2.2.2.2.2.1=PyProof.Rows.plainGoodE q (looseW q loose)/\True) (h6:(ycn p q loose Xt s).2.2.2.2.2.2.2.1=wideGood q/\True) (h7:Yf s=a/\True) :
  (openEnds treeTable p w N).map (λs=>(openSeen q loose (importedModules p.main.body) Xt true s,Yf s))=some (openGood q loose,a):=by
 unfold openEnds fencedOpening topFrom
 rw[Fast.te14364793385576792824,Fast.te10274390034422433532,Fast.te4187177175401517315,Fast.te14082659384304107361,Fast.te1435165496053646825,Fast.te14289696077712309145]
 show(ynS p w N).map _=_
 rw[hr.1]
 have h2:=h2.1
 simp only[Option.map_some,Option.some.injEq,Prod.mk.injEq] at h2 ⊢
 exact⟨Prod.ext hb1.1 (Prod.ext h2.1 (Prod.ext h3.1 (Prod.ext h4.1 (Prod.ext h2.2.1 (Prod.ext h5.1 (Prod.ext h2.2.2.1 (Prod.ext h6.1 h2.2.2.2))))))),h7.1⟩
theorem ymJ {p:Program}{w:World}{N M n:Nat}{ann:Option Value}{s₀ s:Shared}(h0:((Fast.tw10274390034422433532 Fast.tw14364793385576792824 (opening p) w N (Fast.tw1435165496053646825 (opening p)).fst (Fast.tw1435165496053646825 (opening p)).snd).bind (Fast.tw14289696077712309145 p))=some s₀/\True)
  (hb1:(s₀.heap.isNs mainGlobals&&s₀.gens.size==0,s₀.heap.objs.size,s₀.heap.nsMap mainGlobals (Str.ofString "__annotations__"))=(true,n,ann)/\True) (h2:topRun treeTable p w n ann M s₀ (topStub p)=some s) (le:M<=N)
  (h3:(staticsOk (importedModules p.main.body) s₀.heap s.heap&&namesBound p s.heap&&gensDone s&&laidKept s₀.heap s.heap)=true/\True):ynS p w N=some s/\True:=by
 obtain⟨z1,z2,z3⟩:_/\_/\_:=by simpa only[Prod.mk.injEq] using hb1.1
 have r:=topRun_mono (N - M) _ _ _ _ h2
 rw[show M+(N - M)=N by omega,Fast.te14364793385576792824,Fast.te14082659384304107361] at r
 refine⟨?_,trivial⟩
 unfold ynS
 rw[h0.1]
 show(match s₀.heap.isNs mainGlobals&&s₀.gens.size==0 with | true=>_ | false=>_)=_
 rw[z1]
 show(Fast.tw14082659384304107361 Fast.tw14364793385576792824 p w s₀.heap.objs.size (s₀.heap.nsMap mainGlobals (Str.ofString "__annotations__")) N s₀ (topStub p)).bind _=_
 rw[z2,z3,r]
 show(match staticsOk (importedModules p.main.body) s₀.heap s.heap&&namesBound p s.heap&&gensDone s&&laidKept s₀.heap s.heap with | true=>some s | false=>none)=_
 rw[h3.1]
theorem yom {l:OpenLaw}(ok:Fast.tw9446332074065402090 l=true/\True)(h:l.row.wellSaid=true->l.row.Holds):l.Holds:=by
 refine holds_law ?_ h
 rw[Fast.te9446332074065402090]
 exact ok.1
noncomputable def bs (i:Nat):Stmt:=PySem.Challenge.pw_barwright_k13_threes.main.body.getD i (.Pass ⟨0,0,0,0⟩)
noncomputable def cs (i j:Nat):Stmt:=match bs i with
 | .ClassDef _ _ _ b _ _ _ _ _ _ _=>b.getD j (.Pass ⟨0,0,0,0⟩)
 | s=>s
noncomputable def aO (s:Stmt):Arguments:=match s with
 | .FunctionDef _ a _ _ _ _ _ _ _ _=>a
 | _=>⟨[],[],none,[],[],none,[]⟩
noncomputable def bO (s:Stmt):List Stmt:=match s with
 | .FunctionDef _ _ b _ _ _ _ _ _ _=>b
 | _=>[]
noncomputable def sO (s:Stmt):Scope:=match s with
 | .FunctionDef _ _ _ _ _ _ sc _ _ _=>sc
 | _=>{ kind:=.function,names:=[],isGenerator:=false,isCoroutine:=false }
noncomputable def fd (n q:Str)(st:Stmt)(g:Addr)(pm cd:Value):FuncData:=⟨n,q,aO st,.stmts (bO st),sO st,g,[],.none,.none,.none,pm,none,cd,.none,0⟩
noncomputable def de (P:Params)(k:Str)(t:Tok)(v:Value):DictEntry:=⟨PyData.keyHash P k,.str k t,v⟩
noncomputable def ut (l:List Value):Obj:=⟨.type "tuple",none,.seq ⟨l⟩ 0,#[]⟩
noncomputable def uf (l:List Value):Obj:=⟨.none,none,.fields ⟨l⟩,#[]⟩
noncomputable def uh2 (n q:Str)(s:Stmt):Obj:=⟨.none,none,.func (fd n q s 0 .none .none),#[]⟩
noncomputable def uh (n:Str)(s:Stmt):Obj:=uh2 n n s
noncomputable def uu (n q:Str)(s:Stmt)(m:Str)(t:Tok)(c:Addr):Obj:=⟨.type "function",none,.func (fd n q s 3 (.str m t) (.ref c)),#[]⟩
noncomputable def uc (n q:Str)(t:Tok)(l a:Int)(r:Addr)(x y:Value)(h:Addr)(z:Tok):Obj:=⟨.type "code",none,.fields #[.str n t,.str q (t+1),.str "/claim/cut.py" (t+2),.int l 0,.int a 0,.int 0 0,.int 0 0,.int 3 0,.ref r,.bool true,.int 181 0,.ref (r+1),.none,x,y,.ref h,.int z 0,.int l 0,.str "/claim/cut.py" (z+1)],#[]⟩
noncomputable def pa (l:List Obj)(c:List (Nat×Obj)):List Obj:=c.foldl (λl x=>l.set x.1 x.2) l
noncomputable def nmO (s:Stmt):Str:=match s with
 | .FunctionDef n _ _ _ _ _ _ _ _ _=>n
 | _ => ""
noncomputable def m0:Str := "__main__"
noncomputable def m1:Str := "barwright.words"
noncomputable def m2:Str := "barwright.metres"
noncomputable def m3:Str := "barwright.bars"
noncomputable def m4:Str := "barwright.errors"
noncomputable def m5:Str := "barwright.threes"
noncomputable def m6:Str := "barwright.pitches"
noncomputable def m7:Str := "barwright.keys"
noncomputable def m8:Str := "barwright.tunes"
noncomputable def m9:Str := "law_barwright_k13_threes"
noncomputable def ua (i:Nat)(m:Str)(t:Tok)(c:Addr):Obj:=uu (nmO (bs i)) (nmO (bs i)) (bs i) m t c
noncomputable def ui (i:Nat):Obj:=uh (nmO (bs i)) (bs i)
noncomputable def rf (n:Nat):Value:=cond (n==0) .none (.ref n)
noncomputable def ud (i:Nat)(t:Tok)(l a:Int)(r:Addr)(x y:Nat)(h:Addr)(z:Tok):Obj:=uc (nmO (bs i)) (nmO (bs i)) t l a r (rf x) (rf y) h z
noncomputable def ub (a:String)(v:Value):Obj:=⟨.type "builtin_function_or_method",none,.fields #[.builtin a,v],#[]⟩
noncomputable def up:Obj:=ub "type.__prepare__" (.type "type")
noncomputable def uq (r:Addr):Obj:=ub "object.__init_subclass__" (.ref r)
noncomputable def us (r:Addr):Obj:=⟨.type "super",none,.fields #[.ref r,.ref r,.ref r],#[]⟩
noncomputable def ug (t:Tok)(r:Addr):Obj:=⟨.type "getset_descriptor",none,.fields #[.str "__weakref__" t,.ref r,.builtin "ExceptionGroup.__weakref__",.none],#[]⟩
noncomputable def uv (c d:Addr)(m:Str)(t:Tok):Obj:=⟨.type "frame",none,.plain,#[some (.ref c),some (.ref 3),some (.ref d),none,some (.str m t),none,some (.ref 0)]⟩
noncomputable def uk (n:Str)(t:Tok)(l:Int)(r:Addr)(q:Int):Obj:=⟨.type "code",none,.fields #[.str n t,.str n (t+1),.str "/claim/cut.py" (t+2),.int l 0,.int 0 0,.int 0 0,.int 0 0,.int 0 0,.ref r,.bool false,.int q 0,.ref (r+1),.none,.none,.none,.none,.int ((t+3:Nat):Int) 0,.int l 0,.str "/claim/cut.py" (t+4)],#[]⟩
noncomputable def dd (l:List DictEntry)(n:Nat):Obj:=⟨.type "dict",none,.dict ⟨l⟩ n,#[]⟩
noncomputable def db (P:Params)(n:Nat)(l:List String):List DictEntry:=(l.zipIdx n).map λx=>de P (Str.ofString x.1) x.2 (.builtin x.1)
noncomputable def dt (P:Params)(n:Nat)(l:List String):List DictEntry:=(l.zipIdx n).map λx=>de P (Str.ofString x.1) x.2 (.type x.1)
noncomputable def dr (P:Params)(l:List (Str×Tok×Nat)):List DictEntry:=l.map λx=>de P x.1 x.2.1 (.ref x.2.2)
noncomputable def di (P:Params)(l:List (Str×Tok×Int)):List DictEntry:=l.map λx=>de P x.1 x.2.1 (.int x.2.2 (x.2.1 - 1))
noncomputable def uw (k:Int)(l:List (Int×Nat)):Obj:=uf (l.flatMap λx=>[.int x.1 0,.int k 0,.ref x.2])
noncomputable def u0:Obj:=ut []
noncomputable def u1:Obj:=uf []
noncomputable def h0 (P:Params):List Obj:=[
 dd ([de P "__name__" 1 (.str "builtins" 160),de P "__doc__" 2 (.builtin "builtins.__doc__:str#opaque"),de P "__package__" 3 (.builtin "builtins.__package__:str#opaque"),de P "__loader__" 4 (.builtin "builtins.__loader__:shared#opaque"),de P "__spec__" 5 (.builtin "builtins.__spec__#opaque")]++db P 6 ["__build_class__","__import__","abs","all","any","ascii","bin","breakpoint","callable","chr","compile","delattr","dir","divmod","eval","exec","format","getattr","globals","hasattr","hash","hex","id","input","isinstance","issubclass","iter","aiter","len","locals","max","min","next","anext","oct","ord","pow","print","repr","round","setattr","sorted","sum","vars"]++[de P "None" 50 (.none),de P "Ellipsis" 51 (.ellipsis),de P "NotImplemented" 52 (.notImplemented),de P "False" 53 (.bool false),de P "True" 54 (.bool true)]++dt P 55 ["bool","memoryview","bytearray","bytes","classmethod","complex","dict","enumerate","filter","float","frozenset","property","int","list","map","object","range","reversed","set","slice","staticmethod","str","super","tuple","type","zip"]++[de P "__debug__" 81 (.bool true)]++dt P 82 ["BaseException","BaseExceptionGroup","Exception","GeneratorExit","KeyboardInterrupt","SystemExit","ArithmeticError","AssertionError","AttributeError","BufferError","EOFError","ImportError","LookupError","MemoryError","NameError","OSError","ReferenceError","RuntimeError","StopAsyncIteration","StopIteration","SyntaxError","SystemError","TypeError","ValueError","Warning","FloatingPointError","OverflowError","ZeroDivisionError","BytesWarning","DeprecationWarning","EncodingWarning","FutureWarning","ImportWarning","PendingDeprecationWarning","ResourceWarning","RuntimeWarning","SyntaxWarning","UnicodeWarning","UserWarning","BlockingIOError","ChildProcessError","ConnectionError","FileExistsError","FileNotFoundError","InterruptedError","IsADirectoryError","NotADirectoryError","PermissionError","ProcessLookupError","TimeoutError","IndentationError","_IncompleteInputError","IndexError","KeyError","ModuleNotFoundError","NotImplementedError","PythonFinalizationError","RecursionError","UnboundLocalError","UnicodeError","BrokenPipeError","ConnectionAbortedError","ConnectionRefusedError","ConnectionResetError","TabError","UnicodeDecodeError","UnicodeEncodeError","UnicodeTranslateError","ExceptionGroup"]++[de P "EnvironmentError" 151 (.type "OSError"),de P "IOError" 152 (.type "OSError"),de P "open" 153 (.builtin "open"),de P "quit" 154 (.builtin "builtins.quit#opaque"),de P "exit" 155 (.builtin "builtins.exit#opaque"),de P "copyright" 156 (.builtin "builtins.copyright#opaque"),de P "credits" 157 (.builtin "builtins.credits#opaque"),de P "license" 158 (.builtin "builtins.license#opaque"),de P "help" 159 (.builtin "builtins.help#opaque")]) 159,
 dd (dr P [("builtins",162,4),("__main__",163,5)]) 2,⟨.none,none,(.dict #[] 0),#[]⟩,
 dd ([de P "__name__" 165 (.str "__main__" 164),de P "__doc__" 166 (.none),de P "__package__" 167 (.none),de P "__loader__" 168 (.builtin "__main__.__loader__#opaque"),de P "__spec__" 169 (.none)]++dr P [("__annotations__",170,6),("__builtins__",171,4)]++[de P "__file__" 173 (.str "/claim/cut.py" 172),de P "__cached__" 174 (.none)]) 9,⟨.type "module",(some 0),.plain,#[]⟩,
 ⟨.type "module",(some 3),.plain,#[]⟩,dd ([]) 0,u0,u1,uk "<module>" 176 1 7 175,uv 9 3 m0 164]
noncomputable def ha (P:Params):List Obj:=pa (h0 P) []++[
 u0,u1,uk "<module>" 182 1 11 181,uv 13 3 m0 164]
noncomputable def hb1 (P:Params):List Obj:=pa (ha P) [(3,dd ([de P "__name__" 165 (.str "barwright.errors" 348),de P "__doc__" 166 (.none),de P "__package__" 167 (.none),de P "__loader__" 168 (.builtin "__main__.__loader__#opaque"),de P "__spec__" 169 (.none)]++dr P [("__annotations__",170,6),("__builtins__",171,4)]++[de P "__file__" 173 (.str "/claim/cut.py" 172),de P "__cached__" 174 (.none),de P "_wall" 193 (.ref 21),de P "SYLLABLE_SIGNS" 197 (.str "abcdefghijklmnopqrstuvwxyzABCDEFGHIJKLMNOPQRSTUVWXYZ-" 196),de P "MOST_SYLLABLE_SIGNS" 199 (.int 12 198)]++dr P [("is_whole",206,28),("is_among",215,35),("do_rise",221,40),("has_only",227,45),("is_syllable",234,52)]++di P [("GRAINS",236,96),("MOST_TOP",240,12)]++[de P "BOTTOMS" 244 (.ref 53),de P "MOST_BAR_GRAINS" 246 (.int 192 245)]++dr P [("is_metre",255,60),("are_groups",261,65),("unit_grains",268,72),("bar_grains",275,79),("beat_units",283,86),("rule_of",292,93),("beats",303,100),("cut",311,105),("spans_of",325,112),("stretches_in",341,119),("beats_by_bars",347,124),("TuneError",367,134),("BadRow",392,154),("BadTune",408,166),("OutOfReach",424,178),("TooFine",451,197),("BadStretch",467,209),("BadPage",492,228),("BadRoll",508,240),("OutOfPlace",524,252),("BadWidth",540,264)]) 42),(12,uf [.int 1 0,.int 0 0,.ref 20,.int 7 0,.int 0 0,.ref 27,.int 9 0,.int 0 0,.ref 34,.int 11 0,.int 0 0,.ref 39,.int 13 0,.int 0 0,.ref 44,.int 15 0,.int 0 0,.ref 51,.int 24 0,.int 0 0,.ref 59,.int 32 0,.int 0 0,.ref 64,.int 38 0,.int 0 0,.ref 71,.int 40 0,.int 0 0,.ref 78,.int 42 0,.int 0 0,.ref 85,.int 53 0,.int 0 0,.ref 92,.int 59 0,.int 0 0,.ref 99,.int 68 0,.int 0 0,.ref 104,.int 78 0,.int 0 0,.ref 111,.int 88 0,.int 0 0,.ref 118,.int 99 0,.int 0 0,.ref 123,.int 102 0,.int 0 0,.ref 130,.int 104 0,.int 0 0,.ref 143,.int 108 0,.int 0 0,.ref 162,.int 110 0,.int 0 0,.ref 174,.int 112 0,.int 0 0,.ref 186,.int 117 0,.int 0 0,.ref 205,.int 119 0,.int 0 0,.ref 217,.int 123 0,.int 0 0,.ref 236,.int 125 0,.int 0 0,.ref 248,.int 127 0,.int 0 0,.ref 260])]++[
 u0,u1,ut [.str "k" 190],u0,ui 0,ud 0 187 1 1 15 17 18 19 191,ua 0 m0 164 20,u0,u1,ut [.str "thing" 203],u0,ui 4,ud 4 200 7 1 22 24 25 26 204,ua 4 m1 194 27,u0,u1,ut [.str "thing" 210,.str "least" 211,.str "most" 212],u0,ui 5,ud 5 207 9 3 29 31 32 33 213,ua 5 m1 194 34,u0,u1,ui 6,ud 6 216 11 1 36 0 0 38 219,ua 6 m1 194 39,u0,u1,ui 7,ud 7 222 13 2 41 0 0 43 225,ua 7 m1 194 44,u0,u1,
 ut [.str "thing" 231],u0,ui 8,ud 8 228 15 1 46 48 49 50 232,ua 8 m1 194 51,ut [.int 2 241,.int 4 242,.int 8 243],u0,u1,ut [.str "thing" 250,.str "top" 251,.str "bottom" 252],u0,ui 14,ud 14 247 24 1 54 56 57 58 253,ua 14 m2 237 59,u0,u1,ui 15,ud 15 256 32 2 61 0 0 63 259,ua 15 m2 237 64,u0,u1,ut [.str "bottom" 265],u0,ui 16,ud 16 262 38 1 66 68 69 70 266,ua 16 m2 237 71,u0,u1,ut [.str "metre" 272],
 u0,ui 17,ud 17 269 40 1 73 75 76 77 273,ua 17 m2 237 78,u0,u1,ut [.str "metre" 279,.str "top" 280],u0,ui 18,ud 18 276 42 1 80 82 83 84 281,ua 18 m2 237 85,u0,u1,ut [.str "metre" 287,.str "lengths" 288],ut [.str "units" 289],ui 19,ud 19 284 53 1 87 89 90 91 290,ua 19 m2 237 92,u0,u1,ut [.str "metre" 296,.str "rule" 297,.str "pairs" 298,.str "begin" 299,.str "length" 300],u0,ui 20,
 ud 20 293 59 1 94 96 97 98 301,ua 20 m2 237 99,u0,u1,ui 22,ud 22 306 68 1 101 0 0 103 309,ua 22 m3 304 104,u0,u1,ut [.str "sounds" 315,.str "lasts" 316,.str "spans" 317,.str "begin" 318,.str "place" 319,.str "told" 320,.str "is_rest" 321,.str "end" 322],u0,ui 23,ud 23 312 78 2 106 108 109 110 323,ua 23 m3 304 111,u0,u1,
 ut [.str "begin" 329,.str "end" 330,.str "spans" 331,.str "stretches" 332,.str "span" 333,.str "first" 334,.str "behind" 335,.str "is_tone" 336,.str "comes" 337,.str "goes" 338],u0,ui 24,ud 24 326 88 3 113 115 116 117 339,ua 24 m3 304 118,u0,u1,ui 25,ud 25 342 99 1 120 0 0 122 345,ua 25 m3 304 123,ut [.type "ValueError"],up,
 dd ([de P "__module__" 357 (.str "barwright.errors" 348),de P "__qualname__" 359 (.str "TuneError" 358),de P "__firstlineno__" 361 (.int 102 360),de P "__static_attributes__" 362 (.ref 132)]) 4,u0,u1,uk "TuneError" 352 102 128 181,uv 130 127 m4 348,u0,
 dd ([de P "__module__" 357 (.str "barwright.errors" 348),de P "__firstlineno__" 361 (.int 102 360)]++dr P [("__static_attributes__",362,132),("__weakref__",364,135)]++[de P "__doc__" 365 (.none)]) 3,
 ⟨.type "type",none,(.cls ⟨"TuneError",[.type "ValueError"],[.ref 134,.type "ValueError",.type "Exception",.type "BaseException",.type "object"],133,"TuneError",true,[],[.ref 154,.ref 166,.ref 178,.ref 197,.ref 209,.ref 228,.ref 240,.ref 252,.ref 264],false,none,false⟩),#[(some (.ref 125)),none,(some (.str "TuneError" 350)),(some (.str "TuneError" 358)),(some (.builtin "ValueError.__new__")),(some (.bool true))]⟩,
 ug 363 134,us 134,uq 134,ut [.ref 134],up,dd ([de P "__module__" 375 (.str "barwright.errors" 348),de P "__qualname__" 377 (.str "BadRow" 376),de P "__firstlineno__" 379 (.int 104 378)]++dr P [("__init__",387,151),("__static_attributes__",389,152)]) 5,u0,uf [.int 106 0,.int 4 0,.ref 150],uk "BadRow" 370 104 141 181,uv 143 140 m4 348,u0,u1,ut [.str "self" 383,.str "row" 384],u0,
 uh2 "__init__" "BadRow.__init__" (cs 28 0),uc "__init__" "BadRow.__init__" 380 106 2 145 (.ref 147) (.ref 148) 149 385,uu "__init__" "BadRow.__init__" (cs 28 0) m4 348 150,ut [.str "row" 388],dd ([de P "__module__" 375 (.str "barwright.errors" 348),de P "__firstlineno__" 379 (.int 104 378)]++dr P [("__init__",387,151),("__static_attributes__",389,152)]++[de P "__doc__" 390 (.none)]) 2,
 ⟨.type "type",none,(.cls ⟨"BadRow",[.ref 134],[.ref 154,.ref 134,.type "ValueError",.type "Exception",.type "BaseException",.type "object"],153,"BadRow",true,[],[],false,none,false⟩),#[(some (.ref 138)),none,(some (.str "BadRow" 368)),(some (.str "BadRow" 376)),(some (.builtin "ValueError.__new__")),(some (.bool true))]⟩,us 154,uq 154,ut [.ref 134],up,
 dd ([de P "__module__" 400 (.str "barwright.errors" 348),de P "__qualname__" 402 (.str "BadTune" 401),de P "__firstlineno__" 404 (.int 108 403),de P "__static_attributes__" 405 (.ref 164)]) 4,u0,u1,uk "BadTune" 395 108 160 181,uv 162 159 m4 348,u0,
 dd ([de P "__module__" 400 (.str "barwright.errors" 348),de P "__firstlineno__" 404 (.int 108 403),de P "__static_attributes__" 405 (.ref 164),de P "__doc__" 406 (.none)]) 2,
 ⟨.type "type",none,(.cls ⟨"BadTune",[.ref 134],[.ref 166,.ref 134,.type "ValueError",.type "Exception",.type "BaseException",.type "object"],165,"BadTune",true,[],[],false,none,false⟩),#[(some (.ref 157)),none,(some (.str "BadTune" 393)),(some (.str "BadTune" 401)),(some (.builtin "ValueError.__new__")),(some (.bool true))]⟩,us 166,uq 166,ut [.ref 134],up,
 dd ([de P "__module__" 416 (.str "barwright.errors" 348),de P "__qualname__" 418 (.str "OutOfReach" 417),de P "__firstlineno__" 420 (.int 110 419),de P "__static_attributes__" 421 (.ref 176)]) 4,u0,u1,uk "OutOfReach" 411 110 172 181,uv 174 171 m4 348,u0,
 dd ([de P "__module__" 416 (.str "barwright.errors" 348),de P "__firstlineno__" 420 (.int 110 419),de P "__static_attributes__" 421 (.ref 176),de P "__doc__" 422 (.none)]) 2,
 ⟨.type "type",none,(.cls ⟨"OutOfReach",[.ref 134],[.ref 178,.ref 134,.type "ValueError",.type "Exception",.type "BaseException",.type "object"],177,"OutOfReach",true,[],[],false,none,false⟩),#[(some (.ref 169)),none,(some (.str "OutOfReach" 409)),(some (.str "OutOfReach" 417)),(some (.builtin "ValueError.__new__")),(some (.bool true))]⟩,us 178,uq 178,ut [.ref 134],up,
 dd ([de P "__module__" 432 (.str "barwright.errors" 348),de P "__qualname__" 434 (.str "TooFine" 433),de P "__firstlineno__" 436 (.int 112 435)]++dr P [("__init__",445,194),("__static_attributes__",448,195)]) 5,u0,uf [.int 114 0,.int 4 0,.ref 193],uk "TooFine" 427 112 184 181,uv 186 183 m4 348,u0,u1,ut [.str "self" 440,.str "bar" 441,.str "voice" 442],u0,
 uh2 "__init__" "TooFine.__init__" (cs 31 0),uc "__init__" "TooFine.__init__" 437 114 3 188 (.ref 190) (.ref 191) 192 443,uu "__init__" "TooFine.__init__" (cs 31 0) m4 348 193,ut [.str "bar" 446,.str "voice" 447],
 dd ([de P "__module__" 432 (.str "barwright.errors" 348),de P "__firstlineno__" 436 (.int 112 435)]++dr P [("__init__",445,194),("__static_attributes__",448,195)]++[de P "__doc__" 449 (.none)]) 2,
 ⟨.type "type",none,(.cls ⟨"TooFine",[.ref 134],[.ref 197,.ref 134,.type "ValueError",.type "Exception",.type "BaseException",.type "object"],196,"TooFine",true,[],[],false,none,false⟩),#[(some (.ref 181)),none,(some (.str "TooFine" 425)),(some (.str "TooFine" 433)),(some (.builtin "ValueError.__new__")),(some (.bool true))]⟩,us 197,uq 197,ut [.ref 134],up,
 dd ([de P "__module__" 459 (.str "barwright.errors" 348),de P "__qualname__" 461 (.str "BadStretch" 460),de P "__firstlineno__" 463 (.int 117 462),de P "__static_attributes__" 464 (.ref 207)]) 4,u0,u1,uk "BadStretch" 454 117 203 181,uv 205 202 m4 348,u0,
 dd ([de P "__module__" 459 (.str "barwright.errors" 348),de P "__firstlineno__" 463 (.int 117 462),de P "__static_attributes__" 464 (.ref 207),de P "__doc__" 465 (.none)]) 2,
 ⟨.type "type",none,(.cls ⟨"BadStretch",[.ref 134],[.ref 209,.ref 134,.type "ValueError",.type "Exception",.type "BaseException",.type "object"],208,"BadStretch",true,[],[],false,none,false⟩),#[(some (.ref 200)),none,(some (.str "BadStretch" 452)),(some (.str "BadStretch" 460)),(some (.builtin "ValueError.__new__")),(some (.bool true))]⟩,us 209,uq 209,ut [.ref 134],up,
 dd ([de P "__module__" 475 (.str "barwright.errors" 348),de P "__qualname__" 477 (.str "BadPage" 476),de P "__firstlineno__" 479 (.int 119 478)]++dr P [("__init__",487,225),("__static_attributes__",489,226)]) 5,u0,uf [.int 121 0,.int 4 0,.ref 224],uk "BadPage" 470 119 215 181,uv 217 214 m4 348,u0,u1,ut [.str "self" 483,.str "row" 484],u0,uh2 "__init__" "BadPage.__init__" (cs 33 0),
 uc "__init__" "BadPage.__init__" 480 121 2 219 (.ref 221) (.ref 222) 223 485,uu "__init__" "BadPage.__init__" (cs 33 0) m4 348 224,ut [.str "row" 488],dd ([de P "__module__" 475 (.str "barwright.errors" 348),de P "__firstlineno__" 479 (.int 119 478)]++dr P [("__init__",487,225),("__static_attributes__",489,226)]++[de P "__doc__" 490 (.none)]) 2,
 ⟨.type "type",none,(.cls ⟨"BadPage",[.ref 134],[.ref 228,.ref 134,.type "ValueError",.type "Exception",.type "BaseException",.type "object"],227,"BadPage",true,[],[],false,none,false⟩),#[(some (.ref 212)),none,(some (.str "BadPage" 468)),(some (.str "BadPage" 476)),(some (.builtin "ValueError.__new__")),(some (.bool true))]⟩,us 228,uq 228,ut [.ref 134],up,
 dd ([de P "__module__" 500 (.str "barwright.errors" 348),de P "__qualname__" 502 (.str "BadRoll" 501),de P "__firstlineno__" 504 (.int 123 503),de P "__static_attributes__" 505 (.ref 238)]) 4,u0,u1,uk "BadRoll" 495 123 234 181,uv 236 233 m4 348,u0,
 dd ([de P "__module__" 500 (.str "barwright.errors" 348),de P "__firstlineno__" 504 (.int 123 503),de P "__static_attributes__" 505 (.ref 238),de P "__doc__" 506 (.none)]) 2,
 ⟨.type "type",none,(.cls ⟨"BadRoll",[.ref 134],[.ref 240,.ref 134,.type "ValueError",.type "Exception",.type "BaseException",.type "object"],239,"BadRoll",true,[],[],false,none,false⟩),#[(some (.ref 231)),none,(some (.str "BadRoll" 493)),(some (.str "BadRoll" 501)),(some (.builtin "ValueError.__new__")),(some (.bool true))]⟩,us 240,uq 240,ut [.ref 134],up,
 dd ([de P "__module__" 516 (.str "barwright.errors" 348),de P "__qualname__" 518 (.str "OutOfPlace" 517),de P "__firstlineno__" 520 (.int 125 519),de P "__static_attributes__" 521 (.ref 250)]) 4,u0,u1,uk "OutOfPlace" 511 125 246 181,uv 248 245 m4 348,u0,
 dd ([de P "__module__" 516 (.str "barwright.errors" 348),de P "__firstlineno__" 520 (.int 125 519),de P "__static_attributes__" 521 (.ref 250),de P "__doc__" 522 (.none)]) 2,
 ⟨.type "type",none,(.cls ⟨"OutOfPlace",[.ref 134],[.ref 252,.ref 134,.type "ValueError",.type "Exception",.type "BaseException",.type "object"],251,"OutOfPlace",true,[],[],false,none,false⟩),#[(some (.ref 243)),none,(some (.str "OutOfPlace" 509)),(some (.str "OutOfPlace" 517)),(some (.builtin "ValueError.__new__")),(some (.bool true))]⟩,us 252,uq 252,ut [.ref 134],up,
 dd ([de P "__module__" 532 (.str "barwright.errors" 348),de P "__qualname__" 534 (.str "BadWidth" 533),de P "__firstlineno__" 536 (.int 127 535),de P "__static_attributes__" 537 (.ref 262)]) 4,u0,u1,uk "BadWidth" 527 127 258 181,uv 260 257 m4 348,u0,
 dd ([de P "__module__" 532 (.str "barwright.errors" 348),de P "__firstlineno__" 536 (.int 127 535),de P "__static_attributes__" 537 (.ref 262),de P "__doc__" 538 (.none)]) 2,
 ⟨.type "type",none,(.cls ⟨"BadWidth",[.ref 134],[.ref 264,.ref 134,.type "ValueError",.type "Exception",.type "BaseException",.type "object"],263,"BadWidth",true,[],[],false,none,false⟩),#[(some (.ref 255)),none,(some (.str "BadWidth" 525)),(some (.str "BadWidth" 533)),(some (.builtin "ValueError.__new__")),(some (.bool true))]⟩,us 264,uq 264]
noncomputable def h2 (P:Params):List Obj:=pa (hb1 P) [(3,dd ([de P "__name__" 165 (.str "law_barwright_k13_threes" 927),de P "__doc__" 166 (.none),de P "__package__" 167 (.none),de P "__loader__" 168 (.builtin "__main__.__loader__#opaque"),de P "__spec__" 169 (.none)]++dr P [("__annotations__",170,6),("__builtins__",171,4)]++[de P "__file__" 173 (.str "/claim/cut.py" 172),de P "__cached__" 174 (.none),de P "_wall" 193 (.ref 21),de P "SYLLABLE_SIGNS" 197 (.str "abcdefghijklmnopqrstuvwxyzABCDEFGHIJKLMNOPQRSTUVWXYZ-" 196),de P "MOST_SYLLABLE_SIGNS" 199 (.int 12 198)]++dr P [("is_whole",206,28),("is_among",215,35),("do_rise",221,40),("has_only",227,45),("is_syllable",234,52)]++di P [("GRAINS",236,96),("MOST_TOP",240,12)]++[de P "BOTTOMS" 244 (.ref 53),de P "MOST_BAR_GRAINS" 246 (.int 192 245)]++dr P [("is_metre",255,60),("are_groups",261,65),("unit_grains",268,72),("bar_grains",275,79),("beat_units",283,86),("rule_of",292,93),("beats",303,100),("cut",311,105),("spans_of",325,112),("stretches_in",341,119),("beats_by_bars",347,124),("TuneError",367,134),("BadRow",392,154),("BadTune",408,166),("OutOfReach",424,178),("TooFine",451,197),("BadStretch",467,209),("BadPage",492,228),("BadRoll",508,240),("OutOfPlace",524,252),("BadWidth",540,264),("LENGTHS_IN_THREES",546,267),("threes_in",552,272),("three_in",558,277),("need_fine",569,284),("is_pitch",578,291)]++[de P "line" 585 (.ref 298),de P "MOST_SIGNS" 589 (.int 7 588),de P "is_key" 596 (.ref 305)]++di P [("LEAST_GRAINS",600,2),("MOST_REST_GRAINS",602,4608),("MOST_TONES_GRAINS",604,384),("MOST_PITCHES",606,4),("MOST_SOUNDS",608,96),("MOST_VOICES",610,2),("MOST_BARS",612,24)]++dr P [("Sound",648,329),("Rest",671,350),("Tones",710,376),("Tune",784,433),("need",792,444),("sound_of",799,451),("is_rest_told",806,458),("is_tones_told",813,465),("is_told_as",822,472),("are_tones",828,477),("is_word",835,484),("voices_of",841,489),("voice_of",847,494),("tidy",856,501),("ends_in_rest",863,508),("grains_in",869,513),("long_rest",876,520),("need_slurs",885,527),("changes_of",891,532),("is_change",899,539),("frames_for",912,546),("last_at",918,551),("need_within",926,558),("_law_draw",939,565),("_law_whole",946,572),("_law_word",955,579)]++dr P [("_law_units",964,586),("_law_metre",973,593),("_law_beats",983,600),("_law_length",992,607),("_law_stretches",1006,614),("_law_threes",1012,619),("_law_bar_right",1018,624),("_law_voice",1033,631),("_law_lasts",1039,636),("_law_first",1045,641),("_law_tune_right",1057,648),("_law_by_hand",1063,653),("law",1069,658)]) 96),(12,uf [.int 1 0,.int 0 0,.ref 20,.int 7 0,.int 0 0,.ref 27,.int 9 0,.int 0 0,.ref 34,.int 11 0,.int 0 0,.ref 39,.int 13 0,.int 0 0,.ref 44,.int 15 0,.int 0 0,.ref 51,.int 24 0,.int 0 0,.ref 59,.int 32 0,.int 0 0,.ref 64,.int 38 0,.int 0 0,.ref 71,.int 40 0,.int 0 0,.ref 78,.int 42 0,.int 0 0,.ref 85,.int 53 0,.int 0 0,.ref 92,.int 59 0,.int 0 0,.ref 99,.int 68 0,.int 0 0,.ref 104,.int 78 0,.int 0 0,.ref 111,.int 88 0,.int 0 0,.ref 118,.int 99 0,.int 0 0,.ref 123,.int 102 0,.int 0 0,.ref 130,.int 104 0,.int 0 0,.ref 143,.int 108 0,.int 0 0,.ref 162,.int 110 0,.int 0 0,.ref 174,.int 112 0,.int 0 0,.ref 186,.int 117 0,.int 0 0,.ref 205,.int 119 0,.int 0 0,.ref 217,.int 123 0,.int 0 0,.ref 236,.int 125 0,.int 0 0,.ref 248,.int 127 0,.int 0 0,.ref 260,.int 131 0,.int 0 0,.ref 271,.int 135 0,.int 0 0,.ref 276,.int 141 0,.int 0 0,.ref 283,.int 147 0,.int 0 0,.ref 290,.int 151 0,.int 0 0,.ref 297,.int 155 0,.int 0 0,.ref 304,.int 165 0,.int 0 0,.ref 311,.int 172 0,.int 0 0,.ref 339,.int 176 0,.int 0 0,.ref 358,.int 187 0,.int 0 0,.ref 384,.int 216 0,.int 0 0,.ref 443,.int 219 0,.int 0 0,.ref 450,.int 225 0,.int 0 0,.ref 457,.int 227 0,.int 0 0,.ref 464,.int 233 0,.int 0 0,.ref 471,.int 237 0,.int 0 0,.ref 476,.int 241 0,.int 0 0,.ref 483,.int 243 0,.int 0 0,.ref 488,.int 246 0,.int 0 0,.ref 493,.int 252 0,.int 0 0,.ref 500,.int 260 0,.int 0 0,.ref 507,.int 262 0,.int 0 0,.ref 512,.int 264 0,.int 0 0,.ref 519,.int 267 0,.int 0 0,.ref 526,.int 278 0,.int 0 0,.ref 531,.int 286 0,.int 0 0,.ref 538,.int 288 0,.int 0 0,.ref 545,.int 298 0,.int 0 0,.ref 550,.int 300 0,.int 0 0,.ref 557,.int 303 0,.int 0 0,.ref 564,.int 311 0,.int 0 0,.ref 571,.int 313 0,.int 0 0,.ref 578,.int 321 0,.int 0 0,.ref 585,.int 334 0,.int 0 0,.ref 592,.int 338 0,.int 0 0,.ref 599,.int 345 0,.int 0 0,.ref 606,.int 353 0,.int 0 0,.ref 613,.int 365 0,.int 0 0,.ref 618,.int 375 0,.int 0 0,.ref 623,.int 388 0,.int 0 0,.ref 630,.int 405 0,.int 0 0,.ref 635,.int 410 0,.int 0 0,.ref 640,.int 424 0,.int 0 0,.ref 647,.int 431 0,.int 0 0,.ref 652,.int 437 0,.int 0 0,.ref 657])]++[
 ut [.int 12 543,.int 24 544,.int 48 545],u0,u1,ui 39,ud 39 547 131 2 268 0 0 270 550,ua 39 m5 541 271,u0,u1,ui 40,ud 40 553 135 3 273 0 0 275 556,ua 40 m5 541 276,u0,u1,ut [.str "tune" 562,.str "bar" 563,.str "pair" 564,.str "voice" 565,.str "stretches" 566],u0,ui 41,ud 41 559 141 1 278 280 281 282 567,ua 41 m5 541 283,u0,u1,ut [.str "thing" 575],u0,ui 43,ud 43 572 147 1 285 287 288 289 576,
 ua 43 m6 570 290,u0,u1,ut [.str "pitch" 582],u0,ui 44,ud 44 579 151 1 292 294 295 296 583,ua 44 m6 570 297,u0,u1,ut [.str "thing" 593],u0,ui 47,ud 47 590 155 1 299 301 302 303 594,ua 47 m7 586 304,u0,up,
 dd ([de P "__module__" 620 (.str "barwright.tunes" 597),de P "__qualname__" 622 (.str "Sound" 621),de P "__firstlineno__" 624 (.int 165 623)]++dr P [("__init__",632,319),("told",639,326),("__static_attributes__",641,327)]) 6,u0,uf [.int 167 0,.int 4 0,.ref 318,.int 170 0,.int 4 0,.ref 325],uk "Sound" 615 165 309 181,uv 311 308 m8 597,u0,u1,ut [.str "self" 628,.str "length" 629],u0,
 uh2 "__init__" "Sound.__init__" (cs 56 0),uc "__init__" "Sound.__init__" 625 167 2 313 (.ref 315) (.ref 316) 317 630,uu "__init__" "Sound.__init__" (cs 56 0) m8 597 318,u0,u1,ut [.str "self" 636],u0,uh2 "told" "Sound.told" (cs 56 1),uc "told" "Sound.told" 633 170 1 320 (.ref 322) (.ref 323) 324 637,uu "told" "Sound.told" (cs 56 1) m8 597 325,ut [.str "length" 640],
 dd ([de P "__module__" 620 (.str "barwright.tunes" 597),de P "__firstlineno__" 624 (.int 165 623)]++dr P [("__init__",632,319),("told",639,326),("__static_attributes__",641,327),("__dict__",643,330),("__weakref__",645,331)]++[de P "__doc__" 646 (.none)]) 4,
 ⟨.type "type",none,(.cls ⟨"Sound",[.type "object"],[.ref 329,.type "object"],328,"Sound",true,[],[.ref 350,.ref 376],false,none,false⟩),#[none,none,(some (.str "Sound" 613)),(some (.str "Sound" 621)),(some (.builtin "object.__new__")),(some (.bool true))]⟩,⟨.type "getset_descriptor",none,(.fields #[.str "__dict__" 642,.ref 329,.builtin "function.__dict__",.builtin "function.__dict__#set"]),#[]⟩,
 ug 644 329,us 329,uq 329,ut [.ref 329],up,dd ([de P "__module__" 656 (.str "barwright.tunes" 597),de P "__qualname__" 658 (.str "Rest" 657),de P "__firstlineno__" 660 (.int 172 659)]++dr P [("told",667,347),("__static_attributes__",668,348)]) 5,u0,uf [.int 174 0,.int 4 0,.ref 346],uk "Rest" 651 172 337 181,uv 339 336 m8 597,u0,u1,ut [.str "self" 664],u0,uh2 "told" "Rest.told" (cs 57 0),
 uc "told" "Rest.told" 661 174 1 341 (.ref 343) (.ref 344) 345 665,uu "told" "Rest.told" (cs 57 0) m8 597 346,u0,dd ([de P "__module__" 656 (.str "barwright.tunes" 597),de P "__firstlineno__" 660 (.int 172 659)]++dr P [("told",667,347),("__static_attributes__",668,348)]++[de P "__doc__" 669 (.none)]) 2,
 ⟨.type "type",none,(.cls ⟨"Rest",[.ref 329],[.ref 350,.ref 329,.type "object"],349,"Rest",true,[],[],false,none,false⟩),#[(some (.ref 334)),none,(some (.str "Rest" 649)),(some (.str "Rest" 657)),(some (.builtin "object.__new__")),(some (.bool true))]⟩,us 350,uq 350,ut [.ref 329],up,
 dd ([de P "__module__" 679 (.str "barwright.tunes" 597),de P "__qualname__" 681 (.str "Tones" 680),de P "__firstlineno__" 683 (.int 176 682)]++dr P [("__init__",695,366),("told",702,373),("__static_attributes__",707,374)]) 6,u0,uf [.int 178 0,.int 4 0,.ref 365,.int 185 0,.int 4 0,.ref 372],uk "Tones" 674 176 356 181,uv 358 355 m8 597,u0,u1,
 ut [.str "self" 687,.str "pitches" 688,.str "length" 689,.str "word" 690,.str "opens" 691,.str "closes" 692],u0,uh2 "__init__" "Tones.__init__" (cs 58 0),uc "__init__" "Tones.__init__" 684 178 6 360 (.ref 362) (.ref 363) 364 693,uu "__init__" "Tones.__init__" (cs 58 0) m8 597 365,u0,u1,ut [.str "self" 699],u0,uh2 "told" "Tones.told" (cs 58 1),
 uc "told" "Tones.told" 696 185 1 367 (.ref 369) (.ref 370) 371 700,uu "told" "Tones.told" (cs 58 1) m8 597 372,ut [.str "closes" 703,.str "opens" 704,.str "pitches" 705,.str "word" 706],dd ([de P "__module__" 679 (.str "barwright.tunes" 597),de P "__firstlineno__" 683 (.int 176 682)]++dr P [("__init__",695,366),("told",702,373),("__static_attributes__",707,374)]++[de P "__doc__" 708 (.none)]) 2,
 ⟨.type "type",none,(.cls ⟨"Tones",[.ref 329],[.ref 376,.ref 329,.type "object"],375,"Tones",true,[],[],false,none,false⟩),#[(some (.ref 353)),none,(some (.str "Tones" 672)),(some (.str "Tones" 680)),(some (.builtin "object.__new__")),(some (.bool true))]⟩,us 376,uq 376,u0,up,
 dd ([de P "__module__" 718 (.str "barwright.tunes" 597),de P "__qualname__" 720 (.str "Tune" 719),de P "__firstlineno__" 722 (.int 187 721)]++dr P [("__init__",732,392),("metres_told",739,399),("keys_told",746,406),("sounds_told",752,411),("many",759,418),("lasts",765,423),("frames",772,430),("__static_attributes__",777,431)]) 11,u0,
 uf [.int 189 0,.int 4 0,.ref 391,.int 197 0,.int 4 0,.ref 398,.int 200 0,.int 4 0,.ref 405,.int 203 0,.int 4 0,.ref 410,.int 208 0,.int 4 0,.ref 417,.int 211 0,.int 4 0,.ref 422,.int 214 0,.int 4 0,.ref 429],uk "Tune" 713 187 382 181,uv 384 381 m8 597,u0,u1,ut [.str "self" 726,.str "metres" 727,.str "keys" 728,.str "voices" 729],u0,uh2 "__init__" "Tune.__init__" (cs 59 0),
 uc "__init__" "Tune.__init__" 723 189 4 386 (.ref 388) (.ref 389) 390 730,uu "__init__" "Tune.__init__" (cs 59 0) m8 597 391,u0,u1,ut [.str "self" 736],u0,uh2 "metres_told" "Tune.metres_told" (cs 59 1),uc "metres_told" "Tune.metres_told" 733 197 1 393 (.ref 395) (.ref 396) 397 737,uu "metres_told" "Tune.metres_told" (cs 59 1) m8 597 398,u0,u1,ut [.str "self" 743],u0,
 uh2 "keys_told" "Tune.keys_told" (cs 59 2),uc "keys_told" "Tune.keys_told" 740 200 1 400 (.ref 402) (.ref 403) 404 744,uu "keys_told" "Tune.keys_told" (cs 59 2) m8 597 405,u0,u1,uh2 "sounds_told" "Tune.sounds_told" (cs 59 3),uc "sounds_told" "Tune.sounds_told" 747 203 2 407 (.none) (.none) 409 750,uu "sounds_told" "Tune.sounds_told" (cs 59 3) m8 597 410,u0,u1,ut [.str "self" 756],u0,
 uh2 "many" "Tune.many" (cs 59 4),uc "many" "Tune.many" 753 208 1 412 (.ref 414) (.ref 415) 416 757,uu "many" "Tune.many" (cs 59 4) m8 597 417,u0,u1,uh2 "lasts" "Tune.lasts" (cs 59 5),uc "lasts" "Tune.lasts" 760 211 1 419 (.none) (.none) 421 763,uu "lasts" "Tune.lasts" (cs 59 5) m8 597 422,u0,u1,ut [.str "self" 769],u0,uh2 "frames" "Tune.frames" (cs 59 6),
 uc "frames" "Tune.frames" 766 214 1 424 (.ref 426) (.ref 427) 428 770,uu "frames" "Tune.frames" (cs 59 6) m8 597 429,ut [.str "bar_frames" 773,.str "key_changes" 774,.str "metre_changes" 775,.str "voices" 776],
 dd ([de P "__module__" 718 (.str "barwright.tunes" 597),de P "__firstlineno__" 722 (.int 187 721)]++dr P [("__init__",732,392),("metres_told",739,399),("keys_told",746,406),("sounds_told",752,411),("many",759,418),("lasts",765,423),("frames",772,430),("__static_attributes__",777,431),("__dict__",779,434),("__weakref__",781,435)]++[de P "__doc__" 782 (.none)]) 4,
 ⟨.type "type",none,(.cls ⟨"Tune",[.type "object"],[.ref 433,.type "object"],432,"Tune",true,[],[],false,none,false⟩),#[none,none,(some (.str "Tune" 711)),(some (.str "Tune" 719)),(some (.builtin "object.__new__")),(some (.bool true))]⟩,⟨.type "getset_descriptor",none,(.fields #[.str "__dict__" 778,.ref 433,.builtin "function.__dict__",.builtin "function.__dict__#set"]),#[]⟩,ug 780 433,us 433,
 uq 433,u0,u1,ut [.str "is_so" 788,.str "why" 789],u0,ui 60,ud 60 785 216 2 438 440 441 442 790,ua 60 m8 597 443,u0,u1,ut [.str "told" 796],u0,ui 61,ud 61 793 219 1 445 447 448 449 797,ua 61 m8 597 450,u0,u1,ut [.str "thing" 803],u0,ui 62,ud 62 800 225 1 452 454 455 456 804,ua 62 m8 597 457,u0,u1,ut [.str "thing" 810],u0,ui 63,ud 63 807 227 1 459 461 462 463 811,ua 63 m8 597 464,u0,u1,
 ut [.str "name" 817,.str "parts" 818,.str "thing" 819],u0,ui 64,ud 64 814 233 3 466 468 469 470 820,ua 64 m8 597 471,u0,u1,ui 65,ud 65 823 237 1 473 0 0 475 826,ua 65 m8 597 476,u0,u1,ut [.str "thing" 832],u0,ui 66,ud 66 829 241 1 478 480 481 482 833,ua 66 m8 597 483,u0,u1,ui 67,ud 67 836 243 1 485 0 0 487 839,ua 67 m8 597 488,u0,u1,ui 68,ud 68 842 246 1 490 0 0 492 845,ua 68 m8 597 493,u0,u1,
 ut [.str "sounds" 851,.str "kept" 852,.str "sound" 853],u0,ui 69,ud 69 848 252 1 495 497 498 499 854,ua 69 m8 597 500,u0,u1,ut [.str "sounds" 860],u0,ui 70,ud 70 857 260 1 502 504 505 506 861,ua 70 m8 597 507,u0,u1,ui 71,ud 71 864 262 1 509 0 0 511 867,ua 71 m8 597 512,u0,u1,ut [.str "grains" 873],u0,ui 72,ud 72 870 264 1 514 516 517 518 874,ua 72 m8 597 519,u0,u1,
 ut [.str "sounds" 880,.str "is_open" 881,.str "sound" 882],u0,ui 73,ud 73 877 267 1 521 523 524 525 883,ua 73 m8 597 526,u0,u1,ui 74,ud 74 886 278 2 528 0 0 530 889,ua 74 m8 597 531,u0,u1,ut [.str "thing" 895,.str "is_good" 896],u0,ui 75,ud 75 892 286 2 533 535 536 537 897,ua 75 m8 597 538,u0,u1,
 ut [.str "metres" 903,.str "keys" 904,.str "lasts" 905,.str "frames" 906,.str "begin" 907,.str "bar" 908,.str "metre" 909],u0,ui 76,ud 76 900 288 3 540 542 543 544 910,ua 76 m8 597 545,u0,u1,ui 77,ud 77 913 298 2 547 0 0 549 916,ua 77 m8 597 550,u0,u1,ut [.str "changes" 922,.str "bars" 923],u0,ui 78,ud 78 919 300 2 552 554 555 556 924,ua 78 m8 597 557,u0,u1,
 ut [.str "_law_script" 932,.str "_law_tape" 933,.str "_law_size" 934,.str "_law_seed" 935,.str "_law_cell" 936],u0,ui 80,ud 80 929 303 3 559 561 562 563 937,ua 80 m9 927 564,u0,u1,ut [.str "_law_found" 943],u0,ui 81,ud 81 940 311 1 566 568 569 570 944,ua 81 m9 927 571,u0,u1,ut [.str "_law_e" 950,.str "_law_some" 951,.str "_law_words" 952],u0,ui 82,ud 82 947 313 1 573 575 576 577 953,
 ua 82 m9 927 578,u0,u1,ut [.str "_law_metre_here" 959,.str "_law_found" 960,.str "_law_left" 961],u0,ui 83,ud 83 956 321 1 580 582 583 584 962,ua 83 m9 927 585,u0,u1,ut [.str "_law_script" 968,.str "_law_tape" 969,.str "_law_some" 970],u0,ui 84,ud 84 965 334 2 587 589 590 591 971,ua 84 m9 927 592,u0,u1,ut [.str "_law_metre_here" 977,.str "_law_found" 978,.str "_law_at" 979,.str "_law_one" 980],u0,
 ui 85,ud 85 974 338 1 594 596 597 598 981,ua 85 m9 927 599,u0,u1,ut [.str "_law_script" 987,.str "_law_tape" 988,.str "_law_way" 989],u0,ui 86,ud 86 984 345 3 601 603 604 605 990,ua 86 m9 927 606,u0,u1,ut [.str "_law_script" 996,.str "_law_tape" 997,.str "_law_size" 998,.str "_law_found" 999,.str "_law_at" 1000,.str "_law_way" 1001,.str "_law_length_here" 1002,.str "_law_number" 1003],u0,ui 87,
 ud 87 993 353 3 608 610 611 612 1004,ua 87 m9 927 613,u0,u1,ui 88,ud 88 1007 365 2 615 0 0 617 1010,ua 88 m9 927 618,u0,u1,ui 89,ud 89 1013 375 2 620 0 0 622 1016,ua 89 m9 927 623,u0,u1,ut [.str "_law_script" 1022,.str "_law_tape" 1023,.str "_law_is_fine" 1024,.str "_law_found" 1025,.str "_law_k" 1026,.str "_law_rows" 1027,.str "_law_row" 1028,.str "_law_length_here" 1029,.str "_law_is_still" 1030],
 u0,ui 90,ud 90 1019 388 3 625 627 628 629 1031,ua 90 m9 927 630,u0,u1,ui 91,ud 91 1034 405 1 632 0 0 634 1037,ua 91 m9 927 635,u0,u1,ui 92,ud 92 1040 410 2 637 0 0 639 1043,ua 92 m9 927 640,u0,u1,ut [.str "_law_voices" 1049,.str "_law_frames" 1050,.str "_law_metres" 1051,.str "_law_due" 1052,.str "_law_tune" 1053,.str "_law_e" 1054],u0,ui 93,ud 93 1046 424 3 642 644 645 646 1055,ua 93 m9 927 647,u0,
 u1,ui 94,ud 94 1058 431 1 649 0 0 651 1061,ua 94 m9 927 652,u0,u1,ui 95,ud 95 1064 437 1 654 0 0 656 1067,ua 95 m9 927 657]
noncomputable abbrev s0 (w:World):Shared:=⟨⟨⟨h0 w.params⟩,{}⟩,#[],{},181,{}⟩
noncomputable abbrev sa (w:World):Shared:=⟨⟨⟨ha w.params⟩,{}⟩,#[],{},187,{}⟩
noncomputable abbrev s1 (w:World):Shared:=⟨⟨⟨hb1 w.params⟩,{}⟩,#[],{},541,{}⟩
noncomputable abbrev s2 (w:World):Shared:=⟨⟨⟨h2 w.params⟩,{}⟩,#[],{},1070,{}⟩
noncomputable def ex:Env:={ scope:=PySem.Challenge.rw_barwright_k13_threes.row.prog.main.scope,locals:=mainNs,globals:=mainNs,cells:=[],code:=.ref 13,frame:=some 14 }
noncomputable def lb:List Stmt:=behindTheImports PySem.Challenge.rw_barwright_k13_threes.row.prog
noncomputable def cx:Code:=.body lb ex
noncomputable abbrev qB:List Frame:=[topFrame ⟨0,0,0,0⟩]
theorem g0 (w:World):((Fast.tw10274390034422433532 Fast.tw14364793385576792824 (opening PySem.Challenge.rw_barwright_k13_threes.row.prog) w 5564 (Fast.tw1435165496053646825 (opening PySem.Challenge.rw_barwright_k13_threes.row.prog)).fst (Fast.tw1435165496053646825 (opening PySem.Challenge.rw_barwright_k13_threes.row.prog)).snd).bind (Fast.tw14289696077712309145 PySem.Challenge.rw_barwright_k13_threes.row.prog))=some (s0 w)/\True:=⟨by kernel_rfl,trivial⟩
theorem g1 (w:World):Fast.tw15667345088766844465 Fast.tw14364793385576792824 PySem.Challenge.rw_barwright_k13_threes.row.prog w 11 (some (.ref 6)) 12 (s0 w) (topStub PySem.Challenge.rw_barwright_k13_threes.row.prog)=some (sa w,⟨Fast.tw11892475500146522536 Fast.tw14364793385576792824 (.body lb ex),.body lb ex,⟨0,0,0,0⟩,qB⟩)/\True:=⟨by kernel_rfl,trivial⟩
theorem g2 (w:World):Fast.tw14374325043358763698 Fast.tw14364793385576792824 PySem.Challenge.rw_barwright_k13_threes.row.prog w 11 (some (.ref 6)) 1 1 (sa w) (blockOf lb ex cx ⟨0,0,0,0⟩ qB)=some (.next,sa w,cx,⟨0,0,0,0⟩)/\True:=⟨by kernel_rfl,trivial⟩
theorem g3 (w:World):Fast.tw14374325043358763698 Fast.tw14364793385576792824 PySem.Challenge.rw_barwright_k13_threes.row.prog w 11 (some (.ref 6)) 1 2801 (sa w) ⟨(Fast.tw12563942051412417395 ((lb.drop 0).take 37) ex).wrap doneF deadEnd id id,cx,⟨0,0,0,0⟩,qB⟩=some (.next,s1 w,cx,⟨127,0,128,8⟩)/\True:=⟨by kernel_rfl,trivial⟩
theorem g4 (w:World):Fast.tw14374325043358763698 Fast.tw14364793385576792824 PySem.Challenge.rw_barwright_k13_threes.row.prog w 11 (some (.ref 6)) 1 2518 (s1 w) ⟨(Fast.tw12563942051412417395 ((lb.drop 37).take 59) ex).wrap doneF deadEnd id id,cx,⟨127,0,128,8⟩,qB⟩=some (.next,s2 w,cx,⟨437,0,459,65⟩)/\True:=⟨by kernel_rfl,trivial⟩
theorem ge (w:World):Fast.tw14082659384304107361 Fast.tw14364793385576792824 PySem.Challenge.rw_barwright_k13_threes.row.prog w 11 (some (.ref 6)) 20 (s2 w) ⟨doneF .next,cx,⟨437,0,459,65⟩,qB⟩=some (s2 w)/\True:=⟨by kernel_rfl,trivial⟩
theorem lsp:lb=((lb.drop 0).take 37++((lb.drop 37).take 59++[]))/\True:=⟨by kernel_rfl,trivial⟩
theorem yr3 (w:World):topRun treeTable PySem.Challenge.rw_barwright_k13_threes.row.prog w 11 (some (.ref 6)) (12+(1+(2801+(2518+20)))) (s0 w) (topStub PySem.Challenge.rw_barwright_k13_threes.row.prog)=some (s2 w):=by
 have g1:=(g1 w).1
 have g2:=(g2 w).1
 have g3:=(g3 w).1
 have g4:=(g4 w).1
 have ge:=(ge w).1
 rw[← Fast.te14364793385576792824,← Fast.te15667345088766844465,← Fast.te11892475500146522536] at g1
 rw[← Fast.te14364793385576792824,← Fast.te14374325043358763698] at g2
 rw[← Fast.te14364793385576792824,← Fast.te14374325043358763698,← Fast.te12563942051412417395] at g3
 rw[← Fast.te14364793385576792824,← Fast.te14374325043358763698,← Fast.te12563942051412417395] at g4
 rw[← Fast.te14364793385576792824,← Fast.te14082659384304107361] at ge
 refine go_top g1 (piece_block (c:=cx) g2 ?_)
 rw[lsp.1]
 exact(piece_app (l:=(lb.drop 0).take 37) (rest:=_) g3 (piece_app (l:=(lb.drop 37).take 59) (rest:=_) g4 (piece_nil ge)))
local macro_rules | `(tactic| o_head $_) => `(tactic| assumption)
theorem pre (h:PySem.Challenge.rw_barwright_k13_threes.row.Holds):PySem.Challenge.rw_barwright_k13_threes.row.Holds:=by k_head
noncomputable abbrev hkx:Hook:=kmHook pre.heap_1 [2,3,15,17,18,20,21,22,24,25,27,28,29,31,32,34,35,36,39,40,41,44,45,46,48,49,51,52,53,54,56,57,59,60,61,64,65,66,68,69,71,72,73,75,76,78,79,80,82,83,85,86,87,89,90,92,93,94,96,97,99,100,101,104,105,106,108,109,111,112,113,115,116,118,119,120,123,124,125,132,133,134,135,138,145,147,148,150,151,152,153,154,157,164,165,166,169,176,177,178,181,188,190,191,193,194,195,196,197,200,207,208,209,212,219,221,222,224,225,226,227,228,231,238,239,240,243,250,251,252,255,262,263,264,267,268,271,272,273,276,277,278,280,281,283,284,285,287,288,290,291,292,294,295,297,298,299,301,302,304,305,313,315,316,318,319,320,322,323,325,326,327,328,329,330,331,334,341,343,344,346,347,348,349,350,353,360,362,363,365,366,367,369,370,372,373,374,375,376,386,388,389,391,392,393,395,396,398,399,400,402,403,405,406,407,410,411,412,414,415,417,418,419,422,423,424,426,427,429,430,431,432,433,434,435,438,440,441,443,444,445,447,448,450,451,452,454,455,457,458,459,461,462,464,465,466,468,469,471,472,473,476,477,478,480,481,483,484,485,488,489,490,493,494,495,497,498,500,501,502,504,505,507,508,509,512,513,514,516,517,519,520,521,523,524,526,527,528,531,532,533,535,536,538,539,540,542,543,545,546,547,550,551,552,554,555,557,558,559,561,562,564,565,566,568,569,571,572,573,575,576,578,579,580,582,583,585,586,587,589,590,592,593,594,596,597,599,600,601,603,604,606,607,608,610,611,613,614,615,618,619,620,623,624,625,627,628,630,631,632,635,636,637,640,641,642,644,645,647,648,649,652,653,654,657,658] (λ_=>by kernel_rfl) [88]
noncomputable def qx:Program:={ PySem.Challenge.pw_barwright_k13_threes with main:={ PySem.Challenge.pw_barwright_k13_threes.main with body:=[0,2,3,4,5,6,7,8,9,11,12,13,14,15,16,17,18,19,20,22,23,24,25,27,28,29,30,31,32,33,34,35,36,38,39,40,41,43,44,46,47,49,50,51,52,53,54,55,56,57,58,59,60,61,62,63,64,65,66,67,68,69,70,71,72,73,74,75,76,77,78,80,81,82,83,84,85,86,87,88,89,90,91,92,93,94,95].filterMap λi=>PySem.Challenge.pw_barwright_k13_threes.main.body[i]? } }
noncomputable def dx:DefRec:=((defOf qx "law").map (·.1)).getD ⟨"",default,[],default,default⟩
noncomputable abbrev lox:List Str:=[]
noncomputable abbrev xtx (s:Shared):Bool:=xlAt qx [] s&&recOk PySem.Challenge.rw_barwright_k13_threes.row.toRowW.records s
theorem yqb:Fast.tw9446332074065402090 PySem.Challenge.rw_barwright_k13_threes=true/\True:=⟨by kernel_rfl,trivial⟩
theorem hq (w:World):((s0 w).heap.isNs mainGlobals&&(s0 w).gens.size==0,(s0 w).heap.objs.size,(s0 w).heap.nsMap mainGlobals (Str.ofString "__annotations__"))=(true,11,some (.ref 6))/\True:=⟨by kernel_rfl,trivial⟩
theorem hs (w:World):(staticsOk (importedModules PySem.Challenge.rw_barwright_k13_threes.row.prog.main.body) (s0 w).heap (s2 w).heap&&namesBound PySem.Challenge.rw_barwright_k13_threes.row.prog (s2 w).heap&&gensDone (s2 w)&&laidKept (s0 w).heap (s2 w).heap)=true/\True:=⟨by kernel_rfl,trivial⟩
theorem hr (w:World):ynS PySem.Challenge.rw_barwright_k13_threes.row.prog w 5564=some (s2 w)/\True:=ymJ (g0 w) (hq w) (yr3 w) (by decide) (hs w)
theorem hx1 (w:World):(ycn PySem.Challenge.rw_barwright_k13_threes.row.prog qx lox xtx (s2 w)).1=PyProof.Rows.expectedOf qx/\True:=⟨by kernel_rfl,trivial⟩
theorem hx2 (w:World):((ycn PySem.Challenge.rw_barwright_k13_threes.row.prog qx lox xtx (s2 w)).2.1,(ycn PySem.Challenge.rw_barwright_k13_threes.row.prog qx lox xtx (s2 w)).2.2.2.2.1,(ycn PySem.Challenge.rw_barwright_k13_threes.row.prog qx lox xtx (s2 w)).2.2.2.2.2.2.1,(ycn PySem.Challenge.rw_barwright_k13_threes.row.prog qx lox xtx (s2 w)).2.2.2.2.2.2.2.2)=(bltViewBooted,pinGoodD (PyProof.Rows.drecsOf qx),PyProof.Rows.plainGoodD qx lox,clsGoodW qx lox)/\True:=⟨by kernel_rfl,trivial⟩
theorem hx3 (w:World):(ycn PySem.Challenge.rw_barwright_k13_threes.row.prog qx lox xtx (s2 w)).2.2.1=true/\True:=⟨by kernel_rfl,trivial⟩
theorem hx4 (w:World):(ycn PySem.Challenge.rw_barwright_k13_threes.row.prog qx lox xtx (s2 w)).2.2.2.1=true/\True:=⟨by kernel_rfl,trivial⟩
theorem hx5 (w:World):(ycn PySem.Challenge.rw_barwright_k13_threes.row.prog qx lox xtx (s2 w)).2.2.2.2.2.1=PyProof.Rows.plainGoodE qx (looseW qx lox)/\True:=⟨by kernel_rfl,trivial⟩
theorem hx6 (w:World):(ycn PySem.Challenge.rw_barwright_k13_threes.row.prog qx lox xtx (s2 w)).2.2.2.2.2.2.2.1=wideGood qx/\True:=⟨by kernel_rfl,trivial⟩
theorem hx7 (w:World):hkx.obs (s2 w)=hkx.val w/\True:=⟨by kernel_rfl,trivial⟩
theorem headx (call:WalkO qx lox (XL qx []) hkx.says PySem.Challenge.rw_barwright_k13_threes.row.toRowW dx [] λf vs=>PySem.call f vs):PySem.Challenge.rw_barwright_k13_threes.Holds:=by
 refine yom yqb λsaid=>holds_open (d:=dx) (kwd:=[]) (q:=qx) (loose:=lox) (Xt:=xtx) (XP:=XL qx []) (Yf:=hkx.obs) (Ya:=hkx.val) (YP:=hkx.says) (N:=5564) (λw=>yk4 (hr w) (hx1 w) (hx2 w) (hx3 w) (hx4 w) (hx5 w) (hx6 w) (hx7 w)) hkx.of hkx.keeps
  (λs e=>xl_of s (Bool.and_eq_true_iff.mp e).1) XL.keeps ?hb1 ?h2 ?h3 (λs e=>recFacts_of (Bool.and_eq_true_iff.mp e).2) ?h4 said ?h5 ⟨?a,?b,?c,?d,?e,?f⟩ ?hw call
 case hw=>w_witness2
 case h5=>decide +kernel
 case f=>decide +kernel
 all_goals kernel_rfl
theorem dx_name:dx.name="law":= by kernel_rfl
theorem dx_dfl:dx.params.defaults=[]:=by kernel_rfl
noncomputable def mxr:DefRec:=((recsOf qx).find? (λe=>e.name==Str.ofString "rule_of")).getD ⟨"",default,[],default,default⟩
theorem mx_is:(recsOf qx).find? (λe=>e.name==Str.ofString "rule_of")=some mxr:=by kernel_rfl
end
end KT
namespace L2
open PySem PySem.Spec PyProof.Rows
noncomputable abbrev Key:=Sum Int Str
noncomputable def ynp:Key->Value->Bool
 | .inl k,v=>Value.isInt k v
 | .inr x,v=>Value.isStrOf x v
noncomputable def yr8 (w:World):Key->Int
 | .inl k=>hashInt k
 | .inr x=>hashStr w x
theorem yba:∀ {k:Key} {v:Value},ynp k v=true->(∃ i t,k=Sum.inl i/\v=Value.int i t)∨(∃ x t,k=Sum.inr x/\v=Value.str x t)
 | .inl i,v,h=>by
  obtain⟨t,e⟩:=Value.isInt_shape (k:=i) (v:=v) h
  exact .inl ⟨i,t,rfl,e⟩
 | .inr x,v,h=>by
  obtain⟨t,e⟩:=Value.isStrOf_shape (x:=x) (v:=v) h
  exact .inr ⟨x,t,rfl,e⟩
theorem yow (a b:Int):decide ((Sum.inl a:Key)=Sum.inl b)=(a==b):=by
 by_cases e:a=b
 ·subst e;simp
 ·have h:¬ (Sum.inl a:Key)=Sum.inl b:=λq=>e (Sum.inl.inj q)
  rw[decide_eq_false h]
  exact(beq_eq_false_iff_ne.mpr e).symm
theorem yoi (a b:Str):decide ((Sum.inr a:Key)=Sum.inr b)=decide (a=b):=by
 by_cases e:a=b
 ·subst e;simp
 ·have h:¬ (Sum.inr a:Key)=Sum.inr b:=λq=>e (Sum.inr.inj q)
  rw[decide_eq_false h,decide_eq_false e]
theorem ynP (a:Int)(b:Str):decide ((Sum.inl a:Key)=Sum.inr b)=false:=decide_eq_false (λq=>nomatch q)
theorem yo4 (a:Str)(b:Int):decide ((Sum.inr a:Key)=Sum.inl b)=false:=decide_eq_false (λq=>nomatch q)
noncomputable def yjM (prog:Program)(w:World):PySem.KeyKind prog w Key where
 is:=ynp
 hash:=yr8 w
 inj:=λv a b ha hb=>by
  rcases yba ha with ⟨i,t,rfl,rfl⟩ | ⟨x,t,rfl,rfl⟩
  ·rcases yba hb with ⟨j,u,rfl,e⟩ | ⟨y,u,rfl,e⟩
   ·injection e with e1 _;rw[e1]
   ·exact nomatch e
  ·rcases yba hb with ⟨j,u,rfl,e⟩ | ⟨y,u,rfl,e⟩
   ·exact nomatch e
   ·injection e with e1 _;rw[e1]
 byValue:=λk v h=>by
  rcases yba h with ⟨i,t,rfl,rfl⟩ | ⟨x,t,rfl,rfl⟩<;>rfl
 pyHash:=λhv h=>by
  rcases yba hv with ⟨i,t,rfl,rfl⟩ | ⟨x,t,rfl,rfl⟩
  ·exact wpAny_pyHash_int h
  ·exact wpAny_pyHash_str h
 eqBool:=λhu hv h=>by
  rcases yba hu with ⟨i,t,rfl,rfl⟩ | ⟨x,t,rfl,rfl⟩
  ·rcases yba hv with ⟨j,u,rfl,rfl⟩ | ⟨y,u,rfl,rfl⟩
   ·rw[yow] at h;exact wpAny_eqBool_int h
   ·rw[ynP] at h;exact SeqAt.EqAt.int_str i t y u _ _ _ _ h
  ·rcases yba hv with ⟨j,u,rfl,rfl⟩ | ⟨y,u,rfl,rfl⟩
   ·rw[yo4] at h;exact SeqAt.EqAt.str_int x t j u _ _ _ _ h
   ·rw[yoi] at h;exact wpAny_eqBool_str h
 «strs»:=λk x t v h=>by
  rcases yba h with ⟨i,u,rfl,e⟩ | ⟨y,u,rfl,e⟩
  ·exact nomatch e
  ·injection e with e1 _
   subst e1
   cases v<;>rfl
inductive V where
 | non | bl (b:Bool) | int (i:Int) | str (x:Str) | byt (b:Array UInt8) | flt (b:UInt64) | ref (a:Addr) | ty (n:String)
 deriving DecidableEq
noncomputable def RelV:V->Value->Prop
 | .non,u=>u=Value.none
 | .bl b,u=>u=Value.bool b
 | .int i,u=>∃ t,u=Value.int i t
 | .str x,u=>∃ t,u=Value.str x t
 | .byt b,u=>∃ t,u=Value.bytes b t
 | .flt b,u=>∃ t,u=Value.float b t
 | .ref a,u=>u=Value.ref a
 | .ty n,u=>u=Value.type n
noncomputable abbrev Vals:List V->List Value->Prop:=Paired RelV
theorem Vals.length {xs:List V}{us:List Value}(r:Vals xs us):xs.length=us.length:=Paired.length r
theorem Vals.get:∀ {xs:List V} {us:List Value} {i:Nat} {x:V},Vals xs us->xs[i]?=some x->∃ u,us[i]?=some u/\RelV x u
 | _,_,_,_,.nil,e=>by simp at e
 | _,_,0,_,.cons r _,e=>by simp at e;subst e;exact⟨_,rfl,r⟩
 | _,_,i+1,x,.cons _ t,e=>by
  obtain⟨u,h1,h2⟩:=Vals.get (i:=i) (x:=x) t (by simpa using e)
  exact⟨u,by simpa using h1,h2⟩
theorem Vals.set {x:V}{u:Value}(r:RelV x u):∀ {xs:List V} {us:List Value} (i:Nat),Vals xs us->Vals (xs.set i x) (us.set i u)
 | _,_,_,.nil=>.nil
 | _,_,0,.cons _ t=>.cons r t
 | _,_,i+1,.cons q t=>.cons q (Vals.set r i t)
theorem Vals.append:∀ {xs ys:List V} {us ws:List Value},Vals xs us->Vals ys ws->Vals (xs++ys) (us++ws)
 | _,_,_,_,.nil,s=>s
 | _,_,_,_,.cons r t,s=>.cons r (Vals.append t s)
theorem Vals.take:∀ {xs:List V} {us:List Value} (n:Nat),Vals xs us->Vals (xs.take n) (us.take n)
 | _,_,0,_=>.nil
 | _,_,_+1,.nil=>.nil
 | _,_,n+1,.cons r t=>.cons r (Vals.take n t)
theorem Vals.drop:∀ {xs:List V} {us:List Value} (n:Nat),Vals xs us->Vals (xs.drop n) (us.drop n)
 | _,_,0,r=>r
 | _,_,_+1,.nil=>.nil
 | _,_,n+1,.cons _ t=>Vals.drop n t
noncomputable def RelO:Option V->Option Value->Prop
 | some v,some u=>RelV v u
 | none,none=>True
 | _,_=>False
noncomputable def KV {κ:Type}:List (κ×V)->List (κ×Value)->Prop:=Paired λ(p:κ×V) (q:κ×Value)=>p.1=q.1/\RelV p.2 q.2
noncomputable def kV:Key->V
 | .inl i=>.int i
 | .inr x=>.str x
inductive HO where
 | lst (xs:List V)
 | tup (xs:List V)
 | dK (kvs:List (Key×V)) | dT (kvs:List (List Key×V))
 | set (S:Int->Bool) (n:Nat)
 | ins (C dx:Addr) (fs:List (Str×V))
 | own (x:Addr)
 | xd (fs:List (Str×V))
 | met (f x:Addr)
 | rng (lo hi:Int)
 | frz (o:Obj) (u:HO)
 | tbl (ps:Array Value)
 | ext (φ:Heap->Prop)
noncomputable abbrev Hp:=Addr->Option HO
noncomputable def upd (H:Hp)(a:Addr)(o:HO):Hp:=λb=>if b=a then some o else H b
theorem yad {H:Hp}{a:Addr}{o:HO}:upd H a o a=some o:=by unfold upd;rw[if_pos rfl]
theorem yai {H:Hp}{a b:Addr}{o:HO}(h:b≠a):upd H a o b=H b:=by unfold upd;rw[if_neg h]
theorem yam {H:Hp}{a b:Addr}{o:HO}(h:H a=some o)(h':H b=none):a≠b:=by
 intro e;subst e;rw[h] at h';cases h'
section
variable (P:Program) (w:World)
noncomputable def ObjOk (H:Hp)(h:Heap)(a:Addr):HO->Prop
 | .lst xs=>xs.length<=sizeLine/\∃ (its:List Value) (n:Nat),Vals xs its/\h.get? a=some { cls:=.type "list",data:=.seq its.toArray n }
 | .tup xs=>xs.length<=sizeLine/\∃ its:List Value,Vals xs its/\IsTup h a its.toArray
 | .dK kvs=>kvs.length<=sizeLine/\(a==sysModules)=false/\∃ vs,KV kvs vs/\h.DictOf (yjM P w) a vs
 | .dT kvs=>kvs.length<=sizeLine/\(a==sysModules)=false/\∃ xs:List (List Key×Addr×Value),
   Paired (λ(p:List Key×V) (q:List Key×Addr×Value)=>p.1=q.1/\H q.2.1=some (.tup (p.1.map kV))/\RelV p.2 q.2.2) kvs xs /\
   ∃ o es ep,h.get? a=some o/\o.ExactDict/\o.data=.dict es ep/\es.toList=xs.map (entryOfKey (tupleKind (yjM P w)))/\(xs.map (·.1)).Nodup
 | .set S n=>h.SetOf (intKind P w) a S n
 | .ins C dx fs=>H dx=some (.own a)/\fs.length<=1000/\dx≠a/\h.get? a=some (PySem.W.instObj C dx) /\
   ∃ mA,h.Ns1 dx mA/\(∀ f,RelO (fs.lookup f) (mA f))/\PySem.Within mA (fs.map (·.1))
 | .own _=>∃ o,h.get? a=some o
 | .xd fs=>∃ mA,h.Ns1 a mA/\∀ f,RelO (fs.lookup f) (mA f)
 | .rng lo hi=>∃ t u v,h.get? a=some { cls:=.type "range",data:=.fields #[.int lo t,.int hi u,.int 1 v] }
 | .frz o u=>h.get? a=some o/\ObjOk H h a u
 | .tbl ps=>h.get? a=some { cls:=.none,data:=.fields ps }
 | .met f x=>h.get? a=some (PySem.W.methodObj (.ref f) (.ref x))
 | .ext φ=>φ h/\(∃ o,h.get? a=some o)/\∀ h1 h2:Heap,φ h1->(∀ o,h1.get? a=some o->h2.get? a=some o)->φ h2
noncomputable def HOk (H:Hp)(h:Heap):Prop:=∀ a o,H a=some o->ObjOk P w H h a o
end
section
variable {P:Program} {w:World} {H H':Hp} {h h':Heap} {a:Addr} {o:HO}
theorem ObjOk.lt (x:ObjOk P w H h a o):a < h.objs.size:=by
 cases o with
 | lst xs=>obtain⟨_,_,_,_,e⟩:=x;exact Heap.lt_size e
 | tup xs=>obtain⟨_,_,_,p⟩:=x;exact p.lt
 | dK kvs=>obtain⟨_,_,_,_,o,_,_,e,_⟩:=x;exact Heap.lt_size e
 | dT kvs=>obtain⟨_,_,_,_,o,_,_,e,_⟩:=x;exact Heap.lt_size e
 | set S n=>obtain⟨o,_,_,_,e,_⟩:=x;exact Heap.lt_size e
 | ins C dx fs=>obtain⟨_,_,_,e,_⟩:=x;exact Heap.lt_size e
 | own y=>obtain⟨_,e⟩:=x;exact Heap.lt_size e
 | xd fs=>obtain⟨_,⟨_,_,_,e,_⟩,_⟩:=x;exact Heap.lt_size e
 | rng lo hi=>obtain⟨_,_,_,e⟩:=x;exact Heap.lt_size e
 | frz ob u=>obtain⟨e,_⟩:=x;exact Heap.lt_size e
 | tbl ps=>exact Heap.lt_size (show h.get? a=some _ from x)
 | met f y=>exact Heap.lt_size (show h.get? a=some _ from x)
 | ext φ=>obtain⟨_,⟨_,e⟩,_⟩:=x;exact Heap.lt_size e
theorem Paired.mapP {α β:Type}{F G:α->β->Prop}:∀ {l₁:List α} {l₂:List β},Paired F l₁ l₂->(∀ a b,F a b->G a b)->Paired G l₁ l₂
 | _,_,.nil,_=>.nil
 | _,_,.cons r t,f=>.cons (f _ _ r) (Paired.mapP t f)
theorem ObjOk.stay (x:ObjOk P w H h a o)(k:∀ b u,(b=a∨H b=some (.own a))->h.get? b=some u->h'.get? b=some u)
  (ho:∀ b,H b=some (.own a)->H' b=some (.own a)) (ht:∀ b xs,H b=some (.tup xs)->H' b=some (.tup xs)):ObjOk P w H' h' a o:=by
 induction o with
 | lst xs=>obtain⟨z,its,n,r,e⟩:=x;exact⟨z,its,n,r,k _ _ (.inl rfl) e⟩
 | tup xs=>obtain⟨z,its,r,ob,e,c⟩:=x;exact⟨z,its,r,ob,k _ _ (.inl rfl) e,c⟩
 | dK kvs=>obtain⟨z,y,vs,r,ob,es,ep,e,c⟩:=x;exact⟨z,y,vs,r,ob,es,ep,k _ _ (.inl rfl) e,c⟩
 | dT kvs =>
  obtain⟨z,y,xs,r,ob,es,ep,e,c⟩:=x
  exact⟨z,y,xs,Paired.mapP r λp q z=>⟨z.1,ht _ _ z.2.1,z.2.2⟩,ob,es,ep,k _ _ (.inl rfl) e,c⟩
 | set S n=>obtain⟨ob,es,ep,t,e,c⟩:=x;exact⟨ob,es,ep,t,k _ _ (.inl rfl) e,c⟩
 | ins C dx fs =>
  obtain⟨d,z,ne,e,mA,⟨od,es,ep,e2,c⟩,r⟩:=x
  exact⟨ho _ d,z,ne,k _ _ (.inl rfl) e,mA,⟨od,es,ep,k _ _ (.inr d) e2,c⟩,r⟩
 | own y=>obtain⟨ob,e⟩:=x;exact⟨ob,k _ _ (.inl rfl) e⟩
 | xd fs=>obtain⟨mA,⟨od,es,ep,e,c⟩,r⟩:=x;exact⟨mA,⟨od,es,ep,k _ _ (.inl rfl) e,c⟩,r⟩
 | rng lo hi=>obtain⟨t,u,v,e⟩:=x;exact⟨t,u,v,k _ _ (.inl rfl) e⟩
 | frz ob u ih=>obtain⟨e,q⟩:=x;exact⟨k _ _ (.inl rfl) e,ih q⟩
 | tbl ps =>
  have e:h.get? a=some { cls:=.none,data:=.fields ps }:=x
  show h'.get? a=some { cls:=.none,data:=.fields ps }
  exact k a _ (.inl rfl) e
 | met f y =>
  have e:h.get? a=some (PySem.W.methodObj (.ref f) (.ref y)):=x
  show h'.get? a=some (PySem.W.methodObj (.ref f) (.ref y))
  exact k a _ (.inl rfl) e
 | ext φ=>obtain⟨p,⟨o,e⟩,st⟩:=x;exact⟨st _ _ p λo q=>k _ _ (.inl rfl) q,⟨o,k _ _ (.inl rfl) e⟩,st⟩
theorem HOk.lt (x:HOk P w H h)(e:H a=some o):a < h.objs.size:=(x a o e).lt
theorem HOk.fresh (x:HOk P w H h)(e:h.objs.size<=a):H a=none:=by
 cases q:H a with
 | none=>rfl
 | some u=>exact absurd (Nat.lt_of_lt_of_le (x.lt q) e) (Nat.lt_irrefl _)
theorem HOk.kept (x:HOk P w H h)(k:∀ b u,h.get? b=some u->h'.get? b=some u):HOk P w H h':=λa o e =>
 (x a o e).stay (λb u _ q=>k b u q) (λ_ q=>q) λ_ _ q=>q
theorem HOk.laid (x:HOk P w H h)(k:∀ b u,h.get? b=some u->h'.get? b=some u)(hp:h.objs.size<=a)(new:ObjOk P w (upd H a o) h' a o):HOk P w (upd H a o) h':=λb u e=>by
 have hn:=x.fresh hp
 by_cases hb:b=a
 ·subst hb;rw[yad] at e;cases e;exact new
 ·rw[yai hb] at e
  exact(x b u e).stay (λc v _ q=>k c v q) (λc q=>by rw[yai (yam q hn)];exact q) λc xs q=>by rw[yai (yam q hn)];exact q
end
noncomputable def Rd (H:Hp)(a:Addr)(u:HO):Prop:=H a=some u∨∃ o,H a=some (.frz o u)
theorem Rd.of {H:Hp}{a:Addr}{u:HO}(h:H a=some u):Rd H a u:=.inl h
theorem Rd.ok {P:Program}{w:World}{H:Hp}{h:Heap}{a:Addr}{u:HO}(r:Rd H a u)(x:HOk P w H h):ObjOk P w H h a u:=by
 rcases r with r | ⟨o,r⟩
 ·exact x a u r
 ·obtain⟨_,q⟩:=x a _ r
  exact q
noncomputable def Mut:Option HO->Prop
 | some (.lst _)=>True
 | some (.dK _)=>True
 | some (.dT _)=>True
 | some (.set _ _)=>True
 | some (.ins _ _ _)=>True
 | some (.ext _)=>True
 | _=>False
section
variable {P:Program} {w:World} {H:Hp} {h h':Heap} {x e:Addr} {o':HO}
theorem HOk.write (ok:HOk P w H h)(mu:Mut (H x))(he:e=x∨H e=some (.own x))(k:∀ b u,b≠e->h.get? b=some u->h'.get? b=some u)(heo:∃ u,h'.get? e=some u)
  (new:ObjOk P w (upd H x o') h' x o'):HOk P w (upd H x o') h':=λb u q=>by
 have nown:∀ c y,H c=some (.own y)->c≠x:=λc y r z=>by subst z;rw[r] at mu;exact mu
 have ntup:∀ c xs,H c=some (.tup xs)->c≠x:=λc xs r z=>by subst z;rw[r] at mu;exact mu
 by_cases hb:b=x
 ·subst hb;rw[yad] at q;cases q;exact new
 ·rw[yai hb] at q
  by_cases hbe:b=e
  ·have q':H b=some (.own x):=by
    rcases he with z | z
    ·exact absurd (hbe.trans z) hb
    ·rw[hbe];exact z
   rw[q] at q';cases q'
   obtain⟨v,hv⟩:=heo
   exact⟨v,by rw[hbe];exact hv⟩
  ·refine(ok b u q).stay (λc v hc r=>k c v ?_ r) (λc r=>by rw[yai (nown c b r)];exact r) λc xs r=>by rw[yai (ntup c xs r)];exact r
   rcases hc with rfl | hc
   ·exact hbe
   ·rintro rfl
    rcases he with z | z
    ·exact nown c b hc z
    ·rw[hc] at z;cases z;exact hb rfl
end
structure Un (fs ex:List Addr) (H H':Hp) (h h':Heap):Prop where
 keep:∀ b o,h.get? b=some o->H b=none->b∉fs->b∉ex->h'.get? b=some o
 slot:∀ b o,h.get? b=some o->H b=none->b∈fs->b∉ex->∃ sl,h'.get? b=some { o with slots:=sl }
 free:∀ b o,h.get? b=some o->H b=none->b∉ex->H' b=none
 there:∀ b o,h.get? b=some o->b∉ex->∃ o',h'.get? b=some o'
 tups:∀ b xs,H b=some (.tup xs)->H' b=some (.tup xs)
 frzs:∀ b o u,H b=some (.frz o u)->H' b=some (.frz o u)
 tbls:∀ b ps,H b=some (.tbl ps)->∃ more,H' b=some (.tbl (ps++more))
section
variable {fs fs' ex ex':List Addr} {H H1 H2:Hp} {h h1 h2 h':Heap} {a x e:Addr} {o:HO}
theorem Un.any (u:Un fs ex H H1 h h1){b:Addr}{ob:Obj}(q:h.get? b=some ob)(n:H b=none)(hx:b∉ex):∃ sl,h1.get? b=some { ob with slots:=sl }:=by
 by_cases hb:b∈fs
 ·exact u.slot b ob q n hb hx
 ·exact⟨ob.slots,u.keep b ob q n hb hx⟩
theorem Un.kept (k:∀ b u,h.get? b=some u->h'.get? b=some u):Un fs ex H H h h' :=
 ⟨λb ob q _ _ _=>k b ob q,λb ob q _ _ _=>⟨ob.slots,k b ob q⟩,λ_ _ _ n _=>n,λb ob q _=>⟨ob,k b ob q⟩,λ_ _ q=>q,λ_ _ _ q=>q,λ_ ps q=>⟨#[],by rw[q];simp⟩⟩
theorem Un.refl:Un fs ex H H h h:=Un.kept λ_ _ q=>q
theorem Un.laid (k:∀ b u,h.get? b=some u->h'.get? b=some u)(hp:h.objs.size<=a)(hn:H a=none):Un fs ex H (upd H a o) h h' where
 keep:=λb u q _ _ _=>k b u q
 slot:=λb u q _ _ _=>⟨u.slots,k b u q⟩
 free:=λb u q n _=>by rw[yai (Nat.ne_of_lt (Nat.lt_of_lt_of_le (Heap.lt_size q) hp))];exact n
 there:=λb u q _=>⟨u,k b u q⟩
 tups:=λb xs q=>by rw[yai (yam q hn)];exact q
 frzs:=λb u xs q=>by rw[yai (yam q hn)];exact q
 tbls:=λb ps q=>⟨#[],by rw[yai (yam q hn),q];simp⟩
theorem Un.write (mu:Mut (H x))(he:e=x∨H e=some (.own x))(k:∀ b u,b≠e->h.get? b=some u->h'.get? b=some u)(heo:∃ u,h'.get? e=some u):Un fs ex H (upd H x o) h h':=by
 have hx:∀ b,H b=none->b≠x:=λb n z=>by subst z;rw[n] at mu;exact mu
 have hb:∀ b,H b=none->b≠e:=λb n z=>by
  subst z
  rcases he with r | r
  ·exact hx b n r
  ·rw[n] at r;cases r
 have hm:∀ b u,H b=some u->¬ Mut (some u)->b≠x:=λb u q nm z=>by subst z;rw[q] at mu;exact nm mu
 refine⟨λb u q n _ _=>k b u (hb b n) q,λb u q n _ _=>⟨u.slots,k b u (hb b n) q⟩,λb u q n _=>by rw[yai (hx b n)];exact n,λb u q _=>?_,
  λb xs q=>by rw[yai (hm b _ q λz=>z)];exact q,λb u xs q=>by rw[yai (hm b _ q λz=>z)];exact q,λb ps q=>⟨#[],by rw[yai (hm b _ q λz=>z),q];simp⟩⟩
 by_cases hbe:b=e
 ·subst hbe;exact heo
 ·exact⟨u,k b u hbe q⟩
end
noncomputable def trk (h:Heap)(H:Hp):List Addr:=(List.range h.objs.size).filter λa=>(H a).isSome
noncomputable def yjl (h:Heap)(H:Hp):Heap:=PySem.W.hideAll h (trk h H)
theorem yjL (h:Heap)(H:Hp):(yjl h H).objs.size=h.objs.size:=PySem.W.hideAll_size _ _
theorem ykm {h:Heap}{H:Hp}{b:Addr}{o:Obj}(e:h.get? b=some o)(n:H b=none):(yjl h H).get? b=some o :=
 PySem.W.hideAll_get _ e λhm=>by
  have q:(H b).isSome=true:=(List.mem_filter.mp hm).2
  rw[n] at q;simp at q
theorem ymB {h:Heap}{H:Hp}{b:Addr}{o:Obj}(e:(yjl h H).get? b=some o):h.get? b=some o/\H b=none:=by
 have e':h.get? b=some o:=PySem.W.of_hideAll (trk h H) e
 refine⟨e',?_⟩
 cases q:H b with
 | none=>rfl
 | some x =>
  have hm:b∈trk h H:=List.mem_filter.mpr ⟨List.mem_range.mpr (Heap.lt_size e'),by simp[q]⟩
  have z:(yjl h H).get? b=none:=PySem.W.hideAll_none (trk h H) hm
  rw[z] at e;cases e
noncomputable def ymg (g h:Heap)(L:Addr):List (Addr×Obj):=(List.range h.objs.size).filterMap λa=>if a=L∨(g.get? a).isSome=true then none else (h.get? a).map λo=>(a,o)
noncomputable def rest (g h:Heap)(L d:Addr):List (Addr×Obj):=(ymg g h L).filter λp=>decide (p.1≠d)
structure Mod (K:PySem.W.Frag) (mg:Str->Option Value) (base:Heap):Prop where
 kin:K.In base
 glob:base.Ns mainGlobals mg
 blt:∃ mb,base.Ns builtinsNs mb/\∀ x:Str,x≠"__name__" -> mb x=bootBuiltins x
 nolimit:base.NoLimit
structure Cx where
 prog:Program
 w:World
 K:PySem.W.Frag
 mg:Str->Option Value
 base:Heap
 A:Around
 N:List Str
 s₀:Shared
 H₀:Hp
 env:Env
 outer:List Env
 stack:List Env
 ex:List Addr
 fn:Str->Bool
 calm:Bool
 pn:List (Addr×Obj)
 xe:Value->Shared->Prop
noncomputable def frs (l:List Env):List Addr:=l.filterMap (·.frame)
noncomputable abbrev Cx.fs (X:Cx):List Addr:=frs X.outer
noncomputable def Vis (sc:Scope)(x:Str):Prop:=sc.names.lookup x=some .local∨sc.names.lookup x=some .cell∨sc.names.lookup x=some .free
noncomputable def Loc (sc:Scope)(x:Str):Prop:=sc.names.lookup x=some .local∨sc.names.lookup x=some .cell
noncomputable def yr9 (env:Env)(h:Heap)(m:Str->Option Value)(x:Str)(u:Value):Prop :=
 (env.kindOf x=some .local/\m x=some u)∨((env.kindOf x=some .cell∨env.kindOf x=some .free)/\∃ c,env.cells.lookup x=some c/\h.IsCell c (some u))
structure Cx.Ok (X:Cx):Prop where
 mod:Mod X.K X.mg X.base
 kind:X.env.scope.kind=.function
 glob:X.env.globals=mainGlobals
 blt:X.env.builtins=builtinsNs
 above:X.s₀.heap.objs.size<=X.env.locals
 inj:∀ x y c,X.env.cells.lookup x=some c->X.env.cells.lookup y=some c->x=y
 has:∀ x,(X.env.kindOf x=some .cell∨X.env.kindOf x=some .free)->∃ c,X.env.cells.lookup x=some c
 cab:∀ x c,X.fn x=true->X.env.cells.lookup x=some c->X.s₀.heap.objs.size<=c
 hd:X.calm=true->X.A.handled=none
 frames:X.A.frames=some X.stack
 stk:X.stack=X.outer∨(X.stack=X.env :: X.outer/\X.env.frame=some X.env.locals)
 exf:∀ b∈X.ex,b≠X.env.locals/\∀ x c,X.env.cells.lookup x=some c->c≠b
 bs:∀ b o,X.base.get? b=some o->X.s₀.heap.get? b=some o/\X.H₀ b=none
 bsz:X.base.objs.size<=X.s₀.heap.objs.size
 noex:∀ b o,X.base.get? b=some o->b∉X.ex
 exfs:∀ b∈X.ex,b∉X.fs
 funs:X.s₀.heap.FunFrames X.base X.outer
 frf:∀ b∈X.fs,X.H₀ b=none
structure Inv (X:Cx) (pins:List (Addr×Obj)) (σ:List (Option V)) (H:Hp) (s:Shared):Prop where
 ok:X.Ok
 os:s.os=X.s₀.os
 bare:AllBare s.gens
 base:Un X.fs X.ex X.H₀ H X.s₀.heap s.heap
 loc:∃ m,s.heap.Ns X.env.locals m/\∀ (i:Nat) (x:Str) (v:V),X.N[i]?=some x->σ[i]?=some (some v)->Vis X.env.scope x->∃ u,RelV v u/\yr9 X.env s.heap m x u
 cell:∀ x c,X.env.cells.lookup x=some c->∃ v,s.heap.IsCell c v
 free:H X.env.locals=none
 freeC:∀ x c,X.env.cells.lookup x=some c->H c=none
 pin:∀ p∈X.pn++pins,s.heap.get? p.1=some p.2/\H p.1=none/\p.1≠X.env.locals/\p.1∉X.fs/\∀ v,p.2.data≠.cell v
 hok:HOk X.prog X.w H s.heap
 len:σ.length=X.N.length
section
variable {X:Cx} {pins:List (Addr×Obj)} {σ:List (Option V)} {H H':Hp} {s:Shared} {h':Heap}
theorem Cx.Ok.nofr (ok:X.Ok){b:Addr}{o:Obj}(e:X.base.get? b=some o):b∉X.fs:=λhb=>by
 have:=(ok.funs.mem hb).1
 rw[e] at this;cases this
theorem Inv.bs (I:Inv X pins σ H s):∀ b o,X.base.get? b=some o->s.heap.get? b=some o/\H b=none:=λb o e =>
 ⟨I.base.keep b o (I.ok.bs b o e).1 (I.ok.bs b o e).2 (I.ok.nofr e) (I.ok.noex b o e),I.base.free b o (I.ok.bs b o e).1 (I.ok.bs b o e).2 (I.ok.noex b o e)⟩
theorem Inv.bk (I:Inv X pins σ H s):∀ b o,X.base.get? b=some o->s.heap.get? b=some o:=λb o e=>(I.bs b o e).1
theorem Inv.mod (I:Inv X pins σ H s):Mod X.K X.mg X.base:=I.ok.mod
theorem Inv.kIn (I:Inv X pins σ H s):X.K.In s.heap:=I.ok.mod.kin.keeps I.bk
theorem Inv.nolimit (I:Inv X pins σ H s):s.heap.NoLimit:=I.ok.mod.nolimit.keeps I.bk
theorem Inv.lt (I:Inv X pins σ H s):X.env.locals < s.heap.objs.size:=let ⟨_,hn,_⟩:=I.loc;hn.lt
theorem Inv.sz (I:Inv X pins σ H s):X.s₀.heap.objs.size<=s.heap.objs.size:=Nat.le_trans I.ok.above (Nat.le_of_lt I.lt)
theorem Inv.nofs (I:Inv X pins σ H s){a:Addr}(h:s.heap.objs.size<=a):a∉X.fs:=λhb=>by
 obtain⟨_,o,ho,_⟩:=I.ok.funs.mem hb
 exact absurd (Nat.lt_of_lt_of_le (Heap.lt_size ho) (Nat.le_trans I.sz h)) (Nat.lt_irrefl _)
theorem Inv.cne (I:Inv X pins σ H s):∀ x c,X.env.cells.lookup x=some c->c≠X.env.locals:=λx c e z=>by
 obtain⟨v,o,ho,hd⟩:=I.cell x c e
 obtain⟨m,⟨o',es,ep,ho',hd',_⟩,_⟩:=I.loc
 rw[z,ho'] at ho;cases ho;rw[hd'] at hd;cases hd
theorem Inv.funs (I:Inv X pins σ H s):s.heap.FunFrames X.base X.outer:=by
 have all:∀ (l:List Env),(∀ b∈frs l,b∈X.fs)->X.s₀.heap.FunFrames X.base l->s.heap.FunFrames X.base l:=by
  intro l
  induction l with
  | nil=>intro _ _;trivial
  | cons env r ih =>
   intro hs hl
   obtain⟨hk,⟨L,o,hf,hn,ho,hd⟩,hr⟩:=hl
   have hL:L∈X.fs:=hs L (by unfold frs;rw[List.filterMap_cons,hf];exact List.mem_cons_self)
   obtain⟨sl,e⟩:=I.base.slot L o ho (I.ok.frf L hL) hL λz=>I.ok.exfs L z hL
   exact⟨hk,⟨L,_,hf,hn,e,hd⟩,ih (λb hb=>hs b (by unfold frs;rw[List.filterMap_cons,hf];exact List.mem_cons_of_mem _ hb)) hr⟩
 exact all X.outer (λ_ hb=>hb) I.ok.funs
theorem Inv.stack (I:Inv X pins σ H s):s.heap.FunFrames X.base X.stack:=by
 rcases I.ok.stk with e | ⟨e,hf⟩
 ·rw[e];exact I.funs
 ·rw[e]
  obtain⟨m,hn,_⟩:=I.loc
  refine .cons (by rw[I.ok.kind];decide) hf hn ?_ I.funs
  exact Heap.get?_none_of_le (Nat.le_trans I.ok.bsz I.ok.above)
theorem Inv.stkSub (I:Inv X pins σ H s):∀ b∈frs X.stack,b∈X.env.locals :: X.fs:=λb hb=>by
 rcases I.ok.stk with e | ⟨e,hf⟩
 ·rw[e] at hb;exact List.mem_cons_of_mem _ hb
 ·rw[e] at hb
  unfold frs at hb
  rw[List.filterMap_cons,hf] at hb
  exact hb
theorem Inv.stkFree (I:Inv X pins σ H s):∀ b∈frs X.stack,H b=none:=λb hb=>by
 rcases List.mem_cons.mp (I.stkSub b hb) with e | hb
 ·rw[e];exact I.free
 ·obtain⟨_,o,ho,_⟩:=I.ok.funs.mem hb
  exact I.base.free b o ho (I.ok.frf b hb) λz=>I.ok.exfs b z hb
theorem Inv.step {g':Array GenState}{t':Nat}{d':Drawn}{ch:List Addr}(I:Inv X pins σ H s)
  (hch:∀ b∈ch,(b∈X.ex∨X.s₀.heap.objs.size<=b)/\b≠X.env.locals/\(∀ x c,X.env.cells.lookup x=some c->c≠b)/\∀ p∈X.pn++pins,p.1≠b)
  (keep:∀ b o,b≠X.env.locals->b∉X.fs->b∉ch->s.heap.get? b=some o->H b=none->h'.get? b=some o)
  (slot:∀ b o,b≠X.env.locals->b∈X.fs->b∉ch->s.heap.get? b=some o->H b=none->∃ sl,h'.get? b=some { o with slots:=sl }) (free:∀ b o,b∉ch->s.heap.get? b=some o->H b=none->H' b=none)
  (there:∀ b o,b∉ch->s.heap.get? b=some o->∃ o',h'.get? b=some o')
  (tups:∀ b xs,H b=some (.tup xs)->H' b=some (.tup xs)) (frzs:∀ b o u,H b=some (.frz o u)->H' b=some (.frz o u)) (tbls:∀ b ps,H b=some (.tbl ps)->∃ more,H' b=some (.tbl (ps++more)))
  (ns:∀ m,s.heap.Ns X.env.locals m->h'.Ns X.env.locals m) (hok:HOk X.prog X.w H' h') (hg:AllBare g') :
  Inv X pins σ H' { s with heap:=h',gens:=g',drawn:=d',toks:=t' }:=by
 have neL:∀ b o,X.s₀.heap.get? b=some o->b≠X.env.locals:=λb o e=>Nat.ne_of_lt (Nat.lt_of_lt_of_le (Heap.lt_size e) I.ok.above)
 have neC:∀ b o,X.s₀.heap.get? b=some o->b∉X.ex->b∉ch:=λb o e hx hb=>by
  rcases(hch b hb).1 with z | z
  ·exact hx z
  ·exact absurd (Nat.lt_of_lt_of_le (Heap.lt_size e) z) (Nat.lt_irrefl _)
 have cellK:∀ x c,X.env.cells.lookup x=some c->∀ v,s.heap.IsCell c v->h'.IsCell c v:=λx c e v ⟨o,ho,hd⟩=>by
  have nch:c∉ch:=λz=>(hch c z).2.2.1 x c e rfl
  by_cases hc:c∈X.fs
  ·obtain⟨sl,q⟩:=slot c o (I.cne x c e) hc nch ho (I.freeC x c e)
   exact⟨_,q,hd⟩
  ·exact⟨o,keep c o (I.cne x c e) hc nch ho (I.freeC x c e),hd⟩
 refine⟨I.ok,I.os,hg,⟨λb o e n hb hx=>?_,λb o e n hb hx=>?_,λb o e n hx=>?_,λb o e hx=>?_,λb xs e=>tups b xs (I.base.tups b xs e),λb o xs e=>frzs b o xs (I.base.frzs b o xs e),λb ps e=>?_⟩,?_,λx c e=>?_,?_,λx c e=>?_,λp hp=>?_,hok,I.len⟩
 ·exact keep b o (neL b o e) hb (neC b o e hx) (I.base.keep b o e n hb hx) (I.base.free b o e n hx)
 ·obtain⟨sl,e1⟩:=I.base.slot b o e n hb hx
  obtain⟨sl',e2⟩:=slot b _ (neL b o e) hb (neC b o e hx) e1 (I.base.free b o e n hx)
  exact⟨sl',e2⟩
 ·obtain⟨o',e1⟩:=I.base.there b o e hx
  exact free b o' (neC b o e hx) e1 (I.base.free b o e n hx)
 ·obtain⟨o',e1⟩:=I.base.there b o e hx
  exact there b o' (neC b o e hx) e1
 ·obtain⟨m1,e1⟩:=I.base.tbls b ps e
  obtain⟨m2,e2⟩:=tbls b _ e1
  exact⟨m1++m2,by rw[e2,Array.append_assoc]⟩
 ·obtain⟨m,hn,hl⟩:=I.loc
  refine⟨m,ns m hn,λi x v e1 e2 e3=>?_⟩
  obtain⟨u,r,l⟩:=hl i x v e1 e2 e3
  refine⟨u,r,?_⟩
  rcases l with l | ⟨k,c,e,z⟩
  ·exact .inl l
  ·exact .inr ⟨k,c,e,cellK x c e _ z⟩
 ·obtain⟨v,z⟩:=I.cell x c e
  exact⟨v,cellK x c e v z⟩
 ·obtain⟨m,⟨o,_,_,ho,_⟩,_⟩:=I.loc
  exact free _ o (λz=>(hch _ z).2.1 rfl) ho I.free
 ·obtain⟨v,o,ho,hd⟩:=I.cell x c e
  exact free c o (λz=>(hch c z).2.2.1 x c e rfl) ho (I.freeC x c e)
 ·obtain⟨e,n,ne,nf,d⟩:=I.pin p hp
  have nch:p.1∉ch:=λz=>(hch p.1 z).2.2.2 p hp rfl
  exact⟨keep p.1 p.2 ne nf nch e n,free p.1 p.2 nch e n,ne,nf,d⟩
theorem Inv.un {t':Nat}(I:Inv X pins σ H s)(u:Un X.fs [] H H' s.heap h')(hok:HOk X.prog X.w H' h'):Inv X pins σ H' { s with heap:=h',toks:=t' }:=by
 obtain⟨m,⟨o,es,ep,ho,r⟩,_⟩:=id I.loc
 obtain⟨sl,hL⟩:=u.any ho I.free (by simp)
 exact I.step (g':=s.gens) (d':=s.drawn) (ch:=[]) (λ_ z=>nomatch z) (λb o _ hb _ e n=>u.keep b o e n hb (by simp)) (λb o _ hb _ e n=>u.slot b o e n hb (by simp)) (λb o _ e n=>u.free b o e n (by simp)) (λb o _ e=>u.there b o e (by simp)) u.tups u.frzs u.tbls (λm' hm=>by
  obtain⟨o',es',ep',ho',r'⟩:=hm
  rw[ho] at ho';cases ho'
  exact⟨_,es',ep',hL,r'⟩) hok I.bare
theorem Inv.call {g':Array GenState}{t':Nat}{d':Drawn}{ch:List Addr}(I:Inv X pins σ H s)(u:Un (frs X.stack) ch H H' s.heap h')(hok:HOk X.prog X.w H' h')(hg:AllBare g')
  (hch:∀ b∈ch,(b∈X.ex∨X.s₀.heap.objs.size<=b)/\b≠X.env.locals/\(∀ x c,X.env.cells.lookup x=some c->c≠b)/\∀ p∈X.pn++pins,p.1≠b) :
  Inv X pins σ H' { s with heap:=h',gens:=g',drawn:=d',toks:=t' }:=by
 obtain⟨m,⟨o,es,ep,ho,r⟩,_⟩:=id I.loc
 obtain⟨sl,hL⟩:=u.any ho I.free λz=>(hch _ z).2.1 rfl
 exact I.step (ch:=ch) hch (λb o hL hb hc e n=>u.keep b o e n (λz=>(List.mem_cons.mp (I.stkSub b z)).elim hL hb) hc) (λb o _ _ hc e n=>u.any e n hc) (λb o hc e n=>u.free b o e n hc) (λb o hc e=>u.there b o e hc) u.tups u.frzs u.tbls (λm' hm=>by
  obtain⟨o',es',ep',ho',r'⟩:=hm
  rw[ho] at ho';cases ho'
  exact⟨_,es',ep',hL,r'⟩) hok hg
theorem Inv.turned {t':Nat}{it:Addr}(I:Inv X pins σ H s)(k:∀ b o,b≠it->s.heap.get? b=some o->h'.get? b=some o)(hn:H it=none)(hL:it≠X.env.locals)
  (h1:it∈X.ex∨X.s₀.heap.objs.size<=it) (h2:∀ x c,X.env.cells.lookup x=some c->c≠it) (h3:∀ p∈X.pn++pins,p.1≠it):Inv X pins σ H { s with heap:=h',toks:=t' }:=by
 have nit:∀ b u,H b=some u->b≠it:=λb u e z=>by rw[z,hn] at e;cases e
 refine I.step (g':=s.gens) (d':=s.drawn) (ch:=[it]) (λb hb=>?_) (λb o _ _ hc e _=>k b o (λz=>hc (by simp[z])) e) (λb o _ _ hc e _=>⟨o.slots,k b o (λz=>hc (by simp[z])) e⟩) (λ_ _ _ _ n=>n)
  (λb o hc e=>⟨o,k b o (λz=>hc (by simp[z])) e⟩) (λ_ _ e=>e) (λ_ _ _ e=>e) (λb ps e=>⟨#[],by rw[e];simp⟩) (λm hm=>?_) (λb u e=>?_) I.bare
 ·have e:b=it:=by simpa using hb
  subst e
  exact⟨h1,hL,h2,h3⟩
 ·obtain⟨o,es,ep,ho,r⟩:=hm
  exact⟨o,es,ep,k _ o (Ne.symm hL) ho,r⟩
 ·refine(I.hok b u e).stay (λc v hc q=>k c v ?_ q) (λ_ q=>q) λ_ _ q=>q
  rcases hc with z | z
  ·rw[z];exact nit b u e
  ·exact nit c _ z
theorem Inv.tok (I:Inv X pins σ H s)(t:Nat):Inv X pins σ H { s with toks:=t }:=I.un (h':=s.heap) (t':=t) Un.refl I.hok
theorem Inv.kept {t':Nat}(I:Inv X pins σ H s)(k:∀ b u,s.heap.get? b=some u->h'.get? b=some u):Inv X pins σ H { s with heap:=h',toks:=t' }:=I.un (Un.kept k) (I.hok.kept k)
theorem Inv.laid {a:Addr}{o:HO}{t':Nat}(I:Inv X pins σ H s)(k:∀ b u,s.heap.get? b=some u->h'.get? b=some u)(hp:s.heap.objs.size<=a)(new:ObjOk X.prog X.w (upd H a o) h' a o) :
  Inv X pins σ (upd H a o) { s with heap:=h',toks:=t' }:=I.un (Un.laid k hp (I.hok.fresh hp)) (I.hok.laid k hp new)
theorem Inv.write {x e:Addr}{o:HO}{t':Nat}(I:Inv X pins σ H s)(mu:Mut (H x))(he:e=x∨H e=some (.own x))(k:∀ b u,b≠e->s.heap.get? b=some u->h'.get? b=some u)(heo:∃ u,h'.get? e=some u)
  (new:ObjOk X.prog X.w (upd H x o) h' x o):Inv X pins σ (upd H x o) { s with heap:=h',toks:=t' }:=I.un (Un.write mu he k heo) (I.hok.write mu he k heo new)
theorem Inv.pins_of {pins':List (Addr×Obj)}(I:Inv X pins σ H s)(h:∀ p∈pins',s.heap.get? p.1=some p.2/\H p.1=none/\p.1≠X.env.locals/\p.1∉X.fs/\∀ v,p.2.data≠.cell v):Inv X pins' σ H s :=
 ⟨I.ok,I.os,I.bare,I.base,I.loc,I.cell,I.free,I.freeC,λp hp=>(List.mem_append.mp hp).elim (λz=>I.pin p (List.mem_append_left _ z)) (h p),I.hok,I.len⟩
theorem yhD {N:List Str}(hN:N.Nodup){i j:Nat}{x:Str}(a:N[i]?=some x)(b:N[j]?=some x):i=j:=by
 obtain⟨h1,e1⟩:=List.getElem?_eq_some_iff.mp a
 obtain⟨h2,e2⟩:=List.getElem?_eq_some_iff.mp b
 exact(List.getElem_inj hN).mp (e1.trans e2.symm)
theorem ygs {M:Model}{A:Around}{E:Value->Shared->Prop}{i:Nat}{x:Str}{v:V}{u:Value}{Q:Unit->Shared->Prop}(I:Inv X pins σ H s)(hN:X.N.Nodup)(hi:X.N[i]?=some x)(hx:Loc X.env.scope x)(r:RelV v u)
  (h:∀ s',Inv X pins (σ.set i (some v)) H s'->(∃ a,Heap.SameBut a s.heap s'.heap/\(a=X.env.locals∨X.env.cells.lookup x=some a))->Q () s') (hf:X.fn x=true∨X.env.scope.names.lookup x=some .local:=by first | exact .inl rfl | exact .inr rfl | assumption):wpAny M A (storeName X.env x u) Q E s:=by
 obtain⟨m,hn,hl⟩:=id I.loc
 have hcls:(X.env.scope.kind==.class||(X.env.scope.kind==.module&&X.env.locals != X.env.globals))=false:=by rw[I.ok.kind];rfl
 have hiσ:i < σ.length:=by rw[I.len];exact(List.getElem?_eq_some_iff.mp hi).1
 have cne:=I.cne
 have tracked:∀ {a:Addr} {h':Heap},(∃ o,s.heap.get? a=some o/\H a=none)->Heap.SameBut a s.heap h'->HOk X.prog X.w H h':=λ{a h'} ha hs b ob e=>by
  obtain⟨_,_,hfree⟩:=ha
  refine(I.hok b ob e).stay (λc w' hc q=>(hs.2 c ?_).trans q) (λ_ q=>q) λ_ _ q=>q
  rintro rfl
  rcases hc with rfl | hc
  ·rw[hfree] at e;cases e
  ·rw[hfree] at hc;cases hc
 rcases hx with hk | hk
 ·refine wpAny_storeName_local hk hn (λh' hn' hs=>?_) hcls
  obtain⟨oL,_,_,hoL,_⟩:=id hn
  refine h _ ⟨I.ok,I.os,I.bare,⟨λb o e n hb hx=>?_,λb o e n hb hx=>?_,I.base.free,λb o e hx=>?_,I.base.tups,I.base.frzs,I.base.tbls⟩,⟨_,hn',λj y v' e1 e2 e3=>?_⟩,λy c e=>?_,I.free,I.freeC,λp hp=>?_,tracked ⟨oL,hoL,I.free⟩ hs,by simpa using I.len⟩ ⟨_,hs,.inl rfl⟩
  ·exact(hs.2 b (Nat.ne_of_lt (Nat.lt_of_lt_of_le (Heap.lt_size e) I.ok.above))).trans (I.base.keep b o e n hb hx)
  ·obtain⟨sl,e1⟩:=I.base.slot b o e n hb hx
   exact⟨sl,(hs.2 b (Nat.ne_of_lt (Nat.lt_of_lt_of_le (Heap.lt_size e) I.ok.above))).trans e1⟩
  ·obtain⟨o',e1⟩:=I.base.there b o e hx
   exact⟨o',(hs.2 b (Nat.ne_of_lt (Nat.lt_of_lt_of_le (Heap.lt_size e) I.ok.above))).trans e1⟩
  ·by_cases hj:j=i
   ·subst hj
    rw[hi] at e1;cases e1
    rw[List.getElem?_set_self hiσ] at e2
    cases e2
    exact⟨u,r,.inl ⟨hk,by simp⟩⟩
   ·rw[List.getElem?_set_ne (Ne.symm hj)] at e2
    obtain⟨u',r',q⟩:=hl j y v' e1 e2 e3
    refine⟨u',r',?_⟩
    rcases q with ⟨k,e⟩ | ⟨k,c,e,z⟩
    ·refine .inl ⟨k,?_⟩
     have:y≠x:=λe=>hj (yhD hN e1 (e▸hi))
     simp[this,e]
    ·exact .inr ⟨k,c,e,z.sameBut hs (cne y c e)⟩
  ·obtain⟨w',z⟩:=I.cell y c e
   exact⟨w',z.sameBut hs (cne y c e)⟩
  ·obtain⟨e,n,ne,nf,d⟩:=I.pin p hp
   exact⟨(hs.2 p.1 ne).trans e,n,ne,nf,d⟩
 ·have hfn:X.fn x=true:=by
   rcases hf with z | z
   ·exact z
   ·rw[z] at hk;cases hk
  obtain⟨c,hc⟩:=I.ok.has x (.inl hk)
  obtain⟨w',z⟩:=I.cell x c hc
  refine wpAny_storeName_cell I.ok.kind hk hc z (λh' hc' hs=>?_)
  obtain⟨oc,hoc,hocd⟩:=id z
  refine h { s with heap:=h' } ⟨I.ok,I.os,I.bare,⟨λb o e n hb hx=>?_,λb o e n hb hx=>?_,I.base.free,λb o e hx=>?_,I.base.tups,I.base.frzs,I.base.tbls⟩,⟨m,hn.sameBut hs (Ne.symm (cne x c hc)),λj y v' e1 e2 e3=>?_⟩,λy c' e=>?_,I.free,I.freeC,λp hp=>?_,tracked ⟨oc,hoc,I.freeC x c hc⟩ hs,by simpa using I.len⟩ ⟨c,hs,.inr hc⟩
  ·exact(hs.2 b (Nat.ne_of_lt (Nat.lt_of_lt_of_le (Heap.lt_size e) (I.ok.cab x c hfn hc)))).trans (I.base.keep b o e n hb hx)
  ·obtain⟨sl,e1⟩:=I.base.slot b o e n hb hx
   exact⟨sl,(hs.2 b (Nat.ne_of_lt (Nat.lt_of_lt_of_le (Heap.lt_size e) (I.ok.cab x c hfn hc)))).trans e1⟩
  ·obtain⟨o',e1⟩:=I.base.there b o e hx
   exact⟨o',(hs.2 b (Nat.ne_of_lt (Nat.lt_of_lt_of_le (Heap.lt_size e) (I.ok.cab x c hfn hc)))).trans e1⟩
  ·by_cases hj:j=i
   ·subst hj
    rw[hi] at e1;cases e1
    rw[List.getElem?_set_self hiσ] at e2
    cases e2
    exact⟨u,r,.inr ⟨.inl hk,c,hc,hc'⟩⟩
   ·rw[List.getElem?_set_ne (Ne.symm hj)] at e2
    obtain⟨u',r',q⟩:=hl j y v' e1 e2 e3
    refine⟨u',r',?_⟩
    rcases q with q | ⟨k,c',e,z'⟩
    ·exact .inl q
    ·refine .inr ⟨k,c',e,z'.sameBut hs ?_⟩
     rintro rfl
     exact hj (yhD hN e1 (I.ok.inj _ _ _ e hc▸hi))
  ·by_cases hcc:c'=c
   ·subst hcc;exact⟨_,hc'⟩
   ·obtain⟨w2,z2⟩:=I.cell y c' e
    exact⟨w2,z2.sameBut hs hcc⟩
  ·obtain⟨e,n,ne,nf,d⟩:=I.pin p hp
   refine⟨(hs.2 p.1 ?_).trans e,n,ne,nf,d⟩
   intro q
   rw[q,hoc] at e
   have q':oc=p.2:=Option.some.inj e
   exact d w' (by rw[← q'];exact hocd)
theorem yce {M:Model}{A:Around}{E:Value->Shared->Prop}{i:Nat}{x:Str}{v:V}{u:Value}{Q:Unit->Shared->Prop}(I:Inv X pins σ H s)(hN:X.N.Nodup)(hi:X.N[i]?=some x)(hx:Loc X.env.scope x)(r:RelV v u)
  (h:∀ s',Inv X pins (σ.set i (some v)) H s'->Q () s') (hf:X.fn x=true∨X.env.scope.names.lookup x=some .local:=by first | exact .inl rfl | exact .inr rfl | assumption):wpAny M A (storeName X.env x u) Q E s :=
 ygs I hN hi hx r (λs' I' _=>h s' I') hf
theorem Inv.call' {s':Shared}{ch:List Addr}(I:Inv X pins σ H s)(ho:s'.os=s.os)(u:Un (frs X.stack) ch H H' s.heap s'.heap)(hok:HOk X.prog X.w H' s'.heap)(hg:AllBare s'.gens)
  (hch:∀ b∈ch,(b∈X.ex∨X.s₀.heap.objs.size<=b)/\b≠X.env.locals/\(∀ x c,X.env.cells.lookup x=some c->c≠b)/\∀ p∈X.pn++pins,p.1≠b):Inv X pins σ H' s':=by
 obtain⟨h',g',d',t',o'⟩:=s'
 have e:o'=s.os:=ho
 subst e
 exact I.call (g':=g') (t':=t') (d':=d') u hok hg hch
end
noncomputable abbrev XK:=Value->Option Addr->Hp->Prop
noncomputable abbrev St:=List (Option V)
noncomputable abbrev VK:=V->Hp->Prop
noncomputable abbrev TE:=St->Hp->VK->Prop
noncomputable abbrev TT:=St->Hp->(Bool->Hp->Prop)->Prop
noncomputable abbrev TA:=St->Hp->(List V->Hp->Prop)->Prop
structure ydh where
 nx:St->Hp->Prop
 rt:VK
 bk:St->Hp->Prop:=λ_ _=>False
 ct:St->Hp->Prop:=λ_ _=>False
noncomputable abbrev TS:=ydh->St->Hp->Prop
noncomputable def EP (X:Cx)(pins:List (Addr×Obj))(σ:St)(Q:VK)(u:Value)(s':Shared):Prop:=∃ v H',Inv X pins σ H' s'/\RelV v u/\Q v H'
noncomputable def TP (X:Cx)(pins:List (Addr×Obj))(σ:St)(Q:Bool->Hp->Prop)(b:Bool)(s':Shared):Prop:=∃ H',Inv X pins σ H' s'/\Q b H'
noncomputable def AP (X:Cx)(pins:List (Addr×Obj))(σ:St)(Q:List V->Hp->Prop)(us:List Value)(s':Shared):Prop:=∃ vs H',Inv X pins σ H' s'/\Vals vs us/\Q vs H'
noncomputable def SP (X:Cx)(pins:List (Addr×Obj))(D:ydh)(f:Flow)(s':Shared):Prop :=
 match f with
 | .next=>∃ σ' H',Inv X pins σ' H' s'/\D.nx σ' H'
 | .brk=>∃ σ' H',Inv X pins σ' H' s'/\D.bk σ' H'
 | .cont=>∃ σ' H',Inv X pins σ' H' s'/\D.ct σ' H'
 | .ret u=>∃ v σ' H',Inv X pins σ' H' s'/\RelV v u/\D.rt v H'
noncomputable def PE (X:Cx)(e:Expr)(t:TE):Prop :=
 ∀ (pins:List (Addr×Obj)) (s:Shared) (σ:St) (H:Hp) (Q:VK),Inv X pins σ H s->t σ H Q->wpAny (model X.prog X.w) X.A (eval e X.env) (EP X pins σ Q) X.xe s
noncomputable def PT (X:Cx)(e:Expr)(t:TT):Prop :=
 ∀ (pins:List (Addr×Obj)) (s:Shared) (σ:St) (H:Hp) (Q:Bool->Hp->Prop),Inv X pins σ H s->t σ H Q->wpAny (model X.prog X.w) X.A (isTrue e X.env (eval e X.env)) (TP X pins σ Q) X.xe s
noncomputable def PW (X:Cx)(e:Expr)(t:TT):Prop :=
 ∀ (whole:Sem Value) (pins:List (Addr×Obj)) (s:Shared) (σ:St) (H:Hp) (Q:Bool->Hp->Prop),Inv X pins σ H s->t σ H Q->wpAny (model X.prog X.w) X.A (isTrue e X.env whole) (TP X pins σ Q) X.xe s
theorem PW.pt {X:Cx}{e:Expr}{t:TT}(h:PW X e t):PT X e t:=h _
noncomputable def PA (X:Cx)(es:List Expr)(t:TA):Prop :=
 ∀ (pos:Pos) (pins:List (Addr×Obj)) (s:Shared) (σ:St) (H:Hp) (Q:List V->Hp->Prop),Inv X pins σ H s->t σ H Q->wpAny (model X.prog X.w) X.A (spliced (backTo pos (starEach es X.env))) (AP X pins σ Q) X.xe s
noncomputable def PS (X:Cx)(st:Stmt)(t:TS):Prop :=
 ∀ (pins:List (Addr×Obj)) (s:Shared) (σ:St) (H:Hp) (D:ydh),Inv X pins σ H s->t D σ H->wpAny (model X.prog X.w) X.A (exec st X.env) (SP X pins D) X.xe s
noncomputable def PSs (X:Cx)(st:List Stmt)(t:TS):Prop :=
 ∀ (pins:List (Addr×Obj)) (s:Shared) (σ:St) (H:Hp) (D:ydh),Inv X pins σ H s->t D σ H->wpAny (model X.prog X.w) X.A (execs st X.env) (SP X pins D) X.xe s
theorem thn {α:Type}{t:Sem α}{Q Q':α->Shared->Prop}{M:Model}{A:Around}{E:Value->Shared->Prop}{s:Shared}(h:wpAny M A t Q E s)(hQ:∀ a s,Q a s->Q' a s):wpAny M A t Q' E s:=wpAny_mono h hQ λ_ _ x=>x
section
variable {X:Cx}
theorem bin {a b:Expr}{ta tb:TE}(ha:PE X a ta)(hb:PE X b tb){pins:List (Addr×Obj)}{s:Shared}{σ:St}{H:Hp}{R:V->V->Hp->Prop}(I:Inv X pins σ H s)(h:ta σ H λx H1=>tb σ H1 λy H2=>R x y H2)
  {α:Type} {Q:α->Shared->Prop} {f:Value->Value->Sem α}
  (hf:∀ v u s2 x y H2,Inv X pins σ H2 s2->RelV x v->RelV y u->R x y H2->wpAny (model X.prog X.w) X.A (f v u) Q X.xe s2) :
  wpAny (model X.prog X.w) X.A (eval a X.env) (λv s₁=>wpAny (model X.prog X.w) X.A (eval b X.env) (λu s₂=>wpAny (model X.prog X.w) X.A (f v u) Q X.xe s₂) X.xe s₁) X.xe s:=by
 refine thn (ha pins s σ H _ I h) λv s1 ⟨x,H1,I1,r1,q1⟩=>?_
 refine thn (hb pins s1 σ H1 _ I1 q1) λu s2 ⟨y,H2,I2,r2,q2⟩=>?_
 exact hf v u s2 x y H2 I2 r1 r2 q2
noncomputable def ylq (i:Nat):TE:=fun σ H Q=>∃ v,σ[i]?=some (some v)/\Q v H
noncomputable def tC (v:V):TE:=λ_ H Q=>Q v H
theorem yjR {i:Nat}{x:Str}{pos:Pos}(hN:X.N[i]?=some x)(hv:Vis X.env.scope x)(hd:(x==("__debug__" : Str))=false:=by decide)(hcd:(x==("__classdict__" : Str))=false:=by decide):PE X (.Name x pos) (ylq i):=by
 intro pins s σ H Q I h
 obtain⟨v,e,h⟩:=h
 obtain⟨m,hn,hl⟩:=I.loc
 obtain⟨u,r,l⟩:=hl i x v hN e hv
 have fin:EP X pins σ Q u s:=⟨v,H,I,r,h⟩
 rcases l with ⟨hk,hm⟩ | ⟨hk,c,hc,hcell⟩
 ·exact wpAny_Name (wpAny_loadName_local I.ok.kind hk hn hm fin) hd
 ·rcases hk with hk | hk
  ·exact wpAny_Name (wpAny_loadName_cell I.ok.kind hk hc hcell fin) hd
  ·exact wpAny_Name (wpAny_loadName_free I.ok.kind hk hc hcell fin hcd) hd
theorem yac {i j pos}:PE X (.Constant (.int i) j pos) (tC (.int i)):=λ_ _ _ H _ I h=>wpAny_Constant_int ⟨.int i,H,I.tok _,⟨_,rfl⟩,h⟩
theorem ybt {b j pos}:PE X (.Constant (.bool b) j pos) (tC (.bl b)):=λ_ _ _ H _ I h=>Constant_bool ⟨.bl b,H,I,rfl,h⟩
theorem ybB {j pos}:PE X (.Constant .none j pos) (tC .non):=λ_ _ _ H _ I h=>Constant_none ⟨.non,H,I,rfl,h⟩
theorem yaN {x j pos}:PE X (.Constant (.str x) j pos) (tC (.str x)):=λ_ _ _ H _ I h=>Calls.Constant_str ⟨.str x,H,I.tok _,⟨_,rfl⟩,h⟩
noncomputable def Gl (X:Cx)(x:Str):Prop:=X.env.kindOf x=some .globalImplicit
theorem ycd {E:Value->Shared->Prop}{pins:List (Addr×Obj)}{s:Shared}{σ:St}{H:Hp}{x:Str}{u:Value}{pos:Pos}{Q:Value->Shared->Prop}(I:Inv X pins σ H s)(hg:Gl X x)(hm:X.mg x=some u)(h:Q u s)
  (hd:(x==("__debug__" : Str))=false:=by decide):wpAny (model X.prog X.w) X.A (eval (.Name x pos) X.env) Q E s :=
 Calls.Name_function_global I.ok.kind hg (Calls.loadGlobal_global (by rw[I.ok.glob];exact I.mod.glob.keeps I.bk) hm h) hd
theorem ycG {E:Value->Shared->Prop}{pins:List (Addr×Obj)}{s:Shared}{σ:St}{H:Hp}{x:Str}{u:Value}{pos:Pos}{Q:Value->Shared->Prop}(I:Inv X pins σ H s)(hg:Gl X x)(hm:X.mg x=none)(hv:bootBuiltins x=some u)(h:Q u s)
  (hn:x≠"__name__":= by decide) (hd:(x==("__debug__" : Str))=false:=by decide):wpAny (model X.prog X.w) X.A (eval (.Name x pos) X.env) Q E s:=by
 obtain⟨mb,h1,h2⟩:=I.mod.blt
 exact Calls.Name_function_global I.ok.kind hg (Calls.loadGlobal_builtin (by rw[I.ok.glob];exact I.mod.glob.keeps I.bk) hm (by rw[I.ok.blt];exact h1.keeps I.bk) ((h2 x hn).trans hv) h) hd
theorem ybc {x:Str}{v:V}{u:Value}{pos:Pos}(hg:Gl X x)(hm:X.mg x=some u)(r:RelV v u)(hd:(x==("__debug__" : Str))=false:=by decide):PE X (.Name x pos) (tC v) :=
 λ_ _ _ H _ I h=>ycd I hg hm ⟨v,H,I,r,h⟩ hd
theorem ymj {x:Str}{v:V}{u:Value}{pos:Pos}(hg:Gl X x)(hm:X.mg x=none)(hv:bootBuiltins x=some u)(r:RelV v u)(hn:x≠"__name__":= by decide)(hd:(x==("__debug__" : Str))=false:=by decide):PE X (.Name x pos) (tC v) :=
 λ_ _ _ H _ I h=>ycG I hg hm hv ⟨v,H,I,r,h⟩ hn hd
variable {a b:Expr} {ta tb:TE} {pos:Pos}
noncomputable def tB (t:TE):TT:=fun σ H Q=>t σ H λx H1=>∃ c,x=.bl c/\Q c H1
theorem yaQ {e:Expr}{t:TE}(h:PE X e t)(he:∀ whole,isTrue e X.env whole=(do let v ← whole;standAt e.pos;holding [v] (truthy v)):=by intro _;rfl):PT X e (tB t):=by
 intro pins s σ H Q I hw
 refine isTrue_plain (thn (h pins s σ H _ I hw) λv s1 ⟨x,H1,I1,r1,q1⟩=>?_) (he _)
 obtain⟨d,rfl,q⟩:=q1
 cases r1
 exact wpAny_truthy_bool ⟨H1,I1,q⟩
variable {tA tB':TT} {rest:List Expr}
noncomputable def yrw (t u:TT):TT:=fun σ H Q=>t σ H λc H1=>if c=true then u σ H1 Q else Q false H1
noncomputable def tOr (t u:TT):TT:=fun σ H Q=>t σ H λc H1=>if c=true then Q true H1 else u σ H1 Q
noncomputable def yq7 (t:TT):TT:=fun σ H Q=>t σ H λc H1=>Q (!c) H1
theorem ydf (ha:PT X a tA):PW X (.BoolOp .And [a] pos) tA:=by
 intro wh pins s σ H Q I h
 refine isTrue_and (thn (ha pins s σ H Q I h) λc s1 e=>?_)
 cases c with
 | true=>exact isTrue_and_nil e
 | false=>exact e
theorem ybW (ha:PT X a tA):PW X (.BoolOp .Or [a] pos) tA:=by
 intro wh pins s σ H Q I h
 refine isTrue_or (thn (ha pins s σ H Q I h) λc s1 e=>?_)
 cases c with
 | false=>exact isTrue_or_nil e
 | true=>exact e
theorem yd6 (ha:PT X a tA)(hb:PW X (.BoolOp .And (b :: rest) pos) tB'):PW X (.BoolOp .And (a :: b :: rest) pos) (yrw tA tB'):=by
 intro wh pins s σ H Q I h
 refine isTrue_and (thn (ha pins s σ H _ I h) λc s1 ⟨H1,I1,q1⟩=>?_)
 cases c with
 | true=>exact hb wh pins s1 σ H1 Q I1 q1
 | false=>exact⟨H1,I1,q1⟩
theorem ycz (ha:PT X a tA)(hb:PW X (.BoolOp .Or (b :: rest) pos) tB'):PW X (.BoolOp .Or (a :: b :: rest) pos) (tOr tA tB'):=by
 intro wh pins s σ H Q I h
 refine isTrue_or (thn (ha pins s σ H _ I h) λc s1 ⟨H1,I1,q1⟩=>?_)
 cases c with
 | true=>exact⟨H1,I1,q1⟩
 | false=>exact hb wh pins s1 σ H1 Q I1 q1
theorem ybd (ha:PT X a tA):PT X (.UnaryOp .Not a pos) (yq7 tA):=by
 intro pins s σ H Q I h
 exact isTrue_not (ha pins s σ H (λc H1=>Q (!c) H1) I h)
noncomputable def ym6 (ta tb:TE):TE:=fun σ H Q=>ta σ H λx H1=>∃ c,x=.bl c/\if c=true then tb σ H1 Q else Q (.bl false) H1
noncomputable def yqv (ta tb:TE):TE:=fun σ H Q=>ta σ H λx H1=>∃ c,x=.bl c/\if c=true then Q (.bl true) H1 else tb σ H1 Q
noncomputable def ymM (ta:TE):TE:=fun σ H Q=>ta σ H λx H1=>∃ c,x=.bl c/\Q (.bl (!c)) H1
theorem ya5 {op}{t:TE}(h:PE X a t):PE X (.BoolOp op [a] pos) t:=λpins s σ H Q I hw=>BoolOp_one (h pins s σ H Q I hw)
theorem ya0 (ha:PE X a ta)(hb:PE X (.BoolOp .And (b :: rest) pos) tb):PE X (.BoolOp .And (a :: b :: rest) pos) (ym6 ta tb):=by
 intro pins s σ H Q I h
 refine BoolOp_and (thn (ha pins s σ H _ I h) λv s1 ⟨x,H1,I1,r1,q1⟩=>?_)
 obtain⟨c,rfl,q1⟩:=q1
 cases r1
 refine wpAny_truthy_bool ?_
 cases c with
 | true=>exact hb pins s1 σ H1 Q I1 q1
 | false=>exact⟨.bl false,H1,I1,rfl,q1⟩
theorem ymD (ha:PE X a ta)(hb:PE X (.BoolOp .Or (b :: rest) pos) tb):PE X (.BoolOp .Or (a :: b :: rest) pos) (yqv ta tb):=by
 intro pins s σ H Q I h
 refine BoolOp_or (thn (ha pins s σ H _ I h) λv s1 ⟨x,H1,I1,r1,q1⟩=>?_)
 obtain⟨c,rfl,q1⟩:=q1
 cases r1
 refine wpAny_truthy_bool ?_
 cases c with
 | false=>exact hb pins s1 σ H1 Q I1 q1
 | true=>exact⟨.bl true,H1,I1,rfl,q1⟩
theorem ygX (ha:PE X a ta):PE X (.UnaryOp .Not a pos) (ymM ta):=by
 intro pins s σ H Q I h
 refine UnaryOp_ (thn (ha pins s σ H _ I h) λv s1 ⟨x,H1,I1,r1,q1⟩=>?_)
 obtain⟨c,rfl,q1⟩:=q1
 cases r1
 exact not_of (wpAny_truthy_bool ⟨.bl (!c),H1,I1,rfl,q1⟩)
noncomputable def tIf (t:TT)(ta tb:TE):TE:=fun σ H Q=>t σ H λc H1=>if c=true then ta σ H1 Q else tb σ H1 Q
theorem ycg {c:Expr}(hc:PT X c tA)(ha:PE X a ta)(hb:PE X b tb):PE X (.IfExp c a b pos) (tIf tA ta tb):=by
 intro pins s σ H Q I h
 refine wpAny_IfExp (thn (hc pins s σ H _ I h) λd s1 ⟨H1,I1,q1⟩=>?_)
 cases d with
 | true=>exact ha pins s1 σ H1 Q I1 q1
 | false=>exact hb pins s1 σ H1 Q I1 q1
end
noncomputable def SqL (K:PySem.W.Frag)(H:Hp)(a:Addr)(xs:List V):Prop :=
 Rd H a (.lst xs) ∨
  ∃ (o:Obj) (its:Array Value) (n:Nat),K.lookup a=some o/\o.cls=.type "list" /\ o.dict=none/\o.data=.seq its n/\its.size<=sizeLine/\Vals xs its.toList
noncomputable def SqT (K:PySem.W.Frag)(H:Hp)(a:Addr)(xs:List V):Prop :=
 Rd H a (.tup xs) ∨
  ∃ (o:Obj) (its:Array Value) (n:Nat),K.lookup a=some o/\o.cls=.type "tuple" /\ o.data=.seq its n/\its.size<=sizeLine/\Vals xs its.toList
noncomputable def yrS:Value->Option V
 | .none=>some .non
 | .bool b=>some (.bl b)
 | .int i _=>some (.int i)
 | .str x _=>some (.str x)
 | .bytes b _=>some (.byt b)
 | .float b _=>some (.flt b)
 | .ref a=>some (.ref a)
 | .type n=>some (.ty n)
 | _=>none
theorem RelV.abs {x:V}{u:Value}(r:RelV x u):yrS u=some x:=by
 cases x with
 | non=>cases r;rfl
 | bl _=>cases r;rfl
 | int _=>obtain⟨t,rfl⟩:=r;rfl
 | str _=>obtain⟨t,rfl⟩:=r;rfl
 | byt _=>obtain⟨t,rfl⟩:=r;rfl
 | flt _=>obtain⟨t,rfl⟩:=r;rfl
 | ref _=>cases r;rfl
 | ty _=>cases r;rfl
theorem RelV.inj {x y:V}{u:Value}(r:RelV x u)(q:RelV y u):x=y:=Option.some.inj (r.abs.symm.trans q.abs)
theorem Vals.inj:∀ {xs ys:List V} {us:List Value},Vals xs us->Vals ys us->xs=ys
 | _,_,_,.nil,.nil=>rfl
 | _,_,_,.cons r t,.cons r' t'=>by rw[r.inj r',Vals.inj t t']
section
variable {X:Cx} {pins:List (Addr×Obj)} {σ:St} {H:Hp} {s:Shared} {a:Addr} {xs ys:List V}
theorem SqL.of {K:PySem.W.Frag}(h:H a=some (.lst xs)):SqL K H a xs:=.inl (.inl h)
theorem SqT.of {K:PySem.W.Frag}(h:H a=some (.tup xs)):SqT K H a xs:=.inl (.inl h)
theorem Inv.list (I:Inv X pins σ H s)(h:SqL X.K H a xs):∃ its:List Value,Vals xs its/\PlainL s.heap a its.toArray/\xs.length<=sizeLine:=by
 rcases h with h | ⟨o,its,n,hk,hc,hd,hs,hz,r⟩
 ·obtain⟨z,its,n,r,e⟩:=h.ok I.hok
  exact⟨its,r,⟨_,n,e,rfl,rfl,rfl⟩,z⟩
 ·refine⟨its.toList,r,⟨o,n,I.kIn a o hk,hc,hd,by simpa using hs⟩,?_⟩
  have e:=r.length
  simp only[Array.length_toList] at e
  omega
theorem Inv.tuple (I:Inv X pins σ H s)(h:SqT X.K H a xs):∃ its:List Value,Vals xs its/\IsTup s.heap a its.toArray/\xs.length<=sizeLine:=by
 rcases h with h | ⟨o,its,n,hk,hc,hs,hz,r⟩
 ·obtain⟨z,its,r,p⟩:=h.ok I.hok
  exact⟨its,r,p,z⟩
 ·refine⟨its.toList,r,⟨o,I.kIn a o hk,hc,n,by simpa using hs⟩,?_⟩
  have e:=r.length
  simp only[Array.length_toList] at e
  omega
theorem Inv.list_inj (I:Inv X pins σ H s)(h:SqL X.K H a xs)(h':SqL X.K H a ys):xs=ys:=by
 obtain⟨its,r,⟨o,n,e,_,_,d⟩,_⟩:=I.list h
 obtain⟨its',r',⟨o',n',e',_,_,d'⟩,_⟩:=I.list h'
 rw[e] at e';cases e'
 rw[d] at d'
 injection d' with d1 _
 have:its=its':=by simpa using congrArg Array.toList d1
 subst this
 exact r.inj r'
theorem Inv.tuple_inj (I:Inv X pins σ H s)(h:SqT X.K H a xs)(h':SqT X.K H a ys):xs=ys:=by
 obtain⟨its,r,⟨o,e,_,n,d⟩,_⟩:=I.tuple h
 obtain⟨its',r',⟨o',e',_,n',d'⟩,_⟩:=I.tuple h'
 rw[e] at e';cases e'
 rw[d] at d'
 injection d' with d1 _
 have:its=its':=by simpa using congrArg Array.toList d1
 subst this
 exact r.inj r'
end
noncomputable abbrev Cx.wish (X:Cx)(E:Value->Shared->Prop):Cx:={ X with xe:=E }
noncomputable abbrev Cx.nox (X:Cx):Cx:=X.wish λ_ _=>False
theorem Cx.Ok.wish {X:Cx}(ok:X.Ok)(E:Value->Shared->Prop):(X.wish E).Ok :=
 ⟨ok.mod,ok.kind,ok.glob,ok.blt,ok.above,ok.inj,ok.has,ok.cab,ok.hd,ok.frames,ok.stk,ok.exf,ok.bs,ok.bsz,ok.noex,ok.exfs,ok.funs,ok.frf⟩
theorem Cx.Ok.unwish {X:Cx}{E:Value->Shared->Prop}(ok:(X.wish E).Ok):X.Ok :=
 ⟨ok.mod,ok.kind,ok.glob,ok.blt,ok.above,ok.inj,ok.has,ok.cab,ok.hd,ok.frames,ok.stk,ok.exf,ok.bs,ok.bsz,ok.noex,ok.exfs,ok.funs,ok.frf⟩
section
variable {X:Cx} {pins:List (Addr×Obj)} {σ:St} {H:Hp} {s:Shared} {E:Value->Shared->Prop}
theorem Inv.wish (I:Inv X pins σ H s)(E:Value->Shared->Prop):Inv (X.wish E) pins σ H s:=⟨I.ok.wish E,I.os,I.bare,I.base,I.loc,I.cell,I.free,I.freeC,I.pin,I.hok,I.len⟩
theorem Inv.unwish (I:Inv (X.wish E) pins σ H s):Inv X pins σ H s:=⟨I.ok.unwish,I.os,I.bare,I.base,I.loc,I.cell,I.free,I.freeC,I.pin,I.hok,I.len⟩
theorem SP.unwish {D:ydh}{f:Flow}{s':Shared}(h:SP (X.wish E) pins D f s'):SP X pins D f s':=by
 cases f with
 | next=>obtain⟨σ',H',I,q⟩:=h;exact⟨σ',H',I.unwish,q⟩
 | brk=>obtain⟨σ',H',I,q⟩:=h;exact⟨σ',H',I.unwish,q⟩
 | cont=>obtain⟨σ',H',I,q⟩:=h;exact⟨σ',H',I.unwish,q⟩
 | ret u=>obtain⟨v,σ',H',I,r,q⟩:=h;exact⟨v,σ',H',I.unwish,r,q⟩
theorem PSs.nox {st:List Stmt}{t:TS}(h:PSs X.nox st t):PSs X st t:=λpins s σ H D I hw =>
 wpAny_mono (h pins s σ H D (I.wish _) hw) (λ_ _ q=>q.unwish) λ_ _ z=>False.elim z
end
section
variable {X:Cx} {st:Stmt} {rest:List Stmt} {t u:TS} {e:Expr} {te:TE} {pos:Pos}
noncomputable def ykD:TS:=λD σ H=>D.nx σ H
noncomputable def yqn (t u:TS):TS:=λD σ H=>t { D with nx:=u D } σ H
theorem yaA:PSs X [] ykD:=λ_ _ σ H _ I h=>wpAny_execs_nil ⟨σ,H,I,h⟩
theorem yae (h1:PS X st t)(h2:PSs X rest u):PSs X (st :: rest) (yqn t u):=by
 intro pins s σ H D I h
 refine wpAny_execs_cons (thn (h1 pins s σ H { D with nx:=u D } I h) λf s1 q=>?_)
 cases f with
 | next =>
  obtain⟨σ',H',I',q⟩:=q
  exact h2 pins s1 σ' H' D I' q
 | ret v=>exact q
 | brk=>exact q
 | cont=>exact q
theorem yag (h1:PS X st t):PSs X [st] t:=by
 intro pins s σ H D I h
 refine wpAny_execs_cons (thn (h1 pins s σ H D I h) λf s1 q=>?_)
 cases f with
 | next=>exact wpAny_execs_nil q
 | ret v=>exact q
 | brk=>exact q
 | cont=>exact q
theorem Inv.quiet {pins:List (Addr×Obj)}{σ:St}{H:Hp}{s:Shared}(I:Inv X pins σ H s):interactive X.env=false:=by simp[interactive,I.ok.kind]
noncomputable def ymC (te:TE):TS:=λD σ H=>te σ H λ_ H1=>D.nx σ H1
theorem yaH (he:PE X e te)(hs:swapsWith e none pos.line X.env=pure false:=by rfl):PS X (.Expr e pos) (ymC te):=by
 intro pins s σ H D I h
 exact wpAny_Expr_any (thn (he pins s σ H _ I h) λv s1 ⟨x,H1,I1,r1,q1⟩=>⟨σ,H1,I1,q1⟩) I.quiet hs
noncomputable def ypE (te:TE):TS:=λD σ H=>te σ H D.rt
theorem yao (he:PE X e te):PS X (.Return (some e) pos) (ypE te):=by
 intro pins s σ H D I h
 exact wpAny_Return_some (thn (he pins s σ H _ I h) λv s1 ⟨x,H1,I1,r1,q1⟩=>⟨x,σ,H1,I1,r1,q1⟩)
noncomputable def yne (c:TT)(t u:TS):TS:=λD σ H=>c σ H λb H1=>if b=true then t D σ H1 else u D σ H1
theorem yaY {c:Expr}{a b:List Stmt}{tc:TT}(hc:PT X c tc)(ha:PSs X a t)(hb:PSs X b u):PS X (.If c a b pos) (yne tc t u):=by
 intro pins s σ H D I h
 refine wpAny_If (thn (hc pins s σ H _ I h) λd s1 ⟨H1,I1,q1⟩=>?_)
 cases d with
 | true=>exact ha pins s1 σ H1 D I1 q1
 | false=>exact hb pins s1 σ H1 D I1 q1
noncomputable def yoH:TS:=λ_ _ _=>False
theorem yhg:PS X st yoH:=λ_ _ _ _ _ _ h=>h.elim
end
noncomputable abbrev TG:=V->St->Hp->(St->Hp->Prop)->Prop
noncomputable abbrev TGs:=List V->St->Hp->(St->Hp->Prop)->Prop
noncomputable def PG (X:Cx)(target:Expr)(t:TG):Prop :=
 ∀ (pins:List (Addr×Obj)) (s:Shared) (σ:St) (H:Hp) (v:V) (u:Value) (Q:St->Hp->Prop),Inv X pins σ H s->RelV v u->t v σ H Q ->
  wpAny (model X.prog X.w) X.A (assign target X.env u) (λ_ s'=>∃ σ' H',Inv X pins σ' H' s'/\Q σ' H') X.xe s
noncomputable def PGs (X:Cx)(ts:List Expr)(t:TGs):Prop :=
 ∀ (pins:List (Addr×Obj)) (s:Shared) (σ:St) (H:Hp) (vs:List V) (us:List Value) (Q:St->Hp->Prop),Inv X pins σ H s->Vals vs us->t vs σ H Q ->
  wpAny (model X.prog X.w) X.A (assignInOrder ((assignEach ts X.env).map (·.2)) us) (λ_ s'=>∃ σ' H',Inv X pins σ' H' s'/\Q σ' H') X.xe s
noncomputable abbrev ypb:=V->V->V->Hp->(Hp->Prop)->Prop
noncomputable def yrO (X:Cx)(t:ypb):Prop :=
 ∀ (pins:List (Addr×Obj)) (s:Shared) (σ:St) (H:Hp) (o i v:V) (ov iv u:Value) (Q:Hp->Prop),Inv X pins σ H s->RelV o ov->RelV i iv->RelV v u->t o i v H Q ->
  wpAny (model X.prog X.w) X.A (setItem ov iv u) (λ_ s'=>∃ H',Inv X pins σ H' s'/\Q H') X.xe s
noncomputable abbrev TIp:=V->V->Hp->VK->Prop
noncomputable def PIp (X:Cx)(op:Operator)(t:TIp):Prop :=
 ∀ (pins:List (Addr×Obj)) (s:Shared) (σ:St) (H:Hp) (x y:V) (v u:Value) (Q:VK),Inv X pins σ H s->RelV x v->RelV y u->t x y H Q ->
  wpAny (model X.prog X.w) X.A (inplaceOp op v u) (EP X pins σ Q) X.xe s
section
variable {X:Cx} {pos:Pos}
noncomputable def ybm (i:Nat):TG:=λv σ H Q=>Q (σ.set i (some v)) H
theorem yaq {i:Nat}{x:Str}(hN:X.N.Nodup)(hi:X.N[i]?=some x)(hx:Loc X.env.scope x)(hf:X.fn x=true∨X.env.scope.names.lookup x=some .local:=by first | exact .inl rfl | exact .inr rfl | assumption):PG X (.Name x pos) (ybm i):=by
 intro pins s σ H v u Q I r h
 exact wpAny_assign_Name (yce I hN hi hx r (λs' I'=>⟨_,H,I',h⟩) hf)
noncomputable def yke:TGs:=λvs σ H Q=>vs=[]/\Q σ H
noncomputable def yb8 (t:TG)(u:TGs):TGs:=λvs σ H Q=>∃ v r,vs=v :: r/\t v σ H fun σ' H'=>u r σ' H' Q
theorem ycb:PGs X [] yke:=by
 intro pins s σ H vs us Q I r h
 obtain⟨e,h⟩:=h
 subst e
 cases r
 exact assignInOrder_nil ⟨σ,H,I,h⟩
theorem yaZ {e:Expr}{es:List Expr}{t:TG}{u:TGs}(h1:PG X e t)(h2:PGs X es u)
  (hs:(assignEach (e :: es) X.env).map (·.2)=assign e X.env :: (assignEach es X.env).map (·.2):=by rfl):PGs X (e :: es) (yb8 t u):=by
 intro pins s σ H vs us Q I r h
 obtain⟨v,vr,e1,h⟩:=h
 subst e1
 cases r with
 | cons r rr =>
  rw[hs]
  refine assignInOrder_cons (thn (h1 pins s σ H _ _ _ I r h) λ_ s1 ⟨σ1,H1,I1,q1⟩=>?_)
  exact h2 pins s1 σ1 H1 _ _ Q I1 rr q1
noncomputable def ykc (K:PySem.W.Frag)(n:Nat)(t:TGs):TG:=λv σ H Q=>∃ a xs,v=.ref a/\SqT K H a xs/\xs.length=n/\t xs σ H Q
theorem yc0 {es:List Expr}{k:Nat}{t:TGs}{n:Nat}(hc:X.calm=true)(h:PGs X es t)
  (hn:(assignEach es X.env).length=n:=by rfl) (hst:(assignEach es X.env).findIdx? (·.1)=none:=by rfl):PG X (.Tuple es k pos) (ykc X.K n t):=by
 intro pins s σ H v u Q I r hw
 obtain⟨a,xs,e1,hq,hl,hw⟩:=hw
 subst e1
 cases r
 obtain⟨its,rv,ht,hz⟩:=I.tuple hq
 refine assign_Tuple_tuple (I.ok.hd hc) ht (by simp[hn,← hl,rv.length]) hst λh' hx=>?_
 have I1:Inv X pins σ H { s with heap:=h' }:=I.kept (t':=s.toks) λb o e=>hx b o (Nat.ne_of_lt (Heap.lt_size e)) e
 exact h pins _ σ H xs _ Q I1 (by simpa using rv) hw
noncomputable def yqY (to ti:TE)(t:ypb):TG:=λv σ H Q=>to σ H λo H1=>ti σ H1 λi H2=>t o i v H2 λH3=>Q σ H3
theorem ylN {o i:Expr}{to ti:TE}{t:ypb}(ho:PE X o to)(hi:PE X i ti)(hs:yrO X t)
  (ha:∀ v,assign (.Subscript o i pos) X.env v=(do
   let ov ← holding [v] (eval o X.env)
   let iv ← holding [v,ov] (eval i X.env)
   standAt pos
   holding [v,ov,iv] (setItem ov iv v)
   release [v,ov,iv] []):=by intro _;rfl):PG X (.Subscript o i pos) (yqY to ti t):=by
 intro pins s σ H v u Q I r h
 rw[ha]
 refine wpAny_bind (wpAny_holding (thn (ho pins s σ H _ I h) λov s1 ⟨x,H1,I1,r1,q1⟩=>?_))
 refine wpAny_bind (wpAny_holding (thn (hi pins s1 σ H1 _ I1 q1) λiv s2 ⟨y,H2,I2,r2,q2⟩=>?_))
 refine wpAny_bind (wpAny_standAt (wpAny_bind (wpAny_holding (thn (hs pins s2 σ H2 x y v ov iv u _ I2 r1 r2 r q2) λ_ s3 ⟨H3,I3,q3⟩=>?_))))
 exact wpAny_release ⟨σ,H3,I3,q3⟩
noncomputable def ynd (te:TE)(g:TG):TS:=λD σ H=>te σ H λx H1=>g x σ H1 D.nx
theorem ylu {tg e:Expr}{te:TE}{g:TG}(he:PE X e te)(hg:PG X tg g)(hs:swapsWithSole [tg] e pos.line X.env=pure false:=by rfl)(hw:swappedStores [tg] e X.env=pure none:=by rfl)
  (h1:(assignEach [tg] X.env).map (·.2)=[assign tg X.env]:=by rfl):PS X (.Assign [tg] e pos) (ynd te g):=by
 intro pins s σ H D I h
 refine wpAny_Assign_stores (thn (he pins s σ H _ I h) λv s1 ⟨x,H1,I1,r1,q1⟩=>?_) hs hw
 rw[h1]
 exact thn (hg pins s1 σ H1 x v _ I1 r1 q1) λ_ s2 q=>q
theorem yar {i:Nat}{x:Str}{e:Expr}{te:TE}{pos':Pos}(hN:X.N.Nodup)(hi:X.N[i]?=some x)(hx:Loc X.env.scope x)(he:PE X e te)(hs:swapsWith e (some (.Name x pos')) pos.line X.env=pure false:=by rfl)(hf:X.fn x=true∨X.env.scope.names.lookup x=some .local:=by first | exact .inl rfl | exact .inr rfl | assumption) :
  PS X (.Assign [.Name x pos'] e pos) (ynd te (ybm i)):=by
 intro pins s σ H D I h
 refine wpAny_Assign_Name (thn (he pins s σ H _ I h) λv s1 ⟨y,H1,I1,r1,q1⟩=>?_) hs
 exact yce I1 hN hi hx r1 (λs2 I2=>⟨_,H1,I2,q1⟩) hf
noncomputable def yrt (i:Nat)(te:TE)(ti:TIp):TS:=λD σ H=>∃ x,σ[i]?=some (some x)/\te σ H λy H1=>ti x y H1 λz H2=>D.nx (σ.set i (some z)) H2
theorem ylw {i:Nat}{x:Str}{e:Expr}{te:TE}{op:Operator}{ti:TIp}{pos':Pos}(hN:X.N.Nodup)(hi:X.N[i]?=some x)(hx:Loc X.env.scope x)(he:PE X e te)(ho:PIp X op ti)(hf:X.fn x=true∨X.env.scope.names.lookup x=some .local:=by first | exact .inl rfl | exact .inr rfl | assumption) :
  PS X (.AugAssign (.Name x pos') op e pos) (yrt i te ti):=by
 intro pins s σ H D I h
 obtain⟨v,e1,h⟩:=h
 obtain⟨m,hn,hl⟩:=I.loc
 have vis:Vis X.env.scope x:=by rcases hx with k | k;exact .inl k;exact .inr (.inl k)
 obtain⟨u,r,l⟩:=hl i x v hi e1 vis
 refine wpAny_AugAssign_Name ?_
 have go:wpAny (model X.prog X.w) X.A (eval e X.env) (λw s₂=>wpAny (model X.prog X.w) X.A (inplaceOp op u w) (λr s₃=>wpAny (model X.prog X.w) X.A (storeName X.env x r) (λ_=>SP X pins D .next) X.xe s₃) X.xe s₂) X.xe s:=by
  refine thn (he pins s σ H _ I h) λw s1 ⟨y,H1,I1,r1,q1⟩=>?_
  refine thn (ho pins s1 σ H1 v y u w _ I1 r r1 q1) λz s2 ⟨zv,H2,I2,r2,q2⟩=>?_
  exact yce I2 hN hi hx r2 (λs3 I3=>⟨_,H2,I3,q2⟩) hf
 rcases l with ⟨hk,hm⟩ | ⟨hk,c,hc,hcell⟩
 ·exact wpAny_loadName_local I.ok.kind hk hn hm go
 ·rcases hk with hk | hk
  ·exact wpAny_loadName_cell I.ok.kind hk hc hcell go
  ·rcases hx with k | k
   ·have:X.env.scope.names.lookup x=some .free:=hk
    rw[k] at this;cases this
   ·have:X.env.scope.names.lookup x=some .free:=hk
    rw[k] at this;cases this
noncomputable def ipI (f:Int->Int->Int):TIp:=λx y H Q=>∃ i j,x=.int i/\y=.int j/\Q (.int (f i j)) H
theorem ylT:PIp X .Add (ipI λi j=>i+j):=by
 intro pins s σ H x y v u Q I r1 r2 h
 obtain⟨i,j,e1,e2,q⟩:=h
 subst e1;subst e2
 obtain⟨t,rfl⟩:=r1
 obtain⟨t',rfl⟩:=r2
 exact iadd_int ⟨.int _,H,I.tok _,⟨_,rfl⟩,q⟩
noncomputable def yjs (c:TT)(tb:TS):TS:=λD σ H=>∃ W:Nat->St->Hp->Prop,(∃ m,W m σ H)/\∀ m σ H,W m σ H ->
 c σ H λb H1=>if b=true then ∃ N:St->Hp->Prop,(∀ σ' H',N σ' H'->∃ m',m' < m/\W m' σ' H')/\tb { D with nx:=N,ct:=N,bk:=D.nx } σ H1 else D.nx σ H1
theorem ydC {c:Expr}{body:List Stmt}{tc:TT}{tb:TS}(hp:PassesOwn (model X.prog X.w) X.A X.env X.xe)(hc:PT X c tc)(hb:PSs X body tb):PS X (.While c body [] pos) (yjs tc tb):=by
 intro pins s σ H D I h
 obtain⟨W,⟨m0,w0⟩,turn⟩:=h
 refine wpAny_While (codeAny_whileLoop (λn s'=>∃ σ' H',Inv X pins σ' H' s'/\W n σ' H') ?_ m0 ⟨σ,H,I,w0⟩)
 rintro n s1 ⟨σ1,H1,I1,w1⟩
 refine wpAny_passesOwn hp (thn (hc pins s1 σ1 H1 _ I1 (turn n σ1 H1 w1)) λb s2 ⟨H2,I2,q2⟩=>?_)
 cases b with
 | true =>
  obtain⟨N,hN,q2⟩:=q2
  rw[if_pos rfl]
  refine wpAny_passesOwn hp (thn (hb pins s2 σ1 H2 _ I2 q2) λf s3 q3=>?_)
  cases f with
  | next =>
   obtain⟨σ3,H3,I3,n3⟩:=q3
   obtain⟨m',hm,w3⟩:=hN σ3 H3 n3
   exact⟨m',hm,σ3,H3,I3,w3⟩
  | cont =>
   obtain⟨σ3,H3,I3,n3⟩:=q3
   obtain⟨m',hm,w3⟩:=hN σ3 H3 n3
   exact⟨m',hm,σ3,H3,I3,w3⟩
  | brk=>exact q3
  | ret v=>exact q3
 | false =>
  rw[if_neg Bool.false_ne_true]
  exact wpAny_execs_nil ⟨σ1,H2,I2,q2⟩
end
structure It where
 go:Nat->Hp->Prop
 yld:Nat->Hp->V->Hp->Prop
 stop:Nat->Hp->Prop
noncomputable def yft (X:Cx)(pins:List (Addr×Obj))(H:Hp)(b:Addr):Prop :=
 H b=none/\b≠X.env.locals/\b∉X.fs/\(b∈X.ex∨X.s₀.heap.objs.size<=b)/\(∀ x c,X.env.cells.lookup x=some c->c≠b)/\∀ p∈X.pn++pins,p.1≠b
theorem Inv.fpOk {X:Cx}{pins:List (Addr×Obj)}{σ:St}{H H':Hp}{s:Shared}{b:Addr}(I:Inv X pins σ H s)(hb:s.heap.objs.size<=b)(hn:H' b=none):yft X pins H' b:=by
 refine⟨hn,Nat.ne_of_gt (Nat.lt_of_lt_of_le I.lt hb),I.nofs hb,.inr (Nat.le_trans I.sz hb),λx c e z=>?_,λp hp z=>?_⟩
 ·obtain⟨v,q⟩:=I.cell x c e
  exact absurd (Nat.lt_of_lt_of_le q.lt (by rw[z];exact hb)) (Nat.lt_irrefl _)
 ·exact absurd (Nat.lt_of_lt_of_le (Heap.lt_size (I.pin p hp).1) (by rw[z];exact hb)) (Nat.lt_irrefl _)
structure yjZ (P:Program) (w:World) (K:PySem.W.Frag) (tg:Expr) (J:It) (fp:List Addr) (it:Addr) (tn:Nat->Heap->Prop):Prop where
 mem:it∈fp
 obj:∀ i h,tn i h->∀ b∈fp,∃ o,h.get? b=some o/\∀ v,o.data≠.cell v
 keep:∀ i h h',tn i h->(∀ b∈fp,∀ o,h.get? b=some o->h'.get? b=some o)->tn i h'
 item:∀ (X:Cx),X.prog=P->X.w=w->X.K=K->X.calm=true->∀ (i:Nat) (pins:List (Addr×Obj)) (s:Shared) (σ:St) (H:Hp) (E:Value->Shared->Prop),Inv X pins σ H s->(∀ b∈fp,yft X pins H b)->tn i s.heap->J.go i H ->
  wpAny (model P w) X.A (pyNext (.ref it)) (λr s1=>∃ u,r=some u /\
   wpAny (model P w) X.A (letOwnedTupleGo tg (.ref it) u) (λ_ s2=>∃ x H',Inv X pins σ H' s2/\RelV x u/\J.yld i H x H'/\tn (i+1) s2.heap/\∀ b∈fp,H' b=none) E s1) E s
 done:∀ (X:Cx),X.prog=P->X.w=w->X.K=K->X.calm=true->∀ (i:Nat) (pins:List (Addr×Obj)) (s:Shared) (σ:St) (H:Hp) (E:Value->Shared->Prop),Inv X pins σ H s->(∀ b∈fp,yft X pins H b)->tn i s.heap->J.stop i H ->
  wpAny (model P w) X.A (pyNext (.ref it)) (λr s1=>r=none/\Inv X pins σ H s1) E s
 self:∀ (A:Around) (i:Nat) (s:Shared) (Q:Value->Shared->Prop) (E:Value->Shared->Prop),tn i s.heap->Q (.ref it) s->wpAny (model P w) A (pyIter (.ref it)) Q E s
noncomputable abbrev TI:=St->Hp->(It->Hp->Prop)->Prop
noncomputable def PIE (X:Cx)(pins:List (Addr×Obj))(σ:St)(tg:Expr)(R:It->Hp->Prop)(itv:Value)(s2:Shared):Prop :=
 ∃ (it:Addr) (fp:List Addr) (tn:Nat->Heap->Prop) (J:It) (H':Hp),itv=.ref it/\Inv X pins σ H' s2/\yjZ X.prog X.w X.K tg J fp it tn/\tn 0 s2.heap/\(∀ b∈fp,yft X pins H' b)/\R J H'
noncomputable def PI (X:Cx)(tg iter:Expr)(wi:TI):Prop :=
 ∀ (pins:List (Addr×Obj)) (s:Shared) (σ:St) (H:Hp) (R:It->Hp->Prop),Inv X pins σ H s->wi σ H R ->
  wpAny (model X.prog X.w) X.A (eval iter X.env) (λv s1=>wpAny (model X.prog X.w) X.A (pyIter v) (PIE X pins σ tg R) X.xe s1) X.xe s
theorem ykI {M:Model}{A:Around}{E:Value->Shared->Prop}{s:Shared}{tg:Expr}{it:Addr}{u:Value}{o:Obj}{n:String}{vs:Array Value}{Q:Unit->Shared->Prop}(ho:s.heap.get? it=some o)(hc:o.cls=.type n)(hd:o.data=.fields vs)
  (hn:["enumerate","zip","dict_itemiterator","dict_reverseitemiterator","odict_iterator","itertools.zip_longest","itertools.pairwise"].contains n=false) (hQ:Q () s):wpAny M A (letOwnedTupleGo tg (.ref it) u) Q E s:=by
 unfold letOwnedTupleGo
 cases tg<;>first
  | exact wpAny_pure hQ
  | (cases u<;>first
    | exact wpAny_pure hQ
    | (refine wpAny_bind (wpAny_load ho ?_)
       rw[hc,hd]
       show wpAny M A (if (["enumerate","zip","dict_itemiterator","dict_reverseitemiterator","odict_iterator","itertools.zip_longest","itertools.pairwise"].contains n&&vs[0]?==some (rawInt _))=true then _ else _) Q E s
       rw[if_neg (by intro h;rw[hn,Bool.false_and] at h;cases h)]
       exact wpAny_pure hQ))
noncomputable def Itl (K:PySem.W.Frag)(a:Addr):It :=
 ⟨λi H=>∃ xs x,SqL K H a xs/\xs[i]?=some x,λi H x H'=>H'=H/\∀ xs,SqL K H a xs->xs[i]?=some x,λi H=>∃ xs,SqL K H a xs/\xs.length<=i⟩
noncomputable def Itt (K:PySem.W.Frag)(a:Addr):It :=
 ⟨λi H=>∃ xs x,SqT K H a xs/\xs[i]?=some x,λi H x H'=>H'=H/\∀ xs,SqT K H a xs->xs[i]?=some x,λi H=>∃ xs,SqT K H a xs/\xs.length<=i⟩
noncomputable def Itr (lo:Int)(n:Nat):It:=⟨λi _=>i < n,λi H x H'=>H'=H/\x=.int (lo+i),λi _=>n<=i⟩
theorem yjE {P:Program}{w:World}{K:PySem.W.Frag}{tg:Expr}(a it:Addr):yjZ P w K tg (Itl K a) [it] it (λi h=>h.IsListIter it a i) where
 mem:=by simp
 obj:=λi h st b hb=>by
  have e:b=it:=by simpa using hb
  subst e
  obtain⟨o,e,c,d⟩:=st
  exact⟨o,e,λv z=>by rw[d] at z;cases z⟩
 keep:=λi h h' st k=>st.at λo e=>k it (by simp) o e
 item:=by
  intro X hP hw hK hc i pins s σ H E I hf st hg
  subst hP hw hK
  obtain⟨xs,x,hq,hx⟩:=hg
  obtain⟨its,rv,p,hz⟩:=I.list hq
  obtain⟨u,hu,ru⟩:=rv.get hx
  obtain⟨f0,f1,f2,f3,f4,f5⟩:=hf it (by simp)
  refine wpAny_pyNext_list_item st p.isList (x:=u) (by simpa using hu) λh' st' sb=>?_
  have I1:Inv X pins σ H { s with heap:=h' }:=I.turned (t':=s.toks) (λb o hb e=>(sb.2 b hb).trans e) f0 f1 f3 f4 f5
  obtain⟨o,e,c,d⟩:=id st'
  exact⟨u,rfl,ykI (s:={ s with heap:=h' }) e c d (by decide) ⟨x,H,I1,ru,⟨rfl,λys hy=>by rw[I.list_inj hy hq];exact hx⟩,st',λb hb=>(hf b hb).1⟩⟩
 done:=by
  intro X hP hw hK hc i pins s σ H E I hf st hg
  subst hP hw hK
  obtain⟨xs,hq,hx⟩:=hg
  obtain⟨its,rv,p,hz⟩:=I.list hq
  obtain⟨f0,f1,f2,f3,f4,f5⟩:=hf it (by simp)
  have hl:=rv.length
  exact wpAny_pyNext_list_end (I.ok.hd hc) st p.isList (by simp;omega) λh' eb=>⟨rfl,I.turned (t':=s.toks) (λb o hb e=>eb b o hb e) f0 f1 f3 f4 f5⟩
 self:=λ_ _ _ _ _ st h=>wpAny_pyIter_listiter st h
theorem yhY {P:Program}{w:World}{K:PySem.W.Frag}{tg:Expr}(a it:Addr):yjZ P w K tg (Itt K a) [it] it (λi h=>h.IsTupleIter it a i) where
 mem:=by simp
 obj:=λi h st b hb=>by
  have e:b=it:=by simpa using hb
  subst e
  obtain⟨o,e,c,d⟩:=st
  exact⟨o,e,λv z=>by rw[d] at z;cases z⟩
 keep:=λi h h' st k=>st.at λo e=>k it (by simp) o e
 item:=by
  intro X hP hw hK hc i pins s σ H E I hf st hg
  subst hP hw hK
  obtain⟨xs,x,hq,hx⟩:=hg
  obtain⟨its,rv,p,hz⟩:=I.tuple hq
  obtain⟨u,hu,ru⟩:=rv.get hx
  obtain⟨f0,f1,f2,f3,f4,f5⟩:=hf it (by simp)
  refine wpAny_pyNext_tuple_item st (show s.heap.IsTuple a its.toArray from p) (x:=u) (by simpa using hu) λh' st' sb=>?_
  have I1:Inv X pins σ H { s with heap:=h' }:=I.turned (t':=s.toks) (λb o hb e=>(sb.2 b hb).trans e) f0 f1 f3 f4 f5
  obtain⟨o,e,c,d⟩:=id st'
  exact⟨u,rfl,ykI (s:={ s with heap:=h' }) e c d (by decide) ⟨x,H,I1,ru,⟨rfl,λys hy=>by rw[I.tuple_inj hy hq];exact hx⟩,st',λb hb=>(hf b hb).1⟩⟩
 done:=by
  intro X hP hw hK hc i pins s σ H E I hf st hg
  subst hP hw hK
  obtain⟨xs,hq,hx⟩:=hg
  obtain⟨its,rv,p,hz⟩:=I.tuple hq
  obtain⟨f0,f1,f2,f3,f4,f5⟩:=hf it (by simp)
  have hl:=rv.length
  exact wpAny_pyNext_tuple_end (I.ok.hd hc) st (show s.heap.IsTuple a its.toArray from p) (by simp;omega) λh' eb=>⟨rfl,I.turned (t':=s.toks) (λb o hb e=>eb b o hb e) f0 f1 f3 f4 f5⟩
 self:=λ_ _ _ _ _ st h=>wpAny_pyIter_tupleiter st h
theorem yhU {P:Program}{w:World}{K:PySem.W.Frag}{tg:Expr}(it:Addr)(lo:Int)(n:Nat):yjZ P w K tg (Itr lo n) [it] it (λi h=>IsRangeIter h it (lo+(i:Nat)*1) ((n:Int) - (i:Nat)) 1) where
 mem:=by simp
 obj:=λi h st b hb=>by
  have e:b=it:=by simpa using hb
  subst e
  exact⟨_,st,λv z=>by
   have z':Data.fields _=Data.cell v:=z
   cases z'⟩
 keep:=λi h h' st k=>k it (by simp) _ st
 item:=by
  intro X hP hw hK hc i pins s σ H E I hf st hg
  subst hP hw hK
  obtain⟨f0,f1,f2,f3,f4,f5⟩:=hf it (by simp)
  have W:=Walks.range (prog:=X.prog) (w:=X.w) (I.ok.hd hc) it lo 1 n
  refine W.item i s _ _ hg st λv h' tk hv st' kk=>?_
  obtain⟨t,rfl⟩:=hv
  have I1:Inv X pins σ H { s with heap:=h',toks:=tk }:=I.turned (λb o hb e=>kk b o (by simpa using hb) e) f0 f1 f3 f4 f5
  refine⟨_,rfl,ykI (s:={ s with heap:=h',toks:=tk }) (n := "range_iterator") st' rfl rfl (by decide) ⟨.int (lo+i),H,I1,⟨t,?_⟩,⟨rfl,rfl⟩,st',λb hb=>(hf b hb).1⟩⟩
  rw[Int.mul_one]
 done:=by
  intro X hP hw hK hc i pins s σ H E I hf st hg
  subst hP hw hK
  obtain⟨f0,f1,f2,f3,f4,f5⟩:=hf it (by simp)
  exact wpAny_pyNext_range_end (I.ok.hd hc) st (by have:n<=i:=hg;omega) λh' eb=>⟨rfl,I.turned (t':=s.toks) (λb o hb e=>eb b o hb e) f0 f1 f3 f4 f5⟩
 self:=λ_ _ _ _ _ st h=>wpAny_pyIter_rangeiter st h
section
variable {X:Cx} {tg:Expr}
noncomputable def yli (K:PySem.W.Frag)(tl:TE):TI:=fun σ H R=>tl σ H λx H1=>∃ a,x=.ref a/\(∃ xs,SqL K H1 a xs)/\R (Itl K a) H1
noncomputable def yqi (K:PySem.W.Frag)(tl:TE):TI:=fun σ H R=>tl σ H λx H1=>∃ a,x=.ref a/\(∃ xs,SqT K H1 a xs)/\R (Itt K a) H1
theorem yaE {l:Expr}{tl:TE}(hl:PE X l tl):PI X tg l (yli X.K tl):=by
 intro pins s σ H R I h
 refine thn (hl pins s σ H _ I h) λv s1 ⟨x,H1,I1,r1,q1⟩=>?_
 obtain⟨a,e,⟨xs,hq⟩,q⟩:=q1
 subst e
 cases r1
 obtain⟨its,rv,p,hz⟩:=I1.list hq
 refine wpAny_pyIter_list p.isList ?_
 refine⟨s1.heap.objs.size,[s1.heap.objs.size],_,_,H1,rfl,I1.kept (t':=s1.toks) λb o e=>Heap.get?_push_of_some _ e,yjE a _,⟨_,Heap.get?_push_size _ rfl,rfl,rfl⟩,λb hb=>?_,q⟩
 have e:b=s1.heap.objs.size:=by simpa using hb
 subst e
 exact I1.fpOk (Nat.le_refl _) (I1.hok.fresh (Nat.le_refl _))
theorem ynZ {l:Expr}{tl:TE}(hl:PE X l tl):PI X tg l (yqi X.K tl):=by
 intro pins s σ H R I h
 refine thn (hl pins s σ H _ I h) λv s1 ⟨x,H1,I1,r1,q1⟩=>?_
 obtain⟨a,e,⟨xs,hq⟩,q⟩:=q1
 subst e
 cases r1
 obtain⟨its,rv,p,hz⟩:=I1.tuple hq
 refine wpAny_pyIter_tuple (show s1.heap.IsTuple a its.toArray from p) ?_
 refine⟨s1.heap.objs.size,[s1.heap.objs.size],_,_,H1,rfl,I1.kept (t':=s1.toks) λb o e=>Heap.get?_push_of_some _ e,yhY a _,⟨_,Heap.get?_push_size _ rfl,rfl,rfl⟩,λb hb=>?_,q⟩
 have e:b=s1.heap.objs.size:=by simpa using hb
 subst e
 exact I1.fpOk (Nat.le_refl _) (I1.hok.fresh (Nat.le_refl _))
theorem yhE {pins:List (Addr×Obj)}{σ:St}{H:Hp}{s:Shared}{R:It->Hp->Prop}{E:Value->Shared->Prop}{lo hi:Int}{t u v:Tok}{tk:Nat}(I:Inv X pins σ H s)(h1:-(2 ^ 62)<=lo)(h2:lo < 2 ^ 62)(h3:-(2 ^ 62)<=hi)(h4:hi < 2 ^ 62)
  (q:R (Itr lo (hi - lo).toNat) H):wpAny (model X.prog X.w) X.A (pyIter (.ref s.heap.objs.size)) (PIE X pins σ tg R) E { s with heap:=s.heap.push { cls:=.type "range",data:=.fields #[.int lo t,.int hi u,.int 1 v] },toks:=tk }:=by
 refine wpAny_pyIter_range (IsRange.new ..) (small_one h1 h2 h3 h4) ?_
 have I1:Inv X pins σ H { s with heap:=s.heap.push { cls:=.type "range",data:=.fields #[.int lo t,.int hi u,.int 1 v] },toks:=tk }:=I.kept λb o e=>Heap.get?_push_of_some _ e
 refine⟨(s.heap.push { cls:=.type "range",data:=.fields #[.int lo t,.int hi u,.int 1 v] }).objs.size,[(s.heap.push { cls:=.type "range",data:=.fields #[.int lo t,.int hi u,.int 1 v] }).objs.size],_,_,H,rfl,
  I1.kept (t':=tk) λb o e=>Heap.get?_push_of_some _ e,yhU _ lo (hi - lo).toNat,?_,λb hb=>?_,q⟩
 ·have e1:lo+((0:Nat):Int)*1=lo:=by simp
  have e2:(((hi - lo).toNat:Nat):Int) - ((0:Nat):Int)=Builtin.Range.rangeSize lo hi 1:=by rw[rangeSize_one];split<;>omega
  show IsRangeIter _ _ (lo+((0:Nat):Int)*1) ((((hi - lo).toNat:Nat):Int) - ((0:Nat):Int)) 1
  rw[e1,e2]
  exact Heap.get?_push_size _ rfl
 ·have e:b=(s.heap.push { cls:=.type "range",data:=.fields #[.int lo t,.int hi u,.int 1 v] }).objs.size:=by simpa using hb
  subst e
  exact I1.fpOk (Nat.le_refl _) (I1.hok.fresh (Nat.le_refl _))
noncomputable def ykk (ta:TA):TI:=fun σ H R=>ta σ H λvs H1=>∃ j:Int,vs=[.int j]/\-(2 ^ 62)<=j/\j < 2 ^ 62/\R (Itr 0 j.toNat) H1
noncomputable def ykL (ta:TA):TI:=fun σ H R=>ta σ H λvs H1=>∃ i j:Int,vs=[.int i,.int j]/\(-(2 ^ 62)<=i/\i < 2 ^ 62/\-(2 ^ 62)<=j/\j < 2 ^ 62)/\R (Itr i (j - i).toNat) H1
theorem ydO {a:Expr}{ta:TA}{p pos:Pos}(hg:Gl X "range")(hm:X.mg "range"=none)(ha:PA X [a] ta)(hs:starEach [a] X.env=[(false,eval a X.env)]:=by rfl):PI X tg (.Call (.Name "range" p) [a] [] pos) (ykk ta):=by
 intro pins s σ H R I h
 refine Call_ (ycG I hg hm boot_range (PyProof.Rows.callWith_type1 (thn (ha pos pins s σ H _ I h) λus s1 ⟨vs,H1,I1,r1,q1⟩=>?_) hs rfl))
 obtain⟨j,e,q1,q2,q⟩:=q1
 subst e
 cases r1 with
 | cons r rr =>
  cases rr
  obtain⟨t,rfl⟩:=r
  exact call_range_1 (yhE I1 (by omega) (by omega) q1 q2 (by simpa using q))
theorem ygm {a b:Expr}{ta:TA}{p pos:Pos}(hg:Gl X "range")(hm:X.mg "range"=none)(ha:PA X [a,b] ta)(hs:starEach [a,b] X.env=[(false,eval a X.env),(false,eval b X.env)]:=by rfl)(hs2:starEach [b] X.env=[(false,eval b X.env)]:=by rfl) :
  PI X tg (.Call (.Name "range" p) [a,b] [] pos) (ykL ta):=by
 intro pins s σ H R I h
 refine Call_ (ycG I hg hm boot_range (PyProof.Rows.callWith_type1 (thn (ha pos pins s σ H _ I h) λus s1 ⟨vs,H1,I1,r1,q1⟩=>?_) (by rw[hs,hs2]) (by rw[hs2];rfl)))
 obtain⟨i,j,e,⟨q1,q2,q3,q4⟩,q⟩:=q1
 subst e
 cases r1 with
 | cons r rr =>
  cases rr with
  | cons r' rr =>
   cases rr
   obtain⟨t,rfl⟩:=r
   obtain⟨t',rfl⟩:=r'
   exact call_range_2 (yhE I1 q1 q2 q3 q4 q)
noncomputable def ykV (wi:TI)(g:TG)(tb:TS):TS:=λD σ H=>wi σ H λJ H1=>∃ W:Nat->Nat->St->Hp->Prop,(∃ m,W 0 m σ H1)/\∀ i m σ H,W i m σ H ->
 (J.stop i H/\D.nx σ H)∨(J.go i H/\∃ N:St->Hp->Prop,(∀ σ' H',N σ' H'->∃ m',m' < m/\W (i+1) m' σ' H')/\∀ x H',J.yld i H x H'->g x σ H' fun σ2 H2=>tb { D with nx:=N,ct:=N,bk:=D.nx } σ2 H2)
noncomputable def yf8 (fp:List Addr)(h:Heap):List (Addr×Obj):=fp.filterMap λb=>(h.get? b).map λo=>(b,o)
theorem yb3 {fp:List Addr}{h:Heap}{b:Addr}{o:Obj}(hb:b∈fp)(e:h.get? b=some o):(b,o)∈yf8 fp h:=List.mem_filterMap.mpr ⟨b,hb,by rw[e];rfl⟩
theorem yiO {fp:List Addr}{h:Heap}{p:Addr×Obj}(hp:p∈yf8 fp h):p.1∈fp/\h.get? p.1=some p.2:=by
 obtain⟨b,hb,e⟩:=List.mem_filterMap.mp hp
 cases q:h.get? b with
 | none=>rw[q] at e;cases e
 | some o =>
  rw[q] at e
  have e':(b,o)=p:=Option.some.inj e
  subst e'
  exact⟨hb,q⟩
theorem Inv.pinned {pins:List (Addr×Obj)}{σ:St}{H:Hp}{s:Shared}{fp:List Addr}(I:Inv X pins σ H s)(hf:∀ b∈fp,yft X pins H b)(ho:∀ b∈fp,∃ o,s.heap.get? b=some o/\∀ v,o.data≠.cell v):Inv X (pins++yf8 fp s.heap) σ H s :=
 I.pins_of λp hp=>(List.mem_append.mp hp).elim (λz=>I.pin p (List.mem_append_right _ z)) λz=>by
  obtain⟨hb,e⟩:=yiO z
  obtain⟨f0,f1,f2,_⟩:=hf p.1 hb
  obtain⟨o,e',d⟩:=ho p.1 hb
  rw[e] at e';cases e'
  exact⟨e,f0,f1,f2,d⟩
theorem Inv.unpinned {pins pl:List (Addr×Obj)}{σ:St}{H:Hp}{s:Shared}(I:Inv X (pins++pl) σ H s):Inv X pins σ H s:=I.pins_of λp hp=>I.pin p (List.mem_append_right _ (List.mem_append_left _ hp))
theorem ybs {iter:Expr}{body:List Stmt}{wi:TI}{g:TG}{tb:TS}{pos:Pos}(hp:PassesOwn (model X.prog X.w) X.A X.env X.xe)(hc:X.calm=true)(hi:PI X tg iter wi)(hg:PG X tg g)(hb:PSs X body tb)
  (hs:∀ x,foldedSetIterable iter X.env x=pure x:=by intro _;rfl):PS X (.For tg iter body [] pos) (ykV wi g tb):=by
 intro pins s σ H D I h
 refine wpAny_For (thn (hi pins s σ H _ I h) λv s1 h1=>thn h1 λitv s2 h2=>?_) hs
 obtain⟨it,fp,tn,J,H2,e,I2,T,st2,f2,W,⟨m0,w0⟩,turn⟩:=h2
 subst e
 have stat:∀ {H':Hp},(∀ b∈fp,H' b=none)->∀ b∈fp,yft X pins H' b:=λhn b hb=>⟨hn b hb,(f2 b hb).2⟩
 refine codeAny_forLoop_any (λn s'=>∃ i σ' H',Inv X pins σ' H' s'/\tn i s'.heap/\(∀ b∈fp,H' b=none)/\W i n σ' H') ?_ m0 ⟨0,σ,H2,I2,st2,λb hb=>(f2 b hb).1,w0⟩
 rintro n s3 ⟨i,σ3,H3,I3,st3,fr3,w3⟩
 rcases turn i n σ3 H3 w3 with ⟨stop,qn⟩ | ⟨go,N,hN,step⟩
 ·refine wpAny_passesOwn hp (thn (T.done X rfl rfl rfl hc i pins s3 σ3 H3 X.xe I3 (stat fr3) st3 stop) λr s4 ⟨hr,I4⟩=>?_)
  subst hr
  exact wpAny_execs_nil ⟨σ3,H3,I4,qn⟩
 ·refine wpAny_passesOwn hp (thn (T.item X rfl rfl rfl hc i pins s3 σ3 H3 X.xe I3 (stat fr3) st3 go) λr s4 ⟨u,hr,h4⟩=>?_)
  subst hr
  refine wpAny_passesOwn hp (thn h4 λ_ s5 ⟨x,H5,I5,r5,y5,st5,fr5⟩=>?_)
  have I5':=I5.pinned (stat fr5) (T.obj _ _ st5)
  refine wpAny_passesOwn hp (thn (hg _ s5 σ3 H5 x u _ I5' r5 (step x H5 y5)) λ_ s6 ⟨σ6,H6,I6,q6⟩=>?_)
  refine wpAny_passesOwn hp (thn (hb _ s6 σ6 H6 _ I6 q6) λf s7 q7=>?_)
  have again:∀ {σ7:St} {H7:Hp},Inv X (pins++yf8 fp s5.heap) σ7 H7 s7->N σ7 H7->∃ m,m < n/\∃ i σ' H',Inv X pins σ' H' s7/\tn i s7.heap/\(∀ b∈fp,H' b=none)/\W i m σ' H':=λ{σ7 H7} I7 n7=>by
   obtain⟨m',hm,w7⟩:=hN σ7 H7 n7
   refine⟨m',hm,i+1,σ7,H7,I7.unpinned,T.keep _ _ _ st5 λb hb o e=>(I7.pin (b,o) (List.mem_append_right _ (List.mem_append_right _ (yb3 hb e)))).1,λb hb=>?_,w7⟩
   obtain⟨o,e,d⟩:=T.obj _ _ st5 b hb
   exact(I7.pin (b,o) (List.mem_append_right _ (List.mem_append_right _ (yb3 hb e)))).2.1
  cases f with
  | next=>obtain⟨σ7,H7,I7,n7⟩:=q7;exact again I7 n7
  | cont=>obtain⟨σ7,H7,I7,n7⟩:=q7;exact again I7 n7
  | brk=>obtain⟨σ7,H7,I7,q7⟩:=q7;exact⟨σ7,H7,I7.unpinned,q7⟩
  | ret v=>obtain⟨x7,σ7,H7,I7,r7,q7⟩:=q7;exact⟨x7,σ7,H7,I7.unpinned,r7,q7⟩
end
theorem yg3 {K:PySem.W.Frag}{a:Addr}{xs:List V}{g:TG}{tb:TS}{D:ydh}{σ:St}{H:Hp}(Pv:Nat->St->Hp->Prop)(h0:Pv 0 σ H)(hl:∀ i σ H,i<=xs.length->Pv i σ H->SqL K H a xs)
  (hs:∀ i x σ H,xs[i]?=some x->Pv i σ H->g x σ H fun σ2 H2=>tb { D with nx:=Pv (i+1),ct:=Pv (i+1),bk:=D.nx } σ2 H2) (hd:∀ σ H,Pv xs.length σ H->D.nx σ H) :
  ∃ W:Nat->Nat->St->Hp->Prop,(∃ m,W 0 m σ H)/\∀ i m σ H,W i m σ H ->
   ((Itl K a).stop i H/\D.nx σ H)∨((Itl K a).go i H/\∃ N:St->Hp->Prop,(∀ σ' H',N σ' H'->∃ m',m' < m/\W (i+1) m' σ' H')/\∀ x H',(Itl K a).yld i H x H'->g x σ H' fun σ2 H2=>tb { D with nx:=N,ct:=N,bk:=D.nx } σ2 H2):=by
 refine⟨λi m σ H=>m=xs.length - i/\i<=xs.length/\Pv i σ H,⟨xs.length,by simp,Nat.zero_le _,h0⟩,?_⟩
 rintro i m σ H ⟨rfl,hi,p⟩
 have q:=hl i σ H hi p
 by_cases hlt:i < xs.length
 ·refine .inr ⟨⟨xs,xs[i],q,by simp[hlt]⟩,Pv (i+1),fun σ' H' p'=>⟨xs.length - (i+1),by omega,rfl,hlt,p'⟩,λx H' y=>?_⟩
  obtain⟨e,y⟩:=y
  subst e
  exact hs i x σ _ (y xs q) p
 ·have e:i=xs.length:=by omega
  subst e
  exact .inl ⟨⟨xs,q,Nat.le_refl _⟩,hd σ H p⟩
theorem yjJ {lo:Int}{n:Nat}{g:TG}{tb:TS}{D:ydh}{σ:St}{H:Hp}(Pv:Nat->St->Hp->Prop)(h0:Pv 0 σ H)
  (hs:∀ i σ H,i < n->Pv i σ H->g (.int (lo+i)) σ H fun σ2 H2=>tb { D with nx:=Pv (i+1),ct:=Pv (i+1),bk:=D.nx } σ2 H2) (hd:∀ σ H,Pv n σ H->D.nx σ H) :
  ∃ W:Nat->Nat->St->Hp->Prop,(∃ m,W 0 m σ H)/\∀ i m σ H,W i m σ H ->
   ((Itr lo n).stop i H/\D.nx σ H)∨((Itr lo n).go i H/\∃ N:St->Hp->Prop,(∀ σ' H',N σ' H'->∃ m',m' < m/\W (i+1) m' σ' H')/\∀ x H',(Itr lo n).yld i H x H'->g x σ H' fun σ2 H2=>tb { D with nx:=N,ct:=N,bk:=D.nx } σ2 H2):=by
 refine⟨λi m σ H=>m=n - i/\i<=n/\Pv i σ H,⟨n,by simp,Nat.zero_le _,h0⟩,?_⟩
 rintro i m σ H ⟨rfl,hi,p⟩
 by_cases hlt:i < n
 ·refine .inr ⟨hlt,Pv (i+1),fun σ' H' p'=>⟨n - (i+1),by omega,rfl,hlt,p'⟩,λx H' y=>?_⟩
  obtain⟨e,y⟩:=y
  subst e y
  exact hs i σ _ hlt p
 ·have e:i=n:=by omega
  subst e
  exact .inl ⟨Nat.le_refl _,hd σ H p⟩
theorem yk1 {c:TT}{tb:TS}{D:ydh}{σ:St}{H:Hp}(Pv:St->Hp->Prop)(μ:St->Hp->Nat)(h0:Pv σ H)
  (hs:∀ σ H,Pv σ H->c σ H λb H1=>if b=true then tb { D with nx:=fun σ' H'=>Pv σ' H'/\μ σ' H' < μ σ H,ct:=fun σ' H'=>Pv σ' H'/\μ σ' H' < μ σ H,bk:=D.nx } σ H1 else D.nx σ H1)
  (mono:∀ σ H Q Q',(∀ b H1,Q b H1->Q' b H1)->c σ H Q->c σ H Q'):yjs c tb D σ H:=by
 refine⟨λm σ H=>m=μ σ H/\Pv σ H,⟨_,rfl,h0⟩,?_⟩
 rintro m σ H ⟨rfl,p⟩
 refine mono σ H _ _ (λb H1 q=>?_) (hs σ H p)
 cases b with
 | true=>exact⟨_,fun σ' H' ⟨p',l⟩=>⟨_,l,rfl,p'⟩,q⟩
 | false=>exact q
noncomputable abbrev R2:=V->V->Hp->VK->Prop
noncomputable def OpR (X:Cx)(f:Value->Value->Sem Value)(r:R2):Prop :=
 ∀ (pins:List (Addr×Obj)) (s:Shared) (σ:St) (H:Hp) (x y:V) (v u:Value) (Q:VK),Inv X pins σ H s->RelV x v->RelV y u->r x y H Q ->
  wpAny (model X.prog X.w) X.A (f v u) (EP X pins σ Q) X.xe s
noncomputable def UnR (X:Cx)(f:Value->Sem Value)(r:V->Hp->VK->Prop):Prop :=
 ∀ (pins:List (Addr×Obj)) (s:Shared) (σ:St) (H:Hp) (x:V) (v:Value) (Q:VK),Inv X pins σ H s->RelV x v->r x H Q ->
  wpAny (model X.prog X.w) X.A (f v) (EP X pins σ Q) X.xe s
noncomputable def yb5 (X:Cx)(f:Value)(r:List V->Hp->VK->Prop):Prop :=
 ∀ (pins:List (Addr×Obj)) (s:Shared) (σ:St) (H:Hp) (xs:List V) (us:List Value) (Q:VK),Inv X pins σ H s->Vals xs us->r xs H Q ->
  wpAny (model X.prog X.w) X.A (call f us) (EP X pins σ Q) X.xe s
noncomputable def tOp (r:R2)(ta tb:TE):TE:=fun σ H Q=>ta σ H λx H1=>tb σ H1 λy H2=>r x y H2 Q
noncomputable def tUn (r:V->Hp->VK->Prop)(ta:TE):TE:=fun σ H Q=>ta σ H λx H1=>r x H1 Q
noncomputable def rI (C:Int->Int->Prop)(g:Int->Int->V):R2:=λx y H Q=>∃ i j,x=.int i/\y=.int j/\C i j/\Q (g i j) H
noncomputable def rI0 (g:Int->Int->V):R2:=λx y H Q=>∃ i j,x=.int i/\y=.int j/\Q (g i j) H
noncomputable def rU (g:Int->V):V->Hp->VK->Prop:=λx H Q=>∃ i,x=.int i/\Q (g i) H
section
variable {X:Cx} {a b c:Expr} {ta tb tc:TE} {pos:Pos}
theorem yqk (ha:PE X a ta)(hb:PE X b tb){pins:List (Addr×Obj)}{s:Shared}{σ:St}{H:Hp}{R:V->V->Hp->Prop}(I:Inv X pins σ H s)
  (h:ta σ H λx H1=>tb σ H1 λy H2=>R x y H2) {Q:Value->Shared->Prop} {f:Value->Value->Sem Value}
  (hf:∀ v u s2 x y H2,Inv X pins σ H2 s2->RelV x v->RelV y u->R x y H2->wpAny (model X.prog X.w) X.A (f v u) Q X.xe s2) :
  wpAny (model X.prog X.w) X.A (eval a X.env) (λv s₁=>wpAny (model X.prog X.w) X.A (eval b X.env) (λu s₂=>wpAny (model X.prog X.w) X.A (f v u) Q X.xe s₂) X.xe s₁) X.xe s:=by
 refine thn (ha pins s σ H _ I h) λv s1 ⟨x,H1,I1,r1,q1⟩=>?_
 refine thn (hb pins s1 σ H1 _ I1 q1) λu s2 ⟨y,H2,I2,r2,q2⟩=>?_
 exact hf v u s2 x y H2 I2 r1 r2 q2
theorem yaF {op:Operator}{r:R2}(ho:OpR X (binaryOp op) r)(ha:PE X a ta)(hb:PE X b tb):PE X (.BinOp a op b pos) (tOp r ta tb):=by
 intro pins s σ H Q I h
 exact wpAny_BinOp (yqk ha hb I h λv u s2 x y H2 I2 rx ry q=>ho pins s2 σ H2 x y v u Q I2 rx ry q)
theorem ycM {op:UnaryOp}{r:V->Hp->VK->Prop}(ho:UnR X (unaryOp op) r)(ha:PE X a ta):PE X (.UnaryOp op a pos) (tUn r ta):=by
 intro pins s σ H Q I h
 exact UnaryOp_ (thn (ha pins s σ H _ I h) λv s1 ⟨x,H1,I1,r1,q1⟩=>ho pins s1 σ H1 x v Q I1 r1 q1)
theorem opI {f:Value->Value->Sem Value}{C:Int->Int->Prop}{g:Int->Int->Int}
  (rule:∀ (i j:Int) (t u:Tok) (s:Shared) (Q:Value->Shared->Prop) (E:Value->Shared->Prop),C i j->Q (.int (g i j) s.toks) { s with toks:=s.toks+1 }->wpAny (model X.prog X.w) X.A (f (.int i t) (.int j u)) Q E s) :
  OpR X f (rI C λi j=>.int (g i j)):=by
 intro pins s σ H x y v u Q I rx ry h
 obtain⟨i,j,rfl,rfl,hc,q⟩:=h
 obtain⟨t,rfl⟩:=rx
 obtain⟨t',rfl⟩:=ry
 exact rule i j t t' s _ _ hc ⟨.int (g i j),H,I.tok _,⟨_,rfl⟩,q⟩
theorem yrD {f:Value->Value->Sem Value}{g:Int->Int->Int}
  (rule:∀ (i j:Int) (t u:Tok) (s:Shared) (Q:Value->Shared->Prop) (E:Value->Shared->Prop),Q (.int (g i j) s.toks) { s with toks:=s.toks+1 }->wpAny (model X.prog X.w) X.A (f (.int i t) (.int j u)) Q E s) :
  OpR X f (rI0 λi j=>.int (g i j)):=by
 intro pins s σ H x y v u Q I rx ry h
 obtain⟨i,j,rfl,rfl,q⟩:=h
 obtain⟨t,rfl⟩:=rx
 obtain⟨t',rfl⟩:=ry
 exact rule i j t t' s _ _ ⟨.int (g i j),H,I.tok _,⟨_,rfl⟩,q⟩
theorem yrp {f:Value->Value->Sem Value}{g:Int->Int->Bool}
  (rule:∀ (i j:Int) (t u:Tok) (s:Shared) (Q:Value->Shared->Prop) (E:Value->Shared->Prop),Q (.bool (g i j)) s->wpAny (model X.prog X.w) X.A (f (.int i t) (.int j u)) Q E s) :
  OpR X f (rI0 λi j=>.bl (g i j)):=by
 intro pins s σ H x y v u Q I rx ry h
 obtain⟨i,j,rfl,rfl,q⟩:=h
 obtain⟨t,rfl⟩:=rx
 obtain⟨t',rfl⟩:=ry
 exact rule i j t t' s _ _ ⟨.bl (g i j),H,I,rfl,q⟩
noncomputable def yr2 (i j:Int):Prop:=0 < j/\j < 1073741824
noncomputable def CMul (i j:Int):Prop:=(-(2 ^ 64) < i/\i < 2 ^ 64)∨(-(2 ^ 64) < j/\j < 2 ^ 64)
theorem CMul.ok {i j:Int}(h:CMul i j):IntMulOk i j:=by
 rcases h with ⟨h1,h2⟩ | ⟨h1,h2⟩
 ·exact .of_left (intBits_le_64 h1 h2)
 ·exact .of_right (intBits_le_64 h1 h2)
theorem ya6:OpR X (binaryOp .Add) (rI0 λi j=>.int (i+j)):=yrD λ_ _ _ _ _ _ _ q=>add_int q
theorem yb2:OpR X (binaryOp .Sub) (rI0 λi j=>.int (i - j)):=yrD λ_ _ _ _ _ _ _ q=>sub_int q
theorem ycO:OpR X (binaryOp .FloorDiv) (rI yr2 λi j=>.int (i / j)):=opI λi j _ _ _ _ _ hc q=>by
 have h1:(0:Int) < j:=hc.1
 have h2:j < 1073741824:=hc.2
 exact floordiv_int (by omega) (by rw[Int.fdiv_eq_ediv_of_nonneg i (by omega)];exact q) (.inl (PyProof.noPylong_small (by omega)))
theorem yck:OpR X (binaryOp .Mod) (rI (λ_ j=>0 < j) λi j=>.int (i%j)):=opI λi j _ _ _ _ _ hc q=>by
 have h1:(0:Int) < j:=hc
 exact mod_int' (by omega) (by rw[Int.fmod_eq_emod_of_nonneg i (by omega)];exact q)
theorem unI {f:Value->Sem Value}{g:Int->Int}
  (rule:∀ (i:Int) (t:Tok) (s:Shared) (Q:Value->Shared->Prop) (E:Value->Shared->Prop),Q (.int (g i) s.toks) { s with toks:=s.toks+1 }->wpAny (model X.prog X.w) X.A (f (.int i t)) Q E s) :
  UnR X f (rU λi=>.int (g i)):=by
 intro pins s σ H x v Q I rx h
 obtain⟨i,rfl,q⟩:=h
 obtain⟨t,rfl⟩:=rx
 exact rule i t s _ _ ⟨.int (g i),H,I.tok _,⟨_,rfl⟩,q⟩
theorem ybR:UnR X (unaryOp .USub) (rU λi=>.int (-i)):=unI λ_ _ _ _ _ q=>neg_int q
end
noncomputable def ypD:V->V->Bool
 | .non,.non=>true | .non,.int _=>true | .int _,.non=>true | .non,.bl _=>true | .bl _,.non=>true | .non,.str _=>true | .str _,.non=>true
 | .int _,.int _=>true | .bl _,.bl _=>true | .str _,.str _=>true | .byt _,.byt _=>true
 | .int _,.str _=>true | .str _,.int _=>true | .bl _,.str _=>true | .str _,.bl _=>true
 | _,_=>false
noncomputable def rEq:R2:=λx y H Q=>ypD x y=true/\Q (.bl (decide (x=y))) H
noncomputable def rNe:R2:=λx y H Q=>ypD x y=true/\Q (.bl (!decide (x=y))) H
theorem yiE {i j:Int}:decide (V.int i=V.int j)=(i==j):=by
 rw[Bool.eq_iff_iff]
 simp
theorem ylr {i j:Bool}:decide (V.bl i=V.bl j)=(i==j):=by
 rw[Bool.eq_iff_iff]
 simp
theorem yj1 {i j:Str}:decide (V.str i=V.str j)=(i==j):=by
 rw[Bool.eq_iff_iff]
 simp
theorem yja {i j:Array UInt8}:decide (V.byt i=V.byt j)=(i.toList==j.toList):=by
 rw[Bool.eq_iff_iff]
 cases i
 cases j
 simp
section
variable {X:Cx} {a b c:Expr} {ta tb tc:TE} {pos:Pos}
theorem yaX {pins:List (Addr×Obj)}{σ:St}{H:Hp}{s:Shared}{Q:VK}{k k':Bool}(I:Inv X pins σ H s)(q:Q (.bl k) H)(e:k=k'):EP X pins σ Q (.bool k') s:=by
 subst e
 exact⟨.bl k,H,I,rfl,q⟩
theorem ycm:OpR X (compareOp .Eq) rEq:=by
 intro pins s σ H x y v u Q I rx ry h
 obtain⟨hs,q⟩:=h
 cases x with
 | non =>
  cases rx
  cases y with
  | non=>cases ry;exact PySem.EqNone.eq_none_none (yaX I q (by simp))
  | bl j=>cases ry;exact PySem.EqNone.eq_none_bool (yaX I q (by simp))
  | int j=>obtain⟨t',rfl⟩:=ry;exact PySem.EqNone.eq_none_int (yaX I q (by simp))
  | str j=>obtain⟨t',rfl⟩:=ry;exact PySem.EqNone.eq_none_str (yaX I q (by simp))
  | _=>exact absurd (show false=true from hs) Bool.false_ne_true
 | bl i =>
  cases rx
  cases y with
  | non=>cases ry;exact PySem.EqNone.eq_bool_none (yaX I q (by simp))
  | bl j=>cases ry;exact eq_bool (yaX I q ylr)
  | str j=>obtain⟨t',rfl⟩:=ry;exact PySem.EqMixed.eq_bool_str (yaX I q (by simp))
  | _=>exact absurd (show false=true from hs) Bool.false_ne_true
 | int i =>
  obtain⟨t,rfl⟩:=rx
  cases y with
  | non=>cases ry;exact PySem.EqNone.eq_int_none (yaX I q (by simp))
  | int j=>obtain⟨t',rfl⟩:=ry;exact eq_int (yaX I q yiE)
  | str j=>obtain⟨t',rfl⟩:=ry;exact PySem.EqMixed.eq_int_str (yaX I q (by simp))
  | _=>exact absurd (show false=true from hs) Bool.false_ne_true
 | str i =>
  obtain⟨t,rfl⟩:=rx
  cases y with
  | non=>cases ry;exact PySem.EqNone.eq_str_none (yaX I q (by simp))
  | bl j=>cases ry;exact PySem.EqMixed.eq_str_bool (yaX I q (by simp))
  | int j=>obtain⟨t',rfl⟩:=ry;exact PySem.EqMixed.eq_str_int (yaX I q (by simp))
  | str j=>obtain⟨t',rfl⟩:=ry;exact eq_str (yaX I q yj1)
  | _=>exact absurd (show false=true from hs) Bool.false_ne_true
 | byt i =>
  obtain⟨t,rfl⟩:=rx
  cases y with
  | byt j=>obtain⟨t',rfl⟩:=ry;exact PySem.W.eq_bytes (yaX I q yja)
  | _=>exact absurd (show false=true from hs) Bool.false_ne_true
 | _=>cases y<;>exact absurd (show false=true from hs) Bool.false_ne_true
theorem yih:OpR X (compareOp .NotEq) rNe:=by
 intro pins s σ H x y v u Q I rx ry h
 obtain⟨hs,q⟩:=h
 cases x with
 | non =>
  cases rx
  cases y with
  | non=>cases ry;exact PySem.EqNone.ne_none_none (yaX I q (by simp))
  | bl j=>cases ry;exact PySem.EqNone.ne_none_bool (yaX I q (by simp))
  | int j=>obtain⟨t',rfl⟩:=ry;exact PySem.EqNone.ne_none_int (yaX I q (by simp))
  | str j=>obtain⟨t',rfl⟩:=ry;exact PySem.EqNone.ne_none_str (yaX I q (by simp))
  | _=>exact absurd (show false=true from hs) Bool.false_ne_true
 | bl i =>
  cases rx
  cases y with
  | non=>cases ry;exact PySem.EqNone.ne_bool_none (yaX I q (by simp))
  | bl j=>cases ry;exact ne_bool (yaX I q (congrArg not ylr))
  | str j=>obtain⟨t',rfl⟩:=ry;exact PySem.EqMixed.ne_bool_str (yaX I q (by simp))
  | _=>exact absurd (show false=true from hs) Bool.false_ne_true
 | int i =>
  obtain⟨t,rfl⟩:=rx
  cases y with
  | non=>cases ry;exact PySem.EqNone.ne_int_none (yaX I q (by simp))
  | int j=>obtain⟨t',rfl⟩:=ry;exact ne_int (yaX I q (congrArg not yiE))
  | str j=>obtain⟨t',rfl⟩:=ry;exact PySem.EqMixed.ne_int_str (yaX I q (by simp))
  | _=>exact absurd (show false=true from hs) Bool.false_ne_true
 | str i =>
  obtain⟨t,rfl⟩:=rx
  cases y with
  | non=>cases ry;exact PySem.EqNone.ne_str_none (yaX I q (by simp))
  | bl j=>cases ry;exact PySem.EqMixed.ne_str_bool (yaX I q (by simp))
  | int j=>obtain⟨t',rfl⟩:=ry;exact PySem.EqMixed.ne_str_int (yaX I q (by simp))
  | str j=>obtain⟨t',rfl⟩:=ry;exact ne_str (yaX I q (congrArg not yj1))
  | _=>exact absurd (show false=true from hs) Bool.false_ne_true
 | byt i =>
  obtain⟨t,rfl⟩:=rx
  cases y with
  | byt j=>obtain⟨t',rfl⟩:=ry;exact PySem.W.ne_bytes (yaX I q (congrArg not yja))
  | _=>exact absurd (show false=true from hs) Bool.false_ne_true
 | _=>cases y<;>exact absurd (show false=true from hs) Bool.false_ne_true
theorem yel:OpR X (compareOp .Lt) (rI0 λi j=>.bl (decide (i < j))):=yrp λ_ _ _ _ _ _ _ q=>lt_int q
theorem ycB:OpR X (compareOp .LtE) (rI0 λi j=>.bl (decide (i<=j))):=yrp λ_ _ _ _ _ _ _ q=>le_int q
theorem yi9:OpR X (compareOp .Gt) (rI0 λi j=>.bl (decide (j < i))):=yrp λ_ _ _ _ _ _ _ q=>gt_int q
theorem yjU:OpR X (compareOp .In) (λx y H Q=>∃ i j,x=.str i/\y=.str j/\Q (.bl (!(Builtin.Str.occurrences j i 0 j.length 1).isEmpty)) H):=by
 intro pins s σ H x y v u Q I rx ry h
 obtain⟨i,j,rfl,rfl,q⟩:=h
 obtain⟨t,rfl⟩:=rx
 obtain⟨t',rfl⟩:=ry
 exact in_str (yaX I q rfl)
theorem yg6:OpR X (compareOp .Is) (λx y H Q=>y=.non/\Q (.bl (decide (x=.non))) H):=by
 intro pins s σ H x y v u Q I rx ry h
 obtain⟨rfl,q⟩:=h
 cases ry
 refine is_none_gen (yaX I q ?_)
 cases x<;>first
  | (cases rx;rfl)
  | (obtain⟨t,rfl⟩:=rx;rfl)
theorem yfk:OpR X (compareOp .IsNot) (λx y H Q=>y=.non/\Q (.bl (!decide (x=.non))) H):=by
 intro pins s σ H x y v u Q I rx ry h
 obtain⟨rfl,q⟩:=h
 cases ry
 refine isnot_none_gen (yaX I q ?_)
 cases x<;>first
  | (cases rx;rfl)
  | (obtain⟨t,rfl⟩:=rx;rfl)
theorem yau (b:Expr){op:CmpOp}(h:op≠.In:=by decide)(h2:op≠.NotIn:=by decide):behindInMarks op b=false:=by
 have e1:(op==CmpOp.In)=false:=by cases op<;>first | rfl | exact absurd rfl h
 have e2:(op==CmpOp.NotIn)=false:=by cases op<;>first | rfl | exact absurd rfl h2
 cases b<;>simp[behindInMarks,e1,e2]
theorem yaJ {op:CmpOp}{r:R2}(ho:OpR X (compareOp op) r)(ha:PE X a ta)(hb:PE X b tb)(hm:behindInMarks op b=false):PE X (.Compare a [op] [b] pos) (tOp r ta tb):=by
 intro pins s σ H Q I h
 exact wpAny_Compare1 (yqk ha hb I h λv u s2 x y H2 I2 rx ry q=>ho pins s2 σ H2 x y v u Q I2 rx ry q) hm
noncomputable def yk9 (t:TE):TT:=fun σ H Q=>t σ H λx H'=>∃ k,x=.bl k/\Q k H'
theorem yaz {op:CmpOp}{r:R2}(ho:OpR X (compareOp op) r)(ha:PE X a ta)(hb:PE X b tb)(hm:behindInMarks op b=false):PT X (.Compare a [op] [b] pos) (yk9 (tOp r ta tb)):=by
 intro pins s σ H Q I h
 refine wpAny_isTrue_Compare1 (thn (ha pins s σ H _ I h) λv s1 ⟨x,H1,I1,r1,q1⟩=>thn (hb pins s1 σ H1 _ I1 q1) λu s2 ⟨y,H2,I2,r2,q2⟩ =>
  thn (ho pins s2 σ H2 x y v u _ I2 r1 r2 q2) λc s3 ⟨z,H3,I3,r3,k,e,q3⟩=>?_) hm
 subst e
 cases r3
 exact wpAny_truthy_bool ⟨H3,I3,q3⟩
noncomputable def ygq (r r':R2)(ta tb tc:TE):TE:=fun σ H Q=>ta σ H λx H1=>tb σ H1 λy H2=>r x y H2 λz H3=>∃ k,z=.bl k /\
 (if k=true then tc σ H3 λw' H4=>r' y w' H4 Q else Q (.bl false) H3)
theorem ydJ {op op':CmpOp}{r r':R2}(ho:OpR X (compareOp op) r)(ho':OpR X (compareOp op') r')(ha:PE X a ta)(hb:PE X b tb)(hc:PE X c tc)
  (hm:lastMarks [op,op'] [b,c]=false:=by with_unfolding_all rfl):PE X (.Compare a [op,op'] [b,c] pos) (ygq r r' ta tb tc):=by
 intro pins s σ H Q I h
 refine Compare_chain (thn (ha pins s σ H _ I h) λv s1 ⟨x,H1,I1,r1,q1⟩=>chain_link (thn (hb pins s1 σ H1 _ I1 q1) λu s2 ⟨y,H2,I2,r2,q2⟩ =>
  thn (ho pins s2 σ H2 x y v u _ I2 r1 r2 q2) λd s3 ⟨z,H3,I3,r3,k,e,q3⟩=>?_)) hm
 subst e
 cases r3
 refine wpAny_truthy_bool ?_
 cases k with
 | false=>exact ite_ff ⟨.bl false,H3,I3,rfl,q3⟩
 | true=>exact ite_tt (chain_last (thn (hc pins s3 σ H3 _ I3 q3) λw' s4 ⟨z',H4,I4,r4,q4⟩=>ho' pins s4 σ H4 y z' u w' Q I4 r2 r4 q4))
theorem yeU {op op':CmpOp}{r r':R2}(ho:OpR X (compareOp op) r)(ho':OpR X (compareOp op') r')(ha:PE X a ta)(hb:PE X b tb)(hc:PE X c tc)
  (hm:lastMarks [op,op'] [b,c]=false:=by with_unfolding_all rfl):PT X (.Compare a [op,op'] [b,c] pos) (yk9 (ygq r r' ta tb tc)):=by
 intro pins s σ H Q I h
 refine isTrue_chain (thn (ha pins s σ H _ I h) λv s1 ⟨x,H1,I1,r1,q1⟩=>test_link (thn (hb pins s1 σ H1 _ I1 q1) λu s2 ⟨y,H2,I2,r2,q2⟩ =>
  thn (ho pins s2 σ H2 x y v u _ I2 r1 r2 q2) λd s3 ⟨z,H3,I3,r3,k,e,q3⟩=>?_)) hm
 subst e
 cases r3
 refine wpAny_truthy_bool ?_
 cases k with
 | false =>
  obtain⟨k',e',q'⟩:=q3
  cases e'
  exact ite_ff ⟨H3,I3,q'⟩
 | true =>
  refine ite_tt (test_last (thn (hc pins s3 σ H3 _ I3 q3) λw' s4 ⟨z',H4,I4,r4,q4⟩=>thn (ho' pins s4 σ H4 y z' u w' _ I4 r2 r4 q4) λd' s5 ⟨z2,H5,I5,r5,k2,e2,q5⟩=>?_))
  subst e2
  cases r5
  exact wpAny_truthy_bool ⟨H5,I5,q5⟩
theorem yfT:(sizeLine:Nat) < 2 ^ 63:=by rw[sizeLine_eq];decide
theorem ye6 {x:V}{us:List Value}(r:Vals [x] us):∃ u,us=[u]/\RelV x u:=by
 cases r with
 | cons r1 r2=>cases r2;exact⟨_,rfl,r1⟩
theorem ygS {x y:V}{us:List Value}(r:Vals [x,y] us):∃ u w',us=[u,w']/\RelV x u/\RelV y w':=by
 cases r with
 | cons r1 r2 =>
  cases r2 with
  | cons r3 r4=>cases r4;exact⟨_,_,rfl,r1,r3⟩
theorem yjo (hc:X.calm=true):yb5 X (.builtin "max") (λxs H Q=>∃ i j,xs=[.int i,.int j]/\Q (.int (if j > i then j else i)) H):=by
 intro pins s σ H xs us Q I r h
 obtain⟨i,j,rfl,q⟩:=h
 obtain⟨u,w',rfl,⟨t,rfl⟩,⟨t',rfl⟩⟩:=ygS r
 refine max_two_ints (I.ok.hd hc) λh' tk k=>⟨_,H,I.kept k,?_,q⟩
 by_cases hj:j > i
 ·rw[if_pos hj,if_pos hj];exact⟨_,rfl⟩
 ·rw[if_neg hj,if_neg hj];exact⟨_,rfl⟩
theorem yfK (hc:X.calm=true):yb5 X (.builtin "min") (λxs H Q=>∃ i j,xs=[.int i,.int j]/\Q (.int (if j < i then j else i)) H):=by
 intro pins s σ H xs us Q I r h
 obtain⟨i,j,rfl,q⟩:=h
 obtain⟨u,w',rfl,⟨t,rfl⟩,⟨t',rfl⟩⟩:=ygS r
 refine min_two_ints (I.ok.hd hc) λh' tk k=>⟨_,H,I.kept k,?_,q⟩
 by_cases hj:j < i
 ·rw[if_pos hj,if_pos hj];exact⟨_,rfl⟩
 ·rw[if_neg hj,if_neg hj];exact⟨_,rfl⟩
end
structure ObjM (h:Heap) (x dx C:Addr) (mA:Str->Option Value):Prop where
 obj:h.get? x=some (PySem.W.instObj C dx)
 ns:h.Ns1 dx mA
 ne:dx≠x
theorem ygl {h:Heap}{dx:Addr}{mA:Str->Option Value}(n:h.Ns1 dx mA):∃ od,h.get? dx=some od/\∀ name,PySem.W.lookIn name od=some (mA name):=by
 obtain⟨o,es,ep,ho,hd,hk,_,hm⟩:=n
 refine⟨o,ho,λname=>?_⟩
 have e:=hm name
 unfold nsFind findBy at e
 rw[← Array.find?_toList] at e
 unfold PySem.W.lookIn
 rw[hd]
 dsimp only
 split
 ·rename_i y q
  rw[q] at e
  exact congrArg some e
 ·rename_i q
  rw[q] at e
  have a:es.toList.any (·.refKey)=false:=by
   rw[List.any_eq_false]
   intro y hy
   obtain⟨z,t,hkey⟩:=hk y (Array.mem_toList_iff.mp hy)
   simp[DictEntry.refKey,hkey]
  have a':¬ es.toList.any (·.refKey)=true:=by rw[a];exact Bool.false_ne_true
  rw[if_neg a']
  exact congrArg some e
theorem ObjM.look {h:Heap}{x dx C:Addr}{mA:Str->Option Value}(I:ObjM h x dx C mA):∃ od,PySem.W.InstAt h x (PySem.W.instObj C dx) C (some od)/\∀ name,PySem.W.lookIn name od=some (mA name) :=
 let ⟨od,ho,hl⟩:=ygl I.ns
 ⟨od,⟨I.obj,rfl,rfl,ho⟩,hl⟩
section
variable {prog:Program} {w:World} {A:Around} {E:Value->Shared->Prop} {s:Shared} {K:PySem.W.Frag} {x dx C f:Addr} {mA:Str->Option Value} {name:Str} {v:Value}
theorem ymF {expr:Bool}{Q:Value->Shared->Prop}(X:K.In s.heap)(I:ObjM s.heap x dx C mA)(hg:PySem.W.plainGet K C name=true)(hh:PySem.W.hasDictIn K C=true)
  (ha:PySem.W.findIn K (.ref C) name=some none) (hv:mA name=some v) (hv':PySem.W.handedIn v=true) (h:Q v { s with toks:=s.toks+1 }) :
  wpAny (model prog w) A (getAttr (.ref x) name expr) Q E s:=by
 obtain⟨od,J,hl⟩:=I.look
 exact PySem.W.get_value X J (PySem.W.plainGet_of hg).1 (PySem.W.findObj_own hh ha rfl (by rw[hl,hv])) hv' h
theorem yki {pl:Sem Bool}{Q:Value×List Value->Shared->Prop}(X:K.In s.heap)(I:ObjM s.heap x dx C mA)(hg:PySem.W.plainGet K C name=true)
  (hf:PySem.W.findIn K (.ref C) name=some (some (.ref f))) (ht:PySem.W.isFn K (.ref f)=true) (hv:mA name=none) (h:Q (.ref f,[.ref x]) s) :
  wpAny (model prog w) A (getMethod (.ref x) name pl) Q E s:=by
 obtain⟨od,J,hl⟩:=I.look
 exact PySem.W.method_fn X J (PySem.W.plainGet_of hg).1 (PySem.W.plainGet_of hg).2 hf (beq_iff_eq.mp ht) (by show(PySem.W.lookIn name od).map (·.isSome)=some false;rw[hl,hv];rfl) h
theorem ymq {ns:List Str}{Q:Unit->Shared->Prop}(X:K.In s.heap)(I:ObjM s.heap x dx C mA)
  (hs:PySem.W.findIn K (.ref C) "__setattr__"=some (some (.builtin "object.__setattr__"))) (hp:PySem.W.plainOver K C=true) (ht:PySem.W.takerIn K C name=some none) (hh:PySem.W.hasDictIn K C=true)
  (hw:PySem.Within mA ns) (hsz:ns.length<=sizeLine)
  (h:∀ h',ObjM h' x dx C (λy=>if y=name then some v else mA y)->Heap.SameBut dx s.heap h'->Q () { s with heap:=h',toks:=s.toks+2 }) :
  wpAny (model prog w) A (setAttr (.ref x) name v) Q E s:=by
 obtain⟨od,J,hl⟩:=I.look
 refine PySem.W.set_plain X J hs (PySem.W.osa_open (s:={ s with toks:=s.toks+1 }) (r:=none) X J hp ht λb=>?_)
 obtain⟨cd,hc,hd'⟩:=PySem.W.any_some hh
 have hx:s.heap.get? x=some ⟨.ref C,some dx,.plain,#[]⟩:=I.obj
 refine wpAny_bind (wpAny_pure (wpAny_bind (wpAny_bind (wpAny_loadPart hx (wpAny_bind (PySem.W.Looks.here (s:={ s with toks:=s.toks+1 }) (PySem.W.looks_clsIn X hc) ?_))))))
 rw[hd']
 refine wpAny_pure (a:=some dx) (wpAny_bind (wpAny_pure (wpAny_bind ?_)))
 refine wpAny_nsSet1 (s:={ s with toks:=s.toks+1 }) I.ns λh' hn2 hs2=>?_
 obtain⟨oD,esD,epD,hoD,hdD,hcD⟩:=hn2.count (PySem.Within.cons name v hw)
 refine wpAny_bind (wpAny_lookBehind hoD (by rw[hdD];exact pastItsLine_dict (Nat.le_trans hcD (by rw[List.length_cons];omega))) ?_)
 exact wpAny_pure (h _ ⟨(hs2.2 _ (Ne.symm I.ne)).trans I.obj,hn2,I.ne⟩ hs2)
theorem ylb {R:Result->Shared->Prop}{vs:List Value}{kw:List (Str×Value)}(X:K.In s.heap)(hm:PySem.W.makesIn K C=true)
  (hi:PySem.W.findIn K (.ref C) "__init__"=some (some (.ref f))) (hf:PySem.W.typeIn K (.ref f)=some (.type "function"))
  (h:codeAny (model prog w) (A.under (.builtin "type.__call__" ⟨.ref C :: vs,kw⟩)) (.call (.ref f) ⟨.ref (s.heap.objs.size+1) :: vs,kw⟩) (PySem.W.InitBack (s.heap.objs.size+1) R)
   { s with heap:=(s.heap.push PySem.W.emptyDict).push (PySem.W.instObj C s.heap.objs.size) }) :
  codeAny (model prog w) A (.call (.ref C) ⟨vs,kw⟩) R s:=by
 obtain⟨hh,g,d,t,os⟩:=s
 exact PySem.W.make_core (PySem.W.makes_of X hm) (PySem.W.looks_findIn X hi) (λself=>PySem.W.bind_fn X self hf) (.inl rfl) h
end
noncomputable def yef (f:Str)(v:V):List (Str×V)->List (Str×V)
 | []=>[(f,v)]
 | (g,x) :: r=>if g=f then (g,v) :: r else (g,x) :: yef f v r
theorem ycK (f g:Str)(v:V):∀ fs:List (Str×V),(yef f v fs).lookup g=if g=f then some v else fs.lookup g
 | []=>by
  show List.lookup g [(f,v)]=_
  by_cases h:g=f
  ·have hb:(g==f)=true:=beq_iff_eq.mpr h
   simp only[List.lookup,hb,if_pos h]
  ·have hb:(g==f)=false:=beq_eq_false_iff_ne.mpr h
   simp only[List.lookup,hb,if_neg h]
 | (k,x) :: r=>by
  have ih:=ycK f g v r
  rw[show yef f v ((k,x) :: r)=(if k=f then (k,v) :: r else (k,x) :: yef f v r) from rfl]
  by_cases hk:k=f
  ·rw[if_pos hk]
   by_cases h:g=k
   ·have hb:(g==k)=true:=beq_iff_eq.mpr h
    simp only[List.lookup,hb,if_pos (h.trans hk)]
   ·have hb:(g==k)=false:=beq_eq_false_iff_ne.mpr h
    simp only[List.lookup,hb,if_neg (λe:g=f=>h (e.trans hk.symm))]
  ·rw[if_neg hk]
   by_cases h:g=k
   ·have hb:(g==k)=true:=beq_iff_eq.mpr h
    simp only[List.lookup,hb,if_neg (λe:g=f=>hk (h.symm.trans e))]
   ·have hb:(g==k)=false:=beq_eq_false_iff_ne.mpr h
    simp only[List.lookup,hb]
    exact ih
theorem yd8 (f:Str)(v:V):∀ fs:List (Str×V),f∈(yef f v fs).map (·.1)/\∀ g,g∈fs.map (·.1)->g∈(yef f v fs).map (·.1)
 | []=>⟨by simp[yef],λg h=>by simp at h⟩
 | (k,x) :: r=>by
  obtain⟨i1,i2⟩:=yd8 f v r
  rw[show yef f v ((k,x) :: r)=(if k=f then (k,v) :: r else (k,x) :: yef f v r) from rfl]
  by_cases hk:k=f
  ·rw[if_pos hk]
   subst hk
   exact⟨by simp,λg h=>by simpa using h⟩
  ·rw[if_neg hk]
   refine⟨?_,λg h=>?_⟩
   ·rw[List.map_cons]
    exact List.mem_cons_of_mem _ i1
   ·rw[List.map_cons] at h ⊢
    rcases List.mem_cons.mp h with e | e
    ·exact List.mem_cons.mpr (.inl e)
    ·exact List.mem_cons_of_mem _ (i2 g e)
theorem yee (f:Str)(v:V):∀ fs:List (Str×V),(yef f v fs).length<=fs.length+1
 | []=>by simp[yef]
 | (k,x) :: r=>by
  have ih:=yee f v r
  rw[show yef f v ((k,x) :: r)=(if k=f then (k,v) :: r else (k,x) :: yef f v r) from rfl]
  by_cases hk:k=f
  ·rw[if_pos hk,List.length_cons,List.length_cons];omega
  ·rw[if_neg hk,List.length_cons,List.length_cons];omega
theorem RelO.some_of {v:V}{o:Option Value}(r:RelO (some v) o):∃ u,o=some u/\RelV v u:=by
 cases o with
 | none=>exact(show False from r).elim
 | some u=>exact⟨u,rfl,r⟩
theorem RelO.none_of {o:Option Value}(r:RelO none o):o=none:=by
 cases o with
 | none=>rfl
 | some u=>exact(show False from r).elim
theorem yf0 {v:V}{u:Value}(r:RelV v u):PySem.W.handedIn u=true:=by
 cases v with
 | non=>cases (show u=Value.none from r);rfl
 | bl b=>cases (show u=Value.bool b from r);rfl
 | int i=>obtain⟨t,e⟩:=(show ∃ t,u=Value.int i t from r);cases e;rfl
 | str x=>obtain⟨t,e⟩:=(show ∃ t,u=Value.str x t from r);cases e;rfl
 | byt b=>obtain⟨t,e⟩:=(show ∃ t,u=Value.bytes b t from r);cases e;rfl
 | flt b=>obtain⟨t,e⟩:=(show ∃ t,u=Value.float b t from r);cases e;rfl
 | ref a=>cases (show u=Value.ref a from r);rfl
 | ty n=>cases (show u=Value.type n from r);rfl
section
variable {P:Program} {w:World} {H H':Hp} {h h':Heap} {a C dx:Addr} {fs fs':List (Str×V)}
theorem yfh (hok:HOk P w H h)(e:H a=some (.ins C dx fs)):∃ mA,ObjM h a dx C mA/\(∀ f,RelO (fs.lookup f) (mA f))/\PySem.Within mA (fs.map (·.1))/\fs.length<=1000/\H dx=some (.own a):=by
 obtain⟨d,z,ne,ob,mA,n,r,q⟩:=(show ObjOk P w H h a (.ins C dx fs) from hok a _ e)
 exact⟨mA,⟨ob,n,ne⟩,r,q,z,d⟩
end
structure Cls (K:PySem.W.Frag) (C:Addr):Prop where
 pg:PySem.W.plainGet K C Str.empty=true
 hd:PySem.W.hasDictIn K C=true
 po:PySem.W.plainOver K C=true
 sa:PySem.W.findIn K (.ref C) "__setattr__"=some (some (.builtin "object.__setattr__"))
theorem Cls.get {K:PySem.W.Frag}{C:Addr}(c:Cls K C)(f:Str):PySem.W.plainGet K C f=true:=c.pg
noncomputable def NoAttr (K:PySem.W.Frag)(C:Addr)(f:Str):Prop:=PySem.W.findIn K (.ref C) f=some none
theorem NoAttr.taker {K:PySem.W.Frag}{C:Addr}{f:Str}(n:NoAttr K C f):PySem.W.takerIn K C f=some none:=by
 unfold PySem.W.takerIn
 rw[show PySem.W.findIn K (.ref C) f=some none from n]
 rfl
structure Con (K:PySem.W.Frag) (C:Addr) (f:Str) (v:V) (u:Value):Prop where
 at_:PySem.W.findIn K (.ref C) f=some (some u)
 rel:RelV v u
 get:PySem.W.specialIn K u "__get__"=some none
 cp:PySem.W.copiedNames.contains f=false
structure yis (K:PySem.W.Frag) (C:Addr) (m:Str) (f:Addr):Prop where
 at_:PySem.W.findIn K (.ref C) m=some (some (.ref f))
 fn:PySem.W.isFn K (.ref f)=true
 kp:PySem.W.keepIn K (.ref f)=true
section
variable {X:Cx} {pins:List (Addr×Obj)} {σ:St} {H:Hp} {s:Shared} {a C dx:Addr} {fs:List (Str×V)} {f:Str} {v:V} {A:Around} {E:Value->Shared->Prop}
theorem yhP {b:Bool}{Q:Value->Shared->Prop}(I:Inv X pins σ H s)(e:H a=some (.ins C dx fs))(c:Cls X.K C)(n:NoAttr X.K C f)(l:fs.lookup f=some v)
  (h:∀ u s',Inv X pins σ H s'->RelV v u->Q u s'):wpAny (model X.prog X.w) A (getAttr (.ref a) f b) Q E s:=by
 obtain⟨mA,O,r,_,_,_⟩:=yfh I.hok e
 obtain⟨u,hu,ru⟩:=RelO.some_of (v:=v) (o:=mA f) (by rw[← l];exact r f)
 exact ymF I.kIn O (c.get f) c.hd n hu (yf0 ru) (h u _ (I.tok _) ru)
theorem ydp {m:Str}{g:Addr}{pl:Sem Bool}{Q:Value×List Value->Shared->Prop}(I:Inv X pins σ H s)(e:H a=some (.ins C dx fs))(c:Cls X.K C)(k:yis X.K C m g)(l:fs.lookup m=none)
  (h:Q (.ref g,[.ref a]) s):wpAny (model X.prog X.w) A (getMethod (.ref a) m pl) Q E s:=by
 obtain⟨mA,O,r,_,_,_⟩:=yfh I.hok e
 have hn:mA m=none:=RelO.none_of (by rw[← l];exact r m)
 exact yki I.kIn O (c.get m) k.at_ k.fn hn h
theorem yh1 {y:V}{u:Value}{Q:Unit->Shared->Prop}(I:Inv X pins σ H s)(e:H a=some (.ins C dx fs))(c:Cls X.K C)(n:NoAttr X.K C f)(hl:fs.length < 1000)(ry:RelV y u)
  (h:∀ s',Inv X pins σ (upd H a (.ins C dx (yef f y fs))) s'->Q () s'):wpAny (model X.prog X.w) A (setAttr (.ref a) f u) Q E s:=by
 obtain⟨mA,O,r,wi,_,ho⟩:=yfh I.hok e
 have hz:(fs.map (·.1)).length<=sizeLine:=by rw[List.length_map,sizeLine_eq];omega
 refine ymq I.kIn O c.sa c.po n.taker c.hd wi hz λh' O' sb=>h _ ?_
 have hd:∃ o,h'.get? dx=some o:=let ⟨o,_,_,e',_⟩:=O'.ns;⟨o,e'⟩
 refine I.write (x:=a) (e:=dx) (by rw[e];exact True.intro) (.inr ho) (λb q hb z=>(sb.2 b hb).trans z) hd ?_
 refine⟨by rw[yai O.ne];exact ho,?_,O.ne,O'.obj,_,O'.ns,λg=>?_,λg hg=>?_⟩
 ·have:=yee f y fs;omega
 ·show RelO ((yef f y fs).lookup g) (if g=f then some u else mA g)
  rw[ycK]
  by_cases q:g=f
  ·rw[if_pos q,if_pos q];exact ry
  ·rw[if_neg q,if_neg q];exact r g
 ·by_cases q:g=f
  ·rw[q];exact(yd8 f y fs).1
  ·refine(yd8 f y fs).2 g (wi g λz=>hg ?_)
   show(if g=f then some u else mA g)=none
   rw[if_neg q];exact z
theorem Inv.made (I:Inv X pins σ H s):Inv X pins σ (upd (upd H s.heap.objs.size (.own (s.heap.objs.size+1))) (s.heap.objs.size+1) (.ins C s.heap.objs.size []))
  { s with heap:=(s.heap.push PySem.W.emptyDict).push (PySem.W.instObj C s.heap.objs.size) }:=by
 have e1:(s.heap.push PySem.W.emptyDict).get? s.heap.objs.size=some PySem.W.emptyDict:=Heap.get?_push_size s.heap rfl
 have e2:((s.heap.push PySem.W.emptyDict).push (PySem.W.instObj C s.heap.objs.size)).get? (s.heap.objs.size+1)=some (PySem.W.instObj C s.heap.objs.size):=by
  have:=Heap.get?_push_size (s.heap.push PySem.W.emptyDict) (o:=PySem.W.instObj C s.heap.objs.size) rfl
  rwa [Heap.size_push] at this
 have e3:(s.heap.push PySem.W.emptyDict).Ns s.heap.objs.size (λ_=>none):=⟨PySem.W.emptyDict,#[],_,e1,rfl,(λe he=>absurd he (by simp)),λ_=>rfl⟩
 have I1:=I.laid (a:=s.heap.objs.size) (o:=.own (s.heap.objs.size+1)) (h':=s.heap.push PySem.W.emptyDict) (t':=s.toks) (λb u q=>Heap.get?_push_of_some _ q) (Nat.le_refl _) ⟨_,e1⟩
 refine I1.laid (a:=s.heap.objs.size+1) (o:=.ins C s.heap.objs.size []) (t':=s.toks) (λb u q=>Heap.get?_push_of_some _ q) (Nat.le_of_eq (Heap.size_push _ _)) ?_
 have ne:s.heap.objs.size≠s.heap.objs.size+1:=Nat.ne_of_lt (Nat.lt_succ_self _)
 refine⟨by rw[yai ne,yad],Nat.zero_le _,ne,e2,λ_=>none,(Heap.Ns1.of_empty e3).at λo q=>Heap.get?_push_of_some _ q,λ_=>True.intro,λy hy=>absurd rfl hy⟩
theorem yjC {prog:Program}{w:World}{env:Env}{e:Expr}{f:Str}{pos:Pos}{s:Shared}{Q:Value->Shared->Prop}(hb:attributeBase e f env (eval e env)=eval e env)
  (h:wpAny (model prog w) A (eval e env) (λo s₁=>wpAny (model prog w) A (getAttr o f true) Q E s₁) E s):wpAny (model prog w) A (eval (.Attribute e f pos) env) Q E s :=
 Attribute_any_ h (by rw[arm_eval_Attribute,hb])
end
noncomputable def ynY (K:PySem.W.Frag)(ta:TE)(f:Str):TE:=fun σ H Q=>ta σ H λx H1=>∃ a C dx fs v,x=.ref a/\H1 a=some (.ins C dx fs)/\Cls K C/\NoAttr K C f/\fs.lookup f=some v/\Q v H1
noncomputable def yqh (K:PySem.W.Frag)(ta tv:TE)(f:Str):TS:=λD σ H=>tv σ H λy H1=>ta σ H1 λx H2=>∃ a C dx fs,x=.ref a/\H2 a=some (.ins C dx fs)/\Cls K C/\NoAttr K C f/\fs.length < 1000 /\
 D.nx σ (upd H2 a (.ins C dx (yef f y fs)))
section
variable {X:Cx} {o e value:Expr} {f:Str} {pos pos' tpos:Pos} {ta tv:TE}
theorem ybl (he:PE X e ta)(hb:attributeBase e f X.env (eval e X.env)=eval e X.env):PE X (.Attribute e f pos) (ynY X.K ta f):=by
 intro pins s σ H Q I h
 refine yjC hb (thn (he pins s σ H _ I h) λu s1 ⟨x,H1,I1,rx,a,C,dx,fs,v,ex,ea,c,n,l,q⟩=>?_)
 subst ex
 obtain rfl:u=Value.ref a:=rx
 exact yhP I1 ea c n l λu' s2 I2 ru=>⟨v,H1,I2,ru,q⟩
theorem ydb (ha:PE X o ta)(hv:PE X value tv)(hs:swapsWith value (some (.Attribute o f pos')) pos.line X.env=pure false):PS X (.Assign [.Attribute o f pos'] value pos) (yqh X.K ta tv f):=by
 intro pins s σ H D I h
 refine plainObj_wpAny_Assign_Attribute (thn (hv pins s σ H _ I h) λu s1 ⟨y,H1,I1,ry,q⟩=>thn (ha pins s1 σ H1 _ I1 q) λov s2 ⟨x,H2,I2,rx,a,C,dx,fs,ex,ea,c,n,l,q2⟩=>?_) hs
 subst ex
 obtain rfl:ov=Value.ref a:=rx
 exact yh1 I2 ea c n l ry λs3 I3=>⟨σ,_,I3,q2⟩
end
section
variable {X:Cx} {pins:List (Addr×Obj)} {σ:St} {H:Hp} {s:Shared} {A:Around} {E:Value->Shared->Prop} {Q:Value->Shared->Prop} {c:Value} {b:Bool}
inductive yeT (K:PySem.W.Frag) (H:Hp):V->Value->Prop where
 | non:yeT K H .non (.type "NoneType")
 | bl (x:Bool):yeT K H (.bl x) (.type "bool")
 | int (i:Int):yeT K H (.int i) (.type "int")
 | str (x:Str):yeT K H (.str x) (.type "str")
 | flt (x:UInt64):yeT K H (.flt x) (.type "float")
 | lst {a:Addr} {xs:List V} (e:H a=some (.lst xs)):yeT K H (.ref a) (.type "list")
 | frz {a:Addr} {o:Obj} {xs:List V} (e:H a=some (.frz o (.lst xs))):yeT K H (.ref a) (.type "list")
 | tup {a:Addr} {xs:List V} (e:H a=some (.tup xs)):yeT K H (.ref a) (.type "tuple")
 | dK {a:Addr} {kvs:List (Key×V)} (e:H a=some (.dK kvs)):yeT K H (.ref a) (.type "dict")
 | dT {a:Addr} {kvs:List (List Key×V)} (e:H a=some (.dT kvs)):yeT K H (.ref a) (.type "dict")
 | ins {a C dx:Addr} {fs:List (Str×V)} (e:H a=some (.ins C dx fs)) (cl:Cls K C) (ha:PySem.W.findIn K (.ref C) "__class__"=some (some (.builtin "object.__class__")))
   (hn:PySem.W.specialIn K (.builtin "object.__class__") "__get__"=some (some (.builtin "getset_descriptor.__get__"))) (htk:PySem.W.takesIn K (.builtin "object.__class__")=some true)
   (hm:PySem.W.mroIn K C (.type "object")=some true):yeT K H (.ref a) (.ref C)
theorem ygc {x:V}{u t:Value}(I:Inv X pins σ H s)(rx:RelV x u)(ty:yeT X.K H x t)(e:PySem.W.kitOne X.K t c=some b)(h:∀ tk,Q (.bool b) { s with toks:=tk }) :
  wpAny (model X.prog X.w) A (call (.builtin "isinstance") [u,c]) Q E s:=by
 cases ty with
 | non=>cases (show u=Value.none from rx);exact PySem.W.kia_one PySem.W.kitx_none I.kIn True.intro e (λz=>nomatch z) h
 | bl y=>cases (show u=Value.bool y from rx);exact PySem.W.kia_one PySem.W.kitx_bool I.kIn True.intro e (λz=>nomatch z) h
 | int i=>obtain⟨t,q⟩:=(show ∃ t,u=Value.int i t from rx);cases q;exact PySem.W.kia_one PySem.W.kitx_int I.kIn True.intro e (λz=>nomatch z) h
 | str y=>obtain⟨t,q⟩:=(show ∃ t,u=Value.str y t from rx);cases q;exact PySem.W.kia_one PySem.W.kitx_str I.kIn True.intro e (λz=>nomatch z) h
 | flt y=>obtain⟨t,q⟩:=(show ∃ t,u=Value.float y t from rx);cases q;exact PySem.W.kia_one PySem.W.kitx_float I.kIn True.intro e (λz=>nomatch z) h
 | @lst a xs ea =>
  cases (show u=Value.ref a from rx)
  obtain⟨_,_,n,_,h1⟩:=(show ObjOk X.prog X.w H s.heap a (.lst xs) from I.hok a _ ea)
  exact PySem.W.kia_one PySem.W.kitx_list I.kIn ⟨_,h1,rfl⟩ e (λz=>nomatch z) h
 | @frz a ob xs ea =>
  cases (show u=Value.ref a from rx)
  obtain⟨_,_,_,n,_,h1⟩:=(show ObjOk X.prog X.w H s.heap a (.frz ob (.lst xs)) from I.hok a _ ea)
  exact PySem.W.kia_one PySem.W.kitx_list I.kIn ⟨_,h1,rfl⟩ e (λz=>nomatch z) h
 | @tup a xs ea =>
  cases (show u=Value.ref a from rx)
  obtain⟨_,_,_,p⟩:=(show ObjOk X.prog X.w H s.heap a (.tup xs) from I.hok a _ ea)
  obtain⟨o,h1,h2,_⟩:=p
  exact PySem.W.kia_one PySem.W.kitx_tuple I.kIn ⟨o,h1,h2⟩ e (λz=>nomatch z) h
 | @dK a kvs ea =>
  cases (show u=Value.ref a from rx)
  obtain⟨_,_,vs,_,p⟩:=(show ObjOk X.prog X.w H s.heap a (.dK kvs) from I.hok a _ ea)
  obtain⟨o,es,ep,h1,h2,_⟩:=p
  exact PySem.W.kia_one PySem.W.kitx_dict I.kIn ⟨o,h1,h2.1⟩ e (λz=>nomatch z) h
 | @dT a kvs ea =>
  cases (show u=Value.ref a from rx)
  obtain⟨_,_,xs,_,o,es,ep,h1,h2,_⟩:=(show ObjOk X.prog X.w H s.heap a (.dT kvs) from I.hok a _ ea)
  exact PySem.W.kia_one PySem.W.kitx_dict I.kIn ⟨o,h1,h2.1⟩ e (λz=>nomatch z) h
 | @ins a C dx fs ea cl ha hn htk hm =>
  cases (show u=Value.ref a from rx)
  obtain⟨mA,O,_⟩:=yfh I.hok ea
  obtain⟨od,J,_⟩:=O.look
  exact PySem.W.kia_one (PySem.W.kitx_own (cl.get _) cl.hd ha hn htk hm) I.kIn J e (λz=>nomatch z) h
end
structure Room (k:Nat) (A:Around):Prop where
 hd:A.handled=none
 dp:A.depth+3*k+5 < recursionLimit
 un:A.units+16*k+200 < cLine
theorem Room.mono {j k:Nat}{A:Around}(r:Room k A)(h:j<=k):Room j A:=⟨r.hd,by have:=r.dp;omega,by have:=r.un;omega⟩
theorem Room.deeper {k:Nat}{A:Around}(r:Room (k+1) A)(env:Env):Room k (A.deeper env) :=
 ⟨r.hd,by have:=r.dp;show A.depth+1+3*k+5 < _;omega,by have:=r.un;show A.units+3+16*k+200 < _;omega⟩
theorem yh4 {A:Around}{C:Addr}{us:List Value}{kw:List (Str×Value)}:(A.under (.builtin "type.__call__" ⟨.ref C :: us,kw⟩)).depth=A.depth+1:=by
 first | rfl | simp[Around.under,Code.weight,Code.isCreation,Code.isGuard,Code.isCaller,Code.frames,Code.isFrame,guardIds]
theorem yib {A:Around}{C:Addr}{us:List Value}{kw:List (Str×Value)}:(A.under (.builtin "type.__call__" ⟨.ref C :: us,kw⟩)).units=A.units+1:=by
 first | rfl | simp[Around.under,Code.cUnits,Code.frames,Code.isFrame]
theorem Room.make {k:Nat}{A:Around}(r:Room (k+1) A)(C:Addr)(us:List Value)(kw:List (Str×Value)):Room k (A.under (.builtin "type.__call__" ⟨.ref C :: us,kw⟩)) :=
 ⟨r.hd,by have:=r.dp;rw[yh4];omega,by have:=r.un;rw[yib];omega⟩
theorem Room.depth {k:Nat}{A:Around}(r:Room k A):A.depth < recursionLimit:=by have:=r.dp;omega
theorem Room.units {k:Nat}{A:Around}(r:Room k A):A.units+64 < cLine:=by have:=r.un;omega
noncomputable def ylX:TA:=λ_ H Q=>Q [] H
noncomputable def ygA (ta:TE)(tr:TA):TA:=fun σ H Q=>ta σ H λx H1=>tr σ H1 λxs H2=>Q (x :: xs) H2
section
variable {X:Cx} {e:Expr} {es:List Expr} {te:TE} {t:TA} {pos:Pos}
theorem yab:PA X [] ylX:=λ_ _ _ _ H Q I h=>Calls.spliced_nil ⟨[],H,I,.nil,h⟩
theorem yaa (ha:PE X e te)(hr:PA X es t)(hs:starEach (e :: es) X.env=(false,eval e X.env) :: starEach es X.env:=by rfl):PA X (e :: es) (ygA te t):=by
 intro pos pins s σ H Q I h
 rw[hs]
 show wpAny _ _ (spliced ((false,eval e X.env) :: backTo pos (starEach es X.env))) _ _ s
 refine Calls.spliced_cons (thn (ha pins s σ H _ I h) λu s1 ⟨x,H1,I1,r1,q1⟩=>?_)
 exact thn (hr pos pins s1 σ H1 _ I1 q1) λus s2 ⟨xs,H2,I2,r2,q2⟩=>⟨x :: xs,H2,I2,.cons r1 r2,q2⟩
noncomputable def ypc (t:TA):TE:=fun σ H Q=>t σ H λxs H1=>xs.length<=sizeLine/\∀ p,H1 p=none->Q (.ref p) (upd H1 p (.tup xs))
noncomputable def yoj (t:TA):TE:=fun σ H Q=>t σ H λxs H1=>xs.length<=sizeLine/\∀ p,H1 p=none->Q (.ref p) (upd H1 p (.lst xs))
theorem yay {x1}(h:PA X es t):PE X (.Tuple es x1 pos) (ypc t):=by
 intro pins s σ H Q I hq
 refine wpAny_Tuple_spliced (thn (h pos pins s σ H _ I hq) λus s1 ⟨xs,H1,I1,r,z,q⟩=>⟨by rw[← r.length];exact z,?_⟩)
 have hf:H1 s1.heap.objs.size=none:=I1.hok.fresh (Nat.le_refl _)
 refine⟨.ref s1.heap.objs.size,upd H1 s1.heap.objs.size (.tup xs),I1.laid (t':=s1.toks) (λb u e=>Heap.get?_push_of_some _ e) (Nat.le_refl _) ?_,rfl,q _ hf⟩
 exact⟨z,us,r,⟨_,Heap.get?_push_size _ rfl,rfl,_,rfl⟩⟩
theorem yaw (h:PA X es t):PE X (.List es pos) (yoj t):=by
 intro pins s σ H Q I hq
 refine wpAny_List_spliced (thn (h pos pins s σ H _ I hq) λus s1 ⟨xs,H1,I1,r,z,q⟩=>⟨by rw[← r.length];exact z,?_⟩)
 have hf:H1 s1.heap.objs.size=none:=I1.hok.fresh (Nat.le_refl _)
 refine⟨.ref s1.heap.objs.size,upd H1 s1.heap.objs.size (.lst xs),I1.laid (t':=s1.toks) (λb u e=>Heap.get?_push_of_some _ e) (Nat.le_refl _) ?_,rfl,q _ hf⟩
 exact⟨z,us,0,r,Heap.get?_push_size _ rfl⟩
end
noncomputable abbrev Sp:=List V->Hp->VK->XK->Prop
noncomputable abbrev CXT:=List Env->Hp->Shared->XK->Value->Shared->Prop
structure Env0 (P:Program) (w:World) (K:PySem.W.Frag) (mg:Str->Option Value) (base:Heap) (A:Around) (outer:List Env) (s:Shared) (H:Hp):Prop where
 frames:A.frames=some outer
 mod:Mod K mg base
 bs:∀ b o,base.get? b=some o->s.heap.get? b=some o/\H b=none
 bsz:base.objs.size<=s.heap.objs.size
 funs:s.heap.FunFrames base outer
 frf:∀ b∈frs outer,H b=none
 hok:HOk P w H s.heap
 bare:AllBare s.gens
noncomputable def CE (outer:List Env)(P:Program)(w:World)(H:Hp)(s:Shared)(Q:VK)(u:Value)(s':Shared):Prop :=
 ∃ v H',s'.os=s.os/\AllBare s'.gens/\Un (frs outer) [] H H' s.heap s'.heap/\HOk P w H' s'.heap/\RelV v u/\Q v H'
noncomputable def CR (CX:CXT)(outer:List Env)(P:Program)(w:World)(H:Hp)(s:Shared)(Q:VK)(E:XK)(r:Result)(s':Shared):Prop :=
 match r with
 | .ok (.ret u)=>CE outer P w H s Q u s'
 | .ok _=>False
 | .error e=>CX outer H s E e s'
structure FnOk (P:Program) (w:World) (K:PySem.W.Frag) (mg:Str->Option Value) (base:Heap) (CX:CXT) (k:Nat) (f:Addr) (fd:FuncData) (ps:List Str) (sp:Sp):Prop where
 len:∀ vs H Q E,sp vs H Q E->vs.length=ps.length
 run:∀ (A:Around) (outer:List Env) (s:Shared) (H:Hp) (args:Args) (us:List Value) (vs:List V) (Q:VK) (E:XK),Room k A->Env0 P w K mg base A outer s H->BindsTo s fd args (ps.zip us)->Vals vs us->sp vs H Q E ->
  codeAny (model P w) A (.call (.ref f) args) (CR CX outer P w H s Q E) s
theorem FnOk.mono {P:Program}{w:World}{K:PySem.W.Frag}{mg:Str->Option Value}{base:Heap}{CX:CXT}{j k:Nat}{f:Addr}{fd:FuncData}{ps:List Str}{sp:Sp}(F:FnOk P w K mg base CX j f fd ps sp)(h:j<=k) :
  FnOk P w K mg base CX k f fd ps sp:=⟨F.len,λA outer s H args us vs Q E hr=>F.run A outer s H args us vs Q E (hr.mono h)⟩
theorem FnOk.imp {P:Program}{w:World}{K:PySem.W.Frag}{mg:Str->Option Value}{base:Heap}{CX:CXT}{k:Nat}{f:Addr}{fd:FuncData}{ps:List Str}{sp sp':Sp}(F:FnOk P w K mg base CX k f fd ps sp)
  (h:∀ vs H Q E,sp' vs H Q E->sp vs H Q E):FnOk P w K mg base CX k f fd ps sp' :=
 ⟨λvs H Q E q=>F.len vs H Q E (h _ _ _ _ q),λA outer s H args us vs Q E hr he hb hv hs=>F.run A outer s H args us vs Q E hr he hb hv (h _ _ _ _ hs)⟩
theorem Env0.make {P:Program}{w:World}{K:PySem.W.Frag}{mg:Str->Option Value}{base:Heap}{A:Around}{outer:List Env}{s:Shared}{H:Hp}(e:Env0 P w K mg base A outer s H)(C:Addr)(us:List Value)(kw:List (Str×Value)) :
  Env0 P w K mg base (A.under (.builtin "type.__call__" ⟨.ref C :: us,kw⟩)) outer s H:=⟨by first | exact e.frames | (simpa [Around.under,Code.envs,Code.isFrame,pushEnvs] using e.frames),e.mod,e.bs,e.bsz,e.funs,e.frf,e.hok,e.bare⟩
section
variable {X:Cx} {pins:List (Addr×Obj)} {σ:St} {H:Hp} {s s':Shared}
theorem Inv.env0 (I:Inv X pins σ H s):Env0 X.prog X.w X.K X.mg X.base X.A X.stack s H :=
 ⟨I.ok.frames,I.ok.mod,I.bs,Nat.le_trans I.ok.bsz I.sz,I.stack,I.stkFree,I.hok,I.bare⟩
theorem Inv.after {Q:VK}{u:Value}(I:Inv X pins σ H s)(h:CE X.stack X.prog X.w H s Q u s'):EP X pins σ Q u s':=by
 obtain⟨v,H',os,bare,un,hok,r,q⟩:=h
 obtain⟨hh,g,d,t,os'⟩:=s'
 obtain rfl:os'=s.os:=os
 exact⟨v,H',I.call (h':=hh) (g':=g) (d':=d) (t':=t) (ch:=[]) un hok bare (λb z=>absurd z (by simp)),r,q⟩
end
noncomputable def yhV (sp:Sp)(dvs:List V)(E:XK)(t:TA):TE:=fun σ H Q=>t σ H λvs H1=>sp (vs++dvs) H1 Q E
noncomputable def ymd (C:Addr)(m:Str)(sp:Sp)(dvs:List V)(E:XK)(ta:TE)(t:TA):TE:=fun σ H Q=>ta σ H λx H1=>∃ a dx fs,x=.ref a/\H1 a=some (.ins C dx fs)/\fs.lookup m=none /\
 t σ H1 λvs H2=>sp (x :: (vs++dvs)) H2 Q E
noncomputable def ym0 (C:Addr)(sp:Sp)(dvs:List V)(E:XK)(t:TA):TE:=fun σ H Q=>t σ H λvs H1=>∀ x dx,H1 x=none->H1 dx=none->dx≠x ->
 sp (.ref x :: (vs++dvs)) (upd (upd H1 dx (.own x)) x (.ins C dx [])) (λv H2=>v=.non/\Q (.ref x) H2) E
noncomputable def Binds (K:PySem.W.Frag)(fd:FuncData)(ps:List Str)(ds:List Value):Prop :=
 ∀ (s:Shared) (us:List Value),K.In s.heap->(us++ds).length=ps.length->BindsTo s fd ⟨us,[]⟩ (ps.zip (us++ds))
theorem Binds.all {K:PySem.W.Frag}{fd:FuncData}{ps:List Str}(h:∀ us:List Value,us.length=ps.length->bindArgs fd ⟨us,[]⟩=pure (ps.zip us)):Binds K fd ps []:=λs us _ hl=>by
 rw[List.append_nil] at hl ⊢
 exact .of_eq (h us hl)
noncomputable def ycD (CX:CXT)(X:Cx)(E:XK):Prop:=∀ (pins:List (Addr×Obj)) (σ:St) (H:Hp) (s:Shared) (e:Value) (s':Shared),Inv X pins σ H s->CX X.stack H s E e s'->X.xe e s'
section
variable {X:Cx} {CX:CXT} {k:Nat} {f C:Addr} {fd:FuncData} {ps:List Str} {sp:Sp} {dvs:List V} {ds:List Value} {E:XK} {x m:Str} {p pos apos:Pos} {e o:Expr} {es:List Expr} {ta:TE} {t:TA}
theorem yev {pins:List (Addr×Obj)}{σ:St}{H:Hp}{s:Shared}{Q:VK}{us:List Value}{vs:List V}(F:FnOk X.prog X.w X.K X.mg X.base CX k f fd ps sp)(hr:Room k X.A)(hb:Binds X.K fd ps ds)(hd:Vals dvs ds)(hx:ycD CX X E)
  (I:Inv X pins σ H s) (r:Vals vs us) (h:sp (vs++dvs) H Q E):wpAny (model X.prog X.w) X.A (call (.ref f) us) (EP X pins σ Q) X.xe s:=by
 have r2:Vals (vs++dvs) (us++ds):=r.append hd
 have hl:(us++ds).length=ps.length:=by rw[← r2.length];exact F.len _ _ _ _ h
 refine wpAny_call (codeAny_mono (F.run X.A X.stack s H ⟨us,[]⟩ (us++ds) (vs++dvs) Q E hr I.env0 (hb s us I.kIn hl) r2 h) λr s' hq=>?_)
 cases r with
 | error e=>exact hx pins σ H s e s' I hq
 | ok fl =>
  cases fl with
  | ret u=>exact I.after hq
  | next=>exact False.elim hq
  | brk=>exact False.elim hq
  | cont=>exact False.elim hq
theorem ymh (F:FnOk X.prog X.w X.K X.mg X.base CX k f fd ps sp)(hr:Room k X.A)(hg:Gl X x)(hm:X.mg x=some (.ref f))(hk:PySem.W.keepIn X.K (.ref f)=true)(hb:Binds X.K fd ps ds)(hd:Vals dvs ds)(hx:ycD CX X E)
  (ha:PA X (e :: es) t) (hdb:(x==("__debug__" : Str))=false:=by decide) (he:starEach (e :: es) X.env=(false,eval e X.env) :: starEach es X.env:=by rfl) (hpl:(backTo pos (starEach es X.env)).any (·.1)=false:=by rfl) :
  PE X (.Call (.Name x p) (e :: es) [] pos) (yhV sp dvs E t):=by
 intro pins s σ H Q I h
 refine wpAny_Call_Name_kw (ycd I hg hm ?_ hdb)
 refine PySem.W.callWith_K (h₀:=X.base) I.ok.mod.kin hk (thn (ha pos pins s σ H _ I h) λus s1 ⟨vs,H1,I1,r,q⟩=>⟨I1.kIn,?_⟩) he hpl
 exact yev F hr hb hd hx I1 r q
theorem ymK {pl:Sem Bool}(he:PE X o ta)(c:Cls X.K C)(hm:yis X.K C m f)(F:FnOk X.prog X.w X.K X.mg X.base CX k f fd ps sp)(hr:Room k X.A)(hb:Binds X.K fd ps ds)(hd:Vals dvs ds)(hx:ycD CX X E)(ha:PA X (e :: es) t)
  (hst:starEach (e :: es) X.env=(false,eval e X.env) :: starEach es X.env:=by rfl) (hpl:(backTo pos (starEach es X.env)).any (·.1)=false:=by rfl)
  (ht:eval (.Call (.Attribute o m apos) (e :: es) [] pos) X.env=(do
   let ov ← eval o X.env
   standAt apos.atName
   let (f,first) ← holding [ov] (getMethod ov m pl)
   callWith pos f first (backTo pos (starEach (e :: es) X.env)) (backToKw pos (keywordEach [] X.env))):=by rfl) :
  PE X (.Call (.Attribute o m apos) (e :: es) [] pos) (ymd C m sp dvs E ta t):=by
 intro pins s σ H Q I h
 refine PySem.W.methodCall_KW (pl:=pl) (thn (he pins s σ H _ I h) λu s1 ⟨x,H1,I1,rx,a,dx,fs,ex,ea,l,q⟩=>?_) ht
 subst ex
 obtain rfl:u=Value.ref a:=rx
 refine ydp I1 ea c hm l ?_
 refine PySem.W.callWith_K (first:=[.ref a]) (h₀:=X.base) I.ok.mod.kin hm.kp (thn (ha pos pins s1 σ H1 _ I1 q) λus s2 ⟨vs,H2,I2,r,q2⟩=>⟨I2.kIn,?_⟩) hst hpl
 exact yev (us:=.ref a :: us) (vs:=.ref a :: vs) F hr hb hd hx I2 (.cons rfl r) q2
theorem ydG {pl:Sem Bool}(he:PE X o ta)(c:Cls X.K C)(hm:yis X.K C m f)(F:FnOk X.prog X.w X.K X.mg X.base CX k f fd ps sp)(hr:Room k X.A)(hb:Binds X.K fd ps ds)(hd:Vals dvs ds)(hx:ycD CX X E)
  (ht:eval (.Call (.Attribute o m apos) [] [] pos) X.env=(do
   let ov ← eval o X.env
   standAt apos.atName
   let (f,first) ← holding [ov] (getMethod ov m pl)
   callWith pos f first (backTo pos (starEach [] X.env)) (backToKw pos (keywordEach [] X.env))):=by rfl) :
  PE X (.Call (.Attribute o m apos) [] [] pos) (ymd C m sp dvs E ta ylX):=by
 intro pins s σ H Q I h
 refine PySem.W.methodCall_KW (pl:=pl) (thn (he pins s σ H _ I h) λu s1 ⟨x,H1,I1,rx,a,dx,fs,ex,ea,l,q⟩=>?_) ht
 subst ex
 obtain rfl:u=Value.ref a:=rx
 refine ydp I1 ea c hm l ?_
 exact PySem.W.callWith_K0 (first:=[.ref a]) I1.kIn hm.kp (yev (us:=[.ref a]) (vs:=[.ref a]) F hr hb hd hx I1 (.cons rfl .nil) q)
structure Mk (K:PySem.W.Frag) (C f:Addr):Prop where
 makes:PySem.W.makesIn K C=true
 init:PySem.W.findIn K (.ref C) "__init__"=some (some (.ref f))
 fn:PySem.W.isFn K (.ref f)=true
 kp:PySem.W.keepIn K (.ref C)=true
theorem ykh {pins:List (Addr×Obj)}{σ:St}{H:Hp}{s:Shared}{Q:VK}{us:List Value}{vs:List V}(M:Mk X.K C f)(F:FnOk X.prog X.w X.K X.mg X.base CX k f fd ps sp)(hr:Room (k+1) X.A)(hb:Binds X.K fd ps ds)(hd:Vals dvs ds)
  (hx:ycD CX X E) (I:Inv X pins σ H s) (r:Vals vs us)
  (h:∀ x dx,H x=none->H dx=none->dx≠x->sp (.ref x :: (vs++dvs)) (upd (upd H dx (.own x)) x (.ins C dx [])) (λv H2=>v=.non/\Q (.ref x) H2) E) :
  wpAny (model X.prog X.w) X.A (call (.ref C) us) (EP X pins σ Q) X.xe s:=by
 have hq:=h (s.heap.objs.size+1) s.heap.objs.size (I.hok.fresh (Nat.le_succ _)) (I.hok.fresh (Nat.le_refl _)) (Nat.ne_of_lt (Nat.lt_succ_self _))
 have I2:=Inv.made (C:=C) I
 have r2:Vals (V.ref (s.heap.objs.size+1) :: (vs++dvs)) (Value.ref (s.heap.objs.size+1) :: (us++ds)):=.cons rfl (r.append hd)
 have hl:(Value.ref (s.heap.objs.size+1) :: us++ds).length=ps.length:=by
  have e:=r2.length
  rw[F.len _ _ _ _ hq] at e
  exact e.symm
 refine wpAny_call (ylb (f:=f) I.kIn M.makes M.init (beq_iff_eq.mp M.fn) (codeAny_mono (F.run _ X.stack _ _ ⟨Value.ref (s.heap.objs.size+1) :: us,[]⟩ (Value.ref (s.heap.objs.size+1) :: (us++ds)) _ _ E (hr.make C us [])
  (I2.env0.make C us []) (hb _ (Value.ref (s.heap.objs.size+1) :: us) I2.kIn hl) r2 hq) λr s' hq'=>?_))
 cases r with
 | error e=>exact hx pins σ _ _ e s' I2 hq'
 | ok fl =>
  cases fl with
  | ret u =>
   obtain⟨v,H',I3,rv,ev,q3⟩:=I2.after hq'
   subst ev
   exact⟨rv,⟨V.ref (s.heap.objs.size+1),H',I3,rfl,q3⟩⟩
  | next=>exact False.elim hq'
  | brk=>exact False.elim hq'
  | cont=>exact False.elim hq'
theorem yfp (M:Mk X.K C f)(F:FnOk X.prog X.w X.K X.mg X.base CX k f fd ps sp)(hr:Room (k+1) X.A)(hg:Gl X x)(hm:X.mg x=some (.ref C))(hb:Binds X.K fd ps ds)(hd:Vals dvs ds)(hx:ycD CX X E)
  (ha:PA X (e :: es) t) (hdb:(x==("__debug__" : Str))=false:=by decide) (he:starEach (e :: es) X.env=(false,eval e X.env) :: starEach es X.env:=by rfl) (hpl:(backTo pos (starEach es X.env)).any (·.1)=false:=by rfl) :
  PE X (.Call (.Name x p) (e :: es) [] pos) (ym0 C sp dvs E t):=by
 intro pins s σ H Q I h
 refine wpAny_Call_Name_kw (ycd I hg hm ?_ hdb)
 refine PySem.W.callWith_K (h₀:=X.base) I.ok.mod.kin M.kp (thn (ha pos pins s σ H _ I h) λus s1 ⟨vs,H1,I1,r,q⟩=>⟨I1.kIn,?_⟩) he hpl
 exact ykh M F hr hb hd hx I1 r q
end
section
variable {X:Cx} {CX:CXT} {k:Nat} {f C:Addr} {fd:FuncData} {ps ks:List Str} {sp:Sp} {E:XK} {x m:Str} {p pos apos kpos:Pos} {e o:Expr} {es:List Expr} {kws:List Keyword} {te ta:TE} {t tk:TA} {nm:Option Str}
structure yrL (K:PySem.W.Frag) (fd:FuncData) (ps ks:List Str) (g:List Value->List Value->List Value) (gV:List V->List V->List V):Prop where
 to:∀ (s:Shared) (us ws:List Value),K.In s.heap->(g us ws).length=ps.length->BindsTo s fd ⟨us,ks.zip ws⟩ (ps.zip (g us ws))
 rel:∀ {vs:List V} {us:List Value} {zs:List V} {ws:List Value},Vals vs us->Vals zs ws->Vals (gV vs zs) (g us ws)
variable {g:List Value->List Value->List Value} {gV:List V->List V->List V}
end
structure yan (N P:List Str) (sc:Scope):Prop where
 kind:sc.kind=.function
 co:sc.isCoroutine=false
 gen:sc.isGenerator=false
 nd:N.Nodup
 pre:N.take P.length=P
 par:∀ x∈P,sc.names.lookup x=some .local∨sc.names.lookup x=some .cell
 nofree:∀ y∈sc.names,y.2≠.free
theorem yf4 {kindOf:Str->Option NameKind}{x:Str}:∀ {binds:List (Str×Value)} {m:Str->Option Value},(∀ v,(x,v)∉binds)->bindL kindOf binds m x=m x
 | [],_,_=>rfl
 | (n,v) :: r,m,h=>by
  unfold bindL
  rw[yf4 λw hw=>h w (List.mem_cons_of_mem _ hw)]
  split
  ·have:x≠n:=by rintro rfl;exact h v List.mem_cons_self
   simp[this]
  ·rfl
theorem ygt {kindOf:Str->Option NameKind}{x:Str}:∀ {binds:List (Str×Value)} {m:Str->Option Value},(∀ v,(x,v)∉binds)->bindC kindOf binds m x=m x
 | [],_,_=>rfl
 | (n,v) :: r,m,h=>by
  unfold bindC
  rw[ygt λw hw=>h w (List.mem_cons_of_mem _ hw)]
  split
  ·rfl
  ·have:x≠n:=by rintro rfl;exact h v List.mem_cons_self
   simp[this]
theorem ydW {kindOf:Str->Option NameKind}{x:Str}{v:Value}:∀ {P:List Str} {vs:List Value} {i:Nat} {m:Str->Option Value},P.Nodup->P[i]?=some x->vs[i]?=some v->kindOf x=some .local ->
  bindL kindOf (P.zip vs) m x=some v
 | [],_,_,_,_,h,_,_=>by simp at h
 | _ :: _,[],_,_,_,_,h,_=>by simp at h
 | p :: P,w :: vs,0,m,nd,h1,h2,hk=>by
  simp at h1 h2;subst h1;subst h2
  show bindL kindOf ((p,w) :: P.zip vs) m p=_
  unfold bindL
  rw[yf4 λv hv=>(List.nodup_cons.mp nd).1 (List.of_mem_zip hv).1,if_pos hk]
  simp
 | p :: P,w :: vs,i+1,m,nd,h1,h2,hk=>by
  show bindL kindOf ((p,w) :: P.zip vs) m x=_
  unfold bindL
  exact ydW (i:=i) (List.nodup_cons.mp nd).2 (by simpa using h1) (by simpa using h2) hk
theorem ydV {kindOf:Str->Option NameKind}{x:Str}{v:Value}:∀ {P:List Str} {vs:List Value} {i:Nat} {m:Str->Option Value},P.Nodup->P[i]?=some x->vs[i]?=some v->kindOf x≠some .local ->
  bindC kindOf (P.zip vs) m x=some v
 | [],_,_,_,_,h,_,_=>by simp at h
 | _ :: _,[],_,_,_,_,h,_=>by simp at h
 | p :: P,w :: vs,0,m,nd,h1,h2,hk=>by
  simp at h1 h2;subst h1;subst h2
  show bindC kindOf ((p,w) :: P.zip vs) m p=_
  unfold bindC
  rw[ygt λv hv=>(List.nodup_cons.mp nd).1 (List.of_mem_zip hv).1,if_neg hk]
  simp
 | p :: P,w :: vs,i+1,m,nd,h1,h2,hk=>by
  show bindC kindOf ((p,w) :: P.zip vs) m x=_
  unfold bindC
  exact ydV (i:=i) (List.nodup_cons.mp nd).2 (by simpa using h1) (by simpa using h2) hk
noncomputable def start (N:List Str)(vs:List V):St:=vs.map some++List.replicate (N.length - vs.length) none
noncomputable def ydH (CX:CXT)(P:Program)(w:World)(K:PySem.W.Frag)(mg:Str->Option Value)(base:Heap)(N:List Str)(qual:Str)(scope:Scope)(f:Addr)(cd:Value)(A:Around)(outer:List Env)(s:Shared)(H:Hp)(E:XK):Cx where
 prog:=P
 w:=w
 K:=K
 mg:=mg
 base:=base
 A:=A.deeper (envOfC qual scope s.heap.objs.size f cd)
 N:=N
 s₀:=s
 H₀:=H
 env:=envOfC qual scope s.heap.objs.size f cd
 outer:=outer
 stack:=envOfC qual scope s.heap.objs.size f cd :: outer
 ex:=[]
 calm:=true
 fn:=λ_=>true
 pn:=[]
 xe:=λe s'=>wpAny (model P w) (A.deeper (envOfC qual scope s.heap.objs.size f cd)) (leaving (envOfC qual scope s.heap.objs.size f cd) e) (λ_ s''=>CX outer H s E e s'') (λe' s''=>CX outer H s E e' s'') s'
theorem ydD {sc:Scope}{n:Nat}{x:Str}(h:sc.names.lookup x=some .cell):∃ c,(cellsFrom n sc.names []).lookup x=some c:=by
 have q:=PySem.W.cellsFrom_some sc.names n [] (.inl h)
 exact Option.isSome_iff_exists.mp q
theorem yf3 {CX:CXT}{P:Program}{w:World}{K:PySem.W.Frag}{mg:Str->Option Value}{base:Heap}{N ps:List Str}{qual:Str}{scope:Scope}{f:Addr}{cd:Value}{A:Around}{outer:List Env}{s s1:Shared}{H:Hp}{E:XK}{us:List Value}{vs:List V}
  (S:yan N ps scope) (hd:A.handled=none) (e0:Env0 P w K mg base A outer s H) (hl:vs.length=ps.length) (r:Vals vs us)
  (x:InCallC s s.heap.objs.size (bindL (envOfC qual scope s.heap.objs.size f cd).kindOf (ps.zip us) λ_=>none) (cellsFrom (s.heap.objs.size+1) scope.names []) (bindC (envOfC qual scope s.heap.objs.size f cd).kindOf (ps.zip us) λ_=>none) s1) :
  Inv (ydH CX P w K mg base N qual scope f cd A outer s H E) [] (start N vs) H s1:=by
 have hpl:ps.length<=N.length:=by have:=congrArg List.length S.pre;rw[List.length_take] at this;omega
 obtain⟨h1,tk,rfl,hk⟩:=x.done
 have noA:∀ b:Addr,b∉(ydH CX P w K mg base N qual scope f cd A outer s H E).ex:=λb z=>absurd (show b∈([]:List Addr) from z) (by simp)
 refine⟨⟨e0.mod,S.kind,rfl,rfl,Nat.le_refl _,λy z c h1 h2=>?_,λy hy=>?_,λy c _ h=>?_,λ_=>hd,Around.frames_deeper e0.frames,.inr ⟨rfl,rfl⟩,λb z=>absurd z (noA b),e0.bs,e0.bsz,λb _ _=>noA b,λb z=>absurd z (noA b),e0.funs,e0.frf⟩,
  rfl,e0.bare,Un.kept hk,⟨_,x.toInCall.ns,λi y v h1 h2 h3=>?_⟩,λy c h=>⟨_,x.cell y c h⟩,e0.hok.fresh (Nat.le_refl _),λy c h=>?_,λp hp=>absurd (show p∈([]:List (Addr×Obj)) from hp) (by simp),e0.hok.kept hk,?_⟩
 ·exact name_of_addr x.apart (PySem.mem_of_lookup h1) (PySem.mem_of_lookup h2)
 ·have hy:scope.names.lookup y=some .cell∨scope.names.lookup y=some .free:=hy
  rcases hy with hy | hy
  ·exact ydD hy
  ·exact absurd rfl (S.nofree _ (PySem.mem_of_lookup hy))
 ·exact Nat.le_of_lt (x.above y c (PySem.mem_of_lookup h))
 ·have hi:i < vs.length:=by
   unfold start at h2
   by_cases hi:i < vs.length
   ·exact hi
   ·rw[List.getElem?_append_right (by simpa using hi)] at h2
    rw[List.getElem?_replicate] at h2
    split at h2<;>cases h2
  have ha:vs[i]?=some v:=by
   unfold start at h2
   rw[List.getElem?_append_left (by simpa using hi),List.getElem?_map] at h2
   cases e:vs[i]? with
   | none=>rw[e] at h2;cases h2
   | some a=>rw[e] at h2;cases h2;rfl
  obtain⟨u,hu,rv⟩:=r.get ha
  have hp:ps[i]?=some y:=by
   rw[← S.pre,List.getElem?_take_of_lt (by omega)];exact h1
  have ndP:ps.Nodup:=by rw[← S.pre];exact S.nd.sublist (List.take_sublist _ _)
  refine⟨u,rv,?_⟩
  rcases S.par y (List.mem_of_getElem? hp) with k | k
  ·exact .inl ⟨k,ydW ndP hp hu k⟩
  ·obtain⟨c,e⟩:=ydD (n:=s.heap.objs.size+1) k
   refine .inr ⟨.inl k,c,e,?_⟩
   have q:=x.cell y c e
   rw[ydV ndP hp hu (by show scope.names.lookup y≠_;rw[k];decide)] at q
   exact q
 ·exact e0.hok.fresh (Nat.le_of_lt (x.above y c (PySem.mem_of_lookup h)))
 ·unfold start
  show _=N.length
  rw[List.length_append,List.length_map,List.length_replicate]
  omega
theorem yoz {CX:CXT}{P:Program}{w:World}{K:PySem.W.Frag}{mg:Str->Option Value}{base:Heap}{k:Nat}{f:Addr}{name qual:Str}{params:Arguments}{body:List Stmt}{scope:Scope}{dV kV doc pm cdv ct oc:Value}{an od:Option Addr}
  {osl:Array (Option Value)} {N ps:List Str} {sp:Sp} (lk:K.lookup f=some ⟨oc,od,.func (PySem.W.fnOf name qual params body scope dV kV doc pm an cdv ct),osl⟩) (hcd:PySem.W.codeIn K cdv qual=true) (S:yan N ps scope)
  (len:∀ vs H Q E,sp vs H Q E->vs.length=ps.length)
  (hbody:∀ (A:Around) (outer:List Env) (s:Shared) (H:Hp) (vs:List V) (Q:VK) (E:XK),Room k (A.deeper (envOfC qual scope s.heap.objs.size f cdv))->sp vs H Q E ->
   ∃ t,PSs (ydH CX P w K mg base N qual scope f cdv A outer s H E) body t/\t { nx:=λ_ H'=>Q .non H',rt:=Q } (start N vs) H) :
  FnOk P w K mg base CX (k+1) f (PySem.W.fnOf name qual params body scope dV kV doc pm an cdv ct) ps sp:=by
 refine⟨len,λA outer s H args us vs Q E hr e0 hb r hsp=>?_⟩
 have hl:=len _ _ _ _ hsp
 have KX:K.In s.heap:=e0.mod.kin.keeps λb o e=>(e0.bs b o e).1
 have lim:s.heap.NoLimit:=e0.mod.nolimit.keeps λb o e=>(e0.bs b o e).1
 have hkind:∀ y∈ps.zip us,scope.names.lookup y.1=some .local∨(scope.names.lookup y.1=some .cell/\((cellsFrom (s.heap.objs.size+1) scope.names []).lookup y.1).isSome=true):=λ⟨n,v⟩ hy=>by
  rcases S.par n (List.of_mem_zip hy).1 with q | q
  ·exact .inl q
  ·exact .inr ⟨q,PySem.W.cellsFrom_some _ _ _ (.inl q)⟩
 refine codeAny_call_function hr.depth (KX _ _ lk) rfl S.co S.gen rfl (PySem.W.codeRec_of KX hcd) (hb _ _ _ _ ?_)
 refine wpAny_newFunctionEnv_cells S.kind hkind λenv he s1 x=>?_
 subst he
 refine⟨lim.keeps x.toInCall.keep,codeAny_func ?_⟩
 obtain⟨t,ht,hq⟩:=hbody A outer s H vs Q E (hr.deeper _) hsp
 have I:Inv (ydH CX P w K mg base N qual scope f cdv A outer s H E) [] (start N vs) H s1:=yf3 S hr.hd e0 hl r x
 refine wpAny_mono (ht [] s1 (start N vs) H _ I hq) (λfl s' hs=>?_) λe s' hs=>hs
 have fin:∀ {σ':St} {H':Hp} {v:V} {u:Value},Inv (ydH CX P w K mg base N qual scope f cdv A outer s H E) [] σ' H' s'->RelV v u->Q v H'->CE outer P w H s Q u s' :=
  λ{σ' H' v u} J rv q=>⟨v,H',J.os,J.bare,J.base,J.hok,rv,q⟩
 cases fl with
 | ret u =>
  obtain⟨v,σ',H',J,rv,q⟩:=hs
  exact fin J rv q
 | next =>
  obtain⟨σ',H',J,q⟩:=hs
  exact fin (v:=V.non) (u:=Value.none) J rfl q
 | brk =>
  obtain⟨_,_,_,q⟩:=hs
  exact False.elim q
 | cont =>
  obtain⟨_,_,_,q⟩:=hs
  exact False.elim q
section
variable {X:Cx} {x:Str} {p pos:Pos} {e:Expr} {es:List Expr} {t:TA} {id T:String} {r:List V->Hp->VK->Prop}
noncomputable def tCB (r:List V->Hp->VK->Prop)(t:TA):TE:=fun σ H Q=>t σ H λvs H1=>r vs H1 Q
theorem yal (hc:yb5 X (.builtin id) r)(hg:Gl X x)(hm:X.mg x=none)(hv:bootBuiltins x=some (.builtin id))(ha:PA X (e :: es) t)(hn:x≠"__name__":= by decide)(hdb:(x==("__debug__" : Str))=false:=by decide)
  (he:starEach (e :: es) X.env=(false,eval e X.env) :: starEach es X.env:=by rfl) (hpl:(backTo pos (starEach es X.env)).any (·.1)=false:=by rfl):PE X (.Call (.Name x p) (e :: es) [] pos) (tCB r t):=by
 intro pins s σ H Q I h
 refine wpAny_Call_Name_kw (ycG I hg hm hv ?_ hn hdb)
 exact PyProof.Rows.callWith_builtin1 (thn (ha pos pins s σ H _ I h) λus s1 ⟨vs,H1,I1,r1,q1⟩=>hc pins s1 σ H1 vs us Q I1 r1 q1) he hpl
theorem ybD (hc:yb5 X (.type T) r)(hg:Gl X x)(hm:X.mg x=none)(hv:bootBuiltins x=some (.type T))(ha:PA X (e :: es) t)(hn:x≠"__name__":= by decide)(hdb:(x==("__debug__" : Str))=false:=by decide)
  (he:starEach (e :: es) X.env=(false,eval e X.env) :: starEach es X.env:=by rfl) (hpl:(backTo pos (starEach es X.env)).any (·.1)=false:=by rfl):PE X (.Call (.Name x p) (e :: es) [] pos) (tCB r t):=by
 intro pins s σ H Q I h
 refine wpAny_Call_Name_kw (ycG I hg hm hv ?_ hn hdb)
 exact PyProof.Rows.callWith_type1 (thn (ha pos pins s σ H _ I h) λus s1 ⟨vs,H1,I1,r1,q1⟩=>hc pins s1 σ H1 vs us Q I1 r1 q1) he hpl
end
end L2
namespace HT
open PySem PyProof.Rows
section
open PySem.SeqAt
open PySem.AutoSeq1 (wpAny_loadPart')
open PySem.MeetsSeq PySem.MeetsSeq2 PySem.MeetsSeq3
end
section
variable {prog:Program} {w:World} {A:Around} {E:Value->Shared->Prop} {s:Shared}
noncomputable def sIx (n d:Nat):Option Int->Nat
 | none=>d
 | some v=>if v < 0 then (v+(n:Int)).toNat else min v.toNat n
theorem sIx_none (n d:Nat):sIx n d none=d:=rfl
theorem sIx_nat (n d k:Nat):sIx n d (some (k:Int))=min k n:=by
 show(if (k:Int) < 0 then ((k:Int)+(n:Int)).toNat else min (k:Int).toNat n)=min k n
 rw[if_neg (by omega),Int.toNat_natCast]
end
end HT
namespace L2
open PySem PySem.Spec PyProof.Rows
noncomputable abbrev TO:=St->Hp->(Option Int->Hp->Prop)->Prop
noncomputable def PO (X:Cx)(e:Option Expr)(t:TO):Prop :=
 ∀ (pins:List (Addr×Obj)) (s:Shared) (σ:St) (H:Hp) (Q:Option Int->Hp->Prop),Inv X pins σ H s->t σ H Q ->
  wpAny (model X.prog X.w) X.A (evalPart e X.env) (λu s'=>∃ o H',Inv X pins σ H' s'/\IsPart u o/\Q o H') X.xe s
noncomputable def ygD:TO:=λ_ H Q=>Q none H
noncomputable def ymi (t:TE):TO:=fun σ H Q=>t σ H λx H1=>∃ i,x=.int i/\Q (some i) H1
section
variable {X:Cx} {e:Expr} {te:TE} {lo hi:Option Expr} {tl th:TO} {pos p2:Pos}
theorem ydP:PO X none ygD:=by
 intro pins s σ H Q I h
 rw[evalPart_none]
 exact wpAny_pure ⟨none,H,I,.none,h⟩
theorem ydN (h:PE X e te):PO X (some e) (ymi te):=by
 intro pins s σ H Q I hw
 rw[evalPart_some]
 refine thn (h pins s σ H _ I hw) λu s1 ⟨x,H1,I1,r1,q1⟩=>?_
 obtain⟨i,rfl,q⟩:=q1
 obtain⟨t,rfl⟩:=r1
 exact⟨some i,H1,I1,.int i t,q⟩
noncomputable def SlR (X:Cx)(r:V->Option Int->Option Int->Hp->VK->Prop):Prop :=
 ∀ (pins:List (Addr×Obj)) (s:Shared) (σ:St) (H:Hp) (x:V) (v vl vu:Value) (lo hi:Option Int) (sl:Addr) (Q:VK),Inv X pins σ H s->RelV x v->s.heap.IsSliceOf sl vl vu .none->IsPart vl lo->IsPart vu hi->r x lo hi H Q ->
  ∃ T id,typeLookup (.type T) "__getitem__"=pure (some (.builtin id))/\s.TypeIs v T/\wpAny (model X.prog X.w) X.A (getItem v (.ref sl)) (EP X pins σ Q) X.xe s
noncomputable def tSl (r:V->Option Int->Option Int->Hp->VK->Prop)(te:TE)(tl th:TO):TE:=fun σ H Q=>te σ H λx H1=>tl σ H1 λl H2=>th σ H2 λu H3=>r x l u H3 Q
theorem yc9 {r:V->Option Int->Option Int->Hp->VK->Prop}(hr:SlR X r)(he:PE X e te)(hl:PO X lo tl)(hu:PO X hi th):PE X (.Subscript e (.Slice lo hi none p2) pos) (tSl r te tl th):=by
 intro pins s σ H Q I h
 refine Subscript_ (thn (he pins s σ H _ I h) λv s1 ⟨x,H1,I1,r1,q1⟩=>?_)
 refine wpAny_Slice (thn (hl pins s1 σ H1 _ I1 q1) λvl s2 ⟨l,H2,I2,pl,q2⟩=>thn (hu pins s2 σ H2 _ I2 q2) λvu s3 ⟨u,H3,I3,pu,q3⟩=>?_)
 rw[evalPart_none]
 refine wpAny_pure ?_
 have I4:Inv X pins σ H3 { s3 with heap:=s3.heap.push { cls:=.type "slice",data:=.fields #[vl,vu,.none] } }:=I3.kept (t':=s3.toks) λb ob q=>Heap.get?_push_of_some _ q
 obtain⟨T,id,hT,ht,hg⟩:=hr pins { s3 with heap:=s3.heap.push { cls:=.type "slice",data:=.fields #[vl,vu,.none] } } σ H3 x v vl vu l u s3.heap.objs.size Q I4 r1 (Heap.IsSliceOf.new ..) pl pu q3
 show wpAny (model X.prog X.w) X.A (subscriptTail e (.Slice lo hi none p2) v (.ref s3.heap.objs.size)) (EP X pins σ Q) X.xe { s3 with heap:=s3.heap.push { cls:=.type "slice",data:=.fields #[vl,vu,.none] } }
 exact tail_any (ops:=[.ref s3.heap.objs.size,v]) ht hT hg (by with_unfolding_all rfl)
noncomputable def ygL (xs:List V)(lo hi:Option Int):List V:=(xs.drop (HT.sIx xs.length 0 lo)).take (HT.sIx xs.length xs.length hi - HT.sIx xs.length 0 lo)
theorem ygP (xs:List V)(lo hi:Option Int):(ygL xs lo hi).length<=xs.length:=by
 unfold ygL
 rw[List.length_take,List.length_drop]
 omega
end
noncomputable def ixN (n:Nat)(i:Int):Option Nat:=if 0<=i then (if i < n then some i.toNat else none) else if -(n:Int)<=i then some (i+n).toNat else none
noncomputable def atI {α:Type}(xs:List α)(i:Int):Option α:=(ixN xs.length i).bind λj=>xs[j]?
theorem yiB {n:Nat}{i:Int}{j:Nat}(h:ixN n i=some j):seqIndex? i n=some j/\j < n/\-(n:Int)<=i/\i < n:=by
 unfold ixN at h
 by_cases h0:0<=i
 ·rw[if_pos h0] at h
  by_cases h1:i < n
  ·rw[if_pos h1] at h
   have e:i.toNat=j:=Option.some.inj h
   exact⟨by rw[seqIndex_of h0 h1,e],by omega,by omega,h1⟩
  ·rw[if_neg h1] at h;cases h
 ·rw[if_neg h0] at h
  by_cases h1:-(n:Int)<=i
  ·rw[if_pos h1] at h
   have e:(i+n).toNat=j:=Option.some.inj h
   exact⟨by rw[seqIndex_neg (by omega) h1,e],by omega,h1,by omega⟩
  ·rw[if_neg h1] at h;cases h
theorem yiQ {α:Type}{xs:List α}{i:Int}{v:α}(h:atI xs i=some v):∃ j,seqIndex? i xs.length=some j/\xs[j]?=some v/\j < xs.length/\-(xs.length:Int)<=i/\i < xs.length:=by
 unfold atI at h
 cases e:ixN xs.length i with
 | none=>rw[e] at h;cases h
 | some j =>
  rw[e] at h
  obtain⟨h1,h2,h3,h4⟩:=yiB e
  exact⟨j,h1,h,h2,h3,h4⟩
theorem yak {α:Type}{xs:List α}{j:Nat}{v:α}(h:xs[j]?=some v):atI xs (j:Int)=some v:=by
 have hj:j < xs.length:=(List.getElem?_eq_some_iff.mp h).1
 have e:ixN xs.length (j:Int)=some j:=by
  unfold ixN
  rw[if_pos (by omega),if_pos (by omega)];simp
 unfold atI;rw[e];exact h
theorem ybx {α:Type}(xs:List α)(v:α):atI (xs++[v]) (-1)=some v:=by
 have hl:(xs++[v]).length=xs.length+1:=by simp
 have e:ixN (xs++[v]).length (-1)=some xs.length:=by
  unfold ixN
  rw[hl,if_neg (by decide),if_pos (by omega)]
  congr 1
  omega
 unfold atI
 rw[e]
 show(xs++[v])[xs.length]?=some v
 simp
noncomputable def yl8 (b:Expr):Prop:=∀ o i,subscripted b false o i=operate [o,i] (getItem o i)
noncomputable def IxR (X:Cx)(r:R2):Prop :=
 ∀ (value slice:Expr) (pins:List (Addr×Obj)) (s:Shared) (σ:St) (H:Hp) (x y:V) (v u:Value) (Q:VK),Inv X pins σ H s->RelV x v->RelV y u->r x y H Q ->
  subscripted slice false v u=operate [v,u] (getItem v u)->wpAny (model X.prog X.w) X.A (subscriptTail value slice v u) (EP X pins σ Q) X.xe s
noncomputable def MtR (X:Cx)(id:String)(r:V->List V->Hp->VK->Prop):Prop :=
 ∀ (pins:List (Addr×Obj)) (s:Shared) (σ:St) (H:Hp) (x:V) (xs:List V) (v:Value) (us:List Value) (Q:VK),Inv X pins σ H s->RelV x v->Vals xs us->r x xs H Q ->
  wpAny (model X.prog X.w) X.A (call (.builtin id) (v :: us)) (EP X pins σ Q) X.xe s
section
variable {X:Cx} {a b:Expr} {ta tb:TE} {pos:Pos}
theorem yas {r:R2}(hr:IxR X r)(ha:PE X a ta)(hb:PE X b tb)(hs:yl8 b):PE X (.Subscript a b pos) (tOp r ta tb):=by
 intro pins s σ H Q I h
 exact Subscript_ (yqk ha hb I h λv u s2 x y H2 I2 rx ry q=>hr a b pins s2 σ H2 x y v u Q I2 rx ry q (hs _ _))
noncomputable def ypj (K:PySem.W.Frag):R2:=λx y H Q=>∃ p xs i v,x=.ref p/\y=.int i/\SqL K H p xs/\atI xs i=some v/\Q v H
noncomputable def yew (K:PySem.W.Frag):R2:=λx y H Q=>∃ p xs i v,x=.ref p/\y=.int i/\SqT K H p xs/\atI xs i=some v/\Q v H
theorem yaL:IxR X (ypj X.K):=by
 intro value slice pins s σ H x y v u Q I rx ry h hs
 obtain⟨p,xs,i,z,rfl,rfl,hq,he,q⟩:=h
 cases rx
 obtain⟨t,rfl⟩:=ry
 obtain⟨its,r,pl,hz⟩:=I.list hq
 obtain⟨j,h1,h2,h3,h4,h5⟩:=yiQ he
 obtain⟨w,ew,rw'⟩:=r.get h2
 have hl:=r.length
 have hn:=yfT
 have fin:EP X pins σ Q w s:=⟨z,H,I,rw',q⟩
 by_cases h0:0<=i
 ·have hj:i.toNat=j:=by
   rw[seqIndex_of h0 h5] at h1
   exact Option.some.inj h1
  exact item_listR pl.isList h0 (by omega) (by rw[hj];simpa using ew) fin hs
 ·have hj:(i+(its.toArray.size:Int)).toNat=j:=by
   rw[seqIndex_neg (by omega) h4] at h1
   rw[List.size_toArray,← hl]
   exact Option.some.inj h1
  exact subscriptTail_builtinR (x:=w) pl.isList.typeIs slot_list_getitem.lookup
   (wpAny_getItem_list_neg (Q:=λr s'=>r=w/\EP X pins σ Q r s') pl.isList (by omega) (by rw[List.size_toArray]<;>omega) (by omega) (by rw[hj];simpa using ew) ⟨rfl,fin⟩) hs
theorem yap:IxR X (yew X.K):=by
 intro value slice pins s σ H x y v u Q I rx ry h hs
 obtain⟨p,xs,i,z,rfl,rfl,hq,he,q⟩:=h
 cases rx
 obtain⟨t,rfl⟩:=ry
 obtain⟨its,r,pl,hz⟩:=I.tuple hq
 obtain⟨j,h1,h2,h3,h4,h5⟩:=yiQ he
 obtain⟨w,ew,rw'⟩:=r.get h2
 have hl:=r.length
 have hn:=yfT
 have fin:EP X pins σ Q w s:=⟨z,H,I,rw',q⟩
 exact subscriptTail_builtinR (x:=w) pl.typeIs slot_tuple_getitem.lookup
  (getItem_tuple (j:=j) (Q:=λr s'=>r=w/\EP X pins σ Q r s') pl (by omega) (by omega) (by rw[List.size_toArray,← hl];exact h1) (by simpa using ew) ⟨rfl,fin⟩) hs
theorem yid (its:List Value)(n j:Nat)(u:Value):Obj.mapSeq (·.setIfInBounds j u) { cls:=.type "list",data:=.seq its.toArray n }={ cls:=.type "list",data:=.seq (its.set j u).toArray n }:=by
 simp[Obj.mapSeq]
theorem Inv.lst {pins:List (Addr×Obj)}{σ:St}{H:Hp}{s:Shared}{p:Addr}{xs:List V}(I:Inv X pins σ H s)(h:H p=some (.lst xs)) :
  ∃ (its:List Value) (n:Nat),Vals xs its/\s.heap.get? p=some { cls:=.type "list",data:=.seq its.toArray n }/\xs.length<=sizeLine:=by
 obtain⟨z,its,n,r,e⟩:=I.hok p _ h
 exact⟨its,n,r,e,z⟩
theorem Inv.lstUpd {pins:List (Addr×Obj)}{σ:St}{H:Hp}{s:Shared}{p:Addr}{xs ys:List V}{its its':List Value}{n n':Nat}{f:Obj->Obj}(I:Inv X pins σ H s)(h:H p=some (.lst xs))
  (ho:s.heap.get? p=some { cls:=.type "list",data:=.seq its.toArray n }) (hf:f { cls:=.type "list",data:=.seq its.toArray n }={ cls:=.type "list",data:=.seq its'.toArray n' }) (r:Vals ys its') (hz:ys.length<=sizeLine) (t:Nat) :
  Inv X pins σ (upd H p (.lst ys)) { s with heap:=s.heap.update p f,toks:=t }:=by
 have e:(s.heap.update p f).get? p=some { cls:=.type "list",data:=.seq its'.toArray n' }:=by
  rw[Heap.get?_update_self f ho (by rw[hf]<;>rfl),hf]
 refine I.write (x:=p) (e:=p) (by rw[h];trivial) (.inl rfl) (λb u hb q=>(Heap.get?_update_other _ _ (Ne.symm hb)).trans q) ⟨_,e⟩ ?_
 exact⟨hz,its',n',r,e⟩
noncomputable def yoC:V->V->V->Hp->(Hp->Prop)->Prop:=λo i v H Q=>∃ p xs k j,o=.ref p/\i=.int k/\H p=some (.lst xs)/\ixN xs.length k=some j/\Q (upd H p (.lst (xs.set j v)))
theorem ygW:yrO X yoC:=by
 intro pins s σ H o i v ov iv u Q I ro ri rv h
 obtain⟨p,xs,k,j,rfl,rfl,hp,hj,q⟩:=h
 cases ro
 obtain⟨t,rfl⟩:=ri
 obtain⟨its,n,r,ho,hz⟩:=I.lst hp
 obtain⟨h1,h2,h3,h4⟩:=yiB hj
 have hl:=r.length
 have hn:=yfT
 have I':Inv X pins σ (upd H p (.lst (xs.set j v))) { s with heap:=s.heap.update p (Obj.mapSeq (·.setIfInBounds j u)) } :=
  I.lstUpd hp ho (yid its n j u) (r.set rv j) (by rw[List.length_set];exact hz) s.toks
 by_cases h0:0<=k
 ·have hk:k.toNat=j:=by
   rw[seqIndex_of h0 h4] at h1
   exact Option.some.inj h1
  exact PySem.W.ki_setAt ho h0 (by omega) (by rw[List.size_toArray,← hl];exact h4) (by rw[hk];exact⟨_,I',q⟩)
 ·have hk:(k+(its.toArray.size:Int)).toNat=j:=by
   rw[seqIndex_neg (by omega) h3] at h1
   rw[List.size_toArray,← hl]
   exact Option.some.inj h1
  exact PySem.W.ki_setBack ho (by omega) (by rw[List.size_toArray,← hl];exact h3) (by omega) (by rw[hk];exact⟨_,I',q⟩)
theorem ygf (lo hi:Option Int)(n:Nat):(sliceBounds lo hi none n).1=((HT.sIx n 0 lo:Nat):Int)/\(sliceBounds lo hi none n).2.1=((HT.sIx n n hi:Nat):Int)/\(sliceBounds lo hi none n).2.2=1:=by
 refine⟨?_,?_,rfl⟩
 ·cases lo with
  | none=>simp[sliceBounds,HT.sIx]
  | some i =>
   simp only[sliceBounds,HT.sIx,Option.getD_none,show(1:Int) > 0 by decide,if_true]
   by_cases h:i < 0
   ·simp only[h,if_true]<;>omega
   ·simp only[h,if_false]<;>omega
 ·cases hi with
  | none=>simp[sliceBounds,HT.sIx]
  | some i =>
   simp only[sliceBounds,HT.sIx,Option.getD_none,show(1:Int) > 0 by decide,if_true]
   by_cases h:i < 0
   ·simp only[h,if_true]<;>omega
   ·simp only[h,if_false]<;>omega
theorem yfs (its:List Value)(lo hi:Option Int):slicePick its.toArray lo hi none=((its.drop (HT.sIx its.length 0 lo)).take (HT.sIx its.length its.length hi - HT.sIx its.length 0 lo)).toArray:=by
 obtain⟨h1,h2,h3⟩:=ygf lo hi its.toArray.size
 unfold slicePick
 rw[h1,h2,h3]
 simp only[sliceRange_one,pick_run,List.size_toArray]<;>rfl
noncomputable def yrn (K:PySem.W.Frag):V->Option Int->Option Int->Hp->VK->Prop:=λx lo hi H Q=>∃ a xs,x=.ref a/\SqL K H a xs/\∀ p,H p=none->Q (.ref p) (upd H p (.lst (ygL xs lo hi)))
theorem yd3:SlR X (yrn X.K):=by
 intro pins s σ H x v vl vu lo hi sl Q I rx hs pl pu h
 obtain⟨a,xs,rfl,hx,q⟩:=h
 cases rx
 obtain⟨its,r,ht,hz⟩:=I.list hx
 have hlen:=r.length
 refine⟨"list",_,slot_list_getitem.lookup,ht.isList.typeIs,?_⟩
 refine wpAny_getItem_list_slice ht.isList hs pl pu .none (by simp) ?_ (by rw[List.size_toArray]<;>omega)
 rw[yfs,← hlen]
 refine⟨.ref s.heap.objs.size,_,I.laid (t':=s.toks) (o:=.lst (ygL xs lo hi)) (λb ob q=>Heap.get?_push_of_some _ q) (Nat.le_refl _) ?_,rfl,q _ (I.hok.fresh (Nat.le_refl _))⟩
 exact⟨Nat.le_trans (ygP xs lo hi) hz,_,0,(r.drop (HT.sIx xs.length 0 lo)).take (HT.sIx xs.length xs.length hi - HT.sIx xs.length 0 lo),Heap.get?_push_size _ rfl⟩
noncomputable def ybE:V->Bool
 | .non=>true
 | .bl _=>true
 | .int _=>true
 | .str _=>true
 | _=>false
noncomputable def eqV:V->V->Bool
 | .non,.non=>true
 | .bl a,.bl b=>a==b
 | .bl a,.int b=>(if a then 1 else 0)==b
 | .int a,.bl b=>a==(if b then 1 else 0)
 | .int a,.int b=>a==b
 | .str a,.str b=>a==b
 | _,_=>false
theorem ylH {A:Around}{s:Shared}{y x:V}{u v:Value}(ry:RelV y u)(rx:RelV x v)(fy:ybE y=true)(fx:ybE x=true):SeqAt.EqAt A s u v (eqV y x):=by
 cases y with
 | non =>
  cases ry
  cases x with
  | non=>cases rx;exact SeqAt.EqAt.same _
  | bl b=>cases rx;exact SeqAt.EqAt.none_bool b
  | int b=>obtain⟨t,rfl⟩:=rx;exact SeqAt.EqAt.none_int b t
  | str b=>obtain⟨t,rfl⟩:=rx;exact SeqAt.EqAt.none_str b t
  | _=>exact absurd (show false=true from fx) Bool.false_ne_true
 | bl a =>
  cases ry
  cases x with
  | non=>cases rx;exact SeqAt.EqAt.bool_none a
  | bl b=>cases rx;exact SeqAt.EqAt.bool_bool a b
  | int b=>obtain⟨t,rfl⟩:=rx;exact SeqAt.EqAt.bool_int a b t
  | str b=>obtain⟨t,rfl⟩:=rx;exact SeqAt.EqAt.bool_str a b t
  | _=>exact absurd (show false=true from fx) Bool.false_ne_true
 | int a =>
  obtain⟨t',rfl⟩:=ry
  cases x with
  | non=>cases rx;exact SeqAt.EqAt.int_none a t'
  | bl b=>cases rx;exact SeqAt.EqAt.int_bool a t' b
  | int b=>obtain⟨t,rfl⟩:=rx;exact SeqAt.EqAt.int_int a t' b t
  | str b=>obtain⟨t,rfl⟩:=rx;exact SeqAt.EqAt.int_str a t' b t
  | _=>exact absurd (show false=true from fx) Bool.false_ne_true
 | str a =>
  obtain⟨t',rfl⟩:=ry
  cases x with
  | non=>cases rx;exact SeqAt.EqAt.str_none a t'
  | bl b=>cases rx;exact SeqAt.EqAt.str_bool a t' b
  | int b=>obtain⟨t,rfl⟩:=rx;exact SeqAt.EqAt.str_int a t' b t
  | str b=>obtain⟨t,rfl⟩:=rx;exact SeqAt.EqAt.str_str a t' b t
  | _=>exact absurd (show false=true from fx) Bool.false_ne_true
 | _=>exact absurd (show false=true from fy) Bool.false_ne_true
noncomputable def eqU (x:V)(u:Value):Bool:=match u with
 | .none=>eqV .non x
 | .bool b=>eqV (.bl b) x
 | .int i _=>eqV (.int i) x
 | .str z _=>eqV (.str z) x
 | _=>false
theorem yhF {x y:V}{u:Value}(r:RelV y u)(f:ybE y=true):eqU x u=eqV y x:=by
 cases y with
 | non=>cases r;rfl
 | bl b=>cases r;rfl
 | int i=>obtain⟨t,rfl⟩:=r;rfl
 | str z=>obtain⟨t,rfl⟩:=r;rfl
 | _=>exact absurd (show false=true from f) Bool.false_ne_true
theorem yd9 {x:V}:∀ {xs:List V} {us:List Value},Vals xs us->xs.all ybE=true->us.any (eqU x)=xs.any λy=>eqV y x
 | _,_,.nil,_=>rfl
 | y :: xs,u :: us,.cons r t,f=>by
  rw[List.all_cons,Bool.and_eq_true] at f
  rw[List.any_cons,List.any_cons,yhF r f.1,yd9 t f.2]
theorem yci {A:Around}{s:Shared}{x:V}{v:Value}(rx:RelV x v)(fx:ybE x=true):∀ {xs:List V} {us:List Value},Vals xs us->xs.all ybE=true->∀ u∈us,SeqAt.EqAt A s u v (eqU x u)
 | _,_,.nil,_=>λu hu=>by cases hu
 | y :: xs,u :: us,.cons r t,f=>λu' hu=>by
  rw[List.all_cons,Bool.and_eq_true] at f
  rcases List.mem_cons.mp hu with rfl | hu
  ·rw[yhF r f.1];exact ylH r rx f.1 fx
  ·exact yci rx fx t f.2 u' hu
noncomputable def inV (x:V)(xs:List V):Bool:=xs.any λy=>eqV y x
noncomputable def rIn (K:PySem.W.Frag)(neg:Bool):R2:=λx y H Q=>∃ p xs,y=.ref p/\(SqL K H p xs∨SqT K H p xs)/\ybE x=true/\xs.all ybE=true/\Q (.bl (if neg then !inV x xs else inV x xs)) H
theorem yc1:OpR X (compareOp .In) (rIn X.K false):=by
 intro pins s σ H x y v u Q I rx ry h
 obtain⟨p,xs,rfl,hq,fx,fs,q⟩:=h
 cases ry
 rcases hq with hq | hq
 ·obtain⟨its,r,pl,hz⟩:=I.list hq
  refine SeqAt.in_listAt (eqU x) pl.isList (λw hw=>yci rx fx r fs w (by simpa using hw)) ⟨.bl _,H,I,rfl,?_⟩
  rw[show its.toArray.any (eqU x)=its.any (eqU x) by simp,yd9 r fs]
  exact q
 ·obtain⟨its,r,pl,hz⟩:=I.tuple hq
  refine SeqAt.in_tupleAt (eqU x) pl (λw hw=>yci rx fx r fs w (by simpa using hw)) ⟨.bl _,H,I,rfl,?_⟩
  rw[show its.toArray.any (eqU x)=its.any (eqU x) by simp,yd9 r fs]
  exact q
theorem yfC:OpR X (compareOp .NotIn) (rIn X.K true):=by
 intro pins s σ H x y v u Q I rx ry h
 obtain⟨p,xs,rfl,hq,fx,fs,q⟩:=h
 cases ry
 rcases hq with hq | hq
 ·obtain⟨its,r,pl,hz⟩:=I.list hq
  refine SeqAt.notIn_listAt (eqU x) pl.isList (λw hw=>yci rx fx r fs w (by simpa using hw)) ⟨.bl _,H,I,rfl,?_⟩
  rw[show its.toArray.any (eqU x)=its.any (eqU x) by simp,yd9 r fs]
  exact q
 ·obtain⟨its,r,pl,hz⟩:=I.tuple hq
  refine SeqAt.notIn_tupleAt (eqU x) pl (λw hw=>yci rx fx r fs w (by simpa using hw)) ⟨.bl _,H,I,rfl,?_⟩
  rw[show its.toArray.any (eqU x)=its.any (eqU x) by simp,yd9 r fs]
  exact q
theorem yaD:yb5 X (.builtin "len") (λxs H Q=>∃ p ys,xs=[.ref p]/\(SqL X.K H p ys∨SqT X.K H p ys)/\Q (.int ys.length) H):=by
 intro pins s σ H xs us Q I r h
 obtain⟨p,ys,rfl,hq,q⟩:=h
 obtain⟨u,rfl,rx⟩:=ye6 r
 cases rx
 have hn:=yfT
 rcases hq with hq | hq
 ·obtain⟨its,r',pl,hz⟩:=I.list hq
  have hlen:=r'.length
  exact Calls.call_len_list pl.isList (by simp only[List.size_toArray]<;>omega) ⟨.int ys.length,H,I.tok _,⟨s.toks+1,by rw[List.size_toArray,hlen]⟩,q⟩
 ·obtain⟨its,r',pl,hz⟩:=I.tuple hq
  have hlen:=r'.length
  exact len_tuple pl (by simp only[List.size_toArray]<;>omega) ⟨.int ys.length,H,I.tok _,⟨s.toks+1,by rw[List.size_toArray,hlen]⟩,q⟩
theorem yfD:yb5 X (.builtin "len") (λxs H Q=>∃ z,xs=[.str z]/\z.length<=sizeLine/\Q (.int z.length) H):=by
 intro pins s σ H xs us Q I r h
 obtain⟨z,rfl,hz,q⟩:=h
 obtain⟨u,rfl,t,rfl⟩:=ye6 r
 have hn:=yfT
 exact len_str (by omega) ⟨.int z.length,H,I.tok _,⟨_,rfl⟩,q⟩
theorem ya8:yb5 X (.type "list") (λxs H Q=>∃ p ys,xs=[.ref p]/\(SqL X.K H p ys∨SqT X.K H p ys)/\∀ l,H l=none->Q (.ref l) (upd H l (.lst ys))):=by
 intro pins s σ H xs us Q I r h
 obtain⟨p,ys,rfl,hq,q⟩:=h
 obtain⟨u,rfl,rx⟩:=ye6 r
 cases rx
 have fin:∀ (its:List Value),Vals ys its->ys.length<=sizeLine->∀ (h':Heap) (c':Nat),(∀ b o',s.heap.get? b=some o'->h'.get? b=some o') ->
   h'.get? s.heap.objs.size=some { cls:=.type "list",dict:=none,data:=.seq its.toArray c',slots:=#[] }->EP X pins σ Q (.ref s.heap.objs.size) { s with heap:=h' }:=λits r' hz h' c' kp e =>
  ⟨.ref s.heap.objs.size,_,I.laid (t':=s.toks) kp (Nat.le_refl _) (show ObjOk X.prog X.w _ h' _ (.lst ys) from ⟨hz,its,c',r',e⟩),rfl,q _ (I.hok.fresh (Nat.le_refl _))⟩
 rcases hq with hq | hq
 ·obtain⟨its,r',pl,hz⟩:=I.list hq
  have hlen:=r'.length
  obtain⟨o,ho,hc,n,hd⟩:=pl.isList
  exact call_list_seq p (.inl rfl) ho hc hd (λh' c' kp e=>fin its r' hz h' c' kp e) (by simp only[List.size_toArray]<;>omega)
 ·obtain⟨its,r',pl,hz⟩:=I.tuple hq
  have hlen:=r'.length
  obtain⟨o,ho,hc,n,hd⟩:=pl
  exact call_list_seq p (.inr rfl) ho hc hd (λh' c' kp e=>fin its r' hz h' c' kp e) (by simp only[List.size_toArray]<;>omega)
noncomputable def tyV (K:PySem.W.Frag)(T:String)(x:V)(H:Hp):Prop:=match x with
 | .str _=>T="str"
 | .int _=>T="int"
 | .ref p=>(T="list" /\ ∃ xs,SqL K H p xs)∨(T="tuple" /\ ∃ o,K.lookup p=some o/\o.cls=.type "tuple" /\ o.dict=none) ∨
   (T="dict" /\ ((∃ kvs,H p=some (.dK kvs))∨∃ kvs,H p=some (.dT kvs)))∨(T="set" /\ ∃ S n,H p=some (.set S n))
 | _=>False
theorem ylS {pins:List (Addr×Obj)}{σ:St}{H:Hp}{s:Shared}{T:String}{x:V}{v:Value}(I:Inv X pins σ H s)(r:RelV x v)(ty:tyV X.K T x H) :
  s.TypeIs v T/\∀ a,v=.ref a->∃ ob,s.heap.get? a=some ob/\ob.dict=none:=by
 cases x with
 | str z =>
  obtain⟨t,rfl⟩:=r
  cases (show T="str" from ty)
  exact⟨typeIs_str s z t,λ_ e=>nomatch e⟩
 | int i =>
  obtain⟨t,rfl⟩:=r
  cases (show T="int" from ty)
  exact⟨typeIs_int s i t,λ_ e=>nomatch e⟩
 | ref p =>
  cases r
  rcases ty with ⟨rfl,xs,hq⟩ | ⟨rfl,o,hk,hc,hd⟩ | ⟨rfl,hk⟩ | ⟨rfl,S,n,hk⟩
  ·obtain⟨its,_,pl,_⟩:=I.list hq
   refine⟨pl.isList.typeIs,λa e=>?_⟩
   cases e
   obtain⟨o,n,e,c,hd,_⟩:=pl
   exact⟨o,e,hd⟩
  ·refine⟨⟨o,I.kIn p o hk,hc⟩,λa e=>?_⟩
   cases e
   exact⟨o,I.kIn _ o hk,hd⟩
  ·have z:∃ o,s.heap.get? p=some o/\o.ExactDict:=by
    rcases hk with ⟨kvs,hk⟩ | ⟨kvs,hk⟩
    ·obtain⟨_,_,_,_,o,_,_,e,ex,_⟩:=I.hok p _ hk
     exact⟨o,e,ex⟩
    ·obtain⟨_,_,_,_,o,_,_,e,ex,_⟩:=I.hok p _ hk
     exact⟨o,e,ex⟩
   obtain⟨o,e,ex⟩:=z
   refine⟨⟨o,e,ex.1⟩,λa e2=>?_⟩
   cases e2
   exact⟨o,e,ex.2.1⟩
  ·obtain⟨o,_,_,_,e,ex,_⟩:=I.hok p _ hk
   refine⟨⟨o,e,ex.1⟩,λa e2=>?_⟩
   cases e2
   exact⟨o,e,ex.2.1⟩
 | _=>exact False.elim ty
noncomputable def yqs (K:PySem.W.Frag)(T:String)(r:V->List V->Hp->VK->Prop)(to:TE):TE:=fun σ H Q=>to σ H λx H1=>tyV K T x H1/\r x [] H1 Q
noncomputable def tBM (K:PySem.W.Frag)(T:String)(r:V->List V->Hp->VK->Prop)(to:TE)(t:TA):TE:=fun σ H Q=>to σ H λx H1=>tyV K T x H1/\t σ H1 λxs H2=>r x xs H2 Q
variable {o e:Expr} {es:List Expr} {to:TE} {t:TA} {name:Str} {apos cpos:Pos} {T id:String} {r:V->List V->Hp->VK->Prop}
theorem yn2 (pa:PlainAttrs T)(slot:Slot T name id)(hty:typeOf (.builtin id)=pure (.type "method_descriptor"))(hm:MtR X id r)(ho:PE X o to)
  (hbase:attributeBase o name X.env (eval o X.env)=eval o X.env:=by rfl) (hline:(apos.endLine==cpos.line)=true:=by rfl):PE X (.Call (.Attribute o name apos) [] [] cpos) (yqs X.K T r to):=by
 intro pins s σ H Q I h
 refine wpAny_Call_method0_late hbase hline (thn (ho pins s σ H _ I h) λv s1 ⟨x,H1,I1,r1,ty,q1⟩=>?_)
 obtain⟨h1,h2⟩:=ylS I1 r1 ty
 exact⟨T,id,pa,slot,hty,h1,h2,Calls.callWith_builtin rfl (PySem.evalArgs_none (hm pins s1 σ H1 x [] v [] Q I1 r1 .nil q1))⟩
theorem ybN (pa:PlainAttrs T)(slot:Slot T name id)(hty:typeOf (.builtin id)=pure (.type "method_descriptor"))(hm:MtR X id r)(ho:PE X o to)(ha:PA X (e :: es) t)
  (hbase:attributeBase o name X.env (eval o X.env)=eval o X.env:=by rfl)
  (hfew:((backTo cpos (starEach (e :: es) X.env)).all (λx=>!x.1)&&(backToKw cpos (keywordEach [] X.env)).all (λx=>x.1.isSome)
   && decide ((e :: es).length+([]:List Keyword).length+(if ([]:List Keyword).isEmpty then 0 else 1) < 30))=true:=by rfl)
  (hline:(apos.endLine==cpos.line)=true:=by rfl) (hs:starEach (e :: es) X.env=(false,eval e X.env) :: starEach es X.env:=by rfl) (hplain:(backTo cpos (starEach es X.env)).any (·.1)=false:=by rfl) :
  PE X (.Call (.Attribute o name apos) (e :: es) [] cpos) (tBM X.K T r to t):=by
 intro pins s σ H Q I h
 refine wpAny_Call_method_late hbase hfew hline rfl (thn (ho pins s σ H _ I h) λv s1 ⟨x,H1,I1,r1,ty,q1⟩=>?_)
 obtain⟨h1,h2⟩:=ylS I1 r1 ty
 refine⟨T,id,pa,slot,hty,h1,h2,?_⟩
 have hA:=ha cpos pins s1 σ H1 _ I1 q1
 rw[hs] at hA ⊢
 refine Calls.callWith_builtin (by show(false||(backTo cpos (starEach es X.env)).any (·.1))=false;rw[hplain]<;>rfl) (Calls.evalArgs_plain ?_)
 exact thn hA λus s2 ⟨vs,H2,I2,r2,q2⟩=>hm pins s2 σ H2 x vs v us Q I2 r1 r2 q2
end
noncomputable def MtM (X:Cx)(id:String)(r:V->List V->Hp->VK->Prop):Prop :=
 ∀ (pins:List (Addr×Obj)) (s:Shared) (σ:St) (H:Hp) (x:V) (xs:List V) (v:Value) (us:List Value) (Q:VK),Inv X pins σ H s->RelV x v->Vals xs us->r x xs H Q ->
  wpAny (model X.prog X.w) X.A (call (.builtin id) (v :: us)) (EP X pins σ Q) X.xe s
theorem Vals.one:∀ {x:V} {us:List Value},Vals [x] us->∃ u,us=[u]/\RelV x u
 | _,_,.cons r .nil=>⟨_,rfl,r⟩
theorem Vals.zero:∀ {us:List Value},Vals [] us->us=[]
 | _,.nil=>rfl
theorem Vals.dropLast {xs:List V}{us:List Value}(h:Vals xs us):Vals xs.dropLast us.dropLast:=by
 induction h with
 | nil=>exact .nil
 | cons r t ih =>
  cases t with
  | nil=>exact .nil
  | cons q t'=>exact .cons r ih
theorem Vals.rep {xs:List V}{us:List Value}(h:Vals xs us):∀ k:Nat,Vals (List.replicate k xs).flatten (List.replicate k us).flatten
 | 0=>.nil
 | k+1=>by
  rw[List.replicate_succ,List.replicate_succ,List.flatten_cons,List.flatten_cons]
  exact Vals.append h (Vals.rep h k)
theorem yh3 {α:Type}(l:List α):l.eraseIdx (l.length - 1)=l.dropLast:=by
 induction l with
 | nil=>rfl
 | cons a r ih =>
  cases r with
  | nil=>rfl
  | cons b r =>
   have e:(a :: b :: r).length - 1=((b :: r).length - 1)+1:=by
    have h1:(a :: b :: r).length=r.length+2:=rfl
    have h2:(b :: r).length=r.length+1:=rfl
    omega
   rw[e,List.eraseIdx_cons_succ,ih]
   all_goals rfl
theorem yfU (its:List Value):∀ (k:Nat) (acc:List Value),
  List.foldl (λx1 x2=>x1++x2) acc.toArray (List.replicate k its.toArray)=(acc++(List.replicate k its).flatten).toArray
 | 0,acc=>by simp
 | k+1,acc=>by
  have e:acc.toArray++its.toArray=(acc++its).toArray:=by simp
  have e2:(acc++its)++(List.replicate k its).flatten=acc++(List.replicate (k+1) its).flatten:=by
   rw[List.replicate_succ,List.flatten_cons,List.append_assoc]
  rw[← e2,← yfU its k (acc++its),← e,List.replicate_succ,List.foldl_cons]
section
variable {X:Cx} {pins:List (Addr×Obj)} {σ:St} {H:Hp} {s:Shared} {l b:Addr} {xs ys zs:List V}
theorem Inv.lset {its its':List Value}{n:Nat}{f:Array Value->Array Value}{t':Nat}(I:Inv X pins σ H s)(hH:H l=some (.lst xs))
  (e:s.heap.get? l=some { cls:=.type "list",data:=.seq its.toArray n }) (hf:f its.toArray=its'.toArray) (hv:Vals ys its') (hz:ys.length<=sizeLine) :
  Inv X pins σ (upd H l (.lst ys)) { s with heap:=s.heap.update l (Obj.mapSeq f),toks:=t' }:=by
 have q:=PySem.IsL.update e f
 rw[hf] at q
 refine I.write (x:=l) (e:=l) (by rw[hH];exact trivial) (.inl rfl) (λb' u hb hu=>(Heap.get?_update_other s.heap (Obj.mapSeq f) (Ne.symm hb)).trans hu) ⟨_,q⟩ ?_
 exact⟨hz,its',_,hv,q⟩
theorem Inv.lnew {its:List Value}{t':Nat}(I:Inv X pins σ H s)(hv:Vals ys its)(hz:ys.length<=sizeLine) :
  Inv X pins σ (upd H s.heap.objs.size (.lst ys)) { s with heap:=s.heap.push { cls:=.type "list",data:=.seq its.toArray },toks:=t' } :=
 I.laid (λ_ _ q=>Heap.get?_push_of_some _ q) (Nat.le_refl _) ⟨hz,its,0,hv,Heap.get?_push_size _ rfl⟩
theorem Inv.fresh (I:Inv X pins σ H s):H s.heap.objs.size=none:=I.hok.fresh (Nat.le_refl _)
theorem Inv.lstM (I:Inv X pins σ H s)(hH:H l=some (.lst xs)):xs.length<=sizeLine/\∃ (its:List Value) (n:Nat),Vals xs its/\xs.length=its.length/\s.heap.get? l=some { cls:=.type "list",data:=.seq its.toArray n }:=by
 obtain⟨z,its,n,r,e⟩:=I.hok l _ hH
 exact⟨z,its,n,r,r.length,e⟩
theorem ykE {n:Nat}(h:n<=sizeLine):Builtin.List.listTooLong n=false:=by
 unfold Builtin.List.listTooLong
 exact decide_eq_false (by omega)
end
section
variable {X:Cx}
noncomputable def ye9:V->List V->Hp->VK->Prop:=λx vs H Q=>∃ l xs y,x=.ref l/\vs=[y]/\H l=some (.lst xs)/\xs.length < sizeLine/\Q .non (upd H l (.lst (xs++[y])))
theorem yaM:MtM X "list.append" ye9:=by
 intro pins s σ H x vs v us Q I rx rv h
 obtain⟨l,xs,y,rfl,rfl,hH,hz,q⟩:=h
 cases rx
 obtain⟨u,rfl,ru⟩:=rv.one
 obtain⟨z,its,n,r,hl,e⟩:=I.lstM hH
 refine call_meets F.slot_list_append ⟨_,e,rfl⟩ F.entry_list_append (F.args_list_append_2 _ _) (PySem.list_append l its.toArray n u (by rw[List.size_toArray];omega)) ⟨e,?_⟩
 refine⟨.non,_,I.lset (its':=its++[u]) hH e (by simp) (r.append (.cons ru .nil)) ?_,rfl,q⟩
 rw[List.length_append,List.length_singleton]
 omega
noncomputable def yr0:V->List V->Hp->VK->Prop:=λx vs H Q=>∃ l xs y,x=.ref l/\vs=[]/\H l=some (.lst xs)/\xs[xs.length - 1]?=some y/\Q y (upd H l (.lst xs.dropLast))
theorem yoU:MtM X "list.pop" yr0:=by
 intro pins s σ H x vs v us Q I rx rv h
 obtain⟨l,xs,y,rfl,rfl,hH,hy,q⟩:=h
 cases rx
 have hus:=rv.zero
 subst hus
 obtain⟨z,its,n,r,hl,e⟩:=I.lstM hH
 obtain⟨u,hu,ru⟩:=r.get hy
 have hy':its.toArray[its.toArray.size - 1]?=some u:=by
  show its.toArray[its.length - 1]?=some u
  rw[← Array.getElem?_toList,← hl]
  exact hu
 refine call_meets F.slot_list_pop ⟨_,e,rfl⟩ F.entry_list_pop (F.args_list_pop_1 _) (MeetsSeq.list_pop_last l its.toArray n u hy' (by rw[List.size_toArray];omega)) ⟨e,?_⟩
 refine⟨y,_,I.lset (its':=its.dropLast) hH e ?_ r.dropLast ?_,ru,q⟩
 ·show its.toArray.eraseIdxIfInBounds (its.toArray.size - 1)=its.dropLast.toArray
  rw[List.size_toArray,List.eraseIdxIfInBounds_toArray,yh3]
 ·rw[List.length_dropLast]
  omega
noncomputable def yrH:R2:=λx y H Q=>∃ l b xs zs,x=.ref l/\y=.ref b/\H l=some (.lst xs)/\H b=some (.lst zs)/\xs.length+zs.length<=sizeLine/\∀ p,H p=none->Q (.ref p) (upd H p (.lst (xs++zs)))
theorem ydU:OpR X (binaryOp .Add) yrH:=by
 intro pins s σ H x y v u Q I rx ry h
 obtain⟨l,b,xs,zs,rfl,rfl,hH,hB,hz,q⟩:=h
 cases rx
 cases ry
 obtain⟨z,its,n,r,hl,e⟩:=I.lstM hH
 obtain⟨z2,its2,n2,r2,hl2,e2⟩:=I.lstM hB
 refine PySem.P.add_list e e2 ?_ (by rw[List.size_toArray,List.size_toArray];omega)
 have ea:its.toArray++its2.toArray=(its++its2).toArray:=by simp
 rw[ea]
 exact⟨.ref _,_,I.lnew (t':=s.toks) (r.append r2) (by rw[List.length_append];omega),rfl,q _ I.fresh⟩
noncomputable def yrA:R2:=λx y H Q=>∃ l k xs,x=.ref l/\y=.int k/\H l=some (.lst xs)/\-(2 ^ 63)<=k/\k < 2 ^ 63/\xs.length*k.toNat<=sizeLine /\
 ∀ p,H p=none->Q (.ref p) (upd H p (.lst (List.replicate k.toNat xs).flatten))
theorem ymH {α:Type}(xs:List α)(k:Nat):(List.replicate k xs).flatten.length=k*xs.length:=by
 induction k with
 | zero=>simp
 | succ k ih=>rw[List.replicate_succ,List.flatten_cons,List.length_append,ih,Nat.succ_mul,Nat.add_comm]
theorem yeD:OpR X (binaryOp .Mult) yrA:=by
 intro pins s σ H x y v u Q I rx ry h
 obtain⟨l,k,xs,rfl,rfl,hH,h1,h2,hz,q⟩:=h
 cases rx
 obtain⟨t,rfl⟩:=ry
 obtain⟨z,its,n,r,hl,e⟩:=I.lstM hH
 have hlen:its.toArray.size*k.toNat<=sizeLine:=by rw[List.size_toArray,← hl];exact hz
 have hcap:¬ its.toArray.size*k.toNat > (2 ^ 63 - 1) / 8:=by
  have:(sizeLine:Nat)<=(2 ^ 63 - 1) / 8:=by decide
  omega
 have hfit:¬ (!Builtin.List.listFitsIndex k)=true:=by
  rw[fitsIndex_both h1 h2]
  exact Bool.false_ne_true
 have hlong:¬ Builtin.List.listTooLong (its.toArray.size*k.toNat)=true:=by
  rw[ykE hlen]
  exact Bool.false_ne_true
 have hnew:List.foldl (λx1 x2=>x1++x2) #[] (List.replicate (if its.toArray.isEmpty=true then 0 else k.toNat) its.toArray)=(List.replicate k.toNat its).flatten.toArray:=by
  have f0:∀ m:Nat,List.foldl (λx1 x2=>x1++x2) #[] (List.replicate m its.toArray)=(List.replicate m its).flatten.toArray:=λm=>by
   have:=yfU its m []
   rw[List.nil_append] at this
   exact this
  rw[f0]
  cases its with
  | nil=>simp
  | cons a r'=>rw[if_neg (by simp)]
 refine wpAny_binaryOp_repeat_ref (T := "list") (U := "int") (by decide) ⟨_,e,rfl⟩ (λs'=>typeIs_int s' k t) noFill_list_mul F.fills_int_mul F.slot_int_rmul repeat_list F.slot_int_index.lookup
  (call_meets F.slot_int_rmul (typeIs_int s k t) F.entry_int_rmul (F.args_int_rmul_2 _ _) (int___rmul___int_list k t l its.toArray n)
   ⟨e,rfl,⟨_,e,rfl⟩,call_meets F.slot_list_mul ⟨_,e,rfl⟩ F.entry_list_mul (F.args_list_mul_2 _ _) (AutoListH.list___mul___list_int_3 l its.toArray n k t hfit hcap hlong) ⟨e,?_⟩⟩)
 rw[hnew]
 exact⟨.ref _,_,I.lnew (t':=s.toks) (r.rep k.toNat) (by rw[ymH,Nat.mul_comm];exact hz),rfl,q _ I.fresh⟩
end
section
variable {prog:Program} {w:World} {A:Around} {E:Value->Shared->Prop} {s:Shared}
set_option maxRecDepth 100000 in
end
section
variable {X:Cx}
end
end L2
namespace Att
open PySem PySem.W PySem.Calls PyProof.Rows
theorem yea {P:Params}{h:Heap}:∀ (ns:List Int) (vs:List Value),WellAll P h vs (ns.map WData.int)->IntsAre vs ns:=by
 intro ns
 induction ns with
 | nil =>
  intro vs w
  rw[List.map_nil] at w
  cases w
  exact .nil
 | cons n ns ih =>
  intro vs w
  rw[List.map_cons] at w
  cases w with
  | cons a b =>
   cases a
   exact .cons _ _ (ih _ b)
theorem yjV {l:OpenLaw}{n:Nat}(hn:l.most=some n){P:Params}{h:Heap}{args:List WData}{vals:List Value}
  (hpre:l.row.toRowW.claim.pre args=true) (hwl:WellAll P h vals args) :
  ∃ a vs ns,vals=[Value.ref a]/\args=[WData.list (ns.map WData.int)]/\h.get? a=some { cls:=.type "list",data:=.seq vs.toArray }/\IntsAre vs ns/\ns.length<=n:=by
 have hsh:WShape.hasAll [] args [.list .int]=true:=(pre_splitW hpre).1
 have hc:l.pre.holds [] { args:=args }=true:=(pre_splitW hpre).2
 obtain⟨d,r,rfl,h1,h2⟩:=hasAllW_cons hsh
 obtain rfl:=hasAllW_nil h2
 obtain⟨xs,rfl,h3⟩:=hasW_list h1
 obtain⟨ns,rfl⟩:=items_int h3
 have hlen:ns.length<=n:=by
  unfold OpenLaw.pre at hc
  have h4:(WTm.not (.lt (.lit (.int (n:Int))) (.len (.arg 0)))).holds [] { args:=[.list (ns.map .int)] }=true:=by
   have h4:=(holds_andW hc).1
   rw[hn] at h4
   exact h4
  have h5:=condW_of h4 (w_not (w_lt w_lit (w_len_list (w_arg rfl))))
  rw[List.length_map] at h5
  refine Nat.le_of_not_lt λq=>?_
  have q':(n:Int) < ((ns.length:Nat):Int):=by omega
  first
   | (rw[decide_eq_true q'] at h5;exact absurd h5 (by decide))
   | (simp at h5;omega)
 cases hwl with
 | cons w1 w2 =>
  cases w2
  cases w1 with
  | list ho hall=>exact⟨_,_,ns,rfl,rfl,ho,yea ns _ hall,hlen⟩
theorem yjf (l:OpenLaw)(args:List WData):l.row.toRowW.claim.post args (.bool true) args=true :=
 postW_of (r:=l.row.toRowW) (X:=(true==true))
  (show WShape.has [] (.bool true) .bool=true by first | rfl | decide | simp[WShape.has,WShape.arms,WShape.armsAll])
  (show(WTm.eq .res (.lit (.bool true))).value [] { args:=args,res:=some (.bool true),after:=args }=some (.bool (true==true)) from w_eq_bool (w_res rfl) w_lit) rfl
section
variable {prog:Program} {w:World} {A:Around} {E:Value->Shared->Prop} {s:Shared} {K:Frag}
end
end Att
namespace L2
open PySem PySem.Spec PyProof.Rows
theorem yfY:∀ {vs:List Value} {ns:List Int},IntsAre vs ns->Vals (ns.map V.int) vs
 | _,_,.nil=>.nil
 | _,_,.cons n t h=>.cons ⟨t,rfl⟩ (yfY h)
noncomputable def ybG (s:Stmt):Arguments:=match s with
 | .FunctionDef _ a _ _ _ _ _ _ _ _=>a
 | _=>{ posonlyargs:=[],args:=[],vararg:=none,kwonlyargs:=[],kw_defaults:=[],kwarg:=none,defaults:=[] }
noncomputable def ybi (s:Stmt):List Stmt:=match s with
 | .FunctionDef _ _ b _ _ _ _ _ _ _=>b
 | _=>[]
noncomputable def yah (s:Stmt):Scope:=match s with
 | .FunctionDef _ _ _ _ _ _ sc _ _ _=>sc
 | _=>{ kind:=.function,names:=[],isGenerator:=false,isCoroutine:=false }
noncomputable abbrev CX0:CXT:=λ_ _ _ _ _ _=>False
noncomputable abbrev E0:XK:=λ_ _ _=>False
theorem ydn {X:Cx}:ycD CX0 X E0:=λ_ _ _ _ _ _ _ h=>h.elim
structure Fun (K:PySem.W.Frag) (x qual:Str) (st:Stmt) (f:Addr) (fd:FuncData):Prop where
 ex:∃ (oc:Value) (od:Option Addr) (kV doc pm:Value) (an:Option Addr) (cdv ct:Value) (osl:Array (Option Value)),
  fd=PySem.W.fnOf x qual (ybG st) (ybi st) (yah st) .none kV doc pm an cdv ct/\K.lookup f=some ⟨oc,od,.func fd,osl⟩/\PySem.W.codeIn K cdv qual=true
 kp:PySem.W.keepIn K (.ref f)=true
section
variable {P:Program} {w:World} {K:PySem.W.Frag} {mg:Str->Option Value} {base:Heap}
theorem Fun.ok {x qual:Str}{st:Stmt}{f:Addr}{fd:FuncData}{N ps:List Str}{k:Nat}{sp:Sp}(F:Fun K x qual st f fd)(S:yan N ps (yah st))(len:∀ vs H Q E,sp vs H Q E->vs.length=ps.length)
  (hbody:∀ (cdv:Value) (A:Around) (outer:List Env) (s:Shared) (H:Hp) (vs:List V) (Q:VK) (E:XK),Room k (A.deeper (envOfC qual (yah st) s.heap.objs.size f cdv))->sp vs H Q E ->
   ∃ t,PSs (ydH CX0 P w K mg base N qual (yah st) f cdv A outer s H E).nox (ybi st) t/\t { nx:=λ_ H'=>Q .non H',rt:=Q } (start N vs) H):FnOk P w K mg base CX0 (k+1) f fd ps sp:=by
 obtain⟨oc,od,kV,doc,pm,an,cdv,ct,osl,rfl,lk,hcd⟩:=F.ex
 refine yoz lk hcd S len λA outer s H vs Q E hr hsp=>?_
 obtain⟨t,h,q⟩:=hbody cdv A outer s H vs Q E hr hsp
 exact⟨t,h.nox,q⟩
theorem Fun.binds {x qual:Str}{st:Stmt}{f:Addr}{fd:FuncData}{ps:List Str}(F:Fun K x qual st f fd)
  (h:∀ (kV doc pm:Value) (an:Option Addr) (cdv ct:Value) (us:List Value),us.length=ps.length->bindArgs (PySem.W.fnOf x qual (ybG st) (ybi st) (yah st) .none kV doc pm an cdv ct) ⟨us,[]⟩=pure (ps.zip us)):Binds K fd ps []:=by
 obtain⟨oc,od,kV,doc,pm,an,cdv,ct,osl,rfl,lk,hcd⟩:=F.ex
 exact .all (h kV doc pm an cdv ct)
theorem yg9 {x qual:Str}{st:Stmt}{f:Addr}{oc:Value}{od an:Option Addr}{osl:Array (Option Value)}{kV doc pm cdv ct:Value}(l:K.lookup f=some ⟨oc,od,.func (PySem.W.fnOf x qual (ybG st) (ybi st) (yah st) .none kV doc pm an cdv ct),osl⟩)
  (c:PySem.W.codeIn K cdv qual=true) (k:PySem.W.keepIn K (.ref f)=true):Fun K x qual st f (PySem.W.fnOf x qual (ybG st) (ybi st) (yah st) .none kV doc pm an cdv ct):=⟨⟨oc,od,kV,doc,pm,an,cdv,ct,osl,rfl,l,c⟩,k⟩
end
theorem yat {n:Nat}(h:n<=1000):n < sizeLine:=Nat.lt_of_le_of_lt h (by decide)
section
variable {X:Cx}
theorem pv (i:Nat){x:Str}{pos:Pos}(hN:X.N[i]?=some x:=by rfl)(hv:Vis X.env.scope x:=by first | exact Or.inl rfl | exact Or.inr (Or.inl rfl) | exact Or.inr (Or.inr rfl))(hd:(x==("__debug__" : Str))=false:=by decide)
  (hcd:(x==("__classdict__" : Str))=false:=by decide):PE X (.Name x pos) (ylq i):=yjR hN hv hd hcd
end
theorem ylL {c A B:Prop}[Decidable c](h1:c->A)(h2:¬ c->B):if c then A else B:=by
 by_cases h:c
 ·rw[if_pos h]
  exact h1 h
 ·rw[if_neg h]
  exact h2 h
noncomputable def Same (H H':Hp):Prop:=∀ b o,H b=some o->H' b=some o
theorem Same.refl (H:Hp):Same H H:=λ_ _ h=>h
theorem Same.trans {H H1 H2:Hp}(a:Same H H1)(b:Same H1 H2):Same H H2:=λc o h=>b c o (a c o h)
theorem Same.free {H H':Hp}(e:Same H H'){l:Addr}(h:H' l=Option.none):H l=Option.none:=by
 cases q:H l with
 | none=>rfl
 | some o =>
  rw[e l o q] at h
  cases h
theorem Same.seq {K:PySem.W.Frag}{H H':Hp}{a:Addr}{xs:List V}(e:Same H H')(h:SqL K H a xs):SqL K H' a xs:=by
 rcases h with (h | ⟨o,h⟩) | h
 ·exact .inl (.inl (e _ _ h))
 ·exact .inl (.inr ⟨o,e _ _ h⟩)
 ·exact .inr h
section
variable {X:Cx}
noncomputable def yrQ (K:PySem.W.Frag):List V->Hp->VK->Prop:=λxs H Q=>∃ x n t b,xs=[x,.ty n]/\yeT K H x t/\PySem.W.kitOne K t (.type n)=some b/\Q (.bl b) H
theorem yk2:yb5 X (.builtin "isinstance") (yrQ X.K):=by
 intro pins s σ H xs us Q I r h
 obtain⟨x,n,t,b,rfl,ty,e,q⟩:=h
 obtain⟨u,v,rfl,ru,rv⟩:=ygS r
 obtain rfl:v=Value.type n:=rv
 exact ygc I ru ty e λtk=>⟨.bl b,H,I.tok tk,rfl,q⟩
theorem ygw {K:PySem.W.Frag}:PySem.W.kitOne K (.type "int") (.type "int")=some true:=by kernel_rfl
theorem yge {K:PySem.W.Frag}:PySem.W.kitOne K (.type "int") (.type "bool")=some false:=by kernel_rfl
theorem ygJ {K:PySem.W.Frag}:PySem.W.kitOne K (.type "int") (.type "str")=some false:=by kernel_rfl
theorem ygk {K:PySem.W.Frag}:PySem.W.kitOne K (.type "int") (.type "list")=some false:=by kernel_rfl
theorem yfe {K:PySem.W.Frag}:PySem.W.kitOne K (.type "int") (.type "tuple")=some false:=by kernel_rfl
theorem yf9 {K:PySem.W.Frag}:PySem.W.kitOne K (.type "bool") (.type "int")=some true:=by kernel_rfl
theorem ye8 {K:PySem.W.Frag}:PySem.W.kitOne K (.type "bool") (.type "bool")=some true:=by kernel_rfl
theorem yf1 {K:PySem.W.Frag}:PySem.W.kitOne K (.type "bool") (.type "str")=some false:=by kernel_rfl
theorem ye5 {K:PySem.W.Frag}:PySem.W.kitOne K (.type "bool") (.type "list")=some false:=by kernel_rfl
theorem yen {K:PySem.W.Frag}:PySem.W.kitOne K (.type "bool") (.type "tuple")=some false:=by kernel_rfl
theorem ygR {K:PySem.W.Frag}:PySem.W.kitOne K (.type "str") (.type "int")=some false:=by kernel_rfl
theorem ygn {K:PySem.W.Frag}:PySem.W.kitOne K (.type "str") (.type "bool")=some false:=by kernel_rfl
theorem ygB {K:PySem.W.Frag}:PySem.W.kitOne K (.type "str") (.type "str")=some true:=by kernel_rfl
theorem yfO {K:PySem.W.Frag}:PySem.W.kitOne K (.type "str") (.type "list")=some false:=by kernel_rfl
theorem yeM {K:PySem.W.Frag}:PySem.W.kitOne K (.type "str") (.type "tuple")=some false:=by kernel_rfl
theorem yfz {K:PySem.W.Frag}:PySem.W.kitOne K (.type "NoneType") (.type "int")=some false:=by kernel_rfl
theorem yeV {K:PySem.W.Frag}:PySem.W.kitOne K (.type "NoneType") (.type "bool")=some false:=by kernel_rfl
theorem ygo {K:PySem.W.Frag}:PySem.W.kitOne K (.type "NoneType") (.type "str")=some false:=by kernel_rfl
theorem ye2 {K:PySem.W.Frag}:PySem.W.kitOne K (.type "NoneType") (.type "list")=some false:=by kernel_rfl
theorem yeg {K:PySem.W.Frag}:PySem.W.kitOne K (.type "NoneType") (.type "tuple")=some false:=by kernel_rfl
theorem yfM {K:PySem.W.Frag}:PySem.W.kitOne K (.type "list") (.type "int")=some false:=by kernel_rfl
theorem yeK {K:PySem.W.Frag}:PySem.W.kitOne K (.type "list") (.type "bool")=some false:=by kernel_rfl
theorem yfH {K:PySem.W.Frag}:PySem.W.kitOne K (.type "list") (.type "str")=some false:=by kernel_rfl
theorem yeN {K:PySem.W.Frag}:PySem.W.kitOne K (.type "list") (.type "list")=some true:=by kernel_rfl
theorem yeh {K:PySem.W.Frag}:PySem.W.kitOne K (.type "list") (.type "tuple")=some false:=by kernel_rfl
theorem yfg {K:PySem.W.Frag}:PySem.W.kitOne K (.type "tuple") (.type "int")=some false:=by kernel_rfl
theorem yem {K:PySem.W.Frag}:PySem.W.kitOne K (.type "tuple") (.type "bool")=some false:=by kernel_rfl
theorem ye7 {K:PySem.W.Frag}:PySem.W.kitOne K (.type "tuple") (.type "str")=some false:=by kernel_rfl
theorem yep {K:PySem.W.Frag}:PySem.W.kitOne K (.type "tuple") (.type "list")=some false:=by kernel_rfl
theorem yd2 {K:PySem.W.Frag}:PySem.W.kitOne K (.type "tuple") (.type "tuple")=some true:=by kernel_rfl
theorem yfy {K:PySem.W.Frag}:PySem.W.kitOne K (.type "dict") (.type "int")=some false:=by kernel_rfl
theorem ye0 {K:PySem.W.Frag}:PySem.W.kitOne K (.type "dict") (.type "bool")=some false:=by kernel_rfl
theorem yfW {K:PySem.W.Frag}:PySem.W.kitOne K (.type "dict") (.type "str")=some false:=by kernel_rfl
theorem ye3 {K:PySem.W.Frag}:PySem.W.kitOne K (.type "dict") (.type "list")=some false:=by kernel_rfl
theorem yek {K:PySem.W.Frag}:PySem.W.kitOne K (.type "dict") (.type "tuple")=some false:=by kernel_rfl
inductive Knd | non | bl | int | str | lst | tup | dct
 deriving DecidableEq
noncomputable def Knd.name:Knd->String
 | .non => "NoneType" | .bl => "bool" | .int => "int" | .str => "str" | .lst => "list" | .tup => "tuple" | .dct => "dict"
inductive KndOf (H:Hp):V->Knd->Prop where
 | non:KndOf H .non .non
 | bl (b:Bool):KndOf H (.bl b) .bl
 | int (i:Int):KndOf H (.int i) .int
 | str (x:Str):KndOf H (.str x) .str
 | lst {a:Addr} {xs:List V} (e:H a=some (.lst xs)):KndOf H (.ref a) .lst
 | tup {a:Addr} {xs:List V} (e:H a=some (.tup xs)):KndOf H (.ref a) .tup
 | dct {a:Addr} {kvs:List (Key×V)} (e:H a=some (.dK kvs)):KndOf H (.ref a) .dct
theorem KndOf.ty {K:PySem.W.Frag}{H:Hp}{x:V}{k:Knd}(h:KndOf H x k):yeT K H x (.type k.name):=by
 cases h with
 | non=>exact .non
 | bl b=>exact .bl b
 | int i=>exact .int i
 | str x=>exact .str x
 | lst e=>exact .lst e
 | tup e=>exact .tup e
 | dct e=>exact .dK e
noncomputable def Knd.isA:Knd->String->Bool
 | .int, "int"=> true
 | .bl, "int"=> true
 | .bl, "bool"=> true
 | .str, "str"=> true
 | .lst, "list"=> true
 | .tup, "tuple"=> true
 | .dct, "dict"=> true
 | _,_=>false
noncomputable def ykG (n:String):Prop:=n="int" ∨ n="bool" ∨ n="str" ∨ n="list" ∨ n="tuple"
theorem ynO {K:PySem.W.Frag}(k:Knd){n:String}(h:ykG n):PySem.W.kitOne K (.type k.name) (.type n)=some (k.isA n):=by
 rcases h with rfl | rfl | rfl | rfl | rfl<;>cases k
 ·exact yfz
 ·exact yf9
 ·exact ygw
 ·exact ygR
 ·exact yfM
 ·exact yfg
 ·exact yfy
 ·exact yeV
 ·exact ye8
 ·exact yge
 ·exact ygn
 ·exact yeK
 ·exact yem
 ·exact ye0
 ·exact ygo
 ·exact yf1
 ·exact ygJ
 ·exact ygB
 ·exact yfH
 ·exact ye7
 ·exact yfW
 ·exact ye2
 ·exact ye5
 ·exact ygk
 ·exact yfO
 ·exact yeN
 ·exact yep
 ·exact ye3
 ·exact yeg
 ·exact yen
 ·exact yfe
 ·exact yeM
 ·exact yeh
 ·exact yd2
 ·exact yek
noncomputable def ypL:List V->Hp->VK->Prop:=λxs H Q=>∃ x n k,xs=[x,.ty n]/\ykG n/\KndOf H x k/\Q (.bl (k.isA n)) H
theorem yaO:yb5 X (.builtin "isinstance") ypL:=by
 intro pins s σ H xs us Q I r h
 obtain⟨x,n,k,rfl,hn,hk,q⟩:=h
 exact yk2 pins s σ H _ us Q I r ⟨x,n,_,_,rfl,hk.ty,ynO k hn,q⟩
end
inductive Tr where
 | vl (v:V) | ls (ts:List Tr) | tp (ts:List Tr)
mutual
noncomputable def eqT:Tr->Tr->Bool
 | .vl x,.vl y=>eqV x y
 | .ls xs,.ls ys=>eqTs xs ys
 | .tp xs,.tp ys=>eqTs xs ys
 | _,_=>false
noncomputable def eqTs:List Tr->List Tr->Bool
 | [],[]=>true
 | x :: xs,y :: ys=>eqT x y&&eqTs xs ys
 | _,_=>false
end
mutual
noncomputable def Rep (K:PySem.W.Frag)(H:Hp):V->Tr->Prop
 | v,.vl w=>v=w/\ybE w=true
 | v,.ls ts=>∃ a xs,v=.ref a/\SqL K H a xs/\Reps K H xs ts
 | v,.tp ts=>∃ a xs,v=.ref a/\SqT K H a xs/\Reps K H xs ts
noncomputable def Reps (K:PySem.W.Frag)(H:Hp):List V->List Tr->Prop
 | xs,[]=>xs=[]
 | xs,t :: ts=>∃ x r,xs=x :: r/\Rep K H x t/\Reps K H r ts
end
mutual
noncomputable def dep:Tr->Nat
 | .vl _=>0
 | .ls ts=>deps ts+1
 | .tp ts=>deps ts+1
noncomputable def deps:List Tr->Nat
 | []=>0
 | t :: ts=>max (dep t) (deps ts)
end
noncomputable def yjF (ts us:List Tr)(j:Nat):Bool:=match ts[j]?,us[j]? with
 | some t,some u=>eqT t u
 | _,_=>true
theorem yeW:∀ {ts us:List Tr},ts.length=us.length->eqTs ts us=(List.range ts.length).all (yjF ts us)
 | [],[],_=>rfl
 | t :: ts,u :: us,h=>by
  have h':ts.length=us.length:=by simpa using h
  rw[eqTs,List.length_cons,List.range_succ_eq_map,List.all_cons,List.all_map,yeW h']
  rfl
 | [],_ :: _,h=>by simp at h
 | _ :: _,[],h=>by simp at h
theorem yeY:∀ {ts us:List Tr},ts.length≠us.length->eqTs ts us=false
 | [],[],h=>absurd rfl h
 | t :: ts,u :: us,h=>by
  have h':ts.length≠us.length:=λz=>h (by simp[z])
  rw[eqTs,yeY h',Bool.and_false]
 | [],_ :: _,_=>rfl
 | _ :: _,[],_=>rfl
theorem Reps.length {K:PySem.W.Frag}{H:Hp}:∀ {xs:List V} {ts:List Tr},Reps K H xs ts->xs.length=ts.length
 | xs,[],h=>by rw[Reps] at h;subst h;rfl
 | xs,t :: ts,h=>by
  rw[Reps] at h
  obtain⟨x,r,rfl,_,h⟩:=h
  rw[List.length_cons,List.length_cons,Reps.length h]
theorem Reps.get {K:PySem.W.Frag}{H:Hp}:∀ {xs:List V} {ts:List Tr} {i:Nat} {x:V},Reps K H xs ts->xs[i]?=some x->∃ t,ts[i]?=some t/\Rep K H x t
 | xs,[],i,x,h,e=>by rw[Reps] at h;subst h;simp at e
 | xs,t :: ts,0,x,h,e=>by
  rw[Reps] at h
  obtain⟨y,r,rfl,hy,h⟩:=h
  simp at e
  subst e
  exact⟨t,rfl,hy⟩
 | xs,t :: ts,i+1,x,h,e=>by
  rw[Reps] at h
  obtain⟨y,r,rfl,hy,h⟩:=h
  obtain⟨u,h1,h2⟩:=Reps.get (i:=i) h (by simpa using e)
  exact⟨u,by simpa using h1,h2⟩
theorem yiY:∀ {ts:List Tr} {i:Nat} {t:Tr},ts[i]?=some t->dep t<=deps ts
 | [],_,_,e=>by simp at e
 | t :: ts,0,u,e=>by
  simp at e
  subst e
  rw[deps]
  exact Nat.le_max_left _ _
 | t :: ts,i+1,u,e=>by
  rw[deps]
  exact Nat.le_trans (yiY (ts:=ts) (i:=i) (by simpa using e)) (Nat.le_max_right _ _)
theorem yj6 (x:V)(us:List Tr):eqT (.vl x) (.ls us)=false:=by simp[eqT]
theorem yjG (x:V)(us:List Tr):eqT (.vl x) (.tp us)=false:=by simp[eqT]
theorem yit (x:V)(us:List Tr):eqT (.ls us) (.vl x)=false:=by simp[eqT]
theorem yjD (x:V)(us:List Tr):eqT (.tp us) (.vl x)=false:=by simp[eqT]
theorem yiM (ts us:List Tr):eqT (.ls ts) (.tp us)=false:=by simp[eqT]
theorem yiz (ts us:List Tr):eqT (.tp ts) (.ls us)=false:=by simp[eqT]
theorem ykw {v:V}(f:ybE v=true):eqV v v=true:=by
 cases v<;>first | (simp[ybE] at f;done) | rfl | (simp[eqV];done)
section
variable {X:Cx} {pins:List (Addr×Obj)} {σ:St} {H:Hp} {s:Shared}
theorem Inv.apart (I:Inv X pins σ H s){a:Addr}{xs ys:List V}(h:SqL X.K H a xs)(h':SqT X.K H a ys):False:=by
 obtain⟨its,_,p,_⟩:=I.list h
 obtain⟨its',_,p',_⟩:=I.tuple h'
 exact SeqAt.ne_of_list_tuple p.isList p' rfl
mutual
theorem ygY (I:Inv X pins σ H s):∀ (t u:Tr) (x:V),Rep X.K H x t->Rep X.K H x u->eqT t u=true
 | .vl v,.vl w,x,h1,h2=>by
  rw[Rep] at h1
  rw[Rep] at h2
  obtain⟨rfl,f⟩:=h1
  obtain⟨rfl,_⟩:=h2
  rw[eqT]
  exact ykw f
 | .vl v,.ls us,x,h1,h2=>by
  rw[Rep] at h1
  rw[Rep] at h2
  obtain⟨rfl,f⟩:=h1
  obtain⟨a,xs,rfl,_⟩:=h2
  cases f
 | .vl v,.tp us,x,h1,h2=>by
  rw[Rep] at h1
  rw[Rep] at h2
  obtain⟨rfl,f⟩:=h1
  obtain⟨a,xs,rfl,_⟩:=h2
  cases f
 | .ls ts,.vl v,x,h1,h2=>by
  rw[Rep] at h1
  rw[Rep] at h2
  obtain⟨rfl,f⟩:=h2
  obtain⟨a,xs,rfl,_⟩:=h1
  cases f
 | .tp ts,.vl v,x,h1,h2=>by
  rw[Rep] at h1
  rw[Rep] at h2
  obtain⟨rfl,f⟩:=h2
  obtain⟨a,xs,rfl,_⟩:=h1
  cases f
 | .ls ts,.ls us,x,h1,h2=>by
  rw[Rep] at h1
  rw[Rep] at h2
  obtain⟨a,xs,rfl,hx,hs⟩:=h1
  obtain⟨b,ys,e,hy,hu⟩:=h2
  cases e
  have e:=I.list_inj hx hy
  subst e
  rw[eqT]
  exact reps_same I ts us xs hs hu
 | .tp ts,.tp us,x,h1,h2=>by
  rw[Rep] at h1
  rw[Rep] at h2
  obtain⟨a,xs,rfl,hx,hs⟩:=h1
  obtain⟨b,ys,e,hy,hu⟩:=h2
  cases e
  have e:=I.tuple_inj hx hy
  subst e
  rw[eqT]
  exact reps_same I ts us xs hs hu
 | .ls ts,.tp us,x,h1,h2=>by
  rw[Rep] at h1
  rw[Rep] at h2
  obtain⟨a,xs,rfl,hx,hs⟩:=h1
  obtain⟨b,ys,e,hy,hu⟩:=h2
  cases e
  exact(I.apart hx hy).elim
 | .tp ts,.ls us,x,h1,h2=>by
  rw[Rep] at h1
  rw[Rep] at h2
  obtain⟨a,xs,rfl,hx,hs⟩:=h1
  obtain⟨b,ys,e,hy,hu⟩:=h2
  cases e
  exact(I.apart hy hx).elim
theorem reps_same (I:Inv X pins σ H s):∀ (ts us:List Tr) (xs:List V),Reps X.K H xs ts->Reps X.K H xs us->eqTs ts us=true
 | [],[],_,_,_=>by rw[eqTs]
 | [],u :: us,xs,h1,h2=>by
  rw[Reps] at h1
  rw[Reps] at h2
  obtain⟨x,r,e,_⟩:=h2
  rw[h1] at e
  cases e
 | t :: ts,[],xs,h1,h2=>by
  rw[Reps] at h1
  rw[Reps] at h2
  obtain⟨x,r,e,_⟩:=h1
  rw[h2] at e
  cases e
 | t :: ts,u :: us,xs,h1,h2=>by
  rw[Reps] at h1
  rw[Reps] at h2
  obtain⟨x,r,rfl,hx,hr⟩:=h1
  obtain⟨y,q,e,hy,hq⟩:=h2
  cases e
  rw[eqTs,ygY I t u x hx hy,reps_same I ts us r hr hq]
  rfl
end
theorem yoo {A:Around}{y x:V}{u v:Value}(ry:RelV y u)(rx:RelV x v)(fy:ybE y=true)(fx:ybE x=true):SeqAt.RcAt A s u v (eqV y x):=by
 cases y with
 | non =>
  cases ry
  cases x with
  | non=>cases rx;exact SeqAt.RcAt.none_none
  | bl b=>cases rx;exact SeqAt.RcAt.none_bool b
  | int b=>obtain⟨t,rfl⟩:=rx;exact SeqAt.RcAt.none_int b t
  | str b=>obtain⟨t,rfl⟩:=rx;exact SeqAt.RcAt.none_str b t
  | _=>exact absurd (show false=true from fx) Bool.false_ne_true
 | bl a =>
  cases ry
  cases x with
  | non=>cases rx;exact SeqAt.RcAt.bool_none a
  | bl b=>cases rx;exact SeqAt.RcAt.bool_bool a b
  | int b=>obtain⟨t,rfl⟩:=rx;exact SeqAt.RcAt.bool_int a b t
  | str b=>obtain⟨t,rfl⟩:=rx;exact SeqAt.RcAt.bool_str a b t
  | _=>exact absurd (show false=true from fx) Bool.false_ne_true
 | int a =>
  obtain⟨t',rfl⟩:=ry
  cases x with
  | non=>cases rx;exact SeqAt.RcAt.int_none a t'
  | bl b=>cases rx;exact SeqAt.RcAt.int_bool a t' b
  | int b=>obtain⟨t,rfl⟩:=rx;exact SeqAt.RcAt.int_int a t' b t
  | str b=>obtain⟨t,rfl⟩:=rx;exact SeqAt.RcAt.int_str a t' b t
  | _=>exact absurd (show false=true from fx) Bool.false_ne_true
 | str a =>
  obtain⟨t',rfl⟩:=ry
  cases x with
  | non=>cases rx;exact SeqAt.RcAt.str_none a t'
  | bl b=>cases rx;exact SeqAt.RcAt.str_bool a t' b
  | int b=>obtain⟨t,rfl⟩:=rx;exact SeqAt.RcAt.str_int a t' b t
  | str b=>obtain⟨t,rfl⟩:=rx;exact SeqAt.RcAt.str_str a t' b t
  | _=>exact absurd (show false=true from fx) Bool.false_ne_true
 | _=>exact absurd (show false=true from fy) Bool.false_ne_true
theorem ykP {A:Around}{y x:V}{u v:Value}(ry:RelV y u)(rx:RelV x v)(fy:ybE y=true)(fx:ybE x=true):SeqAt.RcNeAt A s u v (!eqV y x):=by
 cases y with
 | non =>
  cases ry
  cases x with
  | non=>cases rx;exact SeqAt.RcNeAt.none_none
  | bl b=>cases rx;exact SeqAt.RcNeAt.none_bool b
  | int b=>obtain⟨t,rfl⟩:=rx;exact SeqAt.RcNeAt.none_int b t
  | str b=>obtain⟨t,rfl⟩:=rx;exact SeqAt.RcNeAt.none_str b t
  | _=>exact absurd (show false=true from fx) Bool.false_ne_true
 | bl a =>
  cases ry
  cases x with
  | non=>cases rx;exact SeqAt.RcNeAt.bool_none a
  | bl b=>cases rx;exact SeqAt.RcNeAt.bool_bool a b
  | int b=>obtain⟨t,rfl⟩:=rx;exact SeqAt.RcNeAt.bool_int a b t
  | str b=>obtain⟨t,rfl⟩:=rx;exact SeqAt.RcNeAt.bool_str a b t
  | _=>exact absurd (show false=true from fx) Bool.false_ne_true
 | int a =>
  obtain⟨t',rfl⟩:=ry
  cases x with
  | non=>cases rx;exact SeqAt.RcNeAt.int_none a t'
  | bl b=>cases rx;exact SeqAt.RcNeAt.int_bool a t' b
  | int b=>obtain⟨t,rfl⟩:=rx;exact SeqAt.RcNeAt.int_int a t' b t
  | str b=>obtain⟨t,rfl⟩:=rx;exact SeqAt.RcNeAt.int_str a t' b t
  | _=>exact absurd (show false=true from fx) Bool.false_ne_true
 | str a =>
  obtain⟨t',rfl⟩:=ry
  cases x with
  | non=>cases rx;exact SeqAt.RcNeAt.str_none a t'
  | bl b=>cases rx;exact SeqAt.RcNeAt.str_bool a t' b
  | int b=>obtain⟨t,rfl⟩:=rx;exact SeqAt.RcNeAt.str_int a t' b t
  | str b=>obtain⟨t,rfl⟩:=rx;exact SeqAt.RcNeAt.str_str a t' b t
  | _=>exact absurd (show false=true from fx) Bool.false_ne_true
 | _=>exact absurd (show false=true from fy) Bool.false_ne_true
noncomputable def yjc (A:Around)(s:Shared)(ts us:List Tr)(its its':List Value):Prop :=
 ∀ j (h1:j < its.toArray.size) (h2:j < its'.toArray.size),SeqAt.EqAt A s its.toArray[j] its'.toArray[j] (yjF ts us j)
theorem yme {n m:Nat}{e:Nat->Bool}{ts us:List Tr}(hn:n=ts.length)(hm:m=us.length)(he:e=yjF ts us):((List.range (min n m)).all e&&n==m)=eqTs ts us:=by
 subst hn hm he
 by_cases h:ts.length=us.length
 ·rw[yeW h,h,Nat.min_self]
  simp
 ·rw[yeY h]
  have:(ts.length==us.length)=false:=by simpa using h
  rw[this,Bool.and_false]
theorem ynU (I:Inv X pins σ H s)(A:Around)(t u:Tr)(x y:V)(v w:Value)(hx:Rep X.K H x t)(hy:Rep X.K H y u)(rx:RelV x v)(ry:RelV y w)(hu:A.units+dep t < cLine)(hu':A.units+dep u < cLine)
  (ih:∀ ts us xs ys its its',(t=.ls ts/\u=.ls us∨t=.tp ts/\u=.tp us)->Reps X.K H xs ts->Reps X.K H ys us->Vals xs its->Vals ys its'->yjc A.in1 s ts us its its') :
  SeqAt.RcAt A s v w (eqT t u)/\SeqAt.RcNeAt A s v w (!eqT t u):=by
 cases t with
 | vl p =>
  rw[Rep] at hx
  obtain⟨rfl,fx⟩:=hx
  cases u with
  | vl q =>
   rw[Rep] at hy
   obtain⟨rfl,fy⟩:=hy
   rw[eqT]
   exact⟨yoo rx ry fx fy,ykP rx ry fx fy⟩
  | ls us =>
   rw[Rep] at hy
   obtain⟨b,ys,rfl,hb,_⟩:=hy
   cases ry
   obtain⟨its,_,p,_⟩:=I.list hb
   have hA:A.units < cLine:=by omega
   rw[yj6]
   cases x with
   | non=>cases rx;exact⟨.none_list p.isList hA,.none_list p.isList hA⟩
   | bl c=>cases rx;exact⟨.bool_list c p.isList hA,.bool_list c p.isList hA⟩
   | int c=>obtain⟨t,rfl⟩:=rx;exact⟨.int_list c t p.isList hA,.int_list c t p.isList hA⟩
   | str c=>obtain⟨t,rfl⟩:=rx;exact⟨.str_list c t p.isList hA,.str_list c t p.isList hA⟩
   | _=>exact absurd (show false=true from fx) Bool.false_ne_true
  | tp us =>
   rw[Rep] at hy
   obtain⟨b,ys,rfl,hb,_⟩:=hy
   cases ry
   obtain⟨its,_,p,_⟩:=I.tuple hb
   have hA:A.units < cLine:=by omega
   rw[yjG]
   cases x with
   | non=>cases rx;exact⟨.none_tuple p hA,.none_tuple p hA⟩
   | bl c=>cases rx;exact⟨.bool_tuple c p hA,.bool_tuple c p hA⟩
   | int c=>obtain⟨t,rfl⟩:=rx;exact⟨.int_tuple c t p hA,.int_tuple c t p hA⟩
   | str c=>obtain⟨t,rfl⟩:=rx;exact⟨.str_tuple c t p hA,.str_tuple c t p hA⟩
   | _=>exact absurd (show false=true from fx) Bool.false_ne_true
 | ls ts =>
  rw[Rep] at hx
  obtain⟨a,xs,rfl,ha,hs⟩:=hx
  cases rx
  obtain⟨its,vr,p,_⟩:=I.list ha
  have hA:A.units < cLine:=by omega
  cases u with
  | vl q =>
   rw[Rep] at hy
   obtain⟨rfl,fy⟩:=hy
   rw[yit]
   cases y with
   | non=>cases ry;exact⟨.list_none p.isList hA,.list_none p.isList hA⟩
   | bl c=>cases ry;exact⟨.list_bool c p.isList hA,.list_bool c p.isList hA⟩
   | int c=>obtain⟨t,rfl⟩:=ry;exact⟨.list_int c t p.isList hA,.list_int c t p.isList hA⟩
   | str c=>obtain⟨t,rfl⟩:=ry;exact⟨.list_str c t p.isList hA,.list_str c t p.isList hA⟩
   | _=>exact absurd (show false=true from fy) Bool.false_ne_true
  | ls us =>
   rw[Rep] at hy
   obtain⟨b,ys,rfl,hb,hs'⟩:=hy
   cases ry
   obtain⟨its',vr',p',_⟩:=I.list hb
   have l1:its.toArray.size=ts.length:=by rw[List.size_toArray,← vr.length,hs.length]
   have l2:its'.toArray.size=us.length:=by rw[List.size_toArray,← vr'.length,hs'.length]
   rw[eqT]
   by_cases hl:ts.length=us.length
   ·have hsz:its.toArray.size=its'.toArray.size:=by rw[l1,l2,hl]
    have q:=ih ts us xs ys its its' (.inl ⟨rfl,rfl⟩) hs hs' vr vr'
    rw[yeW hl,← l1]
    exact⟨.lists p.isList p'.isList hsz hA q,.lists p.isList p'.isList hsz hA q⟩
   ·have hsz:(its.toArray.size != its'.toArray.size)=true:=by rw[l1,l2];simpa using hl
    rw[yeY hl]
    exact⟨.lists_lengths p.isList p'.isList hsz hA,.lists_lengths p.isList p'.isList hsz hA⟩
  | tp us =>
   rw[Rep] at hy
   obtain⟨b,ys,rfl,hb,hs'⟩:=hy
   cases ry
   obtain⟨its',vr',p',_⟩:=I.tuple hb
   rw[yiM]
   exact⟨.list_tuple p.isList p' hA,.list_tuple p.isList p' hA⟩
 | tp ts =>
  rw[Rep] at hx
  obtain⟨a,xs,rfl,ha,hs⟩:=hx
  cases rx
  obtain⟨its,vr,p,_⟩:=I.tuple ha
  have hA:A.units < cLine:=by omega
  cases u with
  | vl q =>
   rw[Rep] at hy
   obtain⟨rfl,fy⟩:=hy
   rw[yjD]
   cases y with
   | non=>cases ry;exact⟨.tuple_none p hA,.tuple_none p hA⟩
   | bl c=>cases ry;exact⟨.tuple_bool c p hA,.tuple_bool c p hA⟩
   | int c=>obtain⟨t,rfl⟩:=ry;exact⟨.tuple_int c t p hA,.tuple_int c t p hA⟩
   | str c=>obtain⟨t,rfl⟩:=ry;exact⟨.tuple_str c t p hA,.tuple_str c t p hA⟩
   | _=>exact absurd (show false=true from fy) Bool.false_ne_true
  | ls us =>
   rw[Rep] at hy
   obtain⟨b,ys,rfl,hb,hs'⟩:=hy
   cases ry
   obtain⟨its',vr',p',_⟩:=I.list hb
   rw[yiz]
   exact⟨.tuple_list p p'.isList hA,.tuple_list p p'.isList hA⟩
  | tp us =>
   rw[Rep] at hy
   obtain⟨b,ys,rfl,hb,hs'⟩:=hy
   cases ry
   obtain⟨its',vr',p',_⟩:=I.tuple hb
   have l1:its.toArray.size=ts.length:=by rw[List.size_toArray,← vr.length,hs.length]
   have l2:its'.toArray.size=us.length:=by rw[List.size_toArray,← vr'.length,hs'.length]
   have q:=ih ts us xs ys its its' (.inr ⟨rfl,rfl⟩) hs hs' vr vr'
   rw[eqT,← yme l1 l2 rfl]
   exact⟨.tuples p p' hA q,.tuples p p' hA q⟩
theorem yl3 (I:Inv X pins σ H s):∀ (n:Nat) (A:Around) (t u:Tr) (x y:V) (v w:Value),dep t<=n->dep u<=n->Rep X.K H x t->Rep X.K H y u->RelV x v->RelV y w->A.units+n < cLine ->
  SeqAt.EqAt A s v w (eqT t u)/\SeqAt.RcAt A s v w (eqT t u)/\SeqAt.RcNeAt A s v w (!eqT t u):=by
 intro n
 induction n using Nat.strongRecOn with
 | _ n rec =>
  intro A t u x y v w ht hu hx hy rx ry hA
  have ih:∀ ts us xs ys its its',(t=.ls ts/\u=.ls us∨t=.tp ts/\u=.tp us)->Reps X.K H xs ts->Reps X.K H ys us->Vals xs its->Vals ys its'->yjc A.in1 s ts us its its':=by
   intro ts us xs ys its its' htu h1 h2 r1 r2 j j1 j2
   have d:deps ts+1<=n/\deps us+1<=n:=by
    rcases htu with ⟨rfl,rfl⟩ | ⟨rfl,rfl⟩<;>exact⟨ht,hu⟩
   cases n with
   | zero=>omega
   | succ m =>
    rw[List.size_toArray] at j1 j2
    have k1:j < xs.length:=by rw[r1.length];exact j1
    have k2:j < ys.length:=by rw[r2.length];exact j2
    obtain⟨t1,e1,q1⟩:=h1.get (List.getElem?_eq_getElem k1)
    obtain⟨t2,e2,q2⟩:=h2.get (List.getElem?_eq_getElem k2)
    obtain⟨v1,f1,g1⟩:=r1.get (List.getElem?_eq_getElem k1)
    obtain⟨v2,f2,g2⟩:=r2.get (List.getElem?_eq_getElem k2)
    have z1:its.toArray[j]=v1:=by
     rw[List.getElem?_eq_getElem j1] at f1
     simpa using f1
    have z2:its'.toArray[j]=v2:=by
     rw[List.getElem?_eq_getElem j2] at f2
     simpa using f2
    have pe:yjF ts us j=eqT t1 t2:=by unfold yjF;rw[e1,e2]
    rw[z1,z2,pe]
    exact(rec m (Nat.lt_succ_self m) A.in1 t1 t2 _ _ v1 v2 (by have:=yiY e1;omega) (by have:=yiY e2;omega) q1 q2 g1 g2 (by show A.units+1+m < cLine;omega)).1
  have rc:=ynU I A t u x y v w hx hy rx ry (by omega) (by omega) ih
  refine⟨?_,rc⟩
  by_cases fl:ybE x=true/\ybE y=true
  ·cases t with
   | vl p =>
    cases u with
    | vl q =>
     rw[Rep] at hx
     rw[Rep] at hy
     obtain⟨rfl,fx⟩:=hx
     obtain⟨rfl,fy⟩:=hy
     rw[eqT]
     exact ylH rx ry fx fy
    | ls us=>rw[Rep] at hy;obtain⟨b,ys,rfl,_⟩:=hy;exact absurd (show false=true from fl.2) Bool.false_ne_true
    | tp us=>rw[Rep] at hy;obtain⟨b,ys,rfl,_⟩:=hy;exact absurd (show false=true from fl.2) Bool.false_ne_true
   | ls ts=>rw[Rep] at hx;obtain⟨b,ys,rfl,_⟩:=hx;exact absurd (show false=true from fl.1) Bool.false_ne_true
   | tp ts=>rw[Rep] at hx;obtain⟨b,ys,rfl,_⟩:=hx;exact absurd (show false=true from fl.1) Bool.false_ne_true
  ·intro prog w' E Q hq
   unfold eqBool
   refine wpAny_holding ?_
   have nf:∀ b tk,v≠Value.float b tk:=λb tk e=>by
    subst e
    cases t with
    | vl p =>
     rw[Rep] at hx
     obtain⟨rfl,fx⟩:=hx
     cases x<;>first | (simp[ybE] at fx;done) | (cases rx;done) | (obtain⟨_,z⟩:=rx;cases z;done)
    | ls ts=>rw[Rep] at hx;obtain⟨b,ys,rfl,_⟩:=hx;cases rx
    | tp ts=>rw[Rep] at hx;obtain⟨b,ys,rfl,_⟩:=hx;cases rx
   refine wpAny_ite_split (λhab=>?_) (λ_=>?_)
   ·have e:=eq_of_beq hab
    subst e
    have exy:x=y:=rx.inj ry
    subst exy
    rw[ygY I t u x hx hy] at hq
    exact wpAny_bind (wpAny_rule (wpAny_pure hq))
   ·have h2:=rc.1 prog w' E (λa s'=>wpAny (model prog w') A (truthOfDropped a) Q E s') (wpAny_truthy_bool hq)
    cases v with
    | float b tk=>exact absurd rfl (nf b tk)
    | _=>exact wpAny_bind h2
noncomputable def yov (K:PySem.W.Frag):R2:=λx y H Q=>∃ t u,Rep K H x t/\Rep K H y u/\dep t<=60/\dep u<=60/\Q (.bl (eqT t u)) H
noncomputable def yok (K:PySem.W.Frag):R2:=λx y H Q=>∃ t u,Rep K H x t/\Rep K H y u/\dep t<=60/\dep u<=60/\Q (.bl (!eqT t u)) H
end
theorem ycl {X:Cx}(hu:X.A.units+64 < cLine):OpR X (compareOp .Eq) (yov X.K):=by
 intro pins s σ H x y v u Q I rx ry h
 obtain⟨t,t',h1,h2,d1,d2,q⟩:=h
 exact(yl3 I 60 X.A t t' x y v u d1 d2 h1 h2 rx ry (by omega)).2.1 _ _ _ _ ⟨.bl _,H,I,rfl,q⟩
theorem yc4 {X:Cx}(hu:X.A.units+64 < cLine):OpR X (compareOp .NotEq) (yok X.K):=by
 intro pins s σ H x y v u Q I rx ry h
 obtain⟨t,t',h1,h2,d1,d2,q⟩:=h
 exact(yl3 I 60 X.A t t' x y v u d1 d2 h1 h2 rx ry (by omega)).2.2 _ _ _ _ ⟨.bl _,H,I,rfl,q⟩
end L2
namespace L2
open PySem PySem.Spec PyProof.Rows
noncomputable def yds (cells:List (Str×Addr)):List (Str×NameKind)->List (Str×Addr)->List (Str×Addr)
 | [],acc=>acc
 | (n,k) :: r,acc=>match k==.free,cells.lookup n with
  | true,some c=>yds cells r ((n,c) :: acc)
  | _,_=>yds cells r acc
theorem ydm {scope:Scope}{env:Env}(hf:∀ y∈scope.names,y.2=.free->∃ c,env.cells.lookup y.1=some c):closureFor scope env=pure (yds env.cells scope.names []):=by
 unfold closureFor
 have key:∀ (names:List (Str×NameKind)) (acc:List (Str×Addr)),(∀ y∈names,y.2=.free->∃ c,env.cells.lookup y.1=some c) ->
   (forIn names acc λx r=>match x with | (name,kind)=>if (kind==NameKind.free)=true then do let a ← cellOf env name;pure (ForInStep.yield ((name,a) :: r)) else pure (ForInStep.yield r):Sem _)=pure (yds env.cells names acc):=by
  intro names
  induction names with
  | nil=>intro acc _;rfl
  | cons y r ih =>
   intro acc h
   obtain⟨n,k⟩:=y
   rw[List.forIn_cons]
   have hr:∀ y∈r,y.2=.free->∃ c,env.cells.lookup y.1=some c:=λy hy=>h y (List.mem_cons_of_mem _ hy)
   by_cases hk:k=.free
   ·subst hk
    obtain⟨c,hc⟩:=h _ List.mem_cons_self rfl
    have e:cellOf env n=pure c:=by unfold cellOf;rw[show env.cells.lookup n=some c from hc]
    simp only[beq_self_eq_true,if_true,e]
    show(forIn r ((n,c) :: acc) _:Sem _)=_
    rw[ih _ hr]
    simp only[yds,beq_self_eq_true,show env.cells.lookup n=some c from hc]
   ·have hb:(k==NameKind.free)=false:=by simpa using hk
    simp only[hb,Bool.false_eq_true,if_false]
    show(forIn r acc _:Sem _)=_
    rw[ih _ hr]
    simp only[yds,hb]
 exact(congrArg (λm:Sem (List (Str×Addr))=>m >>= λcs=>pure cs) (key scope.names [] hf)).trans rfl
theorem yeQ (cells:List (Str×Addr)):∀ (names:List (Str×NameKind)) (acc:List (Str×Addr)) (x:Str) (c:Addr),(x,c)∈yds cells names acc->(x,c)∈acc∨cells.lookup x=some c
 | [],acc,x,c,h=>.inl h
 | (n,k) :: r,acc,x,c,h=>by
  rw[yds] at h
  split at h
  ·rename_i c' h1 h2
   rcases yeQ cells r _ x c h with q | q
   ·rcases List.mem_cons.mp q with q | q
    ·cases q;exact .inr h2
    ·exact .inl q
   ·exact .inr q
  ·exact yeQ cells r _ x c h
theorem yfo (cells:List (Str×Addr)):∀ (names:List (Str×NameKind)) (acc:List (Str×Addr)) (p:Str×Addr),p∈acc->p∈yds cells names acc
 | [],acc,p,h=>h
 | (n,k) :: r,acc,p,h=>by
  rw[yds]
  split
  ·exact yfo cells r _ p (List.mem_cons_of_mem _ h)
  ·exact yfo cells r _ p h
theorem yfb (cells:List (Str×Addr)):∀ (names:List (Str×NameKind)) (acc:List (Str×Addr)) (x:Str) (c:Addr),(x,.free)∈names->cells.lookup x=some c->(x,c)∈yds cells names acc
 | [],acc,x,c,h,_=>by simp at h
 | (n,k) :: r,acc,x,c,h,e=>by
  rw[yds]
  rcases List.mem_cons.mp h with q | q
  ·cases q
   simp only[beq_self_eq_true,e]
   exact yfo cells r _ _ List.mem_cons_self
  ·split
   ·exact yfb cells r _ x c q e
   ·exact yfb cells r _ x c q e
theorem yde:∀ {l:List (Str×Addr)} {x:Str} {c:Addr},(x,c)∈l->∃ c',l.lookup x=some c'
 | [],_,_,h=>by simp at h
 | (n,d) :: r,x,c,h=>by
  rw[List.lookup_cons]
  cases q:x==n with
  | true=>exact⟨d,rfl⟩
  | false =>
   rcases List.mem_cons.mp h with z | z
   ·cases z;simp at q
   ·exact yde z
theorem yes:∀ {l:List (Str×Addr)} {x:Str} {c:Addr},l.lookup x=some c->(x,c)∈l
 | [],_,_,h=>by simp at h
 | (n,d) :: r,x,c,h=>by
  rw[List.lookup_cons] at h
  cases q:x==n with
  | true =>
   rw[q] at h
   have e:x=n:=by simpa using q
   cases h
   rw[e]
   exact List.mem_cons_self
  | false =>
   rw[q] at h
   exact List.mem_cons_of_mem _ (yes h)
theorem ybn {cells:List (Str×Addr)}{names:List (Str×NameKind)}{x:Str}{c:Addr}(h:(yds cells names []).lookup x=some c):cells.lookup x=some c:=by
 rcases yeQ cells names [] x c (yes h) with q | q
 ·simp at q
 ·exact q
theorem yfQ {cells:List (Str×Addr)}{names:List (Str×NameKind)}{x:Str}{c:Addr}(h:(x,.free)∈names)(e:cells.lookup x=some c):(yds cells names []).lookup x=some c:=by
 obtain⟨c',q⟩:=yde (yfb cells names [] x c h e)
 have:=ybn q
 rw[e] at this
 cases this
 exact q
theorem yhW {prog:Program}{w:World}{A:Around}{R:Result->Shared->Prop}{s:Shared}{elt:Expr}{gs:List Comprehension}{scope:Scope}{pos:Pos}{it acc:Value}{env:Env}(St:Nat->Shared->Prop)
  (one:∀ n s,St n s->wpAny (model prog w) A (compTurn (.ListComp elt gs scope pos) 0 it acc env) (λf s'=>(∃ r,f=.done r/\R (.ok r) s')∨(f=.again (.compLoop (.ListComp elt gs scope pos) 0 it acc env)/\∃ m,m < n/\St m s')) (notedBy (model prog w) A env λe s'=>R (.error e) s') s)
  (n:Nat) (h:St n s):codeAny (model prog w) A (.compLoop (.ListComp elt gs scope pos) 0 it acc env) R s :=
 codeAny_loop rfl St (λn s hn=>(wpAny_noted (thn (one n s hn) λf s' z=>by
  rcases z with ⟨r,e,z⟩ | ⟨e,z⟩<;>subst e
  ·exact z
  ·exact⟨rfl,z⟩):wpAny (model prog w) A ((compTurn (.ListComp elt gs scope pos) 0 it acc env).onRaise _) _ _ s)) n h
noncomputable def cxB (X:Cx)(scope:Scope)(NB:List Str)(C:Addr)(s:Shared)(H:Hp)(ex:List Addr):Cx where
 prog:=X.prog
 w:=X.w
 K:=X.K
 mg:=X.mg
 base:=X.base
 A:=X.A
 N:=NB
 s₀:=s
 H₀:=H
 env:=compEnvC scope (yds X.env.cells scope.names []) C X.env
 outer:=X.stack
 stack:=X.stack
 ex:=ex
 fn:=λ_=>false
 calm:=X.calm
 pn:=X.pn
 xe:=λ_ _=>False
noncomputable def stB (cap:List (Option Nat))(σ:St):St:=cap.map λo=>match o with
 | none=>none
 | some j=>(σ[j]?).getD none
structure BlockOk (X:Cx) (scope:Scope) (NB:List Str) (cap:List (Option Nat)):Prop where
 kind:scope.kind=.function
 cell:∀ y∈scope.names,y.2≠.cell
 names:∀ y∈scope.names,y.2=.local->scope.names.lookup y.1=some .local
 free:∀ y∈scope.names,y.2=.free->(X.env.kindOf y.1=some .cell∨X.env.kindOf y.1=some .free)
 len:cap.length=NB.length
 caps:∀ (i:Nat) (x:Str) (j:Nat),NB[i]?=some x->cap[i]?=some (some j)->X.N[j]?=some x/\(x,NameKind.free)∈scope.names/\((relabel scope X.env).names.lookup x=some .cell∨(relabel scope X.env).names.lookup x=some .free)
theorem yd7:∀ {l:List (Str×NameKind)} {x:Str} {c:NameKind},l.lookup x=some c->(x,c)∈l
 | [],_,_,h=>by simp at h
 | (n,d) :: r,x,c,h=>by
  rw[List.lookup_cons] at h
  cases q:x==n with
  | true =>
   rw[q] at h
   have e:x=n:=by simpa using q
   cases h
   rw[e]
   exact List.mem_cons_self
  | false =>
   rw[q] at h
   exact List.mem_cons_of_mem _ (yd7 h)
theorem yfu {scope:Scope}{env:Env}{x:Str}(hc:∀ y∈scope.names,y.2≠.cell)(h:(relabel scope env).names.lookup x=some .cell∨(relabel scope env).names.lookup x=some .free):(x,NameKind.free)∈scope.names:=by
 have key:∀ k,(relabel scope env).names.lookup x=some k->(k=.cell∨k=.free)->(x,NameKind.free)∈scope.names:=by
  intro k hk hkk
  obtain⟨⟨n,k0⟩,hm,e⟩:=List.mem_map.mp (yd7 hk)
  dsimp only at e
  split at e
  ·rename_i c
   cases e
   have:k0=.free:=by
    simp only[Bool.and_eq_true] at c
    simpa using c.1.1
   subst this
   exact hm
  ·cases e
   rcases hkk with rfl | rfl
   ·exact absurd rfl (hc _ hm)
   ·exact hm
 rcases h with h | h
 ·exact key _ h (.inl rfl)
 ·exact key _ h (.inr rfl)
section
variable {X:Cx} {pins:List (Addr×Obj)} {σ:St} {H:Hp} {s:Shared} {scope:Scope} {NB:List Str} {cap:List (Option Nat)}
theorem BlockOk.closure (B:BlockOk X scope NB cap)(ok:X.Ok):closureFor scope X.env=pure (yds X.env.cells scope.names []):=ydm λy hy e=>ok.has y.1 (B.free y hy e)
theorem yjx {h₁:Heap}{m:Str->Option Value}{fp:List Addr}{tk:Nat}(B:BlockOk X scope NB cap)(I:Inv X pins σ H s)(hk:∀ b o,s.heap.get? b=some o->h₁.get? b=some o)(hn:h₁.Ns s.heap.objs.size m)
  (hf:∀ b∈fp,yft X pins H b) (hlt:∀ b∈fp,b < s.heap.objs.size):Inv (cxB X scope NB s.heap.objs.size s H fp) pins (stB cap σ) H { s with heap:=h₁,toks:=tk }:=by
 have ltC:∀ {b:Addr} {o:Obj},s.heap.get? b=some o->b≠s.heap.objs.size:=λe=>Nat.ne_of_lt (Heap.lt_size e)
 refine⟨⟨I.ok.mod,B.kind,I.ok.glob,I.ok.blt,Nat.le_refl _,λx y c h1 h2=>I.ok.inj x y c (ybn h1) (ybn h2),λx hx=>?_,λx c h _=>absurd h (by simp[cxB]),I.ok.hd,I.ok.frames,.inl rfl,λb hb=>⟨Nat.ne_of_lt (hlt b hb),λx c e=>(hf b hb).2.2.2.2.1 x c (ybn e)⟩,
  I.bs,Nat.le_trans I.ok.bsz I.sz,λb o e hb=>?_,λb hb hs=>?_,I.stack,I.stkFree⟩,rfl,I.bare,Un.kept hk,⟨m,hn,λi x v e1 e2 e3=>?_⟩,λx c e=>?_,I.hok.fresh (Nat.le_refl _),λx c e=>I.freeC x c (ybn e),λp hp=>?_,I.hok.kept hk,?_⟩
 ·have hm:=yfu B.cell hx
  obtain⟨c,hc⟩:=I.ok.has x (B.free _ hm rfl)
  exact⟨c,yfQ hm hc⟩
 ·rcases(hf b hb).2.2.2.1 with z | z
  ·exact I.ok.noex b o e z
  ·exact absurd (Nat.lt_of_lt_of_le (Heap.lt_size e) (Nat.le_trans I.ok.bsz z)) (Nat.lt_irrefl _)
 ·rcases List.mem_cons.mp (I.stkSub b hs) with z | z
  ·exact(hf b hb).2.1 z
  ·exact(hf b hb).2.2.1 z
 ·have e1:NB[i]?=some x:=e1
  have e2:(stB cap σ)[i]?=some (some v):=e2
  unfold stB at e2
  rw[List.getElem?_map] at e2
  cases q:cap[i]? with
  | none=>rw[q] at e2;cases e2
  | some o =>
   rw[q] at e2
   cases o with
   | none=>cases e2
   | some j =>
    have e2':(σ[j]?).getD none=some v:=by simpa using e2
    have e2'':σ[j]?=some (some v):=by
     cases z:σ[j]? with
     | none=>rw[z] at e2';cases e2'
     | some y=>rw[z] at e2';rw[show y=some v from e2']
    obtain⟨hN,hm,hk2⟩:=B.caps i x j e1 q
    obtain⟨m',hn',hl⟩:=I.loc
    have hkx:=B.free _ hm rfl
    obtain⟨u,ru,lk⟩:=hl j x v hN e2'' (.inr hkx)
    refine⟨u,ru,?_⟩
    rcases lk with ⟨kl,_⟩ | ⟨_,c,hc,hcell⟩
    ·rcases hkx with z | z<;>(rw[z] at kl;cases kl)
    ·obtain⟨oc,ho,hd⟩:=hcell
     exact .inr ⟨hk2,c,yfQ hm hc,oc,hk c oc ho,hd⟩
 ·obtain⟨v,oc,ho,hd⟩:=I.cell x c (ybn e)
  exact⟨v,oc,hk c oc ho,hd⟩
 ·obtain⟨e,n,ne,nf,d⟩:=I.pin p hp
  refine⟨hk _ _ e,n,ltC e,λz=>?_,d⟩
  rcases List.mem_cons.mp (I.stkSub p.1 z) with z | z
  ·exact ne z
  ·exact nf z
 ·unfold stB
  rw[List.length_map]
  exact B.len
noncomputable def ynb (X:Cx)(ifs:List Expr)(t:TT):Prop :=
 ∀ (pins:List (Addr×Obj)) (s:Shared) (σ:St) (H:Hp) (Q:Bool->Hp->Prop),Inv X pins σ H s->t σ H Q ->
  wpAny (model X.prog X.w) X.A (forIn ifs true λc r=>if r=true then do let ok ← isTrue c X.env (eval c X.env);pure (ForInStep.yield ok) else pure (ForInStep.yield r)) (TP X pins σ Q) X.xe s
noncomputable def yei:TT:=λ_ H Q=>Q true H
theorem yaG:ynb X [] yei:=λpins s σ H Q I h=>wpAny_tests_nil ⟨H,I,h⟩
theorem ydI {c:Expr}{t:TT}(h:PT X c t):ynb X [c] t:=λpins s σ H Q I q=>wpAny_tests_one (h pins s σ H Q I q)
noncomputable def ycR (J:It)(g:TG)(tc:TT)(te:TE)(D:Addr)(Fin:Hp->Prop)(W:Nat->Nat->St->Hp->Prop):Prop :=
 ∀ i m σ H,W i m σ H->(J.stop i H/\Fin H)∨(J.go i H/\∃ N:St->Hp->Prop,(∀ σ' H',N σ' H'->∃ m',m' < m/\W (i+1) m' σ' H') /\
  ∀ x H',J.yld i H x H'->g x σ H' fun σ2 H2=>tc σ2 H2 λb H3=>if b=true then te σ2 H3 λy H4=>∃ ys,H4 D=some (.lst ys)/\ys.length < sizeLine/\N σ2 (upd H4 D (.lst (ys++[y]))) else N σ2 H3)
noncomputable def yfv (wi:TI)(cap:List (Option Nat))(g:TG)(tc:TT)(te:TE):TE:=fun σ H Q=>wi σ H λJ H1=>∀ D,H1 D=none ->
 ∃ W:Nat->Nat->St->Hp->Prop,(∃ m,W 0 m (stB cap σ) (upd H1 D (.lst [])))/\ycR J g tc te D (λH'=>Q (.ref D) H') W
theorem yfN {elt tg iter:Expr}{ifs:List Expr}{pos:Pos}{it:Addr}{fp:List Addr}{tn:Nat->Heap->Prop}{J:It}{g:TG}{tc:TT}{te:TE}{E:Value->Shared->Prop}{RR:Value->Addr->Result->Shared->Prop}{Qd:Addr->Hp->Prop}
  (B:BlockOk X scope NB cap) (hc:X.calm=true) (hg:∀ C s H ex,PG (cxB X scope NB C s H ex) tg g) (ht:∀ C s H ex,ynb (cxB X scope NB C s H ex) ifs tc) (he:∀ C s H ex,PE (cxB X scope NB C s H ex) elt te)
  (I:Inv X pins σ H s) (T:yjZ X.prog X.w X.K tg J fp it tn) (st:tn 0 s.heap) (hf:∀ b∈fp,yft X pins H b)
  (rd:∀ D,H D=none->∃ W:Nat->Nat->St->Hp->Prop,(∃ m,W 0 m (stB cap σ) (upd H D (.lst [])))/\ycR J g tc te D (Qd D) W)
  (hRR:∀ D C H' s' m',Inv X pins σ H' s'->s'.heap.Ns C m'->yft X pins H' C->Qd D H'->RR (.ref D) C (.ok .next) s') :
  wpAny (model X.prog X.w) X.A (newList []) (λacc s₃=>wpAny (model X.prog X.w) X.A (newFunctionEnv scope X.env.globals (yds X.env.cells scope.names []) [] X.env.qual none .none (some X.env)) (λcenv s₄ =>
   codeAny (model X.prog X.w) X.A (.compStart (.ListComp elt [⟨tg,iter,ifs,0⟩] scope pos) 0 (.ref it) acc { cenv with scope:=relabel scope X.env }) (RR acc cenv.locals) s₄) E s₃) E s:=by
 have hlt:∀ b∈fp,b < s.heap.objs.size:=λb hb=>by
  obtain⟨o,e,_⟩:=T.obj _ _ st b hb
  exact Heap.lt_size e
 have hD:H s.heap.objs.size=none:=I.hok.fresh (Nat.le_refl _)
 obtain⟨W,⟨m0,w0⟩,cw⟩:=rd _ hD
 refine wpAny_newObj_type (wpAny_newFunctionEnv B.cell (by intro y hy;simp at hy) (λh₁ hns₁ hsb₁=>?_) B.kind)
 dsimp only at hns₁ hsb₁ ⊢
 have I3:Inv X pins σ (upd H s.heap.objs.size (.lst [])) { s with heap:=s.heap.push { cls:=.type "list",dict:=none,data:=.seq ([]:List Value).toArray } } :=
  I.laid (t':=s.toks) (λb o e=>Heap.get?_push_of_some _ e) (Nat.le_refl _) ⟨Nat.zero_le _,[],0,.nil,Heap.get?_push_size _ rfl⟩
 have up:∀ b o,s.heap.get? b=some o->(s.heap.push { cls:=.type "list",dict:=none,data:=.seq ([]:List Value).toArray }).get? b=some o:=λb o e=>Heap.get?_push_of_some _ e
 have hf3:∀ b∈fp,yft X pins (upd H s.heap.objs.size (.lst [])) b:=λb hb=>⟨by rw[yai (Nat.ne_of_lt (hlt b hb))];exact(hf b hb).1,(hf b hb).2⟩
 generalize hH2:s.heap.push { cls:=.type "list",dict:=none,data:=.seq ([]:List Value).toArray }=H2 at hns₁ hsb₁ I3 up ⊢
 have hlt3:∀ b∈fp,b < H2.objs.size:=λb hb=>by
  rw[← hH2,Heap.size_push]
  exact Nat.lt_succ_of_lt (hlt b hb)
 have keep:∀ b o,H2.get? b=some o->h₁.get? b=some o:=λb o e=>hsb₁.extBut b o (Nat.ne_of_lt (Heap.lt_size e)) (Heap.get?_push_of_some _ e)
 have IB:=λtk=>yjx (tk:=tk) (s:={ s with heap:=H2 }) B I3 keep hns₁ hf3 hlt3
 have st1:tn 0 h₁:=T.keep _ _ _ st λb hb o e=>keep b o (up b o e)
 generalize hX':cxB X scope NB H2.objs.size { s with heap:=H2 } (upd H s.heap.objs.size (.lst [])) fp=X' at IB
 have fpB:∀ {pins':List (Addr×Obj)} {H':Hp},pins'=pins->(∀ b∈fp,H' b=none)->∀ b∈fp,yft X' pins' H' b:=λ{pins' H'} ep hn b hb=>by
  subst ep
  subst hX'
  obtain⟨_,f1,f2,f3,f4,f5⟩:=hf b hb
  refine⟨hn b hb,Nat.ne_of_lt (hlt3 b hb),λz=>?_,.inl hb,λx c e=>f4 x c (ybn e),f5⟩
  rcases List.mem_cons.mp (I3.stkSub b z) with z | z
  ·exact f1 z
  ·exact f2 z
 have hg':=hg H2.objs.size { s with heap:=H2 } (upd H s.heap.objs.size (.lst [])) fp
 have ht':=ht H2.objs.size { s with heap:=H2 } (upd H s.heap.objs.size (.lst [])) fp
 have he':=he H2.objs.size { s with heap:=H2 } (upd H s.heap.objs.size (.lst [])) fp
 rw[hX'] at hg' ht' he'
 have pP:X'.prog=X.prog:=by subst hX';rfl
 have pw:X'.w=X.w:=by subst hX';rfl
 have pK:X'.K=X.K:=by subst hX';rfl
 have pA:X'.A=X.A:=by subst hX';rfl
 have pc:X'.calm=true:=by subst hX';exact hc
 have pe:X'.env=compEnvC scope (yds X.env.cells scope.names []) H2.objs.size X.env:=by subst hX';rfl
 have px:X'.xe=λ_ _=>False:=by subst hX';rfl
 have fin:∀ {σ':St} {H':Hp} {s':Shared},Inv X' pins σ' H' s'->Qd s.heap.objs.size H'->RR (.ref s.heap.objs.size) H2.objs.size (.ok .next) s':=λ{σ' H' s'} I' q=>by
  have os':s'.os=s.os:=by have:=I'.os;subst hX';exact this
  have un':Un (frs X.stack) fp (upd H s.heap.objs.size (.lst [])) H' H2 s'.heap:=by have:=I'.base;subst hX';exact this
  have IX:Inv X pins σ H' s':=I3.call' (s':=s') (ch:=fp) os' un' (by have:=I'.hok;rw[pP,pw] at this;exact this) I'.bare λb hb=>⟨(hf b hb).2.2.2.1,(hf b hb).2.1,(hf b hb).2.2.2.2.1,(hf b hb).2.2.2.2.2⟩
  obtain⟨m,hn,_⟩:=I'.loc
  have hfr:=I'.free
  rw[pe] at hn hfr
  exact hRR _ _ H' s' m IX hn (I3.fpOk (Nat.le_refl _) hfr) q
 have loop:∀ s₃:Shared,s₃={ s with heap:=h₁,toks:=s.toks+([]:List (Str×Value)).length } ->
   codeAny (model X.prog X.w) X.A (.compLoop (.ListComp elt [⟨tg,iter,ifs,0⟩] scope pos) 0 (.ref it) (.ref s.heap.objs.size) (compEnvC scope (yds X.env.cells scope.names []) H2.objs.size X.env))
    (RR (.ref s.heap.objs.size) H2.objs.size) s₃:=by
  rintro s₃ rfl
  refine yhW (λn s'=>∃ i σ' H',Inv X' pins σ' H' s'/\tn i s'.heap/\(∀ b∈fp,H' b=none)/\W i n σ' H') ?_ m0 ⟨0,stB cap σ,_,IB _,st1,λb hb=>(hf3 b hb).1,w0⟩
  rintro n s3 ⟨i,σ3,H3,I3',st3,fr3,w3⟩
  rw[← pe]
  rw[← pP,← pw,← pK] at T
  rw[← pP,← pw,← pA]
  rw[compTurn_list]
  refine wpAny_bind (wpAny_standAt (wpAny_bind ?_))
  rcases cw i n σ3 H3 w3 with ⟨stop,qn⟩ | ⟨go,N,hN,step⟩
  ·refine thn (T.done X' rfl rfl rfl pc i pins s3 σ3 H3 _ I3' (fpB rfl fr3) st3 stop) λr s4 ⟨hr,I4⟩=>?_
   subst hr
   exact wpAny_pure (.inl ⟨_,rfl,fin I4 qn⟩)
  ·refine thn (T.item X' rfl rfl rfl pc i pins s3 σ3 H3 _ I3' (fpB rfl fr3) st3 go) λr s4 ⟨u,hr,h4⟩=>?_
   subst hr
   refine wpAny_bind (thn h4 λ_ s5 ⟨x,H5,I5,r5,y5,st5,fr5⟩=>?_)
   have I5':=I5.pinned (fpB rfl fr5) (T.obj _ _ st5)
   have no:∀ {E':Value->Shared->Prop} (e:Value) (s':Shared),X'.xe e s'->E' e s':=λe s' z=>by rw[px] at z;exact z.elim
   refine wpAny_bind (wpAny_mono (hg' _ s5 σ3 H5 x u _ I5' r5 (step x H5 y5)) (λ_ s6 ⟨σ6,H6,I6,q6⟩=>?_) no)
   have again:∀ {σ7:St} {H7:Hp} {s7:Shared},Inv X' (pins++yf8 fp s5.heap) σ7 H7 s7->N σ7 H7->∃ m,m < n/\∃ i σ' H',Inv X' pins σ' H' s7/\tn i s7.heap/\(∀ b∈fp,H' b=none)/\W i m σ' H':=λ{σ7 H7 s7} I7 n7=>by
    obtain⟨m',hm,w7⟩:=hN σ7 H7 n7
    refine⟨m',hm,i+1,σ7,H7,I7.unpinned,T.keep _ _ _ st5 λb hb o e=>(I7.pin (b,o) (List.mem_append_right _ (List.mem_append_right _ (yb3 hb e)))).1,λb hb=>?_,w7⟩
    obtain⟨o,e,d⟩:=T.obj _ _ st5 b hb
    exact(I7.pin (b,o) (List.mem_append_right _ (List.mem_append_right _ (yb3 hb e)))).2.1
   refine wpAny_bind (wpAny_mono (ht' _ s6 σ6 H6 _ I6 q6) (λb s7 ⟨H7,I7,q7⟩=>?_) no)
   cases b with
   | false=>exact wpAny_pure (.inr ⟨rfl,again I7 q7⟩)
   | true =>
    refine wpAny_bind (wpAny_bind (wpAny_mono (he' _ s7 σ6 H7 _ I7 q7) (λyv s8 ⟨y,H8,I8,r8,ys,hy,hz,q8⟩=>?_) no))
    refine wpAny_bind (wpAny_mono (yaM (X:=X') _ s8 σ6 H8 (.ref s.heap.objs.size) [y] _ [yv] (λ_ H9=>N σ6 H9) I8 rfl (.cons r8 .nil) ⟨_,ys,y,rfl,rfl,hy,hz,q8⟩) (λ_ s9 ⟨_,H9,I9,_,q9⟩=>wpAny_pure (wpAny_pure (.inr ⟨rfl,again I9 q9⟩))) no)
 exact codeAny_compStart_list (loop _ rfl) (T.self _ 0 _ _ _ st1 (loop _ rfl))
theorem yaS {elt tg iter:Expr}{ifs:List Expr}{pos:Pos}{wi:TI}{g:TG}{tc:TT}{te:TE}(B:BlockOk X scope NB cap)(hc:X.calm=true)(hi:PI X tg iter wi)
  (hg:∀ C s H ex,PG (cxB X scope NB C s H ex) tg g) (ht:∀ C s H ex,ynb (cxB X scope NB C s H ex) ifs tc) (he:∀ C s H ex,PE (cxB X scope NB C s H ex) elt te) (hs:∀ x,foldedSetIterable iter X.env x=pure x:=by intro _;rfl) :
  PE X (.ListComp elt [⟨tg,iter,ifs,0⟩] scope pos) (yfv wi cap g tc te):=by
 intro pins s σ H Q I h
 rw[eval_ListComp]
 refine wpAny_comprehension_free (use:=none) rfl hs (B.closure I.ok) B.kind B.names (thn (hi pins s σ H _ I h) λv s1 h1=>thn h1 λitv s2 h2=>?_)
 obtain⟨it,fp,tn,J,H2,e,I2,T,st2,f2,rd⟩:=h2
 subst e
 refine yfN (RR:=λacc C=>compPost (model X.prog X.w) X.A X.xe none (EP X pins σ Q) acc C) (Qd:=λD H'=>Q (.ref D) H') B hc hg ht he I2 T st2 f2 rd ?_
 intro D C H' s' m' I' hn hfp q
 obtain⟨f0,f1,f2',f3,f4,f5⟩:=hfp
 refine⟨m',hn,λh' sb=>⟨.ref D,H',I'.turned (t':=s'.toks) (it:=C) (λb o hb e=>(sb.2 b hb).trans e) f0 f1 f3 f4 f5,rfl,q⟩⟩
noncomputable def yhr (i:Nat)(te:TE):TS:=λD σ H=>te σ H λx H1=>D.nx (σ.set i (some x)) H1
theorem ybk {i:Nat}{y:Str}{elt tg iter:Expr}{ifs:List Expr}{pos spos py:Pos}{wi:TI}{g:TG}{tc:TT}{te:TE}(hN:X.N.Nodup)(hi':X.N[i]?=some y)(hx:Loc X.env.scope y)(B:BlockOk X scope NB cap)(hc:X.calm=true)(hi:PI X tg iter wi)
  (hg:∀ C s H ex,PG (cxB X scope NB C s H ex) tg g) (ht:∀ C s H ex,ynb (cxB X scope NB C s H ex) ifs tc) (he:∀ C s H ex,PE (cxB X scope NB C s H ex) elt te)
  (hsw:swapsWith (.ListComp elt [⟨tg,iter,ifs,0⟩] scope pos) (some (.Name y py)) spos.line X.env=pure true:=by rfl)
  (hf:X.fn y=true∨X.env.scope.names.lookup y=some .local:=by first | exact .inl rfl | exact .inr rfl | assumption) (hs:∀ x,foldedSetIterable iter X.env x=pure x:=by intro _;rfl) :
  PS X (.Assign [.Name y py] (.ListComp elt [⟨tg,iter,ifs,0⟩] scope pos) spos) (yhr i (yfv wi cap g tc te)):=by
 intro pins s σ H D I h
 rw[exec_Assign_Name_used _ _ _ _ hsw]
 refine wpAny_bind (wpAny_standAt (wpAny_bind ?_))
 show wpAny _ X.A (do let _ ← comprehension (.ListComp elt [⟨tg,iter,ifs,0⟩] scope pos) scope X.env _ (newList []) false (eval iter X.env) (some (assign (.Name y py) X.env))) _ _ s
 refine wpAny_bind (wpAny_mono (wpAny_comprehension_free (use:=some (assign (.Name y py) X.env)) (Q:=λ_ s'=>SP X pins D .next s') rfl hs (B.closure I.ok) B.kind B.names
  (thn (hi pins s σ H _ I h) λv s1 h1=>thn h1 λitv s2 h2=>?_)) (λ_ s' hq=>wpAny_pure (wpAny_pure hq)) λ_ _ e=>e)
 obtain⟨it,fp,tn,J,H2,e,I2,T,st2,f2,rd⟩:=h2
 subst e
 refine yfN (RR:=λacc C=>compPost (model X.prog X.w) X.A X.xe (some (assign (.Name y py) X.env)) (λ_ s'=>SP X pins D .next s') acc C) (Qd:=λd H'=>D.nx (σ.set i (some (.ref d))) H') B hc hg ht he I2 T st2 f2 rd ?_
 intro d C H' s' m' I' hn hfp q
 show wpAny _ X.A (assign (.Name y py) X.env (.ref d)) _ _ _
 refine wpAny_assign_Name (ygs (v:=.ref d) I' hN hi' hx rfl (λs'' I'' sb=>?_) hf)
 obtain⟨f0,f1,f2',f3,f4,f5⟩:=hfp
 obtain⟨a,sa,ha⟩:=sb
 have haC:C≠a:=by
  rcases ha with z | z
  ·rw[z];exact f1
  ·exact λe=>f4 y a z e.symm
 refine⟨m',hn.sameBut sa haC,λh' sb=>⟨_,H',I''.turned (t':=s''.toks) (it:=C) (λb o hb e=>(sb.2 b hb).trans e) f0 f1 f3 f4 f5,q⟩⟩
end
end L2
namespace PB
open PySem
open PySem.Sem (wp)
open PySem.AutoSeq1 (wpAny_loadPart')
noncomputable def itO (l:Addr):Obj:={ cls:=.type "list_iterator",data:=.fields #[.ref l,.int 0 0] }
noncomputable def enO (it:Addr)(k:Int):Obj:={ cls:=.type "enumerate",data:=.fields #[.none,.bool false,.ref it,rawInt k,.none,.none] }
theorem yjj (l:Addr)(items:Array Value)(n:Nat)(dct:Option Addr)(sl:Array (Option Value))(k:Int)(t:Tok)(hk:Builtin.SmallTypes.fitsIndex k=true) :
  Meets (Builtin.«enumerate.__new__» ⟨[.type "enumerate",.ref l],[("start",.int k t)]⟩) (λ_ R s=>s.heap.get? l=some ⟨.type "list",dct,.seq items n,sl⟩ /\
   R (.ok (.ret (.ref (s.heap.push (itO l)).objs.size))) { s with heap:=(s.heap.push (itO l)).push (enO s.heap.objs.size k) }):=by
 refine .of_wp λprog w A R s ⟨hl,h⟩=>?_
 obtain⟨hp,g,d,tk,os⟩:=s
 have sb:=sub_enumerate
 have hL:Heap.IsList hp l items:=⟨_,hl,rfl,n,rfl⟩
 wp_walk using wpAny_loadPart' hl
 refine wpAny_stack_any λst=>wpAny_pure ?_
 split
 ·rename_i c _ _ _ _ _
  cases (c==Value.type "enumerate")<;>(wp_walk using wpAny_loadPart' hl,wpAny_pyIter_list hL;exact⟨_,rfl,h⟩)
 ·wp_walk using wpAny_loadPart' hl,wpAny_pyIter_list hL
  exact⟨_,rfl,h⟩
theorem ymL {T newId:String}{self:Value}{rest:List Value}{kw:List (Str×Value)}(hl:typeLookup (.type T) "__init__"=pure (some (.builtin "object.__init__")))(hm:Bind.madeBy (.type T)=pure (some newId))(hne:(some newId != some "object.__new__")=true) :
  Meets (Builtin.«object.__init__» ⟨self :: rest,kw⟩) (λ_ R s=>s.TypeIs self T/\R (.ok (.ret .none)) s):=.of_wp λprog w A R s ⟨hT,hq⟩=>by
 cases rest with
 | cons a rest =>
  repeat (any_goals (first | assumption | wp_step))
  exact⟨_,rfl,hq⟩
 | nil =>
  cases kw with
  | nil=>exact wpAny_pure ⟨_,rfl,hq⟩
  | cons a kw =>
   repeat (any_goals (first | assumption | wp_step))
   exact⟨_,rfl,hq⟩
theorem yiH {prog:Program}{w:World}{A:Around}{E:Value->Shared->Prop}{s:Shared}{T newId:String}{Bn:Builtin}{args:List Value}{kw:List (Str×Value)}{S:Spec}{Q:Value->Shared->Prop}(ft:TypeCalled T newId "object.__init__")
  (hne:(some newId != some "object.__new__")=true) (hct:checkTypeCall T ⟨args,kw⟩=pure ()) (hcn:checkBuiltinCall newId ⟨.type T :: args,kw⟩=pure ()) (hok:∀ obj,argsOk "object.__init__" ⟨obj :: args,kw⟩) (entryN:entryFor table newId=some Bn) (g:Meets (Bn ⟨.type T :: args,kw⟩) S)
  (h:S A.in1 (wants (λobj s₁=>s₁.TypeIs obj T/\Q obj s₁) E) s):wpAny (model prog w) A (call (.type T) args kw) Q E s:=by
 obtain⟨c,tl,hmro⟩:=ft.mro
 have hmade:=ft.made
 have h1:=ft.notType
 have h2:=ft.canCreate
 have h3:=ft.sub
 refine wpAny_call (codeAny_of_tree (?_:wpAny _ _ (callAny (.type T) _) _ _ _))
 refine wpAny_pure ⟨Code.quiet_builtin _ (by decide +kernel),codeAny_builtin F.entry_type_call (?_:wpAny _ (Around.under _ _) _ _ _ _)⟩
 rw[Around.under_plain (weight_type_call_type T args kw) (units_type_call_type T args kw)]
 repeat (any_goals (first | assumption | wp_step))
 refine codeAny_mono (codeAny_call_builtin ft.plain entryN (wpAny_of_eq hcn (g prog w A.in1 _ s h))) fun | .error e,s₁,hr=>hr | .ok (.ret obj),s₁,hr=>?_ | .ok .next,s₁,hr=>hr.elim | .ok .brk,s₁,hr=>hr.elim | .ok .cont,s₁,hr=>hr.elim
 have hT:s₁.TypeIs obj T:=hr.1
 have hli:=ft.init.lookup
 have hbi:=ft.init.bind obj
 repeat (any_goals (first | assumption | wp_step))
 have im:=ymL (self:=obj) (rest:=args) (kw:=kw) hli hmade hne prog w A.in1 (λr s₂=>(match r with | .ok (.ret v)=>v=.none | _=>False)/\s₂=s₁) s₁ ⟨hT,rfl,rfl⟩
 refine codeAny_mono (R:=λr s₂=>(match r with | .ok (.ret v)=>v=.none | _=>False)/\s₂=s₁) (codeAny_call_builtin ft.init.plain F.entry_object_init (ft.init.check _ _ _ _ _ _ _ _ hT (hok obj) im)) λr s₂ ⟨e1,e2⟩=>?_
 subst e2
 have hq:Q obj s₂:=hr.2
 match r,e1 with
 | .ok (.ret v),e1 =>
  have e1:v=.none:=e1
  subst e1
  repeat (any_goals (first | assumption | wp_step))
theorem yho (a b:Value):checkTypeCall "enumerate" ⟨[a],[("start",b)]⟩=pure ():=by kernel_rfl
theorem yhn (a b:Value):checkBuiltinCall "enumerate.__new__" ⟨[.type "enumerate",a],[("start",b)]⟩=pure ():=by kernel_rfl
theorem yhi (o a b:Value):argsOk "object.__init__" ⟨[o,a],[("start",b)]⟩:=by unfold argsOk;rw[signature?_of (n:=['_','_','t','i','n','i','_','_']) (o:=['t','c','e','j','b','o']) (id := "object.__init__") (by kernel_rfl) F.owner_object];kernel_rfl
theorem call_start {prog:Program}{w:World}{A:Around}{E:Value->Shared->Prop}{s:Shared}{l:Addr}{items:Array Value}{k:Int}{t:Tok}{Q:Value->Shared->Prop}(hk:Builtin.SmallTypes.fitsIndex k=true)(hL:s.heap.IsList l items)
  (h:∀ h',IsEnum h' (s.heap.objs.size+1) s.heap.objs.size k .none->h'.IsListIter s.heap.objs.size l 0->(∀ b o,s.heap.get? b=some o->h'.get? b=some o)->Q (.ref (s.heap.objs.size+1)) { s with heap:=h' }) :
  wpAny (model prog w) A (call (.type "enumerate") [.ref l] [("start",.int k t)]) Q E s:=by
 obtain⟨⟨c,dct,dt,sl⟩,hl,rfl,n,rfl⟩:=hL
 refine yiH F.called_enumerate (by decide) (yho _ _) (yhn _ _) (λobj=>yhi obj _ _) F.entry_enumerate_new (yjj l items n dct sl k t hk) ⟨hl,?_⟩
 have hz:(s.heap.push (itO l)).objs.size=s.heap.objs.size+1:=Heap.size_push ..
 have he:=Heap.get?_push_size (s.heap.push (itO l)) (o:=enO s.heap.objs.size k) rfl
 show _/\_
 rw[hz] at he ⊢
 exact⟨⟨_,he,rfl⟩,h _ he ⟨_,Heap.get?_push_of_some _ (Heap.get?_push_size _ rfl),rfl,rfl⟩ λb o x=>Heap.get?_push_of_some _ (Heap.get?_push_of_some _ x)⟩
theorem draws_from {prog:Program}{w:World}{A:Around}{it:Addr}{fp:List Addr}{n:Nat}{P:Nat->Value->Prop}{St:Nat->Heap->Prop}(D:Draws prog w A it fp n P St)(k:Nat):Draws prog w A it fp (n+k) (λi x=>P (i - k) x) (λi h=>k<=i/\St (i - k) h) where
 live:=λi h st=>D.live _ h st.2
 frame:=λi h h' st f=>⟨st.1,D.frame _ h h' st.2 f⟩
 item:=λi s Q E hi st hQ=>D.item _ s Q E (by have:=st.1;omega) st.2 λx h' tk p st' sb=>hQ x h' tk p ⟨by have:=st.1;omega,by rw[Nat.sub_add_comm st.1];exact st'⟩ sb
 done:=λs Q E st hE=>D.done s Q E (by have:=st.2;rwa [Nat.add_sub_cancel] at this) hE
end PB
namespace L2
section
open PySem PySem.SeqAt
open AutoSeq1 (wpAny_loadPart')
open MeetsSeq MeetsSeq2 MeetsSeq3 SeqRoads2
end
open PySem PySem.Spec PyProof.Rows
section
variable {X:Cx}
theorem yiu (bs:List Bool):(List.range bs.length).all (λi=>(bs[i]?).getD true)=bs.all id:=by
 induction bs with
 | nil=>rfl
 | cons b r ih =>
  rw[List.length_cons,List.range_succ_eq_map,List.all_cons,List.all_map,List.all_cons,← ih]
  rfl
noncomputable def ypm (K:PySem.W.Frag):List V->Hp->VK->Prop:=λxs H Q=>∃ (p:Addr) (bs:List Bool),xs=[.ref p]/\SqL K H p (bs.map V.bl)/\Q (.bl (bs.all id)) H
theorem ybK (hc:X.calm=true):yb5 X (.builtin "all") (ypm X.K):=by
 intro pins s σ H xs us Q I r h
 obtain⟨p,bs,rfl,hq,q⟩:=h
 obtain⟨u,rfl,ru⟩:=ye6 r
 cases ru
 obtain⟨its,rv,pl,hz⟩:=I.list hq
 have hlt:p < s.heap.objs.size:=by obtain⟨_,e,_⟩:=pl.isList;exact Heap.lt_size e
 refine call_all_walk (wpAny_pyIter_list pl.isList ?_)
 refine⟨s.heap.objs.size,_,_,_,_,_,(λi=>(bs[i]?).getD true),rfl,Walks.list (A:=X.A.in1) (I.ok.hd hc) s.heap.objs.size p (Nat.ne_of_lt hlt) its.toArray,⟨⟨_,Heap.get?_push_size _ rfl,rfl,rfl⟩,pl.isList.push _⟩,?_,?_⟩
 ·intro i v s' Q' E' hP hQ'
  have hv:its[i]?=some v:=by simpa using hP
  have hi:i < its.length:=(List.getElem?_eq_some_iff.mp hv).1
  have hb:i < bs.length:=by
   have:=rv.length
   rw[List.length_map] at this
   omega
  obtain⟨w',e',r'⟩:=rv.get (x:=.bl bs[i]) (i:=i) (by rw[List.getElem?_map,List.getElem?_eq_getElem hb];rfl)
  rw[e'] at hv
  cases hv
  cases r'
  have hQ2:Q' ((bs[i]?).getD true) s':=hQ'
  rw[List.getElem?_eq_getElem hb] at hQ2
  exact wpAny_truthy_bool hQ2
 ·intro h' tk hk
  have e:(List.range its.toArray.size).all (λi=>(bs[i]?).getD true)=bs.all id:=by
   have:=rv.length
   rw[List.length_map] at this
   rw[List.size_toArray,← this]
   exact yiu bs
  rw[e]
  refine⟨.bl _,H,I.kept (t':=tk) λb o e=>hk b o ?_ (Heap.get?_push_of_some _ e),rfl,q⟩
  intro z
  have:b=s.heap.objs.size:=by simpa using z
  exact absurd (Heap.lt_size e) (by rw[this];exact Nat.lt_irrefl _)
noncomputable def Ite (K:PySem.W.Frag)(a:Addr):It :=
 ⟨λi H=>∃ xs x,SqL K H a xs/\xs[i]?=some x,λi H x H'=>∃ p v,x=.ref p/\H p=none/\H'=upd H p (.tup [.int (i:Nat),v])/\∀ xs,SqL K H a xs->xs[i]?=some v,λi H=>∃ xs,SqL K H a xs/\xs.length<=i⟩
noncomputable def ItF (K:PySem.W.Frag)(a:Addr)(k:Nat):It :=
 ⟨λi H=>∃ xs x,SqL K H a xs/\xs[i]?=some x,λi H x H'=>∃ p v,x=.ref p/\H p=none/\H'=upd H p (.tup [.int ((i+k:Nat):Int),v])/\∀ xs,SqL K H a xs->xs[i]?=some v,λi H=>∃ xs,SqL K H a xs/\xs.length<=i⟩
theorem ygr {P:Program}{w:World}{K:PySem.W.Frag}{elts:List Expr}{x1}{tp:Pos}(a e it:Addr)(k:Nat)(hne:e≠it):yjZ P w K (.Tuple elts x1 tp) (ItF K a k) [e,it] e (λi h=>∃ old,IsEnum h e it ((i+k:Nat):Int) old/\h.IsListIter it a i) where
 mem:=by simp
 obj:=λi h ⟨old,st1,o,eo,c,d⟩ b hb=>by
  rcases List.mem_cons.mp hb with rfl | hb
  ·exact⟨_,st1,λv z=>by cases z⟩
  ·cases List.mem_singleton.mp hb
   exact⟨o,eo,λv z=>by rw[d] at z;cases z⟩
 keep:=λi h h' ⟨old,st1,st2⟩ k=>⟨old,k e (by simp) _ st1,st2.at λo eo=>k it (by simp) o eo⟩
 item:=by
  intro X hP hw hK hc i pins s σ H E I hf ⟨old,st1,st2⟩ ⟨xs,x,hq,hx⟩
  subst hP hw hK
  obtain⟨its,rv,p,hz⟩:=I.list hq
  obtain⟨u,hu,ru⟩:=rv.get hx
  obtain⟨f0,f1,f2,f3,f4,f5⟩:=hf e (by simp)
  obtain⟨g0,g1,g2,g3,g4,g5⟩:=hf it (by simp)
  have hel:e < s.heap.objs.size:=Heap.lt_size st1
  have hit:it < s.heap.objs.size:=by obtain⟨o,eo,_⟩:=st2;exact Heap.lt_size eo
  have al:a≠it:=by
   rintro rfl
   obtain⟨_,eo,c,_⟩:=st2
   obtain⟨_,eo2,c2,_⟩:=p.isList
   rw[eo] at eo2
   cases eo2
   rw[c] at c2
   exact absurd (Value.type.inj c2) (by decide)
  have hea:e≠a:=by
   rintro rfl
   obtain⟨_,eo2,c2,_⟩:=p.isList
   have z:s.heap.get? e=_:=st1
   rw[z] at eo2
   cases eo2
   exact absurd (Value.type.inj c2) (by decide)
  have dr:=PB.draws_from (Draws.list (prog:=X.prog) (w:=X.w) (A:=X.A.in1) (I.ok.hd hc) it a al its.toArray) k
  have sz:i < its.length:=(List.getElem?_eq_some_iff.mp hu).1
  refine wpAny_pyNext_enum_itemD dr st1 ⟨Nat.le_add_left _ _,by rw[Nat.add_sub_cancel];exact st2,p.isList⟩ (by simp;omega) hne (by rw[List.mem_cons,List.mem_singleton];exact λz=>z.elim hne hea) λu' h' tk hP heo hst ht' hz' hk'=>?_
  have eu:u'=u:=by
   rw[Nat.add_sub_cancel] at hP
   have hP:its[i]?=some u':=by simpa using hP
   rw[hu] at hP
   exact(Option.some.inj hP).symm
  subst eu
  refine⟨.ref s.heap.objs.size,rfl,wpAny_letOwnedTupleGo_enum heo λh2 he2 sb2=>?_⟩
  have sb2:Heap.SameBut e h' h2:=sb2
  have hit':h'.IsListIter it a (i+1):=by have:=hst.2.1;rwa [show i+k+1 - k=i+1 by omega] at this
  have fr:H s.heap.objs.size=none:=I.hok.fresh (Nat.le_refl _)
  have kp:∀ b o,b≠e->b≠it->s.heap.get? b=some o->h2.get? b=some o:=λb o h1 h3 h4=>(sb2.2 b h1).trans (hk' b o h1 h3 h4)
  have kq:∀ b o,b∉[e,it]->s.heap.get? b=some o->h2.get? b=some o:=λb o hn=>kp b o (λz=>hn (by simp[z])) (λz=>hn (by simp[z]))
  have tne:∀ b u,H b=some u->b≠e/\b≠it:=λb u hb=>⟨λz=>(by rw[z,f0] at hb;cases hb),λz=>(by rw[z,g0] at hb;cases hb)⟩
  have ltp:∀ {b:Addr} {o:Obj},s.heap.get? b=some o->b≠s.heap.objs.size:=λh=>Nat.ne_of_lt (Heap.lt_size h)
  refine⟨.ref s.heap.objs.size,upd H s.heap.objs.size (.tup [.int ((i+k:Nat):Int),x]),?_,rfl,⟨_,x,rfl,fr,rfl,λys hy=>by rw[I.list_inj hy hq];exact hx⟩,⟨u',?_,hit'.extBut sb2.extBut (Ne.symm hne)⟩,λb hb=>?_⟩
  ·refine Inv.step (s:=s) (h':=h2) (g':=s.gens) (d':=s.drawn) (t':=tk+1) (ch:=[e,it]) I (λb hb=>?_) (λb o _ _ hcn he _=>kq b o hcn he) (λb o _ _ hcn he _=>⟨o.slots,kq b o hcn he⟩) (λb o _ he hn=>by rw[yai (ltp he)];exact hn) (λb o hcn he=>⟨o,kq b o hcn he⟩)
    (λb ys hb=>by rw[yai (yam hb fr)];exact hb) (λb o ys hb=>by rw[yai (yam hb fr)];exact hb) (λb ps hb=>⟨#[],by rw[yai (yam hb fr),hb];simp⟩) (λm ⟨o,es,ep,ho,r⟩=>⟨o,es,ep,kp _ o (Ne.symm f1) (Ne.symm g1) ho,r⟩) (λb ob hb=>?_) I.bare
   ·rcases List.mem_cons.mp hb with rfl | hb
    ·exact⟨f3,f1,f4,f5⟩
    ·cases List.mem_singleton.mp hb
     exact⟨g3,g1,g4,g5⟩
   ·by_cases hbp:b=s.heap.objs.size
    ·subst hbp
     rw[yad] at hb
     cases hb
     exact⟨by show 2<=sizeLine;decide,[.int ((i+k:Nat):Int) tk,u'],.cons ⟨_,rfl⟩ (.cons ru .nil),_,(sb2.2 _ (Nat.ne_of_gt hel)).trans ht',rfl,_,rfl⟩
    ·rw[yai hbp] at hb
     refine(I.hok b ob hb).stay (λc v hcv q=>?_) (λc hc'=>by rw[yai (yam hc' fr)];exact hc') λc ys hc'=>by rw[yai (yam hc' fr)];exact hc'
     rcases hcv with z | z
     ·rw[z] at q ⊢
      exact kp b v (tne b ob hb).1 (tne b ob hb).2 q
     ·exact kp c v (tne c _ z).1 (tne c _ z).2 q
  ·rw[show((i+1+k:Nat):Int)=((i+k:Nat):Int)+1 by omega]
   exact he2
  ·rw[yai (by rcases List.mem_cons.mp hb with rfl | hb;exact Nat.ne_of_lt hel;cases List.mem_singleton.mp hb;exact Nat.ne_of_lt hit)]
   exact(hf b hb).1
 done:=by
  intro X hP hw hK hc i pins s σ H E I hf ⟨old,st1,st2⟩ ⟨xs,hq,hx⟩
  subst hP hw hK
  obtain⟨its,rv,p,hz⟩:=I.list hq
  obtain⟨f0,f1,f2,f3,f4,f5⟩:=hf it (by simp)
  have dr:Draws X.prog X.w X.A.in1 it [it,a] i (λ_ _=>True) (λj h=>j=i/\h.IsListIter it a i/\h.IsList a its.toArray) :=
   ⟨λ_ _ ⟨_,⟨o,ho,_⟩,_⟩=>⟨o,ho⟩,λ_ _ _ ⟨x,y,z⟩ hk=>⟨x,y.at λo e=>hk it (by simp) o e,z.at λo e=>hk a (by simp) o e⟩,λj s Q E hj st _=>absurd st.1 (Nat.ne_of_lt hj),λs Q E ⟨_,y,z⟩ hE=>wpAny_nextOf_list_end (I.ok.hd hc) y z (by have:=rv.length;simp;omega) hE⟩
  exact wpAny_pyNext_enum_endD dr st1 ⟨rfl,st2,p.isList⟩ λh' eb=>⟨rfl,I.turned (t':=s.toks) (λb o hb e=>eb b o hb e) f0 f1 f3 f4 f5⟩
 self:=λ_ _ _ _ _ ⟨old,st1,_⟩ h=>wpAny_pyIter_enum st1 h
theorem yj8 {P:Program}{w:World}{K:PySem.W.Frag}{elts:List Expr}{x1}{tp:Pos}(a e it:Addr)(hne:e≠it):yjZ P w K (.Tuple elts x1 tp) (Ite K a) [e,it] e (λi h=>∃ old,IsEnum h e it (i:Nat) old/\h.IsListIter it a i):=ygr a e it 0 hne
noncomputable def ymW (K:PySem.W.Frag)(ta:TA):TI:=fun σ H R=>ta σ H λvs H1=>∃ a,vs=[.ref a]/\(∃ xs,SqL K H1 a xs)/\R (Ite K a) H1
theorem ygK {elts:List Expr}{x1}{tp:Pos}{a:Expr}{ta:TA}{p pos:Pos}(hg:Gl X "enumerate")(hm:X.mg "enumerate"=none)(ha:PA X [a] ta)(hs:starEach [a] X.env=[(false,eval a X.env)]:=by rfl) :
  PI X (.Tuple elts x1 tp) (.Call (.Name "enumerate" p) [a] [] pos) (ymW X.K ta):=by
 intro pins s σ H R I h
 refine Call_ (ycG I hg hm boot_enumerate (PyProof.Rows.callWith_type1 (thn (ha pos pins s σ H _ I h) λus s1 ⟨vs,H1,I1,r1,q1⟩=>?_) hs rfl))
 obtain⟨l,e,⟨xs,hq⟩,q⟩:=q1
 subst e
 obtain⟨u,rfl,ru⟩:=ye6 r1
 cases ru
 obtain⟨its,rv,pl,hz⟩:=I1.list hq
 refine call_enumerate_list pl.isList λh' he hit hsz hk=>?_
 refine wpAny_pyIter_enum he ?_
 refine⟨s1.heap.objs.size+1,[s1.heap.objs.size+1,s1.heap.objs.size],_,_,H1,rfl,I1.kept (t':=s1.toks) hk,yj8 l _ _ (Nat.succ_ne_self _),⟨_,he,hit⟩,λb hb=>?_,q⟩
 rcases List.mem_cons.mp hb with rfl | hb
 ·exact I1.fpOk (Nat.le_succ _) (I1.hok.fresh (Nat.le_succ _))
 ·have e':b=s1.heap.objs.size:=by simpa using hb
  subst e'
  exact I1.fpOk (Nat.le_refl _) (I1.hok.fresh (Nat.le_refl _))
end
section
variable {X:Cx} {pins:List (Addr×Obj)} {σ:St} {H:Hp} {s:Shared} {a:Addr} {y v:V} {u r:Value} {o:Option V} {A:Around} {E:Value->Shared->Prop}
end
section
variable {X:Cx} {pos:Pos}
end
section
variable {X:Cx}
theorem yqP {x z:Str}{pos:Pos}(hg:Gl X x)(hm:∃ k,X.mg x=some (.str z k))(hd:(x==("__debug__" : Str))=false:=by decide):PE X (.Name x pos) (tC (.str z)):=by
 obtain⟨k,e⟩:=hm
 exact ybc hg e ⟨k,rfl⟩ hd
theorem ycP {x:Str}{z:Int}{pos:Pos}(hg:Gl X x)(hm:∃ k,X.mg x=some (.int z k))(hd:(x==("__debug__" : Str))=false:=by decide):PE X (.Name x pos) (tC (.int z)):=by
 obtain⟨k,e⟩:=hm
 exact ybc hg e ⟨k,rfl⟩ hd
theorem yb0:OpR X (binaryOp .Mult) (rI IntMulOk λi j=>.int (i*j)):=opI λ_ _ _ _ _ _ _ hc q=>mul_int q hc
end
noncomputable def TupIn (K:PySem.W.Frag)(a:Addr)(xs:List V):Prop :=
 ∃ (o:Obj) (its:Array Value) (n:Nat),K.lookup a=some o/\o.cls=.type "tuple" /\ o.dict=none/\o.data=.seq its n/\its.size<=sizeLine/\Vals xs its.toList
theorem TupIn.sq {K:PySem.W.Frag}{a:Addr}{xs:List V}(h:TupIn K a xs)(H:Hp):SqT K H a xs:=by
 obtain⟨o,its,n,h1,h2,h3,h4,h5,h6⟩:=h
 exact .inr ⟨o,its,n,h1,h2,h4,h5,h6⟩
noncomputable def ypx:V->Value->Bool
 | .non,.none=>true
 | .bl b,.bool c=>b==c
 | .int i,.int j _=>i==j
 | .str x,.str y _=>x==y
 | _,_=>false
noncomputable def yju:List V->List Value->Bool
 | [],[]=>true
 | x :: xs,u :: us=>ypx x u&&yju xs us
 | _,_=>false
theorem ylg {x:V}{u:Value}(h:ypx x u=true):RelV x u:=by
 cases x<;>cases u<;>simp[ypx] at h
 ·rfl
 ·subst h;rfl
 ·subst h;exact⟨_,rfl⟩
 ·subst h;exact⟨_,rfl⟩
theorem yga:∀ {xs:List V} {us:List Value},yju xs us=true->Vals xs us
 | [],[],_=>.nil
 | x :: xs,u :: us,h=>by
  rw[yju,Bool.and_eq_true] at h
  exact .cons (ylg h.1) (yga h.2)
 | [],_ :: _,h=>by cases h
 | _ :: _,[],h=>by cases h
theorem yle {K:PySem.W.Frag}{a:Addr}{xs:List V}{its:Array Value}{n:Nat}{sl:Array (Option Value)}(l:K.lookup a=some ⟨.type "tuple",none,.seq its n,sl⟩)(v:yju xs its.toList=true)(hz:its.size<=1000:=by decide):TupIn K a xs :=
 ⟨_,its,n,l,rfl,rfl,rfl,Nat.le_trans hz (by decide),yga v⟩
noncomputable def yl5 (scope:Scope)(env:Env)(N NB:List Str)(cap:List (Option Nat)):Bool :=
 decide (scope.kind=.function)&&scope.names.all (λy=>decide (y.2≠.cell))&&scope.names.all (λy=>decide (y.2≠.local)||decide (scope.names.lookup y.1=some .local)) &&
 scope.names.all (λy=>decide (y.2≠.free)||decide (env.kindOf y.1=some .cell)||decide (env.kindOf y.1=some .free))&&decide (cap.length=NB.length) &&
 (List.range NB.length).all (λi=>match NB[i]?,cap[i]? with
  | some x,some (some j)=>decide (N[j]?=some x)&&decide ((x,NameKind.free)∈scope.names)&&(decide ((relabel scope env).names.lookup x=some .cell)||decide ((relabel scope env).names.lookup x=some .free))
  | _,_=>true)
theorem yaB {X:Cx}{scope:Scope}{NB:List Str}{cap:List (Option Nat)}(h:yl5 scope X.env X.N NB cap=true):BlockOk X scope NB cap:=by
 unfold yl5 at h
 simp only[Bool.and_eq_true,decide_eq_true_eq,List.all_eq_true,Bool.or_eq_true] at h
 obtain⟨⟨⟨⟨⟨h1,h2⟩,h3⟩,h4⟩,h5⟩,h6⟩:=h
 refine⟨h1,h2,λy hy e=>?_,λy hy e=>?_,h5,λi x j e1 e2=>?_⟩
 ·rcases h3 y hy with z | z
  ·exact absurd e z
  ·exact z
 ·rcases h4 y hy with (z | z) | z
  ·exact absurd e z
  ·exact .inl z
  ·exact .inr z
 ·have hi:i < NB.length:=(List.getElem?_eq_some_iff.mp e1).1
  have q:=h6 i (List.mem_range.mpr hi)
  rw[e1,e2] at q
  simp only[Bool.and_eq_true,decide_eq_true_eq,Bool.or_eq_true] at q
  exact⟨q.1.1,q.1.2,q.2⟩
end L2
namespace Att
open PySem PySem.W PySem.Calls PyProof.Rows
theorem yhw:∀ {ns:List Int},WData.weightAll (ns.map WData.int)<=2 ^ 20->∀ v∈ns,Builtin.Int.intBits v<=2 ^ 20
 | [],_,v,h=>by simp at h
 | n :: ns,h,v,hv=>by
  rw[List.map_cons,WData.weightAll] at h
  rcases List.mem_cons.mp hv with rfl | hv
  ·have:WData.weight (.int v)<=2 ^ 20:=by omega
   simpa only[WData.weight,Builtin.Int.intBits] using this
  ·exact yhw (by omega) v hv
theorem ymr {ns:List Int}(h:WData.layableAll [WData.list (ns.map WData.int)]=true):∀ v∈ns,Builtin.Int.intBits v<=2 ^ 20:=by
 simp only[WData.layableAll,List.all_cons,WData.layable,Bool.and_eq_true,decide_eq_true_eq] at h
 exact yhw (by have:=h.1.2;rw[WData.weight] at this;exact this)
theorem attach_callB {l:OpenLaw}{n:Nat}{q:Program}{loose:List Str}{XP:(Str->Option Value)->Heap->Prop}{YP:World->Heap->Prop}{d:DefRec}
  (hn:l.most=some n) (hdf:d.params.defaults=[])
  (call:∀ (w:World) (s₀ s₁:Shared) (mg mb:Str->Option Value) (fa:Addr) (o:Obj) (pm cd doc:Value) (a:Addr) (vs:List Value) (ns:List Int),
   Ground q loose [] XP w s₀ mg mb s₁.heap->YP w s₁.heap ->
   s₁.heap.get? fa=some o->o.data=.func (docDef d.name d.params d.body d.scope pm cd doc)->s₁.heap.CodeRec cd d.name->mg d.name=some (.ref fa) ->
   s₁.heap.get? a=some { cls:=.type "list",data:=.seq vs.toArray }->IntsAre vs ns->ns.length<=n->(∀ v∈ns,Builtin.Int.intBits v<=2 ^ 20)->s₁.gens=#[] ->
   codeAny (model l.prog w) callerA (.call (.ref fa) ⟨[.ref a],[]⟩) (λr s'=>r=.ok (.ret (.bool true))/\OldK s₁.heap s'.heap/\s'.os=s₁.os/\AllBare s'.gens) s₁) :
  WalkO q loose XP YP l.row.toRowW d [] (λf vs=>PySem.call f vs):=by
 intro w s₀ s₁ mg mb G Y fa o pm cd doc dV kV ho hd hcd hD hmg hg args vals as hpre hlay hrd hwl hlo
 obtain rfl:dV=.none:=Dflts.none hD hdf
 obtain rfl:kV=.none:=Dflts.noKw hD
 obtain⟨a,vs,ns,rfl,rfl,hobj,hints,hlen⟩:=yjV hn hpre hwl
 refine enter_call (codeAny_mono (call w s₀ s₁ mg mb fa o pm cd doc a vs ns G Y ho (fd_plain hd) hcd hmg hobj hints hlen (ymr hlay) hg) λr s' hq=>?_)
 obtain⟨rfl,h2,h3,h4⟩:=hq
 exact⟨.inl ⟨.bool true,.bool true,[],rfl,λ_=>rfl,.bool true,yjf l _,λ_=>⟨List.Pairwise.nil,λ_ hm=>(nomatch hm)⟩⟩,h2,h3,h4⟩
end Att
namespace L2
open PySem PySem.Spec PyProof.Rows
section
variable {X:Cx} {CX:CXT} {k:Nat} {E:XK} {x m:Str} {p pos apos:Pos} {e o:Expr} {es:List Expr} {ta:TE} {t:TA}
noncomputable def yna (K:PySem.W.Frag):List V->Hp->VK->Prop:=λxs H Q=>∃ x C t b,xs=[x,.ref C]/\yeT K H x t/\PySem.W.kitOne K t (.ref C)=some b/\Q (.bl b) H
theorem yff:yb5 X (.builtin "isinstance") (yna X.K):=by
 intro pins s σ H xs us Q I r h
 obtain⟨x,C,t,b,rfl,ty,hk,q⟩:=h
 obtain⟨u,v,rfl,ru,rv⟩:=ygS r
 cases (show v=Value.ref C from rv)
 exact ygc I ru ty hk λtk=>⟨.bl b,H,I.tok _,rfl,q⟩
noncomputable def yi3 {ι:Type}(C:ι->Addr)(m:Str)(sp:ι->Sp)(E:XK)(ta:TE):TE:=fun σ H Q=>ta σ H λx H1=>∃ i a dx fs,x=.ref a/\H1 a=some (.ins (C i) dx fs)/\fs.lookup m=none/\sp i [x] H1 Q E
theorem ykZ {pl:Sem Bool}{ι:Type}{C f:ι->Addr}{fd:ι->FuncData}{ps:ι->List Str}{sp:ι->Sp}(he:PE X o ta)(c:∀ i,Cls X.K (C i))(hm:∀ i,yis X.K (C i) m (f i))
  (F:∀ i,FnOk X.prog X.w X.K X.mg X.base CX k (f i) (fd i) (ps i) (sp i)) (hr:Room k X.A) (hb:∀ i,Binds X.K (fd i) (ps i) []) (hx:ycD CX X E)
  (ht:eval (.Call (.Attribute o m apos) [] [] pos) X.env=(do
   let ov ← eval o X.env
   standAt apos.atName
   let (f,first) ← holding [ov] (getMethod ov m pl)
   callWith pos f first (backTo pos (starEach [] X.env)) (backToKw pos (keywordEach [] X.env))):=by rfl) :
  PE X (.Call (.Attribute o m apos) [] [] pos) (yi3 C m sp E ta):=by
 intro pins s σ H Q I h
 refine PySem.W.methodCall_KW (pl:=pl) (thn (he pins s σ H _ I h) λu s1 ⟨x,H1,I1,rx,i,a,dx,fs,ex,ea,l,q⟩=>?_) ht
 subst ex
 obtain rfl:u=Value.ref a:=rx
 exact ydp I1 ea (c i) (hm i) l (PySem.W.callWith_K0 (first:=[.ref a]) I1.kIn (hm i).kp (yev (us:=[.ref a]) (vs:=[.ref a]) (F i) hr (hb i) .nil hx I1 (.cons rfl .nil) q))
structure ymU (K:PySem.W.Frag) (C:Addr) (m:Str) (f:Addr):Prop where
 ga:PySem.W.specialIn K (.ref C) "__getattribute__"=some (some (.builtin "type.__getattribute__"))
 rd:PySem.W.readsIn K C (.type "type")=true
 at_:PySem.W.findCls K (.ref C) (.type "type") m=some (.val (.ref f))
 hh:PySem.W.handedIn (.ref f)=true
 kp:PySem.W.keepIn K (.ref f)=true
theorem ykp {pl:Sem Bool}{C f:Addr}{fd:FuncData}{ps:List Str}{sp:Sp}(he:PE X o (tC (.ref C)))(c:ymU X.K C m f)(F:FnOk X.prog X.w X.K X.mg X.base CX k f fd ps sp)(hr:Room k X.A)(hb:Binds X.K fd ps [])(hx:ycD CX X E)(ha:PA X (e :: es) t)
  (hst:starEach (e :: es) X.env=(false,eval e X.env) :: starEach es X.env:=by rfl) (hpl:(backTo pos (starEach es X.env)).any (·.1)=false:=by rfl)
  (ht:eval (.Call (.Attribute o m apos) (e :: es) [] pos) X.env=(do
   let ov ← eval o X.env
   standAt apos.atName
   let (f,first) ← holding [ov] (getMethod ov m pl)
   callWith pos f first (backTo pos (starEach (e :: es) X.env)) (backToKw pos (keywordEach [] X.env))):=by rfl) :
  PE X (.Call (.Attribute o m apos) (e :: es) [] pos) (yhV sp [] E t):=by
 intro pins s σ H Q I h
 refine PySem.W.methodCall_KW (pl:=pl) (thn (he pins s σ H (λx H1=>x=.ref C/\yhV sp [] E t σ H1 Q) I ⟨rfl,h⟩) λu s1 ⟨x,H1,I1,rx,ex,q⟩=>?_) ht
 subst ex
 obtain rfl:u=Value.ref C:=rx
 refine PySem.W.method_cls I1.kIn c.ga (PySem.W.cls_value I1.kIn c.rd c.at_ c.hh ?_)
 have I2:=I1.tok (s1.toks+1)
 refine PySem.W.callWith_K (first:=[]) (h₀:=X.base) I.ok.mod.kin c.kp (thn (ha pos pins _ σ H1 _ I2 q) λus s2 ⟨vs,H2,I3,r,q2⟩=>⟨I3.kIn,?_⟩) hst hpl
 exact yev (us:=us) (vs:=vs) F hr hb .nil hx I3 r q2
end
structure ClsObj (K:PySem.W.Frag) (C:Addr):Prop where
 ha:PySem.W.findIn K (.ref C) "__class__"=some (some (.builtin "object.__class__"))
 hn:PySem.W.specialIn K (.builtin "object.__class__") "__get__"=some (some (.builtin "getset_descriptor.__get__"))
 htk:PySem.W.takesIn K (.builtin "object.__class__")=some true
 hm:PySem.W.mroIn K C (.type "object")=some true
theorem ClsObj.ty {K:PySem.W.Frag}{C a dx:Addr}{H:Hp}{fs:List (Str×V)}(o:ClsObj K C)(c:Cls K C)(e:H a=some (.ins C dx fs)):yeT K H (.ref a) (.ref C):=.ins e c o.ha o.hn o.htk o.hm
section
variable {K:PySem.W.Frag} {σ:St} {H:Hp} {Q:VK} {ta tb:TE} {f:Str} {a C dx:Addr} {fs:List (Str×V)} {v y:V} {D:ydh}
theorem yry (q:ta σ H λx H1=>∃ a C dx fs v,x=.ref a/\H1 a=some (.ins C dx fs)/\Cls K C/\NoAttr K C f/\fs.lookup f=some v/\Q v H1):ynY K ta f σ H Q:=q
theorem yo7 (q:tb σ H λy H1=>ta σ H1 λx H2=>∃ a C dx fs,x=.ref a/\H2 a=some (.ins C dx fs)/\Cls K C/\NoAttr K C f/\fs.length < 1000/\D.nx σ (upd H2 a (.ins C dx (yef f y fs)))):yqh K ta tb f D σ H:=q
end
section
variable {H:Hp} {Q:VK}
end
section
variable {X:Cx}
theorem ybF {x:Str}{n:String}{pos:Pos}(hg:Gl X x)(hm:X.mg x=none)(hv:bootBuiltins x=some (.type n))(hn:x≠"__name__":= by decide)(hd:(x==("__debug__" : Str))=false:=by decide):PE X (.Name x pos) (tC (.ty n)):=ymj (v:=.ty n) hg hm hv rfl hn hd
theorem ynl {x:Str}{a:Addr}{pos:Pos}(hg:Gl X x)(hm:X.mg x=some (.ref a))(hd:(x==("__debug__" : Str))=false:=by decide):PE X (.Name x pos) (tC (.ref a)):=ybc (v:=.ref a) hg hm rfl hd
end
theorem yaf {H:Hp}{p:Addr}(h:H p=none)(o:HO):Same H (upd H p o):=λb u q=>by rw[yai (yam q h)];exact q
mutual
noncomputable def Own (H:Hp):V->Tr->Prop
 | v,.vl w=>v=w/\ybE w=true
 | v,.ls ts=>∃ a xs,v=.ref a/\H a=some (.lst xs)/\Owns H xs ts
 | v,.tp ts=>∃ a xs,v=.ref a/\H a=some (.tup xs)/\Owns H xs ts
noncomputable def Owns (H:Hp):List V->List Tr->Prop
 | xs,[]=>xs=[]
 | xs,t :: ts=>∃ x r,xs=x :: r/\Own H x t/\Owns H r ts
end
mutual
theorem Own.same {H H':Hp}(s:Same H H'):∀ {v:V} {t:Tr},Own H v t->Own H' v t
 | v,.vl w,h=>by rw[Own] at h ⊢;exact h
 | v,.ls ts,h=>by
  rw[Own] at h ⊢
  obtain⟨a,xs,e,q,r⟩:=h
  exact⟨a,xs,e,s _ _ q,Owns.same s r⟩
 | v,.tp ts,h=>by
  rw[Own] at h ⊢
  obtain⟨a,xs,e,q,r⟩:=h
  exact⟨a,xs,e,s _ _ q,Owns.same s r⟩
theorem Owns.same {H H':Hp}(s:Same H H'):∀ {xs:List V} {ts:List Tr},Owns H xs ts->Owns H' xs ts
 | xs,[],h=>by rw[Owns] at h ⊢;exact h
 | xs,t :: ts,h=>by
  rw[Owns] at h ⊢
  obtain⟨x,r,e,q,z⟩:=h
  exact⟨x,r,e,Own.same s q,Owns.same s z⟩
end
mutual
theorem Own.rep {K:PySem.W.Frag}{H:Hp}:∀ {v:V} {t:Tr},Own H v t->Rep K H v t
 | v,.vl w,h=>by rw[Own] at h;rw[Rep];exact h
 | v,.ls ts,h=>by
  rw[Own] at h
  rw[Rep]
  obtain⟨a,xs,e,q,r⟩:=h
  exact⟨a,xs,e,SqL.of q,Owns.rep r⟩
 | v,.tp ts,h=>by
  rw[Own] at h
  rw[Rep]
  obtain⟨a,xs,e,q,r⟩:=h
  exact⟨a,xs,e,SqT.of q,Owns.rep r⟩
theorem Owns.rep {K:PySem.W.Frag}{H:Hp}:∀ {xs:List V} {ts:List Tr},Owns H xs ts->Reps K H xs ts
 | xs,[],h=>by rw[Owns] at h;rw[Reps];exact h
 | xs,t :: ts,h=>by
  rw[Owns] at h
  rw[Reps]
  obtain⟨x,r,e,q,z⟩:=h
  exact⟨x,r,e,Own.rep q,Owns.rep z⟩
end
theorem ybr {A:Around}{k:Nat}(hr:Room k A):A.units+64 < cLine:=hr.units
end L2
namespace L2
end L2
namespace L2
open PySem
end L2
namespace L2
open PySem
theorem ykv {K:PySem.W.Frag}{a:Addr}{xs:List V}{g:TG}{tb:TS}{D:ydh}{σ:St}{H:Hp}(Pv:Nat->St->Hp->Prop)(h0:Pv 0 σ H)(hl:∀ i σ H,i<=xs.length->Pv i σ H->SqL K H a xs)
  (hs:∀ i x σ H p,xs[i]?=some x->Pv i σ H->H p=none->g (.ref p) σ (upd H p (.tup [.int (i:Nat),x])) fun σ2 H2=>tb { D with nx:=Pv (i+1),ct:=Pv (i+1),bk:=D.nx } σ2 H2) (hd:∀ σ H,Pv xs.length σ H->D.nx σ H) :
  ∃ W:Nat->Nat->St->Hp->Prop,(∃ m,W 0 m σ H)/\∀ i m σ H,W i m σ H ->
   ((Ite K a).stop i H/\D.nx σ H)∨((Ite K a).go i H/\∃ N:St->Hp->Prop,(∀ σ' H',N σ' H'->∃ m',m' < m/\W (i+1) m' σ' H')/\∀ x H',(Ite K a).yld i H x H'->g x σ H' fun σ2 H2=>tb { D with nx:=N,ct:=N,bk:=D.nx } σ2 H2):=by
 refine⟨λi m σ H=>m=xs.length - i/\i<=xs.length/\Pv i σ H,⟨xs.length,by simp,Nat.zero_le _,h0⟩,?_⟩
 rintro i m σ H ⟨rfl,hi,p⟩
 have q:=hl i σ H hi p
 by_cases hlt:i < xs.length
 ·refine .inr ⟨⟨xs,xs[i],q,by simp[hlt]⟩,Pv (i+1),fun σ' H' p'=>⟨xs.length - (i+1),by omega,rfl,hlt,p'⟩,λx H' y=>?_⟩
  obtain⟨b,v,e1,e2,e3,y⟩:=y
  subst e1 e3
  exact hs i v σ H b (y xs q) p e2
 ·have e:i=xs.length:=by omega
  subst e
  exact .inl ⟨⟨xs,q,Nat.le_refl _⟩,hd σ H p⟩
theorem yf6 {K:PySem.W.Frag}{a D:Addr}{xs:List V}{g:TG}{tc:TT}{te:TE}{Fin:Hp->Prop}{σ:St}{H:Hp}(Pv:Nat->St->Hp->Prop)(h0:Pv 0 σ H)(hl:∀ i σ H,i<=xs.length->Pv i σ H->SqL K H a xs)
  (hs:∀ i x σ H,xs[i]?=some x->Pv i σ H->g x σ H fun σ2 H2=>tc σ2 H2 λb H3=>if b=true then te σ2 H3 λy H4=>∃ ys,H4 D=some (.lst ys)/\ys.length < sizeLine/\Pv (i+1) σ2 (upd H4 D (.lst (ys++[y]))) else Pv (i+1) σ2 H3)
  (hd:∀ σ H,Pv xs.length σ H->Fin H):∃ W:Nat->Nat->St->Hp->Prop,(∃ m,W 0 m σ H)/\ycR (Itl K a) g tc te D Fin W:=by
 refine⟨λi m σ H=>m=xs.length - i/\i<=xs.length/\Pv i σ H,⟨xs.length,by simp,Nat.zero_le _,h0⟩,?_⟩
 rintro i m σ H ⟨rfl,hi,p⟩
 have q:=hl i σ H hi p
 by_cases hlt:i < xs.length
 ·refine .inr ⟨⟨xs,xs[i],q,by simp[hlt]⟩,Pv (i+1),fun σ' H' p'=>⟨xs.length - (i+1),by omega,rfl,hlt,p'⟩,λx H' y=>?_⟩
  obtain⟨e,y⟩:=y
  subst e
  exact hs i x σ _ (y xs q) p
 ·have e:i=xs.length:=by omega
  subst e
  exact .inl ⟨⟨xs,q,Nat.le_refl _⟩,hd σ H p⟩
theorem ylf {K:PySem.W.Frag}{a D:Addr}{xs:List V}{g:TG}{tc:TT}{te:TE}{Fin:Hp->Prop}{σ:St}{H:Hp}(Pv:Nat->St->Hp->Prop)(h0:Pv 0 σ H)(hl:∀ i σ H,i<=xs.length->Pv i σ H->SqT K H a xs)
  (hs:∀ i x σ H,xs[i]?=some x->Pv i σ H->g x σ H fun σ2 H2=>tc σ2 H2 λb H3=>if b=true then te σ2 H3 λy H4=>∃ ys,H4 D=some (.lst ys)/\ys.length < sizeLine/\Pv (i+1) σ2 (upd H4 D (.lst (ys++[y]))) else Pv (i+1) σ2 H3)
  (hd:∀ σ H,Pv xs.length σ H->Fin H):∃ W:Nat->Nat->St->Hp->Prop,(∃ m,W 0 m σ H)/\ycR (Itt K a) g tc te D Fin W:=by
 refine⟨λi m σ H=>m=xs.length - i/\i<=xs.length/\Pv i σ H,⟨xs.length,by simp,Nat.zero_le _,h0⟩,?_⟩
 rintro i m σ H ⟨rfl,hi,p⟩
 have q:=hl i σ H hi p
 by_cases hlt:i < xs.length
 ·refine .inr ⟨⟨xs,xs[i],q,by simp[hlt]⟩,Pv (i+1),fun σ' H' p'=>⟨xs.length - (i+1),by omega,rfl,hlt,p'⟩,λx H' y=>?_⟩
  obtain⟨e,y⟩:=y
  subst e
  exact hs i x σ _ (y xs q) p
 ·have e:i=xs.length:=by omega
  subst e
  exact .inl ⟨⟨xs,q,Nat.le_refl _⟩,hd σ H p⟩
theorem yeG {lo:Int}{n:Nat}{D:Addr}{g:TG}{tc:TT}{te:TE}{Fin:Hp->Prop}{σ:St}{H:Hp}(Pv:Nat->St->Hp->Prop)(h0:Pv 0 σ H)
  (hs:∀ i σ H,i < n->Pv i σ H->g (.int (lo+i)) σ H fun σ2 H2=>tc σ2 H2 λb H3=>if b=true then te σ2 H3 λy H4=>∃ ys,H4 D=some (.lst ys)/\ys.length < sizeLine/\Pv (i+1) σ2 (upd H4 D (.lst (ys++[y]))) else Pv (i+1) σ2 H3)
  (hd:∀ σ H,Pv n σ H->Fin H):∃ W:Nat->Nat->St->Hp->Prop,(∃ m,W 0 m σ H)/\ycR (Itr lo n) g tc te D Fin W:=by
 refine⟨λi m σ H=>m=n - i/\i<=n/\Pv i σ H,⟨n,by simp,Nat.zero_le _,h0⟩,?_⟩
 rintro i m σ H ⟨rfl,hi,p⟩
 by_cases hlt:i < n
 ·refine .inr ⟨hlt,Pv (i+1),fun σ' H' p'=>⟨n - (i+1),by omega,rfl,hlt,p'⟩,λx H' y=>?_⟩
  obtain⟨e,y⟩:=y
  subst e y
  exact hs i σ _ hlt p
 ·have e:i=n:=by omega
  subst e
  exact .inl ⟨Nat.le_refl _,hd σ H p⟩
end L2
namespace L2
open PySem PySem.Spec PyProof.Rows
noncomputable def stays (a:Addr)(o:Obj):HO:=.ext λh=>h.get? a=some o
noncomputable def holds (c:Addr)(v:Value):HO:=.ext λh=>h.IsCell c (some v)
section
variable {P:Program} {w:World} {H:Hp} {h:Heap} {a:Addr}
theorem ObjOk.stays {o:Obj}(e:h.get? a=some o):ObjOk P w H h a (stays a o):=⟨e,⟨o,e⟩,λ_ _ p k=>k _ p⟩
theorem ObjOk.holds {v:Value}(e:h.IsCell a (some v)):ObjOk P w H h a (holds a v) :=
 ⟨e,let ⟨o,ho,_⟩:=e;⟨o,ho⟩,λ_ _ ⟨o,ho,hd⟩ k=>⟨o,k _ ho,hd⟩⟩
theorem HOk.stays {o:Obj}(ok:HOk P w H h)(e:H a=some (stays a o)):h.get? a=some o:=(ok a _ e).1
theorem HOk.holds {v:Value}(ok:HOk P w H h)(e:H a=some (holds a v)):h.IsCell a (some v):=(ok a _ e).1
end
theorem Inv.tbl {X:Cx}{pins:List (Addr×Obj)}{σ:St}{H:Hp}{s:Shared}{h':Heap}{T:Addr}{ps more:Array Value}{tk:Nat}(I:Inv X pins σ H s)(e:H T=some (.tbl ps))(hx:Heap.ExtBut T s.heap h')(hT:h'.get? T=some { cls:=.none,data:=.fields (ps++more) }) :
  Inv X pins σ (upd H T (.tbl (ps++more))) { s with heap:=h',toks:=tk }:=by
 have ne:∀ {b:Addr},H b=none->b≠T:=λq z=>by rw[z,e] at q;cases q
 refine I.step (ch:=[]) (λb z=>absurd z (by simp)) (λb o _ _ _ g n=>hx b o (ne n) g) (λb o _ _ _ g n=>⟨o.slots,hx b o (ne n) g⟩) (λb o _ g n=>by rw[yai (ne n)];exact n) (λb o _ g=>?_) (λb xs q=>?_) (λb o u q=>?_) (λb qs q=>?_) (λm hn=>hn.extBut hx (ne I.free)) (λb o q=>?_) I.bare
 ·by_cases z:b=T
  ·subst z;exact⟨_,hT⟩
  ·exact⟨o,hx b o z g⟩
 ·rw[yai (λz=>by rw[z,e] at q;cases q)];exact q
 ·rw[yai (λz=>by rw[z,e] at q;cases q)];exact q
 ·by_cases z:b=T
  ·subst z
   rw[e] at q
   cases q
   exact⟨more,yad⟩
  ·exact⟨#[],by rw[yai z,q];simp⟩
 ·by_cases z:b=T
  ·subst z
   rw[yad] at q
   cases q
   exact hT
  ·rw[yai z] at q
   refine(I.hok b o q).stay (λc u hc g=>hx c u ?_ g) (λc hc=>?_) (λc xs hc=>?_)
   ·rintro rfl
    rcases hc with hc | hc
    ·exact z hc.symm
    ·rw[e] at hc;cases hc
   ·rw[yai (λz=>by rw[z,e] at hc;cases hc)];exact hc
   ·rw[yai (λz=>by rw[z,e] at hc;cases hc)];exact hc
theorem ynk {CX:CXT}{P:Program}{w:World}{K:PySem.W.Frag}{mg:Str->Option Value}{base:Heap}{k:Nat}{f:Addr}{name qual:Str}{params:Arguments}{body:List Stmt}{scope:Scope}{dV kV doc pm cdv ct oc:Value}{an od:Option Addr}
  {osl:Array (Option Value)} {N ps:List Str} {sp:Sp} (lk:K.lookup f=some ⟨oc,od,.func (PySem.W.fnOf name qual params body scope dV kV doc pm an cdv ct),osl⟩) (hcd:PySem.W.codeIn K cdv qual=true) (S:yan N ps scope)
  (len:∀ vs H Q E,sp vs H Q E->vs.length=ps.length)
  (hbody:∀ (A:Around) (outer:List Env) (s s1:Shared) (H:Hp) (vs:List V) (Q:VK) (E:XK),Room k (A.deeper (envOfC qual scope s.heap.objs.size f cdv))->sp vs H Q E->Inv (ydH CX P w K mg base N qual scope f cdv A outer s H E) [] (start N vs) H s1 ->
   wpAny (model P w) (A.deeper (envOfC qual scope s.heap.objs.size f cdv)) (execs body (envOfC qual scope s.heap.objs.size f cdv)) (λfl s'=>∃ u,fl=.ret u/\CE outer P w H s Q u s') (ydH CX P w K mg base N qual scope f cdv A outer s H E).xe s1) :
  FnOk P w K mg base CX (k+1) f (PySem.W.fnOf name qual params body scope dV kV doc pm an cdv ct) ps sp:=by
 refine⟨len,λA outer s H args us vs Q E hr e0 hb r hsp=>?_⟩
 have hl:=len _ _ _ _ hsp
 have KX:K.In s.heap:=e0.mod.kin.keeps λb o e=>(e0.bs b o e).1
 have lim:s.heap.NoLimit:=e0.mod.nolimit.keeps λb o e=>(e0.bs b o e).1
 have hkind:∀ y∈ps.zip us,scope.names.lookup y.1=some .local∨(scope.names.lookup y.1=some .cell/\((cellsFrom (s.heap.objs.size+1) scope.names []).lookup y.1).isSome=true):=λ⟨n,v⟩ hy=>by
  rcases S.par n (List.of_mem_zip hy).1 with q | q
  ·exact .inl q
  ·exact .inr ⟨q,PySem.W.cellsFrom_some _ _ _ (.inl q)⟩
 refine codeAny_call_function hr.depth (KX _ _ lk) rfl S.co S.gen rfl (PySem.W.codeRec_of KX hcd) (hb _ _ _ _ ?_)
 refine wpAny_newFunctionEnv_cells S.kind hkind λenv he s1 x=>?_
 subst he
 refine⟨lim.keeps x.toInCall.keep,codeAny_func ?_⟩
 have I:Inv (ydH CX P w K mg base N qual scope f cdv A outer s H E) [] (start N vs) H s1:=yf3 S hr.hd e0 hl r x
 refine wpAny_mono (hbody A outer s s1 H vs Q E (hr.deeper _) hsp I) (λfl s' hs=>?_) λe s' hs=>hs
 obtain⟨u,rfl,ce⟩:=hs
 exact ce
theorem Inv.note {X:Cx}{pins:List (Addr×Obj)}{σ:St}{H:Hp}{s:Shared}{a:Addr}{o:Obj}{u:HO}(I:Inv X pins σ H s)(hn:H a=none)(ha:X.s₀.heap.objs.size<=a)(hl:a≠X.env.locals)(hc:∀ x c,X.env.cells.lookup x=some c->c≠a)(hp:∀ p∈X.pn++pins,p.1≠a)
  (g:s.heap.get? a=some o) (new:ObjOk X.prog X.w (upd H a u) s.heap a u):Inv X pins σ (upd H a u) s:=by
 have ne:∀ {b:Addr} {v:HO},H b=some v->b≠a:=λq z=>by rw[z,hn] at q;cases q
 have:=I.step (ch:=[a]) (h':=s.heap) (H':=upd H a u) (g':=s.gens) (d':=s.drawn) (t':=s.toks) (λb z=>by
   have:b=a:=by simpa using z
   subst this
   exact⟨.inr ha,hl,hc,hp⟩) (λb o _ _ _ g n=>g) (λb o _ _ _ g n=>⟨o.slots,g⟩) (λb o z g n=>by rw[yai (λq=>z (by rw[q];simp))];exact n) (λb o _ g=>⟨o,g⟩) (λb xs q=>by rw[yai (ne q)];exact q) (λb o u q=>by rw[yai (ne q)];exact q) (λb ps q=>⟨#[],by rw[yai (ne q),q];simp⟩) (λm h=>h) (λb v q=>?_) I.bare
 ·exact this
 ·by_cases z:b=a
  ·subst z
   rw[yad] at q
   cases q
   exact new
  ·rw[yai z] at q
   exact(I.hok b v q).stay (λ_ _ _ g=>g) (λc hc=>by rw[yai (ne hc)];exact hc) (λc xs hc=>by rw[yai (ne hc)];exact hc)
noncomputable def SameT (T:Addr)(H H':Hp):Prop:=∀ b o,b≠T->H b=some o->H' b=some o
theorem SameT.trans {T:Addr}{H H' H2:Hp}(a:SameT T H H')(b:SameT T H' H2):SameT T H H2:=λc o n q=>b c o n (a c o n q)
theorem Same.t {T:Addr}{H H':Hp}(a:Same H H'):SameT T H H':=λc o _ q=>a c o q
noncomputable def CodeK (H:Hp)(c:Addr)(qual:Str):Prop:=∃ o vs t,H c=some (stays c o)/\o.data=.fields vs/\vs[1]?=some (.str qual t)
noncomputable def TabK (H:Hp)(T:Addr)(pos:Pos)(qual:Str):Prop:=∃ ps,H T=some (.tbl ps)/\TriplesOk ps.toList/\(codeAmong pos ps.toList=none∨∃ c',c'≠T/\codeAmong pos ps.toList=some (.ref c')/\CodeK H c' qual)
noncomputable def FnK (H:Hp)(fa:Addr)(name qual:Str)(params:Arguments)(body:List Stmt)(scope:Scope)(clos:List (Str×Addr)):Prop :=
 ∃ doc pm c' ctv,H fa=some (stays fa (PySem.W.fnMade name qual params body scope clos doc pm c' ctv))/\CodeK H c' qual
theorem CodeK.rec {P:Program}{w:World}{H:Hp}{h:Heap}{c:Addr}{qual:Str}(x:CodeK H c qual)(ok:HOk P w H h):h.CodeRec (.ref c) qual:=by
 obtain⟨o,vs,t,e,hd,hv⟩:=x
 exact⟨c,o,vs,t,rfl,ok.stays e,hd,hv⟩
theorem ynm {X:Cx}{pins:List (Addr×Obj)}{σ:St}{H:Hp}{s:Shared}{cc T:Addr}{name:Str}{params:Arguments}{body:List Stmt}{scope:Scope}{pos:Pos}{i:Nat}{Q:Flow->Shared->Prop}{E:Value->Shared->Prop}
  (I:Inv X pins σ H s) (hc:X.env.code=.ref cc) (C:PySem.W.CodeHd X.base cc T) (tb:TabK H T pos (qualnameIn X.env name name)) (hB:X.base.BuiltinsAt X.mg T) (hgT:mainGlobals≠T)
  (hfree:∀ y∈scope.names,y.2=.free->∃ c,X.env.cells.lookup y.1=some c) (hN:X.N.Nodup) (hi:X.N[i]?=some name) (hx:Loc X.env.scope name) (hf:X.fn name=true∨X.env.scope.names.lookup name=some .local)
  (hd0:params.defaults=[]) (hk0:params.kw_defaults=[]) (ha:annTrees params none X.env=[])
  (h:∀ fa H' s',Inv X pins (σ.set i (some (.ref fa))) H' s'->SameT T H H'->TabK H' T pos (qualnameIn X.env name name)->FnK H' fa name (qualnameIn X.env name name) params body scope (yds X.env.cells scope.names [])->s.heap.get? fa=none->Q .next s') :
  wpAny (model X.prog X.w) X.A (exec (.FunctionDef name params body [] none [] scope none name pos) X.env) Q E s:=by
 refine PySem.W.nestDef_K hd0 hk0 ha ?_
 obtain⟨ps,eT,ht,hcase⟩:=tb
 have hP:s.heap.get? T=some (PySem.W.tabObj ps):=I.hok T _ eT
 have hg:=I.ok.mod.glob.keeps I.bk
 rcases hcase with hnf | ⟨c',hne,hf',ck⟩
 ·refine PySem.W.makeFunction_K (ydm hfree) I.ok.glob hg hc (C.keeps I.bk) hP ht hnf hgT (hB.keeps I.bk) λc' ctv doc h' tk hx' hge hlt hrec hT'=>?_
  obtain⟨c2,o,vs,t,ec,ho,hd,hv⟩:=hrec
  cases ec
  have I1:=I.tbl (tk:=tk) eT hx' hT'
  have old:∀ {b:Addr} {u:Obj},s.heap.get? b=some u->b≠c':=λg z=>absurd (Heap.lt_size g) (by rw[z];exact Nat.not_lt_of_le hge)
  have nH:H c'=none:=I.hok.fresh hge
  have nT:c'≠T:=λz=>by rw[z,eT] at nH;cases nH
  have I2:=I1.note (a:=c') (u:=stays c' o) (by rw[yai nT];exact nH) (Nat.le_trans I.sz hge) (λz=>absurd I.lt (by rw[← z];exact Nat.not_lt_of_le hge)) (λx c e z=>by obtain⟨v,oc,g,_⟩:=I.cell x c e;exact old g z) (λp hp z=>old (I.pin p hp).1 z) ho (ObjOk.stays ho)
  have nF:(upd (upd H T (.tbl (ps++#[rawInt pos.line,rawInt pos.col,.ref c']))) c' (stays c' o)) h'.objs.size=none:=I2.hok.fresh (Nat.le_refl _)
  have I3:=I2.laid (a:=h'.objs.size) (o:=stays h'.objs.size (PySem.W.fnMade name (qualnameIn X.env name name) params body scope (yds X.env.cells scope.names []) doc ((X.mg "__name__").getD .none) c' ctv)) (t':=tk) (λb u e=>Heap.get?_push_of_some _ e) (Nat.le_refl _) (ObjOk.stays (Heap.get?_push_size _ rfl))
  have nc:c'≠h'.objs.size:=Nat.ne_of_lt hlt
  have nTf:T≠h'.objs.size:=λz=>by rw[← z,yai (Ne.symm nT),yad] at nF;cases nF
  have ck:CodeK (upd (upd (upd H T (.tbl (ps++#[rawInt pos.line,rawInt pos.col,.ref c']))) c' (stays c' o)) h'.objs.size (stays h'.objs.size (PySem.W.fnMade name (qualnameIn X.env name name) params body scope (yds X.env.cells scope.names []) doc ((X.mg "__name__").getD .none) c' ctv))) c' (qualnameIn X.env name name):=⟨o,vs,t,by rw[yai nc,yad],hd,hv⟩
  refine yce I3 hN hi hx (v:=.ref h'.objs.size) rfl (λs' I'=>h _ _ s' I' (λb u nb q=>?_) ⟨_,by rw[yai nTf,yai (Ne.symm nT),yad],?_,.inr ⟨c',nT,?_,ck⟩⟩ ⟨doc,_,c',ctv,yad,ck⟩ ?_) hf
  ·rw[yai (yam (show(upd (upd H T (.tbl (ps++#[rawInt pos.line,rawInt pos.col,.ref c']))) c' (stays c' o)) b=some u by rw[yai (yam q nH),yai nb];exact q) nF),yai (yam q nH),yai nb]
   exact q
  ·rw[Array.toList_append]
   exact TriplesOk_snoc _ _ _ _ ht
  ·rw[Array.toList_append]
   exact codeAmong_snoc _ ht hnf
  ·exact Heap.get?_none_of_le (Nat.le_trans hge (Nat.le_of_lt hlt))
 ·refine PySem.W.makeFunction_hit (cv:=.ref c') (ydm hfree) I.ok.glob hg hc (C.keeps I.bk) hP ht hf' (hB.keeps I.bk) λctv doc h' tk keep hsz=>?_
  have nF:H h'.objs.size=none:=I.hok.fresh hsz
  have I3:=I.laid (h':=h'.push (PySem.W.fnMade name (qualnameIn X.env name name) params body scope (yds X.env.cells scope.names []) doc ((X.mg "__name__").getD .none) c' ctv)) (a:=h'.objs.size) (o:=stays h'.objs.size (PySem.W.fnMade name (qualnameIn X.env name name) params body scope (yds X.env.cells scope.names []) doc ((X.mg "__name__").getD .none) c' ctv)) (t':=tk) (λb u e=>Heap.get?_push_of_some _ (keep b u e)) hsz (ObjOk.stays (Heap.get?_push_size _ rfl))
  obtain⟨o,vs,t,e,hd,hv⟩:=ck
  have ck:CodeK (upd H h'.objs.size (stays h'.objs.size (PySem.W.fnMade name (qualnameIn X.env name name) params body scope (yds X.env.cells scope.names []) doc ((X.mg "__name__").getD .none) c' ctv))) c' (qualnameIn X.env name name):=⟨o,vs,t,by rw[yai (yam e nF)];exact e,hd,hv⟩
  exact yce I3 hN hi hx (v:=.ref h'.objs.size) rfl (λs' I'=>h _ _ s' I' (λb u nb q=>by rw[yai (yam q nF)];exact q) ⟨ps,by rw[yai (yam eT nF)];exact eT,ht,.inr ⟨c',hne,hf',ck⟩⟩ ⟨doc,_,c',ctv,yad,ck⟩ (Heap.get?_none_of_le hsz)) hf
noncomputable def hid (H:Hp)(c:Addr):Hp:=λb=>if b=c then none else H b
theorem ycF {H:Hp}{b c:Addr}(h:b≠c):hid H c b=H b:=if_neg h
theorem yfA {H:Hp}{c:Addr}:hid H c c=none:=if_pos rfl
theorem ykz {H:Hp}{b c:Addr}{o:HO}(e:hid H c b=some o):b≠c/\H b=some o:=by
 by_cases z:b=c
 ·subst z;rw[yfA] at e;cases e
 ·exact⟨z,by rw[ycF z] at e;exact e⟩
theorem ycc {H:Hp}{b c:Addr}(e:H b=none):hid H c b=none:=by
 by_cases z:b=c
 ·subst z;exact yfA
 ·rw[ycF z];exact e
theorem HOk.hid {P:Program}{w:World}{H:Hp}{h:Heap}{c:Addr}{v:Value}(ok:HOk P w H h)(hc:H c=some (L2.holds c v)):HOk P w (L2.hid H c) h:=λb o e=>by
 obtain⟨nb,e⟩:=ykz e
 have ne:∀ {d:Addr} {a:Addr},H d=some (.own a)->d≠c:=λq z=>by rw[z,hc] at q;cases q
 have ne':∀ {d:Addr} {xs:List V},H d=some (.tup xs)->d≠c:=λq z=>by rw[z,hc] at q;cases q
 exact(ok b o e).stay (λ_ _ _ g=>g) (λd q=>by rw[ycF (ne q)];exact q) (λd xs q=>by rw[ycF (ne' q)];exact q)
theorem lk2 {α:Type}{x y a:Str}{m n d:α}(h:([(x,m),(y,n)]:List (Str×α)).lookup a=some d):(a=x/\d=m)∨(a=y/\d=n):=by
 rw[List.lookup_cons] at h
 cases q:a==x with
 | true=>rw[q] at h;cases h;exact .inl ⟨by simpa using q,rfl⟩
 | false =>
  rw[q] at h
  rw[List.lookup_cons] at h
  cases q2:a==y with
  | true=>rw[q2] at h;cases h;exact .inr ⟨by simpa using q2,rfl⟩
  | false=>rw[q2] at h;cases h
theorem yrN {α:Type}{x y:Str}{m n:α}:([(x,m),(y,n)]:List (Str×α)).lookup x=some m:=by simp
theorem yro {α:Type}{x y:Str}{m n:α}(h:x≠y):([(x,m),(y,n)]:List (Str×α)).lookup y=some n:=by simp[List.lookup_cons,beq_eq_false_iff_ne.mpr (Ne.symm h)]
noncomputable def cxX (P:Program)(w:World)(K:PySem.W.Frag)(mg:Str->Option Value)(base:Heap)(x y:Str)(qual:Str)(scope:Scope)(f:Addr)(cd:Value)(c:Addr)(A:Around)(outer:List Env)(s:Shared)(H:Hp):Cx where
 prog:=P
 w:=w
 K:=K
 mg:=mg
 base:=base
 A:=A.deeper (PySem.W.envX qual scope s.heap.objs.size f cd [(x,s.heap.objs.size+1),(y,c)])
 N:=[x,y]
 s₀:=s
 H₀:=hid H c
 env:=PySem.W.envX qual scope s.heap.objs.size f cd [(x,s.heap.objs.size+1),(y,c)]
 outer:=outer
 stack:=PySem.W.envX qual scope s.heap.objs.size f cd [(x,s.heap.objs.size+1),(y,c)] :: outer
 ex:=[]
 calm:=true
 fn:=λz=>z==x
 pn:=[]
 xe:=λ_ _=>False
theorem yiS {P:Program}{w:World}{K:PySem.W.Frag}{mg:Str->Option Value}{base:Heap}{k:Nat}{A:Around}{outer:List Env}{s:Shared}{H:Hp}{fa c:Addr}{name qual:Str}{params:Arguments}{e:Expr}{rp:Pos}{scope:Scope}{x y:Str}{lv xv:V}{v u:Value}{Q:VK}{E:XK}
  (hr:Room (k+1) A) (e0:Env0 P w K mg base A outer s H) (F:FnK H fa name qual params [.Return (some e) rp] scope [(y,c)]) (hc:H c=some (holds c v)) (rl:RelV lv v) (ru:RelV xv u)
  (hs:scope.names=[(x,.cell),(y,.free)]) (hxy:x≠y) (hk:scope.kind=.function) (hco:scope.isCoroutine=false) (hgen:scope.isGenerator=false)
  (hb:∀ doc pm c' ctv,BindsTo s (PySem.W.fnX name qual params [.Return (some e) rp] scope [(y,c)] .none .none doc pm none (.ref c') ctv) ⟨[u],[]⟩ [(x,u)])
  (he:∀ cd,Room k (A.deeper (PySem.W.envX qual scope s.heap.objs.size fa cd [(x,s.heap.objs.size+1),(y,c)]))->∃ t,PE (cxX P w K mg base x y qual scope fa cd c A outer s H) e t/\t [some xv,some lv] (hid H c) (λv' H'=>H' c=none->Q v' (upd H' c (holds c v)))) :
  codeAny (model P w) A (.call (.ref fa) ⟨[u],[]⟩) (CR CX0 outer P w H s Q E) s:=by
 obtain⟨doc,pm,c',ctv,eF,ck⟩:=F
 have hF:=e0.hok.stays eF
 have hcell:s.heap.IsCell c (some v):=e0.hok.holds hc
 have hcl:c < s.heap.objs.size:=let ⟨_,g,_⟩:=hcell;Heap.lt_size g
 have lkx:scope.names.lookup x=some .cell:=by rw[hs];simp
 have lky:scope.names.lookup y=some .free:=by rw[hs];simp[List.lookup_cons,beq_eq_false_iff_ne.mpr (Ne.symm hxy)]
 refine codeAny_call_function hr.depth hF rfl hco hgen rfl (ck.rec e0.hok) (hb _ _ _ _ _ _ _ _ ?_)
 simp only[newFunctionEnv,Option.isSome_none,Bool.false_eq_true,if_false]
 refine wpAny_bind (wpAny_alloc ?_)
 refine wpAny_bind (wpAny_layCells _ (λname kind cells=>by cases hkc:kind==NameKind.cell<;>simp[hkc]) _ _ _ _ ?_)
 have eP:pushCells (s.heap.push { cls:=.type "frame",data:=.dict #[] }) scope.names=(s.heap.push { cls:=.type "frame",data:=.dict #[] }).push { cls:=.type "cell",data:=.cell none }:=by rw[hs];rfl
 have eC:cellsFrom (s.heap.push { cls:=.type "frame",data:=.dict #[] }).objs.size scope.names [(y,c)]=[(x,s.heap.objs.size+1),(y,c)]:=by rw[hs,Heap.size_push];rfl
 show wpAny _ _ _ _ _ { s with heap:=pushCells (s.heap.push { cls:=.type "frame",data:=.dict #[] }) scope.names }
 rw[eP,eC]
 have kp:∀ b o,s.heap.get? b=some o->((s.heap.push { cls:=.type "frame",data:=.dict #[] }).push { cls:=.type "cell",data:=.cell none }).get? b=some o:=λb o g=>Heap.get?_push_of_some _ (Heap.get?_push_of_some _ g)
 have g0:((s.heap.push { cls:=.type "frame",data:=.dict #[] }).push { cls:=.type "cell",data:=.cell none }).get? s.heap.objs.size=some { cls:=.type "frame",data:=.dict #[] }:=Heap.get?_push_of_some _ (Heap.get?_push_size _ rfl)
 have g1:((s.heap.push { cls:=.type "frame",data:=.dict #[] }).push { cls:=.type "cell",data:=.cell none }).get? (s.heap.objs.size+1)=some { cls:=.type "cell",data:=.cell none }:=by
  have:=Heap.get?_push_size (s.heap.push { cls:=.type "frame",data:=.dict #[] }) (o:={ cls:=.type "cell",data:=.cell none }) rfl
  rw[Heap.size_push] at this
  exact this
 have I:Inv (cxX P w K mg base x y qual scope fa (.ref c') c A outer s H) [] [none,some lv] (hid H c) { s with heap:=(s.heap.push { cls:=.type "frame",data:=.dict #[] }).push { cls:=.type "cell",data:=.cell none } }:=by
  refine⟨⟨e0.mod,hk,rfl,rfl,Nat.le_refl _,λa b d h1 h2=>?_,λa ha=>?_,λa d ha hd=>?_,λ_=>hr.hd,Around.frames_deeper e0.frames,.inr ⟨rfl,rfl⟩,λb z=>absurd (show b∈([]:List Addr) from z) (by simp),λb o g=>⟨(e0.bs b o g).1,ycc (e0.bs b o g).2⟩,e0.bsz,λb _ _ z=>absurd (show b∈([]:List Addr) from z) (by simp),λb z=>absurd (show b∈([]:List Addr) from z) (by simp),e0.funs,λb z=>ycc (e0.frf b z)⟩,
   rfl,e0.bare,Un.kept kp,⟨_,(Heap.Ns.new s.heap (.type "frame")).push _,λi z v' h1 h2 h3=>?_⟩,λa d ha=>?_,ycc (e0.hok.fresh (Nat.le_refl _)),λa d ha=>?_,λp hp=>absurd (show p∈([]:List (Addr×Obj)) from hp) (by simp),(e0.hok.hid hc).kept kp,rfl⟩
  ·rcases lk2 h1 with ⟨rfl,rfl⟩ | ⟨rfl,rfl⟩<;>rcases lk2 h2 with ⟨rfl,z⟩ | ⟨rfl,z⟩
   ·rfl
   ·exact absurd (show c=s.heap.objs.size+1 from z.symm) (Nat.ne_of_lt (Nat.lt_succ_of_lt hcl))
   ·exact absurd z (Nat.ne_of_lt (Nat.lt_succ_of_lt hcl))
   ·rfl
  ·have ha:scope.names.lookup a=some .cell∨scope.names.lookup a=some .free:=ha
   rw[hs] at ha
   rcases ha with ha | ha<;>rcases lk2 ha with ⟨rfl,_⟩ | ⟨rfl,_⟩
   ·exact⟨_,yrN⟩
   ·exact⟨_,yro hxy⟩
   ·exact⟨_,yrN⟩
   ·exact⟨_,yro hxy⟩
  ·have ha:(a==x)=true:=ha
   have:a=x:=by simpa using ha
   subst this
   rcases lk2 hd with ⟨_,rfl⟩ | ⟨z,_⟩
   ·exact Nat.le_succ _
   ·exact absurd z hxy
  ·match i,h1,h2 with
   | 0,h1,h2=>cases h2
   | 1,h1,h2 =>
    cases h2
    cases h1
    exact⟨v,rl,.inr ⟨.inr (show scope.names.lookup y=some .free from lky),c,yro hxy,let ⟨o,g,d⟩:=hcell;⟨o,kp _ _ g,d⟩⟩⟩
   | i+2,h1,h2=>simp at h2
  ·rcases lk2 ha with ⟨rfl,rfl⟩ | ⟨rfl,rfl⟩
   ·exact⟨none,_,g1,rfl⟩
   ·obtain⟨o,g,d⟩:=hcell
    exact⟨_,o,kp _ _ g,d⟩
  ·rcases lk2 ha with ⟨rfl,rfl⟩ | ⟨rfl,rfl⟩
   ·exact ycc (e0.hok.fresh (Nat.le_succ _))
   ·exact yfA
 rw[List.forIn_cons]
 refine wpAny_bind (wpAny_bind (wpAny_bind ?_))
 refine yce (X:=cxX P w K mg base x y qual scope fa (.ref c') c A outer s H) (i:=0) I (show List.Nodup [x,y] by simp[hxy]) rfl (.inr lkx) ru (λs' I'=>?_) (.inl (show(x==x)=true by simp))
 refine wpAny_pure ?_
 show wpAny _ _ (forIn ([]:List (Str×Value)) PUnit.unit _) _ _ s'
 rw[List.forIn_nil]
 refine wpAny_pure ?_
 refine wpAny_pure ?_
 refine⟨I'.nolimit,codeAny_func ?_⟩
 obtain⟨t,ht,hq⟩:=he (.ref c') (hr.deeper _)
 refine wpAny_execs_cons (wpAny_mono (Q:=λfl s1=>∃ u',fl=.ret u'/\EP (cxX P w K mg base x y qual scope fa (.ref c') c A outer s H) [] [some xv,some lv] (λv' H'=>H' c=none->Q v' (upd H' c (holds c v))) u' s1) (wpAny_Return_some (thn (ht [] s' _ _ _ I' hq) λv' s1 q=>⟨v',rfl,q⟩)) (λfl s1 hs1=>?_) λ_ _ z=>z.elim)
 obtain⟨u',rfl,v',H',J,rv,q⟩:=hs1
 show CE outer P w H s Q u' s1
 obtain⟨oc,gc,dc⟩:=hcell
 have B:Un (frs outer) [] (hid H c) H' s.heap s1.heap:=J.base
 have nf:c∉frs outer:=λz=>by rw[e0.frf c z] at hc;cases hc
 have cF:H' c=none:=B.free c oc gc yfA (by simp)
 have gc':s1.heap.get? c=some oc:=B.keep c oc gc yfA nf (by simp)
 have nb:∀ {b:Addr},H b=none->b≠c:=λq z=>by rw[z,hc] at q;cases q
 refine⟨v',upd H' c (holds c v),J.os,J.bare,⟨λb o g n h1 h2=>B.keep b o g (ycc n) h1 h2,λb o g n h1 h2=>B.slot b o g (ycc n) h1 h2,λb o g n h1=>?_,λb o g h1=>B.there b o g h1,λb xs q'=>?_,λb o w' q'=>?_,λb ps q'=>?_⟩,λb o q'=>?_,rv,q cF⟩
 ·rw[yai (nb n)]
  exact B.free b o g (ycc n) h1
 ·have z:b≠c:=λz=>by rw[z,hc] at q';cases q'
  rw[yai z]
  exact B.tups b xs (by rw[ycF z];exact q')
 ·have z:b≠c:=λz=>by rw[z,hc] at q';cases q'
  rw[yai z]
  exact B.frzs b o w' (by rw[ycF z];exact q')
 ·have z:b≠c:=λz=>by rw[z,hc] at q';cases q'
  obtain⟨more,em⟩:=B.tbls b ps (by rw[ycF z];exact q')
  exact⟨more,by rw[yai z];exact em⟩
 ·by_cases z:b=c
  ·subst z
   rw[yad] at q'
   cases q'
   exact ObjOk.holds ⟨oc,gc',dc⟩
  ·rw[yai z] at q'
   exact(J.hok b o q').stay (λ_ _ _ g=>g) (λd hd=>by rw[yai (λz=>by rw[z,cF] at hd;cases hd)];exact hd) (λd xs hd=>by rw[yai (λz=>by rw[z,cF] at hd;cases hd)];exact hd)
noncomputable def ymQ (T:Addr)(H:Hp):Prop:=∀ b,b≠T->H b=none∨∃ o xs,H b=some (.frz o (.lst xs))
theorem yi0 {P:Program}{w:World}{K:PySem.W.Frag}{mg mb:Str->Option Value}{CX:CXT}{k:Nat}{fa a cc T:Addr}{fd:FuncData}{x:Str}{sp:Sp}{s₁:Shared}{vs:List Value}{ns:List Int}
  (KX:K.In s₁.heap) (hns:s₁.heap.Ns mainGlobals mg) (hb:s₁.heap.Ns builtinsNs mb) (hbb:∀ x:Str,x≠"__name__" -> mb x=bootBuiltins x) (hlim:s₁.heap.NoLimit) (hg:s₁.gens=#[])
  (ha:s₁.heap.get? a=some { cls:=.type "list",data:=.seq vs.toArray }) (hi:IntsAre vs ns) (hl:ns.length<=sizeLine) (hr:Room k callerA)
  (C:PySem.W.CodeHd s₁.heap cc T) (hT:s₁.heap.get? T=some (PySem.W.tabObj #[])) (hKT:K.lookup T=none) (hB:∃ bm ob,mg "__builtins__"=some (.ref bm)/\bm≠builtinsNs/\s₁.heap.get? bm=some ob/\ob.cls=.type "module" /\ ob.dict=some builtinsNs/\ob.data=.plain)
  (F:∀ base:Heap,K.In base->base.Ns mainGlobals mg->PySem.W.CodeHd base cc T->base.BuiltinsAt mg T->mainGlobals≠T->FnOk P w K mg base CX k fa fd [x] sp) (hbind:∀ (s:Shared) (u:Value),BindsTo s fd ⟨[u],[]⟩ [(x,u)])
  (hsp:∀ H:Hp,ymQ T H->H T=some (.tbl #[])->SqL K H a (ns.map V.int)->sp [.ref a] H (λv _=>v=.bl true) λ_ _ _=>False)
  (hCX:∀ H e s',CX [] H s₁ (λ_ _ _=>False) e s'->False) :
  codeAny (model P w) callerA (.call (.ref fa) ⟨[.ref a],[]⟩) (λr s'=>r=.ok (.ret (.bool true))/\OldK s₁.heap s'.heap/\s'.os=s₁.os/\AllBare s'.gens) s₁:=by
 have rv:=yfY hi
 have lenV:=hi.length
 have naT:a≠T:=λz=>by
  rw[z,hT] at ha
  have d:Data.fields #[]=Data.seq vs.toArray _:=congrArg Obj.data (Option.some.inj ha)
  cases d
 have core:∀ H:Hp,ymQ T H->H T=some (.tbl #[])->SqL K H a (ns.map V.int)->HOk P w H s₁.heap->(∀ b,H b≠none->b=a∨b=T)->(H a≠none->K.lookup a=none) ->
   codeAny (model P w) callerA (.call (.ref fa) ⟨[.ref a],[]⟩) (λr s'=>r=.ok (.ret (.bool true))/\OldK s₁.heap s'.heap/\s'.os=s₁.os/\AllBare s'.gens) s₁:=by
  intro H hO hHT hS hok hA hK
  have base_of:∀ {b:Addr} {o:Obj},s₁.heap.get? b=some o->H b=none->(yjl s₁.heap H).get? b=some o:=λe n=>ykm e n
  have noH:∀ {b:Addr} {o:Obj},s₁.heap.get? b=some o->(∀ xs n,o.data≠.seq xs n)->(∀ ps,o≠PySem.W.tabObj ps)->H b=none:=λ{b o} e d d2=>by
   cases q:H b with
   | none=>rfl
   | some u =>
    rcases hA b (by rw[q];simp) with rfl | rfl
    ·rw[ha] at e;cases e;exact absurd rfl (d _ _)
    ·rw[hT] at e;cases e;exact absurd rfl (d2 _)
  have nsK:∀ {b:Addr} {m:Str->Option Value},s₁.heap.Ns b m->(yjl s₁.heap H).Ns b m:=λ{b m} ⟨o,es,ep,e,d,r⟩=>⟨o,es,ep,base_of e (noH e (λxs n z=>by rw[d] at z;cases z) (λps z=>by rw[z] at d;cases d)),d,r⟩
  have hKb:K.In (yjl s₁.heap H):=λb o e=>base_of (KX b o e) (by
   cases q:H b with
   | none=>rfl
   | some u =>
    rcases hA b (by rw[q];simp) with rfl | rfl
    ·rw[hK (by rw[q];simp)] at e;cases e
    ·rw[hKT] at e;cases e)
  have hM:Mod K mg (yjl s₁.heap H):=⟨hKb,nsK hns,⟨mb,nsK hb,hbb⟩,let ⟨mc,h1,h2⟩:=hlim;⟨mc,nsK h1,h2⟩⟩
  have e0:Env0 P w K mg (yjl s₁.heap H) callerA [] s₁ H:=⟨rfl,hM,λb o e=>ymB e,Nat.le_of_eq (yjL _ _),trivial,λb hb=>absurd (show b∈([]:List Addr) from hb) (by simp),hok,.of_eq hg⟩
  have hgT:mainGlobals≠T:=λz=>by
   obtain⟨o,es,ep,e,d,_⟩:=hns
   rw[z,hT] at e;cases e;cases d
  have Cb:PySem.W.CodeHd (yjl s₁.heap H) cc T:=by
   obtain⟨o,vs',file,tf,flags,tg,inF,text,tt,e1,e2,e3,r⟩:=C
   exact⟨o,vs',file,tf,flags,tg,inF,text,tt,base_of e1 (noH e1 (λxs n z=>by rw[e3] at z;cases z) (λps z=>by rw[z] at e2;cases e2)),e2,e3,r⟩
  have Bb:(yjl s₁.heap H).BuiltinsAt mg T:=by
   obtain⟨bm,ob,b1,b2,b3,b4,b5,b6⟩:=hB
   refine⟨bm,ob,b1,b2,λz=>?_,λz=>?_,base_of b3 (noH b3 (λxs n z=>by rw[b6] at z;cases z) (λps z=>by rw[z] at b4;cases b4)),b4,b5,b6⟩
   ·obtain⟨o,es,ep,e,d,_⟩:=hns
    rw[← z,b3] at e;cases e;rw[b6] at d;cases d
   ·rw[z,hT] at b3;cases b3;cases b4
  refine codeAny_mono ((F _ hKb (nsK hns) Cb Bb hgT).run callerA [] s₁ H ⟨[.ref a],[]⟩ [.ref a] [.ref a] _ _ hr e0 (hbind s₁ (.ref a)) (.cons rfl .nil) (hsp H hO hHT hS)) λr s' h=>?_
  cases r with
  | error e=>exact(hCX H e s' h).elim
  | ok fl =>
   cases fl with
   | next=>exact False.elim h
   | brk=>exact False.elim h
   | cont=>exact False.elim h
   | ret u =>
    obtain⟨v,H',os,bare,un,hok',r',q⟩:=h
    have q':v=.bl true:=q
    subst q'
    obtain rfl:u=Value.bool true:=r'
    have keep:∀ b o,b≠T->s₁.heap.get? b=some o->s'.heap.get? b=some o:=λb o nb e=>by
     cases q:H b with
     | none=>exact un.keep b o e q (by intro z;exact absurd (show b∈([]:List Addr) from z) (by simp)) (by simp)
     | some u =>
      rcases hO b nb with z | ⟨ob,xs,z⟩
      ·rw[q] at z;cases z
      ·have z2:=un.frzs b ob _ z
       obtain⟨e1,_⟩:=hok b _ z
       obtain⟨e2,_⟩:=hok' b _ z2
       rw[e] at e1;cases e1
       exact e2
    obtain⟨more,em⟩:=un.tbls T #[] hHT
    have gT:s'.heap.get? T=some (PySem.W.tabObj (#[]++more)):=hok' T _ em
    refine⟨rfl,⟨λb o e=>?_,λb o e=>?_⟩,os,bare⟩
    ·by_cases z:b=T
     ·subst z
      rw[hT] at e
      cases e
      exact .inr (.inl ⟨(C.tab hT).isCodeTable,rfl,#[],more,rfl,gT⟩)
     ·exact .inl (keep b o z e)
    ·by_cases z:b=T
     ·subst z;exact⟨_,gT⟩
     ·exact⟨o,keep b o z e⟩
 cases hk:K.lookup a with
 | some o =>
  have e:=KX a o hk
  rw[ha] at e
  cases e
  refine core (λb=>if b=T then some (.tbl #[]) else none) (λb nb=>.inl (if_neg nb)) (if_pos rfl) (.inr ⟨_,vs.toArray,_,hk,rfl,rfl,rfl,by rw[List.size_toArray,lenV];exact hl,by simpa using rv⟩) (λb u z=>?_) (λb z=>?_) λz=>absurd (if_neg naT) z
  ·by_cases hb:b=T
   ·have z':=(if_pos hb).symm.trans z
    cases z'
    subst hb
    exact hT
   ·have z':=(if_neg hb).symm.trans z
    cases z'
  ·by_cases hb:b=T
   ·exact .inr hb
   ·exact absurd (if_neg hb) z
 | none =>
  refine core (λb=>if b=T then some (.tbl #[]) else if b=a then some (.frz { cls:=.type "list",data:=.seq vs.toArray } (.lst (ns.map V.int))) else none) (λb nb=>?_) (if_pos rfl) (.inl (.inr ⟨{ cls:=.type "list",data:=.seq vs.toArray },(if_neg naT).trans (if_pos rfl)⟩)) (λb u z=>?_) (λb z=>?_) λ_=>hk
  ·by_cases hb:b=a
   ·exact .inr ⟨_,_,(if_neg nb).trans (if_pos hb)⟩
   ·exact .inl ((if_neg nb).trans (if_neg hb))
  ·by_cases hbT:b=T
   ·have z':=(if_pos hbT).symm.trans z
    cases z'
    subst hbT
    exact hT
   ·by_cases hb:b=a
    ·have z':=(if_pos hb).symm.trans ((if_neg hbT).symm.trans z)
     cases z'
     subst hb
     exact⟨ha,by rw[List.length_map];exact hl,vs,_,rv,ha⟩
    ·have z':=(if_neg hb).symm.trans ((if_neg hbT).symm.trans z)
     cases z'
  ·by_cases hbT:b=T
   ·exact .inr hbT
   ·by_cases hb:b=a
    ·exact .inl hb
    ·exact absurd ((if_neg hbT).trans (if_neg hb)) z
theorem walk_ofT {l:PySem.W.OpenLaw}{n k:Nat}{q:Program}{loose:List Str}{XP:(Str->Option Value)->Heap->Prop}{YP:World->Heap->Prop}{d dm:DefRec}{maker:Str}{K:Params->PySem.W.Frag}{CX:World->CXT}{sp:World->Addr->Sp}{x:Str}
  (hn:l.most=some n) (hn2:n<=sizeLine) (hdf:d.params.defaults=[]) (hr:Room k callerA)
  (hY:∀ (w:World) (h:Heap),YP w h->(K w.params).In h) (hrec:(recsOf q).find? (λe=>e.name==maker)=some dm)
  (F:∀ (w:World) (mg:Str->Option Value) (fa:Addr) (h:Heap),(K w.params).In h->h.Ns mainGlobals mg->mg d.name=some (.ref fa) ->
   ∃ fd cc T,PySem.W.tabIn (K w.params) maker=some (cc,T)/\(K w.params).lookup T=none/\(∀ (s:Shared) (u:Value),BindsTo s fd ⟨[u],[]⟩ [(x,u)]) /\
    ∀ base:Heap,(K w.params).In base->base.Ns mainGlobals mg->PySem.W.CodeHd base cc T->base.BuiltinsAt mg T->mainGlobals≠T->FnOk l.prog w (K w.params) mg base (CX w) k fa fd [x] (sp w T))
  (hsp:∀ (w:World) (H:Hp) (a T:Addr) (ns:List Int),ns.length<=n->(∀ v∈ns,Builtin.Int.intBits v<=2 ^ 20)->ymQ T H->H T=some (.tbl #[])->SqL (K w.params) H a (ns.map V.int)->sp w T [.ref a] H (λv _=>v=.bl true) λ_ _ _=>False)
  (hCX:∀ (w:World) (H:Hp) (s:Shared) (e:Value) (s':Shared),CX w [] H s (λ_ _ _=>False) e s'->False) :
  PySem.W.WalkO q loose XP YP l.row.toRowW d [] (λf vs=>PySem.call f vs):=by
 refine Att.attach_callB hn hdf λw s₀ s₁ mg mb fa o pm cd doc a vs ns G Y ho hd hcd hmg hobj hints hlen hbits hg=>?_
 have KX:=hY w _ Y
 obtain⟨fd,cc,T,ht,hKT,hb,hF⟩:=F w mg fa _ KX G.T.g hmg
 obtain⟨C,hT⟩:=PySem.W.tab_of G.T KX hrec ht
 exact yi0 KX G.T.g G.T.b G.T.builtins G.T.nolimit hg hobj hints (Nat.le_trans hlen hn2) hr C hT hKT G.T.bmain hF hb (λH hO hHT hS=>hsp w H a T ns hlen hbits hO hHT hS) λH e s'=>hCX w H s₁ e s'
noncomputable def ylm (H:Hp)(fa:Addr):Prop:=∃ oc od fd sl,H fa=some (stays fa ⟨oc,od,.func fd,sl⟩)
theorem FnK.isFn {H:Hp}{fa:Addr}{name qual:Str}{params:Arguments}{body:List Stmt}{scope:Scope}{clos:List (Str×Addr)}(F:FnK H fa name qual params body scope clos):ylm H fa:=by
 obtain⟨doc,pm,c',ctv,e,_⟩:=F
 exact⟨_,_,_,_,e⟩
theorem PS.run {X:Cx}{st:Stmt}{t:TS}(h:PS X st t){pins:List (Addr×Obj)}{s:Shared}{σ:St}{H:Hp}{D:ydh}(I:Inv X pins σ H s)(q:t D σ H):wpAny (model X.prog X.w) X.A (exec st X.env) (SP X pins D) X.xe s:=h pins s σ H D I q
theorem PE.run {X:Cx}{e:Expr}{t:TE}(h:PE X e t){pins:List (Addr×Obj)}{s:Shared}{σ:St}{H:Hp}{Q:VK}(I:Inv X pins σ H s)(q:t σ H Q):wpAny (model X.prog X.w) X.A (eval e X.env) (EP X pins σ Q) X.xe s:=h pins s σ H Q I q
structure yjY (P:Program) (w:World) (K:PySem.W.Frag) (mg:Str->Option Value) (base:Heap) (k:Nat) (spX:Addr->V->Hp->VK->Prop):Prop where
 run:∀ (A:Around) (outer:List Env) (s:Shared) (H:Hp) (fa:Addr) (u:Value) (xv:V) (Q:VK) (E:XK),Room k A->Env0 P w K mg base A outer s H->RelV xv u->spX fa xv H Q->codeAny (model P w) A (.call (.ref fa) ⟨[u],[]⟩) (CR CX0 outer P w H s Q E) s
section
variable {X:Cx} {k i:Nat} {x:Str} {p pos:Pos} {e:Expr} {t:TA} {spX:Addr->V->Hp->VK->Prop}
noncomputable def ynM (i:Nat)(spX:Addr->V->Hp->VK->Prop)(t:TA):TE:=fun σ H Q=>∃ fa,σ[i]?=some (some (.ref fa))/\ylm H fa/\t σ H λvs H1=>∃ xv,vs=[xv]/\ylm H1 fa/\spX fa xv H1 Q
theorem ykr (C:yjY X.prog X.w X.K X.mg X.base k spX)(hr:Room k X.A)(hN:X.N[i]?=some x)(ha:PA X [e] t)(hv:Vis X.env.scope x:=by first | exact Or.inl rfl | exact Or.inr (Or.inl rfl) | exact Or.inr (Or.inr rfl))(hd:(x==("__debug__" : Str))=false:=by decide)(hcd:(x==("__classdict__" : Str))=false:=by decide)
  (he:starEach [e] X.env=(false,eval e X.env) :: starEach [] X.env:=by rfl) (hpl:(backTo pos (starEach [] X.env)).any (·.1)=false:=by rfl):PE X (.Call (.Name x p) [e] [] pos) (ynM i spX t):=by
 intro pins s σ H Q I h
 obtain⟨fa,eσ,⟨oc,od,fd,sl,ef⟩,h⟩:=h
 refine wpAny_Call_Name_kw (wpAny_mono (yjR hN hv hd hcd pins s σ H (λv H'=>v=.ref fa/\H'=H) I ⟨_,eσ,rfl,rfl⟩) (λu s1 q=>?_) λ_ _ z=>z)
 obtain⟨v,H',I1,rv,rfl,rfl⟩:=q
 obtain rfl:u=.ref fa:=rv
 refine PySem.W.callWith_F ⟨oc,od,fd,sl,I1.hok.stays ef⟩ (thn (ha pos pins s1 σ H' _ I1 h) λus s2 ⟨vs,H2,I2,r,xv,ev,⟨oc',od',fd',sl',ef'⟩,q⟩=>⟨⟨oc',od',fd',sl',I2.hok.stays ef'⟩,?_⟩) he hpl
 subst ev
 obtain⟨u1,rfl,ru⟩:∃ u1,us=[u1]/\RelV xv u1:=by
  cases r with
  | cons a b=>cases b;exact⟨_,rfl,a⟩
 refine wpAny_call (codeAny_mono (C.run X.A X.stack s2 H2 fa u1 xv Q (λ_ _ _=>False) hr I2.env0 ru q) λr s' hq=>?_)
 cases r with
 | error ev=>exact False.elim hq
 | ok fl =>
  cases fl with
  | ret u=>exact I2.after hq
  | next=>exact False.elim hq
  | brk=>exact False.elim hq
  | cont=>exact False.elim hq
end
theorem ybU (ns:List Int):∀ j,j<=ns.length->preSum (λi=>(ns[i]?).getD 0) j=(ns.take j).sum
 | 0,_=>by simp[preSum]
 | j+1,h=>by
  have hj:j < ns.length:=h
  rw[preSum,ybU ns j (Nat.le_of_lt hj),List.take_add_one,List.sum_append,List.getElem?_eq_getElem hj]
  simp
theorem ydX:∀ {ns:List Int},(∀ n∈ns,0<=n/\n<=1000)->0<=ns.sum/\ns.sum<=1000*ns.length
 | [],_=>by simp
 | n :: r,h=>by
  have h1:=h n (by simp)
  have h2:=ydX (ns:=r) λm hm=>h m (by simp[hm])
  rw[List.sum_cons,List.length_cons]
  omega
section
variable {X:Cx}
noncomputable def yrb (K:PySem.W.Frag):List V->Hp->VK->Prop:=λxs H Q=>∃ (p:Addr) (ns:List Int),xs=[.ref p]/\SqT K H p (ns.map V.int)/\(∀ n∈ns,0<=n/\n<=1000)/\ns.length<=1000/\Q (.int ns.sum) H
theorem yiT (hc:X.calm=true):yb5 X (.builtin "sum") (yrb X.K):=by
 intro pins s σ H xs us Q I r h
 obtain⟨p,ns,rfl,hq,hs,hln,q⟩:=h
 obtain⟨u,rfl,ru⟩:=ye6 r
 cases ru
 obtain⟨its,rv,pl,hz⟩:=I.tuple hq
 have hlen:ns.length=its.length:=by have:=rv.length;rw[List.length_map] at this;exact this
 have hlt:p < s.heap.objs.size:=pl.lt
 have pt:s.heap.IsTuple p its.toArray:=pl
 refine call_sum_walk (wpAny_pyIter_tuple pt ?_)
 refine⟨s.heap.objs.size,_,_,_,_,_,(λi=>(ns[i]?).getD 0),rfl,Walks.tuple (A:=X.A.in1) (I.ok.hd hc) s.heap.objs.size p (Nat.ne_of_lt hlt) its.toArray,⟨⟨_,Heap.get?_push_size _ rfl,rfl,rfl⟩,pt.push _⟩,?_,?_,?_,?_⟩
 ·intro b hb
  show b < (s.heap.push _).objs.size
  rw[Heap.size_push]
  have hb:b=s.heap.objs.size∨b=p:=by simpa using hb
  rcases hb with rfl | rfl
  ·exact Nat.lt_succ_self _
  ·exact Nat.lt_succ_of_lt hlt
 ·intro i v hP
  have hv:its[i]?=some v:=by simpa using hP
  have hi:i < its.length:=(List.getElem?_eq_some_iff.mp hv).1
  have hb:i < ns.length:=by omega
  obtain⟨w',e',r'⟩:=rv.get (x:=.int ns[i]) (i:=i) (by rw[List.getElem?_map,List.getElem?_eq_getElem hb];rfl)
  rw[e'] at hv
  cases hv
  obtain⟨t,rfl⟩:=r'
  exact⟨t,by show Value.int ns[i] t=Value.int ((ns[i]?).getD 0) t;rw[List.getElem?_eq_getElem hb];rfl⟩
 ·intro j hj
  have hj:j < ns.length:=by rw[List.size_toArray] at hj;omega
  have h1:=hs ns[j] (List.getElem_mem hj)
  have h2:=ydX (ns:=ns.take (j+1)) λn hn=>hs n (List.mem_of_mem_take hn)
  have h3:(ns.take (j+1)).length<=1000:=by rw[List.length_take];omega
  refine⟨?_,?_⟩
  ·show InLong ((ns[j]?).getD 0)
   rw[List.getElem?_eq_getElem hj]
   exact⟨by show -(2 ^ 63)<=ns[j];omega,by show ns[j] < 2 ^ 63;omega⟩
  ·rw[ybU ns (j+1) hj]
   exact⟨by omega,by omega⟩
 ·intro h' tk t' hk
  rw[List.size_toArray,← hlen,ybU ns _ (Nat.le_refl _),List.take_length]
  refine⟨.int _,H,I.kept (t':=tk) λb o e=>hk b o ?_ (Heap.get?_push_of_some _ e),⟨t',rfl⟩,q⟩
  intro z
  have:b=s.heap.objs.size:=by simpa using z
  exact absurd (Heap.lt_size e) (by rw[this];exact Nat.lt_irrefl _)
end
structure yrI (X:Cx) (scope:Scope) (NB:List Str) (cap:List (Option Nat)) (v:Str):Prop where
 kind:scope.kind=.function
 cell:∀ y∈scope.names,y.2=.cell->y.1=v
 nv:∀ y∈scope.names,y.2=.free->y.1≠v
 names:∀ y∈scope.names,y.2=.local->scope.names.lookup y.1=some .local
 free:∀ y∈scope.names,y.2=.free->(X.env.kindOf y.1=some .cell∨X.env.kindOf y.1=some .free)
 len:cap.length=NB.length
 caps:∀ (i:Nat) (x:Str) (j:Nat),NB[i]?=some x->cap[i]?=some (some j)->X.N[j]?=some x/\(x,NameKind.free)∈scope.names/\((relabel scope X.env).names.lookup x=some .cell∨(relabel scope X.env).names.lookup x=some .free)
 cf:∀ n cl,cellsFrom n scope.names cl=(v,n) :: cl
 pc:∀ h,pushCells h scope.names=h.push { cls:=.type "cell",data:=.cell none }
section
variable {X:Cx} {pins:List (Addr×Obj)} {σ:St} {H:Hp} {s:Shared} {scope:Scope} {NB:List Str} {cap:List (Option Nat)} {v:Str}
end
section
variable {X:Cx}
noncomputable def ylA (K:PySem.W.Frag):R2:=λx y H Q=>∃ a b xs,x=.ref a/\y=.ref b/\SqL K H a xs/\SqL K H b []/\Q (.bl xs.isEmpty) H
theorem yla (hu:X.A.units+64 < cLine):OpR X (compareOp .Eq) (ylA X.K):=by
 intro pins s σ H x y v u Q I rx ry h
 obtain⟨a,b,xs,rfl,rfl,ha,hb,q⟩:=h
 cases rx
 cases ry
 obtain⟨its,r,p,_⟩:=I.list ha
 obtain⟨its',r',p',_⟩:=I.list hb
 cases r'
 have hA:X.A.units < cLine:=by omega
 cases r with
 | nil=>exact SeqAt.RcAt.lists p.isList p'.isList rfl hA (e:=λ_=>true) (λj h1 _=>absurd h1 (Nat.not_lt_zero _)) _ _ _ _ ⟨.bl true,H,I,rfl,q⟩
 | cons _ _=>exact SeqAt.RcAt.lists_lengths p.isList p'.isList (by simp) hA _ _ _ _ ⟨.bl false,H,I,rfl,q⟩
noncomputable def yoW (K:PySem.W.Frag):List V->Hp->VK->Prop:=λxs H Q=>∃ (p:Addr) (ns:List Int),xs=[.ref p]/\SqL K H p (ns.map V.int)/\(∀ n∈ns,0<=n/\n<=1000)/\ns.length<=1000/\Q (.int ns.sum) H
theorem ydQ (hc:X.calm=true):yb5 X (.builtin "sum") (yoW X.K):=by
 intro pins s σ H xs us Q I r h
 obtain⟨p,ns,rfl,hq,hs,hln,q⟩:=h
 obtain⟨u,rfl,ru⟩:=ye6 r
 cases ru
 obtain⟨its,rv,pl,hz⟩:=I.list hq
 have hlen:ns.length=its.length:=by have:=rv.length;rw[List.length_map] at this;exact this
 have hl:=pl.isList
 have hlt:p < s.heap.objs.size:=by obtain⟨_,g,_⟩:=hl;exact Heap.lt_size g
 refine call_sum_walk (wpAny_pyIter_list hl ?_)
 refine⟨s.heap.objs.size,_,_,_,_,_,(λi=>(ns[i]?).getD 0),rfl,Walks.list (A:=X.A.in1) (I.ok.hd hc) s.heap.objs.size p (Nat.ne_of_lt hlt) its.toArray,⟨⟨_,Heap.get?_push_size _ rfl,rfl,rfl⟩,hl.push _⟩,?_,?_,?_,?_⟩
 ·intro b hb
  have hb:b=s.heap.objs.size∨b=p:=by simpa using hb
  have low:b<=s.heap.objs.size:=hb.elim (λz=>Nat.le_of_eq z) λz=>Nat.le_of_lt (z▸hlt)
  exact Heap.size_push ..▸Nat.lt_succ_of_le low
 ·intro i v hP
  have hv:its[i]?=some v:=by simpa using hP
  have hb:i < ns.length:=hlen▸(List.getElem?_eq_some_iff.mp hv).1
  obtain⟨w',e',r'⟩:=rv.get (x:=.int ns[i]) (i:=i) (by rw[List.getElem?_map,List.getElem?_eq_getElem hb];rfl)
  rw[e'] at hv
  cases hv
  obtain⟨t,rfl⟩:=r'
  exact⟨t,by show Value.int ns[i] t=Value.int ((ns[i]?).getD 0) t;rw[List.getElem?_eq_getElem hb];rfl⟩
 ·intro j hj
  have hj:j < ns.length:=by rw[List.size_toArray] at hj;omega
  have h1:=hs ns[j] (List.getElem_mem hj)
  have h2:=ydX (ns:=ns.take (j+1)) λn hn=>hs n (List.mem_of_mem_take hn)
  have h3:(ns.take (j+1)).length<=1000:=by rw[List.length_take];omega
  refine⟨?_,?_⟩
  ·show InLong ((ns[j]?).getD 0)
   rw[List.getElem?_eq_getElem hj]
   exact⟨by show -(2 ^ 63)<=ns[j];omega,by show ns[j] < 2 ^ 63;omega⟩
  ·rw[ybU ns (j+1) hj]
   exact⟨by omega,by omega⟩
 ·intro h' tk t' hk
  rw[List.size_toArray,← hlen,ybU ns _ (Nat.le_refl _),List.take_length]
  refine⟨.int _,H,I.kept (t':=tk) λb o e=>hk b o ?_ (Heap.get?_push_of_some _ e),⟨t',rfl⟩,q⟩
  intro z
  have:b=s.heap.objs.size:=by simpa using z
  exact absurd (Heap.lt_size e) (by rw[this];exact Nat.lt_irrefl _)
noncomputable def yjv (K:PySem.W.Frag):R2:=λx y H Q=>∃ a b xs,x=.ref a/\y=.ref b/\SqL K H a xs/\SqL K H b []/\Q (.bl (!xs.isEmpty)) H
theorem ycv (hu:X.A.units+64 < cLine):OpR X (compareOp .NotEq) (yjv X.K):=by
 intro pins s σ H x y v u Q I rx ry h
 obtain⟨a,b,xs,rfl,rfl,ha,hb,q⟩:=h
 cases rx
 cases ry
 obtain⟨its,r,p,_⟩:=I.list ha
 obtain⟨its',r',p',_⟩:=I.list hb
 cases r'
 have hA:X.A.units < cLine:=by omega
 cases r with
 | nil=>exact SeqAt.RcNeAt.lists p.isList p'.isList rfl hA (e:=λ_=>true) (λj h1 _=>absurd h1 (Nat.not_lt_zero _)) _ _ _ _ ⟨.bl false,H,I,rfl,q⟩
 | cons _ _=>exact SeqAt.RcNeAt.lists_lengths p.isList p'.isList (by simp) hA _ _ _ _ ⟨.bl true,H,I,rfl,q⟩
theorem Inv.tupBut {pins:List (Addr×Obj)}{σ:St}{H:Hp}{s:Shared}{ch:List Addr}{vs:List V}{its:List Value}{h':Heap}{t':Nat}(I:Inv X pins σ H s)(hf:∀ b∈ch,yft X pins H b)
  (kp:∀ b o,b∉ch->s.heap.get? b=some o->h'.get? b=some o) (z:vs.length<=sizeLine) (r:Vals vs its) (g:IsTup h' s.heap.objs.size its.toArray):Inv X pins σ (upd H s.heap.objs.size (.tup vs)) { s with heap:=h',toks:=t' }:=by
 have fr:H s.heap.objs.size=none:=I.hok.fresh (Nat.le_refl _)
 have new:∀ {b:Addr} {o:Obj},s.heap.get? b=some o->b≠s.heap.objs.size:=λh=>Nat.ne_of_lt (Heap.lt_size h)
 have old:∀ {b:Addr} {u:HO},H b=some u->upd H s.heap.objs.size (.tup vs) b=some u:=λh=>by rw[yai (yam h fr)];exact h
 have off:∀ b u,H b=some u->b∉ch:=λb u h m=>by rw[(hf b m).1] at h;cases h
 refine I.step (g':=s.gens) (d':=s.drawn) (ch:=ch) (λb hb=>⟨(hf b hb).2.2.2.1,(hf b hb).2.1,(hf b hb).2.2.2.2⟩) (λb o _ _ n e _=>kp b o n e) (λb o _ _ n e _=>⟨o.slots,kp b o n e⟩) (λb o _ e n=>by rw[yai (new e)];exact n)
  (λb o n e=>⟨o,kp b o n e⟩) (λ_ _ h=>old h) (λ_ _ _ h=>old h) (λ_ ps h=>⟨#[],by rw[old h];simp⟩) (λm hm=>?_) (λb u h=>?_) I.bare
 ·exact hm.at λo e=>kp _ o (λn=>(hf _ n).2.1 rfl) e
 ·by_cases hb:b=s.heap.objs.size
  ·subst hb
   rw[yad] at h
   cases h
   exact⟨z,its,r,g⟩
  ·rw[yai hb] at h
   refine(I.hok b u h).stay (λc v hc q=>kp c v ?_ q) (λ_ h=>old h) λ_ _ h=>old h
   exact hc.elim (λe=>e▸off b u h) λe=>off c _ e
noncomputable def Itz (K:PySem.W.Frag)(a b:Addr):It :=
 ⟨λi H=>∃ xs ys x y,SqL K H a xs/\SqL K H b ys/\xs[i]?=some x/\ys[i]?=some y,λi H x H'=>∃ p v u,x=.ref p/\H p=none/\H'=upd H p (.tup [v,u])/\∀ xs ys,SqL K H a xs->SqL K H b ys->xs[i]?=some v/\ys[i]?=some u,
  λi H=>∃ xs ys,SqL K H a xs/\SqL K H b ys/\(xs.length<=i∨ys.length<=i)⟩
structure ypk (z TI TO i1 i2:Addr):Prop where
 a1:TI≠z
 a2:TO≠z
 a3:i1≠z
 a4:i2≠z
 a5:TI≠TO
 a6:TI≠i1
 a7:TI≠i2
 a8:TO≠i1
 a9:TO≠i2
 a0:i1≠i2
noncomputable def yko (z TI TO i1 i2 a b:Addr)(i:Nat)(h:Heap):Prop:=IsZip h z TI TO .none/\IsPair h TI (.ref i1) (.ref i2)/\(∃ u v,IsPair h TO u v)/\h.IsListIter i1 a i/\h.IsListIter i2 b i
theorem ybu {h:Heap}{a b:Addr}{o p:Obj}(ga:h.get? a=some o)(gb:h.get? b=some p)(n:o.cls≠p.cls):a≠b:=λe=>n (by rw[e] at ga;rw[Option.some.inj (ga.symm.trans gb)])
theorem yfw {h:Heap}{z TI TO i1 i2 a b:Addr}{i:Nat}{xs ys:Array Value}(F:ypk z TI TO i1 i2)(st:yko z TI TO i1 i2 a b i h)(ha:h.IsList a xs)(hb:h.IsList b ys):ZipApart z TI TO i1 i2 a b:=by
 obtain⟨s1,s2,⟨u,v,s3⟩,⟨o4,s4,c4,_⟩,⟨o5,s5,c5,_⟩⟩:=st
 obtain⟨oa,ga,ca,_⟩:=ha
 obtain⟨ob,gb,cb,_⟩:=hb
 exact⟨F.a1,F.a2,F.a3,F.a4,F.a5,F.a6,F.a7,F.a8,F.a9,F.a0,ybu ga s1 (by rw[ca];show Value.type "list" ≠ .type "zip";decide),ybu ga s3 (by rw[ca];show Value.type "list" ≠ .type "tuple";decide),ybu ga s4 (by rw[ca,c4];decide),ybu ga s5 (by rw[ca,c5];decide),
  ybu gb s1 (by rw[cb];show Value.type "list" ≠ .type "zip";decide),ybu gb s3 (by rw[cb];show Value.type "list" ≠ .type "tuple";decide),ybu gb s4 (by rw[cb,c4];decide),ybu gb s5 (by rw[cb,c5];decide)⟩
theorem yhl {P:Program}{w:World}{K:PySem.W.Frag}{elts:List Expr}{x1}{tp:Pos}{z TI TO i1 i2 a b:Addr}(F:ypk z TI TO i1 i2):yjZ P w K (.Tuple elts x1 tp) (Itz K a b) [z,TI,TO,i1,i2] z (yko z TI TO i1 i2 a b) where
 mem:=by simp
 obj:=λi h st c hc=>by
  obtain⟨s1,s2,⟨u,v,s3⟩,⟨o4,s4,_,d4⟩,⟨o5,s5,_,d5⟩⟩:=st
  simp only[List.mem_cons,List.not_mem_nil,or_false] at hc
  rcases hc with rfl | rfl | rfl | rfl | rfl
  ·exact⟨_,s1,λv=>nofun⟩
  ·exact⟨_,s2,λv=>nofun⟩
  ·exact⟨_,s3,λv=>nofun⟩
  ·exact⟨_,s4,λv e=>by rw[d4] at e;cases e⟩
  ·exact⟨_,s5,λv e=>by rw[d5] at e;cases e⟩
 keep:=λi h h' st k=>by
  obtain⟨s1,s2,⟨u,v,s3⟩,s4,s5⟩:=st
  exact⟨k _ (by simp) _ s1,k _ (by simp) _ s2,⟨u,v,k _ (by simp) _ s3⟩,s4.at λo e=>k _ (by simp) o e,s5.at λo e=>k _ (by simp) o e⟩
 item:=by
  intro X hP hw hK hc i pins s σ H E I hf st hg
  subst hP hw hK
  obtain⟨xs,ys,x,y,hx,hy,ex,ey⟩:=hg
  obtain⟨itx,rx,px,_⟩:=I.list hx
  obtain⟨ity,ry,py,_⟩:=I.list hy
  obtain⟨u,eu,ru⟩:=rx.get ex
  obtain⟨v,ev,rv⟩:=ry.get ey
  have D:=yfw F st px.isList py.isList
  obtain⟨s1,s2,⟨p,q,s3⟩,s4,s5⟩:=st
  refine wpAny_pyNext_zip_item D s1 s2 s3 s4 s5 px.isList py.isList (x:=u) (y:=v) (by simpa using eu) (by simpa using ev) λh1 b1 b2 b3 b4 b5 b6 kp=>?_
  refine⟨_,rfl,wpAny_letOwnedTupleGo_zip b1 λh2 c1 sb=>?_⟩
  have sb:Heap.SameBut z h1 h2:=sb
  have zl:s.heap.objs.size≠z:=Nat.ne_of_gt (Heap.lt_size s1)
  have fr:H s.heap.objs.size=none:=I.hok.fresh (Nat.le_refl _)
  have k2:∀ c o,c∉[z,TI,TO,i1,i2]->s.heap.get? c=some o->h2.get? c=some o:=λc o n e=>by
   simp only[List.mem_cons,List.not_mem_nil,or_false,not_or] at n
   exact(sb.2 c n.1).trans (kp c o n.1 n.2.2.1 n.2.2.2.1 n.2.2.2.2 e)
  have T2:IsPair h2 TI (.ref i1) (.ref i2):=(sb.2 _ F.a1).trans (kp _ _ F.a1 F.a5 F.a6 F.a7 s2)
  refine⟨.ref s.heap.objs.size,_,I.tupBut (t':=s.toks) hf k2 (vs:=[x,y]) (its:=[u,v]) (by show 2<=sizeLine;decide) (.cons ru (.cons rv .nil)) ⟨_,(sb.2 _ zl).trans b5,rfl,_,rfl⟩,rfl,⟨_,x,y,rfl,fr,rfl,λxs' ys' hx' hy'=>by rw[I.list_inj hx' hx,I.list_inj hy' hy];exact⟨ex,ey⟩⟩,
   ⟨c1,T2,⟨_,_,(sb.2 _ F.a2).trans b2⟩,b3.extBut sb.extBut F.a3,b4.extBut sb.extBut F.a4⟩,λc hcm=>?_⟩
  have nb:c≠s.heap.objs.size:=by
   obtain⟨o4,g4,_⟩:=s4
   obtain⟨o5,g5,_⟩:=s5
   simp only[List.mem_cons,List.not_mem_nil,or_false] at hcm
   rcases hcm with rfl | rfl | rfl | rfl | rfl
   ·exact zl.symm
   ·exact Nat.ne_of_lt (Heap.lt_size s2)
   ·exact Nat.ne_of_lt (Heap.lt_size s3)
   ·exact Nat.ne_of_lt (Heap.lt_size g4)
   ·exact Nat.ne_of_lt (Heap.lt_size g5)
  rw[yai nb]
  exact(hf c hcm).1
 done:=by
  intro X hP hw hK hc i pins s σ H E I hf st hg
  subst hP hw hK
  obtain⟨xs,ys,hx,hy,he⟩:=hg
  obtain⟨itx,rx,px,_⟩:=I.list hx
  obtain⟨ity,ry,py,_⟩:=I.list hy
  have D:=yfw F st px.isList py.isList
  obtain⟨s1,s2,⟨p,q,s3⟩,s4,s5⟩:=st
  have l1:=rx.length
  have l2:=ry.length
  refine wpAny_pyNext_zip_end (I.ok.hd hc) D s1 s2 s3 s4 s5 px.isList py.isList (he.imp (λh=>by simp;omega) λh=>by simp;omega) λh1 kp=>⟨rfl,?_⟩
  have off:∀ b u,H b=some u->b∉[z,TI,TO,i1,i2]:=λb u h m=>by rw[(hf b m).1] at h;cases h
  have k2:∀ c o,c∉[z,TI,TO,i1,i2]->s.heap.get? c=some o->h1.get? c=some o:=λc o n e=>by
   simp only[List.mem_cons,List.not_mem_nil,or_false,not_or] at n
   exact kp c o n.1 n.2.2.1 n.2.2.2.1 n.2.2.2.2 e
  exact I.step (g':=s.gens) (d':=s.drawn) (t':=s.toks) (ch:=[z,TI,TO,i1,i2]) (λb hb=>⟨(hf b hb).2.2.2.1,(hf b hb).2.1,(hf b hb).2.2.2.2⟩) (λb o _ _ n e _=>k2 b o n e) (λb o _ _ n e _=>⟨o.slots,k2 b o n e⟩) (λ_ _ _ _ n=>n)
   (λb o n e=>⟨o,k2 b o n e⟩) (λ_ _ h=>h) (λ_ _ _ h=>h) (λ_ ps h=>⟨#[],by rw[h];simp⟩) (λm hm=>hm.at λo e=>k2 _ o (λn=>(hf _ n).2.1 rfl) e) (λb u h=>(I.hok b u h).stay (λc v hc q=>k2 c v (hc.elim (λe=>e▸off b u h) λe=>off c _ e) q) (λ_ h=>h) λ_ _ h=>h) I.bare
 self:=λ_ _ _ _ _ st h=>wpAny_pyIter_zip st.1 h
theorem yha:bootBuiltins "zip"=some (.type "zip"):=by decide +kernel
noncomputable def yq2 (K:PySem.W.Frag)(ta:TA):TI:=fun σ H R=>ta σ H λvs H1=>∃ a b,vs=[.ref a,.ref b]/\(∃ xs,SqL K H1 a xs)/\(∃ ys,SqL K H1 b ys)/\R (Itz K a b) H1
theorem yly {elts:List Expr}{x1}{tp:Pos}{a b:Expr}{ta:TA}{p pos:Pos}(hg:Gl X "zip")(hm:X.mg "zip"=none)(ha:PA X [a,b] ta)(hs:starEach [a,b] X.env=[(false,eval a X.env),(false,eval b X.env)]:=by rfl)(hs2:starEach [b] X.env=[(false,eval b X.env)]:=by rfl) :
  PI X (.Tuple elts x1 tp) (.Call (.Name "zip" p) [a,b] [] pos) (yq2 X.K ta):=by
 intro pins s σ H R I h
 refine Call_ (ycG I hg hm yha (PyProof.Rows.callWith_type1 (thn (ha pos pins s σ H _ I h) λus s1 ⟨vs,H1,I1,r1,q1⟩=>?_) (by rw[hs,hs2]) (by rw[hs2];rfl)))
 obtain⟨la,lb,e,⟨xs,hx⟩,⟨ys,hy⟩,q⟩:=q1
 subst e
 obtain⟨u,v,rfl,ru,rv⟩:=ygS r1
 cases ru
 cases rv
 obtain⟨itx,rx,px,_⟩:=I1.list hx
 obtain⟨ity,ry,py,_⟩:=I1.list hy
 refine call_zip_2 px.isList py.isList λh' b1 b2 b3 b4 b5 sz kp=>wpAny_pyIter_zip b1 ?_
 have lt:∀ n,yft X pins H1 (s1.heap.objs.size+n):=λn=>I1.fpOk (Nat.le_add_right _ _) (I1.hok.fresh (Nat.le_add_right _ _))
 have ne:∀ {n m:Nat},n≠m->s1.heap.objs.size+n≠s1.heap.objs.size+m:=λh e=>h (Nat.add_left_cancel e)
 refine⟨_,[s1.heap.objs.size+4,s1.heap.objs.size+2,s1.heap.objs.size+3,s1.heap.objs.size+0,s1.heap.objs.size+1],_,_,H1,rfl,I1.kept (t':=s1.toks) kp,yhl ⟨ne (by decide),ne (by decide),ne (by decide),ne (by decide),ne (by decide),ne (by decide),ne (by decide),ne (by decide),ne (by decide),ne (by decide)⟩,⟨b1,b2,⟨_,_,b3⟩,b4,b5⟩,λc hc=>?_,q⟩
 simp only[List.mem_cons,List.not_mem_nil,or_false] at hc
 rcases hc with rfl | rfl | rfl | rfl | rfl<;>exact lt _
theorem yku {K:PySem.W.Frag}{a b D:Addr}{xs ys:List V}{g:TG}{tc:TT}{te:TE}{Fin:Hp->Prop}{σ:St}{H:Hp}(Pv:Nat->St->Hp->Prop)(h0:Pv 0 σ H)(hl:∀ i σ H,Pv i σ H->SqL K H a xs/\SqL K H b ys)
  (hs:∀ i x y σ H p,xs[i]?=some x->ys[i]?=some y->Pv i σ H->H p=none->g (.ref p) σ (upd H p (.tup [x,y])) fun σ2 H2=>tc σ2 H2 λb H3=>if b=true then te σ2 H3 λy H4=>∃ ys,H4 D=some (.lst ys)/\ys.length < sizeLine/\Pv (i+1) σ2 (upd H4 D (.lst (ys++[y]))) else Pv (i+1) σ2 H3)
  (hd:∀ i σ H,i=min xs.length ys.length->Pv i σ H->Fin H):∃ W:Nat->Nat->St->Hp->Prop,(∃ m,W 0 m σ H)/\ycR (Itz K a b) g tc te D Fin W:=by
 refine⟨λi m σ H=>m=min xs.length ys.length - i/\i<=min xs.length ys.length/\Pv i σ H,⟨min xs.length ys.length,by simp,Nat.zero_le _,h0⟩,?_⟩
 rintro i m σ H ⟨rfl,hi,p⟩
 obtain⟨q1,q2⟩:=hl i σ H p
 by_cases hlt:i < min xs.length ys.length
 ·have l1:i < xs.length:=by omega
  have l2:i < ys.length:=by omega
  refine .inr ⟨⟨xs,ys,xs[i],ys[i],q1,q2,by simp[l1],by simp[l2]⟩,Pv (i+1),fun σ' H' p'=>⟨min xs.length ys.length - (i+1),by omega,rfl,hlt,p'⟩,λx H' y=>?_⟩
  obtain⟨c,v,u,e1,e2,e3,y⟩:=y
  subst e1 e3
  obtain⟨y1,y2⟩:=y xs ys q1 q2
  exact hs i v u σ H c y1 y2 p e2
 ·exact .inl ⟨⟨xs,ys,q1,q2,by omega⟩,hd i σ H (by omega) p⟩
end
noncomputable def yqq:Int×Int->DictEntry->Bool
 | (k,v),⟨h,.int k' _,.int v' _⟩=>decide (h=hashInt k)&&decide (k=k')&&decide (v=v')
 | _,_=>false
noncomputable def ykg:List (Int×Int)->List DictEntry->Bool
 | [],[]=>true
 | q :: qs,e :: es=>yqq q e&&ykg qs es
 | _,_=>false
structure DctIn (K:PySem.W.Frag) (a:Addr) (qs:List (Int×Int)):Prop where
 ne:(a==sysModules)=false
 nd:(qs.map (·.1)).Nodup
 at':∃ (es:Array DictEntry) (ep:Nat),K.lookup a=some ⟨.type "dict",none,.dict es ep,#[]⟩/\ykg qs es.toList=true
theorem ykA {q:Int×Int}{e:DictEntry}(h:yqq q e=true):∃ t t',e=⟨hashInt q.1,.int q.1 t,.int q.2 t'⟩:=by
 obtain⟨k,v⟩:=q
 obtain⟨hh,kk,vv⟩:=e
 cases kk<;>cases vv<;>simp[yqq] at h
 obtain⟨⟨h1,h2⟩,h3⟩:=h
 subst h1 h2 h3
 exact⟨_,_,rfl⟩
theorem yfE {prog:Program}{w:World}:∀ {qs:List (Int×Int)} {es:List DictEntry},ykg qs es=true ->
  ∃ vs:List (Int×Value),vs.map (·.1)=qs.map (·.1)/\Pairs (intKind prog w) es vs/\(∀ e∈es,∃ k,(intKind prog w).is k e.key=true/\e.hash=(intKind prog w).hash k) /\
   ∀ i:Nat,∀ k v,qs[i]?=some (k,v)->∃ t,vs[i]?=some (k,.int v t)
 | [],[],_=>⟨[],rfl,.nil,λe h=>(nomatch h),λi k v h=>by simp at h⟩
 | q :: qs,e :: es,h=>by
  rw[ykg,Bool.and_eq_true] at h
  obtain⟨t,t',rfl⟩:=ykA h.1
  obtain⟨vs,h1,h2,h3,h4⟩:=yfE (prog:=prog) (w:=w) h.2
  have hi:(intKind prog w).is q.1 (.int q.1 t)=true:=by simp[intKind,Value.isInt]
  refine⟨(q.1,.int q.2 t') :: vs,by simp[h1],.cons hi rfl h2,λe he=>?_,λi k v hx=>?_⟩
  ·rcases List.mem_cons.mp he with rfl | he
   ·exact⟨q.1,hi,rfl⟩
   ·exact h3 e he
  ·cases i with
   | zero =>
    rw[List.getElem?_cons_zero] at hx ⊢
    cases hx
    exact⟨t',rfl⟩
   | succ i =>
    rw[List.getElem?_cons_succ] at hx ⊢
    exact h4 i k v hx
 | [],_ :: _,h=>by cases h
 | _ :: _,[],h=>by cases h
theorem DctIn.dict {K:PySem.W.Frag}{a:Addr}{qs:List (Int×Int)}{prog:Program}{w:World}{h:Heap}(d:DctIn K a qs)(X:K.In h) :
  ∃ vs ep,h.DictAt (intKind prog w) a vs ep/\vs.map (·.1)=qs.map (·.1)/\∀ i:Nat,∀ k v,qs[i]?=some (k,v)->∃ t,vs[i]?=some (k,.int v t):=by
 obtain⟨es,ep,l,b⟩:=d.at'
 obtain⟨vs,h1,h2,h3,h4⟩:=yfE (prog:=prog) (w:=w) b
 exact⟨vs,ep,⟨_,es,X a _ l,⟨rfl,rfl,rfl⟩,rfl,λe he=>h3 e (by simpa using he),h2,by rw[h1];exact d.nd⟩,h1,h4⟩
section
variable {X:Cx}
end
section
variable {X:Cx} {pins l:List (Addr×Obj)} {σ:St} {H:Hp} {s:Shared} {A:Around} {E:Value->Shared->Prop} {a kS:Addr} {b:Bool} {vs:List Value} {kz:List Int} {e1 n:Nat} {f:Value}
end
section
variable {X:Cx} {tg:Expr}
end
section
variable {prog:Program} {w:World} {A:Around} {E:Value->Shared->Prop} {s:Shared}
end
section
variable {X:Cx} {tg:Expr}
end
theorem ybh {K:PySem.W.Frag}{a:Addr}{xs:List V}{g:TG}{tb:TS}{D:ydh}{σ:St}{H:Hp}(Pv:Nat->St->Hp->Prop)(h0:Pv 0 σ H)(hl:∀ i σ H,i<=xs.length->Pv i σ H->SqL K H a xs)
  (hs:∀ i x σ H (N:St->Hp->Prop),(∀ σ' H',Pv (i+1) σ' H'->N σ' H')->xs[i]?=some x->Pv i σ H->g x σ H fun σ2 H2=>tb { D with nx:=N,ct:=N,bk:=D.nx } σ2 H2) (hd:∀ σ H,Pv xs.length σ H->D.nx σ H) :
  ∃ W:Nat->Nat->St->Hp->Prop,(∃ m,W 0 m σ H)/\∀ i m σ H,W i m σ H ->
   ((Itl K a).stop i H/\D.nx σ H)∨((Itl K a).go i H/\∃ N:St->Hp->Prop,(∀ σ' H',N σ' H'->∃ m',m' < m/\W (i+1) m' σ' H')/\∀ x H',(Itl K a).yld i H x H'->g x σ H' fun σ2 H2=>tb { D with nx:=N,ct:=N,bk:=D.nx } σ2 H2) :=
 yg3 Pv h0 hl (λi x σ H hx p=>hs i x σ H _ (λ_ _ z=>z) hx p) hd
theorem ydg {lo:Int}{n:Nat}{g:TG}{tb:TS}{D:ydh}{σ:St}{H:Hp}(Pv:Nat->St->Hp->Prop)(h0:Pv 0 σ H)
  (hs:∀ i σ H (N:St->Hp->Prop),(∀ σ' H',Pv (i+1) σ' H'->N σ' H')->i < n->Pv i σ H->g (.int (lo+i)) σ H fun σ2 H2=>tb { D with nx:=N,ct:=N,bk:=D.nx } σ2 H2) (hd:∀ σ H,Pv n σ H->D.nx σ H) :
  ∃ W:Nat->Nat->St->Hp->Prop,(∃ m,W 0 m σ H)/\∀ i m σ H,W i m σ H ->
   ((Itr lo n).stop i H/\D.nx σ H)∨((Itr lo n).go i H/\∃ N:St->Hp->Prop,(∀ σ' H',N σ' H'->∃ m',m' < m/\W (i+1) m' σ' H')/\∀ x H',(Itr lo n).yld i H x H'->g x σ H' fun σ2 H2=>tb { D with nx:=N,ct:=N,bk:=D.nx } σ2 H2) :=
 yjJ Pv h0 (λi σ H hx p=>hs i σ H _ (λ_ _ z=>z) hx p) hd
theorem ybM {K:PySem.W.Frag}{a D:Addr}{xs:List V}{g:TG}{tc:TT}{te:TE}{Fin:Hp->Prop}{σ:St}{H:Hp}(Pv:Nat->St->Hp->Prop)(h0:Pv 0 σ H)(hl:∀ i σ H,i<=xs.length->Pv i σ H->SqL K H a xs)
  (hs:∀ i x σ H (N:St->Hp->Prop),(∀ σ' H',Pv (i+1) σ' H'->N σ' H')->xs[i]?=some x->Pv i σ H->g x σ H fun σ2 H2=>tc σ2 H2 λb H3=>if b=true then te σ2 H3 λy H4=>∃ ys,H4 D=some (.lst ys)/\ys.length < sizeLine/\N σ2 (upd H4 D (.lst (ys++[y]))) else N σ2 H3)
  (hd:∀ σ H,Pv xs.length σ H->Fin H):∃ W:Nat->Nat->St->Hp->Prop,(∃ m,W 0 m σ H)/\ycR (Itl K a) g tc te D Fin W :=
 yf6 Pv h0 hl (λi x σ H hx p=>hs i x σ H _ (λ_ _ z=>z) hx p) hd
section
variable {X:Cx}
theorem yhq:∀ {ns:List Int} {us:List Value},Vals (ns.map V.int) us->IntsAre us ns
 | [],_,.nil=>.nil
 | n :: ns,_,.cons ⟨t,e⟩ r=>by subst e;exact IntsAre.cons _ _ (yhq r)
noncomputable def ylE (K:PySem.W.Frag)(R:Int->Int->Prop):List V->Hp->VK->Prop:=λxs H Q=>∃ (p:Addr) (ns:List Int),xs=[.ref p]/\SqL K H p (ns.map V.int)/\0 < ns.length/\∀ m,m∈ns->(∀ a∈ns,R a m)->Q (.int m) H
theorem yiA {ys:Array (Int×Tok)}{j:Nat}(h:j < ys.size):numAt ys j∈ys.toList.map (·.1) :=
 List.mem_map.mpr ⟨ys[j],by simp,by simp[numAt,h]⟩
theorem yjT {ys:Array (Int×Tok)}{a:Int}(h:a∈ys.toList.map (·.1)):∃ j,j < ys.size/\a=numAt ys j:=by
 obtain⟨q,hq,rfl⟩:=List.mem_map.mp h
 obtain⟨j,lt,e⟩:=List.getElem_of_mem hq
 have lt':j < ys.size:=by simpa using lt
 refine⟨j,lt',?_⟩
 rw[← e]
 simp only[numAt,Array.getElem_toList,Array.getElem?_eq_getElem lt']
 rfl
theorem yh2 {nm:String}{pick:(Nat->Int)->Nat->Nat}{R:Int->Int->Prop}
  (rule:∀ {s:Shared} {l:Addr} {ys:Array (Int×Tok)} {E:Value->Shared->Prop} {Q:Value->Shared->Prop},s.heap.IsList l (intItems ys)->0 < ys.size->(∀ v h' tk,(intItems ys)[pick (numAt ys) (ys.size - 1)]?=some v->(∀ b o,s.heap.get? b=some o->h'.get? b=some o)->Q v { s with heap:=h',toks:=tk })->wpAny (model X.prog X.w) X.A (call (.builtin nm) [.ref l]) Q E s)
  (best:∀ num k,pick num k<=k/\∀ j,j<=k->R (num j) (num (pick num k))):yb5 X (.builtin nm) (ylE X.K R):=by
 intro pins s σ H xs us Q I r h
 obtain⟨p,ns,rfl,hq,one,q⟩:=h
 obtain⟨u,rfl,ru⟩:=ye6 r
 cases ru
 obtain⟨its,rv,pl,hz⟩:=I.list hq
 have ia:=yhq rv
 obtain⟨ys,e⟩:=ia.allInts.items
 have all:ns=ys.toList.map (·.1):=by
  rw[← ia.numsOf,show numsOf its=numsOf its.toArray.toList from rfl,e]
  exact nums_intItems ys
 subst all
 have many:0 < ys.size:=by simpa using one
 obtain⟨b1,b2⟩:=best (numAt ys) (ys.size - 1)
 refine rule (e▸pl.isList) many λv h' tk hv hk=>?_
 obtain⟨t,rfl⟩:=intItems_at hv
 refine⟨.int _,H,I.kept (t':=tk) hk,⟨t,rfl⟩,q _ (yiA (by omega)) λa ha=>?_⟩
 obtain⟨j,lt,rfl⟩:=yjT ha
 exact b2 j (by omega)
theorem yfZ (hn:X.A.handled=none):yb5 X (.builtin "max") (ylE X.K (λa m=>a<=m)) :=
 yh2 (pick:=λnum k=>argBest (λi j=>decide (num i > num j)) k) (λhl ne q=>max_intList hn hl ne q) λnum k=>argBest_gt num k
end
section
variable {κ:Type} [DecidableEq κ]
noncomputable def yiZ (kvs:List (κ×V))(k:κ):Option V:=(kvs.find? λkv=>decide (kv.1=k)).map (·.2)
noncomputable def yo9 (kvs:List (κ×V))(k:κ)(v:V):List (κ×V) :=
 if (kvs.any λkv=>decide (kv.1=k))=true then kvs.map (λkv=>if kv.1=k then (kv.1,v) else kv) else kvs++[(k,v)]
noncomputable def yn0 (kvs:List (κ×V))(k:κ):List (κ×V):=kvs.filter λkv=>decide (kv.1≠k)
theorem ygZ {p:κ×V}{r:List (κ×V)}{k:κ}(e:p.1=k):yiZ (p :: r) k=some p.2:=by simp[yiZ,List.find?_cons,e]
theorem yhm {p:κ×V}{r:List (κ×V)}{k:κ}(e:¬ p.1=k):yiZ (p :: r) k=yiZ r k:=by simp[yiZ,List.find?_cons,e]
theorem RelO.getD {o:Option V}{u:Option Value}{d:V}{d':Value}(r:RelO o u)(rd:RelV d d'):RelV (o.getD d) (u.getD d'):=by
 cases o with
 | none=>cases u with
  | none=>exact rd
  | some _=>exact(show False from r).elim
 | some _=>cases u with
  | none=>exact(show False from r).elim
  | some _=>exact r
theorem KV.val {kvs:List (κ×V)}{vs:List (κ×Value)}(r:KV kvs vs)(k:κ):RelO (yiZ kvs k) (valueAt vs k):=by
 unfold KV at r
 induction r with
 | nil=>exact True.intro
 | @cons p q ps qs h t ih =>
  obtain⟨h1,h2⟩:=h
  by_cases e:p.1=k
  ·have e':q.1=k:=h1.symm.trans e
   have b:valueAt (q :: qs) k=some q.2:=by simp[valueAt,List.find?_cons,e']
   rw[ygZ e,b];exact h2
  ·have e':¬ q.1=k:=λz=>e (h1.trans z)
   have b:valueAt (q :: qs) k=valueAt qs k:=by simp[valueAt,List.find?_cons,e']
   rw[yhm e,b];exact ih
theorem KV.any {kvs:List (κ×V)}{vs:List (κ×Value)}(r:KV kvs vs)(k:κ):(kvs.any λkv=>decide (kv.1=k))=vs.any λkv=>decide (kv.1=k):=by
 unfold KV at r
 induction r with
 | nil=>rfl
 | cons h t ih=>rw[List.any_cons,List.any_cons,ih,h.1]
theorem KV.drop {kvs:List (κ×V)}{vs:List (κ×Value)}(r:KV kvs vs)(k:κ):KV (yn0 kvs k) (without vs k):=by
 unfold KV at r ⊢
 unfold yn0 without
 induction r with
 | nil=>exact .nil
 | @cons p q ps qs h t ih =>
  obtain⟨h1,h2⟩:=h
  rw[List.filter_cons,List.filter_cons]
  by_cases e:p.1=k
  ·have a:¬ decide (p.1≠k)=true:=by simp[e]
   have b:¬ decide (q.1≠k)=true:=by simp[h1.symm.trans e]
   rw[if_neg a,if_neg b];exact ih
  ·have e':¬ q.1=k:=λz=>e (h1.trans z)
   have a:decide (p.1≠k)=true:=by simp[e]
   have b:decide (q.1≠k)=true:=by simp[e']
   rw[if_pos a,if_pos b];exact .cons ⟨h1,h2⟩ ih
theorem KV.keys {kvs:List (κ×V)}{vs:List (κ×Value)}(r:KV kvs vs):kvs.map (·.1)=vs.map (·.1):=by
 unfold KV at r
 induction r with
 | nil=>rfl
 | cons h t ih=>rw[List.map_cons,List.map_cons,ih,h.1]
theorem KV.length {kvs:List (κ×V)}{vs:List (κ×Value)}(r:KV kvs vs):kvs.length=vs.length:=Paired.length r
end
noncomputable abbrev KT (H:Hp):List (List Key×V)->List (List Key×Addr×Value)->Prop:=Paired λp q=>p.1=q.1/\H q.2.1=some (.tup (p.1.map kV))/\RelV p.2 q.2.2
theorem KT.val {H:Hp}{kvs:List (List Key×V)}{xs:List (List Key×Addr×Value)}(r:KT H kvs xs)(k:List Key):RelO (yiZ kvs k) ((atKey xs k).map (·.2)):=by
 induction r with
 | nil=>exact True.intro
 | @cons p q ps qs h t ih =>
  obtain⟨h1,_,h2⟩:=h
  by_cases e:p.1=k
  ·have e':q.1=k:=h1.symm.trans e
   have b:atKey (q :: qs) k=some q.2:=by simp[atKey,List.find?_cons,e']
   rw[ygZ e,b];exact h2
  ·have e':¬ q.1=k:=λz=>e (h1.trans z)
   have b:atKey (q :: qs) k=atKey qs k:=by simp[atKey,List.find?_cons,e']
   rw[yhm e,b];exact ih
theorem KT.keeps {H H':Hp}{kvs:List (List Key×V)}{xs:List (List Key×Addr×Value)}(r:KT H kvs xs)(ht:∀ b ys,H b=some (.tup ys)->H' b=some (.tup ys)):KT H' kvs xs :=
 Paired.mapP r λ_ _ z=>⟨z.1,ht _ _ z.2.1,z.2.2⟩
section
variable {P:Program} {w:World} {H:Hp} {h:Heap} {a:Addr}
end
noncomputable def DGet (H:Hp)(a:Addr)(y:V)(r:Option V):Prop :=
 (∃ kvs k,Rd H a (.dK kvs)/\y=kV k/\r=yiZ kvs k)∨∃ kvs k b,Rd H a (.dT kvs)/\y=.ref b/\H b=some (.tup (k.map kV))/\r=yiZ kvs k
noncomputable def DPut (H:Hp)(a:Addr)(y v:V)(H':Hp):Prop :=
 (∃ kvs k,H a=some (.dK kvs)/\y=kV k/\kvs.length < sizeLine/\H'=upd H a (.dK (yo9 kvs k v))) ∨
 ∃ kvs k b,H a=some (.dT kvs)/\y=.ref b/\H b=some (.tup (k.map kV))/\kvs.length < sizeLine/\H'=upd H a (.dT (yo9 kvs k v))
theorem DGet.k {H:Hp}{a:Addr}{kvs:List (Key×V)}{k:Key}(e:H a=some (.dK kvs)):DGet H a (kV k) (yiZ kvs k):=.inl ⟨kvs,k,.inl e,rfl,rfl⟩
theorem DGet.t {H:Hp}{a b:Addr}{kvs:List (List Key×V)}{k:List Key}(e:H a=some (.dT kvs))(eb:H b=some (.tup (k.map kV))):DGet H a (.ref b) (yiZ kvs k):=.inr ⟨kvs,k,b,.inl e,rfl,eb,rfl⟩
theorem DPut.k {H:Hp}{a:Addr}{kvs:List (Key×V)}{k:Key}{v:V}(e:H a=some (.dK kvs))(hl:kvs.length < sizeLine):DPut H a (kV k) v (upd H a (.dK (yo9 kvs k v))):=.inl ⟨kvs,k,e,rfl,hl,rfl⟩
theorem DPut.t {H:Hp}{a b:Addr}{kvs:List (List Key×V)}{k:List Key}{v:V}(e:H a=some (.dT kvs))(eb:H b=some (.tup (k.map kV)))(hl:kvs.length < sizeLine) :
  DPut H a (.ref b) v (upd H a (.dT (yo9 kvs k v))):=.inr ⟨kvs,k,b,e,rfl,eb,hl,rfl⟩
section
variable {X:Cx} {pins:List (Addr×Obj)} {σ:St} {H:Hp} {s:Shared} {a:Addr} {y v:V} {u r:Value} {o:Option V} {A:Around} {E:Value->Shared->Prop}
end
section
variable {X:Cx} {pins:List (Addr×Obj)} {σ:St} {H:Hp} {s:Shared} {a:Addr} {kvs:List (Key×V)} {k:Key} {u:Value} {A:Around} {E:Value->Shared->Prop}
end
section
variable {X:Cx} {o i e value:Expr} {pos pos' tpos:Pos} {td ty tv:TE}
end
structure M1 (X:Cx) (o:Expr) (m:Str) (apos:Pos) (e:Expr) (cpos:Pos):Prop where
 base:attributeBase o m X.env (eval o X.env)=eval o X.env
 few:((backTo cpos (starEach [e] X.env)).all (λx=>!x.1)&&(backToKw cpos (keywordEach [] X.env)).all (λx=>x.1.isSome)
  && decide (([e]:List Expr).length+([]:List Keyword).length+(if ([]:List Keyword).isEmpty then 0 else 1) < 30))=true
 line:(apos.endLine==cpos.line)=true
 trees:backTo cpos (starEach [e] X.env)=[(false,eval e X.env)]
structure M2 (X:Cx) (o:Expr) (m:Str) (apos:Pos) (e f:Expr) (cpos:Pos):Prop where
 base:attributeBase o m X.env (eval o X.env)=eval o X.env
 few:((backTo cpos (starEach [e,f] X.env)).all (λx=>!x.1)&&(backToKw cpos (keywordEach [] X.env)).all (λx=>x.1.isSome)
  && decide (([e,f]:List Expr).length+([]:List Keyword).length+(if ([]:List Keyword).isEmpty then 0 else 1) < 30))=true
 line:(apos.endLine==cpos.line)=true
 trees:backTo cpos (starEach [e,f] X.env)=[(false,eval e X.env),(false,eval f X.env)]
section
variable {X:Cx} {pins:List (Addr×Obj)} {σ:St} {H:Hp} {s:Shared} {a:Addr} {y d:V} {u r:Value} {o:Option V} {A:Around} {E:Value->Shared->Prop}
end
section
variable {X:Cx} {o e f:Expr} {apos cpos:Pos} {td ty tx:TE}
end
section
variable {prog:Program} {w:World} {A:Around} {E:Value->Shared->Prop} {s:Shared}
end
set_option maxHeartbeats 200000 in
set_option maxHeartbeats 200000 in
section
variable {X:Cx}
set_option maxHeartbeats 400000 in
end
section
variable {X:Cx} {C:Addr->V->Int->Hp->Prop} {e ke:Expr} {te tk:TE} {p pos kp rp bp:Pos} {jb:Nat}
end
end L2
namespace L2
open PySem PySem.Spec PyProof.Rows PySem.SeqAt
open AutoSeq1 (wpAny_loadPart')
open MeetsSeq MeetsSeq2 MeetsSeq3
end L2
namespace L2
open PySem PySem.Spec PyProof.Rows
section
variable {prog:Program} {w:World} {A:Around} {E:Value->Shared->Prop} {s:Shared}
noncomputable def ynz (A:Around)(s:Shared)(y x:Value)(b:Bool):Prop:=∀ (prog:Program) (w:World) (E:Value->Shared->Prop) (Q:Value->Shared->Prop),Q (.bool b) s->wpAny (model prog w) A (richCompare .Lt y x) Q E s
end
section
variable {X:Cx} {pins l1 l2:List (Addr×Obj)} {σ:St} {H:Hp} {s:Shared} {h':Heap} {a:Addr} {o o':Obj}
end
structure yrY (X:Cx) (σ:St) (A:Around) (f:Value) (vs:List Value) (H:Hp) (KV:Nat->V->Hp->Prop) (lt:Nat->Nat->Bool):Prop where
 call:∀ (i:Nat) (v:Value),vs[i]?=some v->∀ (pins:List (Addr×Obj)) (H1:Hp) (s:Shared),Same H H1->Inv X pins σ H1 s ->
  wpAny (model X.prog X.w) A (PySem.call f [v]) (λr s'=>∃ k H2,Same H1 H2/\Inv X pins σ H2 s'/\RelV k r/\KV i k H2) (λ_ _=>False) s
 same:∀ i k H1 H2,KV i k H1->Same H1 H2->KV i k H2
 cmp:∀ (i j:Nat) (k k':V) (r r':Value) (pins:List (Addr×Obj)) (H1:Hp) (s:Shared),KV i k H1->KV j k' H1->RelV k r->RelV k' r'->Inv X pins σ H1 s->ynz A s r r' (lt i j)
section
variable {X:Cx} {pins:List (Addr×Obj)} {σ:St} {H:Hp} {A:Around} {B J l q:Addr} {vs:List Value} {KV:Nat->V->Hp->Prop} {lt:Nat->Nat->Bool} {R:Result->Shared->Prop}
structure ysg (X:Cx) (pins:List (Addr×Obj)) (σ:St) (H:Hp) (A:Around) (B J l q:Addr) (vs:List Value) (KV:Nat->V->Hp->Prop) (lt:Nat->Nat->Bool):Prop where
 M:yrY X σ A.in1 (.ref q) vs H KV lt
 hh:A.in1.handled=none
 hl:∀ (pins:List (Addr×Obj)) (H1:Hp) (s:Shared),Same H H1->Inv X pins σ H1 s->s.heap.IsList l vs.toArray
 ne:B≠J
 fB:∀ H1,Same H H1->H1 B=none->yft X pins H1 B
 fJ:∀ H1,Same H H1->H1 J=none->yft X pins H1 J
end
section
variable {X:Cx} {pins:List (Addr×Obj)} {σ:St} {H:Hp} {s:Shared} {A:Around} {E:Value->Shared->Prop} {l q:Addr} {vs:List Value} {KV:Nat->V->Hp->Prop} {lt:Nat->Nat->Bool} {Q:Value->Shared->Prop}
end
end L2
namespace L2
open PySem PySem.Spec PyProof.Rows PySem.SeqAt
section
variable {X:Cx} {pins:List (Addr×Obj)} {σ:St} {H:Hp} {s:Shared} {A:Around}
end
end L2
namespace L2
open PySem PySem.Spec PyProof.Rows
section
variable {σ:St} {H:Hp} {Q:VK} {D:ydh} {ta tb tc te:TE} {r:R2} {v x y:V} {i:Nat} {K:PySem.W.Frag}
theorem ymA (e:σ[i]?=some (some v))(q:Q v H):ylq i σ H Q:=⟨v,e,q⟩
theorem i_c (q:Q v H):tC v σ H Q:=q
theorem ypi (q:ta σ H λx H1=>tb σ H1 λy H2=>r x y H2 Q):tOp r ta tb σ H Q:=q
theorem ysb {r:V->Hp->VK->Prop}(q:ta σ H λx H1=>r x H1 Q):tUn r ta σ H Q:=q
theorem ync {g:Int->Int->V}{a b:Int}(q:Q (g a b) H):rI0 g (.int a) (.int b) H Q:=⟨a,b,rfl,rfl,q⟩
theorem i_I {C:Int->Int->Prop}{g:Int->Int->V}{a b:Int}(c:C a b)(q:Q (g a b) H):rI C g (.int a) (.int b) H Q:=⟨a,b,rfl,rfl,c,q⟩
theorem i_U {g:Int->V}{a:Int}(q:Q (g a) H):rU g (.int a) H Q:=⟨a,rfl,q⟩
theorem yot {a b:Int}(q:Q (.bl (decide (a=b))) H):rEq (.int a) (.int b) H Q:=⟨rfl,by rw[show decide (V.int a=V.int b)=decide (a=b) by rw[Bool.eq_iff_iff];simp];exact q⟩
theorem yez {tr:TA}{Q:List V->Hp->Prop}(q:ta σ H λx H1=>tr σ H1 λxs H2=>Q (x :: xs) H2):ygA ta tr σ H Q:=q
theorem yc8 {Q:List V->Hp->Prop}(q:Q [] H):ylX σ H Q:=q
theorem yoI {sp:Sp}{E:XK}{t:TA}(q:t σ H λvs H1=>sp (vs++[]) H1 Q E):yhV sp [] E t σ H Q:=q
theorem ysa {r:List V->Hp->VK->Prop}{t:TA}(q:t σ H λvs H1=>r vs H1 Q):tCB r t σ H Q:=q
theorem ydx {t u:TS}(q:t { D with nx:=u D } σ H):yqn t u D σ H:=q
theorem ycC (q:D.nx σ H):ykD D σ H:=q
theorem yfV {g:TG}(q:te σ H λx H1=>g x σ H1 D.nx):ynd te g D σ H:=q
theorem ybI {N:St->Hp->Prop}(q:N (σ.set i (some v)) H):ybm i v σ H N:=q
theorem yqe (q:te σ H D.rt):ypE te D σ H:=q
theorem yoT (q:te σ H λ_ H1=>D.nx σ H1):ymC te D σ H:=q
theorem yqu {c:TT}{t u:TS}(q:c σ H λb H1=>if b=true then t D σ H1 else u D σ H1):yne c t u D σ H:=q
theorem yrR {c:TT}(q:c σ H λb H1=>if b=true then ta σ H1 Q else tb σ H1 Q):tIf c ta tb σ H Q:=q
theorem yn4 {R:Bool->Hp->Prop}(q:te σ H λx H'=>∃ k,x=.bl k/\R k H'):yk9 te σ H R:=q
theorem yr6 {R:Bool->Hp->Prop}(q:te σ H λx H'=>∃ k,x=.bl k/\R k H'):tB te σ H R:=q
theorem ya2 {b:Bool}{R:Bool->Prop}(q:R b):∃ k,V.bl b=V.bl k/\R k:=⟨b,rfl,q⟩
theorem yq4 {t u:TT}{R:Bool->Hp->Prop}(q:t σ H λc H1=>if c=true then u σ H1 R else R false H1):yrw t u σ H R:=q
theorem yse {t u:TT}{R:Bool->Hp->Prop}(q:t σ H λc H1=>if c=true then R true H1 else u σ H1 R):tOr t u σ H R:=q
theorem ypM {t:TT}{R:Bool->Hp->Prop}(q:t σ H λc H1=>R (!c) H1):yq7 t σ H R:=q
theorem ynA (q:ta σ H λx H1=>∃ c,x=.bl c/\if c=true then tb σ H1 Q else Q (.bl false) H1):ym6 ta tb σ H Q:=q
theorem ynj (q:ta σ H λx H1=>∃ c,x=.bl c/\Q (.bl (!c)) H1):ymM ta σ H Q:=q
theorem ybp {p:Addr}{xs:List V}{k:Int}(s:SqL K H p xs)(a:atI xs k=some v)(q:Q v H):ypj K (.ref p) (.int k) H Q:=⟨p,xs,k,v,rfl,rfl,s,a,q⟩
theorem yaI {p:Addr}{xs:List V}{k:Int}(s:SqT K H p xs)(a:atI xs k=some v)(q:Q v H):yew K (.ref p) (.int k) H Q:=⟨p,xs,k,v,rfl,rfl,s,a,q⟩
theorem yca {R:Bool->Hp->Prop}(q:R true H):yei σ H R:=q
theorem yhZ {p:Addr}{a b:V}{m n:Nat}{N:St->Hp->Prop}(s:SqT K H p [a,b])(q:N ((σ.set m (some a)).set n (some b)) H):ykc K 2 (yb8 (ybm m) (yb8 (ybm n) yke)) (.ref p) σ H N:=⟨p,_,rfl,s,rfl,a,_,rfl,b,_,rfl,rfl,q⟩
theorem i_T {A B:Prop}(q:A):if true=true then A else B:=by rw[if_pos rfl];exact q
theorem i_F {A B:Prop}(q:B):if false=true then A else B:=by rw[if_neg (by simp)];exact q
theorem ykx {t:TA}(q:t σ H λxs H1=>xs.length<=sizeLine/\∀ p,H1 p=none->Q (.ref p) (upd H1 p (.lst xs))):yoj t σ H Q:=q
theorem yrz {t:TA}(q:t σ H λxs H1=>xs.length<=sizeLine/\∀ p,H1 p=none->Q (.ref p) (upd H1 p (.tup xs))):ypc t σ H Q:=q
theorem ybQ {l:Addr}{xs:List V}(h:H l=some (.lst xs))(n:xs.length < sizeLine)(q:Q .non (upd H l (.lst (xs++[y])))):ye9 (.ref l) [y] H Q:=⟨l,xs,y,rfl,rfl,h,n,q⟩
theorem i_d {p:Prop}[Decidable p]{A B:Prop}(h1:p->A)(h2:¬ p->B):if decide p=true then A else B:=by
 by_cases z:p
 ·rw[if_pos (decide_eq_true z)];exact h1 z
 ·rw[if_neg (by rw[decide_eq_false z];simp)];exact h2 z
theorem i_n {b:Bool}{A B:Prop}(h1:b=false->A)(h2:b=true->B):if (!b)=true then A else B:=by
 cases b
 ·exact h1 rfl
 ·exact h2 rfl
theorem i_b {b:Bool}{A B:Prop}(h1:b=true->A)(h2:b=false->B):if b=true then A else B:=by
 cases b
 ·exact h2 rfl
 ·exact h1 rfl
end
end L2
namespace L2
open PySem
section
variable {prog:Program} {w:World} {A:Around} {E:Value->Shared->Prop} {s:Shared}
noncomputable def yq6 (prog:Program)(w:World)(A:Around)(it:Addr)(Q:Value->Shared->Prop)(E:Value->Shared->Prop)(s:Shared):Prop:=wpAny (model prog w) A (Builtin.SmallTypes.nextOf (.ref it)) Q E s
theorem yic {it:Addr}{Q:Value->Shared->Prop}(h:yq6 prog w A it Q E s):wpAny (model prog w) A (Builtin.SmallTypes.nextOf (.ref it)) Q E s:=h
structure yjS (z TO i1 i2:Addr) (f1 f2:List Addr):Prop where
 z1:z∉f1
 z2:z∉f2
 o1:TO∉f1
 o2:TO∉f2
 a2:i1∉f2
 b1:i2∉f1
 oz:TO≠z
 az:i1≠z
 bz:i2≠z
 oa:TO≠i1
 ob:TO≠i2
end
end L2
namespace L2
open PySem
section
variable {prog:Program} {w:World} {A:Around} {E:Value->Shared->Prop} {s:Shared}
end
end L2
namespace L2
open PySem PySem.Spec PyProof.Rows
section
variable {X:Cx}
end
noncomputable def ykW (J:It)(g:TG)(tb:TS)(D:ydh)(σ:St)(H:Hp):Prop:=ykV (λ_ H R=>R J H) g tb D σ H
noncomputable def ylh (J:It)(cap:List (Option Nat))(g:TG)(tc:TT)(te:TE)(σ:St)(H:Hp)(Q:VK):Prop:=yfv (λ_ H R=>R J H) cap g tc te σ H Q
section
variable {K:PySem.W.Frag} {σ:St} {H:Hp} {Q:VK} {ta:TA} {te to ti:TE} {g:TG} {tb:TS} {D:ydh} {cap:List (Option Nat)} {tc:TT}
theorem yqR (q:ta σ H λvs H1=>∃ j:Int,vs=[.int j]/\-(2 ^ 62)<=j/\j < 2 ^ 62/\ykW (Itr 0 j.toNat) g tb D σ H1):ykV (ykk ta) g tb D σ H:=q
theorem yq0 (q:te σ H λx H1=>∃ a,x=.ref a/\(∃ xs,SqL K H1 a xs)/\ykW (Itl K a) g tb D σ H1):ykV (yli K te) g tb D σ H:=q
theorem yqD (q:ta σ H λvs H1=>∃ a,vs=[.ref a]/\(∃ xs,SqL K H1 a xs)/\ykW (Ite K a) g tb D σ H1):ykV (ymW K ta) g tb D σ H:=q
theorem yrh (q:to σ H λx H1=>∃ a,x=.ref a/\(∃ xs,SqL K H1 a xs)/\ylh (Itl K a) cap g tc te σ H1 Q):yfv (yli K to) cap g tc te σ H Q:=q
theorem ypO (q:to σ H λx H1=>∃ a,x=.ref a/\(∃ xs,SqT K H1 a xs)/\ylh (Itt K a) cap g tc te σ H1 Q):yfv (yqi K to) cap g tc te σ H Q:=q
theorem ypX (q:ta σ H λvs H1=>∃ j:Int,vs=[.int j]/\-(2 ^ 62)<=j/\j < 2 ^ 62/\ylh (Itr 0 j.toNat) cap g tc te σ H1 Q):yfv (ykk ta) cap g tc te σ H Q:=q
theorem ynu {i:Nat}(q:te σ H λx H1=>D.nx (σ.set i (some x)) H1):yhr i te D σ H:=q
theorem yrW {T:String}{r:V->List V->Hp->VK->Prop}(q:to σ H λx H1=>tyV K T x H1/\ta σ H1 λxs H2=>r x xs H2 Q):tBM K T r to ta σ H Q:=q
theorem yps {T:String}{r:V->List V->Hp->VK->Prop}(q:to σ H λx H1=>tyV K T x H1/\r x [] H1 Q):yqs K T r to σ H Q:=q
theorem ypZ {t:ypb}{v:V}{N:St->Hp->Prop}(q:to σ H λo H1=>ti σ H1 λi H2=>t o i v H2 λH3=>N σ H3):yqY to ti t v σ H N:=q
theorem ysd {r:V->Option Int->Option Int->Hp->VK->Prop}{tl th:TO}(q:te σ H λx H1=>tl σ H1 λl H2=>th σ H2 λu H3=>r x l u H3 Q):tSl r te tl th σ H Q:=q
theorem yqT {i:Nat}{t:TIp}{x:V}(e:σ[i]?=some (some x))(q:te σ H λy H1=>t x y H1 λz H2=>D.nx (σ.set i (some z)) H2):yrt i te t D σ H:=⟨x,e,q⟩
theorem yrZ {f:Int->Int->Int}{a b:Int}(q:Q (.int (f a b)) H):ipI f (.int a) (.int b) H Q:=⟨a,b,rfl,rfl,q⟩
theorem yoV {C:Addr}{sp:Sp}{E:XK}(q:ta σ H λvs H1=>∀ x dx,H1 x=none->H1 dx=none->dx≠x->sp (.ref x :: (vs++[])) (upd (upd H1 dx (.own x)) x (.ins C dx [])) (λv H2=>v=.non/\Q (.ref x) H2) E):ym0 C sp [] E ta σ H Q:=q
theorem yor {ι:Type}{C:ι->Addr}{m:Str}{sp:ι->Sp}{E:XK}(q:te σ H λx H1=>∃ i a dx fs,x=.ref a/\H1 a=some (.ins (C i) dx fs)/\fs.lookup m=none/\sp i [x] H1 Q E):yi3 C m sp E te σ H Q:=q
theorem yeI {g:Int->Int->V}{a b:Int}(h:(-(2 ^ 62)<=a/\a<=2 ^ 62)∨(-(2 ^ 62)<=b/\b<=2 ^ 62))(q:Q (g a b) H):rI IntMulOk g (.int a) (.int b) H Q:=⟨a,b,rfl,rfl,CMul.ok (h.imp (λz=>⟨by omega,by omega⟩) λz=>⟨by omega,by omega⟩),q⟩
end
section
variable {X:Cx} {CX:CXT} {E:XK} {k i:Nat} {x:Str} {p pos:Pos} {e:Expr} {es:List Expr} {t:TA}
noncomputable def ylV {ι:Type}(i:Nat)(f:ι->Addr)(sp:ι->Sp)(E:XK)(t:TA):TE:=fun σ H Q=>∃ j,σ[i]?=some (some (.ref (f j)))/\t σ H λvs H1=>sp j vs H1 Q E
theorem ylc {ι:Type}{f:ι->Addr}{fd:ι->FuncData}{ps:ι->List Str}{sp:ι->Sp}(F:∀ j,FnOk X.prog X.w X.K X.mg X.base CX k (f j) (fd j) (ps j) (sp j))(hr:Room k X.A)(hN:X.N[i]?=some x)(hk:∀ j,PySem.W.keepIn X.K (.ref (f j))=true)(hb:∀ j,Binds X.K (fd j) (ps j) [])(hx:ycD CX X E)
  (ha:PA X (e :: es) t) (hv:Vis X.env.scope x:=by first | exact Or.inl rfl | exact Or.inr (Or.inl rfl) | exact Or.inr (Or.inr rfl)) (hd:(x==("__debug__" : Str))=false:=by decide) (hcd:(x==("__classdict__" : Str))=false:=by decide)
  (he:starEach (e :: es) X.env=(false,eval e X.env) :: starEach es X.env:=by rfl) (hpl:(backTo pos (starEach es X.env)).any (·.1)=false:=by rfl):PE X (.Call (.Name x p) (e :: es) [] pos) (ylV i f sp E t):=by
 intro pins s σ H Q I h
 obtain⟨j,eσ,h⟩:=h
 refine wpAny_Call_Name_kw (wpAny_mono (yjR hN hv hd hcd pins s σ H (λv H'=>v=.ref (f j)/\H'=H) I ⟨_,eσ,rfl,rfl⟩) (λu s1 q=>?_) λ_ _ z=>z)
 obtain⟨v,H',I1,rv,rfl,rfl⟩:=q
 obtain rfl:u=.ref (f j):=rv
 refine PySem.W.callWith_K (h₀:=X.base) I1.ok.mod.kin (hk j) (thn (ha pos pins s1 σ H' _ I1 h) λus s2 ⟨vs,H2,I2,r,q⟩=>⟨I2.kIn,?_⟩) he hpl
 exact yev (F j) hr (hb j) .nil hx I2 r (by rwa [List.append_nil])
theorem yqW {ta tb:TE}{σ:St}{H:Hp}{Q:VK}(q:ta σ H λx H1=>∃ c,x=.bl c/\if c=true then Q (.bl true) H1 else tb σ H1 Q):yqv ta tb σ H Q:=q
theorem yrX {C:Addr}{m:Str}{sp:Sp}{E:XK}{ta:TE}{t:TA}{σ:St}{H:Hp}{Q:VK}(q:ta σ H λx H1=>∃ a dx fs,x=.ref a/\H1 a=some (.ins C dx fs)/\fs.lookup m=none/\t σ H1 λvs H2=>sp (x :: (vs++[])) H2 Q E):ymd C m sp [] E ta t σ H Q:=q
theorem yr4 {ι:Type}{i:Nat}{f:ι->Addr}{sp:ι->Sp}{E:XK}{t:TA}{σ:St}{H:Hp}{Q:VK}(j:ι)(e:σ[i]?=some (some (.ref (f j))))(q:t σ H λvs H1=>sp j vs H1 Q E):ylV i f sp E t σ H Q:=⟨j,e,q⟩
end
section
variable {X:Cx}
noncomputable def Its (z:Str):It:=⟨λi _=>i < z.cps.size,λi H x H'=>H'=H/\∃ c,z.cps.toList[i]?=some c/\x=.str ⟨#[c]⟩,λi _=>z.cps.size<=i⟩
theorem yk6 {P:Program}{w:World}{K:PySem.W.Frag}{tg:Expr}(z:Str)(t:Tok)(it:Addr):yjZ P w K tg (Its z) [it] it (λi h=>h.IsStrIter it (strIterType z) z t i) where
 mem:=by simp
 obj:=λi h st b hb=>by
  have e:b=it:=by simpa using hb
  subst e
  obtain⟨o,e,c,d⟩:=st
  exact⟨o,e,λv z=>by rw[d] at z;cases z⟩
 keep:=λi h h' st k=>by
  obtain⟨o,e,r⟩:=st
  exact⟨o,k it (by simp) o e,r⟩
 item:=by
  intro X hP hw hK hc i pins s σ H E I hf st hg
  subst hP hw hK
  obtain⟨f0,f1,f2,f3,f4,f5⟩:=hf it (by simp)
  have hi:i < z.cps.size:=hg
  have fin:∀ h',h'.IsStrIter it (strIterType z) z t (i+1)->Heap.SameBut it s.heap h'->∃ u,some (Value.str ⟨#[z.cps[i]]⟩ s.toks)=some u /\
    wpAny (model X.prog X.w) X.A (letOwnedTupleGo tg (.ref it) u) (λ_ s2=>∃ x H',Inv X pins σ H' s2/\RelV x u/\(Its z).yld i H x H'/\s2.heap.IsStrIter it (strIterType z) z t (i+1)/\∀ b∈[it],H' b=none) E { s with heap:=h',toks:=s.toks+1 }:=λh' st' sb=>by
   have I1:Inv X pins σ H { s with heap:=h',toks:=s.toks+1 }:=I.turned (t':=s.toks+1) (λb o hb e=>(sb.2 b hb).trans e) f0 f1 f3 f4 f5
   obtain⟨o,e,c,d⟩:=id st'
   refine⟨_,rfl,ykI (s:={ s with heap:=h',toks:=s.toks+1 }) e c d (by unfold strIterType;split<;>decide) ⟨.str ⟨#[z.cps[i]]⟩,H,I1,⟨_,rfl⟩,⟨rfl,z.cps[i],by simp[hi],rfl⟩,st',λb hb=>(hf b hb).1⟩⟩
  cases ha:z.cps.all (· < 128)
  ·have e:strIterType z="str_iterator":= by simp[strIterType,ha]
   rw[e] at st
   exact wpAny_pyNext_wide_item st (c:=z.cps[i]) (by simp[hi]) λh' a b=>fin h' (by rw[e];exact a) b
  ·have e:strIterType z="str_ascii_iterator":= by simp[strIterType,ha]
   rw[e] at st
   exact wpAny_pyNext_ascii_item st (c:=z.cps[i]) (by simp[hi]) λh' a b=>fin h' (by rw[e];exact a) b
 done:=by
  intro X hP hw hK hc i pins s σ H E I hf st hg
  subst hP hw hK
  obtain⟨f0,f1,f2,f3,f4,f5⟩:=hf it (by simp)
  have hi:z.cps.size<=i:=hg
  cases ha:z.cps.all (· < 128)
  ·have e:strIterType z="str_iterator":= by simp[strIterType,ha]
   rw[e] at st
   exact wpAny_pyNext_wide_end (I.ok.hd hc) st (by simp[hi]) λh' eb=>⟨rfl,I.turned (t':=s.toks) (λb o hb e=>eb b o hb e) f0 f1 f3 f4 f5⟩
  ·have e:strIterType z="str_ascii_iterator":= by simp[strIterType,ha]
   rw[e] at st
   exact wpAny_pyNext_ascii_end (I.ok.hd hc) st (by simp[hi]) λh' eb=>⟨rfl,I.turned (t':=s.toks) (λb o hb e=>eb b o hb e) f0 f1 f3 f4 f5⟩
 self:=λ_ _ _ _ _ st h=>by
  cases ha:z.cps.all (· < 128)
  ·have e:strIterType z="str_iterator":= by simp[strIterType,ha]
   rw[e] at st
   exact wpAny_pyIter_striter_wide st h
  ·have e:strIterType z="str_ascii_iterator":= by simp[strIterType,ha]
   rw[e] at st
   exact wpAny_pyIter_striter_ascii st h
noncomputable def yr1 (tl:TE):TI:=fun σ H R=>tl σ H λx H1=>∃ z,x=.str z/\R (Its z) H1
theorem yoL {tg l:Expr}{tl:TE}(hl:PE X l tl):PI X tg l (yr1 tl):=by
 intro pins s σ H R I h
 refine thn (hl pins s σ H _ I h) λv s1 ⟨x,H1,I1,r1,q1⟩=>?_
 obtain⟨z,e,q⟩:=q1
 subst e
 obtain⟨t,rfl⟩:=r1
 refine wpAny_pyIter_strU ?_
 refine⟨s1.heap.objs.size,[s1.heap.objs.size],_,_,H1,rfl,I1.kept (t':=s1.toks) λb o e=>Heap.get?_push_of_some _ e,yk6 z t _,⟨_,Heap.get?_push_size _ rfl,rfl,rfl⟩,λb hb=>?_,q⟩
 have e:b=s1.heap.objs.size:=by simpa using hb
 subst e
 exact I1.fpOk (Nat.le_refl _) (I1.hok.fresh (Nat.le_refl _))
theorem yln {z:Str}{D:Addr}{g:TG}{tc:TT}{te:TE}{Fin:Hp->Prop}{σ:St}{H:Hp}(Pv:Nat->St->Hp->Prop)(h0:Pv 0 σ H)
  (hs:∀ i c σ H,z.cps.toList[i]?=some c->Pv i σ H->g (.str ⟨#[c]⟩) σ H fun σ2 H2=>tc σ2 H2 λb H3=>if b=true then te σ2 H3 λy H4=>∃ ys,H4 D=some (.lst ys)/\ys.length < sizeLine/\Pv (i+1) σ2 (upd H4 D (.lst (ys++[y]))) else Pv (i+1) σ2 H3)
  (hd:∀ σ H,Pv z.cps.size σ H->Fin H):∃ W:Nat->Nat->St->Hp->Prop,(∃ m,W 0 m σ H)/\ycR (Its z) g tc te D Fin W:=by
 refine⟨λi m σ H=>m=z.cps.size - i/\i<=z.cps.size/\Pv i σ H,⟨z.cps.size,by simp,Nat.zero_le _,h0⟩,?_⟩
 rintro i m σ H ⟨rfl,hi,p⟩
 by_cases hlt:i < z.cps.size
 ·refine .inr ⟨hlt,Pv (i+1),fun σ' H' p'=>⟨z.cps.size - (i+1),by omega,rfl,hlt,p'⟩,λx H' y=>?_⟩
  obtain⟨e,c,hc,e2⟩:=y
  subst e e2
  exact hs i c σ _ hc p
 ·have e:i=z.cps.size:=by omega
  subst e
  exact .inl ⟨Nat.le_refl _,hd σ H p⟩
end
end L2
namespace TX
open PySem PySem.Builtin PySem.Builtin.Str PySem.StrLaws
end TX
namespace TX
open PySem PySem.Builtin PySem.Builtin.Str PySem.StrLaws PySem.NumText
end TX
namespace TX
open PySem PySem.Builtin PySem.Builtin.Str PySem.NumText
structure ysf (m:Nat) (cs:List Nat):Prop where
 all:AllDigits cs
 ne:cs≠[]
 hd:1<=m->cs.head?≠some 48
 val:digitsVal cs=m
end TX
namespace L2
open PySem PySem.Spec PyProof.Rows
section
variable {X:Cx}
end
end L2
namespace L2
open PySem PySem.W PyProof.Rows
section
variable {c:Nat->Nat->Bool} {n:Nat}
structure ynC (c:Nat->Nat->Bool) (n:Nat):Prop where
 irr:∀ i,i < n->c i i=false
 tr:∀ i j k,i < n->j < n->k < n->c i j=true->c j k=true->c i k=true
 tot:∀ i j,i < n->j < n->c i j=false->c j i=false->i=j
noncomputable def G (p:Array Nat)(k:Nat):Nat:=p.getD k 0
structure yrT (n:Nat) (p:Array Nat):Prop where
 size:p.size=n
 perm:p.toList.Perm (List.range n)
noncomputable def Up (c:Nat->Nat->Bool)(p:Array Nat)(k:Nat):Prop:=∀ a b,a<=b->b < k->c (G p b) (G p a)=false
end
end L2
namespace L2
open PySem PySem.Spec PySem.W PyProof.Rows
section
variable {X:Cx} {pins:List (Addr×Obj)} {σ:St} {H:Hp} {s:Shared} {A:Around} {E:Value->Shared->Prop} {a kS:Addr} {vs ks:List Value} {e e1 n:Nat} {f:Value}
structure ysh (X:Cx) (A:Around) (ks:List Value) (c:Nat->Nat->Bool) (n:Nat) (s:Shared):Prop where
 ord:ynC c n
 kind:2<=n->∃ κ,(∀ (Q:SortKind->Shared->Prop) (E:Value->Shared->Prop),Q κ s->wpAny (model X.prog X.w) A (keyKind' ks.toArray) Q E s)/\∀ i j C,i < n->j < n->C (c i j) s->kas_ask X.prog X.w A κ ks i j C s
structure yrV (c:Nat->Nat->Bool) (n:Nat) (p:Array Nat):Prop where
 shuf:yrT n p
 up:Up c p n
end
end L2
namespace L2
open PySem PySem.Spec PySem.W PyProof.Rows
section
variable {X:Cx} {pins:List (Addr×Obj)} {σ:St} {H:Hp} {s:Shared} {A:Around} {E:Value->Shared->Prop} {a kS:Addr} {vs:List Value} {e1 n:Nat} {f:Value}
end
end L2
namespace L2
open PySem PySem.Spec PySem.W PyProof.Rows
section
variable {X:Cx} {pins l:List (Addr×Obj)} {σ:St} {H:Hp} {s:Shared} {A:Around} {E:Value->Shared->Prop}
end
end L2
namespace L2
open PySem PySem.Spec PySem.W PyProof.Rows
section
variable {X:Cx} {pins:List (Addr×Obj)} {σ:St} {H:Hp} {s:Shared} {A:Around} {E:Value->Shared->Prop}
end
end L2
namespace L2
open PySem PySem.Spec PySem.W PyProof.Rows
section
variable {X:Cx}
theorem ydt {M:Model}{A:Around}{E:Value->Shared->Prop}{s:Shared}{env:Env}{pos:Pos}{T:String}{e:Expr}{rest:List Expr}{kws:List Keyword}{Q:Value->Shared->Prop}
  (h:wpAny M A (spliced (backTo pos (starEach (e :: rest) env))) (λvs s₁=>wpAny M A (evalAll ((backToKw pos (keywordEach kws env)).map (·.2))) (λkvs s₂=>wpAny M A (call (.type T) vs (((backToKw pos (keywordEach kws env)).filterMap (·.1)).zip kvs)) Q E s₂) E s₁) E s)
  (he:backTo pos (starEach (e :: rest) env)=(false,eval e env) :: backTo pos (starEach rest env)) (hp:(backTo pos (starEach (e :: rest) env)).any (·.1)=false)
  (ha:(backToKw pos (keywordEach kws env)).all (·.1.isSome)=true) (hk:(backToKw pos (keywordEach kws env)).any (·.1.isNone)=false) :
  wpAny M A (callWith pos (.type T) [] (backTo pos (starEach (e :: rest) env)) (backToKw pos (keywordEach kws env))) Q E s:=by
 rw[he] at h hp ⊢
 unfold callWith
 refine wpAny_bind (wpAny_holding (thn (evalArgs_kwB (f:=.type T) (Q:=λa s₁=>wpAny M A (call (.type T) ([]++a.pos) a.kw) Q E s₁) ha h) λa s₁ h₁=>wpAny_bind (wpAny_standAt ?_)))
 simp only[hp,hk,Bool.or_false]
 exact wpAny_bind (wpAny_pure (wpAny_bind (thn h₁ λr s₂ hr=>wpAny_bind (wpAny_holding (wpAny_point (wpAny_pure hr))))))
noncomputable def ylv (K:PySem.W.Frag)(ta tk:TE):TI:=fun σ H R=>ta σ H λv H1=>∃ a,v=.ref a/\tk σ H1 λz H2=>∃ k:Nat,z=.int (k:Int)/\k < 1000000/\(∃ xs,SqL K H2 a xs)/\R (ItF K a k) H2
theorem ykf {elts:List Expr}{x1}{tp:Pos}{a ke:Expr}{ta tk:TE}{p pos kp:Pos}(hg:Gl X "enumerate")(hm:X.mg "enumerate"=none)(ha:PE X a ta)(hk:PE X ke tk)(hs:starEach [a] X.env=[(false,eval a X.env)]:=by rfl) :
  PI X (.Tuple elts x1 tp) (.Call (.Name "enumerate" p) [a] [⟨some "start",ke,kp⟩] pos) (ylv X.K ta tk):=by
 intro pins s σ H R I h
 refine wpAny_Call_Name_kw (ycG I hg hm boot_enumerate ?_)
 refine ydt ?_ (by rw[hs];rfl) (by rw[hs];rfl) rfl rfl
 rw[hs]
 show wpAny _ _ (spliced [(false,eval a X.env)]) _ _ s
 refine Calls.spliced_cons (thn (ha pins s σ H _ I h) λu s1 ⟨v,H1,I1,r1,l,e,q1⟩=>Calls.spliced_nil ?_)
 subst e
 cases r1
 refine kws_cons (thn (hk _ _ σ H1 _ I1 q1) λfv s2 ⟨z,H2,I2,rf,k,e,kb,⟨xs,hq⟩,q⟩=>kws_nil ?_)
 subst e
 obtain⟨t,rfl⟩:=rf
 obtain⟨its,rv,pl,hz⟩:=I2.list hq
 refine PB.call_start (by unfold Builtin.SmallTypes.fitsIndex;simp;omega) pl.isList λh' he hit hkp=>?_
 refine wpAny_pyIter_enum he ⟨s2.heap.objs.size+1,[s2.heap.objs.size+1,s2.heap.objs.size],_,_,H2,rfl,I2.kept (t':=s2.toks) hkp,ygr l _ _ k (Nat.succ_ne_self _),⟨_,by rw[Nat.zero_add];exact he,hit⟩,λb hb=>?_,q⟩
 rcases List.mem_cons.mp hb with rfl | hb
 ·exact I2.fpOk (Nat.le_succ _) (I2.hok.fresh (Nat.le_succ _))
 ·cases List.mem_singleton.mp hb
  exact I2.fpOk (Nat.le_refl _) (I2.hok.fresh (Nat.le_refl _))
theorem yiv {K:PySem.W.Frag}{a:Addr}{k:Nat}{xs:List V}{g:TG}{tb:TS}{D:ydh}{σ:St}{H:Hp}(Pv:Nat->St->Hp->Prop)(h0:Pv 0 σ H)(hl:∀ i σ H,i<=xs.length->Pv i σ H->SqL K H a xs)
  (hs:∀ i x σ H p (N:St->Hp->Prop),(∀ σ' H',Pv (i+1) σ' H'->N σ' H')->xs[i]?=some x->Pv i σ H->H p=none->g (.ref p) σ (upd H p (.tup [.int ((i+k:Nat):Int),x])) fun σ2 H2=>tb { D with nx:=N,ct:=N,bk:=D.nx } σ2 H2) (hd:∀ σ H,Pv xs.length σ H->D.nx σ H):ykW (ItF K a k) g tb D σ H:=by
 refine⟨λi m σ H=>m=xs.length - i/\i<=xs.length/\Pv i σ H,⟨xs.length,by simp,Nat.zero_le _,h0⟩,?_⟩
 rintro i m σ H ⟨rfl,hi,p⟩
 have q:=hl i σ H hi p
 rcases Nat.lt_or_eq_of_le hi with hlt | rfl
 ·refine .inr ⟨⟨xs,xs[i],q,by simp[hlt]⟩,Pv (i+1),fun σ' H' p'=>⟨xs.length - (i+1),by omega,rfl,hlt,p'⟩,?_⟩
  rintro _ _ ⟨b,v,rfl,e2,rfl,y⟩
  exact hs i v σ H b _ (λ_ _ z=>z) (y xs q) p e2
 ·exact .inl ⟨⟨xs,q,Nat.le_refl _⟩,hd σ H p⟩
theorem ypV {K:PySem.W.Frag}{ta tk:TE}{g:TG}{tb:TS}{D:ydh}{σ:St}{H:Hp}(q:ta σ H λv H1=>∃ a,v=.ref a/\tk σ H1 λz H2=>∃ k:Nat,z=.int (k:Int)/\k < 1000000/\(∃ xs,SqL K H2 a xs)/\ykW (ItF K a k) g tb D σ H2):ykV (ylv K ta tk) g tb D σ H:=q
end
end L2
namespace EX
open PySem
open Sem (wp)
section
variable {prog:Program} {w:World} {A:Around} {E:Value->Shared->Prop} {s:Shared}
end
end EX
namespace EX
open PySem PyProof.Rows
structure yr5 (h h':Heap) (e:Addr):Prop where
 old:∀ b o,h.get? b=some o->h'.get? b=some o
 new:h.get? e=none
 made:∃ o vs,h'.get? e=some o/\o.cls=.type "StopIteration" /\ o.data=.fields vs/\2 < vs.size
section
variable {prog:Program} {w:World} {A:Around} {s:Shared} {it:Addr}
noncomputable def Stops (M:Model)(A:Around)(it:Addr)(s:Shared){α:Type}(m:Sem α):Prop :=
 ∀ (Q:α->Shared->Prop) (E:Value->Shared->Prop),(∀ h e o,Heap.ExtBut it s.heap h->h.get? e=some o->o.cls=.type "StopIteration" -> E (.ref e) { s with heap:=h })->wpAny M A m Q E s
theorem Stops.said {M:Model}{α:Type}{k:Unit->Sem α}{tag:String}(y:Stops M A it s (k ())):Stops M A it s (rule tag >>= k):=λQ E e=>wpAny_bind (wpAny_rule (y Q E e))
end
end EX
namespace EX
open PySem PyProof.Rows
section
variable {prog:Program} {w:World} {A:Around} {E:Value->Shared->Prop} {s:Shared}
end
end EX
namespace EX
open PySem PyProof.Rows
noncomputable def Lft (S Z:List Addr)(h h':Heap):Prop :=
 (∀ b o,h.get? b=some o->b∉S->b∉Z->h'.get? b=some o)/\∀ b o,h.get? b=some o->b∉Z->∃ sl,h'.get? b=some { o with slots:=sl }
noncomputable abbrev wr (n:Nat)(x:Value):Obj->Obj:=Obj.mapFields (·.setIfInBounds n x)
section
variable {S Z:List Addr} {h h':Heap} {a:Addr}
theorem Lft.slots (x:Heap.SlotsOnly S h h'):Lft S Z h h':=⟨λb o g n _=>(x.2.1 b n).trans g,λb o g _=>x.2.2 b o g⟩
theorem Lft.push (x:Lft S Z h h')(o:Obj):Lft S Z h (h'.push o) :=
 ⟨λb v g n m=>Heap.get?_push_of_some _ (x.1 b v g n m),λb v g m=>(x.2 b v g m).imp λ_=>Heap.get?_push_of_some _⟩
theorem Lft.upd (x:Lft S Z h h')(f:Obj->Obj)(y:a∈Z∨h.get? a=none):Lft S Z h (h'.update a f):=by
 have off:∀ b v,h.get? b=some v->b∉Z->a≠b:=λb v g n e=>y.elim (λm=>n (e▸m)) λz=>nomatch (e▸z).symm.trans g
 exact⟨λb v g n m=>(Heap.get?_update_other _ _ (off b v g m)).trans (x.1 b v g n m),λb v g m=>(x.2 b v g m).imp λ_=>(Heap.get?_update_other _ _ (off b v g m)).trans⟩
theorem Lft.first {Y:List Addr}{f:Obj->Obj}(x:Lft S Z (h.update a f) h')(m:∀ b∈Z,b∈Y)(n:a∈Y):Lft S Y h h':=by
 have same:∀ b v,h.get? b=some v->b∉Y->(h.update a f).get? b=some v:=λb v g z=>(Heap.get?_update_other _ _ λ(e:a=b)=>z (e▸n)).trans g
 exact⟨λb v g u z=>x.1 b v (same b v g z) u λq=>z (m b q),λb v g z=>x.2 b v (same b v g z) λq=>z (m b q)⟩
theorem Lft.more {Y:List Addr}(x:Lft S Z h h')(m:∀ b∈Z,b∈Y):Lft S Y h h':=⟨λb v g u z=>x.1 b v g u λq=>z (m b q),λb v g z=>x.2 b v g λq=>z (m b q)⟩
theorem ymY {o:Obj}{vs:Array Value}{n:Nat}{x:Value}(g:h.get? a=some o)(d:o.data=.fields vs):(h.update a (wr n x)).get? a=some (wr n x o)/\(wr n x o).data=.fields (vs.setIfInBounds n x) :=
 ⟨Heap.get?_update_self _ g (Obj.isFreed_of_fields (Obj.data_mapFields d _)),Obj.data_mapFields d _⟩
end
section
variable {M:Model} {A:Around} {E:Value->Shared->Prop} {s:Shared} {base:Heap} {env:Env} {outer:List Env} {L e C:Addr}
theorem yhQ {head:Value}{had:Bool}{k:Value->Sem Unit}{Q:Unit->Shared->Prop}(fr:A.frames=some (env :: outer))(ff:s.heap.FunFrames base (env :: outer))(ef:env.frame=some L)
  (q:∀ h T o ts,Lft ((env :: outer).filterMap (·.frame)) [] s.heap h->s.heap.objs.size<=T->h.get? T=some o->o.data=.fields ts->3 < ts.size->wpAny M A (k (.ref T)) Q E { s with heap:=h }) :
  wpAny M A (frameOf env >>= λa=>entryPlaceOf L had >>= λpl=>EntryCells.newEntry head a .none (rawInt L) .none pl >>= k) Q E s :=
 wpAny_bind (wpAny_frameOf_fun fr ff ef λh so=>wpAny_bind (wpAny_entryPlaceOf λ_ hp=>wpAny_bind (wpAny_newObj_type
  (q _ h.objs.size _ _ ((Lft.slots so).push _) (Nat.le_of_eq so.1.symm) (Heap.get?_push_size _ rfl) rfl (by simp only[List.size_toArray,List.length_append,List.length_cons];omega)) (hp.sizeOk5 _ _ _ _ _))))
theorem yig {T:Addr}{oe oT:Obj}{vs ts:Array Value}{Q:Unit->Shared->Prop}(ge:s.heap.get? e=some oe)(de:oe.data=.fields vs)(z:1 < vs.size)(gT:s.heap.get? T=some oT)(dT:oT.data=.fields ts)(y:3 < ts.size)(ne:T≠e)
  (q:Q () { s with heap:=(s.heap.update e (wr 1 (.ref T))).update T (wr 3 .none) }):wpAny M A (setField (.ref e) 1 (.ref T)) (λ_ s'=>wpAny M A (setFlight (.ref e) none) Q E s') E s :=
 have w:=ymY (n:=1) (x:=.ref T) ge de
 wpAny_setField ge de z (wpAny_bind (wpAny_field w.1 w.2 (x:=.ref T) (by simp[z]) (wpAny_setField ((Heap.get?_update_other _ _ (Ne.symm ne)).trans gT) dT y q)))
end
end EX
namespace L2
open PySem PySem.Spec PyProof.Rows
theorem ObjOk.there {P:Program}{w:World}{H:Hp}{h:Heap}{a:Addr}{o:HO}(x:ObjOk P w H h a o):∃ u,h.get? a=some u:=by
 cases o with
 | lst xs=>obtain⟨_,_,_,_,e⟩:=x;exact⟨_,e⟩
 | tup xs=>obtain⟨_,_,_,_,e,_⟩:=x;exact⟨_,e⟩
 | dK kvs=>obtain⟨_,_,_,_,_,_,_,e,_⟩:=x;exact⟨_,e⟩
 | dT kvs=>obtain⟨_,_,_,_,_,_,_,e,_⟩:=x;exact⟨_,e⟩
 | set S n=>obtain⟨_,_,_,_,e,_⟩:=x;exact⟨_,e⟩
 | ins C dx fs=>obtain⟨_,_,_,e,_⟩:=x;exact⟨_,e⟩
 | own y=>obtain⟨_,e⟩:=x;exact⟨_,e⟩
 | xd fs=>obtain⟨_,⟨_,_,_,e,_⟩,_⟩:=x;exact⟨_,e⟩
 | rng lo hi=>obtain⟨_,_,_,e⟩:=x;exact⟨_,e⟩
 | frz ob u=>obtain⟨e,_⟩:=x;exact⟨_,e⟩
 | tbl ps=>exact⟨_,(show h.get? a=some _ from x)⟩
 | met f y=>exact⟨_,(show h.get? a=some _ from x)⟩
 | ext φ=>obtain⟨_,⟨_,e⟩,_⟩:=x;exact⟨_,e⟩
theorem HOk.none_of {P:Program}{w:World}{H:Hp}{h:Heap}{a:Addr}(x:HOk P w H h)(n:h.get? a=none):H a=none:=by
 cases e:H a with
 | none=>rfl
 | some o =>
  obtain⟨u,g⟩:=(x a o e).there
  rw[n] at g
  cases g
theorem HOk.left {P:Program}{w:World}{H:Hp}{h h':Heap}{S Z:List Addr}(x:HOk P w H h)(lf:EX.Lft S Z h h')(hS:∀ b∈S,H b=none)(hZ:∀ b∈Z,H b=none):HOk P w H h':=λa o e=>by
 have no:∀ b,(b=a∨H b=some (.own a))->H b≠none:=λb hb z=>by
  rcases hb with rfl | hb
  ·rw[z] at e;cases e
  ·rw[z] at hb;cases hb
 exact(x a o e).stay (λb u hb g=>lf.1 b u g (λz=>no b hb (hS b z)) λz=>no b hb (hZ b z)) (λ_ q=>q) λ_ _ q=>q
theorem Un.left {fs S Z:List Addr}{H H1:Hp}{h h1 h2 h3:Heap}(u:Un fs [] H H1 h h1)(k:∀ b o,h1.get? b=some o->h2.get? b=some o)(lf:EX.Lft S Z h2 h3)
  (hS:∀ b o,h.get? b=some o->b∈S->b∈fs) (hZ:∀ b o,h.get? b=some o->b∉Z):Un fs [] H H1 h h3 where
 keep:=λb o g n nf nx=>lf.1 b o (k b o (u.keep b o g n nf nx)) (λz=>nf (hS b o g z)) (hZ b o g)
 slot:=λb o g n hf nx=>by
  obtain⟨sl,g1⟩:=u.slot b o g n hf nx
  obtain⟨sl2,g2⟩:=lf.2 b _ (k _ _ g1) (hZ b o g)
  exact⟨sl2,g2⟩
 free:=u.free
 there:=λb o g nx=>by
  obtain⟨o',g1⟩:=u.there b o g nx
  obtain⟨sl,g2⟩:=lf.2 b o' (k _ _ g1) (hZ b o g)
  exact⟨_,g2⟩
 tups:=u.tups
 frzs:=u.frzs
 tbls:=u.tbls
section
variable {P:Program} {w:World} {K:PySem.W.Frag} {mg:Str->Option Value} {base:Heap} {N:List Str} {qual:Str} {scope:Scope} {f:Addr} {cd:Value} {A:Around} {outer:List Env} {s s1:Shared} {H H1:Hp} {E:XK} {pins:List (Addr×Obj)} {σ:St} {h':Heap} {e C:Addr} {us:List Value}
end
theorem yl9 {K:PySem.W.Frag}{h:Heap}{C:Addr}{bmB:List Value}{newId:String}(X:K.In h)(q:PySem.W.excIn K C bmB newId=true) :
  ∃ bm n nm qn bs hdct sn sub ab col dd k0 k1 k2 k3 k5 mN,h.get? C=some (excClassObj nm qn C n bs bm hdct sn sub ab col dd k0 k1 k2 k3 k5 newId)/\h.Ns n mN/\mN "__init__"=none/\OwnTail h bmB bm:=by
 unfold PySem.W.excIn at q
 split at q
 ·rename_i dd cd sl g
  split at q
  ·rename_i C2 bm k0 k1 k2 k3 n k5 hm hs
   simp only[Bool.and_eq_true,beq_iff_eq,Bool.not_eq_true'] at q
   obtain⟨⟨⟨⟨⟨rfl,rfl⟩,q1⟩,q2⟩,q3⟩,q4⟩:=q
   obtain⟨nm,bs,mro,ns,qn,hd,sn,sub,ab,col,del⟩:=cd
   dsimp only at hm q1 q3 q4
   subst hm q1
   obtain⟨l⟩:=sl
   simp only at hs
   subst hs
   exact⟨bm,ns,nm,qn,bs,hd,sn,sub,ab,col,dd,k0,k1,k2,k3,k5,_,X _ _ g,.of_isNs (PySem.W.isNs_of_in X q3),PySem.W.nsMap_none_of_in X q3 q4,PySem.W.tail_of_in X q2⟩
  ·cases q
 ·cases q
end L2
namespace EX
open PySem PySem.Spec PySem.Calls PyProof.Rows PySem.W
section
variable {prog:Program} {w:World} {A:Around} {E:Value->Shared->Prop} {K:Frag} {x D:Addr} {ox:Obj} {hh:Heap} {g:Array GenState} {d:Drawn} {t:Nat} {os:OsState}
end
theorem yoO {K:Frag}{D:Addr}{cd:ClassData}(c:clsIn K D=some cd):∃ o,K.lookup D=some o/\o.data=.cls cd:=by
 simp only[clsIn] at c
 split at c
 case h_1 g=>exact⟨_,g,congrArg Data.cls (Option.some.inj c)⟩
 case h_2=>exact nomatch c
end EX
namespace EX
open PySem PySem.Spec PyProof.Rows PySem.W
structure ExcW (K:Frag) (C:Addr):Prop where
 sa:findIn K (.ref C) "__setattr__"=some (some (.builtin "object.__setattr__"))
 ps:∃ cd,clsIn K C=some cd/\cd.hasDict=true/\∀ self,refuseLoop self "__setattr__" cd.mro=pure ()
 mo:mroIn K C (.type "object")=some true
section
variable {prog:Program} {w:World} {A:Around} {E:Value->Shared->Prop} {K:Frag} {C x:Addr} {s:Shared} {ox:Obj} {od:Option Obj} {name:Str} {v:Value}
theorem yiN {R:Result->Shared->Prop}{tk:Tok}(X:K.In s.heap)(J:InstAt s.heap x ox C od)(c:ExcW K C)(ht:takerIn K C name=some none)
  (q:∀ b,wpAny (model prog w) A.in1 (Builtin.ObjectAttr.storeInOwnDict (.ref x) (.ref C) (.str name tk) name v b) (λfin s'=>match fin with | .done f=>R (.ok f) s' | .again c'=>Code.quiet c'=true/\codeAny (model prog w) A c' R s') (λe s'=>R (.error e) s') s) :
  codeAny (model prog w) A (.call (.builtin "object.__setattr__") ⟨[.ref x,.str name tk,v],[]⟩) R s:=by
 obtain⟨cd,hcd,hh,hp⟩:=c.ps
 have l0:=J.type (M:=model prog w)
 have l1:=looks_mroIn (M:=model prog w) X c.mo
 have l2:=looks_clsIn (M:=model prog w) X hcd
 have li:Looks (model prog w) s.heap (isInstance (.ref x) (.type "object")) true:=by
  unfold isInstance
  exact l0.andThen (f:=λt=>isSubtype t (.type "object")) l1
 have hk:=F.store_object.kind
 have hs:=F.store_object.split
 have ha:=F.store_object.args (.ref x) (.str name tk) v
 have hp1:=F.store_object.slot.plain
 have he:=F.store_object.entry
 refine codeAny_call_builtin (id := "object.__setattr__") (b:=Builtin.«object.__setattr__») hp1 he ?_
 refine check_slot (i := "object.__setattr__") (owner := "object") (n := "__setattr__") (self:=.ref x) (rest:=[.str name tk,v]) (kw:=[]) hk hs li ha ?_
 rw[osa_eq,refuse_eq]
 refine wpAny_bind (wpAny_bind (l0.here (wpAny_bind (Looks.here (r:=cd.mro) (l2.andThen Looks.now) ?_))))
 rw[hp]
 refine wpAny_pure (wpAny_bind (l0.here ?_))
 unfold takerIn at ht
 cases hf:findIn K (.ref C) name with
 | none=>rw[hf] at ht;cases ht
 | some r =>
  rw[hf] at ht
  refine wpAny_bind ((looks_findIn X hf).here (wpAny_bind ?_))
  cases r with
  | none=>exact wpAny_pure (q _)
  | some a =>
   simp only[Option.bind_some,Option.map_eq_some_iff] at ht
   obtain⟨b,hb,eb⟩:=ht
   cases b with
   | true=>cases eb
   | false=>exact wpAny_bind ((looks_takesIn X hb).here (wpAny_pure (q _)))
end
end EX
namespace EX
open PySem PySem.Spec PyProof.Rows PySem.W
section
variable {prog:Program} {w:World} {A:Around} {E:Value->Shared->Prop} {K:Frag} {C x:Addr} {s:Shared} {ox:Obj} {od:Option Obj} {name:Str} {v:Value}
theorem exc_set1 {us:Array Value}{Q:Unit->Shared->Prop}(X:K.In s.heap)(J:InstAt s.heap x ox C none)(hf:ox.data=.fields us)(c:ExcW K C)(ht:takerIn K C name=some none)
  (q:∀ h' dx,s.heap.get? dx=none->h'.get? x=some { ox with dict:=some dx }->h'.Ns1 dx (λy=>if y=name then some v else none)->dx≠x->(∀ b o,b≠x->s.heap.get? b=some o->h'.get? b=some o)->Q () { s with heap:=h',toks:=s.toks+2 }) :
  wpAny (model prog w) A (setAttr (.ref x) name v) Q E s:=by
 obtain⟨cd,hcd,hh,hp⟩:=id c.ps
 refine set_plain X J c.sa (yiN (s:={ s with toks:=s.toks+1 }) X J c ht λb=>?_)
 have hd:ox.dict=none:=by
  have:=J.dict
  cases h:ox.dict with
  | none=>rfl
  | some d=>rw[h] at this;exact this.elim
 have hx:s.heap.get? x=some ox:=J.at_
 obtain⟨h,g,d,t,os⟩:=s
 have ne:h.objs.size≠x:=λz=>absurd (Heap.lt_size hx) (by rw[← z];exact Nat.lt_irrefl _)
 refine wpAny_bind (wpAny_pure (wpAny_bind (wpAny_bind (wpAny_loadPart_at hx ?_))))
 rw[J.cls]
 refine wpAny_bind (Looks.here (s:=⟨h,g,d,t+1,os⟩) (looks_clsIn (M:=model prog w) X hcd) ?_)
 rw[hh]
 dsimp only[Bool.not_true,Bool.false_eq_true,if_false,typeHasDict,Bool.or_self]
 rw[hd,hf]
 refine wpAny_bind (wpAny_alloc' (wpAny_bind ?_))
 have hx1:(h.push { cls:=.type "dict",data:=.dict #[] }).get? x=some ox:=Heap.get?_push_of_some _ hx
 refine wpAny_update' hx1 (wpAny_pure ?_)
 have e1:(h.push { cls:=.type "dict",data:=.dict #[] }).get? h.objs.size=some { cls:=.type "dict",data:=.dict #[] }:=Heap.get?_push_at rfl rfl
 have e2:=(Heap.get?_update_other (h.push { cls:=.type "dict",data:=.dict #[] }) (λo=>{ cls:=o.cls,dict:=some h.objs.size,data:=o.data,slots:=o.slots }) ne.symm).trans e1
 have e3:=Heap.get?_update_self (λo:Obj=>{ cls:=o.cls,dict:=some h.objs.size,data:=o.data,slots:=o.slots }) hx1 (Obj.isFreed_of_fields (vs:=us) hf)
 refine wpAny_bind (wpAny_pure (wpAny_bind ?_))
 have n0:((h.push { cls:=.type "dict",data:=.dict #[] }).update x λo=>{ cls:=o.cls,dict:=some h.objs.size,data:=o.data,slots:=o.slots }).Ns h.objs.size (λ_=>none):=⟨_,#[],_,e2,rfl,(λe he=>absurd he (by simp)),λ_=>rfl⟩
 refine wpAny_nsSet1 (Heap.Ns1.of_empty n0) λh' hn hs=>?_
 obtain⟨oD,esD,epD,hoD,hdD,hcD⟩:=hn.count (ns:=[name]) (PySem.Within.cons name v PySem.Within.nil)
 refine wpAny_bind (wpAny_lookBehind hoD (by rw[hdD];exact pastItsLine_dict (Nat.le_trans hcD (by simp[sizeLine_eq]))) ?_)
 refine wpAny_pure (q h' h.objs.size (Heap.get?_none_of_le (Nat.le_refl _)) ((hs.2 _ ne.symm).trans e3) hn ne λb o nb g=>?_)
 have g1:(h.push { cls:=.type "dict",data:=.dict #[] }).get? b=some o:=Heap.get?_push_of_some _ g
 exact(hs.2 _ λz=>absurd (Heap.lt_size g) (by rw[z];exact Nat.lt_irrefl _)).trans ((Heap.get?_update_other _ _ (Ne.symm nb)).trans g1)
theorem exc_set2 {us:Array Value}{dx:Addr}{mA:Str->Option Value}{ns:List Str}{Q:Unit->Shared->Prop}(X:K.In s.heap)(hx:s.heap.get? x=some ox)(hc:ox.cls=.ref C)(hd:ox.dict=some dx)(hf:ox.data=.fields us)(hn:s.heap.Ns1 dx mA)(c:ExcW K C)(ht:takerIn K C name=some none)
  (hw:PySem.Within mA ns) (hsz:ns.length<=1000) (q:∀ h',h'.Ns1 dx (λy=>if y=name then some v else mA y)->Heap.SameBut dx s.heap h'->Q () { s with heap:=h',toks:=s.toks+2 }) :
  wpAny (model prog w) A (setAttr (.ref x) name v) Q E s:=by
 obtain⟨cd,hcd,hh,hp⟩:=id c.ps
 obtain⟨od,es,ep,eo,_⟩:=id hn
 have J:InstAt s.heap x ox C (some od):=⟨hx,hc,by unfold notCls;rw[hf],by rw[hd];exact eo⟩
 refine set_plain X J c.sa (yiN (s:={ s with toks:=s.toks+1 }) X J c ht λb=>?_)
 obtain⟨h,g,d,t,os⟩:=s
 refine wpAny_bind (wpAny_pure (wpAny_bind (wpAny_bind (wpAny_loadPart_at hx ?_))))
 rw[hc]
 refine wpAny_bind (Looks.here (s:=⟨h,g,d,t+1,os⟩) (looks_clsIn (M:=model prog w) X hcd) ?_)
 rw[hh]
 dsimp only[Bool.not_true,Bool.false_eq_true,if_false]
 rw[hd]
 refine wpAny_pure (wpAny_bind (wpAny_pure (wpAny_bind ?_)))
 refine wpAny_nsSet1 hn λh' hn' hs=>?_
 obtain⟨oD,esD,epD,hoD,hdD,hcD⟩:=hn'.count (PySem.Within.cons name v hw)
 refine wpAny_bind (wpAny_lookBehind hoD (by rw[hdD];exact pastItsLine_dict (Nat.le_trans hcD (by rw[List.length_cons,sizeLine_eq];omega))) ?_)
 exact wpAny_pure (q h' hn' hs)
end
end EX
namespace EX
open PySem PySem.Spec PySem.Calls PyProof.Rows PySem.W
section
variable {prog:Program} {w:World} {A:Around} {E:Value->Shared->Prop} {K:Frag} {x D:Addr} {ox:Obj} {od:Option Obj} {hh:Heap} {g:Array GenState} {d:Drawn} {t:Nat} {os:OsState}
theorem yhX {tk:Tok}{Q:Fin->Shared->Prop}(X:K.In hh)(I:W.InstAt hh x ox D od)(hf:findObj K D od "__class__"=some (.bind (.builtin "getset_descriptor.__get__") (.builtin "object.__class__")))(hm:mroIn K D (.type "object")=some true)
  (q:Q (.done (.ret (.ref D))) ⟨hh,g,d,t,os⟩):wpAny (model prog w) A (Builtin.«object.__getattribute__» ⟨[.ref x,.str "__class__" tk],[]⟩) Q E ⟨hh,g,d,t,os⟩:=by
 have l0:=I.type (M:=model prog w)
 have l1:=looks_find (M:=model prog w) X I hf
 refine wpAny_bind (wpAny_pure (wpAny_bind (wpAny_pure (wpAny_bind (l0.at (wpAny_bind (l1.at ?_)))))))
 show wpAny _ _ (Builtin.ObjectAttr.bindTo _ _ _ _) _ _ _
 repeat (any_goals (first | assumption | wp_step))
 refine class_get (s:=⟨hh,g,d,t,os⟩) (ox:=ox) (od:=od) X I hm ?_
 repeat (any_goals (first | assumption | wp_step))
theorem yeE {nv:Value}{Q:Unit->Shared->Prop}(X:K.In hh)(I:W.InstAt hh x ox D od)(hb:mroIn K D (.type "BaseException")=some true)(q:Q () ⟨hh,g,d,t,os⟩) :
  wpAny (model prog w) A (checkBuiltinCall "BaseException.__getattribute__" ⟨[.ref x,nv],[]⟩) Q E ⟨hh,g,d,t,os⟩:=by
 have hk:builtinKind "BaseException.__getattribute__"=some .slot:=by decide +kernel
 have hs:splitId "BaseException.__getattribute__"=some ("BaseException","__getattribute__"):=by decide +kernel
 have ha:=F.args_bexc_ga (.ref x) nv
 have l0:=I.type (M:=model prog w)
 have l1:=looks_mroIn (M:=model prog w) X hb
 simp only[checkBuiltinCall,hk,hs]
 refine wpAny_bind ?_
 unfold isInstance
 repeat lk
 exact q
theorem yjB {Q:Option Value->Shared->Prop}{s:Shared}(X:K.In s.heap)(I:W.InstAt s.heap x ox D od)(hga:findIn K (.ref D) "__getattribute__"=some (some (.builtin "BaseException.__getattribute__")))(hgn:findIn K (.ref D) "__getattr__"=some none)
  (hf:findObj K D od "__class__"=some (.bind (.builtin "getset_descriptor.__get__") (.builtin "object.__class__"))) (hm:mroIn K D (.type "object")=some true) (hb:mroIn K D (.type "BaseException")=some true)
  (FB:ExcAttrFacts "ValueError") (q:Q (some (.ref D)) { s with toks:=s.toks+1 }):wpAny (model prog w) A (getAttr? (.ref x) "__class__") Q E s:=by
 obtain⟨hh,g,d,t,os⟩:=s
 have l0:=I.type (M:=model prog w)
 have l1:=looks_findIn (M:=model prog w) X hga
 have l2:=looks_findIn (M:=model prog w) X hgn
 have f3:=FB.ga.bind (.ref x)
 unfold getAttr? getAttrBy? getAttrBy
 refine wpAny_bind (wpAny_mkText (wpAny_bind (wpAny_attempt (wpAny_holding (wpAny_bind (l0.at (wpAny_bind (l1.at ?_))))))))
 show wpAny _ _ (getAttrByItsOwn _ _ _ _ _ _) _ _ _
 unfold getAttrByItsOwn
 repeat (any_goals (first | assumption | with_reducible refine l2.at ?_ | wp_step))
 refine codeAny_call_builtin FB.ga.plain F.entry_bexc_ga (yeE X I hb (yhX X I hf hm ?_))
 repeat (any_goals (first | assumption | wp_step))
end
theorem kitx_excO {K:Frag}{x D:Addr}{ox:Obj}{od:Option Obj}{cd:ClassData}(c:clsIn K D=some cd)(hga:findIn K (.ref D) "__getattribute__"=some (some (.builtin "BaseException.__getattribute__")))(hgn:findIn K (.ref D) "__getattr__"=some none)
  (hf:findObj K D od "__class__"=some (.bind (.builtin "getset_descriptor.__get__") (.builtin "object.__class__"))) (hm:mroIn K D (.type "object")=some true) (hb:mroIn K D (.type "BaseException")=some true) (FB:ExcAttrFacts "ValueError") :
  KitX K (.ref x) (.ref D) (λh=>W.InstAt h x ox D od):=by
 obtain⟨o,g,d⟩:=yoO c
 exact {
  ty:=λ_ _ _ I=>I.type
  it:=λ_ _ X _ _ _ _ _ k q=>wpAny_bind (wpAny_loadPart (k _ _ (X _ _ g)) (by rw[d];exact wpAny_pure q))
  ne:=λh tp dd its n sl X gt=>by
   rw[beq_eq_false_iff_ne]
   intro z
   have y:=Option.some.inj ((X _ _ g).symm.trans (Value.ref.inj z▸gt))
   exact nomatch d.symm.trans (congrArg Obj.data y)
  ca:=λX I q=>yjB X I hga hgn hf hm hb FB q }
section
variable {prog:Program} {w:World} {A:Around} {E:Value->Shared->Prop} {K:Frag} {x D:Addr} {ox:Obj} {od:Option Obj} {hh:Heap} {g:Array GenState} {d:Drawn} {t:Nat} {os:OsState}
theorem ymO {tk:Tok}{name:Str}{v:Value}{Q:Fin->Shared->Prop}(X:K.In hh)(I:W.InstAt hh x ox D od)(hf:findObj K D od name=some (.value v))
  (q:Q (.done (.ret v)) ⟨hh,g,d,t,os⟩):wpAny (model prog w) A (Builtin.«object.__getattribute__» ⟨[.ref x,.str name tk],[]⟩) Q E ⟨hh,g,d,t,os⟩:=by
 have l0:=I.type (M:=model prog w)
 have l1:=looks_find (M:=model prog w) X I hf
 refine wpAny_bind (wpAny_pure (wpAny_bind (wpAny_pure (wpAny_bind (l0.at (wpAny_bind (l1.at ?_)))))))
 exact wpAny_pure q
theorem exc_get {name:Str}{v:Value}{b:Bool}{Q:Value->Shared->Prop}{s:Shared}(X:K.In s.heap)(I:W.InstAt s.heap x ox D od)(hga:findIn K (.ref D) "__getattribute__"=some (some (.builtin "BaseException.__getattribute__")))(hgn:findIn K (.ref D) "__getattr__"=some none)
  (hf:findObj K D od name=some (.value v)) (hb:mroIn K D (.type "BaseException")=some true) (hv:handedIn v=true)
  (FB:ExcAttrFacts "ValueError") (q:Q v { s with toks:=s.toks+1 }):wpAny (model prog w) A (getAttr (.ref x) name b) Q E s:=by
 obtain⟨hh,g,d,t,os⟩:=s
 have l0:=I.type (M:=model prog w)
 have l1:=looks_findIn (M:=model prog w) X hga
 have l2:=looks_findIn (M:=model prog w) X hgn
 have f3:=FB.ga.bind (.ref x)
 unfold getAttr getAttrBy
 refine wpAny_bind (wpAny_mkText (wpAny_holding (wpAny_bind (l0.at (wpAny_bind (l1.at ?_))))))
 show wpAny _ _ (getAttrByItsOwn _ _ _ _ _ _) _ _ _
 unfold getAttrByItsOwn
 repeat (any_goals (first | assumption | with_reducible refine l2.at ?_ | wp_step))
 rw[show(b&&onTheHeap (Value.builtin "BaseException.__getattribute__"))=false by cases b<;>rfl]
 refine wpAny_ite_false rfl ?_
 unfold boundAndCalled
 repeat (any_goals (first | assumption | wp_step))
 refine codeAny_call_builtin FB.ga.plain F.entry_bexc_ga (yeE X I hb (ymO X I hf ?_))
 show wpAny (model prog w) A (handedOut v) Q E _
 rw[handedOut_of hv]
 exact wpAny_pure q
end
end EX
namespace L2
open PySem PySem.Spec PyProof.Rows
noncomputable def yqC:V->Option Value
 | .ref a=>some (.ref a)
 | .ty n=>some (.type n)
 | _=>none
structure ExcK (K:PySem.W.Frag) (D:Addr):Prop where
 cls:∃ cd,PySem.W.clsIn K D=some cd/\cd.hasDict=true/\∀ self,refuseLoop self "__setattr__" cd.mro=pure ()
 ga:PySem.W.findIn K (.ref D) "__getattribute__"=some (some (.builtin "BaseException.__getattribute__"))
 gn:PySem.W.findIn K (.ref D) "__getattr__"=some none
 sa:PySem.W.findIn K (.ref D) "__setattr__"=some (some (.builtin "object.__setattr__"))
 fc:PySem.W.findIn K (.ref D) "__class__"=some (some (.builtin "object.__class__"))
 fg:PySem.W.specialIn K (.builtin "object.__class__") "__get__"=some (some (.builtin "getset_descriptor.__get__"))
 ft:PySem.W.takesIn K (.builtin "object.__class__")=some true
 mo:PySem.W.mroIn K D (.type "object")=some true
 mb:PySem.W.mroIn K D (.type "BaseException")=some true
theorem ExcK.fo {K:PySem.W.Frag}{D:Addr}(e:ExcK K D)(od:Option Obj):PySem.W.findObj K D od "__class__"=some (.bind (.builtin "getset_descriptor.__get__") (.builtin "object.__class__")):=by
 obtain⟨cd,h0,_⟩:=e.cls
 unfold PySem.W.findObj
 rw[h0,Option.bind_some,e.fc,Option.bind_some]
 simp[e.fg,e.ft]
theorem ExcK.w {K:PySem.W.Frag}{D:Addr}(e:ExcK K D):EX.ExcW K D:=⟨e.sa,e.cls,e.mo⟩
noncomputable abbrev xdO (dx:Addr)(fs:List (Str×V)):HO:=.ext λh=>∃ mA,h.Ns1 dx mA/\∀ f,RelO (fs.lookup f) (mA f)
theorem ylo {P:Program}{w:World}{H:Hp}{h:Heap}{dx:Addr}{fs:List (Str×V)}{mA:Str->Option Value}(n:h.Ns1 dx mA)(r:∀ f,RelO (fs.lookup f) (mA f)):ObjOk P w H h dx (xdO dx fs):=by
 refine⟨⟨mA,n,r⟩,?_,λh1 h2 ⟨m,n1,r1⟩ k=>?_⟩
 ·obtain⟨o,_,_,g,_⟩:=n
  exact⟨o,g⟩
 ·obtain⟨o,es,ep,g,c⟩:=n1
  exact⟨m,⟨o,es,ep,k o g,c⟩,r1⟩
noncomputable def ExcAt (H:Hp)(x:V)(C:Addr)(fs:List (Str×V)):Prop:=∃ a o us,x=.ref a/\o.cls=.ref C/\o.data=.fields us/\H a=some (.ext λh=>h.get? a=some o)/\(o.dict=none/\fs=[]∨∃ dx,o.dict=some dx/\H dx=some (xdO dx fs))
theorem ExcAt.inst {P:Program}{w:World}{H:Hp}{h:Heap}{x:V}{C:Addr}{fs:List (Str×V)}(e:ExcAt H x C fs)(k:HOk P w H h):∃ a o od,x=.ref a/\PySem.W.InstAt h a o C od/\∀ f v,fs.lookup f=some v->∃ d u,od=some d/\PySem.W.lookIn f d=some (some u)/\RelV v u:=by
 obtain⟨a,o,us,rfl,hc,hf,ea,hd⟩:=e
 have g:h.get? a=some o:=(show ObjOk P w H h a _ from k a _ ea).1
 have nc:PySem.W.notCls o=true:=by unfold PySem.W.notCls;rw[hf]
 rcases hd with ⟨hd,rfl⟩ | ⟨dx,hd,ex⟩
 ·exact⟨a,o,none,rfl,⟨g,hc,nc,by rw[hd];trivial⟩,λf v z=>by cases z⟩
 ·obtain⟨mA,n,r⟩:=(show ObjOk P w H h dx (xdO dx fs) from k dx _ ex).1
  obtain⟨od,ho,hl⟩:=ygl n
  refine⟨a,o,some od,rfl,⟨g,hc,nc,by rw[hd];exact ho⟩,λf v z=>?_⟩
  obtain⟨u,hu,ru⟩:=RelO.some_of (v:=v) (o:=mA f) (by rw[← z];exact r f)
  exact⟨od,u,rfl,by rw[hl,hu],ru⟩
noncomputable def yrB (K:PySem.W.Frag):List V->Hp->VK->Prop:=λxs H Q=>∃ x C fs c v b,xs=[x,c]/\ExcAt H x C fs/\ExcK K C/\yqC c=some v/\PySem.W.kitOne K (.ref C) v=some b/\Q (.bl b) H
theorem yby {X:Cx}:yb5 X (.builtin "isinstance") (yrB X.K):=by
 intro pins s σ H xs us Q I r h
 obtain⟨x,C,fs,c,v,b,rfl,hx,ek,cv,kb,q⟩:=h
 obtain⟨a,o,od,rfl,J,_⟩:=hx.inst I.hok
 obtain⟨u,w',rfl,ru,rv⟩:=ygS r
 cases ru
 obtain⟨cd,hcd,_⟩:=ek.cls
 have ev:w'=v:=by
  cases c<;>simp[yqC] at cv
  ·subst cv;exact rv
  ·subst cv;exact rv
 subst ev
 exact PySem.W.kia_one (EX.kitx_excO hcd ek.ga ek.gn (ek.fo od) ek.mo ek.mb F.excAttr_ValueError) I.kIn J kb (λz=>nomatch z) λtk=>⟨.bl b,H,I.tok _,rfl,q⟩
noncomputable def ynB (K:PySem.W.Frag)(ta:TE)(f:Str):TE:=fun σ H Q=>ta σ H λx H1=>∃ C fs v,ExcAt H1 x C fs/\ExcK K C/\NoAttr K C f/\fs.lookup f=some v/\Q v H1
theorem yco {X:Cx}{e:Expr}{f:Str}{pos:Pos}{ta:TE}(he:PE X e ta)(hb:attributeBase e f X.env (eval e X.env)=eval e X.env):PE X (.Attribute e f pos) (ynB X.K ta f):=by
 intro pins s σ H Q I h
 refine yjC hb (thn (he pins s σ H _ I h) λu s1 ⟨x,H1,I1,rx,C,fs,v,hx,ek,n,l,q⟩=>?_)
 obtain⟨a,o,od,rfl,J,hl⟩:=hx.inst I1.hok
 obtain rfl:u=Value.ref a:=rx
 obtain⟨d,u',rfl,lk,ru⟩:=hl f v l
 obtain⟨cd,hcd,hh,_⟩:=ek.cls
 have hd:PySem.W.hasDictIn X.K C=true:=by unfold PySem.W.hasDictIn;rw[hcd];exact hh
 exact EX.exc_get I1.kIn J ek.ga ek.gn (PySem.W.findObj_own hd n rfl lk) ek.mb (yf0 ru) F.excAttr_ValueError ⟨v,H1,I1.tok _,ru,q⟩
end L2
namespace EX
open PySem PySem.Spec PySem.Calls PyProof.Rows PySem.W
noncomputable def exHeap (h:Heap)(C:Addr)(rest:List Value):Heap:=(h.push { cls:=.type "tuple",data:=.seq rest.toArray }).push { cls:=.ref C,data:=.fields #[.ref h.objs.size,.none,.none,.none,.bool false,.none] }
noncomputable def exObj (h:Heap)(C:Addr):Obj:={ cls:=.ref C,data:=.fields #[.ref h.objs.size,.none,.none,.none,.bool false,.none] }
theorem exHeap_keeps {h:Heap}{C:Addr}{rest:List Value}{b:Addr}{o:Obj}(g:h.get? b=some o):(exHeap h C rest).get? b=some o:=Heap.get?_push_of_some _ (Heap.get?_push_of_some _ g)
theorem exHeap_at {h:Heap}{C:Addr}{rest:List Value}:(exHeap h C rest).get? (h.objs.size+1)=some (exObj h C):=Heap.get?_push_at (Heap.size_push _ _).symm rfl
section
variable {prog:Program} {w:World} {A:Around} {E:Value->Shared->Prop} {K:Frag} {C n fI:Addr} {nm qn:Str} {bs bm bmB:List Value} {hdct:Bool} {sn:List Str} {sub:List Value} {ab:Bool} {col:Option Bool} {dd:Option Addr} {k0 k1 k2 k3 k5:Option Value} {B newId initId:String} {rest:List Value} {h:Heap} {g:Array GenState} {d:Drawn} {t:Nat} {os:OsState}
theorem yia {Q:Fin->Shared->Prop}(FB:ExcBaseFacts B newId initId bmB)(X:K.In h)(hC:h.get? C=some (excClassObj nm qn C n bs bm hdct sn sub ab col dd k0 k1 k2 k3 k5 newId))(TL:OwnTail h bmB bm)
  (hi:findIn K (.ref C) "__init__"=some (some (.ref fI))) (hf:typeIn K (.ref fI)=some (.type "function")) (hl:rest.length<=sizeLine)
  (q:wpAny (model prog w) A (call (.ref fI) (.ref (h.objs.size+1) :: rest)) (λr s'=>r=.none/\Q (.done (.ret (.ref (h.objs.size+1)))) s') E ⟨exHeap h C rest,g,d,t,os⟩) :
  wpAny (model prog w) A (Builtin.«type.__call__» ⟨.ref C :: rest,[]⟩) Q E ⟨h,g,d,t,os⟩:=by
 unfold Builtin.«type.__call__»
 dsimp only
 rw[if_neg (show ¬ (Value.ref C==Value.type "type")=true by simp)]
 refine wpAny_bind (wpAny_mroOf_exc hC ?_)
 rw[if_neg (by simp)]
 refine(wpAny_bind (wpAny_madeBy_exc hC (wpAny_bind (wpAny_pure (wpAny_bind (wpAny_holding (wpAny_call ?_)))))))
 refine codeAny_call_builtin_code (Code.quiet_builtin _ FB.quiet) (wpAny_check_new_subT FB TL hC (codeAny_exc_new_subT FB TL hC ?_ hl))
 have X':K.In (exHeap h C rest):=λa o z=>exHeap_keeps (X a o z)
 have J:W.InstAt (exHeap h C rest) (h.objs.size+1) (exObj h C) C none:=⟨exHeap_at,rfl,rfl,trivial⟩
 have l0:=J.type (M:=model prog w)
 have l1:=looks_findIn (M:=model prog w) X' hi
 have l2:=bind_fn (M:=model prog w) X' (.ref (h.objs.size+1)) hf
 refine wpAny_bind (wpAny_bind (Looks.here (s:=⟨exHeap h C rest,g,d,t,os⟩) l0 (wpAny_isSubtype_exc (exHeap_keeps hC) ?_)))
 rw[show(!List.contains (Value.ref C :: bm) (Value.ref C))=false by simp]
 refine wpAny_bind (wpAny_holding ?_)
 refine special_fn (s:=⟨exHeap h C rest,g,d,t,os⟩) X' J hi hf (wpAny_mono q (λr s' z=>?_) λ_ _ z=>z)
 obtain⟨rfl,z⟩:=z
 exact wpAny_pure z
theorem init_call {Q:Value->Shared->Prop}(FB:ExcBaseFacts B newId initId bmB)(X:K.In h)(hC:h.get? C=some (excClassObj nm qn C n bs bm hdct sn sub ab col dd k0 k1 k2 k3 k5 newId))(TL:OwnTail h bmB bm)
  (hi:findIn K (.ref C) "__init__"=some (some (.ref fI))) (hf:typeIn K (.ref fI)=some (.type "function")) (hl:rest.length<=sizeLine)
  (q:wpAny (model prog w) (A.under (.builtin "type.__call__" ⟨.ref C :: rest,[]⟩)) (call (.ref fI) (.ref (h.objs.size+1) :: rest)) (λr s'=>r=.none/\Q (.ref (h.objs.size+1)) s') E ⟨exHeap h C rest,g,d,t,os⟩) :
  wpAny (model prog w) A (call (.ref C) rest) Q E ⟨h,g,d,t,os⟩:=by
 have tl:=tc_lookup
 have tb:=tc_bind (.ref C)
 have ht:Shared.TypeIs ⟨h,g,d,t,os⟩ (.ref C) "type":= ⟨_,hC,rfl⟩
 have go:codeAny (model prog w) A (.call (.builtin "type.__call__") ⟨[.ref C]++rest,[]⟩) (λr s'=>match r with | .ok (.ret v)=>Q v s' | .ok _=>False | .error e=>E e s') ⟨h,g,d,t,os⟩ :=
  codeAny_call_builtin_at (Code.quiet_builtin _ (by decide +kernel)) entry_typeCall (wpAny_check_type_call_sub hC (yia FB X hC TL hi hf hl q))
 refine wpAny_call (codeAny_of_tree (wpAny_bind (wpAny_load' hC ?_)))
 dsimp only
 refine wpAny_bind (wpAny_specialOf ht tl (wpAny_bind ?_))
 rw[tb]
 refine wpAny_pure ?_
 refine wpAny_bind (wpAny_pure ?_)
 rw[if_pos (by decide)]
 exact wpAny_pure ⟨rfl,go⟩
end
end EX
namespace L2
open PySem PySem.Spec PyProof.Rows
theorem Un.laidN {fs ex:List Addr}{H:Hp}{h h':Heap}{a:Addr}{o:HO}(k:∀ b u,h.get? b=some u->h'.get? b=some u)(hp:h.get? a=none)(hn:H a=none):Un fs ex H (upd H a o) h h' where
 keep:=λb u q _ _ _=>k b u q
 slot:=λb u q _ _ _=>⟨u.slots,k b u q⟩
 free:=λb u q n _=>by
  rw[yai (λz=>by rw[z,hp] at q;cases q)]
  exact n
 there:=λb u q _=>⟨u,k b u q⟩
 tups:=λb xs q=>by rw[yai (yam q hn)];exact q
 frzs:=λb u xs q=>by rw[yai (yam q hn)];exact q
 tbls:=λb ps q=>⟨#[],by rw[yai (yam q hn),q];simp⟩
theorem HOk.laidN {P:Program}{w:World}{H:Hp}{h h':Heap}{a:Addr}{o:HO}(x:HOk P w H h)(k:∀ b u,h.get? b=some u->h'.get? b=some u)(hn:H a=none)(new:ObjOk P w (upd H a o) h' a o):HOk P w (upd H a o) h':=λb u e=>by
 by_cases hb:b=a
 ·subst hb
  rw[yad] at e
  cases e
  exact new
 ·rw[yai hb] at e
  exact(x b u e).stay (λc v _ q=>k c v q) (λc q=>by rw[yai (yam q hn)];exact q) λc xs q=>by rw[yai (yam q hn)];exact q
theorem Inv.laidN {X:Cx}{pins:List (Addr×Obj)}{σ:St}{H:Hp}{s:Shared}{h':Heap}{a:Addr}{o:HO}{t':Nat}(I:Inv X pins σ H s)(k:∀ b u,s.heap.get? b=some u->h'.get? b=some u)(hp:s.heap.get? a=none)(new:ObjOk X.prog X.w (upd H a o) h' a o) :
  Inv X pins σ (upd H a o) { s with heap:=h',toks:=t' }:=I.un (Un.laidN k hp (I.hok.none_of hp)) (I.hok.laidN k (I.hok.none_of hp) new)
noncomputable abbrev exO (a:Addr)(o:Obj):HO:=.ext λh=>h.get? a=some o
theorem yfX {P:Program}{w:World}{H:Hp}{h:Heap}{a:Addr}{o:Obj}(g:h.get? a=some o):ObjOk P w H h a (exO a o):=⟨g,⟨o,g⟩,λh1 h2 p k=>k o p⟩
noncomputable def yrF (C:Addr)(t:TA):TE:=fun σ H Q=>t σ H λvs H1=>vs.length<=1000/\∀ e o us,H1 e=none->o.cls=.ref C->o.dict=none->o.data=.fields us->Q (.ref e) (upd H1 e (exO e o))
theorem yod {X:Cx}{C:Addr}{bmB:List Value}{B newId initId:String}{x:Str}{e:Expr}{es:List Expr}{t:TA}{p pos:Pos}(FB:ExcBaseFacts B newId initId bmB)(hg:Gl X x)(hm:X.mg x=some (.ref C))(hk:PySem.W.excIn X.K C bmB newId=true)(kp:PySem.W.keepIn X.K (.ref C)=true)
  (ha:PA X (e :: es) t) (hdb:(x==("__debug__" : Str))=false:=by decide) (he:starEach (e :: es) X.env=(false,eval e X.env) :: starEach es X.env:=by rfl) (hpl:(backTo pos (starEach es X.env)).any (·.1)=false:=by rfl) :
  PE X (.Call (.Name x p) (e :: es) [] pos) (yrF C t):=by
 intro pins s σ H Q I h
 refine wpAny_Call_Name_kw (ycd I hg hm ?_ hdb)
 refine PySem.W.callWith_K (h₀:=X.base) I.ok.mod.kin kp (thn (ha pos pins s σ H _ I h) λus s1 ⟨vs,H1,I1,r,hl,q⟩=>⟨I1.kIn,?_⟩) he hpl
 obtain⟨bm,n,nm,qn,bs,hdct,sn,sub,ab,col,dd,k0,k1,k2,k3,k5,mN,hC,hN,hni,TL⟩:=yl9 I1.kIn hk
 obtain⟨h1,g1,d1,t1,os1⟩:=s1
 refine wpAny_call_exc_subT FB TL hC hN hni (λh' e m=>?_) (by show us.length<=sizeLine;rw[← r.length,sizeLine_eq];omega)
 obtain⟨tt,ge,_,_⟩:=m.there
 exact⟨.ref e,_,I1.laidN (t':=t1) m.keeps m.new (yfX ge),rfl,q e _ _ (I1.hok.none_of m.new) rfl rfl rfl⟩
theorem yg8 {z:Str}{v:V}:∀ {fs:List (Str×V)},fs.lookup z=some v->z∈fs.map (·.1)
 | [],e=>by cases e
 | (y,u) :: r,e=>by
  rw[List.lookup_cons] at e
  split at e
  ·rename_i h
   rw[beq_iff_eq] at h
   subst h
   simp
  ·exact List.mem_cons_of_mem _ (yg8 e)
theorem Inv.two {X:Cx}{pins:List (Addr×Obj)}{σ:St}{H:Hp}{s:Shared}{h':Heap}{a dx:Addr}{φ:Heap->Prop}{o u:HO}{t':Nat}(I:Inv X pins σ H s)(ea:H a=some (.ext φ))(gd:s.heap.get? dx=none)(k:∀ b v,b≠a->s.heap.get? b=some v->h'.get? b=some v)
  (oa:∃ v,h'.get? a=some v) (na:ObjOk X.prog X.w (upd (upd H a o) dx u) h' a o) (nd:ObjOk X.prog X.w (upd (upd H a o) dx u) h' dx u):Inv X pins σ (upd (upd H a o) dx u) { s with heap:=h',toks:=t' }:=by
 have hd:=I.hok.none_of gd
 have ne:a≠dx:=yam ea hd
 have nn:∀ b,H b=none->b≠a:=λb n z=>by rw[z,ea] at n;cases n
 have st:∀ b v,H b=some v->v≠.ext φ->upd (upd H a o) dx u b=some v:=λb v q z=>by
  rw[yai (yam q hd),yai (λy=>z (by rw[y,ea] at q;exact(Option.some.inj q).symm))]
  exact q
 refine I.un ⟨λb v q n _ _=>k b v (nn b n) q,λb v q n _ _=>⟨v.slots,k b v (nn b n) q⟩,λb v q n _=>?_,λb v q _=>?_,λb xs q=>st b _ q (by simp),λb x y q=>st b _ q (by simp),λb ps q=>⟨#[],by rw[st b _ q (by simp)];simp⟩⟩ λb v e=>?_
 ·rw[yai (λz=>by rw[z,gd] at q;cases q),yai (nn b n)]
  exact n
 ·by_cases z:b=a
  ·rw[z];exact oa
  ·exact⟨v,k b v z q⟩
 ·by_cases z:b=dx
  ·subst z
   rw[yad] at e
   cases e
   exact nd
  ·rw[yai z] at e
   by_cases y:b=a
   ·subst y
    rw[yad] at e
    cases e
    exact na
   ·rw[yai y] at e
    refine(I.hok b v e).stay (λc w hc q=>k c w (λx=>?_) q) (λc q=>st c _ q (by simp)) λc xs q=>st c _ q (by simp)
    rcases hc with hc | hc
    ·exact y (hc.symm.trans x)
    ·rw[x,ea] at hc;cases hc
noncomputable def yp2 (K:PySem.W.Frag)(ta tv:TE)(f:Str):TS:=λD σ H=>tv σ H λy H1=>ta σ H1 λx H2=>∃ a o us C,x=.ref a/\H2 a=some (exO a o)/\o.cls=.ref C/\o.data=.fields us/\ExcK K C/\NoAttr K C f /\
 (o.dict=none/\(∀ dx,H2 dx=none->dx≠a->D.nx σ (upd (upd H2 a (exO a { o with dict:=some dx })) dx (xdO dx [(f,y)]))) ∨
  ∃ dx fs,o.dict=some dx/\dx≠a/\H2 dx=some (xdO dx fs)/\fs.length < 1000/\D.nx σ (upd H2 dx (xdO dx (yef f y fs))))
theorem yeL {X:Cx}{o value:Expr}{f:Str}{pos pos':Pos}{ta tv:TE}(ha:PE X o ta)(hv:PE X value tv)(hs:swapsWith value (some (.Attribute o f pos')) pos.line X.env=pure false):PS X (.Assign [.Attribute o f pos'] value pos) (yp2 X.K ta tv f):=by
 intro pins s σ H D I h
 refine plainObj_wpAny_Assign_Attribute (thn (hv pins s σ H _ I h) λu s1 ⟨y,H1,I1,ry,q⟩=>thn (ha pins s1 σ H1 _ I1 q) λov s2 ⟨x,H2,I2,rx,a,ob,us,C,ex,ea,hc,hf,ek,n,q2⟩=>?_) hs
 subst ex
 obtain rfl:ov=Value.ref a:=rx
 have g:s2.heap.get? a=some ob:=(show ObjOk X.prog X.w H2 s2.heap a (exO a ob) from I2.hok a _ ea).1
 have nc:PySem.W.notCls ob=true:=by unfold PySem.W.notCls;rw[hf]
 rcases q2 with ⟨hd,q2⟩ | ⟨dx,fs,hd,ne,ed,hl,q2⟩
 ·refine EX.exc_set1 I2.kIn ⟨g,hc,nc,by rw[hd];trivial⟩ hf ek.w n.taker λh' dx gd gx hn ne k=>?_
  refine⟨σ,_,I2.two ea gd k ⟨_,gx⟩ (yfX gx) (ylo hn λz=>?_),q2 dx (I2.hok.none_of gd) ne⟩
  rw[List.lookup_cons]
  by_cases e:z=f
  ·rw[if_pos e,e]
   simp only[beq_self_eq_true]
   exact ry
  ·rw[if_neg e,beq_eq_false_iff_ne.mpr e]
   trivial
 ·obtain⟨mA,hn,r⟩:=(show ObjOk X.prog X.w H2 s2.heap dx (xdO dx fs) from I2.hok dx _ ed).1
  have hw:PySem.Within mA (fs.map (·.1)):=λz hz=>by
   have:=r z
   cases e:fs.lookup z with
   | none=>rw[e] at this;exact absurd (RelO.none_of this) hz
   | some v=>exact yg8 e
  refine EX.exc_set2 I2.kIn g hc hd hf hn ek.w n.taker hw (by rw[List.length_map];omega) λh' hn' sb=>⟨σ,_,?_,q2⟩
  refine I2.write (x:=dx) (e:=dx) (by rw[ed];trivial) (.inl rfl) (λb u hb z=>(sb.2 b hb).trans z) (by obtain⟨o,_,_,e',_⟩:=hn';exact⟨o,e'⟩) (ylo hn' λz=>?_)
  rw[ycK]
  by_cases q:z=f
  ·rw[if_pos q,if_pos q];exact ry
  ·rw[if_neg q,if_neg q];exact r z
structure ygI (K:PySem.W.Frag) (C fI:Addr) (bmB:List Value) (newId:String):Prop where
 ob:∃ nm qn n bs bm hdct sn sub ab col dd k0 k1 k2 k3 k5,K.lookup C=some (excClassObj nm qn C n bs bm hdct sn sub ab col dd k0 k1 k2 k3 k5 newId)/\PySem.W.tailIn K bmB bm=true
 init:PySem.W.findIn K (.ref C) "__init__"=some (some (.ref fI))
 fn:PySem.W.isFn K (.ref fI)=true
 kp:PySem.W.keepIn K (.ref C)=true
noncomputable def ymx (C:Addr)(sp:Sp)(t:TA):TE:=fun σ H Q=>t σ H λvs H1=>vs.length<=1000/\∀ e o us,H1 e=none->o.cls=.ref C->o.dict=none->o.data=.fields us->sp (.ref e :: vs) (upd H1 e (exO e o)) (λv H2=>v=.non/\Q (.ref e) H2) λ_ _ _=>False
theorem ygT {X:Cx}{C fI:Addr}{k:Nat}{fd:FuncData}{ps:List Str}{sp:Sp}{bmB:List Value}{B newId initId:String}{x:Str}{e:Expr}{es:List Expr}{t:TA}{p pos:Pos}(FB:ExcBaseFacts B newId initId bmB)(M:ygI X.K C fI bmB newId)(F:FnOk X.prog X.w X.K X.mg X.base CX0 k fI fd ps sp)(hr:Room (k+1) X.A)(hb:Binds X.K fd ps [])(hg:Gl X x)(hm:X.mg x=some (.ref C))
  (ha:PA X (e :: es) t) (hdb:(x==("__debug__" : Str))=false:=by decide) (he:starEach (e :: es) X.env=(false,eval e X.env) :: starEach es X.env:=by rfl) (hpl:(backTo pos (starEach es X.env)).any (·.1)=false:=by rfl) :
  PE X (.Call (.Name x p) (e :: es) [] pos) (ymx C sp t):=by
 intro pins s σ H Q I h
 refine wpAny_Call_Name_kw (ycd I hg hm ?_ hdb)
 refine PySem.W.callWith_K (h₀:=X.base) I.ok.mod.kin M.kp (thn (ha pos pins s σ H _ I h) λus s1 ⟨vs,H1,I1,r,hl,q⟩=>⟨I1.kIn,?_⟩) he hpl
 obtain⟨nm,qn,n,bs,bm,hdct,sn,sub,ab,col,dd,k0,k1,k2,k3,k5,hC,TL⟩:=M.ob
 obtain⟨h1,g1,d1,t1,os1⟩:=s1
 have kin:X.K.In h1:=I1.kIn
 have gn:h1.get? (h1.objs.size+1)=none:=Heap.get?_none_of_le (Nat.le_succ _)
 have I2:=I1.laidN (h':=EX.exHeap h1 C us) (t':=t1) (λb u z=>EX.exHeap_keeps z) gn (yfX EX.exHeap_at)
 have hq:=q (h1.objs.size+1) (EX.exObj h1 C) _ (I1.hok.none_of gn) rfl rfl rfl
 have r2:Vals (V.ref (h1.objs.size+1) :: vs) (Value.ref (h1.objs.size+1) :: us):=.cons rfl r
 have hln:(Value.ref (h1.objs.size+1) :: us).length=ps.length:=by rw[← r2.length];exact F.len _ _ _ _ hq
 refine EX.init_call FB kin (kin _ _ hC) (PySem.W.tail_of_in kin TL) M.init (beq_iff_eq.mp M.fn) (by show us.length<=sizeLine;rw[← r.length,sizeLine_eq];omega) (wpAny_call (codeAny_mono (F.run _ X.stack _ _ ⟨Value.ref (h1.objs.size+1) :: us,[]⟩ _ _ _ _ (hr.make C us []) (I2.env0.make C us []) (by have z:=hb _ (Value.ref (h1.objs.size+1) :: us) I2.kIn (by simpa using hln);simpa using z) r2 hq) λrr s' hq'=>?_))
 cases rr with
 | error ev=>exact False.elim hq'
 | ok fl =>
  cases fl with
  | ret u =>
   obtain⟨v,H',I3,rv,ev,q3⟩:=I2.after hq'
   subst ev
   exact⟨rv,⟨V.ref (h1.objs.size+1),H',I3,rfl,q3⟩⟩
  | next=>exact False.elim hq'
  | brk=>exact False.elim hq'
  | cont=>exact False.elim hq'
end L2
namespace EX
open PySem PyProof.Rows
noncomputable def TrdD (h:Heap)(e C T:Addr)(dd:Option Addr):Prop :=
 ∃ oe vs oT ts,h.get? e=some oe/\(oe.cls=.ref C/\oe.dict=dd)/\oe.data=.fields vs/\vs[1]?=some (.ref T)/\vs[2]?=some .none/\T≠e/\h.get? T=some oT/\oT.data=.fields ts/\ts[3]?=some .none
theorem yk7 {o:Obj}{C:Value}{n:Nat}{dd:Option Addr}{x:Value}(c:o.cls=C/\o.dict=dd):(wr n x o).cls=C/\(wr n x o).dict=dd:=by
 obtain⟨c1,c2⟩:=c
 cases o with | mk cls dict data slots=>cases data<;>exact⟨c1,c2⟩
section
variable {M:Model} {A:Around} {E:Value->Shared->Prop} {s:Shared} {base:Heap} {env:Env} {outer:List Env} {L e C:Addr} {dd:Option Addr}
theorem yl2 {oe:Obj}{vs:Array Value}{head:Value}{had:Bool}{Q:Unit->Shared->Prop}(fr:A.frames=some (env :: outer))(ff:s.heap.FunFrames base (env :: outer))(ef:env.frame=some L)
  (ge:s.heap.get? e=some oe) (ce:oe.cls=.ref C/\oe.dict=dd) (de:oe.data=.fields vs) (z:1 < vs.size) (c2:vs[2]?=some .none)
  (q:∀ h T,s.heap.objs.size<=T->Lft ((env :: outer).filterMap (·.frame)) [e] s.heap h->TrdD h e C T dd->Q () { s with heap:=h }) :
  wpAny M A (frameOf env >>= λa=>entryPlaceOf L had >>= λpl=>EntryCells.newEntry head a .none (rawInt L) .none pl >>= λb=>setField (.ref e) 1 b) (λ_ s'=>wpAny M A (setFlight (.ref e) none) Q E s') E s:=by
 refine yhQ fr ff ef λh T o ts lf le gT dT y=>?_
 have apart:e∉(env :: outer).filterMap (·.frame):=λm=>(ff.mem m).2.elim λv u=>u.2 vs (Option.some.inj (u.1.symm.trans ge)▸de)
 have ge1:h.get? e=some oe:=lf.1 e oe ge apart List.not_mem_nil
 have ne:T≠e:=Nat.ne_of_gt (Nat.lt_of_lt_of_le (Heap.lt_size ge) le)
 have we:=ymY (n:=1) (x:=.ref T) ge1 de
 have wT:=ymY (n:=3) (x:=.none) ((Heap.get?_update_other h (wr 1 (.ref T)) (Ne.symm ne)).trans gT) dT
 refine yig ge1 de z gT dT y ne (q _ T le (((lf.more (by simp)).upd _ (.inl List.mem_cons_self)).upd _ (.inr (Heap.get?_none_of_le le))) ?_)
 exact⟨_,_,_,_,(Heap.get?_update_other _ _ ne).trans we.1,yk7 ce,we.2,by simp[z],by rw[Array.getElem?_setIfInBounds_ne (by decide)];exact c2,ne,wT.1,wT.2,by simp[y]⟩
theorem leave_firstD {oe:Obj}{vs:Array Value}{Q:Unit->Shared->Prop}(fr:A.frames=some (env :: outer))(ff:s.heap.FunFrames base (env :: outer))(ef:env.frame=some L)
  (ge:s.heap.get? e=some oe) (ce:oe.cls=.ref C/\oe.dict=dd) (de:oe.data=.fields vs) (c1:vs[1]?=some .none) (c2:vs[2]?=some .none)
  (q:∀ h T,s.heap.objs.size<=T->Lft ((env :: outer).filterMap (·.frame)) [e] s.heap h->TrdD h e C T dd->Q () { s with heap:=h }):wpAny M A (leaving env (.ref e)) Q E s:=by
 refine wpAny_bind ?_
 rw[noteFrame,ef]
 exact wpAny_bind (wpAny_field ge de c1 (yl2 fr ff ef ge ce de (Array.getElem?_eq_some_iff.mp c1).1 c2 q))
theorem note_nextD {T:Addr}{Q:Unit->Shared->Prop}(fr:A.frames=some (env :: outer))(ff:s.heap.FunFrames base (env :: outer))(ef:env.frame=some L)(td:TrdD s.heap e C T dd)
  (q:∀ h T',s.heap.objs.size<=T'->Lft ((env :: outer).filterMap (·.frame)) [e,T] s.heap h->TrdD h e C T' dd->Q () { s with heap:=h }) :
  wpAny M A (noteFrame (.ref e) env) (λ_ s'=>wpAny M A (setFlight (.ref e) none) Q E s') E s:=by
 obtain⟨oe,vs,oT,ts,ge,ce,de,c1,c2,ne,gT,dT,c3⟩:=td
 have same:∀ b,b≠T->(s.heap.update T (wr 3 .none)).get? b=s.heap.get? b:=λb n=>Heap.get?_update_other _ _ (Ne.symm n)
 have flown:¬ (Value.none==rawInt L)=true:=by simp[rawInt]
 have ff':(s.heap.update T (wr 3 .none)).FunFrames base (env :: outer):=ff.of_keeps λb o g n=>⟨o,(same b λm=>n ts (Option.some.inj ((m▸g).symm.trans gT)▸dT)).trans g,rfl⟩
 rw[noteFrame,ef]
 refine wpAny_bind (wpAny_field ge de c1 (wpAny_bind (wpAny_field gT dT c3 ?_)))
 rw[if_neg flown]
 exact wpAny_bind (wpAny_setField gT dT (Array.getElem?_eq_some_iff.mp c3).1 (yl2 fr ff' ef ((same e (Ne.symm ne)).trans ge) ce de (Array.getElem?_eq_some_iff.mp c1).1 c2
  λh T' le lf=>q h T' (Heap.size_update s.heap T _▸le) (lf.first (λb m=>List.mem_cons.mpr (.inl (List.mem_singleton.mp m))) (by simp))))
end
end EX
namespace EX
open PySem PySem.Spec PySem.Calls PyProof.Rows PySem.W
theorem raise_inst {prog:Program}{w:World}{A:Around}{E:Value->Shared->Prop}{K:Frag}{env:Env}{x:Sem Value}{s:Shared}{Q:Flow->Shared->Prop}(hn:A.handled=none)
  (hx:wpAny (model prog w) A x (λv s1=>∃ e o C us,v=.ref e/\K.In s1.heap/\s1.heap.get? e=some o/\o.cls=.ref C/\o.data=.fields us/\us[1]?=some .none/\mroIn K C (.type "BaseException")=some true/\typeIn K (.ref C)=some (.type "type")/\E (.ref e) s1) E s) :
  wpAny (model prog w) A (raiseStmt env (some x) none) Q E s:=by
 unfold raiseStmt
 refine wpAny_bind (wpAny_mono hx (λv s1 z=>?_) λ_ _ z=>z)
 obtain⟨e,o,C,us,rfl,X,g,hc,hf,h1,hb,ht,q⟩:=z
 obtain⟨h,gg,d,t,os⟩:=s1
 refine wpAny_bind (wpAny_pure ?_)
 dsimp only
 unfold excFromValue isExcClass
 have ty:∀ {α:Type} {k:Bool->Sem α} {R:α->Shared->Prop} {E':Value->Shared->Prop},wpAny (model prog w) A (k false) R E' ⟨h,gg,d,t,os⟩->wpAny (model prog w) A (isType (.ref e) >>= k) R E' ⟨h,gg,d,t,os⟩:=λ{α k R E'} z=>by
  refine wpAny_bind (wpAny_bind (wpAny_loadPart_at g (wpAny_pure ?_)))
  rw[hf]
  exact z
 have l0:Looks (model prog w) h (typeOf (.ref e)) (.ref C):=hc▸(Looks.ld g).andThen .now
 have l1:=looks_mroIn (M:=model prog w) X hb
 have l2:=looks_typeIn (M:=model prog w) X ht
 refine wpAny_bind (wpAny_holding (wpAny_bind (ty (wpAny_pure ?_))))
 rw[if_neg (by simp)]
 refine wpAny_bind (wpAny_bind (Looks.here (s:=⟨h,gg,d,t,os⟩) l0 (Looks.here (s:=⟨h,gg,d,t,os⟩) l1 ?_)))
 rw[if_pos rfl]
 refine wpAny_pure (ty ?_)
 rw[if_neg (by simp)]
 unfold raisedInstance
 refine wpAny_bind (wpAny_bind (Looks.here (s:=⟨h,gg,d,t,os⟩) l0 (wpAny_bind (Looks.here (s:=⟨h,gg,d,t,os⟩) l2 ?_))))
 rw[if_pos (by simp)]
 refine wpAny_pure (wpAny_bind (wpAny_bind (wpAny_field (s:=⟨h,gg,d,t,os⟩) g hf h1 ?_)))
 rw[if_neg (by simp)]
 refine wpAny_pure ?_
 unfold raiseNew
 refine wpAny_bind (wpAny_handled ?_)
 rw[hn]
 exact wpAny_throw q
end EX
namespace L2
open PySem PySem.Spec PyProof.Rows
noncomputable def CXg (P:Program)(w:World):CXT:=λouter H s E e s'=>∃ a C T dd H',e=.ref a/\s'.os=s.os/\AllBare s'.gens/\Un (frs outer) [] H H' s.heap s'.heap/\HOk P w H' s'.heap /\
 s.heap.get? a=none/\s.heap.get? T=none/\H' a=none/\H' T=none/\EX.TrdD s'.heap a C T dd/\∀ o us,o.cls=.ref C->o.dict=dd->o.data=.fields us->E e (some C) (upd H' a (exO a o))
noncomputable def les (H:Hp)(a:Addr):Hp:=λb=>if b=a then none else H b
theorem yc7 {H:Hp}{a:Addr}:les H a a=none:=by unfold les;rw[if_pos rfl]
theorem ydr {H:Hp}{a b:Addr}(h:b≠a):les H a b=H b:=by unfold les;rw[if_neg h]
theorem ym5 {H:Hp}{a:Addr}{o:HO}:upd (les H a) a o=upd H a o:=by
 funext b
 unfold upd les
 split<;>rfl
theorem HOk.les {P:Program}{w:World}{H:Hp}{h:Heap}{a:Addr}{φ:Heap->Prop}(x:HOk P w H h)(ea:H a=some (.ext φ)):HOk P w (les H a) h:=λb v e=>by
 have nb:b≠a:=λz=>by rw[z,yc7] at e;cases e
 rw[ydr nb] at e
 exact(x b v e).stay (λc u _ q=>q) (λc q=>by rw[ydr (λz=>by rw[z,ea] at q;cases q)];exact q) λc xs q=>by rw[ydr (λz=>by rw[z,ea] at q;cases q)];exact q
theorem Un.les {fs:List Addr}{H H1:Hp}{h h1:Heap}{a:Addr}{φ:Heap->Prop}(u:Un fs [] H H1 h h1)(ea:H1 a=some (.ext φ)):Un fs [] H (les H1 a) h h1 where
 keep:=u.keep
 slot:=u.slot
 free:=λb o q n nx=>by
  by_cases z:b=a
  ·rw[z,yc7]
  ·rw[ydr z];exact u.free b o q n nx
 there:=u.there
 tups:=λb xs q=>by
  have:=u.tups b xs q
  rw[ydr (λz=>by rw[z,ea] at this;cases this)];exact this
 frzs:=λb o x q=>by
  have:=u.frzs b o x q
  rw[ydr (λz=>by rw[z,ea] at this;cases this)];exact this
 tbls:=λb ps q=>by
  obtain⟨m,e⟩:=u.tbls b ps q
  exact⟨m,by rw[ydr (λz=>by rw[z,ea] at e;cases e)];exact e⟩
section
variable {P:Program} {w:World} {K:PySem.W.Frag} {mg:Str->Option Value} {base:Heap} {N:List Str} {qual:Str} {scope:Scope} {f:Addr} {cd:Value} {A:Around} {outer:List Env} {s s1:Shared} {H H1:Hp} {E:XK} {pins:List (Addr×Obj)} {σ:St} {e C:Addr} {o:Obj} {us:Array Value}
theorem yjr (I:Inv (ydH (CXg P w) P w K mg base N qual scope f cd A outer s H E) pins σ H1 s1)(ea:H1 e=some (exO e o))(new:s.heap.get? e=none)(hc:o.cls=.ref C)(hf:o.data=.fields us)(h1:us[1]?=some .none)(h2:us[2]?=some .none)
  (q:∀ o2 us2,o2.cls=.ref C->o2.dict=o.dict->o2.data=.fields us2->E (.ref e) (some C) (upd H1 e (exO e o2))) :
  (ydH (CXg P w) P w K mg base N qual scope f cd A outer s H E).xe (.ref e) s1:=by
 have ge:s1.heap.get? e=some o:=(show ObjOk P w H1 s1.heap e (exO e o) from (show HOk P w H1 s1.heap from I.hok) e _ ea).1
 have un:Un (frs outer) [] H (les H1 e) s.heap s1.heap:=(show Un (frs outer) [] H H1 s.heap s1.heap from I.base).les ea
 have hk:HOk P w (les H1 e) s1.heap:=(show HOk P w H1 s1.heap from I.hok).les ea
 refine EX.leave_firstD (C:=C) (show(A.deeper (envOfC qual scope s.heap.objs.size f cd)).frames=some (envOfC qual scope s.heap.objs.size f cd :: outer) from I.ok.frames) (show s1.heap.FunFrames base (envOfC qual scope s.heap.objs.size f cd :: outer) from I.stack) rfl ge ⟨hc,rfl⟩ hf h1 h2 λh2 T le lf tr=>?_
 have gT:s1.heap.get? T=none:=Heap.get?_none_of_le le
 have nT:s.heap.get? T=none:=by
  cases g:s.heap.get? T with
  | none=>rfl
  | some v =>
   obtain⟨o',g'⟩:=un.there T v g (by simp)
   rw[gT] at g'
   cases g'
 refine⟨e,C,T,o.dict,les H1 e,rfl,I.os,I.bare,un.left (λb v z=>z) lf (λb v g z=>?_) (λb v g z=>?_),hk.left lf (λb z=>?_) (λb z=>?_),new,nT,yc7,hk.none_of gT,tr,λo2 us2 a b c=>by rw[ym5];exact q o2 us2 a b c⟩
 ·have z2:b∈s.heap.objs.size :: frs outer:=z
  rcases List.mem_cons.mp z2 with rfl | z'
  ·exact absurd (Heap.lt_size g) (Nat.lt_irrefl _)
  ·exact z'
 ·rw[List.mem_singleton.mp z,new] at g
  cases g
 ·by_cases y:b=e
  ·rw[y,yc7]
  ·rw[ydr y];exact I.stkFree b z
 ·rw[List.mem_singleton.mp z,yc7]
end
theorem ymu {X:Cx}{C fI:Addr}{k:Nat}{fd:FuncData}{ps:List Str}{sp:Sp}{bmB:List Value}{B newId initId:String}{x:Str}{e:Expr}{es:List Expr}{t:TA}{p pos:Pos}{pins:List (Addr×Obj)}{σ:St}{H:Hp}{s:Shared}{Q:Addr->Obj->Hp->Prop}(FB:ExcBaseFacts B newId initId bmB)(M:ygI X.K C fI bmB newId)(F:FnOk X.prog X.w X.K X.mg X.base CX0 k fI fd ps sp)(hr:Room (k+1) X.A)(hb:Binds X.K fd ps [])(hg:Gl X x)(hm:X.mg x=some (.ref C))
  (ha:PA X (e :: es) t) (hdb:(x==("__debug__" : Str))=false) (he:starEach (e :: es) X.env=(false,eval e X.env) :: starEach es X.env) (hpl:(backTo pos (starEach es X.env)).any (·.1)=false) (hx:X.ex=[]) (I:Inv X pins σ H s)
  (h:t σ H λvs H1=>vs.length<=1000/\∀ e o us,H1 e=none->o.cls=.ref C->o.dict=none->o.data=.fields us->us[1]?=some .none->us[2]?=some .none->sp (.ref e :: vs) (upd H1 e (exO e o)) (λv H2=>v=.non/\Q e o H2) λ_ _ _=>False) :
  wpAny (model X.prog X.w) X.A (eval (.Call (.Name x p) (e :: es) [] pos) X.env) (λu s'=>∃ a o us H2,u=.ref a/\X.s₀.heap.get? a=none/\o.cls=.ref C/\o.data=.fields us/\us[1]?=some .none/\us[2]?=some .none/\Inv X pins σ H2 s'/\Q a o H2) X.xe s:=by
 refine wpAny_Call_Name_kw (ycd I hg hm ?_ hdb)
 refine PySem.W.callWith_K (h₀:=X.base) I.ok.mod.kin M.kp (thn (ha pos pins s σ H _ I h) λus s1 ⟨vs,H1,I1,r,hl,q⟩=>⟨I1.kIn,?_⟩) he hpl
 obtain⟨nm,qn,n,bs,bm,hdct,sn,sub,ab,col,dd,k0,k1,k2,k3,k5,hC,TL⟩:=M.ob
 obtain⟨h1,g1,d1,t1,os1⟩:=s1
 have kin:X.K.In h1:=I1.kIn
 have gn:h1.get? (h1.objs.size+1)=none:=Heap.get?_none_of_le (Nat.le_succ _)
 have g0:X.s₀.heap.get? (h1.objs.size+1)=none:=by
  cases g:X.s₀.heap.get? (h1.objs.size+1) with
  | none=>rfl
  | some v =>
   obtain⟨o',g'⟩:=I1.base.there _ v g (by rw[hx];simp)
   rw[gn] at g'
   cases g'
 have I2:=I1.laidN (h':=EX.exHeap h1 C us) (t':=t1) (λb u z=>EX.exHeap_keeps z) gn (yfX EX.exHeap_at)
 have hq:=q (h1.objs.size+1) (EX.exObj h1 C) _ (I1.hok.none_of gn) rfl rfl rfl rfl rfl
 have r2:Vals (V.ref (h1.objs.size+1) :: vs) (Value.ref (h1.objs.size+1) :: us):=.cons rfl r
 have hln:(Value.ref (h1.objs.size+1) :: us).length=ps.length:=by rw[← r2.length];exact F.len _ _ _ _ hq
 refine EX.init_call FB kin (kin _ _ hC) (PySem.W.tail_of_in kin TL) M.init (beq_iff_eq.mp M.fn) (by show us.length<=sizeLine;rw[← r.length,sizeLine_eq];omega) (wpAny_call (codeAny_mono (F.run _ X.stack _ _ ⟨Value.ref (h1.objs.size+1) :: us,[]⟩ _ _ _ _ (hr.make C us []) (I2.env0.make C us []) (by have z:=hb _ (Value.ref (h1.objs.size+1) :: us) I2.kIn (by simpa using hln);simpa using z) r2 hq) λrr s' hq'=>?_))
 cases rr with
 | error ev=>exact False.elim hq'
 | ok fl =>
  cases fl with
  | ret u =>
   obtain⟨v,H',I3,rv,ev,q3⟩:=I2.after hq'
   subst ev
   exact⟨rv,_,EX.exObj h1 C,_,H',rfl,g0,rfl,rfl,rfl,rfl,I3,q3⟩
  | next=>exact False.elim hq'
  | brk=>exact False.elim hq'
  | cont=>exact False.elim hq'
noncomputable def ymz (C:Addr)(sp:Sp)(t:TA)(E:XK):TS:=λ_ σ H=>t σ H λvs H1=>vs.length<=1000/\∀ e o us,H1 e=none->o.cls=.ref C->o.dict=none->o.data=.fields us->us[1]?=some .none->us[2]?=some .none ->
 sp (.ref e :: vs) (upd H1 e (exO e o)) (λv H2=>v=.non/\∃ o',H2 e=some (exO e o')/\o'.cls=o.cls/\o'.data=o.data/\∀ o2 us2,o2.cls=.ref C->o2.dict=o'.dict->o2.data=.fields us2->E (.ref e) (some C) (upd H2 e (exO e o2))) λ_ _ _=>False
section
variable {P:Program} {w:World} {K:PySem.W.Frag} {mg:Str->Option Value} {base:Heap} {N:List Str} {qual:Str} {scope:Scope} {f:Addr} {cd:Value} {A:Around} {outer:List Env} {s:Shared} {H:Hp} {E:XK}
theorem yj9 {C fI:Addr}{k:Nat}{fd:FuncData}{ps:List Str}{sp:Sp}{bmB:List Value}{B newId initId:String}{x:Str}{e:Expr}{es:List Expr}{t:TA}{p cpos pos:Pos}(FB:ExcBaseFacts B newId initId bmB)(hn:A.handled=none)
  (M:ygI K C fI bmB newId) (mb:PySem.W.mroIn K C (.type "BaseException")=some true) (mt:PySem.W.typeIn K (.ref C)=some (.type "type")) (F:FnOk P w K mg base CX0 k fI fd ps sp) (hr:Room (k+1) (A.deeper (envOfC qual scope s.heap.objs.size f cd))) (hb:Binds K fd ps []) (hg:Gl (ydH (CXg P w) P w K mg base N qual scope f cd A outer s H E) x) (hm:mg x=some (.ref C))
  (ha:PA (ydH (CXg P w) P w K mg base N qual scope f cd A outer s H E) (e :: es) t) (hdb:(x==("__debug__" : Str))=false:=by decide) (he:starEach (e :: es) (envOfC qual scope s.heap.objs.size f cd)=(false,eval e (envOfC qual scope s.heap.objs.size f cd)) :: starEach es (envOfC qual scope s.heap.objs.size f cd):=by rfl) (hpl:(backTo cpos (starEach es (envOfC qual scope s.heap.objs.size f cd))).any (·.1)=false:=by rfl) :
  PS (ydH (CXg P w) P w K mg base N qual scope f cd A outer s H E) (.Raise (some (.Call (.Name x p) (e :: es) [] cpos)) none pos) (ymz C sp t E):=by
 intro pins s1 σ H1 D I h
 rw[show exec (.Raise (some (.Call (.Name x p) (e :: es) [] cpos)) none pos) (ydH (CXg P w) P w K mg base N qual scope f cd A outer s H E).env=_ from arm_exec_Raise _ _ _ _]
 refine wpAny_bind (wpAny_standAt ?_)
 refine EX.raise_inst (K:=K) (show(A.deeper _).handled=none from hn) (wpAny_bind (wpAny_mono (ymu FB M F hr hb hg hm ha hdb he hpl rfl I h) (λu s2 z=>?_) λ_ _ z=>z))
 obtain⟨a,o,us,H2,rfl,new,hc,hf,z1,z2,I2,o',ea,hc',hf',q⟩:=z
 refine wpAny_bind (wpAny_standAt (wpAny_pure ?_))
 have g:s2.heap.get? a=some o':=(show ObjOk P w H2 s2.heap a (exO a o') from (show HOk P w H2 s2.heap from I2.hok) a _ ea).1
 exact⟨a,o',C,us,rfl,I2.kIn,g,hc'.trans hc,hf'.trans hf,z1,mb,mt,yjr I2 ea new (hc'.trans hc) (hf'.trans hf) z1 z2 q⟩
end
noncomputable abbrev Cx.hndN (X:Cx)(a:Addr):Cx:={ X with A:=X.A.mark (some (.ref a)),calm:=false,xe:=λ_ _=>False }
section
variable {X:Cx} {pins:List (Addr×Obj)} {σ:St} {H:Hp} {s:Shared} {a:Addr}
theorem Inv.hndN (I:Inv X pins σ H s)(a:Addr):Inv (X.hndN a) pins σ H s :=
 ⟨⟨I.ok.mod,I.ok.kind,I.ok.glob,I.ok.blt,I.ok.above,I.ok.inj,I.ok.has,I.ok.cab,λh=>(by cases h),I.ok.frames,I.ok.stk,I.ok.exf,I.ok.bs,I.ok.bsz,I.ok.noex,I.ok.exfs,I.ok.funs,I.ok.frf⟩,I.os,I.bare,I.base,I.loc,I.cell,I.free,I.freeC,I.pin,I.hok,I.len⟩
theorem Inv.unhnd (ok:X.Ok)(I:Inv (X.hndN a) pins σ H s):Inv X pins σ H s :=
 ⟨ok,I.os,I.bare,I.base,I.loc,I.cell,I.free,I.freeC,I.pin,I.hok,I.len⟩
theorem Inv.gone {h':Heap}{m':Str->Option Value}{tk:Nat}(I:Inv X pins σ H s)(hn:h'.Ns X.env.locals m')(sb:Heap.SameBut X.env.locals s.heap h'):Inv X pins (List.replicate X.N.length none) H { s with heap:=h',toks:=tk }:=by
 have k:∀ b o,b≠X.env.locals->s.heap.get? b=some o->h'.get? b=some o:=λb o hb e=>(sb.2 b hb).trans e
 have lo:∀ b o,X.s₀.heap.get? b=some o->b≠X.env.locals:=λb o e=>Nat.ne_of_lt (Nat.lt_of_lt_of_le (Heap.lt_size e) I.ok.above)
 have nz:∀ b,H b≠none->b≠X.env.locals:=λb hb z=>hb (by rw[z];exact I.free)
 refine⟨I.ok,I.os,I.bare,⟨λb o g n nf nx=>k b o (lo b o g) (I.base.keep b o g n nf nx),λb o g n hf nx=>?_,I.base.free,λb o g nx=>?_,I.base.tups,I.base.frzs,I.base.tbls⟩,⟨m',hn,λi x v _ e _=>?_⟩,λx c e=>?_,I.free,I.freeC,λp hp=>?_,λb o e=>?_,by simp⟩
 ·obtain⟨sl,e⟩:=I.base.slot b o g n hf nx
  exact⟨sl,k _ _ (lo b o g) e⟩
 ·obtain⟨o',e⟩:=I.base.there b o g nx
  exact⟨o',k _ _ (lo b o g) e⟩
 ·rw[List.getElem?_replicate] at e
  split at e<;>cases e
 ·obtain⟨v,oc,ho,hd⟩:=I.cell x c e
  exact⟨v,oc,k _ _ (I.cne x c e) ho,hd⟩
 ·obtain⟨e,n,ne,nf,d⟩:=I.pin p hp
  exact⟨k _ _ ne e,n,ne,nf,d⟩
 ·refine(I.hok b o e).stay (λc u hc q=>k c u (nz c ?_) q) (λ_ q=>q) λ_ _ q=>q
  rcases hc with rfl | hc
  ·rw[e];simp
  ·rw[hc];simp
end
theorem ymf {M:Model}{A:Around}{E:Value->Shared->Prop}{s:Shared}{a C T:Addr}{dd:Option Addr}{Q:Unit->Shared->Prop}(td:EX.TrdD s.heap a C T dd)
  (q:∀ h',EX.Lft [] [T] s.heap h'->EX.TrdD h' a C T dd->Q () { s with heap:=h' }):wpAny M A (setFlight (.ref a) none) Q E s:=by
 obtain⟨oe,vs,oT,ts,ge,ce,de,c1,c2,ne,gT,dT,c3⟩:=td
 unfold setFlight
 refine wpAny_bind (wpAny_field ge de c1 ?_)
 rw[if_pos (show(Value.ref T != Value.none)=true from by simp)]
 refine wpAny_setField gT dT (Array.getElem?_eq_some_iff.mp c3).1 (q _ ?_ ?_)
 ·refine⟨λb o g _ n=>?_,λb o g n=>⟨o.slots,?_⟩⟩
  ·rw[Heap.get?_update_other _ _ λz=>n (by rw[z];simp)]
   exact g
  ·rw[Heap.get?_update_other _ _ λz=>n (by rw[z];simp)]
   exact g
 ·refine⟨oe,vs,_,_,?_,ce,de,c1,c2,ne,Heap.get?_update_self _ gT (Obj.isFreed_of_fields (Obj.data_mapFields dT _)),Obj.data_mapFields dT _,?_⟩
  ·rw[Heap.get?_update_other _ _ ne]
   exact ge
  ·have:=(Array.getElem?_eq_some_iff.mp c3).1
   simp[this]
noncomputable abbrev Cx.tri (X:Cx)(pins:List (Addr×Obj))(E:Value->Shared->Prop):Cx:={ X with pn:=pins++X.pn,xe:=E }
section
variable {X:Cx} {pins pins':List (Addr×Obj)} {σ:St} {H:Hp} {s:Shared} {E:Value->Shared->Prop}
theorem Inv.tri (I:Inv X pins σ H s)(E:Value->Shared->Prop):Inv (X.tri pins E) [] σ H s:=by
 refine⟨⟨I.ok.mod,I.ok.kind,I.ok.glob,I.ok.blt,I.ok.above,I.ok.inj,I.ok.has,I.ok.cab,λc=>?_,I.ok.frames,I.ok.stk,I.ok.exf,I.ok.bs,I.ok.bsz,I.ok.noex,I.ok.exfs,I.ok.funs,I.ok.frf⟩,I.os,I.bare,I.base,I.loc,I.cell,I.free,I.freeC,λp hp=>?_,I.hok,I.len⟩
 ·exact I.ok.hd c
 ·have hp:p∈(pins++X.pn)++[]:=hp
  rw[List.append_nil] at hp
  refine I.pin p ?_
  rcases List.mem_append.mp hp with z | z
  ·exact List.mem_append_right _ z
  ·exact List.mem_append_left _ z
theorem Inv.untri (ok:X.Ok)(I:Inv (X.tri pins E) pins' σ H s):Inv X pins σ H s :=
 ⟨ok,I.os,I.bare,I.base,I.loc,I.cell,I.free,I.freeC,λp hp=>I.pin p (by
  have hp:p∈X.pn++pins:=hp
  show p∈(pins++X.pn)++pins'
  refine List.mem_append_left _ ?_
  rcases List.mem_append.mp hp with z | z
  ·exact List.mem_append_right _ z
  ·exact List.mem_append_left _ z),I.hok,I.len⟩
theorem SP.untri {D:ydh}{f:Flow}{s':Shared}(ok:X.Ok)(h:SP (X.tri pins E) pins' D f s'):SP X pins D f s':=by
 cases f with
 | next=>obtain⟨σ',H',I,q⟩:=h;exact⟨σ',H',I.untri ok,q⟩
 | brk=>obtain⟨σ',H',I,q⟩:=h;exact⟨σ',H',I.untri ok,q⟩
 | cont=>obtain⟨σ',H',I,q⟩:=h;exact⟨σ',H',I.untri ok,q⟩
 | ret u=>obtain⟨v,σ',H',I,r,q⟩:=h;exact⟨v,σ',H',I.untri ok,r,q⟩
end
theorem Un.also {fs:List Addr}{H H2:Hp}{h h2:Heap}{a:Addr}{o:HO}(u:Un fs [] H H2 h h2)(g:h.get? a=none)(n:H2 a=none):Un fs [] H (upd H2 a o) h h2 where
 keep:=u.keep
 slot:=u.slot
 free:=λb v q z nx=>by
  rw[yai (λy=>by rw[y,g] at q;cases q)]
  exact u.free b v q z nx
 there:=u.there
 tups:=λb xs q=>by
  have:=u.tups b xs q
  rw[yai (yam this n)];exact this
 frzs:=λb v x q=>by
  have:=u.frzs b v x q
  rw[yai (yam this n)];exact this
 tbls:=λb ps q=>by
  obtain⟨m,e⟩:=u.tbls b ps q
  exact⟨m,by rw[yai (yam e n)];exact e⟩
structure RoomN (k:Nat) (A:Around):Prop where
 dp:A.depth+3*k+5 < recursionLimit
 un:A.units+16*k+200 < cLine
theorem RoomN.deeper {k:Nat}{A:Around}(r:RoomN (k+1) A)(env:Env):RoomN k (A.deeper env) :=
 ⟨by have:=r.dp;show A.depth+1+3*k+5 < _;omega,by have:=r.un;show A.units+3+16*k+200 < _;omega⟩
theorem RoomN.depth {k:Nat}{A:Around}(r:RoomN k A):A.depth < recursionLimit:=by have:=r.dp;omega
theorem RoomN.units {k:Nat}{A:Around}(r:RoomN k A):A.units+64 < cLine:=by have:=r.un;omega
theorem Room.toN {k k':Nat}{A:Around}{v:Option Value}(hr:Room k' A)(h:k<=k'):RoomN k (A.mark v):=⟨by have:=hr.dp;show A.depth+3*k+5 < _;omega,by have:=hr.un;show A.units+16*k+200 < _;omega⟩
structure FnOkN (P:Program) (w:World) (K:PySem.W.Frag) (mg:Str->Option Value) (base:Heap) (CX:CXT) (k:Nat) (f:Addr) (fd:FuncData) (ps:List Str) (sp:Sp):Prop where
 len:∀ vs H Q E,sp vs H Q E->vs.length=ps.length
 run:∀ (A:Around) (outer:List Env) (s:Shared) (H:Hp) (args:Args) (us:List Value) (vs:List V) (Q:VK) (E:XK),RoomN k A->Env0 P w K mg base A outer s H->BindsTo s fd args (ps.zip us)->Vals vs us->sp vs H Q E->codeAny (model P w) A (.call (.ref f) args) (CR CX outer P w H s Q E) s
noncomputable def yh5 (CX:CXT)(P:Program)(w:World)(K:PySem.W.Frag)(mg:Str->Option Value)(base:Heap)(N:List Str)(qual:Str)(scope:Scope)(f:Addr)(cd:Value)(A:Around)(outer:List Env)(s:Shared)(H:Hp)(E:XK):Cx where
 prog:=P
 w:=w
 K:=K
 mg:=mg
 base:=base
 A:=A.deeper (envOfC qual scope s.heap.objs.size f cd)
 N:=N
 s₀:=s
 H₀:=H
 env:=envOfC qual scope s.heap.objs.size f cd
 outer:=outer
 stack:=envOfC qual scope s.heap.objs.size f cd :: outer
 ex:=[]
 calm:=false
 fn:=λ_=>true
 pn:=[]
 xe:=λe s'=>wpAny (model P w) (A.deeper (envOfC qual scope s.heap.objs.size f cd)) (leaving (envOfC qual scope s.heap.objs.size f cd) e) (λ_ s''=>CX outer H s E e s'') (λe' s''=>CX outer H s E e' s'') s'
theorem yh8 {CX:CXT}{P:Program}{w:World}{K:PySem.W.Frag}{mg:Str->Option Value}{base:Heap}{N ps:List Str}{qual:Str}{scope:Scope}{f:Addr}{cd:Value}{A:Around}{outer:List Env}{s s1:Shared}{H:Hp}{E:XK}{us:List Value}{vs:List V}
  (S:yan N ps scope) (e0:Env0 P w K mg base A outer s H) (hl:vs.length=ps.length) (r:Vals vs us)
  (x:InCallC s s.heap.objs.size (bindL (envOfC qual scope s.heap.objs.size f cd).kindOf (ps.zip us) λ_=>none) (cellsFrom (s.heap.objs.size+1) scope.names []) (bindC (envOfC qual scope s.heap.objs.size f cd).kindOf (ps.zip us) λ_=>none) s1) :
  Inv (yh5 CX P w K mg base N qual scope f cd A outer s H E) [] (start N vs) H s1:=by
 have hpl:ps.length<=N.length:=by have:=congrArg List.length S.pre;rw[List.length_take] at this;omega
 obtain⟨h1,tk,rfl,hk⟩:=x.done
 have noA:∀ b:Addr,b∉(yh5 CX P w K mg base N qual scope f cd A outer s H E).ex:=λb z=>absurd (show b∈([]:List Addr) from z) (by simp)
 refine⟨⟨e0.mod,S.kind,rfl,rfl,Nat.le_refl _,λy z c h1 h2=>?_,λy hy=>?_,λy c _ h=>?_,λh=>(by cases h),Around.frames_deeper e0.frames,.inr ⟨rfl,rfl⟩,λb z=>absurd z (noA b),e0.bs,e0.bsz,λb _ _=>noA b,λb z=>absurd z (noA b),e0.funs,e0.frf⟩,
  rfl,e0.bare,Un.kept hk,⟨_,x.toInCall.ns,λi y v h1 h2 h3=>?_⟩,λy c h=>⟨_,x.cell y c h⟩,e0.hok.fresh (Nat.le_refl _),λy c h=>?_,λp hp=>absurd (show p∈([]:List (Addr×Obj)) from hp) (by simp),e0.hok.kept hk,?_⟩
 ·exact name_of_addr x.apart (PySem.mem_of_lookup h1) (PySem.mem_of_lookup h2)
 ·have hy:scope.names.lookup y=some .cell∨scope.names.lookup y=some .free:=hy
  rcases hy with hy | hy
  ·exact ydD hy
  ·exact absurd rfl (S.nofree _ (PySem.mem_of_lookup hy))
 ·exact Nat.le_of_lt (x.above y c (PySem.mem_of_lookup h))
 ·have hi:i < vs.length:=by
   unfold start at h2
   by_cases hi:i < vs.length
   ·exact hi
   ·rw[List.getElem?_append_right (by simpa using hi)] at h2
    rw[List.getElem?_replicate] at h2
    split at h2<;>cases h2
  have ha:vs[i]?=some v:=by
   unfold start at h2
   rw[List.getElem?_append_left (by simpa using hi),List.getElem?_map] at h2
   cases e:vs[i]? with
   | none=>rw[e] at h2;cases h2
   | some a=>rw[e] at h2;cases h2;rfl
  obtain⟨u,hu,rv⟩:=r.get ha
  have hp:ps[i]?=some y:=by
   rw[← S.pre,List.getElem?_take_of_lt (by omega)];exact h1
  have ndP:ps.Nodup:=by rw[← S.pre];exact S.nd.sublist (List.take_sublist _ _)
  refine⟨u,rv,?_⟩
  rcases S.par y (List.mem_of_getElem? hp) with k | k
  ·exact .inl ⟨k,ydW ndP hp hu k⟩
  ·obtain⟨c,e⟩:=ydD (n:=s.heap.objs.size+1) k
   refine .inr ⟨.inl k,c,e,?_⟩
   have q:=x.cell y c e
   rw[ydV ndP hp hu (by show scope.names.lookup y≠_;rw[k];decide)] at q
   exact q
 ·exact e0.hok.fresh (Nat.le_of_lt (x.above y c (PySem.mem_of_lookup h)))
 ·unfold start
  show _=N.length
  rw[List.length_append,List.length_map,List.length_replicate]
  omega
theorem yoG {CX:CXT}{P:Program}{w:World}{K:PySem.W.Frag}{mg:Str->Option Value}{base:Heap}{k:Nat}{f:Addr}{name qual:Str}{params:Arguments}{body:List Stmt}{scope:Scope}{dV kV doc pm cdv ct oc:Value}{an od:Option Addr}
  {osl:Array (Option Value)} {N ps:List Str} {sp:Sp} (lk:K.lookup f=some ⟨oc,od,.func (PySem.W.fnOf name qual params body scope dV kV doc pm an cdv ct),osl⟩) (hcd:PySem.W.codeIn K cdv qual=true) (S:yan N ps scope)
  (len:∀ vs H Q E,sp vs H Q E->vs.length=ps.length)
  (hbody:∀ (A:Around) (outer:List Env) (s:Shared) (H:Hp) (vs:List V) (Q:VK) (E:XK),RoomN k (A.deeper (envOfC qual scope s.heap.objs.size f cdv))->sp vs H Q E ->
   ∃ t,PSs (yh5 CX P w K mg base N qual scope f cdv A outer s H E) body t/\t { nx:=λ_ H'=>Q .non H',rt:=Q } (start N vs) H) :
  FnOkN P w K mg base CX (k+1) f (PySem.W.fnOf name qual params body scope dV kV doc pm an cdv ct) ps sp:=by
 refine⟨len,λA outer s H args us vs Q E hr e0 hb r hsp=>?_⟩
 have hl:=len _ _ _ _ hsp
 have KX:K.In s.heap:=e0.mod.kin.keeps λb o e=>(e0.bs b o e).1
 have lim:s.heap.NoLimit:=e0.mod.nolimit.keeps λb o e=>(e0.bs b o e).1
 have hkind:∀ y∈ps.zip us,scope.names.lookup y.1=some .local∨(scope.names.lookup y.1=some .cell/\((cellsFrom (s.heap.objs.size+1) scope.names []).lookup y.1).isSome=true):=λ⟨n,v⟩ hy=>by
  rcases S.par n (List.of_mem_zip hy).1 with q | q
  ·exact .inl q
  ·exact .inr ⟨q,PySem.W.cellsFrom_some _ _ _ (.inl q)⟩
 refine codeAny_call_function hr.depth (KX _ _ lk) rfl S.co S.gen rfl (PySem.W.codeRec_of KX hcd) (hb _ _ _ _ ?_)
 refine wpAny_newFunctionEnv_cells S.kind hkind λenv he s1 x=>?_
 subst he
 refine⟨lim.keeps x.toInCall.keep,codeAny_func ?_⟩
 obtain⟨t,ht,hq⟩:=hbody A outer s H vs Q E (hr.deeper _) hsp
 have I:Inv (yh5 CX P w K mg base N qual scope f cdv A outer s H E) [] (start N vs) H s1:=yh8 S e0 hl r x
 refine wpAny_mono (ht [] s1 (start N vs) H _ I hq) (λfl s' hs=>?_) λe s' hs=>hs
 have fin:∀ {σ':St} {H':Hp} {v:V} {u:Value},Inv (yh5 CX P w K mg base N qual scope f cdv A outer s H E) [] σ' H' s'->RelV v u->Q v H'->CE outer P w H s Q u s' :=
  λ{σ' H' v u} J rv q=>⟨v,H',J.os,J.bare,J.base,J.hok,rv,q⟩
 cases fl with
 | ret u =>
  obtain⟨v,σ',H',J,rv,q⟩:=hs
  exact fin J rv q
 | next =>
  obtain⟨σ',H',J,q⟩:=hs
  exact fin (v:=V.non) (u:=Value.none) J rfl q
 | brk =>
  obtain⟨_,_,_,q⟩:=hs
  exact False.elim q
 | cont =>
  obtain⟨_,_,_,q⟩:=hs
  exact False.elim q
theorem FnOkN.ok {P:Program}{w:World}{K:PySem.W.Frag}{mg:Str->Option Value}{base:Heap}{CX:CXT}{k:Nat}{f:Addr}{fd:FuncData}{ps:List Str}{sp:Sp}(F:FnOkN P w K mg base CX k f fd ps sp):FnOk P w K mg base CX k f fd ps sp :=
 ⟨F.len,λA outer s H args us vs Q E hr=>F.run A outer s H args us vs Q E ⟨hr.dp,hr.un⟩⟩
theorem Fun.okN {P:Program}{w:World}{K:PySem.W.Frag}{mg:Str->Option Value}{base:Heap}{x qual:Str}{st:Stmt}{f:Addr}{fd:FuncData}{N ps:List Str}{k:Nat}{sp:Sp}(F:Fun K x qual st f fd)(S:yan N ps (yah st))(len:∀ vs H Q E,sp vs H Q E->vs.length=ps.length)
  (hbody:∀ (cdv:Value) (A:Around) (outer:List Env) (s:Shared) (H:Hp) (vs:List V) (Q:VK) (E:XK),RoomN k (A.deeper (envOfC qual (yah st) s.heap.objs.size f cdv))->sp vs H Q E ->
   ∃ t,PSs (yh5 CX0 P w K mg base N qual (yah st) f cdv A outer s H E).nox (ybi st) t/\t { nx:=λ_ H'=>Q .non H',rt:=Q } (start N vs) H):FnOkN P w K mg base CX0 (k+1) f fd ps sp:=by
 obtain⟨oc,od,kV,doc,pm,an,cdv,ct,osl,rfl,lk,hcd⟩:=F.ex
 refine yoG lk hcd S len λA outer s H vs Q E hr hsp=>?_
 obtain⟨t,h,q⟩:=hbody cdv A outer s H vs Q E hr hsp
 exact⟨t,h.nox,q⟩
section
variable {X:Cx} {k:Nat} {f:Addr} {fd:FuncData} {ps:List Str} {sp:Sp} {x:Str} {p pos:Pos} {e:Expr} {es:List Expr} {t:TA}
noncomputable def ylY (sp:Sp)(t:TA):TE:=fun σ H Q=>t σ H λvs H1=>sp vs H1 Q λ_ _ _=>False
theorem yeJ (F:FnOkN X.prog X.w X.K X.mg X.base CX0 k f fd ps sp)(hr:RoomN k X.A)(hg:Gl X x)(hm:X.mg x=some (.ref f))(hk:PySem.W.keepIn X.K (.ref f)=true)(hb:Binds X.K fd ps [])
  (ha:PA X (e :: es) t) (hdb:(x==("__debug__" : Str))=false:=by decide) (he:starEach (e :: es) X.env=(false,eval e X.env) :: starEach es X.env:=by rfl) (hpl:(backTo pos (starEach es X.env)).any (·.1)=false:=by rfl) :
  PE X (.Call (.Name x p) (e :: es) [] pos) (ylY sp t):=by
 intro pins s σ H Q I h
 refine wpAny_Call_Name_kw (ycd I hg hm ?_ hdb)
 refine PySem.W.callWith_K (h₀:=X.base) I.ok.mod.kin hk (thn (ha pos pins s σ H _ I h) λus s1 ⟨vs,H1,I1,r,q⟩=>⟨I1.kIn,?_⟩) he hpl
 have hl:us.length=ps.length:=by rw[← r.length];exact F.len _ _ _ _ q
 refine wpAny_call (codeAny_mono (F.run X.A X.stack s1 H1 ⟨us,[]⟩ us vs Q _ hr I1.env0 (by have z:=hb s1 us I1.kIn (by simpa using hl);simpa using z) r q) λr s' hq=>?_)
 cases r with
 | error ev=>exact False.elim hq
 | ok fl =>
  cases fl with
  | ret u=>exact I1.after hq
  | next=>exact False.elim hq
  | brk=>exact False.elim hq
  | cont=>exact False.elim hq
end
end L2
namespace L2
open PySem
section
variable {prog:Program} {w:World} {A:Around} {E:Value->Shared->Prop} {s:Shared}
noncomputable def ygy (h:Heap)(z TI TO:Addr)(f0:Value)(f1:Bool):Prop:=h.get? z=some { cls:=.type "zip",data:=.fields #[f0,.bool f1,.bool false,.ref TI,.ref TO] }
noncomputable def Out (v:Value):Prop:=v=.none∨∃ a t,v=.int a t
theorem ykK {M:Model}{a:Addr}{Q:Option Obj->Shared->Prop}(h:Q (s.heap.get? a) s):wpAny M A (loadIfAlive a) Q E s:=fun Γ p hΓ=>(wpAny_pure (M:=M) (A:=A) (E:=E) h) Γ p hΓ
theorem yrG {z TI TO:Addr}{f0:Value}{f1:Bool}{Q:Bool->Shared->Prop}(hz:ygy s.heap z TI TO f0 f1)(hf:Out f0)(q1:Q true s)(q2:∀ h',Heap.SameBut z s.heap h'->ygy h' z TI TO f0 true->Q false { s with heap:=h' }) :
  wpAny (model prog w) A (Builtin.SmallTypes.ownedTupleIsFree (.ref z)) Q E s:=by
 unfold Builtin.SmallTypes.ownedTupleIsFree
 rcases hf with rfl | ⟨a,t,rfl⟩
 ·exact wpAny_bind (wpAny_field hz rfl (x:=.none) rfl (wpAny_pure q1))
 ·refine wpAny_bind (wpAny_field hz rfl (x:=.int a t) rfl ?_)
  refine wpAny_bind (ykK ?_)
  cases s.heap.get? a.toNat with
  | none=>exact wpAny_pure q1
  | some o =>
   refine wpAny_bind (wpAny_field hz rfl (x:=.bool f1) rfl ?_)
   cases f1 with
   | true=>exact wpAny_pure (q2 s.heap ⟨rfl,λ_ _=>rfl⟩ hz)
   | false =>
    refine wpAny_bind (wpAny_setField hz rfl (by simp) (wpAny_pure (q2 _ (Heap.SameBut.update ..) ?_)))
    exact Heap.get?_update_self _ hz rfl
noncomputable def yqL (prog:Program)(w:World)(A:Around)(z:Addr)(Q:Bool->Shared->Prop)(E:Value->Shared->Prop)(s:Shared):Prop:=wpAny (model prog w) A (Builtin.SmallTypes.ownedTupleIsFree (.ref z)) Q E s
theorem ynh {z:Addr}{Q:Bool->Shared->Prop}(h:yqL prog w A z Q E s):wpAny (model prog w) A (Builtin.SmallTypes.ownedTupleIsFree (.ref z)) Q E s:=h
noncomputable def yri (prog:Program)(w:World)(A:Around)(v:Value)(Q:Value->Shared->Prop)(E:Value->Shared->Prop)(s:Shared):Prop:=wpAny (model prog w) A (Builtin.SmallTypes.nextOf v) Q E s
theorem yhM {v:Value}{Q:Value->Shared->Prop}(h:yri prog w A v Q E s):wpAny (model prog w) A (Builtin.SmallTypes.nextOf v) Q E s:=h
theorem yjK {z TI TO i1 i2:Addr}{f1 f2:List Addr}{n1 n2 k:Nat}{P1 P2:Nat->Value->Prop}{S1 S2:Nat->Heap->Prop}{a b g0:Value}{g1:Bool}{Q:Value->Shared->Prop}(D1:Draws prog w A i1 f1 n1 P1 S1)(D2:Draws prog w A i2 f2 n2 P2 S2)(F:yjS z TO i1 i2 f1 f2)
  (hz:ygy s.heap z TI TO g0 g1) (h0:Out g0) (hi:IsPair s.heap TI (.ref i1) (.ref i2)) (ho:IsPair s.heap TO a b) (h1:S1 k s.heap) (h2:S2 k s.heap) (k1:k < n1) (k2:k < n2)
  (hQ:∀ x y h' tk g0' g1',P1 k x->P2 k y->ygy h' z TI TO g0' g1'->Out g0'->(∃ u v,IsPair h' TO u v)->S1 (k+1) h'->S2 (k+1) h'->IsPair h' s.heap.objs.size x y->h'.objs.size=s.heap.objs.size+1 ->
   (∀ c o,c≠z->c≠TO->c≠i1->c≠i2->s.heap.get? c=some o->h'.get? c=some o)->Q (.ref s.heap.objs.size) { s with heap:=h',toks:=tk }) :
  wpAny (model prog w) A (Builtin.«zip.__next__» ⟨[.ref z],[]⟩) (λfin s'=>∃ v,fin=.done (.ret v)/\Q v s') E s:=by
 unfold Builtin.«zip.__next__»
 have hz':s.heap.get? z=some { cls:=.type "zip",data:=.fields #[g0,.bool g1,.bool false,.ref TI,.ref TO] }:=hz
 wp_walk using yic,wpAny_onRaise,ynh
 refine yrG hz h0 ?_ λha ua va=>?_
 ·wp_walk using yic,wpAny_onRaise
  have u1:Heap.SameBut z s.heap (s.heap.update z (Obj.mapFields λx=>x.setIfInBounds 0 Value.ellipsis)):=Heap.SameBut.update ..
  have v1:ygy (s.heap.update z (Obj.mapFields λx=>x.setIfInBounds 0 Value.ellipsis)) z TI TO .ellipsis g1:=Heap.get?_update_self _ hz' rfl
  generalize s.heap.update z (Obj.mapFields λx=>x.setIfInBounds 0 Value.ellipsis)=g1' at u1 v1 ⊢
  refine D1.item k _ _ _ k1 (D1.frame _ _ _ h1 λc hc o e=>(u1.2 c λq=>F.z1 (q▸hc)).trans e) λx g2 tk2 px st1 u2=>?_
  have u2:Heap.SameBut i1 g1' g2:=u2
  have ho2:IsPair g2 TO a b:=(u2.2 _ F.oa).trans ((u1.2 _ F.oz).trans ho)
  wp_walk using yic,wpAny_onRaise
  have u3:Heap.SameBut TO g2 (g2.update TO (Obj.mapSeq λy=>y.setIfInBounds 0 x)):=Heap.SameBut.update ..
  have v3:IsPair (g2.update TO (Obj.mapSeq λy=>y.setIfInBounds 0 x)) TO x b:=Heap.get?_update_self _ ho2 rfl
  generalize g2.update TO (Obj.mapSeq λy=>y.setIfInBounds 0 x)=g3 at u3 v3 ⊢
  refine D2.item k _ _ _ k2 (D2.frame _ _ _ h2 λc hc o e=>(u3.2 c λq=>F.o2 (q▸hc)).trans ((u2.2 c λq=>F.a2 (q▸hc)).trans ((u1.2 c λq=>F.z2 (q▸hc)).trans e))) λy g4 tk4 py st2 u4=>?_
  have u4:Heap.SameBut i2 g3 g4:=u4
  have v4:IsPair g4 TO x b:=(u4.2 _ F.ob).trans v3
  have w4:ygy g4 z TI TO .ellipsis g1:=(u4.2 _ F.bz.symm).trans ((u3.2 _ F.oz.symm).trans ((u2.2 _ F.az.symm).trans v1))
  have w5:(g4.update TO (Obj.mapSeq λv=>v.setIfInBounds (0+1) y)).get? z=some { cls:=.type "zip",data:=.fields #[.ellipsis,.bool g1,.bool false,.ref TI,.ref TO] }:=Heap.get?_update_of_ne _ F.oz w4
  have v5:IsPair (g4.update TO (Obj.mapSeq λv=>v.setIfInBounds (0+1) y)) TO x y:=Heap.get?_update_self _ v4 rfl
  have u5:Heap.SameBut TO g4 (g4.update TO (Obj.mapSeq λv=>v.setIfInBounds (0+1) y)):=Heap.SameBut.update ..
  wp_walk using yic,wpAny_onRaise
  generalize g4.update TO (Obj.mapSeq λv=>v.setIfInBounds (0+1) y)=g5 at w5 v5 u5 ⊢
  have sz:g5.objs.size=s.heap.objs.size:=by rw[u5.1,u4.1,u3.1,u2.1,u1.1]
  have zl:s.heap.objs.size≠z:=Nat.ne_of_gt (Heap.lt_size hz)
  rw[sz]
  have g6:IsPair (g5.push { cls:=Value.type "tuple",data:=Data.seq #[x,y] }) s.heap.objs.size x y:=by rw[← sz];exact Heap.get?_push_size _ rfl
  have g7:ygy (g5.push { cls:=Value.type "tuple",data:=Data.seq #[x,y] }) z TI TO .ellipsis g1:=Heap.get?_push_of_some _ w5
  have up:∀ c o,c≠z->g5.get? c=some o->(((g5.push { cls:=Value.type "tuple",data:=Data.seq #[x,y] }).update z (Obj.mapFields λv=>v.setIfInBounds 0 (rawInt s.heap.objs.size))).update z (Obj.mapFields λv=>v.setIfInBounds 1 (Value.bool false))).get? c=some o:=λc o n e =>
   Heap.get?_update_of_ne _ n.symm (Heap.get?_update_of_ne _ n.symm (Heap.get?_push_of_some _ e))
  refine⟨_,rfl,hQ x y _ tk4 (rawInt s.heap.objs.size) false px py (Heap.get?_update_self _ (Heap.get?_update_self _ g7 rfl) rfl) (.inr ⟨_,_,rfl⟩) ⟨_,_,up _ _ F.oz v5⟩ (D1.frame _ _ _ st1 λc hc o e=>up c o (λq=>F.z1 (q▸hc)) ?_) (D2.frame _ _ _ st2 λc hc o e=>up c o (λq=>F.z2 (q▸hc)) ?_) (Heap.get?_update_of_ne _ zl.symm (Heap.get?_update_of_ne _ zl.symm g6)) ?_ λc o n1 n2 n3 n4 e=>up c o n1 ?_⟩
  ·exact(u5.2 c λq=>F.o1 (q▸hc)).trans ((u4.2 c λq=>F.b1 (q▸hc)).trans ((u3.2 c λq=>F.o1 (q▸hc)).trans e))
  ·exact(u5.2 c λq=>F.o2 (q▸hc)).trans e
  ·rw[(Heap.SameBut.update ..).1,(Heap.SameBut.update ..).1,Heap.size_push,sz]
  ·exact(u5.2 c n2).trans ((u4.2 c n4).trans ((u3.2 c n2).trans ((u2.2 c n3).trans ((u1.2 c n1).trans e))))
 ·wp_walk using yhM,wpAny_onRaise
  have ua:Heap.SameBut z s.heap ha:=ua
  refine D1.item k _ _ _ k1 (D1.frame _ _ _ h1 λc hc o e=>(ua.2 c λq=>F.z1 (q▸hc)).trans e) λx g2 tk2 px st1 u2=>?_
  have u2:Heap.SameBut i1 ha g2:=u2
  wp_walk using yhM,wpAny_onRaise
  refine D2.item k _ _ _ k2 (D2.frame _ _ _ h2 λc hc o e=>(u2.2 c λq=>F.a2 (q▸hc)).trans ((ua.2 c λq=>F.z2 (q▸hc)).trans e)) λy g4 tk4 py st2 u4=>?_
  have u4:Heap.SameBut i2 g2 g4:=u4
  wp_walk using yhM,wpAny_onRaise
  have sz:g4.objs.size=s.heap.objs.size:=by rw[u4.1,u2.1,ua.1]
  have up:∀ c o,g4.get? c=some o->(g4.push { cls:=Value.type "tuple",data:=Data.seq #[x,y] }).get? c=some o:=λc o e=>Heap.get?_push_of_some _ e
  have w4:ygy g4 z TI TO g0 true:=(u4.2 _ F.bz.symm).trans ((u2.2 _ F.az.symm).trans va)
  have o4:IsPair g4 TO a b:=(u4.2 _ F.ob).trans ((u2.2 _ F.oa).trans ((ua.2 _ F.oz).trans ho))
  have g6:IsPair (g4.push { cls:=Value.type "tuple",data:=Data.seq #[x,y] }) s.heap.objs.size x y:=by rw[← sz];exact Heap.get?_push_size _ rfl
  rw[sz]
  refine⟨_,rfl,hQ x y _ tk4 g0 true px py (up _ _ w4) h0 ⟨_,_,up _ _ o4⟩ (D1.frame _ _ _ st1 λc hc o e=>up c o ((u4.2 c λq=>F.b1 (q▸hc)).trans e)) (D2.frame _ _ _ st2 λc hc o e=>up c o e) g6 (by rw[Heap.size_push,sz]) λc o n1 n2 n3 n4 e=>up c o ((u4.2 c n4).trans ((u2.2 c n3).trans ((ua.2 c n1).trans e)))⟩
theorem yk3 {z TI TO i1 i2:Addr}{f1:List Addr}{n1:Nat}{P1:Nat->Value->Prop}{S1:Nat->Heap->Prop}{a b g0:Value}{g1:Bool}{Q:Fin->Shared->Prop}(D1:Draws prog w A i1 f1 n1 P1 S1)(z1:z∉f1)(az:i1≠z)
  (hz:ygy s.heap z TI TO g0 g1) (h0:Out g0) (hi:IsPair s.heap TI (.ref i1) (.ref i2)) (ho:IsPair s.heap TO a b) (h1:S1 n1 s.heap)
  (hE:∀ h' e,(∀ c o,c≠z->c≠i1->s.heap.get? c=some o->h'.get? c=some o)->(∃ o,h'.get? e=some o/\o.cls=.type "StopIteration")->E (.ref e) { s with heap:=h' }) :
  wpAny (model prog w) A (Builtin.«zip.__next__» ⟨[.ref z],[]⟩) Q E s:=by
 unfold Builtin.«zip.__next__»
 have hz':s.heap.get? z=some { cls:=.type "zip",data:=.fields #[g0,.bool g1,.bool false,.ref TI,.ref TO] }:=hz
 wp_walk using yic,wpAny_onRaise,ynh
 refine yrG hz h0 ?_ λha ua va=>?_
 ·wp_walk using yic,wpAny_onRaise
  have u1:Heap.SameBut z s.heap (s.heap.update z (Obj.mapFields λx=>x.setIfInBounds 0 Value.ellipsis)):=Heap.SameBut.update ..
  have v1:ygy (s.heap.update z (Obj.mapFields λx=>x.setIfInBounds 0 Value.ellipsis)) z TI TO .ellipsis g1:=Heap.get?_update_self _ hz' rfl
  generalize s.heap.update z (Obj.mapFields λx=>x.setIfInBounds 0 Value.ellipsis)=g1' at u1 v1 ⊢
  refine D1.done _ _ _ (D1.frame _ _ _ h1 λc hc o e=>(u1.2 c λq=>z1 (q▸hc)).trans e) λg2 e u2 he=>?_
  have u2:Heap.ExtBut i1 g1' g2:=u2
  have v2:g2.get? z=some { cls:=.type "zip",data:=.fields #[.ellipsis,.bool g1,.bool false,.ref TI,.ref TO] }:=u2 _ _ az.symm v1
  wp_walk
  obtain⟨o,eo,co⟩:=he
  have ez:e≠z:=λq=>by rw[q,v2] at eo;cases eo;simp at co
  exact hE _ _ (λc o n1 n2 q=>Heap.get?_update_of_ne _ n1.symm (u2 _ _ n2 ((u1.2 _ n1).trans q))) ⟨o,Heap.get?_update_of_ne _ ez.symm eo,co⟩
 ·wp_walk using yhM,wpAny_onRaise
  have ua:Heap.SameBut z s.heap ha:=ua
  refine D1.done _ _ _ (D1.frame _ _ _ h1 λc hc o e=>(ua.2 c λq=>z1 (q▸hc)).trans e) λg2 e u2 he=>?_
  have u2:Heap.ExtBut i1 ha g2:=u2
  exact hE _ _ (λc o n1 n2 q=>u2 _ _ n2 ((ua.2 _ n1).trans q)) he
theorem yiK {z TI TO i1 i2:Addr}{f1 f2:List Addr}{n1 n2 k:Nat}{P1 P2:Nat->Value->Prop}{S1 S2:Nat->Heap->Prop}{a b g0:Value}{g1:Bool}{Q:Value->Shared->Prop}(D1:Draws prog w A.in1 i1 f1 n1 P1 S1)(D2:Draws prog w A.in1 i2 f2 n2 P2 S2)(F:yjS z TO i1 i2 f1 f2)
  (hz:ygy s.heap z TI TO g0 g1) (h0:Out g0) (hi:IsPair s.heap TI (.ref i1) (.ref i2)) (ho:IsPair s.heap TO a b) (h1:S1 k s.heap) (h2:S2 k s.heap) (k1:k < n1) (k2:k < n2)
  (hQ:∀ x y h' tk g0' g1',P1 k x->P2 k y->ygy h' z TI TO g0' g1'->Out g0'->(∃ u v,IsPair h' TO u v)->S1 (k+1) h'->S2 (k+1) h'->IsPair h' s.heap.objs.size x y->h'.objs.size=s.heap.objs.size+1 ->
   (∀ c o,c≠z->c≠TO->c≠i1->c≠i2->s.heap.get? c=some o->h'.get? c=some o)->Q (.ref s.heap.objs.size) { s with heap:=h',toks:=tk }) :
  wpAny (model prog w) A (Builtin.SmallTypes.nextOf (.ref z)) Q E s:=by
 have ty:s.TypeIs (.ref z) "zip":= ⟨_,hz,rfl⟩
 unfold Builtin.SmallTypes.nextOf
 refine wpAny_bind (wpAny_callSpecial?_slot (name:=Str.ofString "__next__") ty PySem.F.slot_zip_next (wpAny_call_entry PySem.F.slot_zip_next ty PySem.F.entry_zip_next ?_ (PySem.F.args_zip_next_1 _)))
 exact yjK D1 D2 F hz h0 hi ho h1 h2 k1 k2 λx y h' tk a b p1 p2 a1 a2 a3 a4 a5 a6 a7 a8=>wpAny_pure (hQ x y h' tk a b p1 p2 a1 a2 a3 a4 a5 a6 a7 a8)
theorem yik {z TI TO i1 i2:Addr}{f1:List Addr}{n1:Nat}{P1:Nat->Value->Prop}{S1:Nat->Heap->Prop}{a b g0:Value}{g1:Bool}{Q:Value->Shared->Prop}(D1:Draws prog w A.in1 i1 f1 n1 P1 S1)(z1:z∉f1)(az:i1≠z)
  (hz:ygy s.heap z TI TO g0 g1) (h0:Out g0) (hi:IsPair s.heap TI (.ref i1) (.ref i2)) (ho:IsPair s.heap TO a b) (h1:S1 n1 s.heap)
  (hE:∀ h' e,(∀ c o,c≠z->c≠i1->s.heap.get? c=some o->h'.get? c=some o)->(∃ o,h'.get? e=some o/\o.cls=.type "StopIteration")->E (.ref e) { s with heap:=h' }) :
  wpAny (model prog w) A (Builtin.SmallTypes.nextOf (.ref z)) Q E s:=by
 have ty:s.TypeIs (.ref z) "zip":= ⟨_,hz,rfl⟩
 unfold Builtin.SmallTypes.nextOf
 exact wpAny_bind (wpAny_callSpecial?_slot (name:=Str.ofString "__next__") ty PySem.F.slot_zip_next (wpAny_call_entry PySem.F.slot_zip_next ty PySem.F.entry_zip_next (yk3 D1 z1 az hz h0 hi ho h1 hE) (PySem.F.args_zip_next_1 _)))
theorem yky {en z:Addr}{k:Int}{old:Value}{R:Value->Heap->Nat->Prop}{Q:Option Value->Shared->Prop}(he:IsEnum s.heap en z k old)
  (hd:∀ (Q':Value->Shared->Prop) (E':Value->Shared->Prop),(∀ v h1 tk,IsEnum h1 en z k old->R v h1 tk->Q' v { s with heap:=h1,toks:=tk })->wpAny (model prog w) A.in1 (Builtin.SmallTypes.nextOf (.ref z)) Q' E' s)
  (hQ:∀ v h1 tk h2,R v h1 tk->IsEnumOut h2 en z (k+1) v h1.objs.size->h2.get? h1.objs.size=some { cls:=.type "tuple",data:=.seq #[.int k tk,v] }->(∀ c o,c≠en->h1.get? c=some o->h2.get? c=some o)->Q (some (.ref h1.objs.size)) { s with heap:=h2,toks:=tk+1 }) :
  wpAny (model prog w) A (pyNext (.ref en)) Q E s:=by
 have hT:s.TypeIs (.ref en) "enumerate":= ⟨_,he,rfl⟩
 unfold pyNext
 refine wpAny_bind (wpAny_attempt (wpAny_callSpecial?_slot (name:=Str.ofString "__next__") hT F.slot_enumerate_next (wpAny_call_entry F.slot_enumerate_next hT F.entry_enumerate_next ?_ (F.args_enumerate_next_1 _))))
 unfold Builtin.«enumerate.__next__»
 wp_walk using yhM
 refine hd _ _ λv h1 tk he1 r=>?_
 have he1':h1.get? en=some { cls:=.type "enumerate",dict:=none,data:=.fields #[.none,.bool false,.ref z,rawInt k,.none,old],slots:=#[] }:=he1
 wp_walk
 have u2:Heap.SameBut en h1 ((h1.update en (Obj.mapFields λx=>x.setIfInBounds 3 (rawInt (k+1)))).update en (Obj.mapFields λx=>x.setIfInBounds 4 Value.none)):=⟨((Heap.SameBut.update ..).1).trans (Heap.SameBut.update ..).1,λc n=>((Heap.SameBut.update ..).2 c n).trans ((Heap.SameBut.update ..).2 c n)⟩
 have e2:((h1.update en (Obj.mapFields λx=>x.setIfInBounds 3 (rawInt (k+1)))).update en (Obj.mapFields λx=>x.setIfInBounds 4 Value.none)).get? en=some { cls:=.type "enumerate",dict:=none,data:=.fields #[.none,.bool false,.ref z,rawInt (k+1),.none,old],slots:=#[] }:=Heap.get?_update_self _ (Heap.get?_update_self _ he1' rfl) rfl
 generalize (h1.update en (Obj.mapFields λx=>x.setIfInBounds 3 (rawInt (k+1)))).update en (Obj.mapFields λx=>x.setIfInBounds 4 Value.none)=g2 at u2 e2 ⊢
 rw[u2.1]
 have en1:h1.objs.size≠en:=Nat.ne_of_gt (Heap.lt_size he1)
 have e3:(g2.push { cls:=Value.type "tuple",data:=Data.seq #[Value.int k tk,v] }).get? en=some { cls:=.type "enumerate",dict:=none,data:=.fields #[.none,.bool false,.ref z,rawInt (k+1),.none,old],slots:=#[] }:=Heap.get?_push_of_some _ e2
 have t3:(g2.push { cls:=Value.type "tuple",data:=Data.seq #[Value.int k tk,v] }).get? h1.objs.size=some { cls:=.type "tuple",data:=.seq #[.int k tk,v] }:=by rw[← u2.1];exact Heap.get?_push_size _ rfl
 refine⟨_,rfl,wpAny_pure (hQ v h1 tk _ r (Heap.get?_update_self _ (Heap.get?_update_self _ (Heap.get?_update_self _ e3 rfl) rfl) rfl) ?_ λc o n e=>?_)⟩
 ·exact Heap.get?_update_of_ne _ en1.symm (Heap.get?_update_of_ne _ en1.symm (Heap.get?_update_of_ne _ en1.symm t3))
 ·exact Heap.get?_update_of_ne _ n.symm (Heap.get?_update_of_ne _ n.symm (Heap.get?_update_of_ne _ n.symm (Heap.get?_push_of_some _ ((u2.2 c n).trans e))))
theorem ymy {en z:Addr}{k:Int}{old:Value}{R:Heap->Prop}{Q:Option Value->Shared->Prop}(he:IsEnum s.heap en z k old)
  (hd:∀ (Q':Value->Shared->Prop) (E':Value->Shared->Prop),(∀ h1 e,R h1->(∃ o,h1.get? e=some o/\o.cls=.type "StopIteration")->E' (.ref e) { s with heap:=h1 })->wpAny (model prog w) A.in1 (Builtin.SmallTypes.nextOf (.ref z)) Q' E' s)
  (hQ:∀ h1,R h1->Q none { s with heap:=h1 }):wpAny (model prog w) A (pyNext (.ref en)) Q E s:=by
 have hT:s.TypeIs (.ref en) "enumerate":= ⟨_,he,rfl⟩
 unfold pyNext
 refine wpAny_bind (wpAny_attempt (wpAny_callSpecial?_slot (name:=Str.ofString "__next__") hT F.slot_enumerate_next (wpAny_call_entry F.slot_enumerate_next hT F.entry_enumerate_next ?_ (F.args_enumerate_next_1 _))))
 unfold Builtin.«enumerate.__next__»
 wp_walk using yhM
 refine hd _ _ λh1 e r he'=>?_
 obtain⟨o,ho,hc⟩:=he'
 exact wpAny_bind (wpAny_isInstance (T := "StopIteration") (b:=true) ⟨o,ho,hc⟩ isSubtype_stop (wpAny_pure (hQ _ r)))
end
end L2
namespace PB
open PySem
open PySem.Sem (wp)
open PySem.AutoSeq1 (wpAny_loadPart')
theorem yhO (z TI TO:Addr)(k:Int)(t:Tok)(hk:Builtin.SmallTypes.fitsIndex k=true) :
  Meets (Builtin.«enumerate.__new__» ⟨[.type "enumerate",.ref z],[("start",.int k t)]⟩) (λ_ R s=>IsZip s.heap z TI TO .none /\
   R (.ok (.ret (.ref s.heap.objs.size))) { s with heap:=s.heap.push (enO z k) }):=by
 refine .of_wp λprog w A R s ⟨hl,h⟩=>?_
 obtain⟨hp,g,d,tk,os⟩:=s
 have sb:=sub_enumerate
 have hl':hp.get? z=some { cls:=.type "zip",dict:=none,data:=.fields #[.none,.bool false,.bool false,.ref TI,.ref TO],slots:=#[] }:=hl
 wp_walk using wpAny_loadPart' hl'
 refine wpAny_stack_any λst=>wpAny_pure ?_
 split
 ·rename_i c _ _ _ _ _
  cases (c==Value.type "enumerate")<;>(wp_walk using wpAny_loadPart' hl',wpAny_pyIter_zip hl;exact⟨_,rfl,h⟩)
 ·wp_walk using wpAny_loadPart' hl',wpAny_pyIter_zip hl
  exact⟨_,rfl,h⟩
theorem call_startZ {prog:Program}{w:World}{A:Around}{E:Value->Shared->Prop}{s:Shared}{z TI TO:Addr}{k:Int}{t:Tok}{Q:Value->Shared->Prop}(hk:Builtin.SmallTypes.fitsIndex k=true)(hL:IsZip s.heap z TI TO .none)
  (h:∀ h',IsEnum h' s.heap.objs.size z k .none->(∀ b o,s.heap.get? b=some o->h'.get? b=some o)->Q (.ref s.heap.objs.size) { s with heap:=h' }) :
  wpAny (model prog w) A (call (.type "enumerate") [.ref z] [("start",.int k t)]) Q E s:=by
 refine yiH F.called_enumerate (by decide) (yho _ _) (yhn _ _) (λobj=>yhi obj _ _) F.entry_enumerate_new (yhO z TI TO k t hk) ⟨hL,?_⟩
 have he:=Heap.get?_push_size s.heap (o:=enO z k) rfl
 exact⟨⟨_,he,rfl⟩,h _ he λb o x=>Heap.get?_push_of_some _ x⟩
end PB
namespace L2
open PySem PySem.Spec PyProof.Rows
section
variable {X:Cx}
noncomputable def ypf (K:PySem.W.Frag)(a b:Addr)(k:Nat):It :=
 ⟨λi H=>∃ xs ys x y,SqL K H a xs/\SqL K H b ys/\xs[i]?=some x/\ys[i]?=some y,
  λi H x H'=>∃ p q v u,x=.ref p/\H q=none/\H p=none/\p≠q/\H'=upd (upd H q (.tup [v,u])) p (.tup [.int ((i+k:Nat):Int),.ref q])/\∀ xs ys,SqL K H a xs->SqL K H b ys->xs[i]?=some v/\ys[i]?=some u,
  λi H=>∃ xs,SqL K H a xs/\xs.length=i⟩
noncomputable def yoK (en z TI TO i1 i2 a b:Addr)(k i:Nat)(h:Heap):Prop:=(∃ old,IsEnum h en z ((i+k:Nat):Int) old)/\∃ g0 g1,ygy h z TI TO g0 g1/\Out g0/\IsPair h TI (.ref i1) (.ref i2)/\(∃ u v,IsPair h TO u v)/\h.IsListIter i1 a i/\h.IsListIter i2 b i
structure Six (en z TI TO i1 i2:Addr):Prop extends ypk z TI TO i1 i2 where
 e1:en≠z
 e2:en≠TI
 e3:en≠TO
 e4:en≠i1
 e5:en≠i2
theorem yma {h:Heap}{en z TI TO i1 i2 a b:Addr}{k i:Nat}{xs ys:Array Value}(F:Six en z TI TO i1 i2)(st:yoK en z TI TO i1 i2 a b k i h)(ha:h.IsList a xs)(hb:h.IsList b ys):yjS z TO i1 i2 [i1,a] [i2,b]/\a≠i1/\b≠i2/\a≠z:=by
 obtain⟨_,g0,g1,s1,_,s2,⟨u,v,s3⟩,⟨o4,s4,c4,_⟩,⟨o5,s5,c5,_⟩⟩:=st
 obtain⟨oa,ga,ca,_⟩:=ha
 obtain⟨ob,gb,cb,_⟩:=hb
 have az:a≠z:=ybu ga s1 (by rw[ca];show Value.type "list" ≠ .type "zip";decide)
 have bz:b≠z:=ybu gb s1 (by rw[cb];show Value.type "list" ≠ .type "zip";decide)
 have n1:a≠TO:=ybu ga s3 (by rw[ca];show Value.type "list" ≠ .type "tuple";decide)
 have n2:b≠TO:=ybu gb s3 (by rw[cb];show Value.type "list" ≠ .type "tuple";decide)
 have a1:a≠i1:=ybu ga s4 (by rw[ca,c4];decide)
 have a2:a≠i2:=ybu ga s5 (by rw[ca,c5];decide)
 have b1:b≠i1:=ybu gb s4 (by rw[cb,c4];decide)
 have b2:b≠i2:=ybu gb s5 (by rw[cb,c5];decide)
 have off:∀ {x y c:Addr},c≠x->c≠y->c∉[x,y]:=λp q m=>by
  simp only[List.mem_cons,List.not_mem_nil,or_false] at m
  exact m.elim p q
 exact⟨⟨off F.a3.symm az.symm,off F.a4.symm bz.symm,off F.a8 n1.symm,off F.a9 n2.symm,off F.a0 b1.symm,off F.a0.symm a2.symm,F.a2,F.a3,F.a4,F.a8,F.a9⟩,a1,b2,az⟩
theorem ylj {P:Program}{w:World}{K:PySem.W.Frag}{elts:List Expr}{x1}{tp:Pos}{en z TI TO i1 i2 a b:Addr}{k:Nat}(F:Six en z TI TO i1 i2):yjZ P w K (.Tuple elts x1 tp) (ypf K a b k) [en,z,TI,TO,i1,i2] en (yoK en z TI TO i1 i2 a b k) where
 mem:=by simp
 obj:=λi h st c hc=>by
  obtain⟨⟨old,s0⟩,g0,g1,s1,_,s2,⟨u,v,s3⟩,⟨o4,s4,_,d4⟩,⟨o5,s5,_,d5⟩⟩:=st
  simp only[List.mem_cons,List.not_mem_nil,or_false] at hc
  rcases hc with rfl | rfl | rfl | rfl | rfl | rfl
  ·exact⟨_,s0,λv=>nofun⟩
  ·exact⟨_,s1,λv=>nofun⟩
  ·exact⟨_,s2,λv=>nofun⟩
  ·exact⟨_,s3,λv=>nofun⟩
  ·exact⟨_,s4,λv e=>by rw[d4] at e;cases e⟩
  ·exact⟨_,s5,λv e=>by rw[d5] at e;cases e⟩
 keep:=λi h h' st k=>by
  obtain⟨⟨old,s0⟩,g0,g1,s1,o,s2,⟨u,v,s3⟩,s4,s5⟩:=st
  exact⟨⟨old,k _ (by simp) _ s0⟩,g0,g1,k _ (by simp) _ s1,o,k _ (by simp) _ s2,⟨u,v,k _ (by simp) _ s3⟩,s4.at λo e=>k _ (by simp) o e,s5.at λo e=>k _ (by simp) o e⟩
 item:=by
  intro X hP hw hK hc i pins s σ H E I hf st hg
  subst hP hw hK
  obtain⟨xs,ys,x,y,hx,hy,ex,ey⟩:=hg
  obtain⟨itx,rx,px,_⟩:=I.list hx
  obtain⟨ity,ry,py,_⟩:=I.list hy
  obtain⟨u,eu,ru⟩:=rx.get ex
  obtain⟨v,ev,rv⟩:=ry.get ey
  obtain⟨O,na,nb,_⟩:=yma F st px.isList py.isList
  obtain⟨⟨old,s0⟩,g0,g1,s1,o0,s2,⟨p,q,s3⟩,s4,s5⟩:=st
  have hd:X.A.in1.in1.handled=none:=I.ok.hd hc
  have li:i < itx.toArray.size:=by have:=(List.getElem?_eq_some_iff.mp eu).1;simpa using this
  have lj:i < ity.toArray.size:=by have:=(List.getElem?_eq_some_iff.mp ev).1;simpa using this
  refine yky (R:=λvv h1 tk=>vv=.ref s.heap.objs.size/\h1.objs.size=s.heap.objs.size+1/\IsPair h1 s.heap.objs.size u v/\(∃ g0 g1,ygy h1 z TI TO g0 g1/\Out g0)/\(∃ u v,IsPair h1 TO u v)/\h1.IsListIter i1 a (i+1)/\h1.IsListIter i2 b (i+1)/\∀ c o,c≠z->c≠TO->c≠i1->c≠i2->s.heap.get? c=some o->h1.get? c=some o) s0 (λQ' E' q'=>?_) λvv h1 tk h2 r heo ht k2=>?_
  ·refine yiK (Draws.list hd i1 a na itx.toArray) (Draws.list hd i2 b nb ity.toArray) O s1 o0 s2 s3 ⟨s4,px.isList⟩ ⟨s5,py.isList⟩ li lj λu' v' h1 tk g0' g1' e1 e2 b1 b2 b3 b4 b5 b6 b7 kp=>?_
   have e1:itx[i]?=some u':=by simpa using e1
   have e2:ity[i]?=some v':=by simpa using e2
   rw[eu] at e1
   rw[ev] at e2
   cases e1
   cases e2
   exact q' _ h1 tk (kp _ _ F.e1 F.e3 F.e4 F.e5 s0) ⟨rfl,b7,b6,⟨_,_,b1,b2⟩,b3,b4.1,b5.1,kp⟩
  ·obtain⟨rfl,sz,tp1,⟨g0',g1',z1,o1⟩,⟨p',q',to1⟩,l1,l2,kp⟩:=r
   refine⟨_,rfl,wpAny_letOwnedTupleGo_enum heo λh3 he3 sb=>?_⟩
   have sb:Heap.SameBut en h2 h3:=sb
   have lt:∀ {c:Addr} {o:Obj},s.heap.get? c=some o->c < s.heap.objs.size:=λe=>Heap.lt_size e
   have enl:en < s.heap.objs.size:=lt s0
   have I1:Inv X pins σ (upd H s.heap.objs.size (.tup [x,y])) { s with heap:=h1,toks:=tk }:=I.tupBut (t':=tk) hf (λc o n e=>by
    simp only[List.mem_cons,List.not_mem_nil,or_false,not_or] at n
    exact kp c o n.2.1 n.2.2.2.1 n.2.2.2.2.1 n.2.2.2.2.2 e) (vs:=[x,y]) (its:=[u,v]) (by show 2<=sizeLine;decide) (.cons ru (.cons rv .nil)) ⟨_,tp1,rfl,_,rfl⟩
   have hf1:∀ c∈[en],yft X pins (upd H s.heap.objs.size (.tup [x,y])) c:=λc hc=>by
    cases List.mem_singleton.mp hc
    obtain⟨f0,fr⟩:=hf en (by simp)
    exact⟨by rw[yai (Nat.ne_of_lt enl)];exact f0,fr⟩
   have I2:=I1.tupBut (s:={ s with heap:=h1,toks:=tk }) (h':=h3) (t':=tk+1) hf1 (λc o n e=>(sb.2 c (λz=>n (by simp[z]))).trans (k2 c o (λz=>n (by simp[z])) e)) (vs:=[.int ((i+k:Nat):Int),.ref s.heap.objs.size]) (its:=[.int ((i+k:Nat):Int) tk,.ref s.heap.objs.size]) (by show 2<=sizeLine;decide) (.cons ⟨_,rfl⟩ (.cons rfl .nil)) ⟨_,(sb.2 _ (Nat.ne_of_gt (show en < h1.objs.size by rw[sz];exact Nat.lt_succ_of_lt enl))).trans ht,rfl,_,rfl⟩
   have fr1:H s.heap.objs.size=none:=I.hok.fresh (Nat.le_refl _)
   have fr2:H h1.objs.size=none:=I.hok.fresh (by omega)
   have nb:∀ c∈[en,z,TI,TO,i1,i2],c < s.heap.objs.size:=λc hcm=>by
    obtain⟨o4,g4,_⟩:=s4
    obtain⟨o5,g5,_⟩:=s5
    simp only[List.mem_cons,List.not_mem_nil,or_false] at hcm
    rcases hcm with rfl | rfl | rfl | rfl | rfl | rfl
    ·exact lt s0
    ·exact lt s1
    ·exact lt s2
    ·exact lt s3
    ·exact lt g4
    ·exact lt g5
   have up:∀ c o,c≠en->h1.get? c=some o->h3.get? c=some o:=λc o n e=>(sb.2 c n).trans (k2 c o n e)
   refine⟨.ref h1.objs.size,_,I2,rfl,⟨_,_,x,y,rfl,fr1,fr2,(by rw[sz];exact Nat.succ_ne_self _),rfl,λxs' ys' hx' hy'=>by rw[I.list_inj hx' hx,I.list_inj hy' hy];exact⟨ex,ey⟩⟩,⟨⟨_,by rw[show((i+1+k:Nat):Int)=((i+k:Nat):Int)+1 by omega];exact he3⟩,g0',g1',up _ _ F.e1.symm z1,o1,up _ _ F.e2.symm (kp _ _ F.a1 F.a5 F.a6 F.a7 s2),⟨_,_,up _ _ F.e3.symm to1⟩,l1.at λo e=>up _ o F.e4.symm e,l2.at λo e=>up _ o F.e5.symm e⟩,λc hcm=>?_⟩
   have:=nb c hcm
   rw[yai (Nat.ne_of_lt (show c < h1.objs.size by rw[sz];exact Nat.lt_succ_of_lt this)),yai (Nat.ne_of_lt this)]
   exact(hf c hcm).1
 done:=by
  intro X hP hw hK hc i pins s σ H E I hf st hg
  subst hP hw hK
  obtain⟨xs,hx,he⟩:=hg
  obtain⟨itx,rx,px,_⟩:=I.list hx
  have hd:X.A.in1.in1.handled=none:=I.ok.hd hc
  obtain⟨⟨old,s0⟩,g0,g1,s1,o0,s2,⟨p,q,s3⟩,s4,s5⟩:=st
  have na:a≠i1:=by
   obtain⟨o,e,c,_⟩:=px.isList
   obtain⟨o4,e4,c4,_⟩:=id s4
   exact ybu e e4 (by rw[c,c4];decide)
  have az:a≠z:=by
   obtain⟨o,e,c,_⟩:=px.isList
   exact ybu e s1 (by rw[c];show Value.type "list" ≠ .type "zip";decide)
  have enn:itx.toArray.size=i:=by rw[← he,rx.length];simp
  refine ymy (R:=λh1=>∀ c o,c≠z->c≠i1->s.heap.get? c=some o->h1.get? c=some o) s0 (λQ' E' q'=>yik (Draws.list hd i1 a na itx.toArray) (λm=>?_) F.a3 s1 o0 s2 s3 ⟨by rw[enn];exact s4,px.isList⟩ λh1 e kp he=>q' h1 e kp he) λh1 kp=>⟨rfl,?_⟩
  ·simp only[List.mem_cons,List.not_mem_nil,or_false] at m
   exact m.elim (λe=>F.a3 e.symm) λe=>az e.symm
  have off:∀ b u,H b=some u->b∉[en,z,TI,TO,i1,i2]:=λb u h m=>by rw[(hf b m).1] at h;cases h
  have k2:∀ c o,c∉[en,z,TI,TO,i1,i2]->s.heap.get? c=some o->h1.get? c=some o:=λc o n e=>by
   simp only[List.mem_cons,List.not_mem_nil,or_false,not_or] at n
   exact kp c o n.2.1 n.2.2.2.2.1 e
  exact I.step (g':=s.gens) (d':=s.drawn) (t':=s.toks) (ch:=[en,z,TI,TO,i1,i2]) (λb hb=>⟨(hf b hb).2.2.2.1,(hf b hb).2.1,(hf b hb).2.2.2.2⟩) (λb o _ _ n e _=>k2 b o n e) (λb o _ _ n e _=>⟨o.slots,k2 b o n e⟩) (λ_ _ _ _ n=>n)
   (λb o n e=>⟨o,k2 b o n e⟩) (λ_ _ h=>h) (λ_ _ _ h=>h) (λ_ ps h=>⟨#[],by rw[h];simp⟩) (λm hm=>hm.at λo e=>k2 _ o (λn=>(hf _ n).2.1 rfl) e) (λb u h=>(I.hok b u h).stay (λc v hc q=>k2 c v (hc.elim (λe=>e▸off b u h) λe=>off c _ e) q) (λ_ h=>h) λ_ _ h=>h) I.bare
 self:=λ_ _ _ _ _ ⟨⟨old,st1⟩,_⟩ h=>wpAny_pyIter_enum st1 h
noncomputable def ylQ (K:PySem.W.Frag)(ta:TA)(tk:TE):TI:=fun σ H R=>ta σ H λvs H1=>∃ a b,vs=[.ref a,.ref b]/\(∃ xs,SqL K H1 a xs)/\(∃ ys,SqL K H1 b ys)/\tk σ H1 λz H2=>∃ k:Nat,z=.int (k:Int)/\k < 1000000/\R (ypf K a b k) H2
theorem yk5 {elts:List Expr}{x1}{tp:Pos}{a b ke:Expr}{ta:TA}{tk:TE}{p pz pos posz kp:Pos}(hg:Gl X "enumerate")(hm:X.mg "enumerate"=none)(hgz:Gl X "zip")(hmz:X.mg "zip"=none)(ha:PA X [a,b] ta)(hk:PE X ke tk)
  (hs:starEach [a,b] X.env=[(false,eval a X.env),(false,eval b X.env)]:=by rfl) (hs2:starEach [b] X.env=[(false,eval b X.env)]:=by rfl) (hs3:starEach [.Call (.Name "zip" pz) [a,b] [] posz] X.env=[(false,eval (.Call (.Name "zip" pz) [a,b] [] posz) X.env)]:=by rfl) :
  PI X (.Tuple elts x1 tp) (.Call (.Name "enumerate" p) [.Call (.Name "zip" pz) [a,b] [] posz] [⟨some "start",ke,kp⟩] pos) (ylQ X.K ta tk):=by
 intro pins s σ H R I h
 refine wpAny_Call_Name_kw (ycG I hg hm boot_enumerate ?_)
 refine ydt ?_ (by rw[hs3];rfl) (by rw[hs3];rfl) rfl rfl
 rw[hs3]
 show wpAny _ _ (spliced [(false,eval (.Call (.Name "zip" pz) [a,b] [] posz) X.env)]) _ _ s
 refine Calls.spliced_cons ?_
 refine Call_ (ycG I hgz hmz yha (PyProof.Rows.callWith_type1 (thn (ha posz pins s σ H _ I h) λus s1 ⟨vs,H1,I1,r1,q1⟩=>?_) (by rw[hs,hs2]) (by rw[hs2];rfl)))
 obtain⟨la,lb,e,⟨xs,hx⟩,⟨ys,hy⟩,q⟩:=q1
 subst e
 obtain⟨u,v,rfl,ru,rv⟩:=ygS r1
 cases ru
 cases rv
 have lt:∀ n,yft X pins H1 (s1.heap.objs.size+n):=λn=>I1.fpOk (Nat.le_add_right _ _) (I1.hok.fresh (Nat.le_add_right _ _))
 have ne:∀ {n m:Nat},n≠m->s1.heap.objs.size+n≠s1.heap.objs.size+m:=λh e=>h (Nat.add_left_cancel e)
 have five:ypk (s1.heap.objs.size+4) (s1.heap.objs.size+2) (s1.heap.objs.size+3) (s1.heap.objs.size+0) (s1.heap.objs.size+1):=⟨ne (by decide),ne (by decide),ne (by decide),ne (by decide),ne (by decide),ne (by decide),ne (by decide),ne (by decide),ne (by decide),ne (by decide)⟩
 have fp:∀ c∈[s1.heap.objs.size+4,s1.heap.objs.size+2,s1.heap.objs.size+3,s1.heap.objs.size+0,s1.heap.objs.size+1],yft X pins H1 c:=λc hc=>by
  simp only[List.mem_cons,List.not_mem_nil,or_false] at hc
  rcases hc with rfl | rfl | rfl | rfl | rfl<;>exact lt _
 obtain⟨itx,rx,px,_⟩:=I1.list hx
 obtain⟨ity,ry,py,_⟩:=I1.list hy
 refine call_zip_2 px.isList py.isList λh' b1 b2 b3 b4 b5 sz kp=>Calls.spliced_nil ?_
 have TZ:yjZ X.prog X.w X.K (.Tuple elts x1 tp) (Itz X.K la lb) [s1.heap.objs.size+4,s1.heap.objs.size+2,s1.heap.objs.size+3,s1.heap.objs.size+0,s1.heap.objs.size+1] (s1.heap.objs.size+4) (yko _ _ _ _ _ la lb):=yhl five
 have st:yko (s1.heap.objs.size+4) (s1.heap.objs.size+2) (s1.heap.objs.size+3) (s1.heap.objs.size+0) (s1.heap.objs.size+1) la lb 0 h':=⟨b1,b2,⟨_,_,b3⟩,b4,b5⟩
 have I1k:Inv X pins σ H1 { s1 with heap:=h' }:=I1.kept (t':=s1.toks) kp
 have I1p:=I1k.pinned fp (TZ.obj 0 h' st)
 refine kws_cons (thn (hk _ _ σ H1 _ I1p q) λfv s2 ⟨zv,H2,I2p,rf,k,e,kb,q2⟩=>kws_nil ?_)
 subst e
 obtain⟨t,rfl⟩:=rf
 have kp2:∀ c∈[s1.heap.objs.size+4,s1.heap.objs.size+2,s1.heap.objs.size+3,s1.heap.objs.size+0,s1.heap.objs.size+1],∀ o,h'.get? c=some o->s2.heap.get? c=some o/\H2 c=none:=λc hc o e=>by
  have z:=I2p.pin (c,o) (List.mem_append_right _ (List.mem_append_right _ (yb3 hc e)))
  exact⟨z.1,z.2.1⟩
 have st2:=TZ.keep 0 h' s2.heap st λc hc o e=>(kp2 c hc o e).1
 have I2:Inv X pins σ H2 s2:=I2p.unpinned
 refine PB.call_startZ (by unfold Builtin.SmallTypes.fitsIndex;simp;omega) st2.1 λh3 he hkp=>?_
 have old:∀ c∈[s1.heap.objs.size+4,s1.heap.objs.size+2,s1.heap.objs.size+3,s1.heap.objs.size+0,s1.heap.objs.size+1],c≠s2.heap.objs.size:=λc hc=>by
  obtain⟨o,g,_⟩:=TZ.obj 0 s2.heap st2 c hc
  exact Nat.ne_of_lt (Heap.lt_size g)
 have six:Six s2.heap.objs.size (s1.heap.objs.size+4) (s1.heap.objs.size+2) (s1.heap.objs.size+3) (s1.heap.objs.size+0) (s1.heap.objs.size+1):={ five with e1:=(old _ (by simp)).symm,e2:=(old _ (by simp)).symm,e3:=(old _ (by simp)).symm,e4:=(old _ (by simp)).symm,e5:=(old _ (by simp)).symm }
 obtain⟨c1,c2,⟨u,v,c3⟩,c4,c5⟩:=st2
 refine wpAny_pyIter_enum he ⟨s2.heap.objs.size,_,_,_,H2,rfl,I2.kept (t':=s2.toks) hkp,ylj six,⟨⟨_,by rw[Nat.zero_add];exact he⟩,.none,false,hkp _ _ c1,.inl rfl,hkp _ _ c2,⟨u,v,hkp _ _ c3⟩,c4.at λo e=>hkp _ o e,c5.at λo e=>hkp _ o e⟩,λc hc=>?_,q2⟩
 rcases List.mem_cons.mp hc with rfl | hc
 ·exact I2.fpOk (Nat.le_refl _) (I2.hok.fresh (Nat.le_refl _))
 ·obtain⟨o,g,_⟩:=TZ.obj 0 h' st c hc
  exact⟨(kp2 c hc o g).2,(fp c hc).2⟩
theorem yjI {K:PySem.W.Frag}{a b:Addr}{k:Nat}{xs ys:List V}{g:TG}{tb:TS}{D:ydh}{σ:St}{H:Hp}(len:xs.length=ys.length)(Pv:Nat->St->Hp->Prop)(h0:Pv 0 σ H)(hl:∀ i σ H,i<=xs.length->Pv i σ H->SqL K H a xs/\SqL K H b ys)
  (hs:∀ i x y σ H p q (N:St->Hp->Prop),(∀ σ' H',Pv (i+1) σ' H'->N σ' H')->xs[i]?=some x->ys[i]?=some y->Pv i σ H->H q=none->H p=none->p≠q->g (.ref p) σ (upd (upd H q (.tup [x,y])) p (.tup [.int ((i+k:Nat):Int),.ref q])) fun σ2 H2=>tb { D with nx:=N,ct:=N,bk:=D.nx } σ2 H2) (hd:∀ σ H,Pv xs.length σ H->D.nx σ H):ykW (ypf K a b k) g tb D σ H:=by
 refine⟨λi m σ H=>m=xs.length - i/\i<=xs.length/\Pv i σ H,⟨xs.length,by simp,Nat.zero_le _,h0⟩,?_⟩
 rintro i m σ H ⟨rfl,hi,p⟩
 obtain⟨q1,q2⟩:=hl i σ H hi p
 rcases Nat.lt_or_eq_of_le hi with hlt | rfl
 ·refine .inr ⟨⟨xs,ys,xs[i],ys[i]'(by omega),q1,q2,by simp[hlt],by simp[show i < ys.length by omega]⟩,Pv (i+1),fun σ' H' p'=>⟨xs.length - (i+1),by omega,rfl,hlt,p'⟩,?_⟩
  rintro _ _ ⟨b,c,v,u,rfl,e1,e2,e3,rfl,y⟩
  obtain⟨y1,y2⟩:=y xs ys q1 q2
  exact hs i v u σ H b c _ (λ_ _ z=>z) y1 y2 p e1 e2 e3
 ·exact .inl ⟨⟨xs,q1,rfl⟩,hd σ H p⟩
noncomputable def yl1 (K:PySem.W.Frag):V->List V->Hp->VK->Prop:=λx vs H Q=>∃ (l:Addr) (xs:List V) (y:V) (j:Nat),x=.ref l/\vs=[y]/\SqL K H l xs/\ybE y=true/\xs.all ybE=true/\j < xs.length/\(∀ z,xs[j]?=some z->eqV z y=true)/\(∀ i z,i < j->xs[i]?=some z->eqV z y=false)/\Q (.int (j:Int)) H
theorem ykT:MtM X "list.index" (yl1 X.K):=by
 intro pins s σ H x vs v us Q I rx rv h
 obtain⟨l,xs,y,j,rfl,rfl,hq,fy,fs,hj,hit,hno,q⟩:=h
 cases rx
 obtain⟨u,rfl,ru⟩:=rv.one
 obtain⟨its,r,pl,hz⟩:=I.list hq
 have el:=r.length
 have big:sizeLine < 2 ^ 62:=by decide
 have at':∀ i (hi:i < its.length),eqU y its[i]=eqV xs[i] y:=λi hi=>by
  obtain⟨w,ew,rw'⟩:=r.get (List.getElem?_eq_getElem (show i < xs.length by omega))
  have:w=its[i]:=by rw[List.getElem?_eq_getElem hi] at ew;exact(Option.some.inj ew).symm
  rw[← this]
  exact yhF rw' (List.all_eq_true.mp fs _ (List.getElem_mem _))
 obtain⟨o,n,e,hc,hd,hsl⟩:=pl
 obtain⟨cls,dd,data,sl⟩:=o
 simp only at hc hd hsl
 subst hc
 subst hsl
 refine call_meets F.slot_list_index ⟨_,e,rfl⟩ F.entry_list_index (F.args_list_index_2 _ _) (SeqAt.list_indexAt l its.toArray n dd sl u (eqU y) j (by simp;omega) (by omega) ?_ λm hm lt=>?_) ⟨e,λw hw=>yci ru fy r fs w (by simpa using hw),⟨.int (j:Int),H,?_,⟨_,rfl⟩,q⟩⟩
 ·have:=at' j (by omega)
  simp only[List.getElem_toArray]
  rw[this]
  exact hit _ (List.getElem?_eq_getElem hj)
 ·have hm':m < its.length:=by simpa using hm
  have:=at' m hm'
  simp only[List.getElem_toArray]
  rw[this]
  exact hno m _ lt (List.getElem?_eq_getElem (by omega))
 ·exact I.kept (h':=s.heap) (t':=s.toks+1) λb o g=>g
noncomputable def ynR (K:PySem.W.Frag):V->List V->Hp->VK->Prop:=λx vs H Q=>∃ (l:Addr) (xs:List V) (y:V),x=.ref l/\vs=[y]/\SqL K H l xs/\ybE y=true/\xs.all ybE=true/\Q (.int ((xs.countP λz=>eqV z y:Nat):Int)) H
theorem yhT {y:V}{xs:List V}{us:List Value}(r:Vals xs us):xs.all ybE=true->us.countP (eqU y)=xs.countP λz=>eqV z y:=by
 induction r with
 | nil=>intro _;rfl
 | cons a t ih =>
  intro f
  rw[List.all_cons,Bool.and_eq_true] at f
  rw[List.countP_cons,List.countP_cons,ih f.2,yhF a f.1]
theorem ykU:MtM X "list.count" (ynR X.K):=by
 intro pins s σ H x vs v us Q I rx rv h
 obtain⟨l,xs,y,rfl,rfl,hq,fy,fs,q⟩:=h
 cases rx
 obtain⟨u,rfl,ru⟩:=rv.one
 obtain⟨its,r,pl,hz⟩:=I.list hq
 obtain⟨o,n,e,hc,hd,hsl⟩:=pl
 obtain⟨cls,dd,data,sl⟩:=o
 simp only at hc hd hsl
 subst hc
 subst hsl
 refine call_meets F.slot_list_count ⟨_,e,rfl⟩ F.entry_list_count (F.args_list_count_2 _ _) (SeqAt.list_countAt l its.toArray n dd sl u (eqU y)) ⟨e,λw hw=>yci ru fy r fs w (by simpa using hw),⟨.int _,H,?_,⟨_,rfl⟩,?_⟩⟩
 ·exact I.kept (h':=s.heap) (t':=s.toks+1) λb o g=>g
 ·rw[show its.toArray.toList=its by simp,yhT r fs]
  exact q
end
section
variable {P:Program} {w:World} {K:PySem.W.Frag} {mg:Str->Option Value} {base:Heap} {x qual:Str} {st:Stmt} {f:Addr} {fd:FuncData} {N ps:List Str} {k:Nat} {sp:Sp}
theorem Fun.okG (F:Fun K x qual st f fd)(S:yan N ps (yah st))(len:∀ vs H Q E,sp vs H Q E->vs.length=ps.length)
  (hbody:∀ (cdv:Value) (A:Around) (outer:List Env) (s:Shared) (H:Hp) (vs:List V) (Q:VK) (E:XK),Room k (A.deeper (envOfC qual (yah st) s.heap.objs.size f cdv))->sp vs H Q E ->
   ∃ t,PSs (ydH (CXg P w) P w K mg base N qual (yah st) f cdv A outer s H E) (ybi st) t/\t { nx:=λ_ H'=>Q .non H',rt:=Q } (start N vs) H):FnOk P w K mg base (CXg P w) (k+1) f fd ps sp:=by
 obtain⟨oc,od,kV,doc,pm,an,cdv,ct,osl,rfl,lk,hcd⟩:=F.ex
 exact yoz lk hcd S len λA outer s H vs Q E hr hsp=>hbody cdv A outer s H vs Q E hr hsp
end
theorem yoX {P:Program}{w:World}{K:PySem.W.Frag}{mg:Str->Option Value}{base:Heap}{N:List Str}{qual:Str}{scope:Scope}{f:Addr}{cd:Value}{A:Around}{outer:List Env}{s:Shared}{H:Hp}{E:XK} :
  PassesOwn (model P w) (ydH (CXg P w) P w K mg base N qual scope f cd A outer s H E).A (ydH (CXg P w) P w K mg base N qual scope f cd A outer s H E).env (ydH (CXg P w) P w K mg base N qual scope f cd A outer s H E).xe:=PassesOwn.leaving
noncomputable def yiX (CX:CXT)(X:Cx)(E:XK)(S:St->Prop):Prop:=∀ (pins:List (Addr×Obj)) (σ:St) (H:Hp) (s:Shared) (e:Value) (s':Shared),S σ->Inv X pins σ H s->CX X.stack H s E e s'->X.xe e s'
section
variable {X:Cx} {k:Nat} {f:Addr} {fd:FuncData} {ps:List Str} {sp:Sp} {x:Str} {p pos:Pos} {e:Expr} {es:List Expr} {t:TA}
noncomputable def yoJ (S:St->Prop)(sp:Sp)(E:XK)(t:TA):TE:=fun σ H Q=>S σ/\t σ H λvs H1=>sp vs H1 Q E
theorem ykH {CX:CXT}{E:XK}{S:St->Prop}(F:FnOk X.prog X.w X.K X.mg X.base CX k f fd ps sp)(hr:Room k X.A)(hx:yiX CX X E S)(hg:Gl X x)(hm:X.mg x=some (.ref f))(hk:PySem.W.keepIn X.K (.ref f)=true)(hb:Binds X.K fd ps [])
  (ha:PA X (e :: es) t) (hdb:(x==("__debug__" : Str))=false:=by decide) (he:starEach (e :: es) X.env=(false,eval e X.env) :: starEach es X.env:=by rfl) (hpl:(backTo pos (starEach es X.env)).any (·.1)=false:=by rfl) :
  PE X (.Call (.Name x p) (e :: es) [] pos) (yoJ S sp E t):=by
 intro pins s σ H Q I h
 obtain⟨hS,h⟩:=h
 refine wpAny_Call_Name_kw (ycd I hg hm ?_ hdb)
 refine PySem.W.callWith_K (h₀:=X.base) I.ok.mod.kin hk (thn (ha pos pins s σ H _ I h) λus s1 ⟨vs,H1,I1,r,q⟩=>⟨I1.kIn,?_⟩) he hpl
 have hl:us.length=ps.length:=by rw[← r.length];exact F.len _ _ _ _ q
 refine wpAny_call (codeAny_mono (F.run X.A X.stack s1 H1 ⟨us,[]⟩ us vs Q E hr I1.env0 (by have z:=hb s1 us I1.kIn (by simpa using hl);simpa using z) r q) λr s' hq=>?_)
 cases r with
 | error ev=>exact hx pins σ H1 s1 ev s' hS I1 hq
 | ok fl =>
  cases fl with
  | ret u=>exact I1.after hq
  | next=>exact False.elim hq
  | brk=>exact False.elim hq
  | cont=>exact False.elim hq
end
noncomputable def ygC (K:PySem.W.Frag)(B:Addr)(i:Nat)(σ:St)(th:Addr->TS)(D:ydh):XK:=λev c Hx=>∃ C,c=some C/\PySem.W.exmOne K (.ref C) (.ref B)=some true/\∀ a,ev=.ref a->th a { nx:=λ_ _=>False,rt:=D.rt } (σ.set i (some (.ref a))) Hx
noncomputable def yon (K:PySem.W.Frag)(B:Addr)(i:Nat)(ts:(St->Prop)->XK->TS)(th:Addr->TS):TS:=λD σ H=>ts (·=σ) (ygC K B i σ th D) D σ H
theorem ymc {X:Cx}{B:Addr}{cx n:Str}{i:Nat}{ts:(St->Prop)->XK->TS}{th:Addr->TS}{b₁:Stmt}{su:List Stmt}{b₀:Stmt}{suite:List Stmt}{np hpos tpos:Pos}
  (hS:∀ pins Eh EE S,yiX (CXg X.prog X.w) (X.tri pins Eh) EE S->PSs (X.tri pins Eh) (b₁ :: su) (ts S EE))
  (hCg:Gl X cx) (hCm:X.mg cx=some (.ref B)) (hst:X.stack=X.env :: X.outer) (hfr:X.env.frame=some X.env.locals) (hN:X.N.Nodup) (hi:X.N[i]?=some n) (hl:X.env.kindOf n=some .local) (hsu:∀ a,PSs (X.hndN a) (b₀ :: suite) (th a))
  (hdc:(cx==("__debug__" : Str))=false:=by decide) :
  PS X (.Try (b₁ :: su) [.ExceptHandler (some (.Name cx np)) (some n) (b₀ :: suite) hpos] [] [] tpos) (yon X.K B i ts th):=by
 intro pins s σ H D I h
 refine wpAny_Try_except ?_
 generalize hE:(λe s₁=>wpAny (model X.prog X.w) X.A (noteFrame e X.env) (λ_ s₂=>wpAny (model X.prog X.w) X.A (setFlight e none) (λ_ s₃=>wpAny (model X.prog X.w) X.A (handleBy e X.env [.ExceptHandler (some (.Name cx np)) (some n) (b₀ :: suite) hpos]) (SP X pins D) X.xe s₃) X.xe s₂) X.xe s₁:Value->Shared->Prop)=Eh
 refine wpAny_mono (hS pins Eh (ygC X.K B i σ th D) (·=σ) ?_ [] s σ H D (I.tri Eh) h) (λf s1 q=>?_) λ_ _ z=>z
 ·intro pins1 σ1 H1 s1 ev s' eσ I1 hq
  subst eσ
  have I1:Inv X pins σ1 H1 s1:=I1.untri I.ok
  obtain⟨a,C,T,dd,H2,rfl,os,bare,un,hok,ga,gT,na,nT,td,go⟩:=hq
  show Eh (.ref a) s'
  rw[← hE]
  have I2:Inv X pins σ1 H2 s':=I1.call' os un hok bare (λb z=>absurd z (by simp))
  have ff:=I2.stack
  have fr:=I.ok.frames
  rw[hst] at ff fr
  have new:∀ b o,s1.heap.get? b=some o->b∉[a,T]:=λb o g z=>by
   simp at z
   rcases z with rfl | rfl
   ·rw[ga] at g;cases g
   ·rw[gT] at g;cases g
  refine EX.note_nextD fr ff hfr td λh2 T2 le lf tr=>?_
  have free2:∀ b∈(X.env :: X.outer).filterMap (·.frame),H2 b=none:=λb z=>I2.stkFree b (by rw[hst];exact z)
  have un2:Un (frs X.stack) [] H1 H2 s1.heap h2:=un.left (λb o g=>g) lf (λb o g z=>by rw[hst];exact z) new
  have hok2:HOk X.prog X.w H2 h2:=hok.left lf free2 (λb z=>by
   simp at z
   rcases z with rfl | rfl
   ·exact na
   ·exact nT)
  have nT2:H2 T2=none:=hok.fresh le
  have gT2:∀ b o,s1.heap.get? b=some o->b∉[T2]:=λb o g z=>by
   have:b=T2:=by simpa using z
   subst this
   obtain⟨o',g'⟩:=un.there b o g (by simp)
   exact absurd (Heap.lt_size g') (Nat.not_lt_of_le le)
  have at2:∀ {h3:Heap},Un (frs X.stack) [] H1 H2 s1.heap h3->HOk X.prog X.w H2 h3->Inv X pins σ1 H2 { s' with heap:=h3 }:=λ{h3} u3 k3=>I1.call' (s':={ s' with heap:=h3 }) os u3 k3 bare (λb z=>absurd z (by simp))
  have J2:=at2 un2 hok2
  obtain⟨oe,us2,oT,ts',ge,ce,de,c1,c2,ne,gT3,dT,c3⟩:=id tr
  obtain⟨C',eC,hx,go⟩:=go oe us2 ce.1 ce.2 de
  cases eC
  have J2h:=J2.hndN a
  have LT:PySem.W.Looks (model X.prog X.w) h2 (typeOf (.ref a)) (.ref C):=ce.1▸(PySem.W.Looks.ld ge).andThen .now
  refine wpAny_handleBy_cons (codeAny_handlers_test (ycd (X:=X.hndN a) J2h hCg hCm ?_ hdc)) (by intro q;cases q)
  refine(PySem.W.exm_one (M:=model X.prog X.w) J2.kIn LT hx).at ?_
  refine codeAny_handlers_suite_as ?_
  refine ymf (s:={ s' with heap:=h2 }) tr λh3 lf3 tr3=>?_
  have un3:Un (frs X.stack) [] H1 H2 s1.heap h3:=un2.left (λb o g=>g) lf3 (λb o g z=>absurd z (by simp)) gT2
  have hok3:HOk X.prog X.w H2 h3:=hok2.left lf3 (λb z=>absurd z (by simp)) (λb z=>by
   have:b=T2:=by simpa using z
   rw[this]
   exact nT2)
  have J3:=at2 un3 hok3
  have ge3:h3.get? a=some oe:=lf3.1 a oe ge (by simp) (by simpa using Ne.symm ne)
  have J3t:Inv X pins σ1 (upd H2 a (exO a oe)) { s' with heap:=h3 }:=I1.call' (s':={ s' with heap:=h3 }) os (un3.also ga na) (hok3.laidN (λb u z=>z) na (yfX ge3)) bare (λb z=>absurd z (by simp))
  have J3h:=J3t.hndN a
  refine yce (X:=X.hndN a) J3h hN hi (.inl hl) (v:=.ref a) rfl (λs4 I4=>?_) (.inr hl)
  refine wpAny_mono (hsu a pins s4 _ _ _ I4 (go a rfl)) (λfl s5 z=>?_) λ_ _ z=>z.elim
  cases fl with
  | ret u =>
   obtain⟨v,σ5,H5,I5,r5,q5⟩:=z
   have I6:=I5.unhnd I.ok
   obtain⟨m,hn,_⟩:=I6.loc
   refine wpAny_nameGoes hl hn (by rw[I.ok.kind];rfl) λh7 m7 hn7 sb7=>?_
   exact⟨v,_,H5,I6.gone hn7 sb7,r5,q5⟩
  | next=>obtain⟨_,_,_,z⟩:=z;exact z.elim
  | brk=>obtain⟨_,_,_,z⟩:=z;exact z.elim
  | cont=>obtain⟨_,_,_,z⟩:=z;exact z.elim
 ·have q:=SP.untri I.ok q
  cases f with
  | next=>exact wpAny_execs_nil q
  | ret v=>exact q
  | brk=>exact q
  | cont=>exact q
theorem yh7 {ns:List Int}:∀ {its:List Value},Vals (ns.map V.int) its->∃ l:List (Int×Tok),its=l.map (λp=>Value.int p.1 p.2)/\l.map (·.1)=ns:=by
 induction ns with
 | nil=>intro its r;cases r;exact⟨[],rfl,rfl⟩
 | cons n ns ih =>
  intro its r
  cases r with
  | cons a b =>
   obtain⟨t,rfl⟩:=a
   obtain⟨l,rfl,e⟩:=ih b
   exact⟨(n,t) :: l,rfl,by rw[List.map_cons,e]⟩
noncomputable def yp7 (K:PySem.W.Frag):List V->Hp->VK->Prop:=λxs H Q=>∃ (p:Addr) (ns:List Int),xs=[.ref p]/\SqL K H p (ns.map V.int)/\Q (.int ns.sum) H
theorem yjy {X:Cx}(hc:X.calm=true):yb5 X (.builtin "sum") (yp7 X.K):=by
 intro pins s σ H xs us Q I r h
 obtain⟨p,ns,rfl,hq,q⟩:=h
 obtain⟨u,rfl,ru⟩:=ye6 r
 cases ru
 obtain⟨its,rv,pl,hz⟩:=I.list hq
 obtain⟨l,rfl,e⟩:=yh7 rv
 have hl:s.heap.IsList p (intItems l.toArray):=by
  have z:=pl.isList
  rwa [show(l.map λp=>Value.int p.1 p.2).toArray=intItems l.toArray by simp[intItems]] at z
 refine sum_intListG (I.ok.hd hc) hl λh' tk t' hk=>⟨.int _,H,I.kept (t':=tk) hk,⟨t',rfl⟩,?_⟩
 rw[preSum_eq,show(l.toArray.toList.map (·.1))=ns by simpa using e,show l.toArray.size=ns.length by rw[← e];simp,List.take_length]
 exact q
end L2
namespace KT
open PySem L2
theorem yaj:bootBuiltins "isinstance"=some (.builtin "isinstance"):=by decide +kernel
theorem ybJ:bootBuiltins "all"=some (.builtin "all"):=by decide +kernel
theorem yeR:bootBuiltins "max"=some (.builtin "max"):=by decide +kernel
theorem yhf:bootBuiltins "min"=some (.builtin "min"):=by decide +kernel
theorem yc6:bootBuiltins "sum"=some (.builtin "sum"):=by decide +kernel
theorem yhj:bootBuiltins "int"=some (.type "int"):=by decide +kernel
theorem ycr:bootBuiltins "bool"=some (.type "bool"):=by decide +kernel
theorem ybw:bootBuiltins "tuple"=some (.type "tuple"):=by decide +kernel
theorem ya3:bootBuiltins "list"=some (.type "list"):=by decide +kernel
theorem ycU:bootBuiltins "str"=some (.type "str"):=by decide +kernel
theorem ydR:bootBuiltins "ValueError"=some (.type "ValueError"):=by decide +kernel
noncomputable def yrK (i:Nat):Stmt:=PySem.Challenge.pw_barwright_k13_threes.main.body.getD i (.Pass ⟨0,0,0,0⟩)
noncomputable def yp3:Stmt->List Stmt
 | .ClassDef _ _ _ body _ _ _ _ _ _ _=>body
 | _=>[]
noncomputable def top (i:Nat):Stmt:=cond (Nat.ble 1000 i) ((yp3 (yrK (i / 1000 - 1))).getD (i%1000) (.Pass ⟨0,0,0,0⟩)) (yrK i)
set_option genInjectivity false in
structure Ad where
 (f_zai f_zaf f_zal f_zab f_zu f_zae f_zF f_zy f_zM f_zat f_zad f_zo f_zaa f_zaq f_zan f_zh f_zV f_zi f_zJ f_zm f_zb f_zU f_zz f_zr f_zar f_zac f_zn f_zj f_zO f_zX f_zaj f_zS f_zah f_zap f_zp f_zZ f_zP f_zD f_zE f_zY f_zA f_zam f_zt f_zQ f_zB f_zK f_zak f_zao f_zk f_zd f_za f_zc f_zT f_zag f_zR f_zW f_zG f_zH f_zL f_zw f_zf f_zx f_zg f_zI f_zN f_zC f_ze f_zq f_zau Ua Ub Uc Ud Ue Uf Ug Uh Ui Uj Uk Ul Um Uo Uq Ur:Addr)
 (d_zai d_zaf d_zal d_zab d_zu d_zae d_zF d_zy d_zM d_zat d_zad d_zo d_zaa d_zaq d_zan d_zh d_zV d_zi d_zJ d_zm d_zb d_zU d_zz d_zr d_zar d_zac d_zn d_zj d_zO d_zX d_zaj d_zS d_zah d_zap d_zp d_zZ d_zP d_zD d_zE d_zY d_zA d_zam d_zt d_zQ d_zB d_zK d_zak d_zao d_zk d_zd d_za d_zc d_zT d_zag d_zR d_zW d_zG d_zH d_zL d_zw d_zf d_zx d_zg d_zI d_zN d_zC d_ze d_zq d_zau:FuncData)
structure FM (K:PySem.W.Frag) (mg:Str->Option Value) (n:Str) (m:Nat) (ps:List Str) (f:Addr) (d:FuncData):Prop where
 F:Fun K n n (top m) f d
 B:Binds K d ps []
 M:mg n=some (.ref f)
structure FN (K:PySem.W.Frag) (n q:Str) (m:Nat) (ps:List Str) (f:Addr) (d:FuncData):Prop where
 F:Fun K n q (top m) f d
 B:Binds K d ps []
structure Txt (K:PySem.W.Frag) (mg:Str->Option Value) (t:Ad):Prop where
 QQ:mg "TuneError"=some (.ref t.Uc)
 QR:mg "BadRow"=some (.ref t.Ud)
 QG:mg "BadTune"=some (.ref t.Ue)
 QJ:mg "OutOfReach"=some (.ref t.Uf)
 Qp:mg "TooFine"=some (.ref t.Ug)
 QK:mg "BadStretch"=some (.ref t.Uh)
 QH:mg "BadPage"=some (.ref t.Ui)
 Rc:mg "BadRoll"=some (.ref t.Uj)
 QL:mg "OutOfPlace"=some (.ref t.Uk)
 QX:mg "BadWidth"=some (.ref t.Ul)
 Rr:mg "Sound"=some (.ref t.Um)
 QM:mg "Rest"=some (.ref t.Uo)
 QZ:mg "Tones"=some (.ref t.Uq)
 Rx:mg "Tune"=some (.ref t.Ur)
 Rl:Mk K t.Uo t.f_zh
 Rs:Mk K t.Uq t.f_zi
 Ry:Mk K t.Ur t.f_zm
 RD:yis K t.Uo "told" t.f_zV
 RE:yis K t.Uq "told" t.f_zJ
 Rz:yis K t.Ur "frames" t.f_zr
 RF:yis K t.Ur "many" t.f_zU
 RG:yis K t.Ur "lasts" t.f_zz
 RH:yis K t.Ur "sounds_told" t.f_zb
 RI:ymU K t.Um "__init__" t.f_zh
 Rm:ygI K t.Ud t.f_zd [.type "ValueError",.type "Exception",.type "BaseException",.type "object"] "ValueError.__new__"
 QI:ygI K t.Ug t.f_za [.type "ValueError",.type "Exception",.type "BaseException",.type "object"] "ValueError.__new__"
 Re:ygI K t.Ui t.f_zc [.type "ValueError",.type "Exception",.type "BaseException",.type "object"] "ValueError.__new__"
 RA:FM K mg "is_whole" 4 ["thing"] t.f_zai t.d_zai
 Rq:FM K mg "is_among" 5 ["thing","least","most"] t.f_zaf t.d_zaf
 RJ:FM K mg "do_rise" 6 ["numbers"] t.f_zal t.d_zal
 RN:FM K mg "has_only" 7 ["text","signs"] t.f_zab t.d_zab
 zu:FM K mg "is_syllable" 8 ["thing"] t.f_zu t.d_zu
 RB:FM K mg "is_metre" 14 ["thing"] t.f_zae t.d_zae
 zF:FM K mg "are_groups" 15 ["thing","top"] t.f_zF t.d_zF
 zy:FM K mg "unit_grains" 16 ["bottom"] t.f_zy t.d_zy
 zM:FM K mg "bar_grains" 17 ["metre"] t.f_zM t.d_zM
 RO:FM K mg "cut" 22 ["tune"] t.f_zat t.d_zat
 RP:FM K mg "spans_of" 23 ["sounds","lasts"] t.f_zad t.d_zad
 zo:FM K mg "stretches_in" 24 ["begin","end","spans"] t.f_zo t.d_zo
 RQ:FM K mg "is_pitch" 43 ["thing"] t.f_zaa t.d_zaa
 RS:FM K mg "line" 44 ["pitch"] t.f_zaq t.d_zaq
 RC:FM K mg "is_key" 47 ["thing"] t.f_zan t.d_zan
 zh:FN K "__init__" "Sound.__init__" 57000 ["self","length"] t.f_zh t.d_zh
 zV:FN K "told" "Rest.told" 58000 ["self"] t.f_zV t.d_zV
 zi:FN K "__init__" "Tones.__init__" 59000 ["self","pitches","length","word","opens","closes"] t.f_zi t.d_zi
 zJ:FN K "told" "Tones.told" 59001 ["self"] t.f_zJ t.d_zJ
 zm:FN K "__init__" "Tune.__init__" 60000 ["self","metres","keys","voices"] t.f_zm t.d_zm
 zb:FN K "sounds_told" "Tune.sounds_told" 60003 ["self","voice"] t.f_zb t.d_zb
 zU:FN K "many" "Tune.many" 60004 ["self"] t.f_zU t.d_zU
 zz:FN K "lasts" "Tune.lasts" 60005 ["self"] t.f_zz t.d_zz
 zr:FN K "frames" "Tune.frames" 60006 ["self"] t.f_zr t.d_zr
 Ra:FM K mg "need" 60 ["is_so","why"] t.f_zar t.d_zar
 RT:FM K mg "sound_of" 61 ["told"] t.f_zac t.d_zac
 zn:FM K mg "is_rest_told" 62 ["thing"] t.f_zn t.d_zn
 zj:FM K mg "is_tones_told" 63 ["thing"] t.f_zj t.d_zj
 zO:FM K mg "is_told_as" 64 ["name","parts","thing"] t.f_zO t.d_zO
 zX:FM K mg "are_tones" 65 ["thing"] t.f_zX t.d_zX
 RU:FM K mg "is_word" 66 ["thing"] t.f_zaj t.d_zaj
 zS:FM K mg "voices_of" 67 ["things"] t.f_zS t.d_zS
 RV:FM K mg "voice_of" 68 ["thing"] t.f_zah t.d_zah
 RW:FM K mg "tidy" 69 ["sounds"] t.f_zap t.d_zap
 zp:FM K mg "ends_in_rest" 70 ["sounds"] t.f_zp t.d_zp
 zZ:FM K mg "grains_in" 71 ["sounds"] t.f_zZ t.d_zZ
 zP:FM K mg "long_rest" 72 ["grains"] t.f_zP t.d_zP
 zD:FM K mg "need_slurs" 73 ["sounds"] t.f_zD t.d_zD
 zE:FM K mg "changes_of" 74 ["things","is_good"] t.f_zE t.d_zE
 zY:FM K mg "is_change" 75 ["thing","is_good"] t.f_zY t.d_zY
 zA:FM K mg "frames_for" 76 ["metres","keys","lasts"] t.f_zA t.d_zA
 RK:FM K mg "last_at" 77 ["bar","changes"] t.f_zam t.d_zam
 zt:FM K mg "need_within" 78 ["changes","bars"] t.f_zt t.d_zt
 zQ:FM K mg "_law_draw" 80 ["_law_script","_law_tape","_law_size"] t.f_zQ t.d_zQ
 zB:FM K mg "_law_whole" 81 ["_law_found"] t.f_zB t.d_zB
 zK:FM K mg "beat_units" 18 ["metre"] t.f_zK t.d_zK
 RL:FM K mg "rule_of" 19 ["metre"] t.f_zak t.d_zak
 RX:FM K mg "beats" 20 ["metre"] t.f_zao t.d_zao
 zk:FM K mg "beats_by_bars" 25 ["tune"] t.f_zk t.d_zk
 zd:FN K "__init__" "BadRow.__init__" 29000 ["self","row"] t.f_zd t.d_zd
 za:FN K "__init__" "TooFine.__init__" 32000 ["self","bar","voice"] t.f_za t.d_za
 zc:FN K "__init__" "BadPage.__init__" 34000 ["self","row"] t.f_zc t.d_zc
 zT:FM K mg "threes_in" 39 ["stretches","beats"] t.f_zT t.d_zT
 RY:FM K mg "three_in" 40 ["begin","end","places"] t.f_zag t.d_zag
 zR:FM K mg "need_fine" 41 ["tune"] t.f_zR t.d_zR
 zW:FM K mg "_law_word" 82 ["_law_e"] t.f_zW t.d_zW
 zG:FM K mg "_law_units" 83 ["_law_metre_here"] t.f_zG t.d_zG
 zH:FM K mg "_law_metre" 84 ["_law_script","_law_tape"] t.f_zH t.d_zH
 zL:FM K mg "_law_beats" 85 ["_law_metre_here"] t.f_zL t.d_zL
 zw:FM K mg "_law_length" 86 ["_law_script","_law_tape","_law_way"] t.f_zw t.d_zw
 zf:FM K mg "_law_stretches" 87 ["_law_script","_law_tape","_law_size"] t.f_zf t.d_zf
 zx:FM K mg "_law_threes" 88 ["_law_borders","_law_pairs"] t.f_zx t.d_zx
 zg:FM K mg "_law_bar_right" 89 ["_law_stretches_here","_law_pairs"] t.f_zg t.d_zg
 zI:FM K mg "_law_voice" 90 ["_law_script","_law_tape","_law_is_fine"] t.f_zI t.d_zI
 zN:FM K mg "_law_lasts" 91 ["_law_voices"] t.f_zN t.d_zN
 zC:FM K mg "_law_first" 92 ["_law_voices","_law_frames"] t.f_zC t.d_zC
 ze:FM K mg "_law_tune_right" 93 ["_law_voices","_law_frames","_law_metres"] t.f_ze t.d_ze
 zq:FM K mg "_law_by_hand" 94 ["_law_number"] t.f_zq t.d_zq
 RZ:FM K mg "law" 95 ["_law_script"] t.f_zau t.d_zau
 QN:mg "ValueError"=none
 JV:mg "all"=none
 QA:mg "bool"=none
 Jo:mg "enumerate"=none
 Ru:mg "int"=none
 Ja:mg "isinstance"=none
 Jj:mg "len"=none
 Jk:mg "list"=none
 Rn:mg "max"=none
 Rv:mg "min"=none
 JW:mg "range"=none
 QS:mg "str"=none
 QT:mg "sum"=none
 Js:mg "tuple"=none
 Ro:mg "zip"=none
 Qq:∃ k,mg "SYLLABLE_SIGNS"=some (.str "abcdefghijklmnopqrstuvwxyzABCDEFGHIJKLMNOPQRSTUVWXYZ-" k)
 Ju:∃ k,mg "MOST_SYLLABLE_SIGNS"=some (.int (12) k)
 QU:∃ k,mg "GRAINS"=some (.int (96) k)
 QY:∃ k,mg "MOST_TOP"=some (.int (12) k)
 Rf:mg "BOTTOMS"=some (.ref t.Ua)
 Rg:TupIn K t.Ua [.int 2,.int 4,.int 8]
 JX:∃ k,mg "MOST_BAR_GRAINS"=some (.int (192) k)
 JI:mg "LENGTHS_IN_THREES"=some (.ref t.Ub)
 JJ:TupIn K t.Ub [.int 12,.int 24,.int 48]
 JY:∃ k,mg "MOST_SIGNS"=some (.int (7) k)
 Jv:∃ k,mg "LEAST_GRAINS"=some (.int (2) k)
 Jp:∃ k,mg "MOST_REST_GRAINS"=some (.int (4608) k)
 JK:∃ k,mg "MOST_TONES_GRAINS"=some (.int (384) k)
 QB:∃ k,mg "MOST_PITCHES"=some (.int (4) k)
 QD:∃ k,mg "MOST_SOUNDS"=some (.int (96) k)
 QE:∃ k,mg "MOST_VOICES"=some (.int (2) k)
 QV:∃ k,mg "MOST_BARS"=some (.int (24) k)
 JR:Cls K t.Uo
 Rp:ClsObj K t.Uo
 Jl:NoAttr K t.Uo "length"
 QW:PySem.W.kitOne K (.ref t.Uo) (.ref t.Uo)=some true
 QO:PySem.W.kitOne K (.ref t.Uo) (.ref t.Uq)=some false
 Jb:Cls K t.Uq
 Rb:ClsObj K t.Uq
 Jq:NoAttr K t.Uq "length"
 Jt:NoAttr K t.Uq "pitches"
 JZ:NoAttr K t.Uq "word"
 Jm:NoAttr K t.Uq "opens"
 Jr:NoAttr K t.Uq "closes"
 QP:PySem.W.kitOne K (.ref t.Uq) (.ref t.Uo)=some false
 QF:PySem.W.kitOne K (.ref t.Uq) (.ref t.Uq)=some true
 Jc:Cls K t.Ur
 RM:ClsObj K t.Ur
 Jf:NoAttr K t.Ur "metre_changes"
 Ji:NoAttr K t.Ur "key_changes"
 Jg:NoAttr K t.Ur "voices"
 Je:NoAttr K t.Ur "bar_frames"
 Rw:PySem.W.kitOne K (.ref t.Ur) (.ref t.Uo)=some false
 Rt:PySem.W.kitOne K (.ref t.Ur) (.ref t.Uq)=some false
 QC:ExcK K t.Ud
 Qz:PySem.W.kitOne K (.ref t.Ud) (.ref t.Ud)=some true
 Qr:PySem.W.kitOne K (.ref t.Ud) (.ref t.Ue)=some false
 JL:PySem.W.kitOne K (.ref t.Ud) (.ref t.Uf)=some false
 Qs:PySem.W.kitOne K (.ref t.Ud) (.ref t.Ug)=some false
 JM:PySem.W.kitOne K (.ref t.Ud) (.ref t.Uh)=some false
 Qt:PySem.W.kitOne K (.ref t.Ud) (.ref t.Ui)=some false
 Qu:PySem.W.kitOne K (.ref t.Ud) (.ref t.Uj)=some false
 JN:PySem.W.kitOne K (.ref t.Ud) (.ref t.Uk)=some false
 Qa:PySem.W.kitOne K (.ref t.Ud) (.ref t.Ul)=some false
 JO:PySem.W.kitOne K (.ref t.Ud) (.type "ValueError")=some true
 Qb:NoAttr K t.Ud "row"
 Jd:ExcK K t.Ug
 Qv:PySem.W.kitOne K (.ref t.Ug) (.ref t.Ud)=some false
 Qc:PySem.W.kitOne K (.ref t.Ug) (.ref t.Ue)=some false
 Jw:PySem.W.kitOne K (.ref t.Ug) (.ref t.Uf)=some false
 Qe:PySem.W.kitOne K (.ref t.Ug) (.ref t.Ug)=some true
 Jx:PySem.W.kitOne K (.ref t.Ug) (.ref t.Uh)=some false
 Qf:PySem.W.kitOne K (.ref t.Ug) (.ref t.Ui)=some false
 Qg:PySem.W.kitOne K (.ref t.Ug) (.ref t.Uj)=some false
 Jy:PySem.W.kitOne K (.ref t.Ug) (.ref t.Uk)=some false
 JS:PySem.W.kitOne K (.ref t.Ug) (.ref t.Ul)=some false
 Jz:PySem.W.kitOne K (.ref t.Ug) (.type "ValueError")=some true
 Jn:NoAttr K t.Ug "bar"
 Jh:NoAttr K t.Ug "voice"
 Rh:ExcK K t.Ue
 Qw:PySem.W.kitOne K (.ref t.Ue) (.ref t.Ud)=some false
 Qh:PySem.W.kitOne K (.ref t.Ue) (.ref t.Ue)=some true
 JA:PySem.W.kitOne K (.ref t.Ue) (.ref t.Uf)=some false
 Qi:PySem.W.kitOne K (.ref t.Ue) (.ref t.Ug)=some false
 JB:PySem.W.kitOne K (.ref t.Ue) (.ref t.Uh)=some false
 Qj:PySem.W.kitOne K (.ref t.Ue) (.ref t.Ui)=some false
 Qk:PySem.W.kitOne K (.ref t.Ue) (.ref t.Uj)=some false
 JC:PySem.W.kitOne K (.ref t.Ue) (.ref t.Uk)=some false
 JT:PySem.W.kitOne K (.ref t.Ue) (.ref t.Ul)=some false
 JD:PySem.W.kitOne K (.ref t.Ue) (.type "ValueError")=some true
 Ri:PySem.W.excIn K t.Ue [.type "ValueError",.type "Exception",.type "BaseException",.type "object"] "ValueError.__new__"=true
 Rj:PySem.W.keepIn K (.ref t.Ue)=true
 Qx:ExcK K t.Ui
 Qy:PySem.W.kitOne K (.ref t.Ui) (.ref t.Ud)=some false
 Ql:PySem.W.kitOne K (.ref t.Ui) (.ref t.Ue)=some false
 JE:PySem.W.kitOne K (.ref t.Ui) (.ref t.Uf)=some false
 Qm:PySem.W.kitOne K (.ref t.Ui) (.ref t.Ug)=some false
 JF:PySem.W.kitOne K (.ref t.Ui) (.ref t.Uh)=some false
 Qn:PySem.W.kitOne K (.ref t.Ui) (.ref t.Ui)=some true
 Qo:PySem.W.kitOne K (.ref t.Ui) (.ref t.Uj)=some false
 JG:PySem.W.kitOne K (.ref t.Ui) (.ref t.Uk)=some false
 JU:PySem.W.kitOne K (.ref t.Ui) (.ref t.Ul)=some false
 JH:PySem.W.kitOne K (.ref t.Ui) (.type "ValueError")=some true
 JQ:NoAttr K t.Ui "row"
 Rk:PySem.W.typeIn K (.ref t.Ug)=some (.type "type")
 JP:PySem.W.exmOne K (.ref t.Ug) (.ref t.Uc)=some true
theorem pcl {X:Cx}{k n m:Nat}{f:Addr}{fd:FuncData}{ps:List Str}{sp:Sp}{x:Str}{e:Expr}{es:List Expr}{t:TA}{p pos:Pos}(F:FnOk X.prog X.w X.K X.mg X.base CX0 k f fd ps sp)(hr:Room n X.A)(M:FM X.K X.mg x m ps f fd)(ha:PA X (e :: es) t)(le:k<=n:=by first | decide | omega)(hg:Gl X x:=by rfl)(hdb:(x==("__debug__" : Str))=false:=by decide)
  (he:starEach (e :: es) X.env=(false,eval e X.env) :: starEach es X.env:=by rfl) (hpl:(backTo pos (starEach es X.env)).any (·.1)=false:=by rfl):PE X (.Call (.Name x p) (e :: es) [] pos) (yhV sp [] E0 t):=ymh F (hr.mono le) hg M.M M.F.kp M.B .nil ydn ha hdb he hpl
theorem scm {N P:List Str}{sc:Scope}(a:sc.kind=.function:=by rfl)(b:sc.isCoroutine=false:=by rfl)(c:sc.isGenerator=false:=by rfl)(d:N.Nodup:=by decide +kernel)(e:N.take P.length=P:=by rfl)(f:∀ x∈P,sc.names.lookup x=some .local∨sc.names.lookup x=some .cell:=by decide +kernel)(g:∀ y∈sc.names,y.2≠.free:=by decide +kernel):yan N P sc:=⟨a,b,c,d,e,f,g⟩
theorem ynQ:yan ["thing"] ["thing"] (yah (top 4)):=scm
theorem yo0:yan ["thing","least","most"] ["thing","least","most"] (yah (top 5)):=scm
theorem yox:yan ["numbers"] ["numbers"] (yah (top 6)):=scm
theorem yo1:yan ["text","signs"] ["text","signs"] (yah (top 7)):=scm
theorem ypG:yan ["thing"] ["thing"] (yah (top 8)):=scm
theorem sc_zae:yan ["thing","top","bottom"] ["thing"] (yah (top 14)):=scm
theorem yrd:yan ["thing","top"] ["thing","top"] (yah (top 15)):=scm
theorem ypC:yan ["bottom"] ["bottom"] (yah (top 16)):=scm
theorem yrf:yan ["metre"] ["metre"] (yah (top 17)):=scm
theorem sc_zat:yan ["tune","frames","last","lasts","voices","bars","frame","end"] ["tune"] (yah (top 22)):=scm
theorem sc_zad:yan ["sounds","lasts","spans","begin","place","told","is_rest","end"] ["sounds","lasts"] (yah (top 23)):=scm
theorem sc_zo:yan ["begin","end","spans","stretches","span","first","behind","is_tone","comes","goes"] ["begin","end","spans"] (yah (top 24)):=scm
theorem ynJ:yan ["thing"] ["thing"] (yah (top 43)):=scm
theorem yoB:yan ["pitch"] ["pitch"] (yah (top 44)):=scm
theorem yoh:yan ["thing"] ["thing"] (yah (top 47)):=scm
theorem ypF:yan ["self","length"] ["self","length"] (yah (top 57000)):=scm
theorem ypY:yan ["self"] ["self"] (yah (top 58000)):=scm
theorem yqQ:yan ["self","pitches","length","word","opens","closes"] ["self","pitches","length","word","opens","closes"] (yah (top 59000)):=scm
theorem yq9:yan ["self"] ["self"] (yah (top 59001)):=scm
theorem ypI:yan ["self","metres","keys","voices"] ["self","metres","keys","voices"] (yah (top 60000)):=scm
theorem yq8:yan ["self","voice"] ["self","voice"] (yah (top 60003)):=scm
theorem yrx:yan ["self"] ["self"] (yah (top 60004)):=scm
theorem yqX:yan ["self"] ["self"] (yah (top 60005)):=scm
theorem yre:yan ["self"] ["self"] (yah (top 60006)):=scm
theorem ynD:yan ["is_so","why"] ["is_so","why"] (yah (top 60)):=scm
theorem yn1:yan ["told"] ["told"] (yah (top 61)):=scm
theorem yqp:yan ["thing"] ["thing"] (yah (top 62)):=scm
theorem yqx:yan ["thing"] ["thing"] (yah (top 63)):=scm
theorem ypz:yan ["name","parts","thing"] ["name","parts","thing"] (yah (top 64)):=scm
theorem yqf:yan ["thing"] ["thing"] (yah (top 65)):=scm
theorem yoe:yan ["thing"] ["thing"] (yah (top 66)):=scm
theorem ypQ:yan ["things"] ["things"] (yah (top 67)):=scm
theorem sc_zah:yan ["thing","sounds"] ["thing"] (yah (top 68)):=scm
theorem sc_zap:yan ["sounds","kept","sound"] ["sounds"] (yah (top 69)):=scm
theorem ypN:yan ["sounds"] ["sounds"] (yah (top 70)):=scm
theorem yqB:yan ["sounds"] ["sounds"] (yah (top 71)):=scm
theorem yrl:yan ["grains"] ["grains"] (yah (top 72)):=scm
theorem sc_zD:yan ["sounds","is_open","sound"] ["sounds"] (yah (top 73)):=scm
theorem sc_zE:yan ["things","is_good","bars","values"] ["things","is_good"] (yah (top 74)):=scm
theorem yp0:yan ["thing","is_good"] ["thing","is_good"] (yah (top 75)):=scm
theorem sc_zA:yan ["metres","keys","lasts","frames","begin","bar","metre"] ["metres","keys","lasts"] (yah (top 76)):=scm
theorem yng:yan ["bar","changes"] ["bar","changes"] (yah (top 77)):=scm
theorem yrg:yan ["changes","bars"] ["changes","bars"] (yah (top 78)):=scm
theorem sc_zQ:yan ["_law_script","_law_tape","_law_size","_law_seed","_law_cell"] ["_law_script","_law_tape","_law_size"] (yah (top 80)):=scm
theorem ypA:yan ["_law_found"] ["_law_found"] (yah (top 81)):=scm
theorem sc_zK:yan ["metre","top"] ["metre"] (yah (top 18)):=scm
theorem sc_zak:yan ["metre","units","lengths"] ["metre"] (yah (top 19)):=scm
theorem sc_zao:yan ["metre","rule","pairs","begin","length"] ["metre"] (yah (top 20)):=scm
theorem yp1:yan ["tune"] ["tune"] (yah (top 25)):=scm
theorem yq5:yan ["self","row"] ["self","row"] (yah (top 29000)):=scm
theorem ypH:yan ["self","bar","voice"] ["self","bar","voice"] (yah (top 32000)):=scm
theorem yqF:yan ["self","row"] ["self","row"] (yah (top 34000)):=scm
theorem sc_zT:yan ["stretches","beats","places","threes"] ["stretches","beats"] (yah (top 39)):=scm
theorem sc_zag:yan ["begin","end","places","within","can_be"] ["begin","end","places"] (yah (top 40)):=scm
theorem sc_zR:yan ["tune","bar","pair","voice","stretches"] ["tune"] (yah (top 41)):=scm
theorem sc_zW:yan ["_law_e","_law_some","_law_words"] ["_law_e"] (yah (top 82)):=scm
theorem sc_zG:yan ["_law_metre_here","_law_found","_law_left"] ["_law_metre_here"] (yah (top 83)):=scm
theorem sc_zH:yan ["_law_script","_law_tape","_law_some"] ["_law_script","_law_tape"] (yah (top 84)):=scm
theorem sc_zL:yan ["_law_metre_here","_law_found","_law_at","_law_one"] ["_law_metre_here"] (yah (top 85)):=scm
theorem yq1:yan ["_law_script","_law_tape","_law_way"] ["_law_script","_law_tape","_law_way"] (yah (top 86)):=scm
theorem sc_zf:yan ["_law_script","_law_tape","_law_size","_law_found","_law_at","_law_way","_law_length_here","_law_number"] ["_law_script","_law_tape","_law_size"] (yah (top 87)):=scm
theorem sc_zx:yan ["_law_borders","_law_pairs","_law_found","_law_first_here","_law_last","_law_inner","_law_odd","_law_is_plain"] ["_law_borders","_law_pairs"] (yah (top 88)):=scm
theorem sc_zg:yan ["_law_stretches_here","_law_pairs","_law_borders","_law_due","_law_handed","_law_turn","_law_found"] ["_law_stretches_here","_law_pairs"] (yah (top 89)):=scm
theorem sc_zI:yan ["_law_script","_law_tape","_law_is_fine","_law_found","_law_k","_law_rows","_law_row","_law_length_here","_law_is_still"] ["_law_script","_law_tape","_law_is_fine"] (yah (top 90)):=scm
theorem sc_zN:yan ["_law_voices","_law_sums","_law_voice_here"] ["_law_voices"] (yah (top 91)):=scm
theorem sc_zC:yan ["_law_voices","_law_frames","_law_borders","_law_voice_here","_law_ends","_law_told","_law_place","_law_begin","_law_metre_here","_law_key","_law_pairs","_law_number","_law_inner"] ["_law_voices","_law_frames"] (yah (top 92)):=scm
theorem sc_ze:yan ["_law_voices","_law_frames","_law_metres","_law_due","_law_tune","_law_e"] ["_law_voices","_law_frames","_law_metres"] (yah (top 93)):=scm
theorem sc_zq:yan ["_law_number","_law_fine","_law_some"] ["_law_number"] (yah (top 94)):=scm
theorem sc_zau:yan ["_law_script","_law_tape","_law_metre_here","_law_pairs","_law_is_fine","_law_voices","_law_frames","_law_begin","_law_metres","_law_place"] ["_law_script"] (yah (top 95)):=scm
end KT
namespace KT
open PySem L2
seal PE PS PSs PT PW PA PG PGs PI ynb
local macro_rules | `(tactic| walk_at "rd") => `(tactic| simp only [ypE, ym6, yqv, ymM, yrw, tOr, yq7, tIf, yne, yk9, tB, tCB, ygA, ylX, ylq, tC, tOp, tUn, ygq, yhV, tSl, ymi, ygD, ypc, yoj, tBM, yqs, yqn, ykD, ynd, ybm, yke, yb8, ykc, yqY, ymC, rI, rI0, rU, rEq, rNe, ypL, ypj, yew, yov, yok, ypm, rIn, ye9, yoC, yrH, yli, yqi, ykk, ykL, ymW, yrA, yoW, ylA, yjv, yrn, yq2, yl1, ynY, yi3, ym0, yqh, yna, yrt, ipI, ypD, L2.start, List.map_cons, List.map_nil, List.length_cons, List.length_nil, List.replicate, List.cons_append, List.nil_append, List.append_nil, List.getElem?_cons_zero, List.getElem?_cons_succ, List.set_cons_zero, List.set_cons_succ, Nat.reduceAdd, Nat.reduceSub, Option.some.injEq, List.cons.injEq, and_true, true_and, exists_eq_left', exists_eq_left, exists_eq_right, exists_eq_right', V.ty.injEq, V.int.injEq, V.bl.injEq, V.str.injEq, V.ref.injEq, and_assoc, exists_and_left, reduceCtorEq, false_and, and_false, exists_false, or_false, false_or, Bool.not_eq_true', Bool.false_eq_true, if_false, if_true, Bool.not_true, Bool.not_false, decide_eq_true_eq, decide_eq_false_iff_not, Bool.or_eq_true, Bool.and_eq_true, Int.reduceLT, Int.reduceNeg])
local macro_rules | `(tactic| walk_at "") => `(tactic| repeat (first | (with_reducible first | refine ydx ?_ | refine yfV ?_ | refine ypi ?_ | refine i_c ?_ | refine ync ?_ | refine yqu ?_ | refine yn4 ?_ | refine ya2 ?_ | refine yq4 ?_ | refine ypM ?_ | refine ybI ?_ | refine yez ?_ | refine yc8 ?_ | refine yoI ?_ | refine ysa ?_ | refine yr6 ?_ | refine yot ?_ | refine yqe ?_ | refine ycC ?_ | refine ysb ?_ | refine i_U ?_ | refine yse ?_ | refine ynA ?_ | refine ynj ?_ | refine yrR ?_ | refine yoT ?_ | refine yca ?_ | refine i_T ?_ | refine i_F ?_ | refine ykx ?_ | refine yry ?_ | refine yqR ?_ | refine yq0 ?_ | refine i_itt ?_ | refine yqD ?_ | refine yrh ?_ | refine ypO ?_ | refine ypX ?_ | refine ynu ?_ | refine yrW ?_ | refine yps ?_ | refine ypZ ?_ | refine ysd ?_ | refine yrZ ?_ | refine yoV ?_ | refine yor ?_ | refine i_dg ?_ | refine yo7 ?_ | refine yeI (.inl (by decide)) ?_ | refine yeI (.inr (by decide)) ?_ | refine yqT (by with_unfolding_all rfl) ?_ | refine i_I (by decide) ?_ | refine i_div (by decide) ?_ | refine yrz ?_ | refine ymA (by with_unfolding_all rfl) ?_ | refine yqW ?_ | refine yrX ?_) | dsimp only))
section
variable {P:Program} {w:World} {K:PySem.W.Frag} {mg:Str->Option Value} {base:Heap} {t:Ad}
theorem ydi {n:Nat}(h:n<=1000):n<=sizeLine:=Nat.le_of_lt (yat h)
theorem yaT {H H':Hp}{D:Addr}{o:HO}(hD:H D=none)(sm:Same H H'):Same H (upd H' D o):=λb u hb=>by
 rw[yai (yam hb hD)]
 exact sm _ _ hb
inductive Th where
 | im (v:V) | ls (ts:List Th) | tp (ts:List Th) | dk
noncomputable def imV:V->Bool
 | .non=>true
 | .bl _=>true
 | .int _=>true
 | .str _=>true
 | _=>false
mutual
noncomputable def Is (H:Hp):V->Th->Prop
 | x,.im v=>x=v/\imV v=true
 | x,.ls ts=>∃ a xs,x=.ref a/\H a=some (.lst xs)/\Iss H xs ts
 | x,.tp ts=>∃ a xs,x=.ref a/\H a=some (.tup xs)/\Iss H xs ts
 | x,.dk=>∃ a kvs,x=.ref a/\H a=some (.dK kvs)
noncomputable def Iss (H:Hp):List V->List Th->Prop
 | xs,[]=>xs=[]
 | xs,t :: ts=>∃ x r,xs=x :: r/\Is H x t/\Iss H r ts
end
mutual
theorem Is.same {H H':Hp}(s:Same H H'):∀ {v:V} {t:Th},Is H v t->Is H' v t
 | v,.im w,h=>by rw[Is] at h ⊢;exact h
 | v,.ls ts,h=>by
  rw[Is] at h ⊢
  obtain⟨a,xs,e,q,r⟩:=h
  exact⟨a,xs,e,s _ _ q,Iss.same s r⟩
 | v,.tp ts,h=>by
  rw[Is] at h ⊢
  obtain⟨a,xs,e,q,r⟩:=h
  exact⟨a,xs,e,s _ _ q,Iss.same s r⟩
 | v,.dk,h=>by
  rw[Is] at h ⊢
  obtain⟨a,xs,e,q⟩:=h
  exact⟨a,xs,e,s _ _ q⟩
theorem Iss.same {H H':Hp}(s:Same H H'):∀ {xs:List V} {ts:List Th},Iss H xs ts->Iss H' xs ts
 | xs,[],h=>by rw[Iss] at h ⊢;exact h
 | xs,t :: ts,h=>by
  rw[Iss] at h ⊢
  obtain⟨x,r,e,q,z⟩:=h
  exact⟨x,r,e,Is.same s q,Iss.same s z⟩
end
theorem Iss.len {H:Hp}:∀ {xs:List V} {ts:List Th},Iss H xs ts->xs.length=ts.length
 | xs,[],h=>by rw[Iss] at h;rw[h];rfl
 | xs,t :: ts,h=>by
  rw[Iss] at h
  obtain⟨x,r,rfl,q,z⟩:=h
  rw[List.length_cons,List.length_cons,Iss.len z]
theorem Iss.app {H:Hp}:∀ {xs ys:List V} {ts us:List Th},Iss H xs ts->Iss H ys us->Iss H (xs++ys) (ts++us)
 | xs,ys,[],us,h,g=>by rw[Iss] at h;rw[h];exact g
 | xs,ys,t :: ts,us,h,g=>by
  rw[Iss] at h
  obtain⟨x,r,rfl,q,z⟩:=h
  rw[List.cons_append,List.cons_append,Iss]
  exact⟨x,_,rfl,q,Iss.app z g⟩
theorem Iss.at' {H:Hp}:∀ {xs:List V} {ts:List Th} (j:Nat) (h:Iss H xs ts) (hj:j < ts.length),∃ x,xs[j]?=some x/\Is H x ts[j]
 | xs,t :: ts,0,h,_=>by
  rw[Iss] at h
  obtain⟨x,r,rfl,q,z⟩:=h
  exact⟨x,rfl,q⟩
 | xs,t :: ts,j+1,h,hj=>by
  rw[Iss] at h
  obtain⟨x,r,rfl,q,z⟩:=h
  obtain⟨y,e,i⟩:=Iss.at' j z (by simpa using hj)
  exact⟨y,by rw[List.getElem?_cons_succ];exact e,by rw[List.getElem_cons_succ];exact i⟩
noncomputable def nT (i:Int):Th:=.im (.int i)
theorem Iss.ints {H:Hp}:∀ {ns:List Int} {xs:List V},Iss H xs (ns.map nT)->xs=ns.map V.int
 | [],xs,h=>by rw[List.map_nil,Iss] at h;rw[h];rfl
 | n :: ns,xs,h=>by
  rw[List.map_cons,Iss] at h
  obtain⟨x,r,rfl,i,z⟩:=h
  rw[nT,Is] at i
  rw[i.1,Iss.ints z]
  rfl
theorem Is.nums {H:Hp}{x:V}{ns:List Int}(h:Is H x (.ls (ns.map nT))):∃ l,x=.ref l/\H l=some (.lst (ns.map V.int)):=by
 rw[Is] at h
 obtain⟨l,xs,rfl,e,is⟩:=h
 exact⟨l,rfl,by rw[e,is.ints]⟩
theorem ykl (xs:List V)(k:Nat)(h:k<=xs.length):ygL xs none (some (k:Int))=xs.take k:=by
 unfold ygL
 rw[HT.sIx_none,HT.sIx_nat,Nat.min_eq_left h]
 simp
theorem ykF (xs:List V)(k:Nat)(h:k<=xs.length):ygL xs (some (k:Int)) none=xs.drop k:=by
 unfold ygL
 rw[HT.sIx_none,HT.sIx_nat,Nat.min_eq_left h]
 exact List.take_of_length_le (by rw[List.length_drop];exact Nat.le_refl _)
theorem Iss.take {H:Hp}:∀ {xs:List V} {ts:List Th} (k:Nat),Iss H xs ts->Iss H (xs.take k) (ts.take k)
 | xs,ts,0,_=>by rw[List.take_zero,List.take_zero,Iss]
 | xs,[],k+1,h=>by rw[Iss] at h;rw[h,List.take_nil,List.take_nil,Iss]
 | xs,t :: ts,k+1,h=>by
  rw[Iss] at h
  obtain⟨x,r,rfl,i,z⟩:=h
  rw[List.take_succ_cons,List.take_succ_cons,Iss]
  exact⟨x,_,rfl,i,Iss.take k z⟩
theorem Iss.drop {H:Hp}:∀ {xs:List V} {ts:List Th} (k:Nat),Iss H xs ts->Iss H (xs.drop k) (ts.drop k)
 | xs,ts,0,h=>by rw[List.drop_zero,List.drop_zero];exact h
 | xs,[],k+1,h=>by rw[Iss] at h;rw[h,List.drop_nil,List.drop_nil,Iss]
 | xs,t :: ts,k+1,h=>by
  rw[Iss] at h
  obtain⟨x,r,rfl,i,z⟩:=h
  rw[List.drop_succ_cons,List.drop_succ_cons]
  exact Iss.drop k z
noncomputable def rm (H:Hp)(c:Addr):Hp:=λb=>if b=c then none else H b
noncomputable def fr (H H':Hp):Hp:=λb=>if H b=none then H' b else none
theorem yeS {H:Hp}{b c:Addr}(h:b≠c):rm H c b=H b:=by unfold rm;rw[if_neg h]
theorem yjt {H:Hp}{c:Addr}:rm H c c=none:=by unfold rm;rw[if_pos rfl]
theorem ycQ {H:Hp}{b c:Addr}{u:HO}(h:rm H c b=some u):b≠c/\H b=some u:=by
 by_cases z:b=c
 ·rw[z,yjt] at h;cases h
 ·exact⟨z,by rw[yeS z] at h;exact h⟩
theorem ybH {H H':Hp}{b:Addr}(h:H b=none):fr H H' b=H' b:=by unfold fr;rw[if_pos h]
theorem ybf {H H':Hp}{b:Addr}{u:HO}(h:fr H H' b=some u):H b=none/\H' b=some u:=by
 by_cases z:H b=none
 ·exact⟨z,by rw[ybH z] at h;exact h⟩
 ·unfold fr at h;rw[if_neg z] at h;cases h
theorem yeZ (H:Hp)(c:Addr):Same (rm H c) H:=λb u h=>(ycQ h).2
theorem yct (H H':Hp):Same (fr H H') H':=λb u h=>(ybf h).2
theorem yfa {H H1 H2:Hp}(s:Same H1 H2):Same (fr H H1) (fr H H2):=λb u h=>by
 obtain⟨n,e⟩:=ybf h
 rw[ybH n]
 exact s _ _ e
theorem ycJ {H H1 H2:Hp}(s:Same H H1):Same (fr H1 H2) (fr H H2):=λb u h=>by
 obtain⟨n,e⟩:=ybf h
 rw[ybH (s.free n)]
 exact e
theorem ydj {H H':Hp}{c:Addr}(s:∀ b u,b≠c->H b=some u->H' b=some u):Same (rm H c) (rm H' c):=λb u h=>by
 obtain⟨n,e⟩:=ycQ h
 rw[yeS n]
 exact s b u n e
theorem ydB (H:Hp):∀ ns:List Int,Iss H (ns.map V.int) (ns.map nT)
 | []=>by rw[List.map_nil,List.map_nil,Iss]
 | n :: ns=>by
  rw[List.map_cons,List.map_cons,Iss]
  exact⟨_,_,rfl,by rw[nT,Is];exact⟨rfl,rfl⟩,ydB H ns⟩
theorem ybz {H:Hp}{v:V}(h:imV v=true):Is H v (.im v):=by rw[Is];exact⟨rfl,h⟩
theorem yin (H:Hp)(i:Int):Is H (.int i) (nT i):=ybz rfl
theorem yaV (H:Hp):Iss H [] []:=by rw[Iss]
theorem yav {H:Hp}{x:V}{xs:List V}{tr:Th}{ts:List Th}(a:Is H x tr)(b:Iss H xs ts):Iss H (x :: xs) (tr :: ts):=by rw[Iss];exact⟨x,xs,rfl,a,b⟩
theorem ybV {H:Hp}{a:Addr}{xs:List V}{ts:List Th}(e:H a=some (.lst xs))(h:Iss H xs ts):Is H (.ref a) (.ls ts):=by rw[Is];exact⟨a,xs,rfl,e,h⟩
theorem ycV {H:Hp}{a:Addr}{xs:List V}{ts:List Th}(e:H a=some (.tup xs))(h:Iss H xs ts):Is H (.ref a) (.tp ts):=by rw[Is];exact⟨a,xs,rfl,e,h⟩
theorem yfS {H H4:Hp}{D:Addr}{o:HO}:Same (rm (fr H H4) D) (rm (fr H (upd H4 D o)) D):=λb u h=>by
 obtain⟨n,e⟩:=ycQ h
 obtain⟨n2,e2⟩:=ybf e
 rw[yeS n,ybH n2,yai n]
 exact e2
noncomputable def yoy (k i:Nat):Stmt:=(ybi (top k)).getD i (.Pass ⟨0,0,0,0⟩)
section
variable {C:St->Hp->Prop}
end
noncomputable def nTr (i:Int):L2.Tr:=.vl (.int i)
theorem SameT.trans {c:Addr}{H H1 H2:Hp}(a:SameT c H H1)(b:SameT c H1 H2):SameT c H H2:=λd u n e=>b d u n (a d u n e)
theorem yhJ {c:Addr}{H H1:Hp}{o:HO}(a:SameT c H H1):SameT c H (upd H1 c o):=λd u n e=>by rw[yai n];exact a d u n e
theorem yec {c f:Addr}{H H1:Hp}{o:HO}(a:SameT c H H1)(hf:H f=none):SameT c H (upd H1 f o):=λd u n e=>by rw[yai (yam e hf)];exact a d u n e
noncomputable def yoR (c:Int):Prop:=Builtin.Int.intBits c<=2 ^ 20
theorem ymS {tp p:Addr}{H H':Hp}{o:HO}(s:SameT tp H H')(ht:H' tp=some o)(hp:H' p=none):H p=none:=by
 cases e:H p with
 | none=>rfl
 | some u =>
  have n:p≠tp:=λz=>by rw[z,ht] at hp;cases hp
  rw[s p u n e] at hp
  cases hp
theorem ysc {tp:Addr}{H H' H'':Hp}{o:HO}(ht:H tp=some o)(s:SameT tp H' H''):Same (fr H H') (fr H H''):=λb u h=>by
 obtain⟨n,e⟩:=ybf h
 rw[ybH n]
 exact s b u (λz=>by rw[z,ht] at n;cases n) e
theorem h1 {n:Nat}(h:n+64 < cLine):n+1 < cLine:=Nat.lt_of_le_of_lt (by omega) h
noncomputable def Tape (H:Hp)(tp:Addr)(N:Nat):Prop:=∃ n:Nat,n<=N/\H tp=some (.lst [.int n])
noncomputable def Src (K:PySem.W.Frag)(a tp:Addr)(ns:List Int)(H:Hp):Prop:=∃ Hs,SqL K Hs a (ns.map V.int)/\Hs tp=none/\Same Hs H
theorem Src.sq {a tp:Addr}{ns:List Int}{H:Hp}(h:Src K a tp ns H):SqL K H a (ns.map V.int):=by
 obtain⟨Hs,h1,_,s⟩:=h
 exact s.seq h1
theorem Src.sameT {a tp:Addr}{ns:List Int}{H H':Hp}(h:Src K a tp ns H)(s:SameT tp H H'):Src K a tp ns H':=by
 obtain⟨Hs,h1,h2,sm⟩:=h
 exact⟨Hs,h1,h2,λb u e=>s b u (yam e h2) (sm b u e)⟩
theorem Tape.same {tp:Addr}{N:Nat}{H H':Hp}(h:Tape H tp N)(s:Same H H'):Tape H' tp N:=by
 obtain⟨n,l,e⟩:=h
 exact⟨n,l,s _ _ e⟩
theorem Tape.up {tp:Addr}{N M:Nat}{H:Hp}(h:Tape H tp N)(l:N<=M):Tape H tp M:=by
 obtain⟨n,l',e⟩:=h
 exact⟨n,by omega,e⟩
theorem yhL {tp:Addr}{H:Hp}{o:HO}:SameT tp H (upd H tp o):=yhJ λb u _ e=>e
noncomputable def ypK (ns:List Int):Prop:=∀ v∈ns,yoR v
theorem yl6 {H:Hp}:∀ {xs:List V} {ts:List Th},xs.length=ts.length->(∀ (j:Nat) (u:Th),ts[j]?=some u->∃ x,xs[j]?=some x/\Is H x u)->Iss H xs ts
 | [],[],_,_=>yaV H
 | x :: xs,t :: ts,hl,h=>by
  obtain⟨y,e,i⟩:=h 0 t rfl
  cases e
  refine yav i (yl6 (by simpa using hl) λj u hj=>?_)
  obtain⟨z,e,i⟩:=h (j+1) u (by rw[List.getElem?_cons_succ];exact hj)
  exact⟨z,by rw[List.getElem?_cons_succ] at e;exact e,i⟩
 | [],_ :: _,hl,_=>nomatch hl
 | _ :: _,[],hl,_=>nomatch hl
noncomputable def nw (Hs H H':Hp):Hp:=λb=>if H b=none then H' b else Hs b
theorem yaP {Hs H H':Hp}{b:Addr}(h:H b=none):nw Hs H H' b=H' b:=by unfold nw;rw[if_pos h]
theorem yb1 {Hs H H':Hp}{b:Addr}{u:HO}(h:H b=some u):nw Hs H H' b=Hs b:=by unfold nw;rw[if_neg (by rw[h];simp)]
theorem ydu {Hs H H':Hp}(a:Same Hs H)(b:Same H H'):Same (nw Hs H H') H':=λc u e=>by
 cases h:H c with
 | none=>rw[yaP h] at e;exact e
 | some v=>rw[yb1 h] at e;exact b _ _ (a _ _ e)
theorem yer {Hs H H':Hp}(a:Same Hs H):Same Hs (nw Hs H H'):=λc u e=>by rw[yb1 (a _ _ e)];exact e
theorem yfc {Hs H H' H'':Hp}(s:Same H' H''):Same (nw Hs H H') (nw Hs H H''):=λc u e=>by
 cases h:H c with
 | none=>rw[yaP h] at e ⊢;exact s _ _ e
 | some v=>rw[yb1 h] at e ⊢;exact e
noncomputable def Al {α:Type}(S:V->α->Prop)(xs:List V)(us:List α):Prop:=xs.length=us.length/\∀ i (h:i < us.length),∃ x,xs[i]?=some x/\S x us[i]
section
variable {α β:Type}
theorem Al.nil {S:V->α->Prop}:Al S [] []:=⟨rfl,λ_ h=>nomatch h⟩
theorem Al.imp {S S':V->α->Prop}{xs:List V}{us:List α}(h:Al S xs us)(k:∀ x u,u∈us->S x u->S' x u):Al S' xs us :=
 ⟨h.1,λi hi=>let ⟨x,e,s⟩:=h.2 i hi;⟨x,e,k _ _ (List.getElem_mem hi) s⟩⟩
theorem Al.snoc {S:V->α->Prop}{xs:List V}{us:List α}{x:V}{u:α}(h:Al S xs us)(s:S x u):Al S (xs++[x]) (us++[u]):=by
 refine⟨by rw[List.length_append,List.length_append,h.1];rfl,λi hi=>?_⟩
 rw[List.length_append,List.length_singleton] at hi
 by_cases e:i < us.length
 ·obtain⟨y,e1,e2⟩:=h.2 i e
  exact⟨y,by rw[List.getElem?_append_left (by rw[h.1];exact e)];exact e1,by rw[List.getElem_append_left e];exact e2⟩
 ·have:i=us.length:=by omega
  subst this
  refine⟨x,by rw[List.getElem?_append_right (by rw[h.1];exact Nat.le_refl _),h.1];simp,by simpa using s⟩
theorem ya4 {H:Hp}{f:α->Th}:∀ {xs:List V} {us:List α},Iss H xs (us.map f)->Al (λx u=>Is H x (f u)) xs us:=λ{xs us} h =>
 ⟨by rw[h.len,List.length_map],λi hi=>by
  obtain⟨x,e,s⟩:=h.at' i (by rw[List.length_map];exact hi)
  rw[List.getElem_map] at s
  exact⟨x,e,s⟩⟩
theorem ycY {H:Hp}{f:α->Th}{xs:List V}{us:List α}(h:Al (λx u=>Is H x (f u)) xs us):Iss H xs (us.map f):=by
 refine yl6 (by rw[List.length_map,h.1]) λj u e=>?_
 rw[List.getElem?_map] at e
 have hj:j < us.length:=by
  cases z:us[j]? with
  | none=>rw[z] at e;cases e
  | some v=>exact(List.getElem?_eq_some_iff.mp z).1
 rw[List.getElem?_eq_getElem hj] at e
 obtain⟨x,e1,s⟩:=h.2 j hj
 cases e
 exact⟨x,e1,s⟩
noncomputable def ydA (R:Hp->V->α->Prop):Prop:=∀ {H H':Hp} {x:V} {u:α},Same H H'->R H x u->R H' x u
theorem yfd {f:α->Th}:ydA (λH x u=>Is H x (f u)):=λs h=>h.same s
theorem ygU {K:PySem.W.Frag}{a D:Addr}{xs:List V}{us:List α}{te:TE}{Fin:Hp->Prop}{o:Option V}{r:St}{H Hs:Hp}{R:Hp->V->α->Prop}{S:Hp->V->β->Prop}(hR:ydA R)(hS:ydA S)(f:α->β)
  (sH:Same Hs H) (ha:H a=some (.lst xs)) (al:Al (R Hs) xs us) (hD:H D=none) (hz:us.length<=900)
  (hte:∀ x u (H' Hs':Hp) (Q':VK),u∈us->Same Hs Hs'->Same H H'->Same Hs' H'->R Hs' x u->(∀ y H'',Same H' H''->S (nw Hs' H' H'') y (f u)->Q' y H'')->te (some x :: r) H' Q')
  (fin:∀ ys H',Same H H'->H' D=some (.lst ys)->Al (S (nw Hs H (rm H' D))) ys (us.map f)->Fin H') :
  ∃ W:Nat->Nat->St->Hp->Prop,(∃ m,W 0 m (o :: r) (upd H D (.lst [])))/\ycR (Itl K a) (ybm 0) yei te D Fin W:=by
 refine ybM (xs:=xs) (λi σ' H'=>(∃ o,σ'=o :: r)/\Same H H'/\∃ ys,H' D=some (.lst ys)/\Al (S (nw Hs H (rm H' D))) ys ((us.take i).map f)) ⟨⟨_,rfl⟩,yaf hD _,[],yad,Al.nil⟩ (λ_ _ _ _ h=>SqL.of (h.2.1 _ _ ha)) ?_ ?_
 ·rintro i x σ' H' N hN hx ⟨⟨o,rfl⟩,sm,ys,hd,as⟩
  have hi:i < us.length:=by have:=(List.getElem?_eq_some_iff.mp hx).1;rw[al.1] at this;exact this
  obtain⟨x',e,rx⟩:=al.2 i hi
  rw[hx] at e
  cases e
  refine ybI (yca (i_T ?_))
  have s1:Same Hs (nw Hs H (rm H' D)):=yer sH
  have s2:Same (nw Hs H (rm H' D)) H':=λc u e=>by
   cases h:H c with
   | none=>rw[yaP h] at e;exact(ycQ e).2
   | some v=>rw[yb1 h] at e;exact sm _ _ (sH _ _ e)
  refine hte x us[i] H' _ _ (List.getElem_mem hi) s1 sm s2 (hR s1 rx) λy H2 t2 sy=>⟨ys,t2 _ _ hd,?_,hN _ _ ⟨⟨_,rfl⟩,yaT hD (sm.trans t2),_,yad,?_⟩⟩
  ·rw[as.1,List.length_map,List.length_take]
   exact yat (by omega)
  ·have up:Same (nw (nw Hs H (rm H' D)) H' H2) (nw Hs H (rm (upd H2 D (.lst (ys++[y]))) D)):=λc u e=>by
    have key:∀ {u},H2 c=some u->c≠D->H c=none->nw Hs H (rm (upd H2 D (.lst (ys++[y]))) D) c=some u:=λe n h=>by rw[yaP h,yeS n,yai n];exact e
    cases h1:H' c with
    | none =>
     rw[yaP h1] at e
     exact key e (λz=>by rw[z,hd] at h1;cases h1) (sm.free h1)
    | some v =>
     rw[yb1 h1] at e
     cases h:H c with
     | none =>
      rw[yaP h] at e
      obtain⟨n,e⟩:=ycQ e
      exact key (t2 _ _ e) n h
     | some w=>rw[yb1 h] at e ⊢;exact e
   rw[List.take_succ_eq_append_getElem hi,List.map_append]
   refine Al.snoc (as.imp λ_ _ _ z=>hS ?_ z) (hS up sy)
   exact λc u e=>up c u (yer s2 _ _ e)
 ·rintro σ' H' ⟨_,sm,ys,hd,as⟩
  rw[al.1,List.take_length] at as
  exact fin ys H' sm hd as
end
noncomputable def yip (te:TE)(tr:Th):Prop:=∀ σ H Q,(∀ x H',Same H H'->Is (fr H H') x tr->Q x H')->te σ H Q
noncomputable def yiU (ta:TA)(ts:List Th):Prop:=∀ σ H Q,(∀ xs H',Same H H'->Iss (fr H H') xs ts->Q xs H')->ta σ H Q
theorem ylR {v:V}(h:imV v=true):yip (tC v) (.im v):=fun σ H Q q=>q v H (Same.refl H) (ybz h)
theorem ylD:yiU ylX []:=fun σ H Q q=>q _ _ (Same.refl H) (yaV _)
theorem ylK {ta:TE}{tr:TA}{t:Th}{ts:List Th}(a:yip ta t)(b:yiU tr ts):yiU (ygA ta tr) (t :: ts):=fun σ H Q q =>
 a σ H _ λx H1 s1 i1=>b σ H1 _ λxs H2 s2 i2=>q _ _ (s1.trans s2) (yav (i1.same (yfa s2)) (i2.same (ycJ s1)))
theorem yn3 {H H1:Hp}{p:Addr}{o:HO}(hp:H1 p=none):Same (fr H H1) (fr H (upd H1 p o)):=yfa (yaf hp o)
theorem yio {tr:TA}{ts:List Th}(a:yiU tr ts)(h:ts.length<=1000):yip (ypc tr) (.tp ts):=fun σ H Q q=>a σ H _ λxs H1 s1 i1 =>
 ⟨ydi (by rw[i1.len];exact h),λp hp=>q _ _ (s1.trans (yaf hp _)) (ycV (by rw[ybH (s1.free hp)];exact yad) (i1.same (yn3 hp)))⟩
theorem yph {tr:TA}{ts:List Th}(a:yiU tr ts)(h:ts.length<=1000):yip (yoj tr) (.ls ts):=fun σ H Q q=>a σ H _ λxs H1 s1 i1 =>
 ⟨ydi (by rw[i1.len];exact h),λp hp=>q _ _ (s1.trans (yaf hp _)) (ybV (by rw[ybH (s1.free hp)];exact yad) (i1.same (yn3 hp)))⟩
theorem yqO {v:V}(h:imV v=true):eqT (.vl v) (.vl v)=true:=by
 cases v with
 | non=>simp[eqT,eqV]
 | bl b=>cases b<;>simp[eqT,eqV]
 | int i=>simp[eqT,eqV]
 | str x=>simp[eqT,eqV]
 | _=>cases h
theorem ynN {K:PySem.W.Frag}{H:Hp}{v:V}(h:imV v=true):Rep K H v (.vl v):=by
 rw[Rep]
 refine⟨rfl,?_⟩
 cases v<;>first | rfl | cases h
theorem ybO {x:V}{n:String}{k:Knd}{H:Hp}{Q:VK}(h:KndOf H x k)(q:Q (.bl (k.isA n)) H)(hn:ykG n:=by unfold ykG;decide):ypL [x,.ty n] H Q:=⟨x,n,k,rfl,hn,h,q⟩
noncomputable def ydo:Sp:=λvs H Q _=>∃ n:Int,vs=[.int n]/\Q (.bl true) H
theorem ynn (T:Txt K mg t):FnOk P w K mg base CX0 1 t.f_zai t.d_zai ["thing"] ydo:=by
 refine T.RA.F.ok ynQ (λvs H Q E h=>?_) (λ_ _ _ s H vs Q E hr h=>?_)
 ·obtain⟨n,rfl,_⟩:=h;rfl
 obtain⟨n,rfl,q⟩:=h
 have hu:=ybr hr
 refine⟨_,(yag (yao (ya0 (yal yaO rfl T.Ja yaj (yaa (pv 0) (yaa (ybF rfl T.Ru yhj) yab))) (ya5 (ygX (yal yaO rfl T.Ja yaj (yaa (pv 0) (yaa (ybF rfl T.QA ycr) yab)))))))),?_⟩
 walk_at ""
 refine ybO (.int n) (ya2 (i_T ?_))
 walk_at ""
 exact ybO (.int n) (ya2 q)
theorem yd5 {a b c:Int}{ta tb tc:TE}{σ:St}{H:Hp}{Q:VK}(ha:∀ Q':VK,Q' (.int a) H->ta σ H Q')(hb:∀ Q':VK,Q' (.int b) H->tb σ H Q')(hc:∀ Q':VK,Q' (.int c) H->tc σ H Q')(q:Q (.bl (decide (a<=b/\b<=c))) H) :
  ygq (rI0 λi j=>V.bl (decide (i<=j))) (rI0 λi j=>V.bl (decide (i<=j))) ta tb tc σ H Q:=by
 refine ha _ (hb _ (ync (ya2 ?_)))
 by_cases h:a<=b
 ·rw[if_pos (by simpa using h)]
  refine hc _ (ync ?_)
  rw[show decide (b<=c)=decide (a<=b/\b<=c) by simp[h]]
  exact q
 ·rw[if_neg (by simpa using h)]
  rw[show decide (a<=b/\b<=c)=false by simp[h]] at q
  exact q
theorem iv {σ:St}{H:Hp}{v:V}(i:Nat)(h:σ[i]?=some (some v)):∀ Q':VK,Q' v H->ylq i σ H Q':=λ_ q=>⟨v,h,q⟩
noncomputable def ych:Sp:=λvs H Q _=>∃ n lo hi:Int,vs=[.int n,.int lo,.int hi]/\Q (.bl (decide (lo<=n/\n<=hi))) H
theorem ynX (T:Txt K mg t)(G_zai:FnOk P w K mg base CX0 1 t.f_zai t.d_zai ["thing"] ydo):FnOk P w K mg base CX0 2 t.f_zaf t.d_zaf ["thing","least","most"] ych:=by
 refine T.Rq.F.ok yo0 (λvs H Q E h=>?_) (λ_ _ _ s H vs Q E hr h=>?_)
 ·obtain⟨n,lo,hi,rfl,_⟩:=h;rfl
 obtain⟨n,lo,hi,rfl,q⟩:=h
 have hu:=ybr hr
 refine⟨_,(yag (yao (ya0 (pcl G_zai hr T.RA (yaa (pv 0) yab)) (ya5 (ydJ ycB ycB (pv 1) (pv 0) (pv 2)))))),?_⟩
 walk_at ""
 exact⟨n,rfl,ya2 (i_T (yd5 (iv 1 rfl) (iv 0 rfl) (iv 2 rfl) q))⟩
theorem ykj {a b D:Addr}{xs ys:List V}{te:TE}{Fin:Hp->Prop}{H:Hp}{o1 o2:Option V}(ha:H a=some (.lst xs))(hb:H b=some (.lst ys))(hD:H D=none)(hz:xs.length<=900)
  (ht:∀ (i:Nat) (x y:V) (H':Hp) (Q:VK),xs[i]?=some x->ys[i]?=some y->Same H H'->(∀ H'',Same H' H''->Q (.bl true) H'')->te [some x,some y] H' Q)
  (fin:∀ n H',Same H H'->H' D=some (.lst ((List.replicate n true).map V.bl))->Fin H') :
  ∃ W:Nat->Nat->St->Hp->Prop,(∃ m,W 0 m [o1,o2] (upd H D (.lst [])))/\ycR (Itz K a b) (ykc K 2 (yb8 (ybm 0) (yb8 (ybm 1) yke))) yei te D Fin W:=by
 refine yku (xs:=xs) (ys:=ys) (λi σ H'=>(∃ o1 o2,σ=[o1,o2])/\Same H H'/\H' D=some (.lst ((List.replicate i true).map V.bl))) ⟨⟨_,_,rfl⟩,yaf hD _,yad⟩ (λi σ H' h=>⟨SqL.of (h.2.1 _ _ ha),SqL.of (h.2.1 _ _ hb)⟩) ?_ ?_
 ·rintro i u v σ H' c hx hy ⟨⟨o1,o2,rfl⟩,sj,hF'⟩ hc
  have s3:=yaf hc (.tup [u,v])
  refine yhZ (SqT.of yad) (yca (i_T ?_))
  refine ht i u v _ _ hx hy (sj.trans s3) λH4 s4=>⟨_,s4 _ _ (s3 _ _ hF'),?_,⟨_,_,rfl⟩,yaT hD ((sj.trans s3).trans s4),?_⟩
  ·rw[List.length_map,List.length_replicate]
   have:=(List.getElem?_eq_some_iff.mp hx).1
   exact yat (by omega)
  ·rw[yad,List.map_replicate,← List.replicate_succ',List.map_replicate]
 ·rintro i σ H' hi ⟨⟨o1,o2,rfl⟩,sj,hF'⟩
  exact fin _ _ sj hF'
theorem yjW {a:Addr}{i:Nat}{xs:List V}{te:TE}{σ:St}{H:Hp}{Q:VK}(e:σ[i]?=some (some (.ref a)))(ea:H a=some (.lst xs))(hz:xs.length<=900)
  (ht:∀ (i:Nat) (x y:V) (H':Hp) (Q:VK),xs[i]?=some x->xs[i+1]?=some y->Same H H'->(∀ H'',Same H' H''->Q (.bl true) H'')->te [some x,some y] H' Q)
  (fin:∀ n D H',Same H H'->H' D=some (.lst ((List.replicate n true).map V.bl))->Q (.ref D) H') :
  yfv (yq2 K (ygA (ylq i) (ygA (tSl (yrn K) (ylq i) (ymi (tC (.int 1))) ygD) ylX))) [none,none] (ykc K 2 (yb8 (ybm 0) (yb8 (ybm 1) yke))) yei te σ H Q:=by
 refine⟨_,e,_,e,1,rfl,a,_,rfl,SqL.of ea,λp hp=>?_⟩
 have s1:=yaf hp (.lst (ygL xs (some 1) none))
 refine⟨a,p,rfl,⟨_,SqL.of (s1 _ _ ea)⟩,⟨_,SqL.of yad⟩,λD hD=>ykj (s1 _ _ ea) yad hD hz (λi x y H' Q' hx hy sm q'=>?_) λn H' s2 hd=>fin n D H' (s1.trans s2) hd⟩
 have l0:=(List.getElem?_eq_some_iff.mp hx).1
 have e1:ygL xs (some ((1:Nat):Int)) none=xs.drop 1:=ykF xs 1 (by omega)
 rw[show(1:Int)=((1:Nat):Int) from rfl,e1,List.getElem?_drop,Nat.add_comm] at hy
 exact ht i x y H' Q' hx hy (s1.trans sm) q'
theorem yks {H:Hp}{D:Addr}{n:Nat}{Q:VK}(h:H D=some (.lst ((List.replicate n true).map V.bl)))(q:Q (.bl true) H):ypm K [.ref D] H Q:=⟨D,_,rfl,SqL.of h,by simpa using q⟩
noncomputable def yiR:Sp:=λvs H Q _=>∃ (a:Addr) (ns:List Int),vs=[.ref a]/\H a=some (.lst (ns.map V.int))/\ns.length<=100/\(∀ i (h:i+1 < ns.length),ns[i] < ns[i+1])/\∀ H',Same H H'->Q (.bl true) H'
theorem yoZ (T:Txt K mg t):FnOk P w K mg base CX0 1 t.f_zal t.d_zal ["numbers"] yiR:=by
 refine T.RJ.F.ok yox (λvs H Q E h=>?_) (λ_ _ _ s H vs Q E hr h=>?_)
 ·obtain⟨_,_,rfl,_⟩:=h;rfl
 obtain⟨a,ns,rfl,ea,le,up,q⟩:=h
 have hu:=ybr hr
 refine⟨_,(yag (yao (yal (ybK rfl) rfl T.JV ybJ (yaa (yaS (yaB (NB:=["one","other"]) (cap:=[none,none]) rfl) rfl (yly rfl T.Ro (yaa (pv 0) (yaa (yc9 yd3 (pv 0) (ydN yac) ydP) yab))) (λ_ _ _ _=>by exact(show PG _ _ (ykc K 2 (yb8 (ybm 0) (yb8 (ybm 1) yke))) from yc0 (n:=2) rfl (yaZ (yaq (i:=0) (show List.Nodup (["one","other"]:List Str) by decide) rfl (Or.inl rfl)) (yaZ (yaq (i:=1) (show List.Nodup (["one","other"]:List Str) by decide) rfl (Or.inl rfl)) ycb)))) (λ_ _ _ _=>yaG) (λ_ _ _ _=>(yaJ yel (pv 0) (pv 1) (yau _)))) yab)))),?_⟩
 walk_at ""
 refine yjW rfl ea (by rw[List.length_map];omega) (λi x y H' Q' hx hy _ q'=>?_) λn D H' sm hd=>yks hd (q _ sm)
 rw[List.getElem?_map] at hx hy
 cases ex:ns[i]? with
 | none=>rw[ex] at hx;cases hx
 | some u =>
  cases ey:ns[i+1]? with
  | none=>rw[ey] at hy;cases hy
  | some v =>
   rw[ex] at hx
   rw[ey] at hy
   cases hx
   cases hy
   obtain⟨l1,e1⟩:=List.getElem?_eq_some_iff.mp ey
   have:=up i l1
   rw[(List.getElem?_eq_some_iff.mp ex).2,e1] at this
   walk_at ""
   rw[show decide (u < v)=true by simpa using this]
   exact q' _ (Same.refl _)
section
variable {α:Type}
theorem ybb {a D:Addr}{xs:List V}{us:List α}{te:TE}{Fin:Hp->Prop}{o:Option V}{r:St}{H:Hp}{R:V->α->Prop}(f:α->V)(ha:H a=some (.lst xs))(al:Al R xs us)(hD:H D=none)(hz:us.length<=900)
  (hte:∀ x u (H':Hp) (Q':VK),u∈us->Same H H'->R x u->(∀ H'',Same H' H''->Q' (f u) H'')->te (some x :: r) H' Q') (fin:∀ H',Same H H'->H' D=some (.lst (us.map f))->Fin H') :
  ∃ W:Nat->Nat->St->Hp->Prop,(∃ m,W 0 m (o :: r) (upd H D (.lst [])))/\ycR (Itl K a) (ybm 0) yei te D Fin W:=by
 refine ybM (xs:=xs) (λi σ' H'=>(∃ o,σ'=o :: r)/\Same H H'/\H' D=some (.lst ((us.take i).map f))) ⟨⟨_,rfl⟩,yaf hD _,yad⟩ (λ_ _ _ _ h=>SqL.of (h.2.1 _ _ ha)) ?_ ?_
 ·rintro i x σ' H' N hN hx ⟨⟨o,rfl⟩,sm,hd⟩
  have hi:i < us.length:=by have:=(List.getElem?_eq_some_iff.mp hx).1;rw[al.1] at this;exact this
  obtain⟨x',e,rx⟩:=al.2 i hi
  rw[hx] at e
  cases e
  refine ybI (yca (i_T (hte x us[i] H' _ (List.getElem_mem hi) sm rx λH2 t2=>⟨_,t2 _ _ hd,?_,hN _ _ ⟨⟨_,rfl⟩,yaT hD (sm.trans t2),?_⟩⟩)))
  ·rw[List.length_map,List.length_take]
   exact yat (by omega)
  ·rw[yad,List.take_succ_eq_append_getElem hi,List.map_append]
   rfl
 ·rintro σ' H' ⟨_,sm,hd⟩
  rw[al.1,List.take_length] at hd
  exact fin H' sm hd
theorem yjw {a D:Addr}{xs:List V}{us:List α}{te:TE}{Fin:Hp->Prop}{o:Option V}{r:St}{H:Hp}{R:V->α->Prop}(f:α->V)(ha:H a=some (.tup xs))(al:Al R xs us)(hD:H D=none)(hz:us.length<=900)
  (hte:∀ x u (H':Hp) (Q':VK),u∈us->Same H H'->R x u->(∀ H'',Same H' H''->Q' (f u) H'')->te (some x :: r) H' Q') (fin:∀ H',Same H H'->H' D=some (.lst (us.map f))->Fin H') :
  ∃ W:Nat->Nat->St->Hp->Prop,(∃ m,W 0 m (o :: r) (upd H D (.lst [])))/\ycR (Itt K a) (ybm 0) yei te D Fin W:=by
 refine ylf (xs:=xs) (λi σ' H'=>(∃ o,σ'=o :: r)/\Same H H'/\H' D=some (.lst ((us.take i).map f))) ⟨⟨_,rfl⟩,yaf hD _,yad⟩ (λ_ _ _ _ h=>SqT.of (h.2.1 _ _ ha)) ?_ ?_
 ·rintro i x σ' H' hx ⟨⟨o,rfl⟩,sm,hd⟩
  have hi:i < us.length:=by have:=(List.getElem?_eq_some_iff.mp hx).1;rw[al.1] at this;exact this
  obtain⟨x',e,rx⟩:=al.2 i hi
  rw[hx] at e
  cases e
  refine ybI (yca (i_T (hte x us[i] H' _ (List.getElem_mem hi) sm rx λH2 t2=>⟨_,t2 _ _ hd,?_,⟨_,rfl⟩,yaT hD (sm.trans t2),?_⟩)))
  ·rw[List.length_map,List.length_take]
   exact yat (by omega)
  ·rw[yad,List.take_succ_eq_append_getElem hi,List.map_append]
   rfl
 ·rintro σ' H' ⟨_,sm,hd⟩
  rw[al.1,List.take_length] at hd
  exact fin H' sm hd
theorem yhA {H:Hp}{D:Addr}{us:List α}{Q:VK}(h:H D=some (.lst (us.map λ_=>V.bl true)))(q:Q (.bl true) H):ypm K [.ref D] H Q:=yks (n:=us.length) (by rw[h,List.map_const',List.map_replicate]) q
theorem ylF {f:α->V}(us:List α):Al (λx u=>x=f u) (us.map f) us:=⟨List.length_map _,λi h=>⟨_,by rw[List.getElem?_map,List.getElem?_eq_getElem h];rfl,rfl⟩⟩
end
mutual
noncomputable def ycy:Th->L2.Tr
 | .im v=>.vl v
 | .ls ts=>.ls (toTrs ts)
 | .tp ts=>.tp (toTrs ts)
 | .dk=>.vl .non
noncomputable def toTrs:List Th->List L2.Tr
 | []=>[]
 | t :: ts=>ycy t :: toTrs ts
end
mutual
noncomputable def ycN:Th->Bool
 | .im v=>imV v
 | .ls ts=>cleans ts
 | .tp ts=>cleans ts
 | .dk=>false
noncomputable def cleans:List Th->Bool
 | []=>true
 | t :: ts=>ycN t&&cleans ts
end
mutual
theorem Is.rep {H:Hp}:∀ {x:V} {tr:Th},ycN tr=true->Is H x tr->Rep K H x (ycy tr)
 | x,.im v,c,h=>by
  rw[Is] at h
  rw[h.1,ycy]
  exact ynN h.2
 | x,.ls ts,c,h=>by
  rw[Is] at h
  obtain⟨a,xs,e,q,r⟩:=h
  rw[ycy,Rep]
  exact⟨a,xs,e,SqL.of q,Iss.rep (by rw[ycN] at c;exact c) r⟩
 | x,.tp ts,c,h=>by
  rw[Is] at h
  obtain⟨a,xs,e,q,r⟩:=h
  rw[ycy,Rep]
  exact⟨a,xs,e,SqT.of q,Iss.rep (by rw[ycN] at c;exact c) r⟩
 | x,.dk,c,_=>by rw[ycN] at c;cases c
theorem Iss.rep {H:Hp}:∀ {xs:List V} {ts:List Th},cleans ts=true->Iss H xs ts->Reps K H xs (toTrs ts)
 | xs,[],_,h=>by rw[Iss] at h;rw[toTrs,Reps];exact h
 | xs,t :: ts,c,h=>by
  rw[Iss] at h
  obtain⟨x,r,e,q,z⟩:=h
  rw[cleans,Bool.and_eq_true] at c
  rw[toTrs,Reps]
  exact⟨x,r,e,Is.rep c.1 q,Iss.rep c.2 z⟩
end
mutual
theorem ygE:∀ {tr:Th},ycN tr=true->eqT (ycy tr) (ycy tr)=true
 | .im v,c=>by rw[ycy];rw[ycN] at c;exact yqO c
 | .ls ts,c=>by rw[ycy];rw[ycN] at c;exact eqs_self c
 | .tp ts,c=>by rw[ycy];rw[ycN] at c;exact eqs_self c
 | .dk,c=>by rw[ycN] at c;cases c
theorem eqs_self:∀ {ts:List Th},cleans ts=true->eqTs (toTrs ts) (toTrs ts)=true
 | [],_=>rfl
 | t :: ts,c=>by
  rw[cleans,Bool.and_eq_true] at c
  rw[toTrs]
  show(eqT (ycy t) (ycy t)&&eqTs (toTrs ts) (toTrs ts))=true
  rw[ygE c.1,eqs_self c.2]
  rfl
end
noncomputable def dpT (tr:Th):Nat:=dep (ycy tr)
noncomputable def ylJ (ts:List Th):Nat:=deps (toTrs ts)
theorem ybT:∀ {ts:List Th},(∀ u∈ts,ycN u=true)->cleans ts=true
 | [],_=>rfl
 | t :: ts,h=>by rw[cleans,h t (by simp),ybT λu hu=>h u (by simp[hu])];rfl
theorem ydv {k:Nat}:∀ {ts:List Th},(∀ u∈ts,dpT u<=k)->ylJ ts<=k
 | [],_=>Nat.zero_le _
 | t :: ts,h=>by
  show max (dpT t) (ylJ ts)<=k
  have a:=h t (by simp)
  have b:=ydv (ts:=ts) λu hu=>h u (by simp[hu])
  omega
theorem yhS {ts:List Th}{k:Nat}(h:ylJ ts<=k):dpT (.ls ts)<=k+1:=by show deps (toTrs ts)+1<=k+1;exact Nat.succ_le_succ h
theorem yjP {ts:List Th}{k:Nat}(h:ylJ ts<=k):dpT (.tp ts)<=k+1:=by show deps (toTrs ts)+1<=k+1;exact Nat.succ_le_succ h
theorem ybC {v:V}{k:Nat}:dpT (.im v)<=k:=by show dep (.vl v)<=k;rw[dep];exact Nat.zero_le _
theorem yg2 {k:Nat}:ylJ []<=k:=Nat.zero_le _
theorem ybP {t:Th}{ts:List Th}{k:Nat}(a:dpT t<=k)(b:ylJ ts<=k):ylJ (t :: ts)<=k:=by show max (dpT t) (ylJ ts)<=k;omega
noncomputable def OkE (tr:Th):Prop:=ycN tr=true/\dpT tr<=60
theorem yij {H:Hp}{x y:V}{tr tr':Th}{Q:VK}(a:OkE tr)(b:OkE tr')(ix:Is H x tr)(iy:Is H y tr')(q:Q (.bl (eqT (ycy tr) (ycy tr'))) H):yov K x y H Q:=⟨_,_,ix.rep a.1,iy.rep b.1,a.2,b.2,q⟩
theorem ymn {H:Hp}{x y:V}{tr tr':Th}{Q:VK}(a:OkE tr)(b:OkE tr')(ix:Is H x tr)(iy:Is H y tr')(q:Q (.bl (!eqT (ycy tr) (ycy tr'))) H):yok K x y H Q:=⟨_,_,ix.rep a.1,iy.rep b.1,a.2,b.2,q⟩
theorem yjQ {H:Hp}{x y:V}{tr:Th}{Q:VK}(a:OkE tr)(ix:Is H x tr)(iy:Is H y tr)(q:Q (.bl true) H):yov K x y H Q:=yij a a ix iy (by rw[ygE a.1];exact q)
theorem ymp {H:Hp}{x y:V}{tr:Th}{Q:VK}(a:OkE tr)(ix:Is H x tr)(iy:Is H y tr)(q:Q (.bl false) H):yok K x y H Q:=ymn a a ix iy (by rw[ygE a.1];exact q)
theorem ycu (ns:List Int):toTrs (ns.map nT)=ns.map nTr:=by
 induction ns with
 | nil=>rfl
 | cons n ns ih=>rw[List.map_cons,toTrs,ih];rfl
theorem yd4:∀ ns ms:List Int,eqTs (ns.map nTr) (ms.map nTr)=decide (ns=ms)
 | [],[]=>rfl
 | [],_ :: _=>rfl
 | _ :: _,[]=>rfl
 | n :: ns,m :: ms=>by
  show(eqT (nTr n) (nTr m)&&eqTs (ns.map nTr) (ms.map nTr))=_
  rw[yd4 ns ms,show eqT (nTr n) (nTr m)=decide (n=m) by simp[eqT,nTr,eqV];rfl,Bool.eq_iff_iff]
  simp
theorem ydF (ns:List Int):OkE (.tp (ns.map nT)):=⟨ybT λu hu=>by obtain⟨n,_,rfl⟩:=List.mem_map.mp hu;rfl,yjP (k:=59) (ydv λu hu=>by obtain⟨n,_,rfl⟩:=List.mem_map.mp hu;exact ybC)⟩
structure Mt where
 (tp bt:Int)
 gs:List Int
 deriving DecidableEq
noncomputable def mtT (m:Mt):Th:=.tp [nT m.tp,nT m.bt,.tp (m.gs.map nT)]
noncomputable def yfB (m:Mt):Int:=m.tp*(96 / m.bt)
structure GoodM (m:Mt):Prop where
 t1:1<=m.tp
 t2:m.tp<=12
 b:m.bt=2∨m.bt=4∨m.bt=8
 g:m.tp*(96 / m.bt)<=192
 gs:∀ g∈m.gs,1<=g/\g<=m.tp
 sum:m.gs=[]∨m.gs.sum=m.tp
 len:m.gs.length<=12
theorem Is.mt {H:Hp}{x:V}{m:Mt}(h:Is H x (mtT m)):∃ a b,x=.ref a/\H a=some (.tup [.int m.tp,.int m.bt,.ref b])/\H b=some (.tup (m.gs.map V.int)):=by
 rw[mtT,Is] at h
 obtain⟨a,xs,rfl,e,is⟩:=h
 rw[Iss] at is
 obtain⟨x,r,rfl,i1,is⟩:=is
 rw[Iss] at is
 obtain⟨y,r,rfl,i2,is⟩:=is
 rw[Iss] at is
 obtain⟨z,r,rfl,i3,is⟩:=is
 rw[Iss] at is
 subst is
 rw[nT,Is] at i1 i2
 rw[Is] at i3
 obtain⟨b,ys,rfl,eb,ib⟩:=i3
 rw[i1.1,i2.1] at e
 rw[ib.ints] at eb
 exact⟨a,b,rfl,e,eb⟩
theorem ydS {H:Hp}{b:Addr}{ns:List Int}(e:H b=some (.tup (ns.map V.int))):Is H (.ref b) (.tp (ns.map nT)):=ycV e (ydB H ns)
noncomputable def yhk:Sp:=λvs H Q _=>∃ b:Int,vs=[.int b]/\0 < b/\b<=8/\Q (.int (96 / b)) H
theorem ypq (T:Txt K mg t):FnOk P w K mg base CX0 1 t.f_zy t.d_zy ["bottom"] yhk:=by
 refine T.zy.F.ok ypC (λvs H Q E h=>?_) (λ_ _ _ s H vs Q E hr h=>?_)
 ·obtain⟨n,rfl,_⟩:=h;rfl
 obtain⟨b,rfl,hb,hb8,q⟩:=h
 have hu:=ybr hr
 refine⟨_,(yag (yao (yaF ycO (ycP rfl T.QU) (pv 0)))),?_⟩
 obtain⟨k,hk⟩:=T.QU
 walk_at ""
 exact i_I ⟨hb,by omega⟩ q
noncomputable def yi5:Sp:=λvs H Q _=>∃ (x:V) (m:Mt),vs=[x]/\Is H x (mtT m)/\GoodM m/\Q (.int (yfB m)) H
theorem yrr (T:Txt K mg t)(G_zy:FnOk P w K mg base CX0 1 t.f_zy t.d_zy ["bottom"] yhk):FnOk P w K mg base CX0 2 t.f_zM t.d_zM ["metre"] yi5:=by
 refine T.zM.F.ok yrf (λvs H Q E h=>?_) (λ_ _ _ s H vs Q E hr h=>?_)
 ·obtain⟨x,m,rfl,_⟩:=h;rfl
 obtain⟨x,m,rfl,im,gm,q⟩:=h
 have hu:=ybr hr
 obtain⟨a,b,rfl,ea,eb⟩:=im.mt
 have:=gm.b
 refine⟨_,(yag (yao (yaF yb0 (yas yap (pv 0) yac (λ_ _=>rfl)) (pcl G_zy hr T.zy (yaa (yas yap (pv 0) yac (λ_ _=>rfl)) yab))))),?_⟩
 walk_at ""
 refine yaI (SqT.of ea) (yak (j:=0) rfl) ?_
 walk_at ""
 refine yaI (SqT.of ea) (yak (j:=1) rfl) (yc8 ⟨_,rfl,by omega,by omega,yeI (.inl ⟨by have:=gm.t1;omega,by have:=gm.t2;omega⟩) q⟩)
noncomputable def yhd:Sp:=λvs H Q _=>∃ (b:Addr) (m:Mt),vs=[.ref b,.int m.tp]/\H b=some (.tup (m.gs.map V.int))/\GoodM m/\∀ H',Same H H'->Q (.bl true) H'
theorem ypR (T:Txt K mg t)(G_zaf:FnOk P w K mg base CX0 2 t.f_zaf t.d_zaf ["thing","least","most"] ych):FnOk P w K mg base CX0 3 t.f_zF t.d_zF ["thing","top"] yhd:=by
 refine T.zF.F.ok yrd (λvs H Q E h=>?_) (λ_ _ _ s H vs Q E hr h=>?_)
 ·obtain⟨b,m,rfl,_⟩:=h;rfl
 obtain⟨b,m,rfl,eb,gm,q⟩:=h
 have hu:=ybr hr
 refine⟨_,(yae (yaY (ybd (yaQ (yal yaO rfl T.Ja yaj (yaa (pv 0) (yaa (ybF rfl T.Js ybw) yab))))) (yag (yao ybt)) yaA) (yae (yaY (ybd (yaQ (yal (ybK rfl) rfl T.JV ybJ (yaa (yaS (yaB (NB:=["group","top"]) (cap:=[none,some 1]) rfl) rfl (ynZ (pv 0)) (λ_ _ _ _=>(yaq (i:=0) (show List.Nodup (["group","top"]:List Str) by decide) rfl (Or.inl rfl))) (λ_ _ _ _=>yaG) (λ_ _ _ _=>(pcl G_zaf hr T.Rq (yaa (pv 0) (yaa yac (yaa (pv 1) yab)))))) yab)))) (yag (yao ybt)) yaA) (yag (yao (ymD (yaJ (ycl hu) (pv 0) (yay yab) (yau _)) (ya5 (yaJ ycm (yal (yiT rfl) rfl T.QT yc6 (yaa (pv 0) yab)) (pv 1) (yau _)))))))),?_⟩
 walk_at ""
 refine ybO (.tup eb) (ya2 (i_F ?_))
 walk_at ""
 refine⟨b,rfl,⟨_,SqT.of eb⟩,λD hD=>yjw (λ_=>V.bl true) eb (ylF m.gs) hD (by have:=gm.len;omega) (λx g H' Q' hg sm rx q'=>?_) λH' sm hd=>?_⟩
 ·subst rx
  walk_at ""
  refine⟨_,_,_,rfl,?_⟩
  rw[show decide (1<=g/\g<=m.tp)=true by simpa using gm.gs g hg]
  exact q' _ (Same.refl _)
 ·refine yc8 (yhA hd (ya2 (i_F ?_)))
  walk_at ""
  refine⟨by decide,λp hp=>?_⟩
  have s2:=sm.trans (yaf hp (.tup []))
  refine yij (ydF m.gs) (ydF []) (ydS (s2 _ _ eb)) (ycV yad (yaV _)) (ya2 ?_)
  have eE:eqT (ycy (.tp (m.gs.map nT))) (ycy (.tp (([]:List Int).map nT)))=decide (m.gs=[]):=by
   rw[ycy,ycy,ycu,ycu]
   exact yd4 _ _
  rw[eE]
  refine i_d (λ_=>q _ s2) λne=>?_
  walk_at ""
  refine⟨b,m.gs,rfl,SqT.of (s2 _ _ eb),λn hn=>by have:=gm.gs n hn;have:=gm.t2;omega,by have:=gm.len;omega,?_⟩
  walk_at ""
  rw[show decide (m.gs.sum=m.tp)=true by simpa using gm.sum.resolve_left ne]
  exact q _ s2
theorem yh9 {a b:Int}{H:Hp}{Q:VK}(q:Q (.bl (!decide (a=b))) H):rNe (.int a) (.int b) H Q:=⟨rfl,by rw[show decide (V.int a=V.int b)=decide (a=b) by rw[Bool.eq_iff_iff];simp];exact q⟩
theorem am {n lo hi:Int}{H:Hp}{Q:VK}{E:XK}(h:lo<=n/\n<=hi)(q:Q (.bl true) H):ych [.int n,.int lo,.int hi] H Q E:=⟨_,_,_,rfl,by rw[show decide (lo<=n/\n<=hi)=true by simpa using h];exact q⟩
noncomputable def ygp:Sp:=λvs H Q _=>∃ (x:V) (m:Mt),vs=[x]/\Is H x (mtT m)/\GoodM m/\∀ H',Same H H'->Q (.bl true) H'
theorem yoY (T:Txt K mg t)(G_zai:FnOk P w K mg base CX0 1 t.f_zai t.d_zai ["thing"] ydo)(G_zaf:FnOk P w K mg base CX0 2 t.f_zaf t.d_zaf ["thing","least","most"] ych)(G_zy:FnOk P w K mg base CX0 1 t.f_zy t.d_zy ["bottom"] yhk)
  (G_zF:FnOk P w K mg base CX0 3 t.f_zF t.d_zF ["thing","top"] yhd):FnOk P w K mg base CX0 4 t.f_zae t.d_zae ["thing"] ygp:=by
 refine T.RB.F.ok sc_zae (λvs H Q E h=>?_) (λ_ _ _ s H vs Q E hr h=>?_)
 ·obtain⟨x,m,rfl,_⟩:=h;rfl
 obtain⟨x,m,rfl,im,gm,q⟩:=h
 have hu:=ybr hr
 obtain⟨a,b,rfl,ea,eb⟩:=im.mt
 refine⟨_,(yae (yaY (PW.pt (ycz (ybd (yaQ (yal yaO rfl T.Ja yaj (yaa (pv 0) (yaa (ybF rfl T.Js ybw) yab))))) (ybW (yaz yih (yal yaD rfl T.Jj PySem.boot_len (yaa (pv 0) yab)) yac (yau _))))) (yag (yao ybt)) yaA) (yae (yar (i:=1) sc_zae.nd rfl (Or.inl rfl) (yas yap (pv 0) yac (λ_ _=>rfl))) (yae (yar (i:=2) sc_zae.nd rfl (Or.inl rfl) (yas yap (pv 0) yac (λ_ _=>rfl))) (yae (yaY (PW.pt (ycz (ybd (yaQ (pcl G_zaf hr T.Rq (yaa (pv 1) (yaa yac (yaa (ycP rfl T.QY) yab)))))) (ycz (ybd (yaQ (pcl G_zai hr T.RA (yaa (pv 2) yab)))) (ybW (yaz yfC (pv 2) (ynl rfl T.Rf) rfl))))) (yag (yao ybt)) yaA) (yag (yao (ya0 (yaJ ycB (yaF yb0 (pv 1) (pcl G_zy hr T.zy (yaa (pv 2) yab))) (ycP rfl T.JX) (yau _)) (ya5 (pcl G_zF hr T.zF (yaa (yas yap (pv 0) yac (λ_ _=>rfl)) (yaa (pv 1) yab))))))))))),?_⟩
 walk_at ""
 refine ybO (.tup ea) (ya2 (i_F ?_))
 walk_at ""
 refine⟨a,_,rfl,.inr (SqT.of ea),i_c (yh9 (ya2 (i_F ?_)))⟩
 walk_at ""
 refine yaI (SqT.of ea) (yak (j:=0) rfl) ?_
 walk_at ""
 refine yaI (SqT.of ea) (yak (j:=1) rfl) ?_
 walk_at ""
 refine am ⟨gm.t1,gm.t2⟩ (ya2 (i_F ?_))
 walk_at ""
 refine⟨_,rfl,ya2 (i_F ?_)⟩
 walk_at ""
 refine⟨_,_,rfl,.inr (T.Rg.sq H),rfl,rfl,ya2 ?_⟩
 have inB:inV (.int m.bt) [V.int 2,V.int 4,V.int 8]=true:=by rcases gm.b with e | e | e<;>rw[e]<;>decide
 rw[if_pos rfl,inB]
 refine i_F ?_
 walk_at ""
 have:=gm.b
 refine⟨_,rfl,by omega,by omega,yeI (.inl ⟨by have:=gm.t1;omega,by have:=gm.t2;omega⟩) ?_⟩
 walk_at ""
 rw[show decide (m.tp*(96 / m.bt)<=192)=true by simpa using gm.g]
 refine i_T ?_
 walk_at ""
 refine yaI (SqT.of ea) (yak (j:=2) rfl) ?_
 walk_at ""
 exact⟨b,m,rfl,eb,gm,q⟩
noncomputable def yiw:Sp:=λvs H Q _=>∃ k:Int,vs=[.int k]/\-7<=k/\k<=7/\Q (.bl true) H
theorem yn6 (T:Txt K mg t)(G_zaf:FnOk P w K mg base CX0 2 t.f_zaf t.d_zaf ["thing","least","most"] ych):FnOk P w K mg base CX0 3 t.f_zan t.d_zan ["thing"] yiw:=by
 refine T.RC.F.ok yoh (λvs H Q E h=>?_) (λ_ _ _ s H vs Q E hr h=>?_)
 ·obtain⟨k,rfl,_⟩:=h;rfl
 obtain⟨k,rfl,k0,k7,q⟩:=h
 have hu:=ybr hr
 refine⟨_,(yag (yao (pcl G_zaf hr T.Rq (yaa (pv 0) (yaa (ycM ybR (ycP rfl T.JY)) (yaa (ycP rfl T.JY) yab)))))),?_⟩
 walk_at ""
 refine⟨_,_,_,rfl,?_⟩
 rw[show decide (-7<=k/\k<=7)=true by simpa using ⟨k0,k7⟩]
 exact q
structure Pit where
 (st ln oc:Int)
noncomputable def pT (p:Pit):Th:=.tp [nT p.st,nT p.ln,nT p.oc]
noncomputable def yjz (p:Pit):Int:=7*p.oc+p.st
structure yoS (p:Pit):Prop where
 s0:0<=p.st
 s6:p.st<=6
 l0:-2<=p.ln
 l2:p.ln<=2
 o0:0<=p.oc
 o8:p.oc<=8
theorem Is.pit {H:Hp}{x:V}{p:Pit}(h:Is H x (pT p)):∃ a,x=.ref a/\H a=some (.tup [.int p.st,.int p.ln,.int p.oc]):=by
 rw[pT,Is] at h
 obtain⟨a,xs,rfl,e,is⟩:=h
 have:=Iss.ints (ns:=[p.st,p.ln,p.oc]) is
 rw[this] at e
 exact⟨a,rfl,e⟩
theorem yl4 {H:Hp}{a:Addr}{p:Pit}(e:H a=some (.tup [.int p.st,.int p.ln,.int p.oc])):Is H (.ref a) (pT p):=ycV e (ydB H [p.st,p.ln,p.oc])
noncomputable def yjb:Sp:=λvs H Q _=>∃ (x:V) (p:Pit),vs=[x]/\Is H x (pT p)/\yoS p/\Q (.bl true) H
theorem ynG (T:Txt K mg t)(G_zaf:FnOk P w K mg base CX0 2 t.f_zaf t.d_zaf ["thing","least","most"] ych):FnOk P w K mg base CX0 3 t.f_zaa t.d_zaa ["thing"] yjb:=by
 refine T.RQ.F.ok ynJ (λvs H Q E h=>?_) (λ_ _ _ s H vs Q E hr h=>?_)
 ·obtain⟨x,m,rfl,_⟩:=h;rfl
 obtain⟨x,p,rfl,ip,gp,q⟩:=h
 have hu:=ybr hr
 obtain⟨a,rfl,ea⟩:=ip.pit
 refine⟨_,(yae (yaY (PW.pt (ycz (ybd (yaQ (yal yaO rfl T.Ja yaj (yaa (pv 0) (yaa (ybF rfl T.Js ybw) yab))))) (ybW (yaz yih (yal yaD rfl T.Jj PySem.boot_len (yaa (pv 0) yab)) yac (yau _))))) (yag (yao ybt)) yaA) (yag (yao (ya0 (pcl G_zaf hr T.Rq (yaa (yas yap (pv 0) yac (λ_ _=>rfl)) (yaa yac (yaa yac yab)))) (ya0 (pcl G_zaf hr T.Rq (yaa (yas yap (pv 0) yac (λ_ _=>rfl)) (yaa (ycM ybR yac) (yaa yac yab)))) (ya5 (pcl G_zaf hr T.Rq (yaa (yas yap (pv 0) yac (λ_ _=>rfl)) (yaa yac (yaa yac yab)))))))))),?_⟩
 walk_at ""
 refine ybO (.tup ea) (ya2 (i_F ?_))
 walk_at ""
 refine⟨a,_,rfl,.inr (SqT.of ea),i_c (yh9 (ya2 (i_F ?_)))⟩
 walk_at ""
 refine yaI (SqT.of ea) (yak (j:=0) rfl) ?_
 walk_at ""
 refine am ⟨gp.s0,gp.s6⟩ (ya2 (i_T ?_))
 walk_at ""
 refine yaI (SqT.of ea) (yak (j:=1) rfl) ?_
 walk_at ""
 refine am ⟨gp.l0,gp.l2⟩ (ya2 (i_T ?_))
 walk_at ""
 refine yaI (SqT.of ea) (yak (j:=2) rfl) ?_
 walk_at ""
 exact am ⟨gp.o0,gp.o8⟩ q
noncomputable def yls:Sp:=λvs H Q _=>∃ (x:V) (p:Pit),vs=[x]/\Is H x (pT p)/\Q (.int (yjz p)) H
theorem yop (T:Txt K mg t):FnOk P w K mg base CX0 1 t.f_zaq t.d_zaq ["pitch"] yls:=by
 refine T.RS.F.ok yoB (λvs H Q E h=>?_) (λ_ _ _ s H vs Q E hr h=>?_)
 ·obtain⟨x,m,rfl,_⟩:=h;rfl
 obtain⟨x,p,rfl,ip,q⟩:=h
 have hu:=ybr hr
 obtain⟨a,rfl,ea⟩:=ip.pit
 refine⟨_,(yag (yao (yaF ya6 (yaF yb0 yac (yas yap (pv 0) yac (λ_ _=>rfl))) (yas yap (pv 0) yac (λ_ _=>rfl))))),?_⟩
 walk_at ""
 refine yaI (SqT.of ea) (yak (j:=2) rfl) ?_
 walk_at ""
 exact yaI (SqT.of ea) (yak (j:=0) rfl) (ync q)
noncomputable def signsV:Str := "abcdefghijklmnopqrstuvwxyzABCDEFGHIJKLMNOPQRSTUVWXYZ-"
noncomputable def inW (c:Nat):Bool:=!(Builtin.Str.occurrences signsV ⟨#[c]⟩ 0 signsV.length 1).isEmpty
noncomputable def ykY (z:Str):Prop:=z.cps.size<=12/\∀ c∈z.cps.toList,inW c=true
noncomputable def ylp:Sp:=λvs H Q _=>∃ z:Str,vs=[.str z,.str signsV]/\ykY z/\∀ H',Same H H'->Q (.bl true) H'
theorem yn9 (T:Txt K mg t):FnOk P w K mg base CX0 1 t.f_zab t.d_zab ["text","signs"] ylp:=by
 refine T.RN.F.ok yo1 (λvs H Q E h=>?_) (λ_ _ _ s H vs Q E hr h=>?_)
 ·obtain⟨z,rfl,_⟩:=h;rfl
 obtain⟨z,rfl,gz,q⟩:=h
 have hu:=ybr hr
 refine⟨_,(yag (yao (yal (ybK rfl) rfl T.JV ybJ (yaa (yaS (yaB (NB:=["sign","signs"]) (cap:=[none,some 1]) rfl) rfl (yoL (pv 0)) (λ_ _ _ _=>(yaq (i:=0) (show List.Nodup (["sign","signs"]:List Str) by decide) rfl (Or.inl rfl))) (λ_ _ _ _=>yaG) (λ_ _ _ _=>(yaJ yjU (pv 0) (pv 1) rfl))) yab)))),?_⟩
 walk_at ""
 refine⟨_,rfl,z,rfl,λD hD=>yln (λi σ' H'=>(∃ o,σ'=[o,some (.str signsV)])/\Same H H'/\H' D=some (.lst ((List.replicate i true).map V.bl))) ⟨⟨_,rfl⟩,yaf hD _,yad⟩ ?_ ?_⟩
 ·rintro i c σ' H' hc ⟨⟨o,rfl⟩,sm,hd⟩
  refine ybI (yca (i_T ?_))
  walk_at ""
  have lt:=(List.getElem?_eq_some_iff.mp hc).1
  refine⟨_,_,rfl,rfl,?_⟩
  rw[show(!(Builtin.Str.occurrences signsV ⟨#[c]⟩ 0 signsV.length 1).isEmpty)=true from gz.2 c (List.mem_of_getElem? hc)]
  refine⟨_,hd,?_,⟨_,rfl⟩,yaT hD sm,?_⟩
  ·rw[List.length_map,List.length_replicate]
   have:=gz.1
   rw[Array.length_toList] at lt
   exact yat (by omega)
  ·rw[yad,List.map_replicate,← List.replicate_succ',List.map_replicate]
 ·rintro σ' H' ⟨_,sm,hd⟩
  exact yc8 (yks hd (q _ sm))
noncomputable def yns:Sp:=λvs H Q _=>∃ z:Str,vs=[.str z]/\ykY z/\z.cps.size≠0/\∀ H',Same H H'->Q (.bl true) H'
theorem yrj (T:Txt K mg t)(G_zab:FnOk P w K mg base CX0 1 t.f_zab t.d_zab ["text","signs"] ylp):FnOk P w K mg base CX0 2 t.f_zu t.d_zu ["thing"] yns:=by
 refine T.zu.F.ok ypG (λvs H Q E h=>?_) (λ_ _ _ s H vs Q E hr h=>?_)
 ·obtain⟨z,rfl,_⟩:=h;rfl
 obtain⟨z,rfl,gz,nz,q⟩:=h
 have hu:=ybr hr
 refine⟨_,(yae (yaY (ybd (yaQ (yal yaO rfl T.Ja yaj (yaa (pv 0) (yaa (ybF rfl T.QS ycU) yab))))) (yag (yao ybt)) yaA) (yag (yao (ya0 (ydJ ycB ycB yac (yal yfD rfl T.Jj PySem.boot_len (yaa (pv 0) yab)) (ycP rfl T.Ju)) (ya5 (pcl G_zab hr T.RN (yaa (pv 0) (yaa (yqP rfl T.Qq) yab)))))))),?_⟩
 walk_at ""
 refine ybO (.str z) (ya2 (i_F ?_))
 walk_at ""
 have:=gz.1
 have zl:z.length=z.cps.size:=rfl
 refine yd5 (a:=1) (b:=z.length) (c:=12) (λ_ q=>q) (λQ' q'=>⟨_,rfl,z,rfl,Nat.le_trans (by omega:z.length<=1000) (by decide),q'⟩) (λ_ q=>q) (ya2 ?_)
 rw[show decide ((1:Int)<=z.length/\(z.length:Int)<=12)=true by rw[decide_eq_true_eq];omega]
 refine i_T ?_
 walk_at ""
 exact⟨z,rfl,gz,q⟩
noncomputable def ylB:Sp:=λvs H Q _=>∃ z:Str,vs=[.str z]/\ykY z/\∀ H',Same H H'->Q (.bl true) H'
theorem yny (T:Txt K mg t)(G_zu:FnOk P w K mg base CX0 2 t.f_zu t.d_zu ["thing"] yns):FnOk P w K mg base CX0 3 t.f_zaj t.d_zaj ["thing"] ylB:=by
 refine T.RU.F.ok yoe (λvs H Q E h=>?_) (λ_ _ _ s H vs Q E hr h=>?_)
 ·obtain⟨z,rfl,_⟩:=h;rfl
 obtain⟨z,rfl,gz,q⟩:=h
 have hu:=ybr hr
 refine⟨_,(yag (yao (ya0 (yal yaO rfl T.Ja yaj (yaa (pv 0) (yaa (ybF rfl T.QS ycU) yab))) (ya5 (ymD (yaJ ycm (pv 0) yaN (yau _)) (ya5 (pcl G_zu hr T.zu (yaa (pv 0) yab)))))))),?_⟩
 walk_at ""
 refine ybO (.str z) (ya2 (i_T ?_))
 walk_at ""
 refine⟨rfl,ya2 (i_d (λ_=>q _ (Same.refl _)) λne=>?_)⟩
 walk_at ""
 refine⟨z,rfl,gz,λe=>ne ?_,q⟩
 have:z.cps=#[]:=Array.eq_empty_of_size_eq_zero e
 cases z
 cases this
 rfl
noncomputable def ycT:Sp:=λvs H Q _=>∃ z:Str,vs=[.bl true,.str z]/\Q .non H
theorem yoD (T:Txt K mg t):FnOk P w K mg base CX0 1 t.f_zar t.d_zar ["is_so","why"] ycT:=by
 refine T.Ra.F.ok ynD (λvs H Q E h=>?_) (λ_ _ _ s H vs Q E hr h=>?_)
 ·obtain⟨z,rfl,_⟩:=h;rfl
 obtain⟨z,rfl,q⟩:=h
 have hu:=ybr hr
 refine⟨_,(yag (yaY (ybd (yaQ (pv 0))) (yag yhg) yaA)),?_⟩
 walk_at ""
 refine i_F (ycC q)
noncomputable def sT (z:Str):Th:=.im (.str z)
noncomputable def bT (b:Bool):Th:=.im (.bl b)
noncomputable def lT (ps:List Pit):Th:=.ls (ps.map pT)
inductive Sn where
 | rest (n:Int)
 | tones (ps:List Pit) (n:Int) (wd:Str) (op cl:Bool)
noncomputable def snT:Sn->Th
 | .rest n=>.tp [sT "rest",nT n]
 | .tones ps n wd op cl=>.tp [sT "tones",lT ps,nT n,sT wd,bT op,bT cl]
noncomputable def yn7 (ps:List Pit):Prop:=∀ i (h:i+1 < ps.length),yjz ps[i] < yjz ps[i+1]
noncomputable def yj4 (ps:List Pit):Prop:=1<=ps.length/\ps.length<=4/\(∀ p∈ps,yoS p)/\yn7 ps
noncomputable def ygd:Sn->Prop
 | .rest n=>2<=n/\n<=4608
 | .tones ps n wd _ _=>yj4 ps/\2<=n/\n<=384/\ykY wd
noncomputable def yjN:Sp:=λvs H Q _=>∃ (x:V) (ps:List Pit),vs=[x]/\Is H x (lT ps)/\yj4 ps/\∀ H',Same H H'->Q (.bl true) H'
theorem yqm (T:Txt K mg t)(G_zaa:FnOk P w K mg base CX0 3 t.f_zaa t.d_zaa ["thing"] yjb)(G_zaq:FnOk P w K mg base CX0 1 t.f_zaq t.d_zaq ["pitch"] yls)(G_zal:FnOk P w K mg base CX0 1 t.f_zal t.d_zal ["numbers"] yiR):FnOk P w K mg base CX0 4 t.f_zX t.d_zX ["thing"] yjN:=by
 refine T.zX.F.ok yqf (λvs H Q E h=>?_) (λ_ _ _ s H vs Q E hr h=>?_)
 ·obtain⟨x,ps,rfl,_⟩:=h;rfl
 obtain⟨x,ps,rfl,ip,gp,q⟩:=h
 have hu:=ybr hr
 rw[lT,Is] at ip
 obtain⟨a,xs,rfl,ea,ip⟩:=ip
 have al:=ya4 ip
 refine⟨_,(yae (yaY (PW.pt (ycz (ybd (yaQ (yal yaO rfl T.Ja yaj (yaa (pv 0) (yaa (ybF rfl T.Jk ya3) yab))))) (ybW (ybd (yeU ycB ycB yac (yal yaD rfl T.Jj PySem.boot_len (yaa (pv 0) yab)) (ycP rfl T.QB)))))) (yag (yao ybt)) yaA) (yag (yao (ya0 (yal (ybK rfl) rfl T.JV ybJ (yaa (yaS (yaB (NB:=["pitch"]) (cap:=[none]) rfl) rfl (yaE (pv 0)) (λ_ _ _ _=>(yaq (i:=0) (show List.Nodup (["pitch"]:List Str) by decide) rfl (Or.inl rfl))) (λ_ _ _ _=>yaG) (λ_ _ _ _=>(pcl G_zaa hr T.RQ (yaa (pv 0) yab)))) yab)) (ya5 (pcl G_zal hr T.RJ (yaa (yaS (yaB (NB:=["pitch"]) (cap:=[none]) rfl) rfl (yaE (pv 0)) (λ_ _ _ _=>(yaq (i:=0) (show List.Nodup (["pitch"]:List Str) by decide) rfl (Or.inl rfl))) (λ_ _ _ _=>yaG) (λ_ _ _ _=>(pcl G_zaq hr T.RS (yaa (pv 0) yab)))) yab))))))),?_⟩
 walk_at ""
 refine ybO (.lst ea) (ya2 (i_F ?_))
 walk_at ""
 have l:=al.1
 refine yd5 (a:=1) (b:=xs.length) (c:=4) (λ_ q=>q) (λQ' q'=>⟨_,rfl,a,xs,rfl,.inl (SqL.of ea),q'⟩) (λ_ q=>q) (ya2 ?_)
 rw[show decide ((1:Int)<=xs.length/\(xs.length:Int)<=4)=true by rw[decide_eq_true_eq];have:=gp.1;have:=gp.2.1;omega]
 refine i_F ?_
 walk_at ""
 refine⟨a,rfl,⟨_,SqL.of ea⟩,λD hD=>ybb (λ_=>V.bl true) ea al hD (by have:=gp.2.1;omega) (λx p H' Q' hp sm rx q'=>?_) λH' sm hd=>yc8 (yhA hd (ya2 (i_T ?_)))⟩
 ·walk_at ""
  exact⟨x,p,rfl,rx.same sm,gp.2.2.1 p hp,q' _ (Same.refl _)⟩
 ·walk_at ""
  refine⟨a,rfl,⟨_,SqL.of (sm _ _ ea)⟩,λD2 hD2=>ybb (λp=>V.int (yjz p)) (sm _ _ ea) al hD2 (by have:=gp.2.1;omega) (λx p H2 Q' hp sm2 rx q'=>?_) λH2 sm2 hd2=>yc8 ?_⟩
  ·walk_at ""
   exact⟨x,p,rfl,rx.same (sm.trans sm2),q' _ (Same.refl _)⟩
  ·refine⟨D2,ps.map yjz,rfl,by rw[List.map_map];exact hd2,by rw[List.length_map];have:=gp.2.1;omega,λi h=>?_,λH3 s3=>q _ ((sm.trans sm2).trans s3)⟩
   rw[List.length_map] at h
   simpa using gp.2.2.2 i h
theorem ydZ {H:Hp}{a:Addr}{o o':HO}:upd (upd H a o) a o'=upd H a o':=by
 funext b
 by_cases e:b=a
 ·rw[e,yad,yad]
 ·rw[yai e,yai e,yai e]
noncomputable def ydK (t:Ad):Sp:=λvs H Q _=>∃ (C a dx:Addr) (n:Int),vs=[.ref a,.int n]/\(C=t.Uo∨C=t.Uq)/\H a=some (.ins C dx [])/\Q .non (upd H a (.ins C dx [("length",.int n)]))
theorem yqg (T:Txt K mg t):FnOk P w K mg base CX0 1 t.f_zh t.d_zh ["self","length"] (ydK t):=by
 refine T.zh.F.ok ypF (λvs H Q E h=>?_) (λ_ _ _ s H vs Q E hr h=>?_)
 ·obtain⟨_,_,_,_,rfl,_⟩:=h;rfl
 have hu:=ybr hr
 obtain⟨C,a,dx,z,rfl,hC,ea,q⟩:=h
 refine⟨_,(yag (ydb (pv 0) (pv 1) rfl)),?_⟩
 walk_at ""
 rcases hC with rfl | rfl
 ·exact⟨a,_,dx,_,rfl,ea,T.JR,T.Jl,by decide,q⟩
 ·exact⟨a,_,dx,_,rfl,ea,T.Jb,T.Jq,by decide,q⟩
theorem ym1 {H:Hp}{x:V}{c:Addr}{ty:Value}{b:Bool}{Q:VK}(h:yeT K H x ty)(k:PySem.W.kitOne K ty (.ref c)=some b)(q:Q (.bl b) H):yna K [x,.ref c] H Q:=⟨x,c,ty,b,rfl,h,k,q⟩
noncomputable abbrev made (H:Hp)(C a dx:Addr):Hp:=upd (upd H dx (.own a)) a (.ins C dx [])
theorem ycZ {H:Hp}{C a dx:Addr}(ha:H a=none)(hd:H dx=none)(ne:dx≠a):Same H (made H C a dx):=λb u e=>by
 unfold made
 rw[yai (yam e ha),yai (yam e hd)]
 exact e
theorem yjq {H:Hp}{C a dx b:Addr}(h:made H C a dx b=none):b≠a/\H b=none:=by
 unfold made at h
 by_cases e:b=a
 ·rw[e,yad] at h;cases h
 ·rw[yai e] at h
  by_cases e2:b=dx
  ·rw[e2,yad] at h;cases h
  ·rw[yai e2] at h;exact⟨e,h⟩
theorem yl7 {H:Hp}{C a dx:Addr}{o:HO}(ha:H a=none)(hd:H dx=none)(ne:dx≠a):Same H (upd (made H C a dx) a o)/\∀ Hs,nw Hs H (upd (made H C a dx) a o) a=some o :=
 ⟨λb u e=>by rw[yai (yam e ha)];exact ycZ ha hd ne b u e,λHs=>by rw[yaP ha];exact yad⟩
theorem Is.tones {H:Hp}{x:V}{ps:List Pit}{n:Int}{wd:Str}{op cl:Bool}(h:Is H x (snT (.tones ps n wd op cl))):∃ a y,x=.ref a/\H a=some (.tup [.str "tones",y,.int n,.str wd,.bl op,.bl cl])/\Is H y (lT ps):=by
 unfold snT at h
 rw[Is] at h
 obtain⟨a,ys,rfl,e,is⟩:=h
 rw[Iss] at is
 obtain⟨y0,r0,rfl,i0,is⟩:=is
 rw[Iss] at is
 obtain⟨y1,r1,rfl,i1,is⟩:=is
 rw[Iss] at is
 obtain⟨y2,r2,rfl,i2,is⟩:=is
 rw[Iss] at is
 obtain⟨y3,r3,rfl,i3,is⟩:=is
 rw[Iss] at is
 obtain⟨y4,r4,rfl,i4,is⟩:=is
 rw[Iss] at is
 obtain⟨y5,r5,rfl,i5,is⟩:=is
 rw[Iss] at is
 rw[sT,Is] at i0 i3
 rw[nT,Is] at i2
 rw[bT,Is] at i4 i5
 rw[is,i0.1,i2.1,i3.1,i4.1,i5.1] at e
 exact⟨a,y1,rfl,e,i1⟩
theorem Is.rest {H:Hp}{x:V}{n:Int}(h:Is H x (snT (.rest n))):∃ a,x=.ref a/\H a=some (.tup [.str "rest",.int n]):=by
 unfold snT at h
 rw[Is] at h
 obtain⟨a,ys,rfl,e,is⟩:=h
 rw[Iss] at is
 obtain⟨y0,r0,rfl,i0,is⟩:=is
 rw[Iss] at is
 obtain⟨y1,r1,rfl,i1,is⟩:=is
 rw[Iss] at is
 rw[sT,Is] at i0
 rw[nT,Is] at i1
 rw[is,i0.1,i1.1] at e
 exact⟨a,rfl,e⟩
theorem ykn {H:Hp}{a:Addr}{y:V}{ps:List Pit}{n:Int}{wd:Str}{op cl:Bool}(e:H a=some (.tup [.str "tones",y,.int n,.str wd,.bl op,.bl cl]))(i:Is H y (lT ps)):Is H (.ref a) (snT (.tones ps n wd op cl)) :=
 ycV e (yav (ybz rfl) (yav i (yav (yin _ _) (yav (ybz rfl) (yav (ybz rfl) (yav (ybz rfl) (yaV _)))))))
theorem ygH {H:Hp}{a:Addr}{n:Int}(e:H a=some (.tup [.str "rest",.int n])):Is H (.ref a) (snT (.rest n)):=ycV e (yav (ybz rfl) (yav (yin _ _) (yaV _)))
noncomputable def tFs (l:Addr)(n:Int)(wd:Str)(op cl:Bool):List (Str×V):=[("length",.int n),("pitches",.ref l),("word",.str wd),("opens",.bl op),("closes",.bl cl)]
noncomputable def So (t:Ad)(H:Hp)(x:V):Sn->Prop
 | .rest n=>∃ a dx,x=.ref a/\H a=some (.ins t.Uo dx [("length",.int n)])
 | .tones ps n wd op cl=>∃ a dx l,x=.ref a/\H a=some (.ins t.Uq dx (tFs l n wd op cl))/\Is H (.ref l) (lT ps)
theorem So.same {H H':Hp}{x:V}{sn:Sn}(s:Same H H')(h:So t H x sn):So t H' x sn:=by
 cases sn with
 | rest n=>obtain⟨a,dx,e,ea⟩:=h;exact⟨a,dx,e,s _ _ ea⟩
 | tones ps n wd op cl=>obtain⟨a,dx,l,e,ea,i⟩:=h;exact⟨a,dx,l,e,s _ _ ea,i.same s⟩
noncomputable def yg4 (t:Ad):Sp:=λvs H Q _=>∃ (a dx l:Addr) (xs:List V) (n:Int) (wd:Str) (op cl:Bool),vs=[.ref a,.ref l,.int n,.str wd,.bl op,.bl cl]/\H a=some (.ins t.Uq dx [])/\H l=some (.lst xs)/\l≠a /\
 ∀ l',H l'=none->Q .non (upd (upd H l' (.lst xs)) a (.ins t.Uq dx (tFs l' n wd op cl)))
theorem ypv (T:Txt K mg t)(G_zh:FnOk P w K mg base CX0 1 t.f_zh t.d_zh ["self","length"] (ydK t)):FnOk P w K mg base CX0 2 t.f_zi t.d_zi ["self","pitches","length","word","opens","closes"] (yg4 t):=by
 refine T.zi.F.ok yqQ (λvs H Q E h=>?_) (λ_ _ _ s H vs Q E hr h=>?_)
 ·obtain⟨_,_,_,_,_,_,_,_,rfl,_⟩:=h;rfl
 have hu:=ybr hr
 obtain⟨a,dx,l,xs,n,wd,op,cl,rfl,ea,el,nl,q⟩:=h
 refine⟨_,(yae (yaH (ykp (ybc (v:=.ref t.Um) rfl T.Rr rfl) T.RI G_zh (hr.mono (by first | decide | omega)) T.zh.B ydn (yaa (pv 0) (yaa (pv 2) yab)))) (yae (ydb (pv 0) (ybD ya8 rfl T.Jk ya3 (yaa (pv 1) yab)) rfl) (yae (ydb (pv 0) (pv 3) rfl) (yae (ydb (pv 0) (pv 4) rfl) (yag (ydb (pv 0) (pv 5) rfl)))))),?_⟩
 walk_at ""
 refine⟨t.Uq,a,dx,n,rfl,.inr rfl,ea,?_⟩
 walk_at ""
 refine⟨l,xs,rfl,.inl (SqL.of (by rw[yai nl];exact el)),λl' hl'=>?_⟩
 have n1:l'≠a:=λz=>by rw[z,yad] at hl';cases hl'
 rw[yai n1] at hl'
 have fin:=q l' hl'
 have sw:upd (upd H a (.ins t.Uq dx [("length",.int n)])) l' (.lst xs)=upd (upd H l' (.lst xs)) a (.ins t.Uq dx [("length",.int n)]):=by
  funext b
  by_cases e:b=a
  ·rw[e,yai n1.symm,yad,yad]
  ·by_cases e2:b=l'
   ·rw[e2,yad,yai n1,yad]
   ·rw[yai e2,yai e,yai e,yai e2]
 rw[sw]
 generalize upd H l' (.lst xs)=H1 at fin ⊢
 refine ymA rfl ⟨a,_,dx,_,rfl,yad,T.Jb,T.Jt,by show 1 < 1000;decide,?_⟩
 walk_at ""
 refine⟨a,_,dx,_,rfl,yad,T.Jb,T.JZ,by show 2 < 1000;decide,?_⟩
 walk_at ""
 refine⟨a,_,dx,_,rfl,yad,T.Jb,T.Jm,by show 3 < 1000;decide,?_⟩
 walk_at ""
 refine⟨a,_,dx,_,rfl,yad,T.Jb,T.Jr,by show 4 < 1000;decide,?_⟩
 show Q .non _
 rw[ydZ,ydZ,ydZ,ydZ]
 exact fin
noncomputable def tpo (H:Hp):Hp:=λb=>match H b with
 | some (.tup xs)=>some (.tup xs)
 | _=>none
theorem ykN {H:Hp}{b:Addr}{u:HO}(h:tpo H b=some u):H b=some u/\∃ xs,u=.tup xs:=by
 unfold tpo at h
 cases e:H b with
 | none=>rw[e] at h;cases h
 | some v =>
  rw[e] at h
  cases v<;>first | (cases h;exact⟨rfl,_,rfl⟩) | cases h
theorem ynL {H:Hp}{b:Addr}{xs:List V}(h:H b=some (.tup xs)):tpo H b=some (.tup xs):=by unfold tpo;rw[h]
theorem yhB (H:Hp):Same (tpo H) H:=λb u h=>(ykN h).1
theorem ykM {H:Hp}{xs:List V}{ps:List Pit}(h:Iss H xs (ps.map pT)):Iss (tpo H) xs (ps.map pT):=ycY ((ya4 h).imp λy p _ iy=>by
 obtain⟨a,rfl,ea⟩:=iy.pit
 exact yl4 (ynL ea))
inductive TK2 where
 | r | t
noncomputable def tC2 (t:Ad):TK2->Addr
 | .r=>t.Uo
 | .t=>t.Uq
noncomputable def tF2 (t:Ad):TK2->Addr
 | .r=>t.f_zV
 | .t=>t.f_zJ
noncomputable def tD2 (t:Ad):TK2->FuncData
 | .r=>t.d_zV
 | .t=>t.d_zJ
theorem yms (T:Txt K mg t):∀ i,Cls K (tC2 t i)
 | .r=>T.JR
 | .t=>T.Jb
theorem ymX (T:Txt K mg t):∀ i,yis K (tC2 t i) "told" (tF2 t i)
 | .r=>T.RD
 | .t=>T.RE
theorem ymv (T:Txt K mg t):∀ i,Binds K (tD2 t i) ["self"] []
 | .r=>T.zV.B
 | .t=>T.zJ.B
noncomputable def yr7:Sn->TK2
 | .rest _=>.r
 | .tones ..=>.t
noncomputable def ygg (t:Ad)(i:TK2):Sp:=λvs H Q _=>∃ x sn Hs,vs=[x]/\yr7 sn=i/\Same Hs H/\So t Hs x sn/\∀ y H',Same H H'->Is (nw (tpo Hs) H H') y (snT sn)->Q y H'
theorem yqa (T:Txt K mg t):FnOk P w K mg base CX0 1 t.f_zV t.d_zV ["self"] (ygg t .r):=by
 refine T.zV.F.ok ypY (λvs H Q E h=>?_) (λ_ _ _ s H vs Q E hr h=>?_)
 ·obtain⟨_,_,_,rfl,_⟩:=h;rfl
 have hu:=ybr hr
 obtain⟨x,sn,Hs,rfl,hk,sH,h,q⟩:=h
 cases sn with
 | tones=>cases hk
 | rest n =>
  obtain⟨a,dx,rfl,ea⟩:=h
  refine⟨_,(yag (yao (yay (yaa yaN (yaa (ybl (pv 0) rfl) yab))))),?_⟩
  walk_at ""
  refine⟨a,_,dx,_,_,rfl,sH _ _ ea,T.JR,T.Jl,rfl,?_⟩
  walk_at ""
  refine⟨by show 2<=sizeLine;decide,λp hp=>q _ _ (yaf hp _) (ycV (by rw[yaP hp];exact yad) (yav (ybz rfl) (yav (yin _ _) (yaV _))))⟩
theorem yqr (T:Txt K mg t):FnOk P w K mg base CX0 1 t.f_zJ t.d_zJ ["self"] (ygg t .t):=by
 refine T.zJ.F.ok yq9 (λvs H Q E h=>?_) (λ_ _ _ s H vs Q E hr h=>?_)
 ·obtain⟨_,_,_,rfl,_⟩:=h;rfl
 have hu:=ybr hr
 obtain⟨x,sn,Hs,rfl,hk,sH,h,q⟩:=h
 cases sn with
 | rest=>cases hk
 | tones ps n wd op cl =>
  obtain⟨a,dx,l,rfl,ea,i⟩:=h
  obtain⟨l2,xs,e,el,il⟩:∃ l2 xs,V.ref l=.ref l2/\Hs l2=some (.lst xs)/\Iss Hs xs (ps.map pT):=by rw[lT,Is] at i;exact i
  cases e
  have ea':=sH _ _ ea
  refine⟨_,(yag (yao (yay (yaa yaN (yaa (ybD ya8 rfl T.Jk ya3 (yaa (ybl (pv 0) rfl) yab)) (yaa (ybl (pv 0) rfl) (yaa (ybl (pv 0) rfl) (yaa (ybl (pv 0) rfl) (yaa (ybl (pv 0) rfl) yab))))))))),?_⟩
  walk_at ""
  refine⟨a,_,dx,_,_,rfl,ea',T.Jb,T.Jt,rfl,?_⟩
  walk_at ""
  refine⟨l,xs,rfl,.inl (SqL.of (sH _ _ el)),λl' hl'=>?_⟩
  have s2:=yaf hl' (.lst xs)
  have ea2:=s2 _ _ ea'
  show ynY _ _ _ _ _ _
  walk_at ""
  refine⟨a,_,dx,_,_,rfl,ea2,T.Jb,T.Jq,rfl,?_⟩
  walk_at ""
  refine⟨a,_,dx,_,_,rfl,ea2,T.Jb,T.JZ,rfl,?_⟩
  walk_at ""
  refine⟨a,_,dx,_,_,rfl,ea2,T.Jb,T.Jm,rfl,?_⟩
  walk_at ""
  refine⟨a,_,dx,_,_,rfl,ea2,T.Jb,T.Jr,rfl,?_⟩
  walk_at ""
  refine⟨by show 6<=sizeLine;decide,λp hp=>?_⟩
  have s3:=s2.trans (yaf hp (.tup [.str "tones",.ref l',.int n,.str wd,.bl op,.bl cl]))
  refine q _ _ s3 (ycV (by rw[yaP (s2.free hp)];exact yad) (yav (ybz rfl) (yav (ybV (xs:=xs) ?_ ((ykM il).same (yer ((yhB Hs).trans sH)))) (yav (yin _ _) (yav (ybz rfl) (yav (ybz rfl) (yav (ybz rfl) (yaV _))))))))
  rw[yaP hl']
  exact yaf hp _ _ _ yad
theorem yof (T:Txt K mg t):∀ i,FnOk P w K mg base CX0 1 (tF2 t i) (tD2 t i) ["self"] (ygg t i)
 | .r=>yqa T
 | .t=>yqr T
theorem yoF {H Hs:Hp}{x:V}{sn:Sn}{Q:VK}{E:XK}(sH:Same Hs H)(h:So t Hs x sn)(q:∀ y H',Same H H'->Is (nw (tpo Hs) H H') y (snT sn)->Q y H'):∃ (i:TK2) (a dx:Addr) (fs:List (Str×V)),x=.ref a/\H a=some (.ins (tC2 t i) dx fs)/\fs.lookup (Str.ofString "told")=none/\ygg t i [x] H Q E:=by
 cases sn with
 | rest n =>
  obtain⟨a,dx,rfl,ea⟩:=id h
  exact⟨.r,a,dx,_,rfl,sH _ _ ea,rfl,_,_,Hs,rfl,rfl,sH,h,q⟩
 | tones ps n wd op cl =>
  obtain⟨a,dx,l,rfl,ea,i⟩:=id h
  exact⟨.t,a,dx,_,rfl,sH _ _ ea,rfl,_,_,Hs,rfl,rfl,sH,h,q⟩
noncomputable def isR:Sn->Bool
 | .rest _=>true
 | _=>false
noncomputable def ycw (sns:List Sn):Bool:=match sns.getLast? with
 | some sn=>isR sn
 | none=>false
theorem So.isa (T:Txt K mg t){H:Hp}{x:V}{sn:Sn}(h:So t H x sn):∃ C,yeT K H x C/\PySem.W.kitOne K C (.ref t.Uo)=some (isR sn):=by
 cases sn with
 | rest n=>obtain⟨a,dx,rfl,ea⟩:=h;exact⟨_,T.Rp.ty T.JR ea,T.QW⟩
 | tones ps n wd op cl=>obtain⟨a,dx,l,rfl,ea,i⟩:=h;exact⟨_,T.Rb.ty T.Jb ea,T.QP⟩
theorem ybZ {α:Type}{S:V->α->Prop}{xs:List V}{us:List α}{u:α}(h:Al S xs us)(e:us.getLast?=some u):∃ ys x,xs=ys++[x]/\S x u/\∃ vs,us=vs++[u]/\Al S ys vs:=by
 obtain⟨vs,rfl⟩:=List.getLast?_eq_some_iff.mp e
 have l:=h.1
 rw[List.length_append,List.length_singleton] at l
 obtain⟨x,e1,s1⟩:=h.2 vs.length (by rw[List.length_append,List.length_singleton];omega)
 have ex:xs=xs.take vs.length++[x]:=by
  have:=List.take_append_drop vs.length xs
  rw[List.drop_eq_getElem_cons (by omega),List.drop_eq_nil_of_le (by omega)] at this
  rw[List.getElem?_eq_getElem (by omega)] at e1
  rw[← Option.some.inj e1]
  exact this.symm
 refine⟨xs.take vs.length,x,ex,by simpa using s1,vs,rfl,by rw[List.length_take];omega,λi hi=>?_⟩
 obtain⟨y,e2,s2⟩:=h.2 i (by rw[List.length_append,List.length_singleton];omega)
 exact⟨y,by rw[List.getElem?_take_of_lt hi];exact e2,by rw[List.getElem_append_left hi] at s2;exact s2⟩
noncomputable def ylG (t:Ad):Sp:=λvs H Q _=>∃ (l:Addr) (xs:List V) (sns:List Sn),vs=[.ref l]/\H l=some (.lst xs)/\Al (So t H) xs sns/\∀ H',Same H H'->Q (.bl (ycw sns)) H'
theorem yqK (T:Txt K mg t):FnOk P w K mg base CX0 1 t.f_zp t.d_zp ["sounds"] (ylG t):=by
 refine T.zp.F.ok ypN (λvs H Q E h=>?_) (λ_ _ _ s H vs Q E hr h=>?_)
 ·obtain⟨_,_,_,rfl,_⟩:=h;rfl
 have hu:=ybr hr
 obtain⟨l,xs,sns,rfl,el,al,q⟩:=h
 refine⟨_,(yag (yao (ya0 (yaJ (ycv hu) (pv 0) (yaw yab) (yau _)) (ya5 (yal (show yb5 _ _ (yna K) from yff) rfl T.Ja yaj (yaa (yas yaL (pv 0) (ycM ybR yac) (λ_ _=>rfl)) (yaa (ybc (v:=.ref t.Uo) rfl T.QM rfl) yab))))))),?_⟩
 walk_at ""
 refine⟨Nat.zero_le _,λp hp=>?_⟩
 have s2:=yaf hp (.lst [])
 have el2:=s2 _ _ el
 refine⟨l,p,xs,rfl,rfl,SqL.of el2,SqL.of yad,ya2 ?_⟩
 cases e:sns.getLast? with
 | none =>
  have hs:sns=[]:=List.getLast?_eq_none_iff.mp e
  have hx:xs=[]:=by have:=al.1;rw[hs] at this;exact List.eq_nil_of_length_eq_zero this
  rw[hx]
  refine i_F ?_
  have:=q _ s2
  unfold ycw at this
  rw[e] at this
  exact this
 | some sn =>
  obtain⟨ys,x,ex,sx,vs,_,_⟩:=ybZ al e
  have ne:(!xs.isEmpty)=true:=by rw[ex];cases ys<;>rfl
  rw[ne]
  refine i_T ?_
  walk_at ""
  rw[ex] at el2
  refine ybp (SqL.of el2) (ybx ys x) ?_
  walk_at ""
  obtain⟨C,ty,k⟩:=(sx.same s2).isa T
  refine ym1 ty k ?_
  have:=q _ s2
  unfold ycw at this
  rw[e] at this
  exact this
theorem ykS (ys:List V)(x:V):ygL (ys++[x]) none (some (-1))=ys:=by
 unfold ygL
 rw[HT.sIx_none]
 simp[HT.sIx]
 rw[show(-1+((ys.length:Int)+1)).toNat=ys.length by omega]
 exact List.take_left
noncomputable def ye4:Sp:=λvs H Q _=>∃ (x:V) (s:Sn),Is H x (snT s)/\((vs=[.str "rest",.int 2,x]/\Q (.bl (isR s)) H)∨(vs=[.str "tones",.int 6,x]/\isR s=false/\Q (.bl true) H))
theorem yqH (T:Txt K mg t):FnOk P w K mg base CX0 1 t.f_zO t.d_zO ["name","parts","thing"] ye4:=by
 refine T.zO.F.ok ypz (λvs H Q E h=>?_) (λ_ _ _ s H vs Q E hr h=>?_)
 ·obtain⟨x,s,_,⟨rfl,_⟩ | ⟨rfl,_⟩⟩:=h<;>rfl
 have hu:=ybr hr
 obtain⟨x,s,i,h⟩:=h
 cases s with
 | rest n =>
  obtain⟨a,rfl,ea⟩:=i.rest
  rcases h with ⟨rfl,q⟩ | ⟨rfl,r,_⟩
  ·refine⟨_,(yae (yaY (PW.pt (ycz (ybd (yaQ (yal yaO rfl T.Ja yaj (yaa (pv 2) (yaa (ybF rfl T.Js ybw) yab))))) (ybW (yaz yih (yal yaD rfl T.Jj PySem.boot_len (yaa (pv 2) yab)) (pv 1) (yau _))))) (yag (yao ybt)) yaA) (yag (yao (ya0 (yal yaO rfl T.Ja yaj (yaa (yas yap (pv 2) yac (λ_ _=>rfl)) (yaa (ybF rfl T.QS ycU) yab))) (ya5 (yaJ (ycl hu) (yas yap (pv 2) yac (λ_ _=>rfl)) (pv 0) (yau _))))))),?_⟩
   walk_at ""
   refine ybO (.tup ea) (ya2 (i_F ?_))
   walk_at ""
   refine⟨a,_,rfl,.inr (SqT.of ea),?_⟩
   walk_at ""
   refine yh9 (ya2 (i_F ?_))
   walk_at ""
   refine yaI (SqT.of ea) (yak (j:=0) rfl) ?_
   walk_at ""
   refine ybO (.str _) (ya2 (i_T ?_))
   walk_at ""
   refine yaI (SqT.of ea) (yak (j:=0) rfl) ?_
   walk_at ""
   exact yjQ ⟨rfl,ybC⟩ (ybz rfl) (ybz rfl) q
  ·cases r
 | tones ps n wd op cl =>
  obtain⟨a,y,rfl,ea,iy⟩:=i.tones
  rcases h with ⟨rfl,q⟩ | ⟨rfl,r,q⟩
  ·refine⟨_,(yae (yaY (PW.pt (ycz (ybd (yaQ (yal yaO rfl T.Ja yaj (yaa (pv 2) (yaa (ybF rfl T.Js ybw) yab))))) (ybW (yaz yih (yal yaD rfl T.Jj PySem.boot_len (yaa (pv 2) yab)) (pv 1) (yau _))))) (yag (yao ybt)) yaA) (yag (yao (ya0 (yal yaO rfl T.Ja yaj (yaa (yas yap (pv 2) yac (λ_ _=>rfl)) (yaa (ybF rfl T.QS ycU) yab))) (ya5 (yaJ (ycl hu) (yas yap (pv 2) yac (λ_ _=>rfl)) (pv 0) (yau _))))))),?_⟩
   walk_at ""
   refine ybO (.tup ea) (ya2 (i_F ?_))
   walk_at ""
   refine⟨a,_,rfl,.inr (SqT.of ea),?_⟩
   walk_at ""
   refine yh9 (ya2 (i_T ?_))
   exact q
  ·refine⟨_,(yae (yaY (PW.pt (ycz (ybd (yaQ (yal yaO rfl T.Ja yaj (yaa (pv 2) (yaa (ybF rfl T.Js ybw) yab))))) (ybW (yaz yih (yal yaD rfl T.Jj PySem.boot_len (yaa (pv 2) yab)) (pv 1) (yau _))))) (yag (yao ybt)) yaA) (yag (yao (ya0 (yal yaO rfl T.Ja yaj (yaa (yas yap (pv 2) yac (λ_ _=>rfl)) (yaa (ybF rfl T.QS ycU) yab))) (ya5 (yaJ (ycl hu) (yas yap (pv 2) yac (λ_ _=>rfl)) (pv 0) (yau _))))))),?_⟩
   walk_at ""
   refine ybO (.tup ea) (ya2 (i_F ?_))
   walk_at ""
   refine⟨a,_,rfl,.inr (SqT.of ea),?_⟩
   walk_at ""
   refine yh9 (ya2 (i_F ?_))
   walk_at ""
   refine yaI (SqT.of ea) (yak (j:=0) rfl) ?_
   walk_at ""
   refine ybO (.str _) (ya2 (i_T ?_))
   walk_at ""
   refine yaI (SqT.of ea) (yak (j:=0) rfl) ?_
   walk_at ""
   exact yjQ ⟨rfl,ybC⟩ (ybz rfl) (ybz rfl) q
noncomputable def yiD:Sp:=λvs H Q _=>∃ (x:V) (s:Sn),vs=[x]/\Is H x (snT s)/\ygd s/\Q (.bl (isR s)) H
theorem ypn (T:Txt K mg t)(G_zO:FnOk P w K mg base CX0 1 t.f_zO t.d_zO ["name","parts","thing"] ye4)(G_zaf:FnOk P w K mg base CX0 2 t.f_zaf t.d_zaf ["thing","least","most"] ych):FnOk P w K mg base CX0 3 t.f_zn t.d_zn ["thing"] yiD:=by
 refine T.zn.F.ok yqp (λvs H Q E h=>?_) (λ_ _ _ s H vs Q E hr h=>?_)
 ·obtain⟨x,s,rfl,_⟩:=h;rfl
 have hu:=ybr hr
 obtain⟨x,s,rfl,i,gs,q⟩:=h
 refine⟨_,(yag (yao (ya0 (pcl G_zO hr T.zO (yaa yaN (yaa yac (yaa (pv 0) yab)))) (ya5 (pcl G_zaf hr T.Rq (yaa (yas yap (pv 0) yac (λ_ _=>rfl)) (yaa (ycP rfl T.Jv) (yaa (ycP rfl T.Jp) yab)))))))),?_⟩
 walk_at ""
 refine⟨x,s,i,.inl ⟨rfl,ya2 ?_⟩⟩
 cases s with
 | tones=>exact i_F q
 | rest n =>
  obtain⟨a,rfl,ea⟩:=i.rest
  refine i_T ?_
  walk_at ""
  refine yaI (SqT.of ea) (yak (j:=1) rfl) ?_
  walk_at ""
  exact am ⟨gs.1,by have:=gs.2;omega⟩ q
noncomputable def yhv:Sp:=λvs H Q _=>∃ (x:V) (s:Sn),vs=[x]/\Is H x (snT s)/\ygd s/\isR s=false/\∀ H',Same H H'->Q (.bl true) H'
theorem yqd (T:Txt K mg t)(G_zO:FnOk P w K mg base CX0 1 t.f_zO t.d_zO ["name","parts","thing"] ye4)(G_zaf:FnOk P w K mg base CX0 2 t.f_zaf t.d_zaf ["thing","least","most"] ych)
  (G_zX:FnOk P w K mg base CX0 4 t.f_zX t.d_zX ["thing"] yjN) (G_zaj:FnOk P w K mg base CX0 3 t.f_zaj t.d_zaj ["thing"] ylB):FnOk P w K mg base CX0 5 t.f_zj t.d_zj ["thing"] yhv:=by
 refine T.zj.F.ok yqx (λvs H Q E h=>?_) (λ_ _ _ s H vs Q E hr h=>?_)
 ·obtain⟨x,s,rfl,_⟩:=h;rfl
 have hu:=ybr hr
 obtain⟨x,s,rfl,i,gs,r,q⟩:=h
 cases s with
 | rest=>cases r
 | tones ps n wd op cl =>
  obtain⟨gp,n2,n3,gw⟩:=gs
  obtain⟨a,y,rfl,ea,iy⟩:=i.tones
  refine⟨_,(yae (yaY (PW.pt (ycz (ybd (yaQ (pcl G_zO hr T.zO (yaa yaN (yaa yac (yaa (pv 0) yab)))))) (ybW (ybd (yaQ (pcl G_zX hr T.zX (yaa (yas yap (pv 0) yac (λ_ _=>rfl)) yab))))))) (yag (yao ybt)) yaA) (yae (yaY (ybd (yaQ (pcl G_zaf hr T.Rq (yaa (yas yap (pv 0) yac (λ_ _=>rfl)) (yaa (ycP rfl T.Jv) (yaa (ycP rfl T.JK) yab)))))) (yag (yao ybt)) yaA) (yag (yao (ya0 (pcl G_zaj hr T.RU (yaa (yas yap (pv 0) yac (λ_ _=>rfl)) yab)) (ya0 (yal yaO rfl T.Ja yaj (yaa (yas yap (pv 0) yac (λ_ _=>rfl)) (yaa (ybF rfl T.QA ycr) yab))) (ya5 (yal yaO rfl T.Ja yaj (yaa (yas yap (pv 0) yac (λ_ _=>rfl)) (yaa (ybF rfl T.QA ycr) yab)))))))))),?_⟩
  walk_at ""
  refine⟨_,_,i,.inr ⟨rfl,rfl,ya2 (i_F ?_)⟩⟩
  walk_at ""
  refine yaI (SqT.of ea) (yak (j:=1) rfl) ?_
  walk_at ""
  refine⟨y,ps,rfl,iy,gp,λH1 s1=>ya2 (i_F ?_)⟩
  have e1:=s1 _ _ ea
  walk_at ""
  refine yaI (SqT.of e1) (yak (j:=2) rfl) ?_
  walk_at ""
  refine am ⟨n2,n3⟩ (ya2 (i_F ?_))
  walk_at ""
  refine yaI (SqT.of e1) (yak (j:=3) rfl) ?_
  walk_at ""
  refine⟨wd,rfl,gw,λH2 s2=>ya2 (i_T ?_)⟩
  have e2:=s2 _ _ e1
  walk_at ""
  refine yaI (SqT.of e2) (yak (j:=4) rfl) ?_
  walk_at ""
  refine ybO (.bl _) (ya2 (i_T ?_))
  walk_at ""
  refine yaI (SqT.of e2) (yak (j:=5) rfl) ?_
  walk_at ""
  exact ybO (.bl _) (q _ (s1.trans s2))
noncomputable def yfL (t:Ad):Sp:=λvs H Q _=>∃ (x:V) (s:Sn) (Hs:Hp),vs=[x]/\Same Hs H/\Is Hs x (snT s)/\ygd s/\∀ y H',Same H H'->So t (nw Hs H H') y s->Q y H'
theorem yob (T:Txt K mg t)(G_zn:FnOk P w K mg base CX0 3 t.f_zn t.d_zn ["thing"] yiD)(G_zj:FnOk P w K mg base CX0 5 t.f_zj t.d_zj ["thing"] yhv)
  (G_zh:FnOk P w K mg base CX0 1 t.f_zh t.d_zh ["self","length"] (ydK t)) (G_zi:FnOk P w K mg base CX0 2 t.f_zi t.d_zi ["self","pitches","length","word","opens","closes"] (yg4 t)):FnOk P w K mg base CX0 6 t.f_zac t.d_zac ["told"] (yfL t):=by
 refine T.RT.F.ok yn1 (λvs H Q E h=>?_) (λ_ _ _ s H vs Q E hr h=>?_)
 ·obtain⟨x,s,Hs,rfl,_⟩:=h;rfl
 have hu:=ybr hr
 obtain⟨x,s,Hs,rfl,sH,i,gs,q⟩:=h
 refine⟨_,(yae (yaY (yaQ (pcl G_zn hr T.zn (yaa (pv 0) yab))) (yag (yao (yfp T.Rl G_zh (hr.mono (by first | decide | omega)) rfl T.QM T.zh.B .nil ydn (yaa (yas yap (pv 0) yac (λ_ _=>rfl)) yab)))) yaA) (yae (yaY (yaQ (pcl G_zj hr T.zj (yaa (pv 0) yab))) (yag (yao (yfp T.Rs G_zi (hr.mono (by first | decide | omega)) rfl T.QZ T.zi.B .nil ydn (yaa (yas yap (pv 0) yac (λ_ _=>rfl)) (yaa (yas yap (pv 0) yac (λ_ _=>rfl)) (yaa (yas yap (pv 0) yac (λ_ _=>rfl)) (yaa (yas yap (pv 0) yac (λ_ _=>rfl)) (yaa (yas yap (pv 0) yac (λ_ _=>rfl)) yab)))))))) yaA) (yag yhg))),?_⟩
 walk_at ""
 refine⟨x,s,rfl,i.same sH,gs,ya2 ?_⟩
 cases s with
 | rest n =>
  obtain⟨a,rfl,ea⟩:=i.rest
  refine i_T ?_
  walk_at ""
  refine yaI (SqT.of (sH _ _ ea)) (yak (j:=1) rfl) ?_
  walk_at ""
  intro a2 dx ha hd ne
  refine⟨t.Uo,a2,dx,n,rfl,.inl rfl,yad,rfl,?_⟩
  obtain⟨s2,e2⟩:=yl7 (C:=t.Uo) (o:=.ins t.Uo dx [("length",.int n)]) ha hd ne
  exact q _ _ s2 ⟨a2,dx,rfl,e2 Hs⟩
 | tones ps n wd op cl =>
  obtain⟨a,y,rfl,ea,iy⟩:=i.tones
  obtain⟨l,xs,rfl,el,il⟩:∃ l xs,y=.ref l/\Hs l=some (.lst xs)/\Iss Hs xs (ps.map pT):=by rw[lT,Is] at iy;exact iy
  refine i_F ?_
  walk_at ""
  refine⟨_,_,rfl,i.same sH,gs,rfl,λH1 s1=>ya2 (i_T ?_)⟩
  have e1:=s1 _ _ (sH _ _ ea)
  walk_at ""
  refine yaI (SqT.of e1) (yak (j:=1) rfl) ?_
  walk_at ""
  refine yaI (SqT.of e1) (yak (j:=2) rfl) ?_
  walk_at ""
  refine yaI (SqT.of e1) (yak (j:=3) rfl) ?_
  walk_at ""
  refine yaI (SqT.of e1) (yak (j:=4) rfl) ?_
  walk_at ""
  refine yaI (SqT.of e1) (yak (j:=5) rfl) ?_
  walk_at ""
  intro a2 dx ha hd ne
  have el1:=s1 _ _ (sH _ _ el)
  refine⟨a2,dx,l,xs,n,wd,op,cl,rfl,yad,ycZ ha hd ne _ _ el1,yam el1 ha,λl' hl'=>⟨rfl,?_⟩⟩
  obtain⟨n1,n2⟩:=yjq hl'
  have sm:Same H1 (upd (upd (made H1 t.Uq a2 dx) l' (.lst xs)) a2 (.ins t.Uq dx (tFs l' n wd op cl))):=λb u e=>by
   rw[yai (yam e ha),yai (yam e n2)]
   exact ycZ ha hd ne b u e
  refine q _ _ (s1.trans sm) ⟨a2,dx,l',rfl,by rw[yaP (s1.free ha)];exact yad,ybV ?_ (il.same (yer sH))⟩
  rw[yaP (s1.free n2),yai n1]
  exact yad
noncomputable def gp (Hs H0 H:Hp)(D:Addr):Hp:=nw Hs H0 (rm H D)
section
variable {Hs H0 H H':Hp} {D:Addr}
theorem ycs (sH:Same Hs H0)(sm:Same H0 H):Same (gp Hs H0 H D) H:=λc u e=>by
 unfold gp at e
 cases h:H0 c with
 | none=>rw[yaP h] at e;exact(ycQ e).2
 | some v=>rw[yb1 h] at e;exact sm _ _ (sH _ _ e)
theorem ygF (sH:Same Hs H0):Same Hs (gp Hs H0 H D):=yer sH
theorem yj5 (s:∀ b u,b≠D->H b=some u->H' b=some u):Same (gp Hs H0 H D) (gp Hs H0 H' D):=yfc (ydj s)
theorem ya1 (s:Same H H'):Same (gp Hs H0 H D) (gp Hs H0 H' D):=yj5 λb u _ e=>s b u e
theorem ydq {o:HO}:Same (gp Hs H0 H D) (gp Hs H0 (upd H D o) D):=yj5 λb u n e=>by rw[yai n];exact e
theorem yim (sH:Same Hs H0)(sm:Same H0 H){u0:HO}(hd:H D=some u0)(t2:Same H H'):Same (nw (gp Hs H0 H D) H H') (gp Hs H0 H' D):=λc u e=>by
 cases h1:H c with
 | none =>
  rw[yaP h1] at e
  unfold gp
  rw[yaP (sm.free h1),yeS (λz=>by rw[z,hd] at h1;cases h1)]
  exact e
 | some v =>
  rw[yb1 h1] at e
  exact ya1 t2 _ _ e
theorem yd1 {p:Addr}{o:HO}(hD:p≠D)(hp:H0 p=none)(e:H p=some o):gp Hs H0 H D p=some o:=by unfold gp;rw[yaP hp,yeS hD];exact e
theorem ycW:Same (gp Hs H0 H D) (nw Hs H0 H):=yfc (yeZ _ _)
end
noncomputable def Acc {α:Type}(R:Hp->V->α->Prop)(Hs H0 H:Hp)(D:Addr)(us:List α):Prop:=Same H0 H/\∃ ks,H D=some (.lst ks)/\Al (R (gp Hs H0 H D)) ks us
section
variable {α:Type} {R:Hp->V->α->Prop} {Hs H0 H H':Hp} {D:Addr} {us:List α}
theorem Acc.nil (hD:H0 D=none):Acc R Hs H0 (upd H0 D (.lst [])) D []:=⟨yaf hD _,[],yad,Al.nil⟩
theorem Acc.same (hR:ydA R)(h:Acc R Hs H0 H D us)(s:Same H H'):Acc R Hs H0 H' D us:=by
 obtain⟨sm,ks,hd,al⟩:=h
 exact⟨sm.trans s,ks,s _ _ hd,al.imp λ_ _ _ z=>hR (ya1 s) z⟩
theorem Acc.put (hR:ydA R)(hD:H0 D=none){ks:List V}{x:V}{u:α}(sm:Same H0 H)(al:Al (R (gp Hs H0 H D)) ks us)(rx:R (gp Hs H0 H D) x u):Acc R Hs H0 (upd H D (.lst (ks++[x]))) D (us++[u]) :=
 ⟨yaT hD sm,_,yad,(al.snoc rx).imp λ_ _ _ z=>hR ydq z⟩
theorem Acc.fin (hR:ydA R)(h:Acc R Hs H0 H D us):Same H0 H/\∃ ks,H D=some (.lst ks)/\Al (R (nw Hs H0 H)) ks us:=by
 obtain⟨sm,ks,hd,al⟩:=h
 exact⟨sm,ks,hd,al.imp λ_ _ _ z=>hR ycW z⟩
end
noncomputable def snL:Sn->Int
 | .rest n=>n
 | .tones _ n _ _ _=>n
noncomputable def ydz (ks:List Sn)(s:Sn):List Sn:=match isR s&&ycw ks with
 | true=>ks.dropLast++[.rest (snL (ks.getLastD (.rest 0))+snL s)]
 | false=>ks++[s]
noncomputable def yaR (ss:List Sn):List Sn:=ss.foldl ydz []
noncomputable def ycA (ss:List Sn):List Sn:=if ycw ss then ss.dropLast else ss
noncomputable def ybg (ss:List Sn):List Sn:=ycA (yaR ss)
noncomputable def yaW (ss:List Sn):Int:=(ss.map snL).sum
theorem ydc:ydA (So t):=λs h=>h.same s
theorem So.len {H:Hp}{x:V}{s:Sn}(h:So t H x s)(T:Txt K mg t):∃ a C dx fs,x=.ref a/\H a=some (.ins C dx fs)/\Cls K C/\NoAttr K C "length" /\ fs.lookup (Str.ofString "length")=some (.int (snL s)):=by
 cases s with
 | rest n=>obtain⟨a,dx,rfl,ea⟩:=h;exact⟨a,_,dx,_,rfl,ea,T.JR,T.Jl,rfl⟩
 | tones ps n wd op cl=>obtain⟨a,dx,l,rfl,ea,_⟩:=h;exact⟨a,_,dx,_,rfl,ea,T.Jb,T.Jq,rfl⟩
theorem ynx {H:Hp}{x:V}{s:Sn}{Q:V->Prop}(T:Txt K mg t)(h:So t H x s)(q:Q (.int (snL s))):∃ a C dx fs v,x=.ref a/\H a=some (.ins C dx fs)/\Cls K C/\NoAttr K C "length" /\ fs.lookup (Str.ofString "length")=some v/\Q v:=by
 obtain⟨a,C,dx,fs,e,ea,c,n,l⟩:=h.len T
 exact⟨a,C,dx,fs,_,e,ea,c,n,l,q⟩
noncomputable def yhy (t:Ad):Sp:=λvs H Q _=>∃ (a:Addr) (xs:List V) (ss:List Sn),vs=[.ref a]/\H a=some (.lst xs)/\Al (So t H) xs ss/\ss.length<=100/\(∀ s∈ss,0<=snL s/\snL s<=1000)/\∀ H',Same H H'->Q (.int (yaW ss)) H'
theorem ypo (T:Txt K mg t):FnOk P w K mg base CX0 1 t.f_zZ t.d_zZ ["sounds"] (yhy t):=by
 refine T.zZ.F.ok yqB (λvs H Q E h=>?_) (λ_ _ _ s H vs Q E hr h=>?_)
 ·obtain⟨_,_,_,rfl,_⟩:=h;rfl
 have hu:=ybr hr
 obtain⟨a,xs,ss,rfl,ea,al,len,hs,q⟩:=h
 refine⟨_,(yag (yao (yal (ydQ rfl) rfl T.QT yc6 (yaa (yaS (yaB (NB:=["sound"]) (cap:=[none]) rfl) rfl (yaE (pv 0)) (λ_ _ _ _=>(yaq (i:=0) (show List.Nodup (["sound"]:List Str) by decide) rfl (Or.inl rfl))) (λ_ _ _ _=>yaG) (λ_ _ _ _=>(show PE _ _ (ynY K _ "length") from ybl (pv 0) rfl))) yab)))),?_⟩
 walk_at ""
 refine⟨a,rfl,⟨_,SqL.of ea⟩,λD hD=>ybb (λs=>V.int (snL s)) ea al hD (by omega) (λx s H' Q' hs sm rx q'=>?_) λH' sm hd=>yc8 ⟨D,ss.map snL,rfl,SqL.of (by rw[List.map_map];exact hd),?_,by rw[List.length_map];omega,q _ sm⟩⟩
 ·walk_at ""
  exact ynx T (rx.same sm) (q' _ (Same.refl _))
 ·intro n hn
  obtain⟨s,hs',rfl⟩:=List.mem_map.mp hn
  exact hs s hs'
noncomputable def ylW (t:Ad):Sp:=λvs H Q _=>∃ n:Int,vs=[.int n]/\n<=4608/\∀ y H',Same H H'->(∀ Hs,So t (nw Hs H H') y (.rest n))->Q y H'
theorem ypJ (T:Txt K mg t)(G_zar:FnOk P w K mg base CX0 1 t.f_zar t.d_zar ["is_so","why"] ycT)(G_zh:FnOk P w K mg base CX0 1 t.f_zh t.d_zh ["self","length"] (ydK t)):FnOk P w K mg base CX0 3 t.f_zP t.d_zP ["grains"] (ylW t):=by
 refine T.zP.F.ok yrl (λvs H Q E h=>?_) (λ_ _ _ s H vs Q E hr h=>?_)
 ·obtain⟨_,rfl,_⟩:=h;rfl
 have hu:=ybr hr
 obtain⟨n,rfl,hn,q⟩:=h
 refine⟨_,(yae (yaH (pcl G_zar hr T.Ra (yaa (yaJ ycB (pv 0) (ycP rfl T.Jp) (yau _)) (yaa yaN yab)))) (yag (yao (yfp T.Rl G_zh (hr.mono (by first | decide | omega)) rfl T.QM T.zh.B .nil ydn (yaa (pv 0) yab))))),?_⟩
 walk_at ""
 rw[show decide (n<=4608)=true by simpa using hn]
 refine⟨_,rfl,?_⟩
 walk_at ""
 intro a2 dx ha hd ne
 refine⟨t.Uo,a2,dx,n,rfl,.inl rfl,yad,rfl,?_⟩
 obtain⟨s2,e2⟩:=yl7 (C:=t.Uo) (o:=.ins t.Uo dx [("length",.int n)]) ha hd ne
 exact q _ _ s2 λHs=>⟨a2,dx,rfl,e2 Hs⟩
theorem ycx {α:Type}{p:List α->Prop}(h0:p [])(h1:∀ ss s,p ss->p (ss++[s]))(l:List α):p l:=by
 have z:∀ n,p (l.take n):=λn=>by
  induction n with
  | zero=>rw[List.take_zero];exact h0
  | succ n ih =>
   by_cases h:n < l.length
   ·rw[List.take_succ_eq_append_getElem h];exact h1 _ _ ih
   ·rw[List.take_of_length_le (by omega)]
    rw[List.take_of_length_le (by omega)] at ih
    exact ih
 have:=z l.length
 rwa [List.take_length] at this
theorem ybe {ks:List Sn}(h:ycw ks=true):∃ vs m,ks=vs++[.rest m]:=by
 unfold ycw at h
 cases e:ks.getLast? with
 | none=>rw[e] at h;cases h
 | some s =>
  rw[e] at h
  cases s with
  | tones=>cases h
  | rest m =>
   obtain⟨vs,rfl⟩:=List.getLast?_eq_some_iff.mp e
   exact⟨vs,m,rfl⟩
theorem ya9 {vs:List Sn}{m n:Int}:ydz (vs++[.rest m]) (.rest n)=vs++[.rest (m+n)]:=by
 have:ycw (vs++[.rest m])=true:=by unfold ycw;rw[List.getLast?_append];rfl
 unfold ydz
 rw[this]
 simp[isR,snL]
theorem ybj {ks:List Sn}{s:Sn}(h:(isR s&&ycw ks)=false):ydz ks s=ks++[s]:=by unfold ydz;rw[h]
theorem ybL (a b:List Sn):yaW (a++b)=yaW a+yaW b:=by unfold yaW;rw[List.map_append,List.sum_append]
theorem ycj (s:Sn):yaW [s]=snL s:=by simp[yaW]
theorem ygj (ks:List Sn)(s:Sn):yaW (ydz ks s)=yaW ks+snL s:=by
 by_cases h:(isR s&&ycw ks)=true
 ·rw[Bool.and_eq_true] at h
  obtain⟨vs,m,rfl⟩:=ybe h.2
  cases s with
  | tones=>cases h.1
  | rest n =>
   rw[ya9,ybL,ybL,ycj,ycj]
   show yaW vs+(m+n)=yaW vs+m+n
   omega
 ·rw[ybj (by simpa using h),ybL,ycj]
theorem yaU (ss:List Sn)(s:Sn):yaR (ss++[s])=ydz (yaR ss) s:=by unfold yaR;rw[List.foldl_append];rfl
theorem yb6 (ss:List Sn):yaW (yaR ss)=yaW ss:=by
 refine ycx (p:=λss=>yaW (yaR ss)=yaW ss) rfl (λss s ih=>?_) ss
 rw[yaU,ygj,ih,ybL,ycj]
noncomputable def Pos (ss:List Sn):Prop:=∀ s∈ss,2<=snL s
theorem ykJ {ks:List Sn}{s:Sn}(h:Pos ks)(hs:2<=snL s):Pos (ydz ks s):=by
 by_cases g:(isR s&&ycw ks)=true
 ·rw[Bool.and_eq_true] at g
  obtain⟨vs,m,rfl⟩:=ybe g.2
  cases s with
  | tones=>cases g.1
  | rest n =>
   rw[ya9]
   intro z hz
   rcases List.mem_append.mp hz with hz | hz
   ·exact h z (List.mem_append_left _ hz)
   ·have:z=.rest (m+n):=by simpa using hz
    subst this
    have:=h (.rest m) (by simp)
    have e1:snL (.rest m)=m:=rfl
    have e2:snL (.rest n)=n:=rfl
    show 2<=m+n
    omega
 ·rw[ybj (by simpa using g)]
  intro z hz
  rcases List.mem_append.mp hz with hz | hz
  ·exact h z hz
  ·have:z=s:=by simpa using hz
   rw[this];exact hs
theorem ycq {ss:List Sn}(h:Pos ss):Pos (yaR ss):=by
 refine ycx (p:=λss=>Pos ss->Pos (yaR ss)) (λ_ s hs=>nomatch hs) (λss s ih h=>?_) ss h
 rw[yaU]
 exact ykJ (ih λz hz=>h z (List.mem_append_left _ hz)) (h s (by simp))
theorem ybS {ss:List Sn}(h:Pos ss):0<=yaW ss:=by
 induction ss with
 | nil=>exact Int.le_refl _
 | cons s ss ih =>
  have:=ih λz hz=>h z (List.mem_cons_of_mem _ hz)
  have:=h s (by simp)
  have e:yaW (s :: ss)=snL s+yaW ss:=by simp[yaW]
  omega
theorem yf5 {ss:List Sn}(h:Pos ss)(i:Nat):yaW (ss.take i)<=yaW ss:=by
 have e:=ybL (ss.take i) (ss.drop i)
 rw[List.take_append_drop] at e
 have:=ybS (ss:=ss.drop i) λz hz=>h z (List.mem_of_mem_drop hz)
 omega
theorem ylk (ks:List Sn)(s:Sn):(ydz ks s).length<=ks.length+1:=by
 unfold ydz
 split
 ·rw[List.length_append,List.length_dropLast];simp
 ·rw[List.length_append];simp
theorem yb7 (ss:List Sn):(yaR ss).length<=ss.length:=by
 refine ycx (p:=λss=>(yaR ss).length<=ss.length) (Nat.le_refl _) (λss s ih=>?_) ss
 rw[yaU,List.length_append]
 have:=ylk (yaR ss) s
 simp
 omega
noncomputable def ylO (t:Ad):Sp:=λvs H Q _=>∃ (a:Addr) (xs:List V) (ss:List Sn) (Hs:Hp),vs=[.ref a]/\Same Hs H/\H a=some (.lst xs)/\Al (So t Hs) xs ss/\ss.length<=100/\Pos ss/\yaW ss<=1000 /\
 ∀ D ys H',Same H H'->H D=none->H' D=some (.lst ys)->Al (So t (nw Hs H H')) ys (ybg ss)->Q (.ref D) H'
theorem yno (T:Txt K mg t)(G_zp:FnOk P w K mg base CX0 1 t.f_zp t.d_zp ["sounds"] (ylG t))(G_zP:FnOk P w K mg base CX0 3 t.f_zP t.d_zP ["grains"] (ylW t)):FnOk P w K mg base CX0 4 t.f_zap t.d_zap ["sounds"] (ylO t):=by
 refine T.RW.F.ok sc_zap (λvs H Q E h=>?_) (λ_ _ _ s H vs Q E hr h=>?_)
 ·obtain⟨_,_,_,_,rfl,_⟩:=h;rfl
 have hu:=ybr hr
 obtain⟨a,xs,ss,Hs,rfl,sH,ea,al,len,pos,sum,q⟩:=h
 refine⟨_,(yae (yar (i:=1) sc_zap.nd rfl (Or.inl rfl) (yaw yab)) (yae (ybs PassesOwn.never rfl (yaE (pv 0)) (yaq (i:=2) sc_zap.nd rfl (Or.inl rfl)) (yag (yaY (PW.pt (yd6 (yaQ (yal (show yb5 _ _ (yna K) from yff) rfl T.Ja yaj (yaa (pv 2) (yaa (ybc (v:=.ref t.Uo) rfl T.QM rfl) yab)))) (ydf (yaQ (pcl G_zp hr T.zp (yaa (pv 1) yab)))))) (yag (yaH (ybN F.plainAttrs_list F.slot_list_append F.type_list_append yaM (pv 1) (yaa (pcl G_zP hr T.zP (yaa (yaF ya6 (ybl (yn2 F.plainAttrs_list F.slot_list_pop F.type_list_pop yoU (pv 1)) rfl) (ybl (pv 2) rfl)) yab)) yab)))) (yag (yaH (ybN F.plainAttrs_list F.slot_list_append F.type_list_append yaM (pv 1) (yaa (pv 2) yab))))))) (yag (yao (ycg (yaQ (pcl G_zp hr T.zp (yaa (pv 1) yab))) (yc9 yd3 (pv 1) ydP (ydN (ycM ybR yac))) (pv 1)))))),?_⟩
 walk_at ""
 refine⟨Nat.zero_le _,λD hD=>?_⟩
 walk_at ""
 refine⟨a,rfl,⟨_,SqL.of (yaf hD _ _ _ ea)⟩,ybh (xs:=xs) (λi σ H'=>(∃ o,σ=[some (.ref a),some (.ref D),o])/\Acc (So t) Hs H H' D (yaR (ss.take i))) ⟨⟨_,rfl⟩,Acc.nil hD⟩ (λi σ H' _ p=>SqL.of (p.2.1 _ _ ea)) ?_ ?_⟩
 ·rintro i x σ H' N hN hx ⟨⟨o,rfl⟩,acc⟩
  have hi:i < ss.length:=by have:=(List.getElem?_eq_some_iff.mp hx).1;rw[al.1] at this;exact this
  obtain⟨x',e,rx⟩:=al.2 i hi
  rw[hx] at e
  cases e
  have tk:yaR (ss.take (i+1))=ydz (yaR (ss.take i)) ss[i]:=by rw[List.take_succ_eq_append_getElem hi,yaU]
  have p1:=pos ss[i] (List.getElem_mem hi)
  have lk:=yb7 (ss.take i)
  rw[List.length_take] at lk
  have ps:=ycq (ss:=ss.take i) λz hz=>pos z (List.mem_of_mem_take hz)
  have sk:=yb6 (ss.take (i+1))
  have sk2:=yf5 pos (i+1)
  rw[tk,ygj] at sk
  generalize yaR (ss.take i)=ks at acc tk lk ps sk
  generalize ss[i]=sn at rx tk p1 sk
  obtain⟨sm,kv,hd,ak⟩:=acc
  have sH':=sH.trans sm
  have go:gp Hs H H' D=gp Hs H H' D:=rfl
  walk_at ""
  obtain⟨C,ty,k⟩:=(rx.same sH').isa T
  refine ym1 ty k ?_
  walk_at ""
  have lkv:=ak.1
  have add:∀ H2,Same H' H2->(isR sn&&ycw ks)=false->N [some (.ref a),some (.ref D),some x] (upd H2 D (.lst (kv++[x]))):=λH2 s2 hf=>by
   refine hN _ _ ⟨⟨_,rfl⟩,?_⟩
   rw[tk,ybj hf]
   have ak2:Al (So t (gp Hs H H2 D)) kv ks:=ak.imp λ_ _ _ z=>z.same (ya1 s2)
   exact Acc.put (R:=So t) ydc hD (sm.trans s2) ak2 (rx.same (ygF sH))
  cases hr':isR sn with
  | false =>
   refine i_F ?_
   walk_at ""
   refine⟨.inl ⟨rfl,_,SqL.of hd⟩,?_⟩
   walk_at ""
   exact ybQ hd (yat (by omega)) (add _ (Same.refl _) (by rw[hr'];rfl))
  | true =>
   refine i_T ?_
   walk_at ""
   refine⟨D,kv,ks,rfl,hd,ak.imp λ_ _ _ z=>ydc (ycs sH sm) z,λH2 s2=>ya2 ?_⟩
   have hd2:=s2 _ _ hd
   cases he:ycw ks with
   | false =>
    refine i_F ?_
    walk_at ""
    refine⟨.inl ⟨rfl,_,SqL.of hd2⟩,?_⟩
    walk_at ""
    exact ybQ hd2 (yat (by omega)) (add _ s2 (by rw[he,Bool.and_false]))
   | true =>
    obtain⟨vs,m,rfl⟩:=ybe he
    cases sn with
    | tones=>cases hr'
    | rest n =>
     obtain⟨ys,y,rfl,sy,vs',e,ay⟩:=ybZ ak (by rw[List.getLast?_append];rfl:(vs++[Sn.rest m]).getLast?=some (.rest m))
     obtain⟨e,_⟩:=List.append_inj' e rfl
     subst e
     refine i_T ?_
     walk_at ""
     refine⟨.inl ⟨rfl,_,SqL.of hd2⟩,?_⟩
     walk_at ""
     have sm2:=sm.trans s2
     have ya:=sy.same (ya1 s2)
     refine⟨.inl ⟨rfl,_,SqL.of hd2⟩,D,_,y,rfl,rfl,hd2,by rw[List.length_append,List.length_singleton,Nat.add_sub_cancel];simp,?_⟩
     rw[List.dropLast_concat]
     obtain⟨a0,dx,rfl,e0⟩:=id ya
     have n0:a0≠D:=λz=>by rw[z] at e0;unfold gp at e0;rw[yaP hD,yjt] at e0;cases e0
     have e2:=ycs sH sm2 _ _ e0
     refine⟨a0,_,dx,_,_,rfl,by rw[yai n0];exact e2,T.JR,T.Jl,rfl,?_⟩
     walk_at ""
     have s3:Same H (upd H2 D (.lst ys)):=yaT hD sm2
     refine ynx T (rx.same (sH.trans s3)) ?_
     walk_at ""
     refine⟨m+n,rfl,?_,λy2 H3 s4 so=>?_⟩
     ·have z0:snL (.rest n)=n:=rfl
      have z1:=ybL vs [.rest m]
      rw[ycj] at z1
      have z2:snL (.rest m)=m:=rfl
      have z3:=ybS (ss:=vs) λz hz=>ps z (List.mem_append_left _ hz)
      omega
     walk_at ""
     have ly:=ay.1
     have h4:H3 D=some (.lst ys):=s4 _ _ yad
     refine ybQ h4 (yat ?_) (hN _ _ ⟨⟨_,rfl⟩,?_⟩)
     ·rw[List.length_append,List.length_singleton] at lkv
      omega
     rw[tk,ya9]
     refine Acc.put (R:=So t) ydc hD (s3.trans s4) (ay.imp λ_ _ _ z=>z.same (((ya1 s2).trans ydq).trans (ya1 s4))) ((so _).same (yim sH s3 yad s4))
 ·rintro σ H' ⟨⟨o,rfl⟩,acc⟩
  walk_at ""
  rw[al.1,List.take_length] at acc
  obtain⟨sm,kv,hd,ak⟩:=acc
  have lkv:=ak.1
  have lt:=yb7 ss
  refine⟨D,kv,yaR ss,rfl,hd,ak.imp λ_ _ _ z=>z.same (ycs sH sm),λH2 s2=>ya2 ?_⟩
  have hd2:=s2 _ _ hd
  have sm2:=sm.trans s2
  have fin:Same (gp Hs H H' D) (nw Hs H H2):=(ya1 s2).trans ycW
  cases he:ycw (yaR ss) with
  | false =>
   refine i_F ?_
   walk_at ""
   refine q D kv H2 sm2 hD hd2 ?_
   unfold ybg ycA
   rw[if_neg (by rw[he];simp)]
   exact ak.imp λ_ _ _ z=>z.same fin
  | true =>
   obtain⟨vs,m,e⟩:=ybe he
   obtain⟨ys,y,rfl,sy,vs',e',ay⟩:=ybZ ak (by rw[e,List.getLast?_append];rfl:(yaR ss).getLast?=some (.rest m))
   refine i_T ?_
   walk_at ""
   refine⟨1,rfl,_,rfl,D,_,rfl,SqL.of hd2,λp hp=>?_⟩
   rw[show(-1:Int)=-1 from rfl,ykS]
   have s3:=yaf hp (.lst ys)
   refine q p ys _ (sm2.trans s3) (sm2.free hp) yad ?_
   unfold ybg ycA
   rw[if_pos he,e',List.dropLast_concat]
   exact ay.imp λ_ _ _ z=>z.same (fin.trans (yfc s3))
noncomputable def flags (ss:List Sn):List (Bool×Bool):=ss.filterMap λs=>match s with
 | .rest _=>none
 | .tones _ _ _ op cl=>some (op,cl)
noncomputable def ycE:Bool->List (Bool×Bool)->Prop
 | o,[]=>o=false
 | o,(op,cl) :: r=>(cl=true->o=true)/\(op=true->(o&&!cl)=false)/\ycE (op||(o&&!cl)) r
theorem yb4 (a b:List Sn):flags (a++b)=flags a++flags b:=List.filterMap_append
theorem yh6 (ks:List Sn)(s:Sn):flags (ydz ks s)=flags ks++flags [s]:=by
 by_cases g:(isR s&&ycw ks)=true
 ·rw[Bool.and_eq_true] at g
  obtain⟨vs,m,rfl⟩:=ybe g.2
  cases s with
  | tones=>cases g.1
  | rest n=>rw[ya9,yb4,yb4];simp[flags]
 ·rw[ybj (by simpa using g),yb4]
theorem ydT (ss:List Sn):flags (ybg ss)=flags ss:=by
 have a:flags (yaR ss)=flags ss:=by
  refine ycx (p:=λss=>flags (yaR ss)=flags ss) rfl (λss s ih=>?_) ss
  rw[yaU,yh6,ih,yb4]
 unfold ybg ycA
 by_cases h:ycw (yaR ss)=true
 ·obtain⟨vs,m,e⟩:=ybe h
  rw[if_pos h,← a,e,List.dropLast_concat,yb4]
  simp[flags]
 ·rw[if_neg h,a]
theorem So.isT (T:Txt K mg t){H:Hp}{x:V}{sn:Sn}(h:So t H x sn):∃ C,yeT K H x C/\PySem.W.kitOne K C (.ref t.Uq)=some (!isR sn):=by
 cases sn with
 | rest n=>obtain⟨a,dx,rfl,ea⟩:=h;exact⟨_,T.Rp.ty T.JR ea,T.QO⟩
 | tones ps n wd op cl=>obtain⟨a,dx,l,rfl,ea,i⟩:=h;exact⟨_,T.Rb.ty T.Jb ea,T.QF⟩
theorem nd {b:Bool}{z:Str}{H:Hp}{Q:VK}{E:XK}(h:b=true)(q:Q .non H):ycT [.bl b,.str z] H Q E:=by rw[h];exact⟨z,rfl,q⟩
noncomputable def yjA (t:Ad):Sp:=λvs H Q _=>∃ (a:Addr) (xs:List V) (ss:List Sn),vs=[.ref a]/\H a=some (.lst xs)/\Al (So t H) xs ss/\ycE false (flags ss)/\Q .non H
theorem yra (T:Txt K mg t)(G_zar:FnOk P w K mg base CX0 1 t.f_zar t.d_zar ["is_so","why"] ycT):FnOk P w K mg base CX0 2 t.f_zD t.d_zD ["sounds"] (yjA t):=by
 refine T.zD.F.ok sc_zD (λvs H Q E h=>?_) (λ_ _ _ s H vs Q E hr h=>?_)
 ·obtain⟨_,_,_,rfl,_⟩:=h;rfl
 have hu:=ybr hr
 obtain⟨a,xs,ss,rfl,ea,al,sl,q⟩:=h
 refine⟨_,(yae (yar (i:=1) sc_zD.nd rfl (Or.inl rfl) ybt) (yae (ybs PassesOwn.never rfl (yaE (pv 0)) (yaq (i:=2) sc_zD.nd rfl (Or.inl rfl)) (yag (yaY (yaQ (yal (show yb5 _ _ (yna K) from yff) rfl T.Ja yaj (yaa (pv 2) (yaa (ybc (v:=.ref t.Uq) rfl T.QZ rfl) yab)))) (yae (yaY (yaQ (ybl (pv 2) rfl)) (yae (yaH (pcl G_zar hr T.Ra (yaa (pv 1) (yaa yaN yab)))) (yag (yar (i:=1) sc_zD.nd rfl (Or.inl rfl) ybt))) yaA) (yag (yaY (yaQ (ybl (pv 2) rfl)) (yae (yaH (pcl G_zar hr T.Ra (yaa (ygX (pv 1)) (yaa yaN yab)))) (yag (yar (i:=1) sc_zD.nd rfl (Or.inl rfl) ybt))) yaA))) yaA))) (yag (yaH (pcl G_zar hr T.Ra (yaa (ygX (pv 1)) (yaa yaN yab))))))),?_⟩
 walk_at ""
 refine⟨a,rfl,⟨_,SqL.of ea⟩,ybh (xs:=xs) (λi σ H'=>H'=H/\∃ o b,σ=[some (.ref a),some (.bl b),o]/\ycE b (flags (ss.drop i))) ⟨rfl,_,false,rfl,sl⟩ (λi σ H' _ p=>by rw[p.1];exact SqL.of ea) ?_ ?_⟩
 ·rintro i x σ H' N hN hx ⟨rfl,o,b,rfl,sb⟩
  have hi:i < ss.length:=by have:=(List.getElem?_eq_some_iff.mp hx).1;rw[al.1] at this;exact this
  obtain⟨x',e,rx⟩:=al.2 i hi
  rw[hx] at e
  cases e
  rw[List.drop_eq_getElem_cons hi] at sb
  generalize ss[i]=sn at rx sb
  walk_at ""
  obtain⟨C,ty,k⟩:=rx.isT T
  refine ym1 ty k ?_
  walk_at ""
  cases sn with
  | rest n =>
   refine i_F (ycC (hN _ _ ⟨rfl,_,b,rfl,sb⟩))
  | tones ps n wd op cl =>
   obtain⟨h1,h2,h3⟩:=sb
   obtain⟨ax,dx,l,rfl,ex,_⟩:=rx
   refine i_T ?_
   walk_at ""
   refine⟨ax,_,dx,_,_,rfl,ex,T.Jb,T.Jr,rfl,ya2 ?_⟩
   cases cl with
   | true =>
    refine i_T ?_
    walk_at ""
    refine nd (h1 rfl) ?_
    walk_at ""
    refine⟨ax,_,dx,_,_,rfl,ex,T.Jb,T.Jm,rfl,ya2 ?_⟩
    cases op with
    | true =>
     refine i_T ?_
     walk_at ""
     refine nd rfl ?_
     walk_at ""
     exact hN _ _ ⟨rfl,_,true,rfl,h3⟩
    | false=>exact i_F (ycC (hN _ _ ⟨rfl,_,false,rfl,by simpa [flags] using h3⟩))
   | false =>
    refine i_F ?_
    walk_at ""
    refine⟨ax,_,dx,_,_,rfl,ex,T.Jb,T.Jm,rfl,ya2 ?_⟩
    cases op with
    | true =>
     refine i_T ?_
     walk_at ""
     refine nd (by have:=h2 rfl;simpa using this) ?_
     walk_at ""
     exact hN _ _ ⟨rfl,_,true,rfl,h3⟩
    | false=>exact i_F (ycC (hN _ _ ⟨rfl,_,b,rfl,by simpa [flags] using h3⟩))
 ·rintro σ H' ⟨rfl,o,b,rfl,sb⟩
  rw[al.1,List.drop_length] at sb
  have:b=false:=sb
  walk_at ""
  refine nd (by rw[this];rfl) ?_
  walk_at ""
  exact q
noncomputable def vT (ss:List Sn):Th:=.ls (ss.map snT)
structure GoodV (ss:List Sn):Prop where
 n1:1<=ss.length
 n2:ss.length<=96
 g:∀ s∈ss,ygd s
 sum:yaW ss<=1000
 ne:ybg ss≠[]
 sl:ycE false (flags ss)
theorem GoodV.pos {ss:List Sn}(h:GoodV ss):Pos ss:=λs hs=>by
 have:=h.g s hs
 cases s with
 | rest n=>exact this.1
 | tones=>exact this.2.1
noncomputable def ypd (t:Ad)(H:Hp)(x:V)(ss:List Sn):Prop:=∃ l ys,x=.ref l/\H l=some (.lst ys)/\Al (So t H) ys ss
theorem yfr:ydA (ypd t):=λs h=>by
 obtain⟨l,ys,e,el,al⟩:=h
 exact⟨l,ys,e,s _ _ el,al.imp λ_ _ _ z=>z.same s⟩
theorem ygb (ss:List Sn):(ybg ss).length<=ss.length:=by
 have:=yb7 ss
 unfold ybg ycA
 split
 ·rw[List.length_dropLast];omega
 ·exact this
noncomputable def yfI (t:Ad):Sp:=λvs H Q _=>∃ (x:V) (ss:List Sn) (Hs:Hp),vs=[x]/\Same Hs H/\Is Hs x (vT ss)/\GoodV ss/\∀ y H',Same H H'->ypd t (nw Hs H H') y (ybg ss)->Q y H'
theorem ynq (T:Txt K mg t)(G_zar:FnOk P w K mg base CX0 1 t.f_zar t.d_zar ["is_so","why"] ycT)(G_zap:FnOk P w K mg base CX0 4 t.f_zap t.d_zap ["sounds"] (ylO t))(G_zac:FnOk P w K mg base CX0 6 t.f_zac t.d_zac ["told"] (yfL t))(G_zD:FnOk P w K mg base CX0 2 t.f_zD t.d_zD ["sounds"] (yjA t)):FnOk P w K mg base CX0 7 t.f_zah t.d_zah ["thing"] (yfI t):=by
 refine T.RV.F.ok sc_zah (λvs H Q E h=>?_) (λ_ _ _ s H vs Q E hr h=>?_)
 ·obtain⟨_,_,_,rfl,_⟩:=h;rfl
 have hu:=ybr hr
 obtain⟨x,ss,Hs,rfl,sH,ix,gv,q⟩:=h
 rw[vT,Is] at ix
 obtain⟨a,xs,rfl,ea,ix⟩:=ix
 have ea':=sH _ _ ea
 have al:=ya4 ix
 have n1:=gv.n1
 have n2:=gv.n2
 have lx:=al.1
 refine⟨_,(yae (yaH (pcl G_zar hr T.Ra (yaa (ya0 (yal yaO rfl T.Ja yaj (yaa (pv 0) (yaa (ybF rfl T.Jk ya3) yab))) (ya5 (ydJ ycB ycB yac (yal yaD rfl T.Jj PySem.boot_len (yaa (pv 0) yab)) (ycP rfl T.QD)))) (yaa yaN yab)))) (yae (yar (i:=1) sc_zah.nd rfl (Or.inl rfl) (pcl G_zap hr T.RW (yaa (yaS (yaB (NB:=["told"]) (cap:=[none]) rfl) rfl (yaE (pv 0)) (λ_ _ _ _=>(yaq (i:=0) (show List.Nodup (["told"]:List Str) by decide) rfl (Or.inl rfl))) (λ_ _ _ _=>yaG) (λ_ _ _ _=>(pcl G_zac hr T.RT (yaa (pv 0) yab)))) yab))) (yae (yaH (pcl G_zar hr T.Ra (yaa (yaJ (ycv hu) (pv 1) (yaw yab) (yau _)) (yaa yaN yab)))) (yae (yaH (pcl G_zD hr T.zD (yaa (pv 1) yab))) (yag (yao (pv 1))))))),?_⟩
 walk_at ""
 refine ybO (.lst ea') (ya2 (i_T ?_))
 refine yd5 (a:=1) (b:=xs.length) (c:=96) (λ_ q=>q) (λQ' q'=>⟨_,rfl,a,xs,rfl,.inl (SqL.of ea'),q'⟩) (λ_ q=>q) ?_
 walk_at ""
 refine nd (by rw[decide_eq_true_eq];omega) ?_
 walk_at ""
 refine⟨a,rfl,⟨_,SqL.of ea'⟩,λD hD=>ygU (R:=λH x s=>Is H x (snT s)) (S:=So t) yfd ydc (λs=>s) sH ea' al hD (by omega) (λx s H' Hs' Q' hs s1 s2 s3 rx q'=>?_) λys H' sm hd ay=>?_⟩
 ·walk_at ""
  exact⟨x,s,Hs',rfl,s3,rx,gv.g s hs,q'⟩
 ·rw[List.map_id'] at ay
  walk_at ""
  refine⟨D,ys,ss,gp Hs H H' D,rfl,ycs sH sm,hd,ay,by omega,gv.pos,gv.sum,λD2 zs H2 s2 hD2 hd2 az=>?_⟩
  walk_at ""
  have az2:Al (So t (nw Hs H H2)) zs (ybg ss):=az.imp λ_ _ _ z=>z.same ((yim sH sm hd s2).trans ycW)
  have sm2:=sm.trans s2
  refine⟨Nat.zero_le _,λp hp=>?_⟩
  have s3:=yaf hp (.lst [])
  have hd3:=s3 _ _ hd2
  refine⟨D2,p,zs,rfl,rfl,SqL.of hd3,SqL.of yad,?_⟩
  walk_at ""
  have ne:zs.isEmpty=false:=by
   cases zs with
   | nil=>exact(gv.ne (List.eq_nil_of_length_eq_zero az.1.symm)).elim
   | cons=>rfl
  refine nd (by rw[ne];rfl) ?_
  walk_at ""
  refine⟨D2,zs,ybg ss,rfl,hd3,az2.imp λ_ _ _ z=>z.same ((ydu sH sm2).trans s3),by rw[ydT];exact gv.sl,?_⟩
  walk_at ""
  refine q _ _ (sm2.trans s3) ⟨D2,zs,rfl,by rw[yaP (sm.free hD2)];exact hd3,az2.imp λ_ _ _ z=>z.same (yfc s3)⟩
noncomputable def vsT (vss:List (List Sn)):Th:=.ls (vss.map vT)
noncomputable def yfJ (vss:List (List Sn)):Prop:=1<=vss.length/\vss.length<=2/\∀ ss∈vss,GoodV ss
noncomputable def VosIs (t:Ad)(H:Hp)(x:V)(vss:List (List Sn)):Prop:=∃ l ys,x=.ref l/\H l=some (.lst ys)/\Al (ypd t H) ys vss
theorem VosIs.same {H H':Hp}{x:V}{vss:List (List Sn)}(h:VosIs t H x vss)(s:Same H H'):VosIs t H' x vss:=by
 obtain⟨l,ys,e,el,al⟩:=h
 exact⟨l,ys,e,s _ _ el,al.imp λ_ _ _ z=>yfr s z⟩
noncomputable def yey (t:Ad):Sp:=λvs H Q _=>∃ (x:V) (vss:List (List Sn)) (Hs:Hp),vs=[x]/\Same Hs H/\Is Hs x (vsT vss)/\yfJ vss/\∀ y H',Same H H'->VosIs t (nw Hs H H') y (vss.map ybg)->Q y H'
theorem ypS (T:Txt K mg t)(G_zar:FnOk P w K mg base CX0 1 t.f_zar t.d_zar ["is_so","why"] ycT)(G_zah:FnOk P w K mg base CX0 7 t.f_zah t.d_zah ["thing"] (yfI t)):FnOk P w K mg base CX0 8 t.f_zS t.d_zS ["things"] (yey t):=by
 refine T.zS.F.ok ypQ (λvs H Q E h=>?_) (λ_ _ _ s H vs Q E hr h=>?_)
 ·obtain⟨_,_,_,rfl,_⟩:=h;rfl
 have hu:=ybr hr
 obtain⟨x,vss,Hs,rfl,sH,ix,gv,q⟩:=h
 rw[vsT,Is] at ix
 obtain⟨a,xs,rfl,ea,ix⟩:=ix
 have ea':=sH _ _ ea
 have al:=ya4 ix
 obtain⟨n1,n2,gv⟩:=gv
 have lx:=al.1
 refine⟨_,(yae (yaH (pcl G_zar hr T.Ra (yaa (ya0 (yal yaO rfl T.Ja yaj (yaa (pv 0) (yaa (ybF rfl T.Jk ya3) yab))) (ya5 (ydJ ycB ycB yac (yal yaD rfl T.Jj PySem.boot_len (yaa (pv 0) yab)) (ycP rfl T.QE)))) (yaa yaN yab)))) (yag (yao (yaS (yaB (NB:=["thing"]) (cap:=[none]) rfl) rfl (yaE (pv 0)) (λ_ _ _ _=>(yaq (i:=0) (show List.Nodup (["thing"]:List Str) by decide) rfl (Or.inl rfl))) (λ_ _ _ _=>yaG) (λ_ _ _ _=>(pcl G_zah hr T.RV (yaa (pv 0) yab))))))),?_⟩
 walk_at ""
 refine ybO (.lst ea') (ya2 (i_T ?_))
 refine yd5 (a:=1) (b:=xs.length) (c:=2) (λ_ q=>q) (λQ' q'=>⟨_,rfl,a,xs,rfl,.inl (SqL.of ea'),q'⟩) (λ_ q=>q) ?_
 walk_at ""
 refine nd (by rw[decide_eq_true_eq];omega) ?_
 walk_at ""
 refine⟨a,rfl,⟨_,SqL.of ea'⟩,λD hD=>ygU (R:=λH x ss=>Is H x (vT ss)) (S:=ypd t) yfd yfr ybg sH ea' al hD (by omega) (λx s H' Hs' Q' hs s1 s2 s3 rx q'=>?_) λys H' sm hd ay=>?_⟩
 ·walk_at ""
  exact⟨x,s,Hs',rfl,s3,rx,gv s hs,q'⟩
 ·exact q _ _ sm ⟨D,ys,rfl,by rw[yaP hD];exact hd,ay.imp λ_ _ _ z=>yfr ycW z⟩
inductive Cv where
 | m (m:Mt) | k (i:Int)
 deriving DecidableEq
noncomputable def cvT:Cv->Th
 | .m m=>mtT m
 | .k i=>nT i
noncomputable def yie:Bool->Cv->Prop
 | true,.m m=>GoodM m
 | false,.k i=>-7<=i/\i<=7
 | _,_=>False
theorem ynf (m:Mt):OkE (mtT m):=⟨by
 have:=(ydF m.gs).1
 show(true&&(true&&(ycN (.tp (m.gs.map nT))&&true)))=true
 rw[this];rfl,yjP (k:=59) (ybP ybC (ybP ybC (ybP (yjP (k:=58) (ydv λu hu=>by obtain⟨n,_,rfl⟩:=List.mem_map.mp hu;exact ybC)) yg2)))⟩
theorem yht (c:Cv):OkE (cvT c):=by
 cases c with
 | m m=>exact ynf m
 | k i=>exact⟨rfl,ybC⟩
theorem eq_int (a b:Int):eqT (.vl (.int a)) (.vl (.int b))=decide (a=b):=by simp[eqT,eqV];rfl
theorem yqw (a b:Mt):eqT (ycy (mtT a)) (ycy (mtT b))=decide (a=b):=by
 show(eqT (.vl (.int a.tp)) (.vl (.int b.tp))&&(eqT (.vl (.int a.bt)) (.vl (.int b.bt))&&(eqTs (toTrs (a.gs.map nT)) (toTrs (b.gs.map nT))&&true)))=_
 rw[eq_int,eq_int,ycu,ycu,yd4,Bool.eq_iff_iff]
 cases a
 cases b
 simp
theorem yoc {j:Bool}{a b:Cv}(ha:yie j a)(hb:yie j b):eqT (ycy (cvT a)) (ycy (cvT b))=decide (a=b):=by
 cases a with
 | m a =>
  cases b with
  | m b=>rw[show ycy (cvT (.m a))=ycy (mtT a) from rfl,show ycy (cvT (.m b))=ycy (mtT b) from rfl,yqw,Bool.eq_iff_iff];simp
  | k b=>cases j<;>first | exact ha.elim | exact hb.elim
 | k a =>
  cases b with
  | m b=>cases j<;>first | exact ha.elim | exact hb.elim
  | k b=>show eqT (.vl (.int a)) (.vl (.int b))=_;rw[eq_int,Bool.eq_iff_iff];simp
noncomputable def chT (c:Nat×Cv):Th:=.tp [nT c.1,cvT c.2]
theorem Is.ch {H:Hp}{x:V}{c:Nat×Cv}(h:Is H x (chT c)):∃ a y,x=.ref a/\H a=some (.tup [.int c.1,y])/\Is H y (cvT c.2):=by
 rw[chT,Is] at h
 obtain⟨a,xs,rfl,e,is⟩:=h
 rw[Iss] at is
 obtain⟨x,r,rfl,i1,is⟩:=is
 rw[Iss] at is
 obtain⟨y,r,rfl,i2,is⟩:=is
 rw[Iss] at is
 subst is
 rw[nT,Is] at i1
 rw[i1.1] at e
 exact⟨a,y,rfl,e,i2⟩
theorem yo3 {H:Hp}{a:Addr}{y:V}{n:Nat}{c:Cv}(e:H a=some (.tup [.int n,y]))(i:Is H y (cvT c)):Is H (.ref a) (chT (n,c)):=ycV e (yav (yin _ _) (yav i (yaV _)))
noncomputable def goF (t:Ad):Bool->Addr
 | true=>t.f_zae
 | false=>t.f_zan
noncomputable def goD (t:Ad):Bool->FuncData
 | true=>t.d_zae
 | false=>t.d_zan
noncomputable def ylZ (j:Bool):Sp:=λvs H Q _=>∃ (x:V) (c:Cv),vs=[x]/\Is H x (cvT c)/\yie j c/\∀ H',Same H H'->Q (.bl true) H'
theorem ymm (G_zae:FnOk P w K mg base CX0 4 t.f_zae t.d_zae ["thing"] ygp)(G_zan:FnOk P w K mg base CX0 4 t.f_zan t.d_zan ["thing"] yiw):∀ j,FnOk P w K mg base CX0 4 (goF t j) (goD t j) ["thing"] (ylZ j)
 | true=>G_zae.imp λvs H Q E h=>by
  obtain⟨x,c,rfl,ic,gc,q⟩:=h
  cases c with
  | m m=>exact⟨x,m,rfl,ic,gc,q⟩
  | k i=>exact gc.elim
 | false=>G_zan.imp λvs H Q E h=>by
  obtain⟨x,c,rfl,ic,gc,q⟩:=h
  cases c with
  | m m=>exact gc.elim
  | k i =>
   have:x=.int i:=by rw[cvT,nT,Is] at ic;exact ic.1
   subst this
   exact⟨i,rfl,gc.1,gc.2,q _ (Same.refl _)⟩
theorem yjO (T:Txt K mg t):∀ j,PySem.W.keepIn K (.ref (goF t j))=true
 | true=>T.RB.F.kp
 | false=>T.RC.F.kp
theorem yjp (T:Txt K mg t):∀ j,Binds K (goD t j) ["thing"] []
 | true=>T.RB.B
 | false=>T.RC.B
noncomputable def yg5 (t:Ad):Sp:=λvs H Q _=>∃ (x:V) (c:Nat×Cv) (j:Bool),vs=[x,.ref (goF t j)]/\Is H x (chT c)/\yie j c.2/\∀ H',Same H H'->Q (.bl true) H'
theorem yqc (T:Txt K mg t)(G_zai:FnOk P w K mg base CX0 1 t.f_zai t.d_zai ["thing"] ydo)(C_is_good:∀ j,FnOk P w K mg base CX0 4 (goF t j) (goD t j) ["thing"] (ylZ j)):FnOk P w K mg base CX0 5 t.f_zY t.d_zY ["thing","is_good"] (yg5 t):=by
 have D_is_good:=yjO T
 have E_is_good:=yjp T
 refine T.zY.F.ok yp0 (λvs H Q E h=>?_) (λ_ _ _ s H vs Q E hr h=>?_)
 ·obtain⟨_,_,_,rfl,_⟩:=h;rfl
 have hu:=ybr hr
 obtain⟨x,c,j,rfl,ic,gc,q⟩:=h
 obtain⟨a,y,rfl,ea,iy⟩:=ic.ch
 refine⟨_,(yag (yao (ya0 (yal yaO rfl T.Ja yaj (yaa (pv 0) (yaa (ybF rfl T.Js ybw) yab))) (ya0 (yaJ ycm (yal yaD rfl T.Jj PySem.boot_len (yaa (pv 0) yab)) yac (yau _)) (ya0 (pcl G_zai hr T.RA (yaa (yas yap (pv 0) yac (λ_ _=>rfl)) yab)) (ya5 (ylc (i:=1) C_is_good (hr.mono (by decide)) rfl D_is_good E_is_good ydn (yaa (yas yap (pv 0) yac (λ_ _=>rfl)) yab)))))))),?_⟩
 walk_at ""
 refine ybO (.tup ea) (ya2 (i_T ?_))
 walk_at ""
 refine⟨a,_,rfl,.inr (SqT.of ea),?_⟩
 walk_at ""
 refine i_T ?_
 walk_at ""
 refine yaI (SqT.of ea) (yak (j:=0) rfl) ?_
 walk_at ""
 refine⟨_,rfl,ya2 (i_T ?_)⟩
 refine yr4 j rfl ?_
 walk_at ""
 refine yaI (SqT.of ea) (yak (j:=1) rfl) ?_
 walk_at ""
 exact⟨y,c.2,rfl,iy,gc,q⟩
noncomputable def ypl (H:Hp):V->V
 | .ref a=>match H a with
  | some (.tup [_,y])=>y
  | _=>.non
 | _=>.non
theorem yjX {H:Hp}{x:V}{c:Nat×Cv}(h:Is H x (chT c)):Is H (ypl H x) (cvT c.2)/\∃ a,x=.ref a/\H a=some (.tup [.int c.1,ypl H x]):=by
 obtain⟨a,y,rfl,ea,iy⟩:=h.ch
 have:ypl H (.ref a)=y:=by show(match H a with | some (.tup [_,y])=>y | _=>.non)=y;rw[ea]
 rw[this]
 exact⟨iy,a,rfl,ea⟩
structure yhx (j:Bool) (cs:List (Nat×Cv)):Prop where
 len:cs.length<=30
 one:(cs.map (·.1)).take 1=[1]
 up:∀ i (h:i+1 < cs.length),cs[i].1 < cs[i+1].1
 ne:∀ i (h:i+1 < cs.length),cs[i].2≠cs[i+1].2
 g:∀ c∈cs,yie j c.2
noncomputable def csT (cs:List (Nat×Cv)):Th:=.ls (cs.map chT)
theorem ym7 {xs:List V}:Al (λx u=>x=u) xs xs:=⟨rfl,λi h=>⟨_,List.getElem?_eq_getElem h,rfl⟩⟩
noncomputable def ygi (t:Ad):Sp:=λvs H Q _=>∃ (x:V) (cs:List (Nat×Cv)) (j:Bool) (Hs:Hp),vs=[x,.ref (goF t j)]/\Same Hs H/\Is Hs x (csT cs)/\yhx j cs/\∀ y H',Same H H'->Is (nw Hs H H') y (csT cs)->Q y H'
theorem ypw (T:Txt K mg t)(G_zar:FnOk P w K mg base CX0 1 t.f_zar t.d_zar ["is_so","why"] ycT)(G_zY:FnOk P w K mg base CX0 5 t.f_zY t.d_zY ["thing","is_good"] (yg5 t))(G_zal:FnOk P w K mg base CX0 1 t.f_zal t.d_zal ["numbers"] yiR):FnOk P w K mg base CX0 6 t.f_zE t.d_zE ["things","is_good"] (ygi t):=by
 refine T.zE.F.ok sc_zE (λvs H Q E h=>?_) (λ_ _ _ s H vs Q E hr h=>?_)
 ·obtain⟨_,_,_,_,rfl,_⟩:=h;rfl
 have hu:=ybr hr
 obtain⟨x,cs,j,Hs,rfl,sH,ix,gc,q⟩:=h
 rw[csT,Is] at ix
 obtain⟨a,xs,rfl,ea,ix⟩:=ix
 have ea':=sH _ _ ea
 have al:=ya4 ix
 have lx:=al.1
 have hl:=gc.len
 refine⟨_,(yae (yaH (pcl G_zar hr T.Ra (yaa (yal yaO rfl T.Ja yaj (yaa (pv 0) (yaa (ybF rfl T.Jk ya3) yab))) (yaa yaN yab)))) (yae (yaH (pcl G_zar hr T.Ra (yaa (yal (ybK rfl) rfl T.JV ybJ (yaa (yaS (yaB (NB:=["thing","is_good"]) (cap:=[none,some 1]) rfl) rfl (yaE (pv 0)) (λ_ _ _ _=>(yaq (i:=0) (show List.Nodup (["thing","is_good"]:List Str) by decide) rfl (Or.inl rfl))) (λ_ _ _ _=>yaG) (λ_ _ _ _=>(pcl G_zY hr T.zY (yaa (pv 0) (yaa (pv 1) yab))))) yab)) (yaa yaN yab)))) (yae (ybk (i:=2) sc_zE.nd rfl (Or.inl rfl) (yaB (NB:=["thing"]) (cap:=[none]) rfl) rfl (yaE (pv 0)) (λ_ _ _ _=>(yaq (i:=0) (show List.Nodup (["thing"]:List Str) by decide) rfl (Or.inl rfl))) (λ_ _ _ _=>yaG) (λ_ _ _ _=>(yas (show IxR _ (yew K) from yap) (pv 0) yac (λ_ _=>rfl)))) (yae (yaH (pcl G_zar hr T.Ra (yaa (ya0 (yaJ (ycl hu) (yc9 yd3 (pv 2) ydP (ydN yac)) (yaw (yaa yac yab)) (yau _)) (ya5 (pcl G_zal hr T.RJ (yaa (pv 2) yab)))) (yaa yaN yab)))) (yae (ybk (i:=3) sc_zE.nd rfl (Or.inl rfl) (yaB (NB:=["thing"]) (cap:=[none]) rfl) rfl (yaE (pv 0)) (λ_ _ _ _=>(yaq (i:=0) (show List.Nodup (["thing"]:List Str) by decide) rfl (Or.inl rfl))) (λ_ _ _ _=>yaG) (λ_ _ _ _=>(yas (show IxR _ (yew K) from yap) (pv 0) yac (λ_ _=>rfl)))) (yae (yaH (pcl G_zar hr T.Ra (yaa (yal (ybK rfl) rfl T.JV ybJ (yaa (yaS (yaB (NB:=["one","other"]) (cap:=[none,none]) rfl) rfl (yly rfl T.Ro (yaa (pv 3) (yaa (yc9 yd3 (pv 3) (ydN yac) ydP) yab))) (λ_ _ _ _=>by exact(show PG _ _ (ykc K 2 (yb8 (ybm 0) (yb8 (ybm 1) yke))) from yc0 (n:=2) rfl (yaZ (yaq (i:=0) (show List.Nodup (["one","other"]:List Str) by decide) rfl (Or.inl rfl)) (yaZ (yaq (i:=1) (show List.Nodup (["one","other"]:List Str) by decide) rfl (Or.inl rfl)) ycb)))) (λ_ _ _ _=>yaG) (λ_ _ _ _=>(yaJ (show OpR _ _ (yok K) from yc4 hu) (pv 0) (pv 1) (yau _)))) yab)) (yaa yaN yab)))) (yag (yao (ybD ya8 rfl T.Jk ya3 (yaa (pv 0) yab)))))))))),?_⟩
 walk_at ""
 refine ybO (.lst ea') ?_
 walk_at ""
 refine nd rfl ?_
 walk_at ""
 refine⟨a,rfl,⟨_,SqL.of ea'⟩,λD1 hD1=>ybb (λ_=>V.bl true) ea' al hD1 (by omega) (λx c H' Q' hc sm rx q'=>?_) λH1 s1 hd1=>yc8 (yhA hd1 ?_)⟩
 ·walk_at ""
  exact⟨x,c,j,rfl,rx.same (sH.trans sm),gc.g c hc,q'⟩
 walk_at ""
 refine nd rfl ?_
 have sH1:=sH.trans s1
 walk_at ""
 refine⟨a,rfl,⟨_,SqL.of (s1 _ _ ea')⟩,λD2 hD2=>ybb (λc=>V.int (c.1:Nat)) (s1 _ _ ea') al hD2 (by omega) (λx c H' Q' hc sm rx q'=>?_) λH2 s2 hd2=>?_⟩
 ·obtain⟨b,y,rfl,eb,_⟩:=rx.ch
  walk_at ""
  exact yaI (SqT.of (sH1.trans sm _ _ eb)) (yak (j:=0) rfl) (q' _ (Same.refl _))
 have sH2:=sH1.trans s2
 walk_at ""
 have c1:1<=cs.length:=by
  cases e:cs with
  | nil=>have:=gc.one;rw[e] at this;cases this
  | cons=>simp
 refine⟨1,rfl,D2,_,rfl,SqL.of hd2,λp hp=>?_⟩
 have ct:ygL (cs.map λc=>V.int (c.1:Nat)) none (some ((1:Nat):Int))=[V.int 1]:=by
  rw[ykl _ 1 (by rw[List.length_map];exact c1)]
  have:=congrArg (List.map λn:Nat=>V.int n) gc.one
  rw[← List.map_take,List.map_map] at this
  rw[← List.map_take]
  exact this
 rw[show(1:Int)=((1:Nat):Int) from rfl,ct]
 have s3:=yaf hp (.lst [V.int 1])
 walk_at ""
 refine⟨by decide,λp2 hp2=>?_⟩
 have s4:=yaf hp2 (.lst [V.int 1])
 refine yjQ (tr:=.ls [nT 1]) ⟨rfl,yhS (k:=59) (ybP ybC yg2)⟩ (ybV (s4 _ _ yad) (yav (yin _ _) (yaV _))) (ybV yad (yav (yin _ _) (yaV _))) (ya2 (i_T ?_))
 have s24:=s3.trans s4
 generalize upd (upd H2 p (.lst [V.int 1])) p2 (.lst [V.int 1])=H4 at s24 ⊢
 walk_at ""
 refine⟨D2,cs.map λc=>(c.1:Int),rfl,by rw[List.map_map];exact s24 _ _ hd2,by rw[List.length_map];omega,λi h=>?_,λH5 s5=>?_⟩
 ·rw[List.length_map] at h
  have:=gc.up i h
  simp only[List.getElem_map]
  omega
 walk_at ""
 refine nd rfl ?_
 have s15:=(s1.trans s2).trans (s24.trans s5)
 have sH5:=sH.trans s15
 walk_at ""
 refine⟨a,rfl,⟨_,SqL.of (s15 _ _ ea')⟩,λD3 hD3=>ybb (ypl Hs) (s15 _ _ ea') (ym7 (xs:=xs)) hD3 (by omega) (λx u H' Q' hc sm rx q'=>?_) λH6 s6 hd6=>?_⟩
 ·subst rx
  obtain⟨i,hi,e⟩:=List.mem_iff_getElem.mp hc
  obtain⟨x',e',rx⟩:=al.2 i (by omega)
  rw[List.getElem?_eq_getElem hi,e] at e'
  cases e'
  obtain⟨_,b,rfl,eb⟩:=yjX rx
  walk_at ""
  exact yaI (SqT.of (sH5.trans sm _ _ eb)) (yak (j:=1) rfl) (q' _ (Same.refl _))
 have sH6:=sH5.trans s6
 walk_at ""
 refine yjW rfl hd6 (by rw[List.length_map];omega) (λi x y H' Q' hx hy sm q'=>?_) λn D H' sm hd=>yc8 (yks hd ?_)
 ·rw[List.getElem?_map] at hx hy
  have hi:i+1 < xs.length:=by
   cases e:xs[i+1]? with
   | none=>rw[e] at hy;cases hy
   | some v=>exact(List.getElem?_eq_some_iff.mp e).1
  obtain⟨x',e1,r1⟩:=al.2 i (by omega)
  obtain⟨y',e2,r2⟩:=al.2 (i+1) (by omega)
  rw[e1] at hx
  rw[e2] at hy
  cases hx
  cases hy
  have sm':=sH6.trans sm
  walk_at ""
  refine ymn (yht _) (yht _) ((yjX r1).1.same sm') ((yjX r2).1.same sm') ?_
  rw[yoc (gc.g _ (List.getElem_mem (by omega))) (gc.g _ (List.getElem_mem (by omega))),show decide (cs[i].2=cs[i+1].2)=false by simpa using gc.ne i (by omega)]
  exact q' _ (Same.refl _)
 walk_at ""
 refine nd rfl ?_
 have s16:=(s15.trans s6).trans sm
 walk_at ""
 refine⟨a,xs,rfl,.inl (SqL.of (s16 _ _ ea')),λl hl=>?_⟩
 have s7:=s16.trans (yaf hl (.lst xs))
 refine q _ _ s7 (ybV (by rw[yaP (s16.free hl)];exact yad) (ix.same (yer sH)))
noncomputable def ydd (bar:Nat)(cs:List (Nat×Cv)):Option Cv:=((cs.filter λc=>decide (c.1<=bar)).getLast?).map (·.2)
noncomputable def yhC:Sp:=λvs H Q _=>∃ (bar:Nat) (x:V) (cs:List (Nat×Cv)) (c:Cv) (Hs:Hp),vs=[.int bar,x]/\Same Hs H/\Is Hs x (csT cs)/\cs.length<=30/\ydd bar cs=some c/\∀ y H',Same H H'->Is Hs y (cvT c)->Q y H'
theorem yol (T:Txt K mg t):FnOk P w K mg base CX0 1 t.f_zam t.d_zam ["bar","changes"] yhC:=by
 refine T.RK.F.ok yng (λvs H Q E h=>?_) (λ_ _ _ s H vs Q E hr h=>?_)
 ·obtain⟨_,_,_,_,_,rfl,_⟩:=h;rfl
 have hu:=ybr hr
 obtain⟨bar,x,cs,c,Hs,rfl,sH,ix,len,la,q⟩:=h
 rw[csT,Is] at ix
 obtain⟨a,xs,rfl,ea,ix⟩:=ix
 have ea':=sH _ _ ea
 have al:=ya4 ix
 have lx:=al.1
 refine⟨_,(yag (yao (yas yaL (yaS (yaB (NB:=["change","bar"]) (cap:=[none,some 0]) rfl) rfl (yaE (pv 1)) (λ_ _ _ _=>(yaq (i:=0) (show List.Nodup (["change","bar"]:List Str) by decide) rfl (Or.inl rfl))) (λ_ _ _ _=>(ydI (yaz ycB (yas (show IxR _ (yew K) from yap) (pv 0) yac (λ_ _=>rfl)) (pv 1) (yau _)))) (λ_ _ _ _=>(yas (show IxR _ (yew K) from yap) (pv 0) yac (λ_ _=>rfl)))) (ycM ybR yac) (λ_ _=>rfl)))),?_⟩
 walk_at ""
 refine⟨a,rfl,⟨_,SqL.of ea'⟩,λD hD=>ybM (xs:=xs) (λi σ' H'=>(∃ o,σ'=[o,some (.int bar)])/\Same H H'/\∃ ys,H' D=some (.lst ys)/\Al (λy c=>Is Hs y (cvT c.2)) ys ((cs.take i).filter λc=>decide (c.1<=bar))) ⟨⟨_,rfl⟩,yaf hD _,[],yad,Al.nil⟩ (λ_ _ _ _ h=>SqL.of (h.2.1 _ _ ea')) ?_ ?_⟩
 ·rintro i x σ' H' N hN hx ⟨⟨o,rfl⟩,sm,ys,hd,ay⟩
  have hi:i < cs.length:=by have:=(List.getElem?_eq_some_iff.mp hx).1;omega
  obtain⟨x',e,rx⟩:=al.2 i hi
  rw[hx] at e
  cases e
  obtain⟨b,y,rfl,eb,iy⟩:=rx.ch
  have eb':=sH.trans sm _ _ eb
  have tk:(cs.take (i+1)).filter (λc=>decide (c.1<=bar))=(cs.take i).filter (λc=>decide (c.1<=bar))++if cs[i].1<=bar then [cs[i]] else []:=by
   rw[List.take_succ_eq_append_getElem hi,List.filter_append]
   by_cases h:cs[i].1<=bar<;>simp[h]
  walk_at ""
  refine yaI (SqT.of eb') (yak (j:=0) rfl) ?_
  walk_at ""
  refine i_d (λh=>?_) λh=>?_
  ·walk_at ""
   refine yaI (SqT.of eb') (yak (j:=1) rfl) ⟨ys,hd,?_,hN _ _ ⟨⟨_,rfl⟩,yaT hD sm,_,yad,?_⟩⟩
   ·have:=ay.1
    have l2:=List.length_filter_le (λc:Nat×Cv=>decide (c.1<=bar)) (cs.take i)
    rw[List.length_take] at l2
    exact yat (by omega)
   ·rw[tk,if_pos (by omega)]
    exact ay.snoc iy
  ·refine hN _ _ ⟨⟨_,rfl⟩,sm,ys,hd,?_⟩
   rw[tk,if_neg (by omega),List.append_nil]
   exact ay
 ·rintro σ' H' ⟨_,sm,ys,hd,ay⟩
  rw[lx,List.take_length] at ay
  unfold ydd at la
  cases e:(cs.filter λc=>decide (c.1<=bar)).getLast? with
  | none=>rw[e] at la;cases la
  | some c' =>
   rw[e] at la
   cases la
   obtain⟨zs,y,rfl,sy,_⟩:=ybZ ay e
   walk_at ""
   exact ybp (SqL.of hd) (ybx zs y) (q _ _ sm sy)
noncomputable def yhu:Sp:=λvs H Q _=>∃ (x:V) (cs:List (Nat×Cv)) (n:Nat) (c:Nat×Cv),vs=[x,.int n]/\Is H x (csT cs)/\cs.getLast?=some c/\c.1<=n/\Q .non H
theorem yru (T:Txt K mg t)(G_zar:FnOk P w K mg base CX0 1 t.f_zar t.d_zar ["is_so","why"] ycT):FnOk P w K mg base CX0 2 t.f_zt t.d_zt ["changes","bars"] yhu:=by
 refine T.zt.F.ok yrg (λvs H Q E h=>?_) (λ_ _ _ s H vs Q E hr h=>?_)
 ·obtain⟨_,_,_,_,rfl,_⟩:=h;rfl
 have hu:=ybr hr
 obtain⟨x,cs,n,c,rfl,ix,hc,hn,q⟩:=h
 rw[csT,Is] at ix
 obtain⟨a,xs,rfl,ea,ix⟩:=ix
 obtain⟨zs,y,rfl,sy,_⟩:=ybZ (ya4 ix) hc
 obtain⟨b,y,rfl,eb,iy⟩:=sy.ch
 refine⟨_,(yag (yaH (pcl G_zar hr T.Ra (yaa (yaJ ycB (yas yap (yas yaL (pv 0) (ycM ybR yac) (λ_ _=>rfl)) yac (λ_ _=>rfl)) (pv 1) (yau _)) (yaa yaN yab))))),?_⟩
 walk_at ""
 refine ybp (SqL.of ea) (ybx zs _) ?_
 walk_at ""
 refine yaI (SqT.of eb) (yak (j:=0) rfl) ?_
 walk_at ""
 refine nd (by rw[decide_eq_true_eq];omega) ?_
 walk_at ""
 exact q
noncomputable abbrev Fr:=Mt×Int
noncomputable def bg (fr:List Fr)(i:Nat):Int:=((fr.take i).map λf=>yfB f.1).sum
noncomputable def frT (b:Int)(f:Fr):Th:=.tp [nT b,mtT f.1,nT f.2]
noncomputable def ygQ (fr:List Fr)(n:Nat):List Th:=(List.range n).map λi=>frT (bg fr i) (fr.getD i (⟨0,0,[]⟩,0))
noncomputable def ybv (fr:List Fr):Th:=.ls (ygQ fr fr.length)
structure OkF (fr:List Fr) (lasts:Int):Prop where
 len:fr.length<=24
 lo:∀ i,i < fr.length->bg fr i < lasts
 hi:lasts<=bg fr fr.length
 m:∀ f∈fr,GoodM f.1
 k:∀ f∈fr,-7<=f.2/\f.2<=7
theorem ydl {fr:List Fr}{i:Nat}(h:i < fr.length):bg fr (i+1)=bg fr i+yfB fr[i].1:=by
 unfold bg
 rw[List.take_succ_eq_append_getElem h,List.map_append,List.sum_append]
 simp
theorem yhG {fr:List Fr}{i:Nat}(h:i < fr.length):ygQ fr (i+1)=ygQ fr i++[frT (bg fr i) fr[i]]:=by
 unfold ygQ
 rw[List.range_succ,List.map_append,List.map_singleton,List.getD_eq_getElem?_getD,List.getElem?_eq_getElem h]
 rfl
theorem ynv {H:Hp}{a:Addr}{y:V}{b:Int}{f:Fr}(e:H a=some (.tup [.int b,y,.int f.2]))(i:Is H y (mtT f.1)):Is H (.ref a) (frT b f):=ycV e (yav (yin _ _) (yav i (yav (yin _ _) (yaV _))))
theorem Is.fr {H:Hp}{x:V}{b:Int}{f:Fr}(h:Is H x (frT b f)):∃ a y,x=.ref a/\H a=some (.tup [.int b,y,.int f.2])/\Is H y (mtT f.1):=by
 rw[frT,Is] at h
 obtain⟨a,xs,rfl,e,is⟩:=h
 rw[Iss] at is
 obtain⟨x,r,rfl,i1,is⟩:=is
 rw[Iss] at is
 obtain⟨y,r,rfl,i2,is⟩:=is
 rw[Iss] at is
 obtain⟨z,r,rfl,i3,is⟩:=is
 rw[Iss] at is
 subst is
 rw[nT,Is] at i1 i3
 rw[i1.1,i3.1] at e
 exact⟨a,y,rfl,e,i2⟩
noncomputable def yhc:Sp:=λvs H Q _=>∃ (x y:V) (ms ks:List (Nat×Cv)) (fr:List Fr) (lasts:Int) (Hs:Hp),vs=[x,y,.int lasts]/\Same Hs H/\Is Hs x (csT ms)/\Is Hs y (csT ks)/\ms.length<=30/\ks.length<=30/\OkF fr lasts /\
 (∀ i (h:i < fr.length),ydd (i+1) ms=some (.m fr[i].1)/\ydd (i+1) ks=some (.k fr[i].2))/\∀ z H',Same H H'->Is (nw Hs H H') z (ybv fr)->Q z H'
theorem ypT (T:Txt K mg t)(G_zar:FnOk P w K mg base CX0 1 t.f_zar t.d_zar ["is_so","why"] ycT)(G_zam:FnOk P w K mg base CX0 1 t.f_zam t.d_zam ["bar","changes"] yhC)(G_zM:FnOk P w K mg base CX0 2 t.f_zM t.d_zM ["metre"] yi5):FnOk P w K mg base CX0 3 t.f_zA t.d_zA ["metres","keys","lasts"] yhc:=by
 refine T.zA.F.ok sc_zA (λvs H Q E h=>?_) (λ_ _ _ s H vs Q E hr h=>?_)
 ·obtain⟨_,_,_,_,_,_,_,rfl,_⟩:=h;rfl
 have hu:=ybr hr
 obtain⟨x,y,ms,ks,fr,lasts,Hs,rfl,sH,ix,iy,lm,lk,ok,la,q⟩:=h
 refine⟨_,(yae (yar (i:=3) sc_zA.nd rfl (Or.inl rfl) (yaw yab)) (yae (yar (i:=4) sc_zA.nd rfl (Or.inl rfl) yac) (yae (ydC PassesOwn.never (yaz yel (pv 4) (pv 2) (yau _)) (yae (yar (i:=5) sc_zA.nd rfl (Or.inl rfl) (yaF ya6 (yal yaD rfl T.Jj PySem.boot_len (yaa (pv 3) yab)) yac)) (yae (yaH (pcl G_zar hr T.Ra (yaa (yaJ ycB (pv 5) (ycP rfl T.QV) (yau _)) (yaa yaN yab)))) (yae (yar (i:=6) sc_zA.nd rfl (Or.inl rfl) (pcl G_zam hr T.RK (yaa (pv 5) (yaa (pv 0) yab)))) (yae (yaH (ybN F.plainAttrs_list F.slot_list_append F.type_list_append yaM (pv 3) (yaa (yay (yaa (pv 4) (yaa (pv 6) (yaa (pcl G_zam hr T.RK (yaa (pv 5) (yaa (pv 1) yab))) yab)))) yab))) (yag (ylw (i:=4) sc_zA.nd rfl (Or.inl rfl) (pcl G_zM hr T.zM (yaa (pv 6) yab)) ylT))))))) (yag (yao (pv 3)))))),?_⟩
 walk_at ""
 refine⟨Nat.zero_le _,λD hD=>?_⟩
 walk_at ""
 refine⟨λm σ H'=>∃ i,m=fr.length - i/\i<=fr.length/\(∃ o1 o2,σ=[some x,some y,some (.int lasts),some (.ref D),some (.int (bg fr i)),o1,o2])/\Same H H'/\∃ ys,H' D=some (.lst ys)/\Iss (gp Hs H H' D) ys (ygQ fr i),⟨fr.length,0,rfl,Nat.zero_le _,⟨_,_,rfl⟩,yaf hD _,[],yad,yaV _⟩,?_⟩
 rintro m σ H' ⟨i,rfl,hi,⟨o1,o2,rfl⟩,sm,ys,hd,iss⟩
 walk_at ""
 refine i_d (λh=>?_) λh=>?_
 ·have hi:i < fr.length:=by
   rcases Nat.lt_or_ge i fr.length with z | z
   ·exact z
   ·have e:i=fr.length:=by omega
    rw[e] at h
    have:=ok.hi
    omega
  have l1:=iss.len
  have l2:(ygQ fr i).length=i:=by unfold ygQ;rw[List.length_map,List.length_range]
  have l3:=ok.len
  refine⟨fun σ' H''=>∃ o1 o2,σ'=[some x,some y,some (.int lasts),some (.ref D),some (.int (bg fr (i+1))),o1,o2]/\Same H H''/\∃ ys,H'' D=some (.lst ys)/\Iss (gp Hs H H'' D) ys (ygQ fr (i+1)),fun σ' H'' ⟨o1,o2,e,z⟩=>⟨fr.length - (i+1),by omega,i+1,rfl,by omega,⟨o1,o2,e⟩,z⟩,?_⟩
  walk_at ""
  refine⟨D,ys,rfl,.inl (SqL.of hd),?_⟩
  walk_at ""
  rw[show((ys.length:Int)+1)=((i+1:Nat):Int) by omega]
  refine nd (by rw[decide_eq_true_eq];omega) ?_
  obtain⟨la1,la2⟩:=la i hi
  have sH':=sH.trans sm
  walk_at ""
  refine⟨i+1,x,ms,_,Hs,rfl,sH',ix,lm,la1,λmv H1 s1 im=>?_⟩
  have hd1:=s1 _ _ hd
  walk_at ""
  refine⟨.inl ⟨rfl,_,SqL.of hd1⟩,?_⟩
  walk_at ""
  refine⟨i+1,y,ks,_,Hs,rfl,sH'.trans s1,iy,lk,la2,λkv H2 s2 ik=>?_⟩
  have:kv=.int fr[i].2:=by rw[cvT,nT,Is] at ik;exact ik.1
  subst this
  walk_at ""
  refine⟨by show 3<=sizeLine;decide,λp hp=>?_⟩
  have s3:=yaf hp (.tup [.int (bg fr i),mv,.int fr[i].2])
  have s13:=(s1.trans s2).trans s3
  walk_at ""
  have hd3:=s13 _ _ hd
  refine ybQ hd3 (yat (by omega)) ?_
  have sm3:=sm.trans s13
  have sm4:Same H (upd (upd H2 p (.tup [.int (bg fr i),mv,.int fr[i].2])) D (.lst (ys++[.ref p]))):=yaT hD sm3
  walk_at ""
  refine⟨mv,fr[i].1,rfl,im.same (sH.trans sm4),ok.m _ (List.getElem_mem hi),?_⟩
  walk_at ""
  refine⟨_,_,by rw[ydl hi];rfl,sm4,_,yad,?_⟩
  rw[yhG hi]
  have g1:Same (gp Hs H H' D) (gp Hs H (upd (upd H2 p (.tup [.int (bg fr i),mv,.int fr[i].2])) D (.lst (ys++[.ref p]))) D):=(ya1 s13).trans ydq
  have np:p≠D:=λz=>by rw[z,s2 _ _ hd1] at hp;cases hp
  exact(iss.same g1).app (yav (ynv (yd1 np ((sm.trans (s1.trans s2)).free hp) (by rw[yai np];exact yad)) (im.same (ygF sH))) (yaV _))
 ·have e:i=fr.length:=by
   rcases Nat.lt_or_ge i fr.length with z | z
   ·exact absurd (ok.lo i z) h
   ·omega
  subst e
  walk_at ""
  exact q _ _ sm (ybV (by rw[yaP hD];exact hd) (iss.same ycW))
noncomputable def yd0 (m k v f:V):List (Str×V):=[("metre_changes",m),("key_changes",k),("voices",v),("bar_frames",f)]
noncomputable def TuneIs (t:Ad)(H:Hp)(x:V)(vss:List (List Sn))(fr:List Fr):Prop:=∃ a dx m k v f,x=.ref a/\H a=some (.ins t.Ur dx (yd0 m k v f))/\VosIs t H v vss/\Is H f (ybv fr)
theorem TuneIs.same {H H':Hp}{x:V}{vss:List (List Sn)}{fr:List Fr}(h:TuneIs t H x vss fr)(s:Same H H'):TuneIs t H' x vss fr:=by
 obtain⟨a,dx,m,k,v,f,e,ea,hv,hf⟩:=h
 exact⟨a,dx,m,k,v,f,e,s _ _ ea,hv.same s,hf.same s⟩
theorem ynK {A B H H':Hp}(s:Same A B):Same (nw A H H') (nw B H H'):=λc u e=>by
 cases h:H c with
 | none=>rw[yaP h] at e ⊢;exact e
 | some v=>rw[yb1 h] at e ⊢;exact s _ _ e
structure yeb (vss:List (List Sn)):Prop where
 n1:1<=vss.length
 n2:vss.length<=2
 len:∀ ss∈vss,ss.length<=96
 pos:∀ ss∈vss,Pos ss
 sum:∀ ss∈vss,yaW ss<=1000
noncomputable def ybX (vss:List (List Sn)):Int:=vss.foldl (λm ss=>max m (yaW ss)) 0
theorem yeC {vss:List (List Sn)}(n1:1<=vss.length)(pos:∀ ss∈vss,Pos ss){m:Int}(h1:m∈vss.map yaW)(h2:∀ a∈vss.map yaW,a<=m):m=ybX vss:=by
 have key:∀ (l:List (List Sn)) (z:Int),l.foldl (λm ss=>max m (yaW ss)) z=z∨l.foldl (λm ss=>max m (yaW ss)) z∈l.map yaW:=λl=>by
  induction l with
  | nil=>exact λz=>.inl rfl
  | cons s l ih =>
   intro z
   rcases ih (max z (yaW s)) with e | e
   ·rw[List.foldl_cons,e]
    rcases Int.le_total z (yaW s) with q | q
    ·rw[Int.max_eq_right q];exact .inr (by simp)
    ·rw[Int.max_eq_left q];exact .inl rfl
   ·exact .inr (List.mem_cons_of_mem _ e)
 have ge:∀ (l:List (List Sn)) (z:Int),z<=l.foldl (λm ss=>max m (yaW ss)) z/\∀ a∈l.map yaW,a<=l.foldl (λm ss=>max m (yaW ss)) z:=λl=>by
  induction l with
  | nil=>exact λz=>⟨Int.le_refl _,λa h=>nomatch h⟩
  | cons s l ih =>
   intro z
   obtain⟨a,b⟩:=ih (max z (yaW s))
   have:=Int.le_max_left z (yaW s)
   have:=Int.le_max_right z (yaW s)
   refine⟨by rw[List.foldl_cons];omega,λc hc=>?_⟩
   rw[List.map_cons] at hc
   rcases List.mem_cons.mp hc with rfl | hc
   ·rw[List.foldl_cons];omega
   ·exact b c hc
 have g:=(ge vss 0).2 m h1
 have m0:0<=m:=by obtain⟨ss,hs,rfl⟩:=List.mem_map.mp h1;exact ybS (pos ss hs)
 unfold ybX
 rcases key vss 0 with e | e
 ·rw[e] at g ⊢;omega
 ·have:=h2 _ e;omega
theorem yhI {ss:List Sn}(h:Pos ss){s:Sn}(hs:s∈ss):snL s<=yaW ss:=by
 obtain⟨a,b,rfl⟩:=List.append_of_mem hs
 have h1:=ybS (ss:=a) λz hz=>h z (List.mem_append_left _ hz)
 have h2:=ybS (ss:=b) λz hz=>h z (List.mem_append_right _ (List.mem_cons_of_mem _ hz))
 have e:yaW (s :: b)=snL s+yaW b:=by simp[yaW]
 rw[ybL,e]
 omega
noncomputable def yiI (t:Ad):Sp:=λvs H Q _=>∃ (a dx:Addr) (fs:List (Str×V)) (v:V) (vss:List (List Sn)),vs=[.ref a]/\H a=some (.ins t.Ur dx fs)/\fs.lookup (Str.ofString "voices")=some v/\VosIs t H v vss/\yeb vss/\∀ H',Same H H'->Q (.int (ybX vss)) H'
theorem yrs (T:Txt K mg t)(G_zZ:FnOk P w K mg base CX0 1 t.f_zZ t.d_zZ ["sounds"] (yhy t)):FnOk P w K mg base CX0 2 t.f_zz t.d_zz ["self"] (yiI t):=by
 refine T.zz.F.ok yqX (λvs H Q E h=>?_) (λ_ _ _ s H vs Q E hr h=>?_)
 ·obtain⟨_,_,_,_,_,rfl,_⟩:=h;rfl
 have hu:=ybr hr
 obtain⟨a,dx,fs,v,vss,rfl,ea,lk,⟨l,ys,rfl,el,al⟩,gv,q⟩:=h
 refine⟨_,(yag (yao (yal (yfZ hr.hd) rfl T.Rn yeR (yaa (yaS (yaB (NB:=["sounds"]) (cap:=[none]) rfl) rfl (yaE (ybl (pv 0) rfl)) (λ_ _ _ _=>(yaq (i:=0) (show List.Nodup (["sounds"]:List Str) by decide) rfl (Or.inl rfl))) (λ_ _ _ _=>yaG) (λ_ _ _ _=>(pcl G_zZ hr T.zZ (yaa (pv 0) yab)))) yab)))),?_⟩
 walk_at ""
 refine⟨a,_,dx,_,_,rfl,ea,T.Jc,T.Jg,lk,?_⟩
 walk_at ""
 have:=gv.n2
 refine⟨l,rfl,⟨_,SqL.of el⟩,λD hD=>ybb (λss=>V.int (yaW ss)) el al hD (by omega) (λx ss H' Q' hs sm rx q'=>?_) λH' sm hd=>yc8 ⟨D,vss.map yaW,rfl,SqL.of (by rw[List.map_map];exact hd),by rw[List.length_map];exact gv.n1,λm h1 h2=>?_⟩⟩
 ·obtain⟨b,zs,rfl,eb,az⟩:=rx
  walk_at ""
  have p:=gv.pos ss hs
  have sm0:=gv.sum ss hs
  exact⟨b,zs,ss,rfl,sm _ _ eb,az.imp λ_ _ _ z=>z.same sm,by have:=gv.len ss hs;omega,λs h=>⟨by have:=p s h;omega,by have:=yhI p h;omega⟩,q'⟩
 ·rw[yeC gv.n1 gv.pos h1 h2]
  exact q _ sm
noncomputable def ylC (t:Ad):Sp:=λvs H Q _=>∃ (x:V) (vss:List (List Sn)) (fr:List Fr),vs=[x]/\TuneIs t H x vss fr/\Q (.int vss.length) H
theorem yql (T:Txt K mg t):FnOk P w K mg base CX0 1 t.f_zU t.d_zU ["self"] (ylC t):=by
 refine T.zU.F.ok yrx (λvs H Q E h=>?_) (λ_ _ _ s H vs Q E hr h=>?_)
 ·obtain⟨_,_,_,rfl,_⟩:=h;rfl
 have hu:=ybr hr
 obtain⟨x,vss,fr,rfl,⟨a,dx,m,k,v,f,rfl,ea,⟨l,ys,rfl,el,al⟩,hf⟩,q⟩:=h
 refine⟨_,(yag (yao (yal yaD rfl T.Jj PySem.boot_len (yaa (ybl (pv 0) rfl) yab)))),?_⟩
 walk_at ""
 refine⟨a,_,dx,_,_,rfl,ea,T.Jc,T.Jg,rfl,?_⟩
 walk_at ""
 refine⟨l,ys,rfl,.inl (SqL.of el),?_⟩
 rw[al.1]
 exact q
noncomputable def ymI (t:Ad):Sp:=λvs H Q _=>∃ (x:V) (vss:List (List Sn)) (fr:List Fr) (Hs:Hp),vs=[x]/\Same Hs H/\TuneIs t Hs x vss fr/\∀ y H',Same H H'->Is (nw Hs H H') y (ybv fr)->Q y H'
theorem yqy (T:Txt K mg t):FnOk P w K mg base CX0 1 t.f_zr t.d_zr ["self"] (ymI t):=by
 refine T.zr.F.ok yre (λvs H Q E h=>?_) (λ_ _ _ s H vs Q E hr h=>?_)
 ·obtain⟨_,_,_,_,rfl,_⟩:=h;rfl
 have hu:=ybr hr
 obtain⟨x,vss,fr,Hs,rfl,sH,⟨a,dx,m,k,v,f,rfl,ea,hv,hf⟩,q⟩:=h
 obtain⟨l,ys,rfl,el,is⟩:∃ l ys,f=.ref l/\Hs l=some (.lst ys)/\Iss Hs ys (ygQ fr fr.length):=by rw[ybv,Is] at hf;exact hf
 refine⟨_,(yag (yao (ybD ya8 rfl T.Jk ya3 (yaa (ybl (pv 0) rfl) yab)))),?_⟩
 walk_at ""
 refine⟨a,_,dx,_,_,rfl,sH _ _ ea,T.Jc,T.Je,rfl,?_⟩
 walk_at ""
 refine⟨l,ys,rfl,.inl (SqL.of (sH _ _ el)),λp hp=>q _ _ (yaf hp _) (ybV (by rw[yaP hp];exact yad) (is.same (yer sH)))⟩
noncomputable def yiP (t:Ad):Sp:=λvs H Q _=>∃ (x:V) (vss:List (List Sn)) (fr:List Fr) (n:Nat) (h:n < vss.length) (Hs:Hp),vs=[x,.int (n+1:Nat)]/\Same Hs H/\TuneIs t Hs x vss fr/\yeb vss/\∀ y H',Same H H'->Is (nw Hs H H') y (vT vss[n])->Q y H'
theorem yrv (T:Txt K mg t)(G_zaf:FnOk P w K mg base CX0 2 t.f_zaf t.d_zaf ["thing","least","most"] ych)(G_zas:∀ i,FnOk P w K mg base CX0 1 (tF2 t i) (tD2 t i) ["self"] (ygg t i)):FnOk P w K mg base CX0 3 t.f_zb t.d_zb ["self","voice"] (yiP t):=by
 refine T.zb.F.ok yq8 (λvs H Q E h=>?_) (λ_ _ _ s H vs Q E hr h=>?_)
 ·obtain⟨_,_,_,_,_,_,rfl,_⟩:=h;rfl
 have hu:=ybr hr
 obtain⟨x,vss,fr,n,hn,Hs,rfl,sH,⟨a,dx,m,k,v,f,rfl,ea,⟨l,ys,rfl,el,al⟩,hf⟩,gv,q⟩:=h
 have ea':=sH _ _ ea
 have el':=sH _ _ el
 refine⟨_,(yae (yaY (ybd (yaQ (pcl G_zaf hr T.Rq (yaa (pv 1) (yaa yac (yaa (yal yaD rfl T.Jj PySem.boot_len (yaa (ybl (pv 0) rfl) yab)) yab)))))) (yag (yao (yaw yab))) yaA) (yag (yao (yaS (yaB (NB:=["sound"]) (cap:=[none]) rfl) rfl (yaE (yas yaL (ybl (pv 0) rfl) (yaF yb2 (pv 1) yac) (λ_ _=>rfl))) (λ_ _ _ _=>(yaq (i:=0) (show List.Nodup (["sound"]:List Str) by decide) rfl (Or.inl rfl))) (λ_ _ _ _=>yaG) (λ_ _ _ _=>(ykZ (pv 0) (yms T) (ymX T) G_zas (hr.mono (by first | decide | omega)) (ymv T) ydn)))))),?_⟩
 walk_at ""
 refine⟨a,_,dx,_,_,rfl,ea',T.Jc,T.Jg,rfl,?_⟩
 walk_at ""
 refine⟨l,ys,rfl,.inl (SqL.of el'),?_⟩
 have ly:=al.1
 refine yc8 (am ⟨by omega,by omega⟩ (ya2 (i_F ?_)))
 walk_at ""
 refine⟨a,_,dx,_,_,rfl,ea',T.Jc,T.Jg,rfl,?_⟩
 walk_at ""
 obtain⟨z,ez,b,zs,rfl,eb,az⟩:=al.2 n hn
 rw[show((n+1:Nat):Int) - 1=(n:Nat) by omega]
 refine ybp (SqL.of el') (yak ez) ?_
 walk_at ""
 have eb':=sH _ _ eb
 refine⟨b,rfl,⟨_,SqL.of eb'⟩,λD hD=>ygU (R:=So t) (S:=λH y s=>Is H y (snT s)) ydc yfd (λs=>s) sH eb' az hD (by have:=gv.len _ (List.getElem_mem hn);omega) (λx s H' Hs' Q' hs s1 s2 s3 rx q'=>?_) λzs H' sm hd ay=>?_⟩
 ·walk_at ""
  exact yoF s3 rx λy H'' s4 i4=>q' _ _ s4 (i4.same (ynK (yhB _)))
 ·rw[List.map_id'] at ay
  exact q _ _ sm (ybV (by rw[yaP hD];exact hd) ((ycY ay).same ycW))
structure ylt (ms ks:List (Nat×Cv)) (vss:List (List Sn)) (fr:List Fr):Prop where
 m:yhx true ms
 k:yhx false ks
 v:yfJ vss
 f:OkF fr (ybX (vss.map ybg))
 at_:∀ i (h:i < fr.length),ydd (i+1) ms=some (.m fr[i].1)/\ydd (i+1) ks=some (.k fr[i].2)
 lm:∃ c,ms.getLast?=some c/\c.1<=fr.length
 lk:∃ c,ks.getLast?=some c/\c.1<=fr.length
theorem yiC {ss:List Sn}(h:Pos ss):Pos (ycA ss):=by
 unfold ycA
 split
 ·exact λs hs=>h s (List.dropLast_subset _ hs)
 ·exact h
theorem yeA {ss:List Sn}(h:Pos ss):yaW (ycA ss)<=yaW ss:=by
 unfold ycA
 split
 ·rw[List.dropLast_eq_take];exact yf5 h _
 ·exact Int.le_refl _
theorem yjd {vss:List (List Sn)}(h:yfJ vss):yeb (vss.map ybg) where
 n1:=by rw[List.length_map];exact h.1
 n2:=by rw[List.length_map];exact h.2.1
 len ss hs:=by
  obtain⟨s,h1,rfl⟩:=List.mem_map.mp hs
  have:=ygb s
  have:=(h.2.2 s h1).n2
  omega
 pos ss hs:=by
  obtain⟨s,h1,rfl⟩:=List.mem_map.mp hs
  exact yiC (ycq (h.2.2 s h1).pos)
 sum ss hs:=by
  obtain⟨s,h1,rfl⟩:=List.mem_map.mp hs
  have p:=(h.2.2 s h1).pos
  have a:=yeA (ycq p)
  have b:=yb6 s
  have c:=(h.2.2 s h1).sum
  show yaW (ycA (yaR s))<=1000
  omega
noncomputable def yiG (t:Ad):Sp:=λvs H Q _=>∃ (a dx:Addr) (mx kx vx:V) (ms ks:List (Nat×Cv)) (vss:List (List Sn)) (fr:List Fr) (Hs H0:Hp),vs=[.ref a,mx,kx,vx]/\H a=some (.ins t.Ur dx [])/\H0 a=none/\Same H0 H/\Same Hs H0 /\
 Is Hs mx (csT ms)/\Is Hs kx (csT ks)/\Is Hs vx (vsT vss)/\ylt ms ks vss fr/\∀ H',Same H0 H'->TuneIs t (nw Hs H0 H') (.ref a) (vss.map ybg) fr->Q .non H'
theorem ypP (T:Txt K mg t)(G_zE:FnOk P w K mg base CX0 6 t.f_zE t.d_zE ["things","is_good"] (ygi t))(G_zS:FnOk P w K mg base CX0 8 t.f_zS t.d_zS ["things"] (yey t))(G_zA:FnOk P w K mg base CX0 3 t.f_zA t.d_zA ["metres","keys","lasts"] yhc)
  (G_zz:FnOk P w K mg base CX0 2 t.f_zz t.d_zz ["self"] (yiI t)) (G_zt:FnOk P w K mg base CX0 2 t.f_zt t.d_zt ["changes","bars"] yhu):FnOk P w K mg base CX0 9 t.f_zm t.d_zm ["self","metres","keys","voices"] (yiG t):=by
 refine T.zm.F.ok ypI (λvs H Q E h=>?_) (λ_ _ _ s H vs Q E hr h=>?_)
 ·obtain⟨_,_,_,_,_,_,_,_,_,_,_,rfl,_⟩:=h;rfl
 have hu:=ybr hr
 obtain⟨a,dx,mx,kx,vx,ms,ks,vss,fr,Hs,H0,rfl,ea,a0,s0,sH,im,ik,iv,ok,q⟩:=h
 refine⟨_,(yae (ydb (pv 0) (pcl G_zE hr T.zE (yaa (pv 1) (yaa (ybc (v:=.ref t.f_zae) rfl T.RB.M rfl) yab))) rfl) (yae (ydb (pv 0) (pcl G_zE hr T.zE (yaa (pv 2) (yaa (ybc (v:=.ref t.f_zan) rfl T.RC.M rfl) yab))) rfl) (yae (ydb (pv 0) (pcl G_zS hr T.zS (yaa (pv 3) yab)) rfl) (yae (ydb (pv 0) (pcl G_zA hr T.zA (yaa (ybl (pv 0) rfl) (yaa (ybl (pv 0) rfl) (yaa (ydG (pv 0) T.Jc T.RG G_zz (hr.mono (by first | decide | omega)) T.zz.B .nil ydn) yab)))) rfl) (yae (yaH (pcl G_zt hr T.zt (yaa (ybl (pv 0) rfl) (yaa (yal yaD rfl T.Jj PySem.boot_len (yaa (ybl (pv 0) rfl) yab)) yab)))) (yag (yaH (pcl G_zt hr T.zt (yaa (ybl (pv 0) rfl) (yaa (yal yaD rfl T.Jj PySem.boot_len (yaa (ybl (pv 0) rfl) yab)) yab)))))))))),?_⟩
 walk_at ""
 refine⟨mx,ms,true,gp Hs H0 H a,rfl,ycs sH s0,im.same (ygF sH),ok.m,λy1 H1 s1 i1=>?_⟩
 have j1:=i1.same (yim sH s0 ea s1)
 have ea1:=s1 _ _ ea
 have s01:=s0.trans s1
 walk_at ""
 refine⟨a,_,dx,_,rfl,ea1,T.Jc,T.Jf,by decide,?_⟩
 have w1:Same H0 (upd H1 a (.ins t.Ur dx [("metre_changes",y1)])):=yaT a0 s01
 have e1:upd H1 a (.ins t.Ur dx [("metre_changes",y1)]) a=some (.ins t.Ur dx [("metre_changes",y1)]):=yad
 have k1:=j1.same (ydq (o:=.ins t.Ur dx [("metre_changes",y1)]))
 rw[show yef "metre_changes" y1 []=([("metre_changes",y1)]:List (Str×V)) from rfl]
 generalize upd H1 a (.ins t.Ur dx [("metre_changes",y1)])=G1 at w1 e1 k1 ⊢
 walk_at ""
 refine⟨kx,ks,false,gp Hs H0 G1 a,rfl,ycs sH w1,ik.same (ygF sH),ok.k,λy2 H2 s2 i2=>?_⟩
 have j2:=i2.same (yim sH w1 e1 s2)
 walk_at ""
 refine⟨a,_,dx,_,rfl,s2 _ _ e1,T.Jc,T.Ji,by show 1 < 1000;decide,?_⟩
 have w2:Same H0 (upd H2 a (.ins t.Ur dx [("metre_changes",y1),("key_changes",y2)])):=yaT a0 (w1.trans s2)
 have e2:upd H2 a (.ins t.Ur dx [("metre_changes",y1),("key_changes",y2)]) a=some (.ins t.Ur dx [("metre_changes",y1),("key_changes",y2)]):=yad
 have k2:=j2.same (ydq (o:=.ins t.Ur dx [("metre_changes",y1),("key_changes",y2)]))
 have k12:=k1.same ((ya1 s2).trans (ydq (o:=.ins t.Ur dx [("metre_changes",y1),("key_changes",y2)])))
 rw[show yef "key_changes" y2 [("metre_changes",y1)]=([("metre_changes",y1),("key_changes",y2)]:List (Str×V)) from rfl]
 generalize upd H2 a (.ins t.Ur dx [("metre_changes",y1),("key_changes",y2)])=G2 at w2 e2 k2 k12 ⊢
 walk_at ""
 refine⟨vx,vss,gp Hs H0 G2 a,rfl,ycs sH w2,iv.same (ygF sH),ok.v,λy3 H3 s3 i3=>?_⟩
 have j3:=i3.same (yim sH w2 e2 s3)
 walk_at ""
 refine⟨a,_,dx,_,rfl,s3 _ _ e2,T.Jc,T.Jg,by show 2 < 1000;decide,?_⟩
 rw[show yef "voices" y3 [("metre_changes",y1),("key_changes",y2)]=([("metre_changes",y1),("key_changes",y2),("voices",y3)]:List (Str×V)) from rfl]
 have w3:Same H0 (upd H3 a (.ins t.Ur dx [("metre_changes",y1),("key_changes",y2),("voices",y3)])):=yaT a0 (w2.trans s3)
 have e3:upd H3 a (.ins t.Ur dx [("metre_changes",y1),("key_changes",y2),("voices",y3)]) a=some (.ins t.Ur dx [("metre_changes",y1),("key_changes",y2),("voices",y3)]):=yad
 have g3:Same (gp Hs H0 H3 a) (gp Hs H0 (upd H3 a (.ins t.Ur dx [("metre_changes",y1),("key_changes",y2),("voices",y3)])) a):=ydq
 have k3:=j3.same g3
 have k13:=k12.same ((ya1 s3).trans g3)
 have k23:=k2.same ((ya1 s3).trans g3)
 generalize upd H3 a (.ins t.Ur dx [("metre_changes",y1),("key_changes",y2),("voices",y3)])=G3 at w3 e3 k3 k13 k23 g3 ⊢
 have o3:Same (gp Hs H0 G3 a) G3:=ycs sH w3
 walk_at ""
 refine⟨a,_,dx,_,_,rfl,e3,T.Jc,T.Jf,rfl,?_⟩
 walk_at ""
 refine⟨a,_,dx,_,_,rfl,e3,T.Jc,T.Ji,rfl,?_⟩
 walk_at ""
 refine⟨a,dx,_,rfl,e3,rfl,?_⟩
 walk_at ""
 refine⟨a,dx,_,_,_,rfl,e3,rfl,k3.same o3,yjd ok.v,λH4 s4=>?_⟩
 walk_at ""
 have w4:=w3.trans s4
 have g4:Same (gp Hs H0 G3 a) (gp Hs H0 H4 a):=ya1 s4
 refine⟨y1,y2,ms,ks,fr,_,gp Hs H0 H4 a,rfl,ycs sH w4,k13.same g4,k23.same g4,ok.m.len,ok.k.len,ok.f,ok.at_,λy5 H5 s5 i5=>?_⟩
 have e4:=s4 _ _ e3
 have j5:=i5.same (yim sH w4 e4 s5)
 have e5:=s5 _ _ e4
 walk_at ""
 refine⟨a,_,dx,_,rfl,e5,T.Jc,T.Je,by show 3 < 1000;decide,?_⟩
 rw[show yef "bar_frames" y5 [("metre_changes",y1),("key_changes",y2),("voices",y3)]=yd0 y1 y2 y3 y5 from rfl]
 have w5:Same H0 (upd H5 a (.ins t.Ur dx (yd0 y1 y2 y3 y5))):=yaT a0 (w4.trans s5)
 have e6:upd H5 a (.ins t.Ur dx (yd0 y1 y2 y3 y5)) a=some (.ins t.Ur dx (yd0 y1 y2 y3 y5)):=yad
 have g5:Same (gp Hs H0 H5 a) (gp Hs H0 (upd H5 a (.ins t.Ur dx (yd0 y1 y2 y3 y5))) a):=ydq
 have f1:=k13.same (g4.trans ((ya1 s5).trans g5))
 have f2:=k23.same (g4.trans ((ya1 s5).trans g5))
 have f3:=k3.same (g4.trans ((ya1 s5).trans g5))
 have f5:=j5.same g5
 generalize upd H5 a (.ins t.Ur dx (yd0 y1 y2 y3 y5))=G5 at w5 e6 f1 f2 f3 f5 ⊢
 have o5:Same (gp Hs H0 G5 a) G5:=ycs sH w5
 obtain⟨l5,ys5,rfl,el5,is5⟩:∃ l ys,y5=.ref l/\G5 l=some (.lst ys)/\Iss G5 ys (ygQ fr fr.length):=by have:=f5.same o5;rw[ybv,Is] at this;exact this
 have ln:ys5.length=fr.length:=by rw[is5.len];unfold ygQ;rw[List.length_map,List.length_range]
 obtain⟨cm,hm1,hm2⟩:=ok.lm
 obtain⟨ck,hk1,hk2⟩:=ok.lk
 walk_at ""
 refine⟨a,_,dx,_,_,rfl,e6,T.Jc,T.Jf,rfl,?_⟩
 walk_at ""
 refine⟨a,_,dx,_,_,rfl,e6,T.Jc,T.Je,rfl,?_⟩
 walk_at ""
 refine⟨l5,ys5,rfl,.inl (SqL.of el5),?_⟩
 walk_at ""
 refine⟨y1,ms,ys5.length,cm,rfl,f1.same o5,hm1,by omega,?_⟩
 walk_at ""
 refine⟨a,_,dx,_,_,rfl,e6,T.Jc,T.Ji,rfl,?_⟩
 walk_at ""
 refine⟨a,_,dx,_,_,rfl,e6,T.Jc,T.Je,rfl,?_⟩
 walk_at ""
 refine⟨l5,ys5,rfl,.inl (SqL.of el5),?_⟩
 walk_at ""
 refine⟨y2,ks,ys5.length,ck,rfl,f2.same o5,hk1,by omega,?_⟩
 exact q _ w5 ⟨a,dx,y1,y2,y3,_,rfl,by rw[yaP a0];exact e6,f3.same ycW,f5.same ycW⟩
noncomputable def eH:Hp:=λ_=>none
theorem ypp {H:Hp}:Same eH H:=λ_ _ e=>nomatch e
structure ykd where
 (b e:Int)
 o:Option Nat
structure yex where
 (a n:Int)
 o:Option Nat
 (co go:Bool)
noncomputable def oV:Option Nat->V
 | none=>.non
 | some n=>.int (n:Nat)
noncomputable def oT (o:Option Nat):Th:=.im (oV o)
theorem ymk (o:Option Nat):imV (oV o)=true:=by cases o<;>rfl
noncomputable def spT (s:ykd):Th:=.tp [nT s.b,nT s.e,oT s.o]
noncomputable def stT (s:yex):Th:=.tp [nT s.a,nT s.n,oT s.o,bT s.co,bT s.go]
noncomputable def mx (i j:Int):Int:=if j > i then j else i
noncomputable def mn (i j:Int):Int:=if j < i then j else i
noncomputable def yka (b e:Int)(s:ykd):Option yex:=if mx b s.b < mn e s.e then some ⟨mx b s.b - b,mn e s.e - mx b s.b,s.o,s.o.isSome&&decide (s.b < b),s.o.isSome&&decide (s.e > e)⟩ else none
noncomputable def yda (b e:Int)(sps:List ykd):List yex:=sps.filterMap (yka b e)
noncomputable def ym3 (ss:List Sn)(i:Nat):Option Nat:=if isR (ss.getD i (.rest 0)) then none else some i
noncomputable def spn (ss:List Sn)(i:Nat):ykd:=⟨yaW (ss.take i),yaW (ss.take (i+1)),ym3 ss i⟩
noncomputable def yir (ss:List Sn)(n:Nat):List ykd:=(List.range n).map (spn ss)
noncomputable def ycS (ss:List Sn)(l:Int):List ykd:=yir ss ss.length++[⟨yaW ss,l,none⟩]
theorem yfj:ydA (λH x s=>Is H x (spT s)):=λs h=>h.same s
theorem yll:ydA (λH x s=>Is H x (stT s)):=λs h=>h.same s
theorem yiL (ss:List Sn)(i:Nat):yir ss (i+1)=yir ss i++[spn ss i]:=by unfold yir;rw[List.range_succ,List.map_append];rfl
theorem ya7 {α:Type}{l:List α}{i:Nat}{d:α}(h:i < l.length):l.getD i d=l[i]:=by rw[List.getD_eq_getElem?_getD,List.getElem?_eq_getElem h];rfl
theorem ygO {ss:List Sn}{i:Nat}(h:i < ss.length):yaW (ss.take (i+1))=yaW (ss.take i)+snL ss[i]:=by rw[List.take_succ_eq_append_getElem h,ybL,ycj]
noncomputable def yix:Sp:=λvs H Q _=>∃ (x:V) (ss:List Sn) (l:Int),vs=[x,.int l]/\Is H x (vT ss)/\ss.length<=96/\∀ y H',Same H H'->Is (fr H H') y (.ls ((ycS ss l).map spT))->Q y H'
theorem ydM {a:Addr}{xs:List V}{g:TG}{tb:TS}{D:ydh}{σ:St}{H:Hp}(Pv:Nat->St->Hp->Prop)(h0:Pv 0 σ H)(hl:∀ i σ H,i<=xs.length->Pv i σ H->SqL K H a xs)
  (hs:∀ i x σ H p (N:St->Hp->Prop),(∀ σ' H',Pv (i+1) σ' H'->N σ' H')->xs[i]?=some x->Pv i σ H->H p=none->g (.ref p) σ (upd H p (.tup [.int (i:Nat),x])) fun σ2 H2=>tb { D with nx:=N,ct:=N,bk:=D.nx } σ2 H2) (hd:∀ σ H,Pv xs.length σ H->D.nx σ H):ykW (Ite K a) g tb D σ H :=
 ykv Pv h0 hl (λi x σ H p hx pv hp=>hs i x σ H p _ (λ_ _ z=>z) hx pv hp) hd
theorem Iss.ims {H:Hp}:∀ {vs xs:List V},Iss H xs (vs.map Th.im)->xs=vs
 | [],xs,h=>by rw[List.map_nil,Iss] at h;exact h
 | v :: vs,xs,h=>by
  rw[List.map_cons,Iss] at h
  obtain⟨x,r,rfl,i,z⟩:=h
  rw[Is] at i
  rw[i.1,Iss.ims z]
theorem yfm {H:Hp}:∀ {vs:List V},vs.all imV=true->Iss H vs (vs.map Th.im)
 | [],_=>yaV H
 | v :: vs,h=>by
  rw[List.all_cons,Bool.and_eq_true] at h
  exact yav (ybz h.1) (yfm h.2)
theorem Is.sp {H:Hp}{x:V}{s:ykd}(h:Is H x (spT s)):∃ a,x=.ref a/\H a=some (.tup [.int s.b,.int s.e,oV s.o]):=by
 rw[spT,Is] at h
 obtain⟨a,xs,rfl,e,is⟩:=h
 rw[Iss.ims (vs:=[.int s.b,.int s.e,oV s.o]) is] at e
 exact⟨a,rfl,e⟩
theorem yoA {H:Hp}{a:Addr}{s:ykd}(e:H a=some (.tup [.int s.b,.int s.e,oV s.o])):Is H (.ref a) (spT s):=ycV e (yfm (vs:=[.int s.b,.int s.e,oV s.o]) (by show(true&&(true&&(imV (oV s.o)&&true)))=true;rw[ymk];rfl))
theorem yo2 {H:Hp}{a:Addr}{s:yex}(e:H a=some (.tup [.int s.a,.int s.n,oV s.o,.bl s.co,.bl s.go])):Is H (.ref a) (stT s):=ycV e (yfm (vs:=[.int s.a,.int s.n,oV s.o,.bl s.co,.bl s.go]) (by show(true&&(true&&(imV (oV s.o)&&(true&&(true&&true)))))=true;rw[ymk];rfl))
theorem yrE {x:V}{s:Sn}{H:Hp}(h:Is H x (snT s)):∃ a ys,x=.ref a/\H a=some (.tup (.str (if isR s then "rest" else "tones") :: ys))/\(isR s=true->ys[0]?=some (.int (snL s)))/\(isR s=false->ys[1]?=some (.int (snL s))):=by
 cases s with
 | rest n=>obtain⟨a,rfl,ea⟩:=h.rest;exact⟨a,_,rfl,ea,λ_=>rfl,nofun⟩
 | tones ps n wd op cl=>obtain⟨a,y,rfl,ea,_⟩:=h.tones;exact⟨a,_,rfl,ea,nofun,λ_=>rfl⟩
theorem yoE (T:Txt K mg t):FnOk P w K mg base CX0 1 t.f_zad t.d_zad ["sounds","lasts"] yix:=by
 refine T.RP.F.ok sc_zad (λvs H Q E h=>?_) (λ_ _ _ s H vs Q E hr h=>?_)
 ·obtain⟨_,_,_,rfl,_⟩:=h;rfl
 have hu:=ybr hr
 obtain⟨x,ss,l,rfl,ix,len,q⟩:=h
 rw[vT,Is] at ix
 obtain⟨a,xs,rfl,ea,ix⟩:=ix
 have al:=ya4 ix
 refine⟨_,(yae (yar (i:=2) sc_zad.nd rfl (Or.inl rfl) (yaw yab)) (yae (yar (i:=3) sc_zad.nd rfl (Or.inl rfl) yac) (yae (ybs PassesOwn.never rfl (ygK rfl T.Jo (yaa (pv 0) yab)) (yc0 (n:=2) rfl (yaZ (yaq (i:=4) sc_zad.nd rfl (Or.inl rfl)) (yaZ (yaq (i:=5) sc_zad.nd rfl (Or.inl rfl)) ycb))) (yae (yar (i:=6) sc_zad.nd rfl (Or.inl rfl) (yaJ (ycl hu) (yas yap (pv 5) yac (λ_ _=>rfl)) yaN (yau _))) (yae (yar (i:=7) sc_zad.nd rfl (Or.inl rfl) (yaF ya6 (pv 3) (ycg (yaQ (pv 6)) (yas yap (pv 5) yac (λ_ _=>rfl)) (yas yap (pv 5) yac (λ_ _=>rfl))))) (yae (yaH (ybN F.plainAttrs_list F.slot_list_append F.type_list_append yaM (pv 2) (yaa (yay (yaa (pv 3) (yaa (pv 7) (yaa (ycg (yaQ (pv 6)) ybB (pv 4)) yab)))) yab))) (yag (yar (i:=3) sc_zad.nd rfl (Or.inl rfl) (pv 7))))))) (yae (yaH (ybN F.plainAttrs_list F.slot_list_append F.type_list_append yaM (pv 2) (yaa (yay (yaa (pv 3) (yaa (pv 1) (yaa ybB yab)))) yab))) (yag (yao (pv 2))))))),?_⟩
 walk_at ""
 refine⟨Nat.zero_le _,λD hD=>?_⟩
 walk_at ""
 refine⟨a,rfl,⟨_,SqL.of (yaf hD _ _ _ ea)⟩,ydM (xs:=xs) (λi σ H'=>(∃ o1 o2 o3 o4,σ=[some (.ref a),some (.int l),some (.ref D),some (.int (yaW (ss.take i))),o1,o2,o3,o4])/\Acc (λH x s=>Is H x (spT s)) eH H H' D (yir ss i)) ⟨⟨_,_,_,_,rfl⟩,Acc.nil hD⟩ (λi σ H' _ p=>SqL.of (p.2.1 _ _ ea)) ?_ ?_⟩
 ·rintro i x σ H' p N hN hx ⟨⟨o1,o2,o3,o4,rfl⟩,acc⟩ hp
  have hi:i < ss.length:=by have:=(List.getElem?_eq_some_iff.mp hx).1;rw[al.1] at this;exact this
  obtain⟨x',e,rx⟩:=al.2 i hi
  rw[hx] at e
  cases e
  have s1:=yaf hp (.tup [.int (i:Nat),x])
  have acc:=Acc.same (R:=λH x s=>Is H x (spT s)) yfj acc s1
  have sH:=acc.1
  have su:=ygO hi
  have ow:ym3 ss i=if isR ss[i] then none else some i:=by unfold ym3;rw[ya7 hi]
  have ep:upd H' p (.tup [.int (i:Nat),x]) p=some (.tup [.int (i:Nat),x]):=yad
  generalize upd H' p (.tup [.int (i:Nat),x])=G at acc sH ep ⊢
  have su2:spn ss i=⟨yaW (ss.take i),yaW (ss.take i)+snL ss[i],if isR ss[i] then none else some i⟩:=by unfold spn;rw[ow,su]
  generalize ss[i]=sn at rx su su2 ow
  obtain⟨b,ys,rfl,eb,y1,y2⟩:=yrE rx
  have eb':=sH _ _ eb
  refine yhZ (SqT.of ep) ?_
  walk_at ""
  refine yaI (SqT.of eb') (yak (j:=0) rfl) ?_
  walk_at ""
  refine yij ⟨rfl,ybC⟩ ⟨rfl,ybC⟩ (ybz rfl) (ybz rfl) ?_
  have eE:eqT (ycy (.im (.str (if isR sn then "rest" else "tones")))) (ycy (.im (.str "rest")))=isR sn:=by cases isR sn<;>rfl
  rw[eE]
  obtain⟨sm,kv,hd,ak⟩:=acc
  have lk:=ak.1
  have ls:(yir ss i).length=i:=by unfold yir;rw[List.length_map,List.length_range]
  have fin:∀ v:V,v=oV (if isR sn then none else some i)->∀ σ,(∃ o1 o2 o3 o4,σ=[some (.ref a),some (.int l),some (.ref D),some (.int (yaW (ss.take i)+snL sn)),o1,o2,o3,o4])->∀ p2,G p2=none->N σ (upd (upd G p2 (.tup [.int (yaW (ss.take i)),.int (yaW (ss.take i)+snL sn),v])) D (.lst (kv++[.ref p2]))):=λv hv σ hσ p2 hp2=>by
   subst hv
   refine hN _ _ ⟨by rw[su];exact hσ,?_⟩
   rw[yiL,su2]
   have s2:=yaf hp2 (.tup [.int (yaW (ss.take i)),.int (yaW (ss.take i)+snL sn),oV (if isR sn then none else some i)])
   have np:p2≠D:=λz=>by rw[z,hd] at hp2;cases hp2
   exact Acc.put (R:=λH x s=>Is H x (spT s)) yfj hD (sm.trans s2) (ak.imp λ_ _ _ z=>z.same (ya1 s2)) (yoA (yd1 np (sm.free hp2) yad))
  walk_at ""
  cases hR:isR sn with
  | true =>
   refine i_T ?_
   walk_at ""
   refine yaI (SqT.of eb') (yak (j:=1) (y1 hR)) ?_
   walk_at ""
   refine⟨.inl ⟨rfl,_,SqL.of hd⟩,?_⟩
   walk_at ""
   refine⟨by show 3<=sizeLine;decide,λp2 hp2=>?_⟩
   walk_at ""
   have np:p2≠D:=λz=>by rw[z,hd] at hp2;cases hp2
   refine ybQ (by rw[yai np.symm];exact hd) (yat (by omega)) ?_
   walk_at ""
   exact fin .non (by rw[hR];rfl) _ ⟨_,_,_,_,rfl⟩ p2 hp2
  | false =>
   refine i_F ?_
   walk_at ""
   refine yaI (SqT.of eb') (yak (j:=2) (y2 hR)) ?_
   walk_at ""
   refine⟨.inl ⟨rfl,_,SqL.of hd⟩,?_⟩
   walk_at ""
   refine⟨by show 3<=sizeLine;decide,λp2 hp2=>?_⟩
   walk_at ""
   have np:p2≠D:=λz=>by rw[z,hd] at hp2;cases hp2
   refine ybQ (by rw[yai np.symm];exact hd) (yat (by omega)) ?_
   walk_at ""
   exact fin _ (by rw[hR];rfl) _ ⟨_,_,_,_,rfl⟩ p2 hp2
 ·rintro σ H' ⟨⟨o1,o2,o3,o4,rfl⟩,sm,kv,hd,ak⟩
  rw[al.1] at ak
  rw[al.1,List.take_length]
  have lk:=ak.1
  have ls:(yir ss ss.length).length=ss.length:=by unfold yir;rw[List.length_map,List.length_range]
  walk_at ""
  refine⟨.inl ⟨rfl,_,SqL.of hd⟩,?_⟩
  walk_at ""
  refine⟨by show 3<=sizeLine;decide,λp2 hp2=>?_⟩
  walk_at ""
  have np:p2≠D:=λz=>by rw[z,hd] at hp2;cases hp2
  refine ybQ (by rw[yai np.symm];exact hd) (yat (by omega)) ?_
  walk_at ""
  have s2:=yaf hp2 (.tup [.int (yaW ss),.int l,.non])
  obtain⟨sm3,kv3,hd3,ak3⟩:=Acc.put (R:=λH x s=>Is H x (spT s)) (u:=⟨yaW ss,l,none⟩) yfj hD (sm.trans s2) (ak.imp λ_ _ _ z=>z.same (ya1 s2)) (yoA (yd1 (H:=upd H' p2 (.tup [.int (yaW ss),.int l,.non])) np (sm.free hp2) yad))
  exact q _ _ sm3 (ybV (by rw[ybH hD];exact hd3) ((ycY ak3).same ycW))
noncomputable def yj3:Sp:=λvs H Q _=>∃ (b e:Int) (x:V) (sps:List ykd),vs=[.int b,.int e,x]/\Is H x (.ls (sps.map spT))/\sps.length<=100/\∀ y H',Same H H'->Is (fr H H') y (.ls ((yda b e sps).map stT))->Q y H'
theorem yp5 (T:Txt K mg t):FnOk P w K mg base CX0 1 t.f_zo t.d_zo ["begin","end","spans"] yj3:=by
 refine T.zo.F.ok sc_zo (λvs H Q E h=>?_) (λ_ _ _ s H vs Q E hr h=>?_)
 ·obtain⟨_,_,_,_,rfl,_⟩:=h;rfl
 have hu:=ybr hr
 obtain⟨b,e,x,sps,rfl,ix,len,q⟩:=h
 rw[Is] at ix
 obtain⟨a,xs,rfl,ea,ix⟩:=ix
 have al:=ya4 ix
 refine⟨_,(yae (yar (i:=3) sc_zo.nd rfl (Or.inl rfl) (yaw yab)) (yae (ybs PassesOwn.never rfl (yaE (pv 2)) (yaq (i:=4) sc_zo.nd rfl (Or.inl rfl)) (yae (yar (i:=5) sc_zo.nd rfl (Or.inl rfl) (yal (yjo rfl) rfl T.Rn yeR (yaa (pv 0) (yaa (yas yap (pv 4) yac (λ_ _=>rfl)) yab)))) (yae (yar (i:=6) sc_zo.nd rfl (Or.inl rfl) (yal (yfK rfl) rfl T.Rv yhf (yaa (pv 1) (yaa (yas yap (pv 4) yac (λ_ _=>rfl)) yab)))) (yag (yaY (yaz yel (pv 5) (pv 6) (yau _)) (yae (yar (i:=7) sc_zo.nd rfl (Or.inl rfl) (yaJ yfk (yas yap (pv 4) yac (λ_ _=>rfl)) ybB (yau _))) (yae (yar (i:=8) sc_zo.nd rfl (Or.inl rfl) (ya0 (pv 7) (ya5 (yaJ yel (yas yap (pv 4) yac (λ_ _=>rfl)) (pv 0) (yau _))))) (yae (yar (i:=9) sc_zo.nd rfl (Or.inl rfl) (ya0 (pv 7) (ya5 (yaJ yi9 (yas yap (pv 4) yac (λ_ _=>rfl)) (pv 1) (yau _))))) (yag (yaH (ybN F.plainAttrs_list F.slot_list_append F.type_list_append yaM (pv 3) (yaa (yay (yaa (yaF yb2 (pv 5) (pv 0)) (yaa (yaF yb2 (pv 6) (pv 5)) (yaa (yas yap (pv 4) yac (λ_ _=>rfl)) (yaa (pv 8) (yaa (pv 9) yab)))))) yab))))))) yaA))))) (yag (yao (pv 3))))),?_⟩
 walk_at ""
 refine⟨Nat.zero_le _,λD hD=>?_⟩
 walk_at ""
 refine⟨a,rfl,⟨_,SqL.of (yaf hD _ _ _ ea)⟩,ybh (xs:=xs) (λi σ H'=>(∃ o1 o2 o3 o4 o5 o6,σ=[some (.int b),some (.int e),some (.ref a),some (.ref D),o1,o2,o3,o4,o5,o6])/\Acc (λH x s=>Is H x (stT s)) eH H H' D (yda b e (sps.take i))) ⟨⟨_,_,_,_,_,_,rfl⟩,Acc.nil hD⟩ (λi σ H' _ p=>SqL.of (p.2.1 _ _ ea)) ?_ ?_⟩
 ·rintro i x σ H' N hN hx ⟨⟨o1,o2,o3,o4,o5,o6,rfl⟩,sm,kv,hd,ak⟩
  have hi:i < sps.length:=by have:=(List.getElem?_eq_some_iff.mp hx).1;rw[al.1] at this;exact this
  obtain⟨x',e',rx⟩:=al.2 i hi
  rw[hx] at e'
  cases e'
  have tk:yda b e (sps.take (i+1))=yda b e (sps.take i)++(yka b e sps[i]).toList:=by
   unfold yda
   rw[List.take_succ_eq_append_getElem hi,List.filterMap_append]
   cases z:yka b e sps[i]<;>simp[z]
  have lk:kv.length<=i:=by
   rw[ak.1]
   have:=List.length_filterMap_le (yka b e) (sps.take i)
   rw[List.length_take] at this
   unfold yda
   omega
  generalize sps[i]=sp at rx tk
  obtain⟨c,rfl,ec⟩:=rx.sp
  have ec':=sm _ _ ec
  walk_at ""
  refine yaI (SqT.of ec') (yak (j:=0) rfl) (yc8 ⟨_,_,rfl,?_⟩)
  walk_at ""
  refine yaI (SqT.of ec') (yak (j:=1) rfl) (yc8 ⟨_,_,rfl,?_⟩)
  rw[show(if sp.b > b then sp.b else b)=mx b sp.b from rfl,show(if sp.e < e then sp.e else e)=mn e sp.e from rfl]
  walk_at ""
  refine i_d (λh=>?_) λh=>?_
  ·have es:yka b e sp=some ⟨mx b sp.b - b,mn e sp.e - mx b sp.b,sp.o,sp.o.isSome&&decide (sp.b < b),sp.o.isSome&&decide (sp.e > e)⟩:=by unfold yka;rw[if_pos h]
   have nn:(!decide (oV sp.o=V.non))=sp.o.isSome:=by cases sp.o<;>simp[oV]
   have fin:∀ co go,co=(sp.o.isSome&&decide (sp.b < b))->go=(sp.o.isSome&&decide (sp.e > e))->∀ σ,(∃ o1 o2 o3 o4 o5 o6,σ=[some (.int b),some (.int e),some (.ref a),some (.ref D),o1,o2,o3,o4,o5,o6])->∀ p2,H' p2=none->N σ (upd (upd H' p2 (.tup [.int (mx b sp.b - b),.int (mn e sp.e - mx b sp.b),oV sp.o,.bl co,.bl go])) D (.lst (kv++[.ref p2]))):=λco go h1 h2 σ hσ p2 hp2=>by
    subst h1 h2
    refine hN _ _ ⟨hσ,?_⟩
    rw[tk,es]
    have s2:=yaf hp2 (.tup [.int (mx b sp.b - b),.int (mn e sp.e - mx b sp.b),oV sp.o,.bl (sp.o.isSome&&decide (sp.b < b)),.bl (sp.o.isSome&&decide (sp.e > e))])
    have np:p2≠D:=λz=>by rw[z,hd] at hp2;cases hp2
    exact Acc.put (R:=λH x s=>Is H x (stT s)) yll hD (sm.trans s2) (ak.imp λ_ _ _ z=>z.same (ya1 s2)) (yo2 (yd1 np (sm.free hp2) yad))
   walk_at ""
   refine yaI (SqT.of ec') (yak (j:=2) rfl) ?_
   refine⟨rfl,?_⟩
   rw[nn]
   cases ho:sp.o.isSome with
   | true =>
    rw[ho] at fin
    walk_at ""
    refine yaI (SqT.of ec') (yak (j:=0) rfl) ?_
    walk_at ""
    refine yaI (SqT.of ec') (yak (j:=1) rfl) ?_
    walk_at ""
    refine⟨.inl ⟨rfl,_,SqL.of hd⟩,?_⟩
    walk_at ""
    refine yaI (SqT.of ec') (yak (j:=2) rfl) ?_
    walk_at ""
    refine⟨by show 5<=sizeLine;decide,λp2 hp2=>?_⟩
    walk_at ""
    have np:p2≠D:=λz=>by rw[z,hd] at hp2;cases hp2
    refine ybQ (by rw[yai np.symm];exact hd) (yat (by omega)) ?_
    exact fin _ _ (by simp) (by simp) _ ⟨_,_,_,_,_,_,rfl⟩ p2 hp2
   | false =>
    rw[ho] at fin
    walk_at ""
    refine⟨.inl ⟨rfl,_,SqL.of hd⟩,?_⟩
    walk_at ""
    refine yaI (SqT.of ec') (yak (j:=2) rfl) ?_
    walk_at ""
    refine⟨by show 5<=sizeLine;decide,λp2 hp2=>?_⟩
    walk_at ""
    have np:p2≠D:=λz=>by rw[z,hd] at hp2;cases hp2
    refine ybQ (by rw[yai np.symm];exact hd) (yat (by omega)) ?_
    exact fin _ _ (by simp) (by simp) _ ⟨_,_,_,_,_,_,rfl⟩ p2 hp2
  ·have es:yka b e sp=none:=by unfold yka;rw[if_neg h]
   refine ycC (hN _ _ ⟨⟨_,_,_,_,_,_,rfl⟩,?_⟩)
   rw[tk,es]
   exact⟨sm,kv,hd,by rw[show(none:Option yex).toList=[] from rfl,List.append_nil];exact ak⟩
 ·rintro σ H' ⟨⟨o1,o2,o3,o4,o5,o6,rfl⟩,sm,kv,hd,ak⟩
  rw[al.1,List.take_length] at ak
  walk_at ""
  exact q _ _ sm (ybV (by rw[ybH hD];exact hd) ((ycY ak).same ycW))
theorem ymZ {Hs H0 H H':Hp}{D:Addr}{u0:HO}(sm:Same H0 H)(hd:H D=some u0):Same (fr H H') (gp Hs H0 H' D):=λc u e=>by
 obtain⟨n,e⟩:=ybf e
 unfold gp
 rw[yaP (sm.free n),yeS (λz=>by rw[z,hd] at n;cases n)]
 exact e
theorem yb9 {α:Type}{f:α->Th}:ydA (λH x u=>Is H x (f u)):=λs h=>h.same s
section
variable {α:Type}
theorem yk8 {a D:Addr}{xs:List V}{us:List α}{te:TE}{Fin:Hp->Prop}{o:Option V}{r:St}{H:Hp}{R:V->α->Prop}(f:α->Th)(ha:H a=some (.lst xs))(al:Al R xs us)(hD:H D=none)(hz:us.length<=900)
  (hte:∀ x u (H':Hp) (Q':VK),u∈us->Same H H'->R x u->(∀ y H'',Same H' H''->Is (fr H' H'') y (f u)->Q' y H'')->te (some x :: r) H' Q') (fin:∀ H',Same H H'->Is (fr H H') (.ref D) (.ls (us.map f))->Fin H') :
  ∃ W:Nat->Nat->St->Hp->Prop,(∃ m,W 0 m (o :: r) (upd H D (.lst [])))/\ycR (Itl K a) (ybm 0) yei te D Fin W:=by
 refine ybM (xs:=xs) (λi σ' H'=>(∃ o,σ'=o :: r)/\Acc (λH x u=>Is H x (f u)) eH H H' D (us.take i)) ⟨⟨_,rfl⟩,Acc.nil hD⟩ (λ_ _ _ _ h=>SqL.of (h.2.1 _ _ ha)) ?_ ?_
 ·rintro i x σ' H' N hN hx ⟨⟨o,rfl⟩,sm,kv,hd,ak⟩
  have hi:i < us.length:=by have:=(List.getElem?_eq_some_iff.mp hx).1;rw[al.1] at this;exact this
  obtain⟨x',e,rx⟩:=al.2 i hi
  rw[hx] at e
  cases e
  refine ybI (yca (i_T (hte x us[i] H' _ (List.getElem_mem hi) sm rx λy H2 t2 iy=>⟨kv,t2 _ _ hd,?_,hN _ _ ⟨⟨_,rfl⟩,?_⟩⟩)))
  ·rw[ak.1,List.length_take]
   exact yat (by omega)
  ·rw[List.take_succ_eq_append_getElem hi]
   exact Acc.put (R:=λH x u=>Is H x (f u)) yb9 hD (sm.trans t2) (ak.imp λ_ _ _ z=>z.same (ya1 t2)) (iy.same (ymZ sm hd))
 ·rintro σ' H' ⟨_,sm,kv,hd,ak⟩
  rw[al.1,List.take_length] at ak
  exact fin _ sm (ybV (by rw[ybH hD];exact hd) ((ycY ak).same ycW))
theorem yji {lo:Int}{D:Addr}{us:List α}{te:TE}{Fin:Hp->Prop}{o:Option V}{r:St}{H:Hp}(f:α->Th)(hD:H D=none)(hz:us.length<=900)
  (hte:∀ (i:Nat) (h:i < us.length) (H':Hp) (Q':VK),Same H H'->(∀ y H'',Same H' H''->Is (fr H' H'') y (f us[i])->Q' y H'')->te (some (.int (lo+i)) :: r) H' Q') (fin:∀ H',Same H H'->Is (fr H H') (.ref D) (.ls (us.map f))->Fin H') :
  ∃ W:Nat->Nat->St->Hp->Prop,(∃ m,W 0 m (o :: r) (upd H D (.lst [])))/\ycR (Itr lo us.length) (ybm 0) yei te D Fin W:=by
 refine yeG (λi σ' H'=>(∃ o,σ'=o :: r)/\Acc (λH x u=>Is H x (f u)) eH H H' D (us.take i)) ⟨⟨_,rfl⟩,Acc.nil hD⟩ ?_ ?_
 ·rintro i σ' H' hi ⟨⟨o,rfl⟩,sm,kv,hd,ak⟩
  refine ybI (yca (i_T (hte i hi H' _ sm λy H2 t2 iy=>⟨kv,t2 _ _ hd,?_,⟨_,rfl⟩,?_⟩)))
  ·rw[ak.1,List.length_take]
   exact yat (by omega)
  ·rw[List.take_succ_eq_append_getElem hi]
   exact Acc.put (R:=λH x u=>Is H x (f u)) yb9 hD (sm.trans t2) (ak.imp λ_ _ _ z=>z.same (ya1 t2)) (iy.same (ymZ sm hd))
 ·rintro σ' H' ⟨_,sm,kv,hd,ak⟩
  rw[List.take_length] at ak
  exact fin _ sm (ybV (by rw[ybH hD];exact hd) ((ycY ak).same ycW))
end
theorem yos {ta:TA}{cap:List (Option Nat)}{g:TG}{tc:TT}{te:TE}{σ:St}{H:Hp}{Q:VK}(q:ta σ H λvs H1=>∃ i j:Int,vs=[.int i,.int j]/\(-(2 ^ 62)<=i/\i < 2 ^ 62/\-(2 ^ 62)<=j/\j < 2 ^ 62)/\ylh (Itr i (j - i).toNat) cap g tc te σ H1 Q):yfv (ykL ta) cap g tc te σ H Q:=q
noncomputable def yqE (b e:Int)(ss:List Sn)(l:Int):Th:=.ls ((yda b e (ycS ss l)).map stT)
noncomputable def yo8 (fr:List Fr)(vss:List (List Sn))(i:Nat):Th:=.ls (vss.map λss=>yqE (bg fr i) (bg fr (i+1)) ss (bg fr fr.length))
noncomputable def yrJ (fr:List Fr)(vss:List (List Sn)):Th:=.ls ((List.range fr.length).map (yo8 fr vss))
theorem ymw {fr:List Fr}(h:fr≠[]):∃ n,fr.length=n+1/\ygQ fr fr.length=ygQ fr n++[frT (bg fr n) (fr.getD n (⟨0,0,[]⟩,0))]:=by
 cases e:fr.length with
 | zero=>exact(h (List.eq_nil_of_length_eq_zero e)).elim
 | succ n=>exact⟨n,rfl,by rw[yhG (by omega),ya7 (by omega)]⟩
noncomputable def yo5 (t:Ad):Sp:=λvs H Q _=>∃ (x:V) (vss:List (List Sn)) (fr:List Fr) (Hs:Hp),vs=[x]/\Same Hs H/\TuneIs t Hs x vss fr/\yeb vss/\fr≠[]/\fr.length<=24/\(∀ f∈fr,GoodM f.1)/\∀ y H',Same H H'->Is (KT.fr H H') y (yrJ fr vss)->Q y H'
theorem ynW (T:Txt K mg t)(G_zr:FnOk P w K mg base CX0 1 t.f_zr t.d_zr ["self"] (ymI t))(G_zM:FnOk P w K mg base CX0 2 t.f_zM t.d_zM ["metre"] yi5)(G_zU:FnOk P w K mg base CX0 1 t.f_zU t.d_zU ["self"] (ylC t))
  (G_zb:FnOk P w K mg base CX0 3 t.f_zb t.d_zb ["self","voice"] (yiP t)) (G_zad:FnOk P w K mg base CX0 1 t.f_zad t.d_zad ["sounds","lasts"] yix) (G_zo:FnOk P w K mg base CX0 1 t.f_zo t.d_zo ["begin","end","spans"] yj3):FnOk P w K mg base CX0 4 t.f_zat t.d_zat ["tune"] (yo5 t):=by
 refine T.RO.F.ok sc_zat (λvs H Q E h=>?_) (λ_ _ _ s H vs Q E hr h=>?_)
 ·obtain⟨_,_,_,_,rfl,_⟩:=h;rfl
 have hu:=ybr hr
 obtain⟨x,vss,fr,Hs,rfl,sH,tu,gv,nf,lf,gm,q⟩:=h
 obtain⟨a,dx,_,_,_,_,rfl,ea,_⟩:=id tu
 obtain⟨n,en,el⟩:=ymw nf
 have hn:n < fr.length:=by omega
 refine⟨_,(yae (yar (i:=1) sc_zat.nd rfl (Or.inl rfl) (ydG (pv 0) T.Jc T.Rz G_zr (hr.mono (by first | decide | omega)) T.zr.B .nil ydn)) (yae (yar (i:=2) sc_zat.nd rfl (Or.inl rfl) (yas yaL (pv 1) (ycM ybR yac) (λ_ _=>rfl))) (yae (yar (i:=3) sc_zat.nd rfl (Or.inr rfl) (yaF ya6 (yas yap (pv 2) yac (λ_ _=>rfl)) (pcl G_zM hr T.zM (yaa (yas yap (pv 2) yac (λ_ _=>rfl)) yab)))) (yae (ybk (i:=4) sc_zat.nd rfl (Or.inl rfl) (yaB (NB:=["voice","tune","lasts"]) (cap:=[none,some 0,some 3]) rfl) rfl (ygm rfl T.JW (yaa yac (yaa (yaF ya6 (ydG (pv 0) T.Jc T.RF G_zU (hr.mono (by first | decide | omega)) T.zU.B .nil ydn) yac) yab))) (λ_ _ _ _=>(yaq (i:=0) (show List.Nodup (["voice","tune","lasts"]:List Str) by decide) rfl (Or.inl rfl))) (λ_ _ _ _=>yaG) (λ_ _ _ _=>(pcl G_zad hr T.RP (yaa (ymK (pv 1) T.Jc T.RH G_zb (hr.mono (by first | decide | omega)) T.zb.B .nil ydn (yaa (pv 0) yab)) (yaa (pv 2) yab))))) (yae (yar (i:=5) sc_zat.nd rfl (Or.inl rfl) (yaw yab)) (yae (ybs PassesOwn.never rfl (yaE (pv 1)) (yaq (i:=6) sc_zat.nd rfl (Or.inr rfl)) (yae (yar (i:=7) sc_zat.nd rfl (Or.inr rfl) (yaF ya6 (yas yap (pv 6) yac (λ_ _=>rfl)) (pcl G_zM hr T.zM (yaa (yas yap (pv 6) yac (λ_ _=>rfl)) yab)))) (yag (yaH (ybN F.plainAttrs_list F.slot_list_append F.type_list_append yaM (pv 5) (yaa (yaS (yaB (NB:=["spans","frame","end"]) (cap:=[none,some 6,some 7]) rfl) rfl (yaE (pv 4)) (λ_ _ _ _=>(yaq (i:=0) (show List.Nodup (["spans","frame","end"]:List Str) by decide) rfl (Or.inl rfl))) (λ_ _ _ _=>yaG) (λ_ _ _ _=>(pcl G_zo hr T.zo (yaa (yas (show IxR _ (yew K) from yap) (pv 1) yac (λ_ _=>rfl)) (yaa (pv 2) (yaa (pv 0) yab)))))) yab)))))) (yag (yao (pv 5))))))))),?_⟩
 walk_at ""
 refine⟨a,dx,_,rfl,sH _ _ ea,rfl,?_⟩
 walk_at ""
 refine⟨_,vss,fr,Hs,rfl,sH,tu,λy H1 s1 i1=>?_⟩
 rw[ybv,Is] at i1
 obtain⟨l1,ys1,rfl,e1,is1⟩:=i1
 have sH1:=sH.trans s1
 have o1:=ydu sH s1
 have e1':=o1 _ _ e1
 have al1:Al (λz i=>Is H1 z (frT (bg fr i) (fr.getD i (⟨0,0,[]⟩,0)))) ys1 (List.range fr.length):=ya4 (is1.same o1)
 have lr:(List.range fr.length).getLast?=some n:=by rw[en,List.range_succ,List.getLast?_append];rfl
 obtain⟨zs,z,ezs,sz,_⟩:=ybZ al1 lr
 have e1z:=e1'
 rw[ezs] at e1z
 obtain⟨b,mv,rfl,eb,im⟩:=sz.fr
 have gmn:∀ i,i < fr.length->GoodM (fr.getD i (⟨0,0,[]⟩,0)).1:=λi h=>by rw[ya7 h];exact gm _ (List.getElem_mem h)
 have bs:∀ i,i < fr.length->bg fr i+yfB (fr.getD i (⟨0,0,[]⟩,0)).1=bg fr (i+1):=λi h=>by rw[ya7 h,ydl h]
 walk_at ""
 refine ybp (SqL.of e1z) (ybx zs _) ?_
 walk_at ""
 refine yaI (SqT.of eb) (yak (j:=0) rfl) ?_
 walk_at ""
 refine yaI (SqT.of eb) (yak (j:=1) rfl) ?_
 walk_at ""
 refine⟨_,_,rfl,im,gmn n hn,?_⟩
 walk_at ""
 rw[bs n hn,← en]
 refine yos ?_
 walk_at ""
 have tu1:=tu.same sH1
 refine⟨a,dx,_,rfl,sH1 _ _ ea,rfl,?_⟩
 walk_at ""
 refine⟨_,vss,fr,rfl,tu1,?_⟩
 walk_at ""
 have n2:=gv.n2
 refine⟨1,_,rfl,⟨by decide,by decide,by omega,by omega⟩,?_⟩
 rw[show((vss.length:Int)+1 - 1).toNat=vss.length by omega]
 refine λD hD=>yji (λss=>Th.ls ((ycS ss (bg fr fr.length)).map spT)) hD (by omega) (λi h H' Q' sm q'=>?_) λH2 s2 i2=>?_
 ·walk_at ""
  refine⟨a,dx,_,rfl,sH1.trans sm _ _ ea,rfl,?_⟩
  walk_at ""
  refine⟨_,vss,fr,i,h,Hs,by rw[show(1:Int)+(i:Nat)=((i+1:Nat):Int) by omega];rfl,sH1.trans sm,tu,gv,λy H'' t1 iy=>?_⟩
  walk_at ""
  refine⟨y,vss[i],_,rfl,iy.same (ydu (sH1.trans sm) t1),gv.len _ (List.getElem_mem h),λz H3 t2 iz=>q' _ _ (t1.trans t2) (iz.same (ycJ t1))⟩
 rw[Is] at i2
 obtain⟨D',ys2,e,e2,is2⟩:=i2
 cases e
 have al2:=ya4 is2
 have e2':=(ybf e2).2
 have sH2:=sH1.trans s2
 walk_at ""
 refine⟨Nat.zero_le _,λD5 hD5=>?_⟩
 walk_at ""
 have s5:=yaf hD5 (.lst [])
 have e15:=s2 _ _ e1'
 refine⟨l1,rfl,⟨_,SqL.of (s5 _ _ e15)⟩,ybh (xs:=ys1) (λi σ H'=>(∃ o1 o2,σ=[some (.ref a),some (.ref l1),some (.ref b),some (.int (bg fr fr.length)),some (.ref D),some (.ref D5),o1,o2])/\Acc (λH x i=>Is H x (yo8 fr vss i)) eH H2 H' D5 (List.range i)) ⟨⟨_,_,rfl⟩,Acc.nil hD5⟩ (λi σ H' _ p=>SqL.of (p.2.1 _ _ e15)) ?_ ?_⟩
 ·rintro i x σ H' N hN hx ⟨⟨o1,o2,rfl⟩,sm,kv,hd,ak⟩
  have l1':=al1.1
  rw[List.length_range] at l1'
  have hi:i < fr.length:=by have:=(List.getElem?_eq_some_iff.mp hx).1;omega
  obtain⟨x',e,rx⟩:=al1.2 i (by rw[List.length_range];exact hi)
  rw[hx] at e
  cases e
  rw[List.getElem_range] at rx
  obtain⟨c,mv,rfl,ec,im2⟩:=rx.fr
  have s12:=s2.trans sm
  have ec':=s12 _ _ ec
  walk_at ""
  refine yaI (SqT.of ec') (yak (j:=0) rfl) ?_
  walk_at ""
  refine yaI (SqT.of ec') (yak (j:=1) rfl) ?_
  walk_at ""
  refine⟨_,_,rfl,im2.same s12,gmn i hi,?_⟩
  walk_at ""
  rw[bs i hi]
  refine⟨.inl ⟨rfl,_,SqL.of hd⟩,?_⟩
  walk_at ""
  refine⟨D,rfl,⟨_,SqL.of (sm _ _ e2')⟩,λD6 hD6=>yk8 (λss=>yqE (bg fr i) (bg fr (i+1)) ss (bg fr fr.length)) (sm _ _ e2') al2 hD6 (by omega) (λx ss H3 Q' hs t3 rx q'=>?_) λH3 t3 i3=>?_⟩
  ·walk_at ""
   refine yaI (SqT.of (t3 _ _ ec')) (yak (j:=0) rfl) ?_
   walk_at ""
   refine⟨_,_,x,ycS ss _,rfl,rx.same (((yct _ _).trans sm).trans t3),?_,q'⟩
   unfold ycS yir
   rw[List.length_append,List.length_map,List.length_range]
   have:=gv.len ss hs
   simp
   omega
  ·walk_at ""
   have lk:=ak.1
   rw[List.length_range] at lk
   refine ybQ (t3 _ _ hd) (yat (by omega)) (hN _ _ ⟨⟨_,_,rfl⟩,?_⟩)
   rw[List.range_succ]
   exact Acc.put (R:=λH x i=>Is H x (yo8 fr vss i)) yb9 hD5 (sm.trans t3) (ak.imp λ_ _ _ z=>z.same (ya1 t3)) (i3.same (ymZ sm hd))
 ·rintro σ H' ⟨⟨o1,o2,rfl⟩,sm,kv,hd,ak⟩
  have l1':=al1.1
  rw[List.length_range] at l1'
  rw[l1'] at ak
  walk_at ""
  have s12:=s1.trans s2
  exact q _ _ (s12.trans sm) (ybV (by rw[ybH (s12.free hD5)];exact hd) (((ycY ak).same ycW).same (ycJ s12)))
structure Dr (K:PySem.W.Frag) (a tp:Addr) (ns:List Int) (H:Hp) (N:Nat):Prop where
 src:Src K a tp ns H
 sm:ypK ns
 tape:Tape H tp N
section
variable {a tp:Addr} {ns:List Int} {H H':Hp} {N M:Nat}
theorem Same.tt {c:Addr}(s:Same H H'):SameT c H H':=λb u _ e=>s b u e
theorem Dr.same (d:Dr K a tp ns H N)(s:Same H H'):Dr K a tp ns H' N:=⟨d.src.sameT (Same.tt s),d.sm,d.tape.same s⟩
theorem Dr.up (d:Dr K a tp ns H N)(l:N<=M):Dr K a tp ns H M:=⟨d.src,d.sm,d.tape.up l⟩
theorem Dr.some (d:Dr K a tp ns H N):∃ u,H tp=some u:=by obtain⟨n,_,e⟩:=d.tape;exact⟨_,e⟩
theorem Dr.free (d:Dr K a tp ns H' N)(s:SameT tp H H'){p:Addr}(hp:H' p=none):H p=none:=by obtain⟨u,e⟩:=d.some;exact ymS s e hp
theorem Dr.fr (d:Dr K a tp ns H N){H'':Hp}(s:SameT tp H' H''):Same (KT.fr H H') (KT.fr H H''):=by obtain⟨u,e⟩:=d.some;exact ysc e s
theorem ydE (d:Dr K a tp ns H' N)(s:SameT tp H H'){H'':Hp}:Same (KT.fr H' H'') (KT.fr H H''):=λb u h=>by
 obtain⟨n,e⟩:=ybf h
 rw[ybH (d.free s n)]
 exact e
end
theorem yi4 (xs:List V)(k:Nat):ygL xs none (some (k:Int))=xs.take k:=by
 unfold ygL
 rw[HT.sIx_none,HT.sIx_nat,List.drop_zero,Nat.sub_zero]
 rcases Nat.le_total k xs.length with h | h
 ·rw[Nat.min_eq_left h]
 ·rw[Nat.min_eq_right h,List.take_length,List.take_of_length_le h]
noncomputable def yeH (K:PySem.W.Frag):Sp:=λvs H Q _=>∃ (a tp:Addr) (ns:List Int) (N:Nat) (size:Int),vs=[.ref a,.ref tp,.int size]/\Dr K a tp ns H N/\N<=100000/\0 < size/\size<=1000/\∀ (v:Int) (H':Hp),0<=v->v < size->SameT tp H H'->Dr K a tp ns H' (N+1)->Q (.int v) H'
theorem ypU (T:Txt K mg t):FnOk P w K mg base CX0 1 t.f_zQ t.d_zQ ["_law_script","_law_tape","_law_size"] (yeH K):=by
 refine T.zQ.F.ok sc_zQ (λvs H Q E h=>?_) (λ_ _ _ s H vs Q E hr h=>?_)
 ·obtain⟨_,_,_,_,_,rfl,_⟩:=h;rfl
 obtain⟨a,tp,ns,N,size,rfl,⟨sc,sm,⟨n,nl,ht⟩⟩,hN,hs,hs2,q⟩:=h
 have hu:=ybr hr
 refine⟨_,(yae (ylu (yaF ya6 (yas yaL (pv 1) yac (λ_ _=>rfl)) yac) (ylN (pv 1) yac ygW)) (yae (yaY (yaz ycB (yas yaL (pv 1) yac (λ_ _=>rfl)) (yal yaD rfl T.Jj PySem.boot_len (yaa (pv 0) yab)) (yau _)) (yag (yao (yaF yck (yas yaL (pv 0) (yaF yb2 (yas yaL (pv 1) yac (λ_ _=>rfl)) yac) (λ_ _=>rfl)) (pv 2)))) yaA) (yae (yar (i:=3) sc_zQ.nd rfl (Or.inl rfl) (yal yaD rfl T.Jj PySem.boot_len (yaa (pv 0) yab))) (yae (ybs PassesOwn.never rfl (yaE (yc9 yd3 (pv 0) ydP (ydN yac))) (yaq (i:=4) sc_zQ.nd rfl (Or.inl rfl)) (yag (yar (i:=3) sc_zQ.nd rfl (Or.inl rfl) (yaF yck (yaF ya6 (yaF yb0 (pv 3) yac) (pv 4)) yac)))) (yag (yao (yaF yck (yaF yck (yaF yb0 (yaF ya6 (pv 3) yac) (yaF ya6 (yaF yb0 (yas yaL (pv 1) yac (λ_ _=>rfl)) (yas yaL (pv 1) yac (λ_ _=>rfl))) yac)) yac) (pv 2)))))))),?_⟩
 walk_at ""
 refine ybp (SqL.of ht) (yak (j:=0) rfl) ?_
 walk_at ""
 refine⟨tp,_,0,0,rfl,rfl,ht,rfl,?_⟩
 rw[show([V.int (n:Int)]:List V).set 0 (V.int ((n:Int)+1))=[V.int ((n+1:Nat):Int)] by rw[Int.natCast_add];rfl]
 have s2:SameT tp H (upd H tp (.lst [V.int ((n+1:Nat):Int)])):=yhL
 have t2:upd H tp (.lst [V.int ((n+1:Nat):Int)]) tp=some (.lst [V.int ((n+1:Nat):Int)]):=yad
 generalize upd H tp (.lst [V.int ((n+1:Nat):Int)])=H2 at s2 t2 ⊢
 have sq:=(sc.sameT s2).sq
 have dr:Dr K a tp ns H2 (N+1):=⟨sc.sameT s2,sm,n+1,by omega,t2⟩
 have fin:∀ z:Int,0<=z%size/\z%size < size:=λz=>⟨Int.emod_nonneg _ (Int.ne_of_gt hs),Int.emod_lt_of_pos _ hs⟩
 walk_at ""
 refine ybp (SqL.of t2) (yak (j:=0) rfl) ?_
 walk_at ""
 refine⟨a,_,rfl,.inl sq,?_⟩
 walk_at ""
 refine i_d (λh=>?_) λh=>?_
 ·walk_at ""
  refine ybp (SqL.of t2) (yak (j:=0) rfl) ?_
  walk_at ""
  rw[List.length_map] at h
  have hn:n < ns.length:=by omega
  rw[show((n+1:Nat):Int) - 1=(n:Nat) by omega]
  refine ybp sq (yak (j:=n) (v:=.int ns[n]) (by rw[List.getElem?_map,List.getElem?_eq_getElem hn];rfl)) ?_
  walk_at ""
  exact i_I hs (q _ _ (fin _).1 (fin _).2 s2 dr)
 ·walk_at ""
  refine⟨a,_,rfl,.inl sq,?_⟩
  walk_at ""
  refine⟨4,rfl,a,_,rfl,sq,λp hp=>?_⟩
  rw[show(4:Int)=((4:Nat):Int) from rfl,yi4,← List.map_take]
  have s3:=SameT.trans s2 (Same.tt (yaf hp (.lst ((ns.take 4).map V.int))))
  have t3:=yaf hp (.lst ((ns.take 4).map V.int)) _ _ t2
  have dr3:=dr.same (yaf hp (.lst ((ns.take 4).map V.int)))
  have p3:upd H2 p (.lst ((ns.take 4).map V.int)) p=some (.lst ((ns.take 4).map V.int)):=yad
  generalize upd H2 p (.lst ((ns.take 4).map V.int))=H3 at s3 t3 dr3 p3 ⊢
  refine⟨p,rfl,⟨_,SqL.of p3⟩,ybh (xs:=(ns.take 4).map V.int) (λi σ H'=>H'=H3/\∃ (z:Int) (o:Option V),σ=[some (.ref a),some (.ref tp),some (.int size),some (.int z),o]) ⟨rfl,_,_,rfl⟩ (λi σ H' _ p'=>by rw[p'.1];exact SqL.of p3) ?_ ?_⟩
  ·rintro i x σ H' N hN' hx ⟨rfl,z,o,rfl⟩
   rw[List.getElem?_map] at hx
   cases e:(ns.take 4)[i]? with
   | none=>rw[e] at hx;cases hx
   | some c =>
    rw[e] at hx
    cases hx
    walk_at ""
    exact hN' _ _ ⟨rfl,_,_,rfl⟩
  ·rintro σ H' ⟨rfl,z,o,rfl⟩
   walk_at ""
   refine ybp (SqL.of t3) (yak (j:=0) rfl) ?_
   walk_at ""
   refine ybp (SqL.of t3) (yak (j:=0) rfl) ?_
   have b0:((n+1:Nat):Int)*((n+1:Nat):Int)<=100001*100001:=Int.mul_le_mul (by omega) (by omega) (by omega) (by omega)
   have b1:0<=((n+1:Nat):Int)*((n+1:Nat):Int):=Int.mul_nonneg (by omega) (by omega)
   refine yeI (.inl ⟨by omega,by omega⟩) ?_
   walk_at ""
   refine yeI (.inr ⟨by omega,by omega⟩) ?_
   walk_at ""
   exact i_I hs (q _ _ (fin _).1 (fin _).2 s3 dr3)
theorem ycL (H:Hp)(i:Int):Own H (.int i) (.vl (.int i)):=by
 rw[Own]
 exact⟨rfl,rfl⟩
theorem yjn (H:Hp):Owns H [] []:=by rw[Owns]
theorem yhN {H:Hp}{x:V}{r:List V}{t:L2.Tr}{ts:List L2.Tr}(h:Own H x t)(hs:Owns H r ts):Owns H (x :: r) (t :: ts):=by
 rw[Owns]
 exact⟨x,r,rfl,h,hs⟩
noncomputable def ycH (gs:List Int):List L2.Tr:=gs.map λg=>.vl (.int g)
theorem yeF (H:Hp):∀ gs:List Int,Owns H (gs.map V.int) (ycH gs)
 | []=>yjn H
 | g :: gs=>yhN (ycL H g) (yeF H gs)
theorem yc2 {H:Hp}{p:Addr}{gs:List Int}(h:H p=some (.tup (gs.map V.int))):Own H (.ref p) (.tp (ycH gs)):=by
 rw[Own]
 exact⟨p,_,rfl,h,yeF H gs⟩
theorem yet:∀ gs:List Int,deps (ycH gs)=0
 | []=>rfl
 | g :: gs=>by
  show max (dep (.vl (.int g))) (deps (ycH gs))=0
  rw[yet gs]
  rfl
theorem ycX (gs:List Int):dep (.tp (ycH gs))<=60:=by rw[dep,yet];decide
theorem yfi:∀ gs hs:List Int,eqTs (ycH gs) (ycH hs)=decide (gs=hs)
 | [],[]=>rfl
 | [],_ :: _=>by simp[ycH,eqTs]
 | _ :: _,[]=>by simp[ycH,eqTs]
 | g :: gs,h :: hs=>by
  show(eqT (.vl (.int g)) (.vl (.int h))&&eqTs (ycH gs) (ycH hs))=_
  rw[yfi gs hs,eqT]
  by_cases e:g=h
  ·subst e;simp[eqV]
  ·simp[eqV,e]
theorem ybY (n:Nat)(i:Int):(List.replicate n [V.int i]).flatten=(List.replicate n i).map V.int:=by
 induction n with
 | zero=>rfl
 | succ n ih=>rw[List.replicate_succ,List.flatten_cons,ih,List.replicate_succ,List.map_cons];rfl
structure MetreAt (H:Hp) (p g:Addr) (top bot:Int) (gs:List Int):Prop where
 at':H p=some (.tup [.int top,.int bot,.ref g])
 gr:H g=some (.tup (gs.map V.int))
theorem MetreAt.same {H H':Hp}{p g:Addr}{top bot:Int}{gs:List Int}(m:MetreAt H p g top bot gs)(e:Same H H'):MetreAt H' p g top bot gs:=⟨e _ _ m.at',e _ _ m.gr⟩
noncomputable def yax (top bot:Int)(gs:List Int):List Int:=if gs≠[] then gs else if bot≠8∨top=1 then List.replicate top.toNat 1 else if 3 < top/\top%3=0 then List.replicate (top / 3).toNat 3 else if top%2=1 then List.replicate (top / 2 - 1).toNat 2++[3] else List.replicate (top / 2).toNat 2
noncomputable def yjk:Sp:=λvs H Q _=>∃ p g top bot gs,vs=[.ref p]/\MetreAt H p g top bot gs/\(1<=top/\top<=12)/\gs.length<=100/\∀ l H',Same H H'->H l=none->H' l=some (.lst ((yax top bot gs).map V.int))->Q (.ref l) H'
theorem ypB (T:Txt K mg t):FnOk P w K mg base CX0 1 t.f_zK t.d_zK ["metre"] yjk:=by
 refine T.zK.F.ok sc_zK (λvs H Q E h=>?_) (λ_ _ _ s' H vs Q E hr h=>?_)
 ·obtain⟨p,g,top,bot,gs,rfl,_⟩:=h;rfl
 have hu:=ybr hr
 obtain⟨p,g,top,bot,gs,rfl,hm,ht,hl,q⟩:=h
 refine⟨_,(yae (yar (i:=1) sc_zK.nd rfl (Or.inl rfl) (yas yap (pv 0) yac (λ_ _=>rfl))) (yae (yaY (yaz (yc4 hu) (yas yap (pv 0) yac (λ_ _=>rfl)) (yay yab) (yau _)) (yag (yao (ybD ya8 rfl T.Jk ya3 (yaa (yas yap (pv 0) yac (λ_ _=>rfl)) yab)))) yaA) (yae (yaY (PW.pt (ycz (yaz (yc4 hu) (yas yap (pv 0) yac (λ_ _=>rfl)) yac (yau _)) (ybW (yaz ycm (pv 1) yac (yau _))))) (yag (yao (yaF yeD (yaw (yaa yac yab)) (pv 1)))) yaA) (yae (yaY (PW.pt (yd6 (yaz yi9 (pv 1) yac (yau _)) (ydf (yaz ycm (yaF yck (pv 1) yac) yac (yau _))))) (yag (yao (yaF yeD (yaw (yaa yac yab)) (yaF ycO (pv 1) yac)))) yaA) (yae (yaY (yaz ycm (yaF yck (pv 1) yac) yac (yau _)) (yag (yao (yaF ydU (yaF yeD (yaw (yaa yac yab)) (yaF yb2 (yaF ycO (pv 1) yac) yac)) (yaw (yaa yac yab))))) yaA) (yag (yao (yaF yeD (yaw (yaa yac yab)) (yaF ycO (pv 1) yac))))))))),?_⟩
 walk_at "rd"
 have hq:=SqT.of (K:=K) hm.at'
 refine⟨_,hq,_,rfl,_,hq,_,rfl,Nat.zero_le _,λp1 g1=>?_⟩
 have e1:=yaf g1 (HO.tup [])
 refine⟨_,((yc2 hm.gr).same e1).rep,_,(yc2 (gs:=[]) yad).rep,ycX _,ycX _,?_⟩
 have em:eqT (.tp (ycH gs)) (.tp (ycH []))=decide (gs=[]):=by rw[eqT,yfi]
 by_cases hg:gs=[]
 ·rw[if_neg (by rw[em];simp[hg])]
  have hq1:=SqT.of (K:=K) (e1 _ _ hm.at')
  refine⟨_,hq1,_,rfl,_,(ycL _ bot).rep,_,(ycL _ 8).rep,by simp[dep],by simp[dep],?_⟩
  have rep:∀ (n i:Int),0<=n->n<=100->(List.replicate n.toNat i=yax top bot gs)->1<=sizeLine/\∀ p2,(upd H p1 (.tup [])) p2=none->∃ xs,(upd (upd H p1 (.tup [])) p2 (.lst [V.int i])) p2=some (.lst xs)/\-2 ^ 63<=n/\n < 2 ^ 63/\xs.length*n.toNat<=sizeLine/\∀ p3,(upd (upd H p1 (.tup [])) p2 (.lst [V.int i])) p3=none->Q (.ref p3) (upd (upd (upd H p1 (.tup [])) p2 (.lst [V.int i])) p3 (.lst (List.replicate n.toNat xs).flatten)):=by
   intro n i n0 n1 e
   refine⟨by decide,λp2 g2=>⟨_,yad,by omega,by omega,ydi (by show 1*n.toNat<=1000;omega),λp3 g3=>?_⟩⟩
   have s2:=e1.trans (yaf g2 (.lst [V.int i]))
   refine q _ _ (s2.trans (yaf g3 _)) ?_ ?_
   ·cases z:H p3 with
    | none=>rfl
    | some o=>rw[s2 _ _ z] at g3;cases g3
   ·rw[yad,ybY,e]
  simp only[V.int.injEq,exists_eq_left']
  by_cases h8:bot=8
  ·rw[if_neg (by simp[eqT,eqV,h8])]
   refine⟨trivial,ylL (λc1=>?_) (λc1=>ylL (λc3=>ylL (λc4=>?_) (λc4=>ylL (λc5=>?_) (λc5=>?_))) (λc3=>ylL (λc5=>?_) (λc5=>?_)))⟩
   ·exact rep top 1 (by omega) (by omega) (by simp[yax,hg,c1])
   ·refine⟨by decide,λp2 g2=>⟨⟨by decide,by decide⟩,((rep (top / 3) 3 (by omega) (by omega) (by simp[yax,hg,h8,c1,c3,c4])).2 p2 g2)⟩⟩
   ·refine⟨by decide,λp2 g2=>⟨⟨by decide,by decide⟩,_,yad,by omega,by omega,ydi (by show 1*_<=1000;omega),λp3 g3=>⟨by decide,λp4 g4=>⟨_,(yaf g4 _) _ _ yad,_,yad,?_,λp5 g5=>?_⟩⟩⟩⟩
    ·rw[ybY,List.length_map,List.length_replicate];exact ydi (by show _+1<=1000;omega)
    ·have s4:=e1.trans ((yaf g2 (.lst [V.int 2])).trans ((yaf g3 (.lst (List.replicate (top / 2 - 1).toNat [V.int 2]).flatten)).trans (yaf g4 (.lst [V.int 3]))))
     refine q _ _ (s4.trans (yaf g5 _)) ?_ ?_
     ·cases z:H p5 with
      | none=>rfl
      | some o=>rw[s4 _ _ z] at g5;cases g5
     ·rw[yad,ybY,show yax top bot gs=List.replicate (top / 2 - 1).toNat 2++[3] from by simp[yax,hg,h8,c1,c3,c4,c5],List.map_append]
      rfl
   ·refine⟨by decide,λp2 g2=>⟨⟨by decide,by decide⟩,((rep (top / 2) 2 (by omega) (by omega) (by simp[yax,hg,h8,c1,c3,c4,c5])).2 p2 g2)⟩⟩
   ·refine⟨by decide,λp2 g2=>⟨⟨by decide,by decide⟩,_,yad,by omega,by omega,ydi (by show 1*_<=1000;omega),λp3 g3=>⟨by decide,λp4 g4=>⟨_,(yaf g4 _) _ _ yad,_,yad,?_,λp5 g5=>?_⟩⟩⟩⟩
    ·rw[ybY,List.length_map,List.length_replicate];exact ydi (by show _+1<=1000;omega)
    ·have s4:=e1.trans ((yaf g2 (.lst [V.int 2])).trans ((yaf g3 (.lst (List.replicate (top / 2 - 1).toNat [V.int 2]).flatten)).trans (yaf g4 (.lst [V.int 3]))))
     refine q _ _ (s4.trans (yaf g5 _)) ?_ ?_
     ·cases z:H p5 with
      | none=>rfl
      | some o=>rw[s4 _ _ z] at g5;cases g5
     ·rw[yad,ybY,show yax top bot gs=List.replicate (top / 2 - 1).toNat 2++[3] from by simp[yax,hg,h8,c1,c3,c5],List.map_append]
      rfl
   ·refine⟨by decide,λp2 g2=>⟨⟨by decide,by decide⟩,((rep (top / 2) 2 (by omega) (by omega) (by simp[yax,hg,h8,c1,c3,c5])).2 p2 g2)⟩⟩
  ·rw[if_pos (by simp[eqT,eqV,h8])]
   exact rep top 1 (by omega) (by omega) (by simp[yax,hg,h8])
 ·rw[if_pos (by rw[em];simp[hg])]
  have hq1:=SqT.of (K:=K) (e1 _ _ hm.at')
  refine⟨_,hq1,_,rfl,g,rfl,_,.inr (SqT.of (e1 _ _ hm.gr)),λl gl=>q _ _ (e1.trans (yaf gl _)) ?_ ?_⟩
  ·cases z:H l with
   | none=>rfl
   | some o=>rw[e1 _ _ z] at gl;cases gl
  ·rw[yad]
   unfold yax
   rw[if_pos hg]
noncomputable def yej:Stmt:=(yoy 19 1)
noncomputable def ymt:Stmt->PySem.Pos
 | .FunctionDef _ _ _ _ _ _ _ _ _ p=>p
 | _=>⟨0,0,0,0⟩
noncomputable def ypa:Str := "rule_of.<locals>.lengths"
structure Tab (K:PySem.W.Frag) (mg:Str->Option Value) (base:Heap) (cc Tb:Addr):Prop where
 ki:K.In base
 gn:base.Ns mainGlobals mg
 ht:PySem.W.tabIn K "rule_of"=some (cc,Tb)
 C:PySem.W.CodeHd base cc Tb
 B:base.BuiltinsAt mg Tb
 g:mainGlobals≠Tb
noncomputable abbrev TK (H:Hp)(Tb:Addr):Prop:=TabK H Tb (ymt yej) ypa
noncomputable def Len (H:Hp)(fa l:Addr):Prop:=∃ c,FnK H fa "lengths" ypa (ybG yej) (ybi yej) (yah yej) [("units",c)]/\H c=some (holds c (.ref l))
noncomputable def yl0 (Tb:Addr):Sp:=λvs H Q _=>∃ p g top bot gs,vs=[.ref p]/\MetreAt H p g top bot gs/\(1<=top/\top<=12)/\gs.length<=100/\TK H Tb /\
 ∀ fa l H',SameT Tb H H'->TK H' Tb->Len H' fa l->H' l=some (.lst ((yax top bot gs).map V.int))->Q (.ref fa) H'
theorem yrm {P:Program}{w:World}{fs:List Addr}{H H':Hp}{h h':Heap}{c:Addr}{u:HO}(B:Un fs [] H H' h h')(ok:HOk P w H' h')(hc:H' c=none)(hn:h.get? c=none)(new:ObjOk P w (upd H' c u) h' c u):Un fs [] H (upd H' c u) h h'/\HOk P w (upd H' c u) h':=by
 have ne:∀ {b:Addr} {o:Obj},h.get? b=some o->b≠c:=λq z=>by rw[z,hn] at q;cases q
 have ne':∀ {b:Addr} {o:HO},H' b=some o->b≠c:=λq z=>by rw[z,hc] at q;cases q
 refine⟨⟨B.keep,B.slot,λb o g n h1=>by rw[yai (ne g)];exact B.free b o g n h1,B.there,λb xs q=>by have z:=B.tups b xs q;rw[yai (ne' z)];exact z,λb o w' q=>by have z:=B.frzs b o w' q;rw[yai (ne' z)];exact z,λb ps q=>by obtain⟨more,z⟩:=B.tbls b ps q;exact⟨more,by rw[yai (ne' z)];exact z⟩⟩,λb o q=>?_⟩
 by_cases z:b=c
 ·subst z
  rw[yad] at q
  cases q
  exact new
 ·rw[yai z] at q
  exact(ok b o q).stay (λ_ _ _ g=>g) (λd hd=>by rw[yai (ne' hd)];exact hd) (λd xs hd=>by rw[yai (ne' hd)];exact hd)
theorem qn {L f:Addr}{cdv:Value}:qualnameIn (PyProof.Rows.envOfC "rule_of" (yah (top 19)) L f cdv) "lengths" "lengths"=ypa:=by rfl
theorem _root_.L2.CodeK.same {H H':Hp}{c:Addr}{q:Str}(x:CodeK H c q)(e:Same H H'):CodeK H' c q:=by
 obtain⟨o,vs,t,h,r⟩:=x
 exact⟨o,vs,t,e _ _ h,r⟩
theorem _root_.L2.TabK.same {H H':Hp}{T:Addr}{p:PySem.Pos}{q:Str}(x:TabK H T p q)(e:Same H H'):TabK H' T p q:=by
 obtain⟨ps,h,ht,z⟩:=x
 refine⟨ps,e _ _ h,ht,?_⟩
 rcases z with z | ⟨c',n,z1,z2⟩
 ·exact .inl z
 ·exact .inr ⟨c',n,z1,z2.same e⟩
theorem _root_.L2.FnK.same' {H H':Hp}{fa:Addr}{name qual:Str}{params:Arguments}{body:List Stmt}{scope:Scope}{clos:List (Str×Addr)}(F:FnK H fa name qual params body scope clos)(e:Same H H'):FnK H' fa name qual params body scope clos:=by
 obtain⟨doc,pm,c',ctv,e1,ck⟩:=F
 exact⟨doc,pm,c',ctv,e _ _ e1,ck.same e⟩
theorem yjH:ybi (top 19)=[yoy 19 0,yoy 19 1,yoy 19 2]:=by rfl
theorem yn8 {cc Tb:Addr}(T:Txt K mg t)(TB:Tab K mg base cc Tb)(G_zK:FnOk P w K mg base CX0 1 t.f_zK t.d_zK ["metre"] yjk):FnOk P w K mg base CX0 2 t.f_zak t.d_zak ["metre"] (yl0 Tb):=by
 obtain⟨oc,od,kV,doc,pm,an,cdv,ct,osl,e,lk,hcd⟩:=T.RL.F.ex
 rw[e] at lk ⊢
 have hcc:cdv=.ref cc:=by
  have z:=PySem.W.law_code TB.ki TB.gn TB.ht T.RL.M (TB.ki _ _ lk) rfl
  exact z
 refine ynk lk hcd sc_zak (λvs H Q E h=>?_) λA outer s s1 H vs Q E hr h I=>?_
 ·obtain⟨p,g,tp,bot,gs,rfl,_⟩:=h;rfl
 obtain⟨p,g,tp,bot,gs,rfl,hm,ht,hl,tk,q⟩:=h
 rw[yjH]
 refine wpAny_execs_cons (thn (PS.run (D:={ nx:=fun σ1 H1=>∃ l,σ1=[some (.ref p),some (.ref l),none]/\Same H H1/\H1 l=some (.lst ((yax tp bot gs).map V.int)),rt:=λ_ _=>False }) (show PS (ydH CX0 P w K mg base ["metre","units","lengths"] "rule_of" (yah (top 19)) t.f_zak cdv A outer s H E) (yoy 19 0) _ from (yar (i:=1) sc_zak.nd rfl (Or.inr rfl) (pcl G_zK hr T.zK (yaa (pv 0) yab)))) I ?_) λf s2 q2=>?_)
 ·walk_at "rd"
  exact⟨p,g,tp,bot,gs,rfl,hm,ht,hl,λl H1 sm _ e1=>⟨l,rfl,sm,e1⟩⟩
 cases f with
 | ret v=>obtain⟨_,_,_,_,_,z⟩:=q2;exact z.elim
 | brk=>obtain⟨_,_,_,z⟩:=q2;exact z.elim
 | cont=>obtain⟨_,_,_,z⟩:=q2;exact z.elim
 | next =>
  obtain⟨σ1,H1,I1,l,rfl,sm1,e1⟩:=q2
  refine wpAny_execs_cons ?_
  show wpAny _ _ (exec (.FunctionDef "lengths" (ybG yej) (ybi yej) [] none [] (yah yej) none "lengths" (ymt yej)) (PyProof.Rows.envOfC "rule_of" (yah (top 19)) s.heap.objs.size t.f_zak cdv)) _ _ _
  have tk1:TabK H1 Tb (ymt yej) (qualnameIn (PyProof.Rows.envOfC "rule_of" (yah (top 19)) s.heap.objs.size t.f_zak cdv) "lengths" "lengths"):=by rw[qn];exact tk.same sm1
  refine ynm (X:=ydH CX0 P w K mg base ["metre","units","lengths"] "rule_of" (yah (top 19)) t.f_zak cdv A outer s H E) (i:=2) I1 hcc TB.C tk1 TB.B TB.g (λy hy hf=>?_) sc_zak.nd rfl (.inl rfl) (.inl rfl) rfl rfl rfl λfa H2 s3 I2 st tk2 fk nfa=>?_
  ·have hy:y∈[((("unit" : Str),NameKind.cell)),("units",.free)]:=hy
   simp at hy
   rcases hy with rfl | rfl
   ·cases hf
   ·exact⟨_,rfl⟩
  ·have cl:yds (ydH CX0 P w K mg base ["metre","units","lengths"] "rule_of" (yah (top 19)) t.f_zak cdv A outer s H E).env.cells (yah yej).names []=[((("units" : Str),(s.heap.objs.size+1:Addr)))]:=rfl
   have qn':qualnameIn (ydH CX0 P w K mg base ["metre","units","lengths"] "rule_of" (yah (top 19)) t.f_zak cdv A outer s H E).env "lengths" "lengths"=ypa:=qn
   rw[qn'] at tk2 fk
   rw[cl] at fk
   refine wpAny_execs_cons (wpAny_mono (Q:=λfl s4=>∃ u,fl=.ret u/\EP (ydH CX0 P w K mg base ["metre","units","lengths"] "rule_of" (yah (top 19)) t.f_zak cdv A outer s H E) [] [some (.ref p),some (.ref l),some (.ref fa)] (λv H3=>v=.ref fa/\H3=H2) u s4) (wpAny_Return_some (thn (PE.run (pv 2) I2 ⟨_,rfl,rfl,rfl⟩) λv' s4 q4=>⟨v',rfl,q4⟩)) (λfl s4 hs4=>?_) λ_ _ z=>z)
   obtain⟨u,rfl,v,H3,J,rv,rfl,rfl⟩:=hs4
   refine⟨u,rfl,?_⟩
   obtain⟨m,_,hlk⟩:=J.loc
   obtain⟨u1,ru1,lk1⟩:=hlk 1 "units" (.ref l) rfl rfl (.inr (.inl rfl))
   obtain rfl:u1=.ref l:=ru1
   rcases lk1 with ⟨z,_⟩ | ⟨_,c,hc,hcell⟩
   ·cases z
   ·obtain rfl:s.heap.objs.size+1=c:=Option.some.inj hc
    have hn:s.heap.get? (s.heap.objs.size+1)=none:=Heap.get?_none_of_le (Nat.le_succ _)
    obtain⟨un,ok⟩:=yrm (u:=holds (s.heap.objs.size+1) (.ref l)) J.base J.hok (J.freeC "units" _ rfl) hn (ObjOk.holds hcell)
    have sT:SameT Tb H (upd H3 (s.heap.objs.size+1) (holds (s.heap.objs.size+1) (.ref l))):=λb o nb q'=>by
     have z:=st b o nb (sm1 _ _ q')
     rw[yai (yam z (J.freeC "units" _ rfl))]
     exact z
    have s3':=yaf (J.freeC "units" _ rfl) (holds (s.heap.objs.size+1) (.ref l))
    refine⟨.ref fa,_,J.os,J.bare,un,ok,rv,q fa l _ sT (tk2.same s3') ⟨_,fk.same' s3',yad⟩ (s3' _ _ (st _ _ ?_ e1))⟩
    obtain⟨ps,h1,_⟩:=tk1
    exact λz=>by rw[z,h1] at e1;cases e1
noncomputable def yoq:Addr->V->Hp->VK->Prop:=λfa xv H Q=>∃ (u:Int) (l:Addr) (ms:List Int),xv=.int u/\(0<=u/\u<=1000)/\Len H fa l/\H l=some (.lst (ms.map V.int))/\ms.length<=900/\∀ p H',Same H H'->H p=none->H' p=some (.lst ((ms.map (u*·)).map V.int))->Q (.ref p) H'
theorem ykO (T:Txt K mg t):yjY P w K mg base 1 yoq:=by
 refine⟨λA outer s H fa u xv Q E hr e0 ru h=>?_⟩
 obtain⟨i,l,ms,rfl,hi,⟨c,F,hc⟩,hl,hn,q⟩:=h
 have nl:l≠c:=λz=>by rw[z,hc] at hl;cases hl
 refine yiS (k:=0) (x := "unit") (y := "units") (lv:=.ref l) hr e0 F hc rfl ru rfl (by decide) rfl rfl rfl (λdoc pm c' ctv=>.of_eq rfl) (λcd hr2=>⟨_,(yaS (yaB (NB:=["many","unit"]) (cap:=[none,some 0]) rfl) rfl (yaE (pv 1)) (λ_ _ _ _=>(yaq (i:=0) (show List.Nodup (["many","unit"]:List Str) by decide) rfl (Or.inl rfl))) (λ_ _ _ _=>yaG) (λ_ _ _ _=>(yaF yb0 (pv 1) (pv 0)))),?_⟩)
 have hl':hid H c l=some (.lst (ms.map V.int)):=by rw[ycF nl];exact hl
 refine⟨_,rfl,l,rfl,⟨_,SqL.of hl'⟩,λD hD=>yf6 (xs:=ms.map V.int) (λj σ H'=>(∃ o,σ=[o,some (.int i)])/\Same (hid H c) H'/\H' D=some (.lst (((ms.take j).map (i*·)).map V.int))) ⟨⟨_,rfl⟩,yaf hD _,yad⟩ (λj σ H' _ h=>SqL.of (h.2.1 _ _ hl')) ?_ ?_⟩
 ·rintro j x σ H' hx ⟨⟨o,rfl⟩,sm,hd⟩
  have hj:j < ms.length:=by
   have:=(List.getElem?_eq_some_iff.mp hx).1
   simpa using this
  obtain rfl:V.int ms[j]=x:=by
   rw[List.getElem?_map,List.getElem?_eq_getElem hj] at hx
   exact Option.some.inj hx
  walk_at "rd"
  simp only[yei,if_true]
  refine⟨CMul.ok (.inl ⟨by omega,by omega⟩),_,hd,?_,⟨_,rfl⟩,yaT hD sm,?_⟩
  ·rw[List.length_map,List.length_map,List.length_take]
   exact yat (by omega)
  ·have e:ms.take (j+1)=ms.take j++[ms[j]]:=by rw[List.take_add_one,List.getElem?_eq_getElem hj];rfl
   rw[yad,e,List.map_append,List.map_append]
   rfl
 ·rintro σ H' ⟨_,sm,hd⟩ hcn
  have nD:D≠c:=λz=>by rw[z,hcn] at hd;cases hd
  refine q D _ (λb o e=>?_) ((ycF (H:=H) nD).symm.trans hD) ?_
  ·by_cases z:b=c
   ·subst z
    rw[hc] at e
    cases e
    exact yad
   ·rw[yai z]
    exact sm b o (by rw[ycF z];exact e)
  ·rw[yai nD,hd,List.length_map,List.take_length]
noncomputable def yfq (u:Int):List Int->Int->List (Int×Int)
 | [],_=>[]
 | m :: ms,b=>(b,b+u*m) :: yfq u ms (b+u*m)
noncomputable def PairsAt (H:Hp):List V->List (Int×Int)->Prop
 | [],[]=>True
 | r :: rs,(a,b) :: ps=>(∃ q,r=.ref q/\H q=some (.tup [.int a,.int b]))/\PairsAt H rs ps
 | _,_=>False
theorem PairsAt.same {H H':Hp}(e:Same H H'):∀ {rs:List V} {ps:List (Int×Int)},PairsAt H rs ps->PairsAt H' rs ps
 | [],[],_=>trivial
 | r :: rs,(a,b) :: ps,h=>⟨let ⟨q,h1,h2⟩:=h.1;⟨q,h1,e _ _ h2⟩,PairsAt.same e h.2⟩
 | [],_ :: _,h=>h.elim
 | _ :: _,[],h=>h.elim
theorem PairsAt.snoc {H:Hp}{q:Addr}{a b:Int}(e:H q=some (.tup [.int a,.int b])):∀ {rs:List V} {ps:List (Int×Int)},PairsAt H rs ps->PairsAt H (rs++[.ref q]) (ps++[(a,b)])
 | [],[],_=>⟨⟨q,rfl,e⟩,trivial⟩
 | r :: rs,(c,d) :: ps,h=>⟨h.1,PairsAt.snoc e h.2⟩
 | [],_ :: _,h=>h.elim
 | _ :: _,[],h=>h.elim
theorem PairsAt.len {H:Hp}:∀ {rs:List V} {ps:List (Int×Int)},PairsAt H rs ps->rs.length=ps.length
 | [],[],_=>rfl
 | r :: rs,(c,d) :: ps,h=>by rw[List.length_cons,List.length_cons,PairsAt.len h.2]
 | [],_ :: _,h=>h.elim
 | _ :: _,[],h=>h.elim
theorem PairsAt.updL {H:Hp}{l:Addr}{xs ys:List V}(e:H l=some (.lst xs)):∀ {rs:List V} {ps:List (Int×Int)},PairsAt H rs ps->PairsAt (upd H l (.lst ys)) rs ps
 | [],[],_=>trivial
 | r :: rs,(a,b) :: ps,h=>⟨let ⟨q,h1,h2⟩:=h.1;⟨q,h1,by rw[yai (λz=>by rw[z,e] at h2;cases h2)];exact h2⟩,PairsAt.updL e h.2⟩
 | [],_ :: _,h=>h.elim
 | _ :: _,[],h=>h.elim
theorem _root_.L2.TabK.updL {H:Hp}{T l:Addr}{p:PySem.Pos}{q:Str}{xs ys:List V}(x:TabK H T p q)(e:H l=some (.lst xs)):TabK (upd H l (.lst ys)) T p q:=by
 obtain⟨ps,h,ht,z⟩:=x
 refine⟨ps,by rw[yai (λz=>by rw[z,e] at h;cases h)];exact h,ht,?_⟩
 rcases z with z | ⟨c',n,z1,o,vs,t,z2,r⟩
 ·exact .inl z
 ·exact .inr ⟨c',n,z1,o,vs,t,by rw[yai (λz=>by rw[z,e] at z2;cases z2)];exact z2,r⟩
theorem ycf (u:Int):∀ (ms:List Int) (b:Int),(yfq u ms b).length=ms.length
 | [],_=>rfl
 | m :: ms,b=>by rw[yfq,List.length_cons,List.length_cons,ycf]
noncomputable def BeatsAt (H:Hp)(l:Addr)(ps:List (Int×Int)):Prop:=∃ rs,H l=some (.lst rs)/\PairsAt H rs ps
theorem ydL (u:Int):∀ (ms:List Int) (b:Int) (j:Nat) (hj:j < ms.length),yfq u (ms.take (j+1)) b=yfq u (ms.take j) b++[(b+u*(ms.take j).sum,b+u*(ms.take j).sum+u*ms[j])]
 | m :: ms,b,0,_=>by simp[yfq]
 | m :: ms,b,j+1,hj=>by
  have ih:=ydL u ms (b+u*m) j (by simpa using hj)
  rw[List.take_succ_cons,yfq,ih,List.take_succ_cons,yfq,List.sum_cons,List.getElem_cons_succ,List.cons_append,Int.mul_add,← Int.add_assoc]
theorem yed (ms:List Int)(j:Nat)(hj:j < ms.length):(ms.take (j+1)).sum=(ms.take j).sum+ms[j]:=by
 rw[List.take_add_one,List.getElem?_eq_getElem hj,List.sum_append]
 simp
noncomputable def yiF (Tb:Addr):Sp:=λvs H Q _=>∃ p g tp bot gs,vs=[.ref p]/\MetreAt H p g tp bot gs/\(1<=tp/\tp<=12)/\(0 < bot/\bot<=8)/\gs.length<=100/\TK H Tb /\
 ∀ l H',SameT Tb H H'->TK H' Tb->H l=none->BeatsAt H' l (yfq (96 / bot) (yax tp bot gs) 0)->Q (.ref l) H'
theorem ycp {tp bot:Int}{gs:List Int}(ht:1<=tp/\tp<=12)(hg:gs.length<=100):(yax tp bot gs).length<=100:=by
 unfold yax
 split
 ·exact hg
 ·split
  ·rw[List.length_replicate];omega
  ·split
   ·rw[List.length_replicate];omega
   ·split
    ·rw[List.length_append,List.length_replicate,List.length_singleton];omega
    ·rw[List.length_replicate];omega
theorem yo6 {Tb:Addr}(T:Txt K mg t)(G_zak:FnOk P w K mg base CX0 2 t.f_zak t.d_zak ["metre"] (yl0 Tb))(G_zy:FnOk P w K mg base CX0 1 t.f_zy t.d_zy ["bottom"] yhk)(C_rule:yjY P w K mg base 1 yoq):FnOk P w K mg base CX0 3 t.f_zao t.d_zao ["metre"] (yiF Tb):=by
 refine T.RX.F.ok sc_zao (λvs H Q E h=>?_) (λ_ _ _ s' H vs Q E hr h=>?_)
 ·obtain⟨p,g,tp,bot,gs,rfl,_⟩:=h;rfl
 obtain⟨p,g,tp,bot,gs,rfl,hm,ht,hb,hl,tk,q⟩:=h
 refine⟨_,(yae (yar (i:=1) sc_zao.nd rfl (Or.inl rfl) (pcl G_zak hr T.RL (yaa (pv 0) yab))) (yae (yar (i:=2) sc_zao.nd rfl (Or.inl rfl) (yaw yab)) (yae (yar (i:=3) sc_zao.nd rfl (Or.inl rfl) yac) (yae (ybs PassesOwn.never rfl (yaE (ykr (i:=1) C_rule (hr.mono (by decide)) rfl (yaa (pcl G_zy hr T.zy (yaa (yas yap (pv 0) yac (λ_ _=>rfl)) yab)) yab))) (yaq (i:=4) sc_zao.nd rfl (Or.inl rfl)) (yae (yaH (ybN F.plainAttrs_list F.slot_list_append F.type_list_append yaM (pv 2) (yaa (yay (yaa (pv 3) (yaa (yaF ya6 (pv 3) (pv 4)) yab))) yab))) (yag (ylw (i:=3) sc_zao.nd rfl (Or.inl rfl) (pv 4) ylT)))) (yag (yao (pv 2))))))),?_⟩
 refine⟨_,rfl,p,g,tp,bot,gs,rfl,hm,ht,hl,tk,λfa l H1 s1 tk1 ln e1=>?_⟩
 refine⟨Nat.zero_le _,λpp gp=>?_⟩
 walk_at "rd"
 obtain⟨ps0,hTb,_⟩:=id tk
 obtain⟨ps1,hTb1,_⟩:=id tk1
 have m1:MetreAt H1 p g tp bot gs:=⟨s1 _ _ (λz=>by have:=hm.at';rw[z,hTb] at this;cases this) hm.at',s1 _ _ (λz=>by have:=hm.gr;rw[z,hTb] at this;cases this) hm.gr⟩
 have n1:=yaf gp (HO.lst [])
 have m2:=m1.same n1
 have ln2:Len (upd H1 pp (.lst [])) fa l:=let ⟨c,F,hc⟩:=ln;⟨c,F.same' n1,n1 _ _ hc⟩
 have fn2:ylm (upd H1 pp (.lst [])) fa:=let ⟨_,F,_⟩:=ln2;F.isFn
 have ul:=ycp (bot:=bot) ht hl
 have hu:0<=96 / bot/\96 / bot<=96:=⟨Int.ediv_nonneg (by omega) (by omega),Int.le_trans (Int.ediv_le_self _ (by omega)) (by omega)⟩
 have nH:H pp=none:=by
  cases z:H pp with
  | none=>rfl
  | some o =>
   have:=s1 _ _ (λz2=>by rw[z2,hTb1] at gp;cases gp) z
   rw[gp] at this
   cases this
 have ep:∀ {H':Hp},Same (upd H1 pp (.lst [])) H'->H' pp=some (.lst []):=λe=>e _ _ yad
 refine⟨fa,rfl,fn2,_,rfl,p,_,_,_,rfl,rfl,SqT.of m2.at',rfl,bot,rfl,hb.1,hb.2,_,rfl,fn2,96 / bot,l,yax tp bot gs,rfl,⟨hu.1,by omega⟩,ln2,n1 _ _ e1,by omega,λpl H3 s3 gpl el=>⟨pl,rfl,⟨_,SqL.of el⟩,yg3 (xs:=((yax tp bot gs).map ((96 / bot)*·)).map V.int)
  (λj σ H'=>(∃ x4,σ=[some (.ref p),some (.ref fa),some (.ref pp),some (.int ((96 / bot)*((yax tp bot gs).take j).sum)),x4])/\SameT Tb H H'/\TK H' Tb/\H' pl=some (.lst (((yax tp bot gs).map ((96 / bot)*·)).map V.int))/\BeatsAt H' pp (yfq (96 / bot) ((yax tp bot gs).take j) 0)) ⟨⟨none,by simp⟩,s1.trans (n1.t.trans s3.t),(tk1.same n1).same s3,el,[],ep s3,trivial⟩ (λj σ H' _ h=>SqL.of h.2.2.2.1) ?_ ?_⟩⟩
 ·rintro j x σ H' hx ⟨⟨x4,rfl⟩,st,tk',el',rs,hrs,hps⟩
  have hj:j < (yax tp bot gs).length:=by
   have:=(List.getElem?_eq_some_iff.mp hx).1
   simpa using this
  obtain rfl:V.int ((96 / bot)*(yax tp bot gs)[j])=x:=by
   rw[List.getElem?_map,List.getElem?_map,List.getElem?_eq_getElem hj] at hx
   exact Option.some.inj hx
  walk_at "rd"
  have nl:pl≠pp:=λz=>by rw[z,yad] at gpl;cases gpl
  have rl:rs.length=j:=by rw[hps.len,ycf,List.length_take];omega
  refine⟨.inl ⟨rfl,_,SqL.of hrs⟩,by decide,λpt gt=>⟨rs,(yaf gt _) _ _ hrs,by rw[rl];exact yat (by omega),?_,?_,?_,?_,?_⟩⟩
  ·rw[yed _ _ hj,Int.mul_add]
  ·intro b o nb e
   rw[yai (yam e nH)]
   exact(yaf gt _) _ _ (st b o nb e)
  ·exact(tk'.same (yaf gt _)).updL ((yaf gt _) _ _ hrs)
  ·rw[yai nl]
   exact(yaf gt _) _ _ el'
  ·refine⟨_,yad,?_⟩
   rw[ydL _ _ _ _ hj]
   refine PairsAt.snoc ?_ ((hps.same (yaf gt _)).updL ((yaf gt _) _ _ hrs))
   have npt:pt≠pp:=λz=>by rw[z,hrs] at gt;cases gt
   rw[yai npt,yad]
   simp
 ·rintro σ H' ⟨⟨x4,rfl⟩,st,tk',el',bt⟩
  rw[List.length_map,List.length_map,List.take_length] at bt
  exact⟨_,rfl,q pp H' st tk' nH bt⟩
theorem ycI {a D:Addr}{ps:List Int}{tc:TT}{te:TE}{Fin:Hp->Prop}{o:Option V}{r:St}{H:Hp}(c:Int->Bool)(f:Int->V)(ha:H a=some (.lst (ps.map V.int)))(hD:H D=none)(hz:ps.length<=900)
  (htc:∀ p (H':Hp) (Q':Bool->Hp->Prop),Same H H'->Q' (c p) H'->tc (some (.int p) :: r) H' Q') (hte:∀ p (H':Hp) (Q':VK),Same H H'->Q' (f p) H'->te (some (.int p) :: r) H' Q')
  (fin:∀ H',Same H H'->H' D=some (.lst ((ps.filter c).map f))->Fin H') :
  ∃ W:Nat->Nat->St->Hp->Prop,(∃ m,W 0 m (o :: r) (upd H D (.lst [])))/\ycR (Itl K a) (ybm 0) tc te D Fin W:=by
 refine ybM (xs:=ps.map V.int) (λi σ' H'=>(∃ o,σ'=o :: r)/\Same H H'/\H' D=some (.lst (((ps.take i).filter c).map f))) ⟨⟨_,rfl⟩,yaf hD _,yad⟩ (λ_ _ _ _ h=>SqL.of (h.2.1 _ _ ha)) ?_ ?_
 ·rintro i x σ' H' N hN hx ⟨⟨o,rfl⟩,sm,hd⟩
  rw[List.getElem?_map] at hx
  obtain⟨p,hp,rfl⟩:=Option.map_eq_some_iff.mp hx
  obtain⟨hi,ep⟩:=List.getElem?_eq_some_iff.mp hp
  have tk:(ps.take (i+1)).filter c=(ps.take i).filter c++if c p then [p] else []:=by
   rw[List.take_succ_eq_append_getElem hi,List.filter_append,ep]
   by_cases h:c p<;>simp[h]
  refine htc p H' _ sm ?_
  refine i_b (λh=>?_) λh=>?_
  ·refine hte p H' _ sm ⟨_,hd,?_,hN _ _ ⟨⟨_,rfl⟩,yaT hD sm,?_⟩⟩
   ·rw[List.length_map]
    have l2:=List.length_filter_le c (ps.take i)
    rw[List.length_take] at l2
    exact yat (by omega)
   ·rw[yad,tk,if_pos h,List.map_append]
    rfl
  ·refine hN _ _ ⟨⟨_,rfl⟩,sm,?_⟩
   rw[hd,tk,if_neg (by simp[h]),List.append_nil]
 ·rintro σ' H' ⟨_,sm,hd⟩
  rw[List.length_map,List.take_length] at hd
  exact fin H' sm hd
theorem ynr {a b c:Int}{ta tb tc:TE}{σ:St}{H:Hp}{Q:VK}(ha:∀ Q':VK,Q' (.int a) H->ta σ H Q')(hb:∀ Q':VK,Q' (.int b) H->tb σ H Q')(hc:∀ Q':VK,Q' (.int c) H->tc σ H Q')(q:Q (.bl (decide (a < b/\b < c))) H) :
  ygq (rI0 λi j=>V.bl (decide (i < j))) (rI0 λi j=>V.bl (decide (i < j))) ta tb tc σ H Q:=by
 refine ha _ (hb _ (ync (ya2 ?_)))
 by_cases h:a < b
 ·rw[if_pos (by simpa using h)]
  refine hc _ (ync ?_)
  rw[show decide (b < c)=decide (a < b/\b < c) by simp[h]]
  exact q
 ·rw[if_neg (by simpa using h)]
  rw[show decide (a < b/\b < c)=false by simp[h]] at q
  first | exact q | (rw[show decide (a < b)=false by simp[h]];exact q)
noncomputable def inB (b e:Int)(ps:List Int):List Int:=ps.filter λp=>decide (b < p/\p < e)
noncomputable def ydy (b e:Int)(ps:List Int):Option Bool:=if (inB b e ps).all (λp=>decide (p%3=0)) then some false else if (e - b=12∨e - b=24∨e - b=48)/\(inB b e ps).all (λp=>decide ((p - b)%2=0))=true then some true else none
noncomputable def obV:Option Bool->V
 | none=>.non
 | some b=>.bl b
noncomputable def yiV:Sp:=λvs H Q _=>∃ (b e:Int) (a:Addr) (ps:List Int),vs=[.int b,.int e,.ref a]/\H a=some (.lst (ps.map V.int))/\ps.length<=800/\∀ H',Same H H'->Q (obV (ydy b e ps)) H'
theorem yoP (T:Txt K mg t):FnOk P w K mg base CX0 1 t.f_zag t.d_zag ["begin","end","places"] yiV:=by
 refine T.RY.F.ok sc_zag (λvs H Q E h=>?_) (λ_ _ _ s H vs Q E hr h=>?_)
 ·obtain⟨_,_,_,_,rfl,_⟩:=h;rfl
 have hu:=ybr hr
 obtain⟨b,e,a,ps,rfl,ea,hl,q⟩:=h
 have hl2:(inB b e ps).length<=900:=Nat.le_trans (List.length_filter_le _ _) (by omega)
 refine⟨_,(yae (ybk (i:=3) sc_zag.nd rfl (Or.inl rfl) (yaB (NB:=["place","begin","end"]) (cap:=[none,some 0,some 1]) rfl) rfl (yaE (pv 2)) (λ_ _ _ _=>(yaq (i:=0) (show List.Nodup (["place","begin","end"]:List Str) by decide) rfl (Or.inl rfl))) (λ_ _ _ _=>(ydI (yeU yel yel (pv 1) (pv 0) (pv 2)))) (λ_ _ _ _=>(pv 0))) (yae (yaY (yaQ (yal (ybK rfl) rfl T.JV ybJ (yaa (yaS (yaB (NB:=["place"]) (cap:=[none]) rfl) rfl (yaE (pv 3)) (λ_ _ _ _=>(yaq (i:=0) (show List.Nodup (["place"]:List Str) by decide) rfl (Or.inl rfl))) (λ_ _ _ _=>yaG) (λ_ _ _ _=>(yaJ ycm (yaF yck (pv 0) yac) yac (yau _)))) yab))) (yag (yao ybt)) yaA) (yae (yar (i:=4) sc_zag.nd rfl (Or.inl rfl) (ya0 (yaJ yc1 (yaF yb2 (pv 1) (pv 0)) (ynl rfl T.JI) rfl) (ya5 (yal (ybK rfl) rfl T.JV ybJ (yaa (yaS (yaB (NB:=["place","begin"]) (cap:=[none,some 0]) rfl) rfl (yaE (pv 3)) (λ_ _ _ _=>(yaq (i:=0) (show List.Nodup (["place","begin"]:List Str) by decide) rfl (Or.inl rfl))) (λ_ _ _ _=>yaG) (λ_ _ _ _=>(yaJ ycm (yaF yck (yaF yb2 (pv 0) (pv 1)) yac) yac (yau _)))) yab))))) (yag (yao (ycg (yaQ (pv 4)) ybt ybB)))))),?_⟩
 walk_at ""
 refine⟨a,rfl,⟨_,SqL.of ea⟩,λD hD=>ycI (λp=>decide (b < p/\p < e)) V.int ea hD (by omega) (λp H' Q' _ q'=>ynr (iv 1 rfl) (iv 0 rfl) (iv 2 rfl) (ya2 q')) (λp H' Q' _ q'=>iv 0 rfl _ q') λH1 s1 e1=>?_⟩
 walk_at ""
 refine⟨D,rfl,⟨_,SqL.of e1⟩,λD2 hD2=>ycI (ps:=inB b e ps) (λ_=>true) (λp=>.bl (decide (p%3=0))) e1 hD2 hl2 (λp H' Q' _ q'=>yca q') (λp H' Q' _ q'=>?_) λH2 s2 e2=>?_⟩
 ·walk_at ""
  exact q'
 ·rw[show(inB b e ps).filter (λ_=>true)=inB b e ps by simp] at e2
  refine⟨D2,(inB b e ps).map λp=>decide (p%3=0),rfl,SqL.of (by rw[e2,List.map_map];rfl),ya2 ?_⟩
  have ea3:((inB b e ps).map λp=>decide (p%3=0)).all id=(inB b e ps).all λp=>decide (p%3=0):=by rw[List.all_map];rfl
  rw[ea3]
  refine i_b (λh=>?_) λh=>?_
  ·have z:=q H2 (s1.trans s2)
   rw[ydy,if_pos h] at z
   exact z
  ·have tr:ydy b e ps=if (e - b=12∨e - b=24∨e - b=48)/\(inB b e ps).all (λp=>decide ((p - b)%2=0))=true then some true else none:=by rw[ydy,if_neg (by simp[h])]
   rw[tr] at q
   walk_at ""
   have ev:inV (.int (e - b)) [.int 12,.int 24,.int 48]=decide (e - b=12∨e - b=24∨e - b=48):=by
    rw[Bool.eq_iff_iff]
    simp only[inV,List.any_cons,List.any_nil,eqV,Bool.or_eq_true,decide_eq_true_eq,beq_iff_eq,Bool.or_false]
    omega
   refine⟨_,_,rfl,.inr (T.JJ.sq H2),rfl,rfl,ya2 ?_⟩
   simp only[Bool.false_eq_true,if_false]
   rw[ev]
   refine i_d (λh3=>?_) λh3=>?_
   ·walk_at ""
    refine⟨D,rfl,⟨_,SqL.of (s2 _ _ e1)⟩,λD3 hD3=>ycI (ps:=inB b e ps) (λ_=>true) (λp=>.bl (decide ((p - b)%2=0))) (s2 _ _ e1) hD3 hl2 (λp H' Q' _ q'=>yca q') (λp H' Q' _ q'=>?_) λH3 s3 e3=>?_⟩
    ·walk_at ""
     exact q'
    ·rw[show(inB b e ps).filter (λ_=>true)=inB b e ps by simp] at e3
     refine⟨D3,(inB b e ps).map λp=>decide ((p - b)%2=0),rfl,SqL.of (by rw[e3,List.map_map];rfl),?_⟩
     rw[show((inB b e ps).map λp=>decide ((p - b)%2=0)).all id=(inB b e ps).all λp=>decide ((p - b)%2=0) by rw[List.all_map];rfl]
     have z:=q H3 ((s1.trans s2).trans s3)
     walk_at ""
     refine i_b (λh4=>?_) λh4=>?_
     ·rw[if_pos ⟨h3,h4⟩] at z
      exact z
     ·rw[if_neg (λy=>by rw[y.2] at h4;cases h4)] at z
      exact z
   ·have z:=q H2 (s1.trans s2)
    rw[if_neg (λy=>h3 y.1)] at z
    walk_at ""
    exact z
noncomputable def ynE (H:Hp)(x:V)(u:Int×Int):Prop:=∃ q r,x=.ref q/\H q=some (.tup (.int u.1 :: .int u.2 :: r))
noncomputable def yaK (us:List (Int×Int)):List Int:=us.map (·.1)++us.map λu=>u.1+u.2
noncomputable def ybq (bs:List (Int×Int))(ps:List Int):List (Option Bool):=bs.map λb=>ydy b.1 b.2 ps
theorem yg7 {H:Hp}:∀ {rs:List V} {ps:List (Int×Int)},PairsAt H rs ps->Al (ynE H) rs ps
 | [],[],_=>Al.nil
 | [],_ :: _,h=>h.elim
 | _ :: _,[],h=>by
  unfold PairsAt at h
  exact h.elim
 | r :: rs,(a,b) :: ps,h=>by
  obtain⟨⟨q,e,eq⟩,h2⟩:=h
  obtain⟨l,al⟩:=yg7 h2
  refine⟨by simp[l],λi hi=>?_⟩
  cases i with
  | zero=>exact⟨r,rfl,q,[],e,eq⟩
  | succ n=>exact al n (by simpa using hi)
noncomputable def yfl:Sp:=λvs H Q _=>∃ (a c:Addr) (xs ys:List V) (us bs:List (Int×Int)),vs=[.ref a,.ref c]/\H a=some (.lst xs)/\Al (ynE H) xs us/\H c=some (.lst ys)/\Al (ynE H) ys bs/\us.length<=400/\bs.length<=400 /\
 ∀ y H',Same H H'->(none∈ybq bs (yaK us)/\y=.non∨none∉ybq bs (yaK us)/\∃ D,y=.ref D/\H D=none/\H' D=some (.lst ((ybq bs (yaK us)).map obV)))->Q y H'
theorem yqV (T:Txt K mg t)(G_zag:FnOk P w K mg base CX0 1 t.f_zag t.d_zag ["begin","end","places"] yiV):FnOk P w K mg base CX0 2 t.f_zT t.d_zT ["stretches","beats"] yfl:=by
 refine T.zT.F.ok sc_zT (λvs H Q E h=>?_) (λ_ _ _ s H vs Q E hr h=>?_)
 ·obtain⟨_,_,_,_,_,_,rfl,_⟩:=h;rfl
 have hu:=ybr hr
 obtain⟨a,c,xs,ys,us,bs,rfl,ea,au,ec,ab,lu,lb,q⟩:=h
 refine⟨_,(yae (yar (i:=2) sc_zT.nd rfl (Or.inr rfl) (yaF ydU (yaS (yaB (NB:=["stretch"]) (cap:=[none]) rfl) rfl (yaE (pv 0)) (λ_ _ _ _=>(yaq (i:=0) (show List.Nodup (["stretch"]:List Str) by decide) rfl (Or.inl rfl))) (λ_ _ _ _=>yaG) (λ_ _ _ _=>(yas (show IxR _ (yew K) from yap) (pv 0) yac (λ_ _=>rfl)))) (yaS (yaB (NB:=["stretch"]) (cap:=[none]) rfl) rfl (yaE (pv 0)) (λ_ _ _ _=>(yaq (i:=0) (show List.Nodup (["stretch"]:List Str) by decide) rfl (Or.inl rfl))) (λ_ _ _ _=>yaG) (λ_ _ _ _=>(yaF ya6 (yas (show IxR _ (yew K) from yap) (pv 0) yac (λ_ _=>rfl)) (yas (show IxR _ (yew K) from yap) (pv 0) yac (λ_ _=>rfl))))))) (yae (ybk (i:=3) sc_zT.nd rfl (Or.inl rfl) (yaB (NB:=["beat","places"]) (cap:=[none,some 2]) rfl) rfl (yaE (pv 1)) (λ_ _ _ _=>(yaq (i:=0) (show List.Nodup (["beat","places"]:List Str) by decide) rfl (Or.inl rfl))) (λ_ _ _ _=>yaG) (λ_ _ _ _=>(pcl G_zag hr T.RY (yaa (yas (show IxR _ (yew K) from yap) (pv 0) yac (λ_ _=>rfl)) (yaa (yas (show IxR _ (yew K) from yap) (pv 0) yac (λ_ _=>rfl)) (yaa (pv 1) yab)))))) (yag (yao (ycg (yaz yc1 ybB (pv 3) rfl) ybB (pv 3)))))),?_⟩
 walk_at ""
 refine⟨a,rfl,⟨_,SqL.of ea⟩,λD1 h1=>ybb (λu:Int×Int=>.int u.1) ea au h1 (by omega) (λx u H' Q' _ sm ⟨z,r,ez,eq⟩ q'=>?_) λH1 s1 e1=>?_⟩
 ·subst ez
  walk_at ""
  exact yaI (SqT.of (sm _ _ eq)) (yak (j:=0) rfl) (q' _ (Same.refl _))
 walk_at ""
 refine⟨a,rfl,⟨_,SqL.of (s1 _ _ ea)⟩,λD2 h2=>ybb (λu:Int×Int=>.int (u.1+u.2)) (s1 _ _ ea) au h2 (by omega) (λx u H' Q' _ sm ⟨z,r,ez,eq⟩ q'=>?_) λH2 s2 e2=>?_⟩
 ·subst ez
  walk_at ""
  refine yaI (SqT.of (sm _ _ (s1 _ _ eq))) (yak (j:=0) rfl) ?_
  walk_at ""
  refine yaI (SqT.of (sm _ _ (s1 _ _ eq))) (yak (j:=1) rfl) ?_
  walk_at ""
  exact q' _ (Same.refl _)
 walk_at ""
 have s12:=s1.trans s2
 have lub:(yaK us).length<=800:=by simp[yaK];omega
 refine⟨D1,D2,us.map (λu=>V.int u.1),us.map (λu=>V.int (u.1+u.2)),rfl,rfl,s2 _ _ e1,e2,by simp only[List.length_map];exact ydi (by show _<=1000;omega),λD3 h3=>?_⟩
 have s3:=yaf h3 (.lst (us.map (λu=>V.int u.1)++us.map (λu=>V.int (u.1+u.2))))
 have eb:(upd H2 D3 (.lst (us.map (λu=>V.int u.1)++us.map (λu=>V.int (u.1+u.2))))) D3=some (.lst ((yaK us).map V.int)):=by
  rw[yad,yaK,List.map_append,List.map_map,List.map_map]
  rfl
 walk_at ""
 refine⟨c,rfl,⟨_,SqL.of (s3 _ _ (s12 _ _ ec))⟩,λD4 h4=>ybb (λb:Int×Int=>obV (ydy b.1 b.2 (yaK us))) (s3 _ _ (s12 _ _ ec)) ab h4 (by omega) (λx u H' Q' _ sm ⟨z,r,ez,eq⟩ q'=>?_) λH4 s4 e4=>?_⟩
 ·subst ez
  have eq':=sm _ _ (s3 _ _ (s12 _ _ eq))
  walk_at ""
  refine yaI (SqT.of eq') (yak (j:=0) rfl) ?_
  walk_at ""
  refine yaI (SqT.of eq') (yak (j:=1) rfl) ?_
  walk_at ""
  exact⟨_,_,_,_,rfl,sm _ _ eb,lub,λH5 s5=>q' H5 s5⟩
 walk_at ""
 have s34:=s12.trans (s3.trans s4)
 have e4':H4 D4=some (.lst ((ybq bs (yaK us)).map obV)):=by
  rw[e4,ybq,List.map_map]
  rfl
 have fl:((ybq bs (yaK us)).map obV).all ybE=true:=by
  rw[List.all_map,List.all_eq_true]
  intro o _
  cases o<;>rfl
 have iv':inV .non ((ybq bs (yaK us)).map obV)=decide (none∈ybq bs (yaK us)):=by
  generalize ybq bs (yaK us)=l
  induction l with
  | nil=>rfl
  | cons o l ih =>
   have ih:(l.map obV).any (λy=>eqV y .non)=decide (none∈l):=ih
   show(eqV (obV o) .non||(l.map obV).any λy=>eqV y .non)=_
   rw[ih]
   cases o<;>simp[obV,eqV]
 refine⟨_,_,rfl,.inl (SqL.of e4'),rfl,fl,ya2 ?_⟩
 simp only[Bool.false_eq_true,if_false]
 rw[iv']
 refine i_d (λh=>?_) λh=>?_
 ·exact q _ _ s34 (.inl ⟨h,rfl⟩)
 ·walk_at ""
  refine q _ _ s34 (.inr ⟨h,D4,rfl,?_,e4'⟩)
  cases z:H D4 with
  | none=>rfl
  | some o =>
   have:=s3 _ _ (s12 _ _ z)
   rw[h4] at this
   cases this
noncomputable def yhe (b e:Int)(ps:List Int):List Int:=(inB b e ps).map λp=>p - b
noncomputable def ykb (b e:Int)(ps:List Int):List Int:=(yhe b e ps).filter λp=>decide (0 < p%3)
noncomputable def yf7 (b e:Int)(ps:List Int):Option Bool:=if ykb b e ps≠[]/\(¬(e - b=12∨e - b=24∨e - b=48)∨0 < ((yhe b e ps).map (·%2)).sum) then none else some (decide (ykb b e ps≠[]))
theorem yrM:∀ l:List Int,0<=(l.map (·%2)).sum/\(0 < (l.map (·%2)).sum↔¬ l.all (λp=>decide (p%2=0))=true)
 | []=>by simp
 | x :: l=>by
  obtain⟨h1,h2⟩:=yrM l
  rw[List.map_cons,List.sum_cons,List.all_cons]
  have hx:x%2=0∨x%2=1:=by omega
  rcases hx with hx | hx
  ·rw[hx,Int.zero_add]
   refine⟨h1,?_⟩
   simpa using h2
  ·rw[hx]
   refine⟨by omega,?_⟩
   simp
   omega
theorem ymE {b e:Int}{ps:List Int}(h:b%3=0):ykb b e ps=[]↔(inB b e ps).all (λp=>decide (p%3=0))=true:=by
 rw[ykb,yhe,List.filter_eq_nil_iff,List.all_eq_true]
 constructor
 ·intro z p hp
  have:=z (p - b) (List.mem_map.mpr ⟨p,hp,rfl⟩)
  simp only[decide_eq_true_eq] at this ⊢
  omega
 ·intro z q hq
  obtain⟨p,hp,rfl⟩:=List.mem_map.mp hq
  have:=z p hp
  simp only[decide_eq_true_eq] at this ⊢
  omega
theorem yeu {b e:Int}{ps:List Int}(h:b%3=0):yf7 b e ps=ydy b e ps:=by
 have on:=ymE (e:=e) (ps:=ps) h
 have s2:=(yrM (yhe b e ps)).2
 have ev:(yhe b e ps).all (λp=>decide (p%2=0))=(inB b e ps).all λp=>decide ((p - b)%2=0):=by rw[yhe,List.all_map];rfl
 rw[ev] at s2
 unfold yf7 ydy
 by_cases z:ykb b e ps=[]
 ·rw[if_neg (λy=>y.1 z),if_pos (on.mp z)]
  simp[z]
 ·by_cases pl:e - b=12∨e - b=24∨e - b=48
  ·by_cases al:(inB b e ps).all (λp=>decide ((p - b)%2=0))=true
   ·rw[if_neg (λy=>y.2.elim (λn=>n pl) λn=>s2.mp n al),if_neg (λy=>z (on.mpr y)),if_pos ⟨pl,al⟩]
    simp[z]
   ·rw[if_pos ⟨z,.inr (s2.mpr al)⟩,if_neg (λy=>z (on.mpr y)),if_neg (λy=>al y.2)]
  ·rw[if_pos ⟨z,.inl pl⟩,if_neg (λy=>z (on.mpr y)),if_neg (λy=>pl y.1)]
noncomputable def yrC (H:Hp)(x:V)(u:Int×Int):Prop:=∃ q,x=.ref q/\H q=some (.tup [.int u.1,.int u.2])
noncomputable def ybA (bs:List (Int×Int))(ps:List Int):List (Option Bool):=bs.map λb=>yf7 b.1 b.2 ps
theorem ymo {c d:Bool}{G:V->Prop}{B:Prop}(hB:G (.bl d)->B)(q:G (.bl (c||d))):if c=true then G (.bl true) else B:=by
 cases c
 ·exact hB (by simpa using q)
 ·simpa using q
noncomputable def ygz:Sp:=λvs H Q _=>∃ (a c:Addr) (ys:List V) (ps:List Int) (bs:List (Int×Int)),vs=[.ref a,.ref c]/\H a=some (.lst (ps.map V.int))/\H c=some (.lst ys)/\Al (yrC H) ys bs/\ps.length<=800/\bs.length<=400 /\
 ∀ y H',Same H H'->(none∈ybA bs ps/\y=.non∨none∉ybA bs ps/\∃ D,y=.ref D/\H D=none/\H' D=some (.lst ((ybA bs ps).map obV)))->Q y H'
theorem yqS (T:Txt K mg t):FnOk P w K mg base CX0 1 t.f_zx t.d_zx ["_law_borders","_law_pairs"] ygz:=by
 refine T.zx.F.ok sc_zx (λvs H Q E h=>?_) (λ_ _ _ s H vs Q E hr h=>?_)
 ·obtain⟨_,_,_,_,_,rfl,_⟩:=h;rfl
 have hu:=ybr hr
 obtain⟨a,c,ys,ps,bs,rfl,ea,ec,ab,lp,lb,q⟩:=h
 refine⟨_,(yae (yar (i:=2) sc_zx.nd rfl (Or.inl rfl) (yaw yab)) (yae (ybs PassesOwn.never rfl (yaE (pv 1)) (yc0 (n:=2) rfl (yaZ (yaq (i:=3) sc_zx.nd rfl (Or.inr rfl)) (yaZ (yaq (i:=4) sc_zx.nd rfl (Or.inr rfl)) ycb))) (yae (ybk (i:=5) sc_zx.nd rfl (Or.inl rfl) (yaB (NB:=["_law_one","_law_first_here","_law_last"]) (cap:=[none,some 3,some 4]) rfl) rfl (yaE (pv 0)) (λ_ _ _ _=>(yaq (i:=0) (show List.Nodup (["_law_one","_law_first_here","_law_last"]:List Str) by decide) rfl (Or.inl rfl))) (λ_ _ _ _=>(ydI (yeU yel yel (pv 1) (pv 0) (pv 2)))) (λ_ _ _ _=>(yaF yb2 (pv 0) (pv 1)))) (yae (ybk (i:=6) sc_zx.nd rfl (Or.inl rfl) (yaB (NB:=["_law_one"]) (cap:=[none]) rfl) rfl (yaE (pv 5)) (λ_ _ _ _=>(yaq (i:=0) (show List.Nodup (["_law_one"]:List Str) by decide) rfl (Or.inl rfl))) (λ_ _ _ _=>(ydI (yaz yi9 (yaF yck (pv 0) yac) yac (yau _)))) (λ_ _ _ _=>(pv 0))) (yae (yar (i:=7) sc_zx.nd rfl (Or.inl rfl) (ymD (yaJ yc1 (yaF yb2 (pv 4) (pv 3)) (yaw (yaa yac (yaa yac yab))) rfl) (ya5 (yaJ ycm (yaF yb2 (pv 4) (pv 3)) yac (yau _))))) (yae (yaY (PW.pt (yd6 (yaz (ycv hu) (pv 6) (yaw yab) (yau _)) (ydf (PW.pt (ycz (ybd (yaQ (pv 7))) (ybW (yaz yi9 (yal (ydQ rfl) rfl T.QT yc6 (yaa (yaS (yaB (NB:=["_law_one"]) (cap:=[none]) rfl) rfl (yaE (pv 5)) (λ_ _ _ _=>(yaq (i:=0) (show List.Nodup (["_law_one"]:List Str) by decide) rfl (Or.inl rfl))) (λ_ _ _ _=>yaG) (λ_ _ _ _=>(yaF yck (pv 0) yac))) yab)) yac (yau _)))))))) (yag (yao ybB)) yaA) (yag (yaH (ybN F.plainAttrs_list F.slot_list_append F.type_list_append yaM (pv 2) (yaa (yaJ (ycv hu) (pv 6) (yaw yab) (yau _)) yab))))))))) (yag (yao (pv 2))))),?_⟩
 walk_at ""
 refine⟨Nat.zero_le _,λF hF=>?_⟩
 walk_at ""
 have s0:=yaf hF (HO.lst [])
 refine⟨c,rfl,⟨_,SqL.of (s0 _ _ ec)⟩,ybh (xs:=ys) (λi σ' H'=>(∃ o3 o4 o5 o6 o7,σ'=[some (.ref a),some (.ref c),some (.ref F),o3,o4,o5,o6,o7])/\none∉ybA (bs.take i) ps/\Same H H'/\H' F=some (.lst ((ybA (bs.take i) ps).map obV))) ⟨⟨_,_,_,_,_,rfl⟩,by simp[ybA],s0,yad⟩ (λ_ _ _ _ h=>SqL.of (h.2.2.1 _ _ ec)) ?_ ?_⟩
 ·rintro i x σ' H' N hN hx ⟨⟨o3,o4,o5,o6,o7,rfl⟩,nn,sm,hd⟩
  have hi:i < bs.length:=by have:=(List.getElem?_eq_some_iff.mp hx).1;have:=ab.1;omega
  obtain⟨x',e',qq,ex,eq⟩:=ab.2 i hi
  rw[hx] at e'
  cases e'
  subst ex
  obtain⟨b,e,hbe⟩:∃ b e,bs[i]=(b,e):=⟨_,_,rfl⟩
  rw[hbe] at eq
  have tk:ybA (bs.take (i+1)) ps=ybA (bs.take i) ps++[yf7 b e ps]:=by
   rw[ybA,List.take_succ_eq_append_getElem hi,List.map_append,hbe]
   rfl
  refine yhZ (SqT.of (sm _ _ eq)) ?_
  walk_at ""
  refine⟨a,rfl,⟨_,SqL.of (sm _ _ ea)⟩,λD1 h1=>ycI (λp=>decide (b < p/\p < e)) (λp=>.int (p - b)) (sm _ _ ea) h1 (by omega) (λp H' Q' _ q'=>ynr (iv 1 rfl) (iv 0 rfl) (iv 2 rfl) (ya2 q')) (λp H' Q' _ q'=>?_) λH1 s1 e1=>?_⟩
  ·walk_at ""
   exact q'
  have e1':H1 D1=some (.lst ((yhe b e ps).map V.int)):=by
   rw[e1,yhe,inB,List.map_map]
   rfl
  have li:(yhe b e ps).length<=800:=by
   rw[yhe,List.length_map]
   exact Nat.le_trans (List.length_filter_le _ _) lp
  walk_at ""
  refine⟨D1,rfl,⟨_,SqL.of e1'⟩,λD2 h2=>ycI (λp=>decide (0 < p%3)) V.int e1' h2 (by omega) (λp H' Q' _ q'=>?_) (λp H' Q' _ q'=>iv 0 rfl _ q') λH2 s2 e2=>?_⟩
  ·walk_at ""
   exact q'
  walk_at ""
  refine⟨by decide,λp hp=>⟨_,_,rfl,.inl (SqL.of yad),rfl,rfl,ya2 ?_⟩⟩
  simp only[Bool.false_eq_true,if_false]
  refine ymo (d:=decide (e - b=48)) (G:=λv=>ybm 7 v _ _ _) (λz=>⟨_,rfl,_,rfl,_,_,rfl,rfl,(show rEq (.int (e - b)) (.int 48) _ (λx H1=>ybm 7 x _ H1 _) from yot z)⟩) ?_
  have ev:(inV (.int (e - b)) [.int 12,.int 24]||decide (e - b=48))=decide (e - b=12∨e - b=24∨e - b=48):=by
   rw[Bool.eq_iff_iff]
   simp only[inV,List.any_cons,List.any_nil,eqV,Bool.or_eq_true,decide_eq_true_eq,beq_iff_eq,Bool.or_false]
   omega
  rw[ev]
  have eo:H2 D2=some (.lst ((ykb b e ps).map V.int)):=e2
  have sF:Same H H2:=sm.trans (s1.trans s2)
  have oe:(!((ykb b e ps).map V.int).isEmpty)=decide (ykb b e ps≠[]):=by cases ykb b e ps<;>simp
  have hd2:=s2 _ _ (s1 _ _ hd)
  have nn1:yf7 b e ps≠none->none∉ybA (bs.take (i+1)) ps:=λh z=>by
   rw[tk] at z
   rcases List.mem_append.mp z with z | z
   ·exact nn z
   ·exact h (List.mem_singleton.mp z).symm
  have ll:((ybA (bs.take i) ps).map obV).length<=400:=by
   rw[List.length_map,ybA,List.length_map,List.length_take]
   omega
  have app:∀ (Hy:Hp) (v7:V),Same H2 Hy->yf7 b e ps=some (decide (ykb b e ps≠[]))->tyV K "list" (V.ref F) Hy/\ygA (tOp (yjv K) (ylq 6) (yoj ylX)) ylX [some (.ref a),some (.ref c),some (.ref F),some (.int b),some (.int e),some (.ref D1),some (.ref D2),some v7] Hy (λxs H3=>ye9 (.ref F) xs H3 λx H4=>N [some (.ref a),some (.ref c),some (.ref F),some (.int b),some (.int e),some (.ref D1),some (.ref D2),some v7] H4):=by
   intro Hy v7 sy lk
   have hf:=sy _ _ hd2
   refine⟨.inl ⟨rfl,_,SqL.of hf⟩,_,rfl,by decide,λp3 hp3=>?_⟩
   have s5:=yaf hp3 (HO.lst [])
   refine⟨D2,p3,_,rfl,rfl,SqL.of (s5 _ _ (sy _ _ eo)),SqL.of yad,F,_,_,rfl,rfl,s5 _ _ hf,yat (by omega),hN _ _ ⟨⟨_,_,_,_,_,rfl⟩,nn1 (by rw[lk];simp),yaT hF (sF.trans (sy.trans s5)),?_⟩⟩
   rw[yad,tk,List.map_append,oe,lk]
   rfl
  have inb:yf7 b e ps=none->none∈ybA bs ps:=λh=>by
   rw[ybA,List.mem_map]
   exact⟨bs[i],List.getElem_mem hi,by rw[hbe];exact h⟩
  walk_at ""
  refine⟨by decide,λp2 hp2=>⟨D2,p2,_,rfl,rfl,SqL.of ((yaf hp2 _) _ _ ((yaf hp (HO.lst [V.int 12,V.int 24])) _ _ eo)),SqL.of yad,ya2 ?_⟩⟩
  rw[oe]
  refine i_d (λh=>?_) λh=>?_
  ·have sx:=(yaf hp (HO.lst [V.int 12,V.int 24])).trans (yaf hp2 (HO.lst []))
   walk_at ""
   refine i_b (λh3=>i_T ?_) λh3=>?_
   ·exact q _ _ (sF.trans sx) (.inl ⟨inb (if_pos ⟨h,.inl (by simpa using h3)⟩),rfl⟩)
   ·have h3:e - b=12∨e - b=24∨e - b=48:=Decidable.byContradiction λn=>by rw[decide_eq_false n] at h3;cases h3
    walk_at ""
    refine⟨D1,rfl,⟨_,SqL.of (sx _ _ (s2 _ _ e1'))⟩,λD5 h5=>ycI (ps:=yhe b e ps) (λ_=>true) (λp=>.int (p%2)) (sx _ _ (s2 _ _ e1')) h5 (by omega) (λp H' Q' _ q'=>yca q') (λp H' Q' _ q'=>?_) λH6 s6 e6=>?_⟩
    ·walk_at ""
     exact q'
    rw[show(yhe b e ps).filter (λ_=>true)=yhe b e ps by simp] at e6
    refine⟨D5,(yhe b e ps).map (·%2),rfl,SqL.of (by rw[e6,List.map_map];rfl),(λn hn=>?_),(by rw[List.length_map];omega),?_⟩
    ·obtain⟨z,_,rfl⟩:=List.mem_map.mp hn
     show 0<=z%2/\z%2<=1000
     omega
    walk_at ""
    refine i_d (λh7=>?_) λh7=>?_
    ·exact q _ _ (sF.trans (sx.trans s6)) (.inl ⟨inb (if_pos ⟨h,.inr h7⟩),rfl⟩)
    ·walk_at ""
     exact app _ _ (sx.trans s6) (if_neg λy=>y.2.elim (λn=>n h3) λn=>h7 n)
  ·have sx:=(yaf hp (HO.lst [V.int 12,V.int 24])).trans (yaf hp2 (HO.lst []))
   refine i_F ?_
   walk_at ""
   exact app _ _ sx (if_neg λy=>h y.1)
 ·rintro σ' H' ⟨⟨o3,o4,o5,o6,o7,rfl⟩,nn,sm,hd⟩
  rw[ab.1,List.take_length] at nn hd
  walk_at ""
  exact q _ _ sm (.inr ⟨nn,F,rfl,hF,hd⟩)
noncomputable def yhz:Sp:=λvs H Q _=>∃ p g tt bt gs,vs=[.ref p]/\MetreAt H p g tt bt gs/\(1<=tt/\tt<=12)/\gs.length<=100/\∀ l H',Same H H'->H' l=some (.lst ((yax tt bt gs).map V.int))->Q (.ref l) H'
noncomputable def UW (p p3:Addr)(tt:Int)(H:Hp):St->Hp->Prop:=fun σ H'=>∃ (k:Nat) (left:Int),σ=[some (.ref p),some (.ref p3),some (.int left)]/\left=tt - 2*k/\(k=0∨2<=left)/\1<=left/\H' p3=some (.lst ((List.replicate k 2).map V.int))/\Same H H'
theorem yq3 (T:Txt K mg t):FnOk P w K mg base CX0 1 t.f_zG t.d_zG ["_law_metre_here"] yhz:=by
 refine T.zG.F.ok sc_zG (λvs H Q E h=>?_) (λ_ _ _ s' H vs Q E hr h=>?_)
 ·obtain⟨p,g,tt,bt,gs,rfl,_⟩:=h;rfl
 have hu:=ybr hr
 obtain⟨p,g,tt,bt,gs,rfl,hm,ht,hl,q⟩:=h
 refine⟨_,(yae (yaY (yaz (yc4 hu) (yas yap (pv 0) yac (λ_ _=>rfl)) (yay yab) (yau _)) (yag (yao (ybD ya8 rfl T.Jk ya3 (yaa (yas yap (pv 0) yac (λ_ _=>rfl)) yab)))) yaA) (yae (yaY (yaz (yc4 hu) (yas yap (pv 0) yac (λ_ _=>rfl)) yac (yau _)) (yag (yao (yaF yeD (yaw (yaa yac yab)) (yas yap (pv 0) yac (λ_ _=>rfl))))) yaA) (yae (yaY (PW.pt (ycz (yaz yc1 (yas yap (pv 0) yac (λ_ _=>rfl)) (yaw (yaa yac (yaa yac yab))) rfl) (ybW (yaz (ycl hu) (yas yap (pv 0) yac (λ_ _=>rfl)) yac (yau _))))) (yag (yao (yaF yeD (yaw (yaa yac yab)) (yaF ycO (yas yap (pv 0) yac (λ_ _=>rfl)) yac)))) yaA) (yae (yar (i:=1) sc_zG.nd rfl (Or.inl rfl) (yaw yab)) (yae (yar (i:=2) sc_zG.nd rfl (Or.inl rfl) (yas yap (pv 0) yac (λ_ _=>rfl))) (yae (ydC PassesOwn.never (yaz yi9 (pv 2) yac (yau _)) (yae (yaH (ybN F.plainAttrs_list F.slot_list_append F.type_list_append yaM (pv 1) (yaa yac yab))) (yag (yar (i:=2) sc_zG.nd rfl (Or.inl rfl) (yaF yb2 (pv 2) yac))))) (yag (yao (yaF ydU (pv 1) (yaw (yaa (pv 2) yab))))))))))),?_⟩
 walk_at "rd"
 have hq:=SqT.of (K:=K) hm.at'
 refine⟨_,hq,_,rfl,Nat.zero_le _,λp1 g1=>?_⟩
 have e1:=yaf g1 (HO.tup [])
 refine⟨_,((yc2 hm.gr).same e1).rep,_,(yc2 (gs:=[]) yad).rep,ycX _,ycX _,?_⟩
 have em:eqT (.tp (ycH gs)) (.tp (ycH []))=decide (gs=[]):=by rw[eqT,yfi]
 by_cases hg:gs=[]
 ·rw[if_neg (by rw[em];simp[hg])]
  have hq1:=SqT.of (K:=K) (e1 _ _ hm.at')
  refine⟨_,hq1,_,rfl,_,(ycL _ bt).rep,_,(ycL _ 8).rep,by simp[dep],by simp[dep],?_⟩
  by_cases h8:bt=8
  ·rw[if_neg (by simp[eqT,eqV,h8])]
   refine⟨_,hq1,_,rfl,by decide,λp2 g2=>?_⟩
   have e2:=e1.trans (yaf g2 (.lst [V.int 6,.int 9]))
   have hq2:=SqT.of (K:=K) (e2 _ _ hm.at')
   refine⟨_,.inl (SqL.of yad),rfl,rfl,?_⟩
   refine ylL (λc=>?_) (λc=>⟨_,hq2,_,rfl,_,(ycL _ tt).rep,_,(ycL _ 12).rep,by simp[dep],by simp[dep],ylL (λc2=>?_) (λc2=>?_)⟩)
   ·refine⟨by decide,λp3 g3=>⟨_,SqT.of ((yaf g3 _) _ _ (e2 _ _ hm.at')),_,rfl,tt,rfl,⟨by decide,by decide⟩,_,yad,by omega,by omega,ydi (by show 1*_<=1000;omega),λp4 g4=>q _ _ (e2.trans ((yaf g3 _).trans (yaf g4 _))) ?_⟩⟩
    have c':6=tt∨9=tt:=by simpa [inV,eqV] using c
    rw[yad,ybY,hg,h8]
    rcases c' with rfl | rfl<;>rfl
   ·refine⟨by decide,λp3 g3=>⟨_,SqT.of ((yaf g3 _) _ _ (e2 _ _ hm.at')),_,rfl,tt,rfl,⟨by decide,by decide⟩,_,yad,by omega,by omega,ydi (by show 1*_<=1000;omega),λp4 g4=>q _ _ (e2.trans ((yaf g3 _).trans (yaf g4 _))) ?_⟩⟩
    have c':tt=12:=by simpa [eqT,eqV] using c2
    rw[yad,ybY,hg,h8]
    rw[c'];rfl
   ·have c1:¬ (6=tt∨9=tt):=by simpa [inV,eqV] using c
    have c3:¬ tt=12:=by simpa [eqT,eqV] using c2
    refine⟨Nat.zero_le _,λp3 g3=>⟨_,SqT.of ((yaf g3 _) _ _ (e2 _ _ hm.at')),_,rfl,?_⟩⟩
    have nH:H p3=none:=by
     cases z:H p3 with
     | none=>rfl
     | some o=>rw[e2 _ _ z] at g3;cases g3
    refine yk1 (UW p p3 tt H) (fun σ _=>match σ with | [_,_,some (V.int i)]=>i.toNat | _=>0) ⟨0,tt,rfl,by omega,.inl rfl,by omega,yad,e2.trans (yaf g3 _)⟩ ?_ ?_
    ·rintro σ H' ⟨k,left,rfl,hk,hk2,h0,hp3,sm⟩
     walk_at "rd"
     refine ylL (λc=>⟨.inl ⟨rfl,_,SqL.of hp3⟩,_,hp3,?_,⟨k+1,left - 2,rfl,by omega,.inr (by omega),by omega,?_,yaT nH sm⟩,?_⟩) (λc=>⟨by decide,λp4 g4=>⟨_,(yaf g4 _) _ _ hp3,_,yad,?_,λp5 g5=>q _ _ (sm.trans ((yaf g4 _).trans (yaf g5 _))) ?_⟩⟩)
     ·rw[List.length_map,List.length_replicate];exact yat (by omega)
     ·rw[yad,List.replicate_succ',List.map_append]
      rfl
     ·show(left - 2).toNat < left.toNat
      omega
     ·rw[List.length_map,List.length_replicate];exact ydi (by show k+1<=1000;omega)
     ·rw[yad,hg,h8]
      have key:∀ (a:Fin 13) (k:Fin 7),(1<=a.val/\a.val≠6/\a.val≠9/\a.val≠12/\(k.val=0∨2<=(a.val:Int) - 2*k.val)/\(a.val:Int) - 2*k.val<=3)->yax (a.val:Int) 8 []=List.replicate k.val 2++[(a.val:Int) - 2*k.val]:=by decide +kernel
      have z:=key ⟨tt.toNat,by omega⟩ ⟨k,by omega⟩ (by simp only[];omega)
      simp only[Int.toNat_of_nonneg (show 0<=tt by omega)] at z
      rw[z,List.map_append,hk]
      rfl
    ·rintro σ H' Q1 Q2 hq ⟨v,hv,i,j,e1,e2,k,ek,h⟩
     exact⟨v,hv,i,j,e1,e2,k,ek,hq _ _ h⟩
  ·rw[if_pos (by simp[eqT,eqV,h8])]
   refine⟨by decide,λp2 g2=>⟨_,SqT.of ((yaf g2 _) _ _ (e1 _ _ hm.at')),_,rfl,tt,rfl,_,yad,by omega,by omega,ydi (by show 1*_<=1000;omega),λp4 g4=>q _ _ (e1.trans ((yaf g2 _).trans (yaf g4 _))) ?_⟩⟩
   rw[yad,ybY]
   simp[yax,hg,h8]
 ·rw[if_pos (by rw[em];simp[hg])]
  have hq1:=SqT.of (K:=K) (e1 _ _ hm.at')
  refine⟨_,hq1,_,rfl,g,rfl,_,.inr (SqT.of (e1 _ _ hm.gr)),λl gl=>q _ _ (e1.trans (yaf gl _)) ?_⟩
  rw[yad]
  unfold yax
  rw[if_pos hg]
noncomputable def ye1:Sp:=λvs H Q _=>∃ p g tp bot gs,vs=[.ref p]/\MetreAt H p g tp bot gs/\(1<=tp/\tp<=12)/\(bot=2∨bot=4∨bot=8)/\gs.length<=100/\(∀ x∈gs,0<=x/\x<=100)/\∀ l H',Same H H'->H l=none->BeatsAt H' l (yfq (96 / bot) (yax tp bot gs) 0)->Q (.ref l) H'
theorem yrU {C:Int->Int->Prop}{g:Int->Int->V}{i j:Int}{v:V}{H:Hp}{Q:VK}(c:C i j)(e:g i j=v)(q:Q v H):rI C g (.int i) (.int j) H Q:=⟨i,j,rfl,rfl,c,e▸q⟩
theorem ygu {tp bot:Int}{gs:List Int}(hg:∀ x∈gs,0<=x/\x<=100):∀ x∈yax tp bot gs,0<=x/\x<=100:=by
 intro x hx
 unfold yax at hx
 split at hx
 ·exact hg x hx
 ·split at hx
  ·rw[List.mem_replicate] at hx;omega
  ·split at hx
   ·rw[List.mem_replicate] at hx;omega
   ·split at hx
    ·rcases List.mem_append.mp hx with hx | hx
     ·rw[List.mem_replicate] at hx;omega
     ·rw[List.mem_singleton] at hx;omega
    ·rw[List.mem_replicate] at hx;omega
theorem yqI (T:Txt K mg t)(G_zG:FnOk P w K mg base CX0 1 t.f_zG t.d_zG ["_law_metre_here"] yhz):FnOk P w K mg base CX0 2 t.f_zL t.d_zL ["_law_metre_here"] ye1:=by
 refine T.zL.F.ok sc_zL (λvs H Q E h=>?_) (λ_ _ _ s H vs Q E hr h=>?_)
 ·obtain⟨_,_,_,_,_,rfl,_⟩:=h;rfl
 have hu:=ybr hr
 obtain⟨p,g,tp,bot,gs,rfl,hm,ht,hb,hl,hg,q⟩:=h
 refine⟨_,(yae (yar (i:=1) sc_zL.nd rfl (Or.inl rfl) (yaw yab)) (yae (yar (i:=2) sc_zL.nd rfl (Or.inl rfl) yac) (yae (ybs PassesOwn.never rfl (yaE (pcl G_zG hr T.zG (yaa (pv 0) yab))) (yaq (i:=3) sc_zL.nd rfl (Or.inl rfl)) (yae (yaH (ybN F.plainAttrs_list F.slot_list_append F.type_list_append yaM (pv 1) (yaa (yay (yaa (pv 2) (yaa (yaF ya6 (pv 2) (yaF ycO (yaF yb0 (pv 3) yac) (yas yap (pv 0) yac (λ_ _=>rfl)))) yab))) yab))) (yag (yar (i:=2) sc_zL.nd rfl (Or.inl rfl) (yas yap (yas yaL (pv 1) (ycM ybR yac) (λ_ _=>rfl)) yac (λ_ _=>rfl)))))) (yag (yao (pv 1)))))),?_⟩
 walk_at ""
 refine⟨Nat.zero_le _,λF hF=>?_⟩
 have s0:=yaf hF (HO.lst [])
 walk_at ""
 refine⟨p,g,tp,bot,gs,rfl,hm.same s0,ht,hl,λl H1 s1 e1=>?_⟩
 have sm1:=s0.trans s1
 refine⟨l,rfl,⟨_,SqL.of e1⟩,ybh (xs:=(yax tp bot gs).map V.int) (λj σ' H'=>(∃ o3,σ'=[some (.ref p),some (.ref F),some (.int ((96 / bot)*((yax tp bot gs).take j).sum)),o3])/\Same H H'/\H' l=some (.lst ((yax tp bot gs).map V.int))/\BeatsAt H' F (yfq (96 / bot) ((yax tp bot gs).take j) 0)) ⟨⟨_,by simp;rfl⟩,sm1,e1,[],s1 _ _ yad,trivial⟩ (λ_ _ _ _ h=>SqL.of h.2.2.1) ?_ ?_⟩
 ·rintro j x σ' H' N hN hx ⟨⟨o3,rfl⟩,sm,el,rs,hrs,hps⟩
  have hj:j < (yax tp bot gs).length:=by
   have:=(List.getElem?_eq_some_iff.mp hx).1
   simpa using this
  obtain rfl:V.int ((yax tp bot gs)[j])=x:=by
   rw[List.getElem?_map,List.getElem?_eq_getElem hj] at hx
   exact Option.some.inj hx
  have hu2:=ygu (bot:=bot) (tp:=tp) hg _ (List.getElem_mem hj)
  have hdv:(yax tp bot gs)[j]*96 / bot=96 / bot*(yax tp bot gs)[j]:=by rcases hb with rfl | rfl | rfl<;>omega
  have rl:rs.length=j:=by rw[hps.len,ycf,List.length_take];omega
  have ul:=ycp (bot:=bot) ht hl
  walk_at ""
  refine⟨.inl ⟨rfl,_,SqL.of hrs⟩,?_⟩
  walk_at ""
  refine yaI (SqT.of (sm _ _ hm.at')) (yak (j:=1) rfl) ?_
  walk_at ""
  refine yrU (v:=.int (96 / bot*(yax tp bot gs)[j])) ⟨by omega,by omega⟩ (congrArg V.int hdv) ?_
  walk_at ""
  refine⟨show 2<=sizeLine by decide,λpt gt=>⟨F,rs,_,rfl,rfl,(yaf gt _) _ _ hrs,by rw[rl];exact yat (by omega),?_⟩⟩
  have npt:pt≠F:=λz=>by rw[z,hrs] at gt;cases gt
  have nl:l≠F:=λz=>by
   have:=s1 _ _ (yad (H:=H) (a:=F) (o:=HO.lst []))
   rw[← z,e1] at this
   simp at this
   rw[this] at hj
   simp at hj
  walk_at ""
  refine ybp (SqL.of yad) (v:=.ref pt) (by unfold atI;rw[show ixN (rs++[V.ref pt]).length (-1)=some rs.length by simp only[ixN,List.length_append,List.length_singleton];rw[if_neg (by decide),if_pos (by omega)];exact congrArg some (by omega)];simp) ?_
  walk_at ""
  refine yaI (SqT.of (by rw[yai npt];exact yad)) (yak (j:=1) rfl) ?_
  walk_at ""
  refine hN _ _ ⟨⟨_,by rw[yed _ _ hj,Int.mul_add];rfl⟩,yaT hF (sm.trans (yaf gt _)),by rw[yai nl];exact(yaf gt _) _ _ el,_,yad,?_⟩
  rw[ydL _ _ _ _ hj]
  refine PairsAt.snoc ?_ ((hps.same (yaf gt _)).updL ((yaf gt _) _ _ hrs))
  rw[yai npt,yad]
  simp
 ·rintro σ' H' ⟨⟨o3,rfl⟩,sm,el,hbs⟩
  rw[List.length_map,List.take_length] at hbs
  walk_at ""
  exact q _ _ sm hF hbs
theorem yj2 {A H H':Hp}{Tb:Addr}(s:Same A H)(n:A Tb=none)(st:SameT Tb H H'):Same A H':=λb u e=>st b u (λz=>by rw[z,n] at e;cases e) (s b u e)
theorem ydk {H:Hp}{Tb:Addr}(h:TK H Tb):∃ ps,H Tb=some (.tbl ps):=let ⟨ps,e,_⟩:=h;⟨ps,e⟩
theorem ype {Hs H H':Hp}{Tb:Addr}(h:TK H Tb)(n:Hs Tb=none):nw Hs H H' Tb=none:=by obtain⟨ps,e⟩:=ydk h;rw[yb1 e];exact n
theorem yoQ {H H':Hp}{Tb:Addr}(h:TK H Tb):fr H H' Tb=none:=by obtain⟨ps,e⟩:=ydk h;unfold fr;rw[if_neg (by rw[e];simp)]
theorem PairsAt.mono {H H':Hp}(e:∀ b xs,H b=some (.tup xs)->H' b=some (.tup xs)):∀ {rs:List V} {ps:List (Int×Int)},PairsAt H rs ps->PairsAt H' rs ps
 | [],[],_=>trivial
 | r :: rs,(a,b) :: ps,h=>⟨let ⟨q,h1,h2⟩:=h.1;⟨q,h1,e _ _ h2⟩,PairsAt.mono e h.2⟩
 | [],_ :: _,h=>h.elim
 | _ :: _,[],h=>h.elim
theorem BeatsAt.tb {H H':Hp}{Tb l:Addr}{ps:List (Int×Int)}(tk:TK H Tb)(b:BeatsAt H l ps)(st:SameT Tb H H'):BeatsAt H' l ps:=by
 obtain⟨rs,e,p⟩:=b
 obtain⟨us,et⟩:=ydk tk
 exact⟨rs,st _ _ (λz=>by rw[z,et] at e;cases e) e,p.mono λb xs q=>st _ _ (λz=>by rw[z,et] at q;cases q) q⟩
theorem BeatsAt.put {H:Hp}{D l:Addr}{xs ys:List V}{ps:List (Int×Int)}(b:BeatsAt H l ps)(e:H D=some (.lst xs))(n:l≠D):BeatsAt (upd H D (.lst ys)) l ps:=by
 obtain⟨rs,el,p⟩:=b
 exact⟨rs,by rw[yai n];exact el,p.updL e⟩
theorem BeatsAt.same {H H':Hp}{l:Addr}{ps:List (Int×Int)}(b:BeatsAt H l ps)(s:Same H H'):BeatsAt H' l ps:=by
 obtain⟨rs,el,p⟩:=b
 exact⟨rs,s _ _ el,p.same s⟩
noncomputable def ybo (m:Mt):List (Int×Int):=yfq (96 / m.bt) (yax m.tp m.bt m.gs) 0
theorem GoodM.bt {m:Mt}(g:GoodM m):0 < m.bt/\m.bt<=8:=by rcases g.b with h | h | h<;>omega
noncomputable def yog (t:Ad)(Tb:Addr):Sp:=λvs H Q _=>∃ (x:V) (vss:List (List Sn)) (fw:List Fr) (Hs:Hp),vs=[x]/\Same Hs H/\Hs Tb=none/\TuneIs t Hs x vss fw/\fw.length<=24/\(∀ f∈fw,GoodM f.1)/\TK H Tb /\
 ∀ D xs H',SameT Tb H H'->TK H' Tb->H D=none->H' D=some (.lst xs)->Al (λz (f:Fr)=>∃ l,z=.ref l/\BeatsAt H' l (ybo f.1)) xs fw->Q (.ref D) H'
theorem yp6 {Tb:Addr}(T:Txt K mg t)(G_zr:FnOk P w K mg base CX0 1 t.f_zr t.d_zr ["self"] (ymI t))(G_zao:FnOk P w K mg base CX0 3 t.f_zao t.d_zao ["metre"] (yiF Tb)):FnOk P w K mg base CX0 4 t.f_zk t.d_zk ["tune"] (yog t Tb):=by
 refine T.zk.F.ok yp1 (λvs H Q E h=>?_) (λ_ _ _ s H vs Q E hr h=>?_)
 ·obtain⟨_,_,_,_,rfl,_⟩:=h;rfl
 have hu:=ybr hr
 obtain⟨x,vss,fw,Hs,rfl,sH,nT,tu,lf,gm,tk,q⟩:=h
 obtain⟨a,dx,_,_,_,_,rfl,ea,_⟩:=id tu
 refine⟨_,(yag (yao (yaS (yaB (NB:=["frame"]) (cap:=[none]) rfl) rfl (yaE (ydG (pv 0) T.Jc T.Rz G_zr (hr.mono (by first | decide | omega)) T.zr.B .nil ydn)) (λ_ _ _ _=>(yaq (i:=0) (show List.Nodup (["frame"]:List Str) by decide) rfl (Or.inl rfl))) (λ_ _ _ _=>yaG) (λ_ _ _ _=>(pcl G_zao hr T.RX (yaa (yas (show IxR _ (yew K) from yap) (pv 0) yac (λ_ _=>rfl)) yab)))))),?_⟩
 walk_at ""
 refine⟨a,dx,_,rfl,sH _ _ ea,rfl,?_⟩
 walk_at ""
 refine⟨_,vss,fw,Hs,rfl,sH,tu,λy H1 s1 i1=>?_⟩
 have o1:=ydu sH s1
 have nT1:=ype (H':=H1) tk nT
 have tk1:=tk.same s1
 rw[ybv,Is] at i1
 obtain⟨l1,ys1,rfl,e1,is1⟩:=i1
 have al1:Al (λz i=>Is (nw Hs H H1) z (frT (bg fw i) (fw.getD i (⟨0,0,[]⟩,0)))) ys1 (List.range fw.length):=ya4 is1
 have ly:ys1.length=fw.length:=by rw[al1.1,List.length_range]
 refine⟨l1,rfl,⟨_,SqL.of (o1 _ _ e1)⟩,λD hD=>?_⟩
 have nD:D≠Tb:=λz=>by obtain⟨ps,e⟩:=ydk tk1;rw[z,e] at hD;cases hD
 refine ybM (xs:=ys1) (λi σ' H'=>(∃ o,σ'=[o])/\SameT Tb H1 H'/\TK H' Tb/\∃ xs,H' D=some (.lst xs)/\xs.length=i/\Al (λz (f:Fr)=>∃ l,z=.ref l/\l≠D/\BeatsAt H' l (ybo f.1)) xs (fw.take i)) ⟨⟨_,rfl⟩,(yaf hD _).t,tk1.same (yaf hD _),[],yad,rfl,Al.nil⟩ (λi _ H' _ h=>SqL.of (yj2 o1 nT1 h.2.1 _ _ e1)) ?_ ?_
 ·rintro i x σ' H' N hN hx ⟨⟨o,rfl⟩,st,tk',xs,ed,lx,al⟩
  have hi:i < fw.length:=by have:=(List.getElem?_eq_some_iff.mp hx).1;omega
  obtain⟨x',e',rx⟩:=al1.2 i (by rw[List.length_range];exact hi)
  rw[hx] at e'
  cases e'
  rw[List.getElem_range,ya7 hi] at rx
  obtain⟨c,mv,rfl,ec,im⟩:=rx.fr
  obtain⟨p,g,rfl,ep,eg⟩:=im.mt
  have sm:=yj2 o1 nT1 st
  have gmi:=gm _ (List.getElem_mem hi)
  walk_at ""
  refine yaI (SqT.of (sm _ _ ec)) (yak (j:=1) rfl) ?_
  walk_at ""
  refine⟨p,g,_,_,_,rfl,⟨sm _ _ ep,sm _ _ eg⟩,⟨gmi.t1,gmi.t2⟩,gmi.bt,by have:=gmi.len;omega,tk',λl H4 s4 tk4 nl b4=>?_⟩
  have ed4:=s4 _ _ nD ed
  have nlD:l≠D:=λz=>by rw[z,ed] at nl;cases nl
  refine⟨xs,ed4,yat (by omega),hN _ _ ⟨⟨_,rfl⟩,λb u nb e=>?_,tk4.updL ed4,_,yad,by simp[lx],?_⟩⟩
  ·rw[yai (yam e hD)]
   exact s4 b u nb (st b u nb e)
  ·rw[List.take_succ_eq_append_getElem hi]
   refine Al.snoc (al.imp λz f _ ⟨l',ez,n',b'⟩=>⟨l',ez,n',(b'.tb tk' s4).put ed4 n'⟩) ⟨l,rfl,nlD,b4.put ed4 nlD⟩
 ·rintro σ' H' ⟨_,st,tk',xs,ed,lx,al⟩
  rw[ly,List.take_length] at al
  have nH:H D=none:=by
   cases z:H D with
   | none=>rfl
   | some o =>
    have:=s1 _ _ z
    rw[hD] at this
    cases this
  exact q D xs H' (s1.t.trans st) tk' nH ed (al.imp λz f _ ⟨l,e,_,b⟩=>⟨l,e,b⟩)
noncomputable def you (C:Addr):Sp:=λvs H Q _=>∃ (a:Addr) (o:Obj) (us:Array Value) (y:V),vs=[.ref a,y]/\H a=some (exO a o)/\o.cls=.ref C/\o.dict=none/\o.data=.fields us/\∀ dx,H dx=none->dx≠a->Q .non (upd (upd H a (exO a { o with dict:=some dx })) dx (xdO dx [("row",y)]))
noncomputable def ypg (C:Addr):Sp:=λvs H Q _=>∃ (a:Addr) (o:Obj) (us:Array Value) (y z:V),vs=[.ref a,y,z]/\H a=some (exO a o)/\o.cls=.ref C/\o.dict=none/\o.data=.fields us/\∀ dx,H dx=none->dx≠a->Q .non (upd (upd H a (exO a { o with dict:=some dx })) dx (xdO dx [("bar",y),("voice",z)]))
theorem ypt (T:Txt K mg t):FnOk P w K mg base CX0 1 t.f_zd t.d_zd ["self","row"] (you t.Ud):=by
 refine T.zd.F.ok yq5 (λvs H Q E h=>?_) (λ_ _ _ s H vs Q E hr h=>?_)
 ·obtain⟨_,_,_,_,rfl,_⟩:=h;rfl
 obtain⟨a,o,us,y,rfl,ea,hc,hd,hf,q⟩:=h
 refine⟨_,(yag (yeL (pv 0) (pv 1) rfl)),?_⟩
 exact⟨_,rfl,_,rfl,a,o,us,_,rfl,ea,hc,hf,T.QC,T.Qb,.inl ⟨hd,q⟩⟩
theorem yqJ (T:Txt K mg t):FnOk P w K mg base CX0 1 t.f_zc t.d_zc ["self","row"] (you t.Ui):=by
 refine T.zc.F.ok yqF (λvs H Q E h=>?_) (λ_ _ _ s H vs Q E hr h=>?_)
 ·obtain⟨_,_,_,_,rfl,_⟩:=h;rfl
 obtain⟨a,o,us,y,rfl,ea,hc,hd,hf,q⟩:=h
 refine⟨_,(yag (yeL (pv 0) (pv 1) rfl)),?_⟩
 exact⟨_,rfl,_,rfl,a,o,us,_,rfl,ea,hc,hf,T.Qx,T.JQ,.inl ⟨hd,q⟩⟩
theorem ypW (T:Txt K mg t):FnOk P w K mg base CX0 1 t.f_za t.d_za ["self","bar","voice"] (ypg t.Ug):=by
 refine T.za.F.ok ypH (λvs H Q E h=>?_) (λ_ _ _ s H vs Q E hr h=>?_)
 ·obtain⟨_,_,_,_,_,rfl,_⟩:=h;rfl
 obtain⟨a,o,us,y,z,rfl,ea,hc,hd,hf,q⟩:=h
 refine⟨_,(yae (yeL (pv 0) (pv 1) rfl) (yag (yeL (pv 0) (pv 2) rfl))),?_⟩
 refine⟨_,rfl,_,rfl,a,o,us,_,rfl,ea,hc,hf,T.Jd,T.Jn,.inl ⟨hd,λdx hx ne=>?_⟩⟩
 refine⟨_,rfl,_,rfl,a,{ o with dict:=some dx },us,_,rfl,by rw[yai ne.symm,yad],hc,hf,T.Jd,T.Jh,.inr ⟨dx,[("bar",y)],rfl,ne,yad,(show 1 < 1000 by decide),?_⟩⟩
 show Q .non (upd (upd (upd H a _) dx _) dx _)
 rw[ydZ]
 exact q dx hx ne
theorem Is.st {H:Hp}{x:V}{s:yex}(h:Is H x (stT s)):∃ a,x=.ref a/\H a=some (.tup [.int s.a,.int s.n,oV s.o,.bl s.co,.bl s.go]):=by
 rw[stT,Is] at h
 obtain⟨a,xs,rfl,e,is⟩:=h
 rw[Iss.ims (vs:=[.int s.a,.int s.n,oV s.o,.bl s.co,.bl s.go]) is] at e
 exact⟨a,rfl,e⟩
noncomputable def stU (s:yex):Int×Int:=(s.a,s.n)
noncomputable def yeO (ss:List yex):List (Int×Int):=ss.map stU
theorem ynt {H:Hp}{xs:List V}{ss:List yex}(h:Iss H xs (ss.map stT)):Al (ynE H) xs (yeO ss):=by
 have al:=ya4 h
 refine⟨by rw[al.1,yeO,List.length_map],λi hi=>?_⟩
 have hi':i < ss.length:=by rw[yeO,List.length_map] at hi;exact hi
 have z:(yeO ss)[i]=stU ss[i]:=by unfold yeO;exact List.getElem_map _
 obtain⟨x,ex,ix⟩:=al.2 i hi'
 obtain⟨a,rfl,ea⟩:=ix.st
 refine⟨_,ex,a,[oV ss[i].o,.bl ss[i].co,.bl ss[i].go],rfl,?_⟩
 rw[z]
 exact ea
noncomputable def noF:Fr:=(⟨0,0,[]⟩,0)
noncomputable def yrk (fw:List Fr)(vss:List (List Sn))(i v:Nat):List yex:=yda (bg fw i) (bg fw (i+1)) (ycS (vss.getD v []) (bg fw fw.length))
noncomputable def bad (fw:List Fr)(vss:List (List Sn))(i v:Nat):Prop:=none∈ybq (ybo (fw.getD i noF).1) (yaK (yeO (yrk fw vss i v)))
structure Fst (B:Nat->Nat->Prop) (n m i v:Nat):Prop where
 i1:i < n
 v1:v < m
 b:B i v
 no:∀ i' v',i' < n->v' < m->(i' < i∨i'=i/\v' < v)->¬ B i' v'
theorem yqZ {ta:TA}{tk:TE}{g:TG}{tb:TS}{D:ydh}{σ:St}{H:Hp}(q:ta σ H λvs H1=>∃ a b,vs=[.ref a,.ref b]/\(∃ xs,SqL K H1 a xs)/\(∃ ys,SqL K H1 b ys)/\tk σ H1 λz H2=>∃ k:Nat,z=.int (k:Int)/\k < 1000000/\ykW (ypf K a b k) g tb D σ H2):ykV (ylQ K ta tk) g tb D σ H:=q
noncomputable def ylU (t:Ad)(Tb:Addr):Sp:=λvs H Q E=>∃ (x:V) (vss:List (List Sn)) (fw:List Fr) (Hs:Hp),vs=[x]/\Same Hs H/\Hs Tb=none/\TuneIs t Hs x vss fw/\yeb vss/\fw≠[]/\fw.length<=24/\(∀ f∈fw,GoodM f.1)/\TK H Tb /\
 (∀ H',SameT Tb H H'->(∀ i v,i < fw.length->v < vss.length->¬ bad fw vss i v)->Q .non H') /\
 ∀ i v e o dx us H',Fst (bad fw vss) fw.length vss.length i v->SameT Tb H H'->H e=none->o.cls=.ref t.Ug->o.dict=some dx->o.data=.fields us->H' e=some (exO e o)->H' dx=some (xdO dx [("bar",.int ((i+1:Nat):Int)),("voice",.int ((v+1:Nat):Int))])->E (.ref e) (some t.Ug) H'
theorem yqG {Tb:Addr}(T:Txt K mg t)(G_zat:FnOk P w K mg base CX0 4 t.f_zat t.d_zat ["tune"] (yo5 t))(G_zk:FnOk P w K mg base CX0 4 t.f_zk t.d_zk ["tune"] (yog t Tb))(G_zT:FnOk P w K mg base CX0 2 t.f_zT t.d_zT ["stretches","beats"] yfl)
  (G_za:FnOk P w K mg base CX0 1 t.f_za t.d_za ["self","bar","voice"] (ypg t.Ug)):FnOk P w K mg base (CXg P w) 5 t.f_zR t.d_zR ["tune"] (ylU t Tb):=by
 refine T.zR.F.okG sc_zR (λvs H Q E h=>?_) (λ_ _ _ s H vs Q E hr h=>?_)
 ·obtain⟨_,_,_,_,rfl,_⟩:=h;rfl
 have hu:=ybr hr
 obtain⟨x,vss,fw,Hs,rfl,sH,nT,tu,gv,nf,lf,gm,tk,q,qe⟩:=h
 refine⟨_,(yag (ybs yoX rfl (yk5 rfl T.Jo rfl T.Ro (yaa (pcl G_zat hr T.RO (yaa (pv 0) yab)) (yaa (pcl G_zk hr T.zk (yaa (pv 0) yab)) yab)) yac) (yc0 (n:=2) rfl (yaZ (yaq (i:=1) sc_zR.nd rfl (Or.inl rfl)) (yaZ (yaq (i:=2) sc_zR.nd rfl (Or.inl rfl)) ycb))) (yag (ybs yoX rfl (ykf rfl T.Jo (yas yap (pv 2) yac (λ_ _=>rfl)) yac) (yc0 (n:=2) rfl (yaZ (yaq (i:=3) sc_zR.nd rfl (Or.inl rfl)) (yaZ (yaq (i:=4) sc_zR.nd rfl (Or.inl rfl)) ycb))) (yag (yaY (yaz yg6 (pcl G_zT hr T.zT (yaa (pv 4) (yaa (yas yap (pv 2) yac (λ_ _=>rfl)) yab))) ybB (yau _)) (yag (yj9 F.excBase_ValueError hr.hd T.QI T.Jd.mb T.Rk G_za (hr.mono (by first | decide | omega)) T.za.B rfl T.Qp (yaa (pv 1) (yaa (pv 3) yab)))) yaA)))))),?_⟩
 walk_at ""
 refine yqZ ?_
 walk_at ""
 refine⟨x,vss,fw,Hs,rfl,sH,tu,gv,nf,lf,gm,λy H1 s1 i1=>?_⟩
 rw[yrJ,Is] at i1
 obtain⟨l1,ys1,rfl,e1,is1⟩:=i1
 have o1:Same (KT.fr H H1) H1:=yct _ _
 have n1:KT.fr H H1 Tb=none:=yoQ tk
 have al1:Al (λz i=>Is (KT.fr H H1) z (yo8 fw vss i)) ys1 (List.range fw.length):=ya4 is1
 walk_at ""
 refine⟨x,vss,fw,Hs,rfl,sH.trans s1,nT,tu,lf,gm,tk.same s1,λD xs H2 st2 tk2 nD eD al2=>?_⟩
 have o2:Same (KT.fr H H1) H2:=yj2 o1 n1 st2
 have sT:SameT Tb H H2:=s1.t.trans st2
 walk_at ""
 refine⟨l1,D,rfl,⟨_,SqL.of (o2 _ _ e1)⟩,⟨_,SqL.of eD⟩,1,rfl,by decide,?_⟩
 have ly:ys1.length=fw.length:=by rw[al1.1,List.length_range]
 refine yjI (xs:=ys1) (ys:=xs) (by rw[ly,al2.1]) (λi σ' H'=>(∃ p1 p2 p3 p4,σ'=[some x,p1,p2,p3,p4])/\Same H2 H'/\∀ i' v,i' < i->v < vss.length->¬ bad fw vss i' v) ⟨⟨_,_,_,_,rfl⟩,Same.refl _,λi' v h=>absurd h (Nat.not_lt_zero _)⟩ (λi _ H' _ h=>⟨SqL.of (h.2.1 _ _ (o2 _ _ e1)),SqL.of (h.2.1 _ _ eD)⟩) ?_ ?_
 ·rintro i xb yb σ' H' p q' N hN hx hy ⟨⟨p1,p2,p3,p4,rfl⟩,sm,no⟩ hq hp npq
  have hi:i < fw.length:=by have:=(List.getElem?_eq_some_iff.mp hx).1;omega
  obtain⟨_,e',rb⟩:=al1.2 i (by rw[List.length_range];exact hi)
  rw[hx] at e'
  cases e'
  rw[List.getElem_range,yo8,Is] at rb
  obtain⟨lb,zs,rfl,elb,isb⟩:=rb
  obtain⟨_,e',l,rfl,bl⟩:=al2.2 i hi
  rw[hy] at e'
  cases e'
  have alb:=ya4 isb
  have s3:Same H' (upd (upd H' q' (.tup [.ref lb,.ref l])) p (.tup [.int ((i+1:Nat):Int),.ref q'])):=λb u e=>by rw[yai (yam e hp),yai (yam e hq)];exact e
  have eq3:(upd (upd H' q' (.tup [.ref lb,.ref l])) p (.tup [.int ((i+1:Nat):Int),.ref q'])) q'=some (.tup [.ref lb,.ref l]):=by rw[yai npq.symm,yad]
  refine yhZ (SqT.of yad) ?_
  generalize upd (upd H' q' (.tup [.ref lb,.ref l])) p (.tup [.int ((i+1:Nat):Int),.ref q'])=H3 at s3 eq3
  walk_at ""
  refine ypV ?_
  walk_at ""
  refine yaI (SqT.of eq3) (yak (j:=0) rfl) ?_
  refine⟨lb,rfl,?_⟩
  walk_at ""
  have s23:Same H2 H3:=sm.trans s3
  refine⟨1,rfl,by decide,⟨_,SqL.of (s23 _ _ (o2 _ _ elb))⟩,?_⟩
  refine yiv (xs:=zs) (λv σ'' H''=>(∃ p3 p4,σ''=[some x,some (.int ((i+1:Nat):Int)),some (.ref q'),p3,p4])/\Same H3 H''/\∀ v',v' < v->¬ bad fw vss i v') ⟨⟨_,_,rfl⟩,Same.refl _,λv' h=>absurd h (Nat.not_lt_zero _)⟩ (λv _ H'' _ h=>SqL.of (h.2.1 _ _ (s23 _ _ (o2 _ _ elb)))) ?_ ?_
  ·rintro v xv σ'' H'' p5 N2 hN2 hxv ⟨⟨p3,p4,rfl⟩,sm2,no2⟩ hp5
   have hv:v < vss.length:=by have:=(List.getElem?_eq_some_iff.mp hxv).1;rw[alb.1] at this;exact this
   obtain⟨_,e',rv⟩:=alb.2 v hv
   rw[hxv] at e'
   cases e'
   rw[yqE,Is] at rv
   obtain⟨ls,us,rfl,els,iss⟩:=rv
   have s5:=yaf hp5 (.tup [.int ((v+1:Nat):Int),.ref ls])
   refine yhZ (SqT.of yad) ?_
   have s35:Same H3 (upd H'' p5 (.tup [.int ((v+1:Nat):Int),.ref ls])):=sm2.trans s5
   generalize upd H'' p5 (.tup [.int ((v+1:Nat):Int),.ref ls])=H5 at s5 s35
   have s25:=s23.trans s35
   have o5:=o2.trans s25
   obtain⟨rs,ers,prs⟩:=bl.same s25
   walk_at ""
   refine yaI (SqT.of (s35 _ _ eq3)) (yak (j:=1) rfl) ?_
   walk_at ""
   have bd:bad fw vss i v↔none∈ybq (ybo fw[i].1) (yaK (yeO (yda (bg fw i) (bg fw (i+1)) (ycS vss[v] (bg fw fw.length))))):=by unfold bad yrk;rw[ya7 hi,ya7 hv]
   refine⟨ls,l,us,rs,_,_,rfl,o5 _ _ els,ynt (iss.same o5),ers,yg7 prs,?_,?_,λy H6 s6 hy6=>?_⟩
   ·have l1:=gv.len _ (List.getElem_mem hv)
    have l2:(yda (bg fw i) (bg fw (i+1)) (ycS vss[v] (bg fw fw.length))).length<=(ycS vss[v] (bg fw fw.length)).length:=List.length_filterMap_le _ _
    have l3:(ycS vss[v] (bg fw fw.length)).length=vss[v].length+1:=by simp[ycS,yir]
    rw[yeO,List.length_map]
    omega
   ·have g:=gm _ (List.getElem_mem hi)
    have:=ycp (bot:=fw[i].1.bt) ⟨g.t1,g.t2⟩ (show fw[i].1.gs.length<=100 by have:=g.len;omega)
    rw[ybo,ycf]
    omega
   have s26:=s25.trans s6
   have sT6:SameT Tb H H6:=sT.trans s26.t
   rcases hy6 with ⟨h6,rfl⟩ | ⟨h6,D6,rfl,_,_⟩
   ·walk_at ""
    refine⟨rfl,ya2 (i_d (λ_=>?_) λn=>absurd rfl n)⟩
    refine⟨_,rfl,_,rfl,show 2<=1000 by decide,λe o us he hc hd hf h1 h2=>⟨e,o,us,_,_,rfl,yad,hc,hd,hf,λdx hdx ne=>⟨rfl,{ o with dict:=some dx },by rw[yai ne.symm,yad],rfl,rfl,λo2 us2 c2 d2 f2=>?_⟩⟩⟩
    have hdx6:H6 dx=none:=by rw[yai ne] at hdx;exact hdx
    refine qe i v e o2 dx us2 _ ⟨hi,hv,bd.mpr h6,λi' v' hi' hv' z=>?_⟩ (λb u nb eb=>?_) ?_ c2 d2 f2 yad ?_
    ·rcases z with z | ⟨rfl,z⟩
     ·exact no i' v' z hv'
     ·exact no2 v' z
    ·have:=sT6 b u nb eb
     rw[yai (yam this he),yai (yam this hdx6),yai (yam this he),yai (yam this he)]
     exact this
    ·cases z:H e with
     | none=>rfl
     | some u =>
      have nT:e≠Tb:=λy=>by
       obtain⟨ps,ep⟩:=ydk tk2
       have:=s26 _ _ ep
       rw[← y,he] at this
       cases this
      have:=sT6 e u nT z
      rw[he] at this
      cases this
    ·rw[yai ne,yad]
   ·walk_at ""
    refine⟨rfl,ya2 (i_d (λh=>nomatch h) λ_=>?_)⟩
    refine hN2 _ _ ⟨⟨_,_,rfl⟩,s35.trans s6,λv' hv'=>?_⟩
    rcases Nat.lt_succ_iff_lt_or_eq.mp hv' with z | rfl
    ·exact no2 v' z
    ·exact λz=>h6 (bd.mp z)
  ·rintro σ'' H'' ⟨⟨p3,p4,rfl⟩,sm2,no2⟩
   refine hN _ _ ⟨⟨_,_,_,_,rfl⟩,s23.trans sm2,λi' v hi' hv=>?_⟩
   rcases Nat.lt_succ_iff_lt_or_eq.mp hi' with z | rfl
   ·exact no i' v z hv
   ·refine no2 v ?_
    rw[alb.1]
    exact hv
 ·rintro σ' H' ⟨_,sm,no⟩
  rw[ly] at no
  exact q H' (sT.trans sm.t) λi v hi hv=>no i v hi hv
theorem ygx {b e:Int}{ps ps':List Int}(h:∀ p,b < p->p < e->(p∈ps↔p∈ps')):ydy b e ps=ydy b e ps':=by
 have al:∀ f:Int->Bool,(inB b e ps).all f=(inB b e ps').all f:=λf=>by
  rw[Bool.eq_iff_iff,List.all_eq_true,List.all_eq_true]
  constructor
  ·intro z p hp
   obtain⟨h1,h2⟩:=List.mem_filter.mp hp
   have h2:=of_decide_eq_true h2
   exact z p (List.mem_filter.mpr ⟨(h p h2.1 h2.2).mpr h1,decide_eq_true h2⟩)
  ·intro z p hp
   obtain⟨h1,h2⟩:=List.mem_filter.mp hp
   have h2:=of_decide_eq_true h2
   exact z p (List.mem_filter.mpr ⟨(h p h2.1 h2.2).mp h1,decide_eq_true h2⟩)
 unfold ydy
 rw[al,al]
theorem yhb {u:Int}(hu:0<=u)(h3:u%3=0):∀ (ms:List Int) (b:Int),(∀ m∈ms,0<=m)->b%3=0->∀ p∈yfq u ms b,b<=p.1/\p.2<=b+u*ms.sum/\p.1%3=0
 | [],_,_,_=>λp hp=>nomatch hp
 | m :: ms,b,hm,hb=>λp hp=>by
  have m0:0<=u*m:=Int.mul_nonneg hu (hm m (by simp))
  have m3:(b+u*m)%3=0:=by
   obtain⟨c,hc⟩:∃ c,u=3*c:=⟨u / 3,by omega⟩
   rw[hc,Int.mul_assoc]
   generalize c*m=d
   omega
  have su:0<=u*ms.sum:=Int.mul_nonneg hu (by
   have:∀ l:List Int,(∀ x∈l,0<=x)->0<=l.sum:=λl=>by
    induction l with
    | nil=>intro _;simp
    | cons x l ih=>intro z;rw[List.sum_cons];have:=ih (λy hy=>z y (by simp[hy]));have:=z x (by simp);omega
   exact this ms λx hx=>hm x (by simp[hx]))
  have es:u*(m :: ms).sum=u*m+u*ms.sum:=by rw[List.sum_cons,Int.mul_add]
  rw[yfq] at hp
  rcases List.mem_cons.mp hp with rfl | hp
  ·exact⟨Int.le_refl _,by rw[es];show b+u*m<=_;omega,hb⟩
  ·obtain⟨a1,a2,a3⟩:=yhb hu h3 ms _ (λx hx=>hm x (by simp[hx])) m3 p hp
   exact⟨by omega,by rw[es];omega,a3⟩
theorem yfP {m:Mt}(g:GoodM m):(yax m.tp m.bt m.gs).sum=m.tp:=by
 obtain⟨t1,t2,b,_,_,sm,_⟩:=g
 obtain⟨tp,bt,gs⟩:=m
 dsimp only at *
 by_cases z:gs=[]
 ·subst z
  have:tp=1∨tp=2∨tp=3∨tp=4∨tp=5∨tp=6∨tp=7∨tp=8∨tp=9∨tp=10∨tp=11∨tp=12:=by omega
  rcases b with rfl | rfl | rfl<;>rcases this with rfl | rfl | rfl | rfl | rfl | rfl | rfl | rfl | rfl | rfl | rfl | rfl<;>decide
 ·unfold yax
  rw[if_pos z]
  exact sm.resolve_left z
theorem yg0 {m:Mt}(g:GoodM m):∀ x∈yax m.tp m.bt m.gs,0<=x:=λx hx=>(ygu (bot:=m.bt) (tp:=m.tp) (gs:=m.gs) (λy hy=>by have:=g.gs y hy;have:=g.t2;omega) x hx).1
theorem yc3 {m:Mt}(g:GoodM m):∀ p∈ybo m,0<=p.1/\p.2<=yfB m/\p.1%3=0:=λp hp=>by
 have h:=yhb (u:=96 / m.bt) (by rcases g.b with h | h | h<;>rw[h]<;>decide) (by rcases g.b with h | h | h<;>rw[h]<;>decide) _ 0 (yg0 g) rfl p hp
 rw[yfP g] at h
 exact⟨h.1,by unfold yfB;rw[Int.mul_comm];omega,h.2.2⟩
noncomputable def yj7 (ss:List Sn):List Int:=(List.range (ss.length+1)).map λi=>yaW (ss.take i)
theorem yoM (a b:Int):(a<=mx a b/\b<=mx a b)/\(mx a b=a∨mx a b=b):=by unfold mx;split<;>omega
theorem ym2 (a b:Int):(mn a b<=a/\mn a b<=b)/\(mn a b=a∨mn a b=b):=by unfold mn;split<;>omega
theorem mem_strts {b e:Int}{sps:List ykd}{u:Int×Int}:u∈yeO (yda b e sps)↔∃ s∈sps,mx b s.b < mn e s.e/\u=(mx b s.b - b,mn e s.e - mx b s.b):=by
 unfold yeO yda
 constructor
 ·intro h
  obtain⟨x,hx,rfl⟩:=List.mem_map.mp h
  obtain⟨s,hs,e⟩:=List.mem_filterMap.mp hx
  unfold yka at e
  split at e
  ·rename_i z
   cases e
   exact⟨s,hs,z,rfl⟩
  ·cases e
 ·rintro⟨s,hs,z,rfl⟩
  exact List.mem_map.mpr ⟨_,List.mem_filterMap.mpr ⟨s,hs,by unfold yka;rw[if_pos z]⟩,rfl⟩
theorem mem_spans {ss:List Sn}{L:Int}{b e:Int}:(∃ s∈ycS ss L,s.b=b/\s.e=e)↔(∃ i,i < ss.length/\b=yaW (ss.take i)/\e=yaW (ss.take (i+1)))∨(b=yaW ss/\e=L):=by
 unfold ycS yir
 constructor
 ·rintro⟨s,hs,rfl,rfl⟩
  rcases List.mem_append.mp hs with hs | hs
  ·obtain⟨i,hi,rfl⟩:=List.mem_map.mp hs
   exact .inl ⟨i,List.mem_range.mp hi,rfl,rfl⟩
  ·rw[List.mem_singleton.mp hs]
   exact .inr ⟨rfl,rfl⟩
 ·rintro(⟨i,hi,rfl,rfl⟩ | ⟨rfl,rfl⟩)
  ·exact⟨spn ss i,List.mem_append_left _ (List.mem_map.mpr ⟨i,List.mem_range.mpr hi,rfl⟩),rfl,rfl⟩
  ·exact⟨_,List.mem_append_right _ (List.mem_singleton.mpr rfl),rfl,rfl⟩
theorem ykB {ss:List Sn}(pos:Pos ss){b e L:Int}(hL:e<=L){p:Int}(h0:0 < p)(h1:p < e - b):p∈yaK (yeO (yda b e (ycS ss L)))↔p∈(yj7 ss).map (· - b):=by
 unfold yaK yj7
 rw[List.mem_append,List.mem_map,List.mem_map,List.mem_map]
 constructor
 ·rintro(⟨u,hu,rfl⟩ | ⟨u,hu,rfl⟩)
  ·obtain⟨s,hs,z,rfl⟩:=mem_strts.mp hu
   dsimp only at h0 h1
   have m1:=yoM b s.b
   have es:mx b s.b=s.b:=by omega
   rcases mem_spans.mp ⟨s,hs,rfl,rfl⟩ with ⟨i,hi,e1,_⟩ | ⟨e1,_⟩
   ·exact⟨s.b,List.mem_map.mpr ⟨i,List.mem_range.mpr (by omega),e1.symm⟩,by dsimp only;omega⟩
   ·exact⟨s.b,List.mem_map.mpr ⟨ss.length,List.mem_range.mpr (by omega),by rw[List.take_length,e1]⟩,by dsimp only;omega⟩
  ·obtain⟨s,hs,z,rfl⟩:=mem_strts.mp hu
   dsimp only at h0 h1
   have m2:=ym2 e s.e
   have es:mn e s.e=s.e:=by omega
   rcases mem_spans.mp ⟨s,hs,rfl,rfl⟩ with ⟨i,hi,_,e2⟩ | ⟨_,e2⟩
   ·exact⟨s.e,List.mem_map.mpr ⟨i+1,List.mem_range.mpr (by omega),e2.symm⟩,by dsimp only;omega⟩
   ·omega
 ·rintro⟨x,hx,rfl⟩
  obtain⟨i,hi,rfl⟩:=List.mem_map.mp hx
  have hi:=List.mem_range.mp hi
  have m1:=yoM b (yaW (ss.take i))
  refine .inl ?_
  by_cases z:i < ss.length
  ·obtain⟨s,hs,e1,e2⟩:=mem_spans.mpr (.inl ⟨i,z,rfl,rfl⟩:(∃ j,j < ss.length/\yaW (ss.take i)=yaW (ss.take j)/\yaW (ss.take (i+1))=yaW (ss.take (j+1)))∨(yaW (ss.take i)=yaW ss/\yaW (ss.take (i+1))=L))
   have hp:=pos _ (List.getElem_mem z)
   have su:=ygO z
   have m2:=ym2 e (yaW (ss.take (i+1)))
   exact⟨_,mem_strts.mpr ⟨s,hs,by rw[e1,e2];omega,rfl⟩,by rw[e1];dsimp only;omega⟩
  ·have ei:i=ss.length:=by omega
   subst ei
   rw[List.take_length] at *
   obtain⟨s,hs,e1,e2⟩:=mem_spans.mpr (.inr ⟨rfl,rfl⟩:(∃ j,j < ss.length/\yaW ss=yaW (ss.take j)/\L=yaW (ss.take (j+1)))∨(yaW ss=yaW ss/\L=L))
   have m2:=ym2 e L
   exact⟨_,mem_strts.mpr ⟨s,hs,by rw[e1,e2];omega,rfl⟩,by rw[e1];dsimp only;omega⟩
theorem yni {fw:List Fr}(h:∀ f∈fw,GoodM f.1){i:Nat}:∀ j,i<=j->j<=fw.length->bg fw i<=bg fw j
 | 0,h1,_=>by rw[show i=0 by omega];exact Int.le_refl _
 | j+1,h1,h2=>by
  by_cases z:i=j+1
  ·rw[z];exact Int.le_refl _
  ·have ih:=yni (i:=i) h j (by omega) (by omega)
   rw[ydl (fr:=fw) (i:=j) (by omega)]
   have g:=h _ (List.getElem_mem (show j < fw.length by omega))
   have:0<=yfB fw[j].1:=by unfold yfB;exact Int.mul_nonneg (by have:=g.t1;omega) (by rcases g.b with z | z | z<;>rw[z]<;>decide)
   omega
theorem ykq {fw:List Fr}{vss:List (List Sn)}{i v:Nat}(hi:i < fw.length)(gm:∀ f∈fw,GoodM f.1)(pos:Pos (vss.getD v [])):bad fw vss i v↔none∈ybA (ybo fw[i].1) ((yj7 (vss.getD v [])).map (· - bg fw i)):=by
 have g:=gm _ (List.getElem_mem hi)
 unfold bad ybq ybA yrk
 rw[ya7 hi,List.mem_map,List.mem_map]
 have e1:=ydl hi
 have le:=yni gm (i:=i+1) fw.length hi (Nat.le_refl _)
 have eq:∀ p∈ybo fw[i].1,ydy p.1 p.2 (yaK (yeO (yda (bg fw i) (bg fw (i+1)) (ycS (vss.getD v []) (bg fw fw.length)))))=yf7 p.1 p.2 ((yj7 (vss.getD v [])).map (· - bg fw i)):=λp hp=>by
  obtain⟨b1,b2,b3⟩:=yc3 g p hp
  rw[yeu b3]
  exact ygx λx h1 h2=>ykB pos le (by omega) (by omega)
 constructor
 ·rintro⟨p,hp,e⟩;exact⟨p,hp,by rw[← eq p hp];exact e⟩
 ·rintro⟨p,hp,e⟩;exact⟨p,hp,by rw[eq p hp];exact e⟩
theorem ymb {B:Nat->Nat->Prop}{n m i v i' v':Nat}(a:Fst B n m i v)(b:Fst B n m i' v'):i=i'/\v=v':=by
 have h1:¬ (i' < i∨i'=i/\v' < v):=λz=>a.no _ _ b.i1 b.v1 z b.b
 have h2:¬ (i < i'∨i=i'/\v < v'):=λz=>b.no _ _ a.i1 a.v1 z a.b
 omega
theorem _root_.L2.ExcAt.same {H H':Hp}{x:V}{C:Addr}{fs:List (Str×V)}(e:ExcAt H x C fs)(s:Same H H'):ExcAt H' x C fs:=by
 obtain⟨a,o,us,ex,hc,hf,ea,hd⟩:=e
 exact⟨a,o,us,ex,hc,hf,s _ _ ea,hd.imp id λ⟨dx,h1,h2⟩=>⟨dx,h1,s _ _ h2⟩⟩
inductive Ek where
 | row | tune | fine | page
 deriving DecidableEq
noncomputable def exC (t:Ad):Ek->Addr
 | .row=>t.Ud
 | .tune=>t.Ue
 | .fine=>t.Ug
 | .page=>t.Ui
noncomputable def exW:Ek->Str
 | .row => "row"
 | .tune => "tune"
 | .fine => "fine"
 | .page => "page"
noncomputable abbrev Ki (K:PySem.W.Frag)(c:Addr)(v:Value)(b:Bool):Prop:=PySem.W.kitOne K (.ref c) v=some b
theorem kx (T:Txt K mg t):∀ k,ExcK K (exC t k)/\Ki K (exC t k) (.ref t.Ud) (decide (k=.row))/\Ki K (exC t k) (.ref t.Ue) (decide (k=.tune))/\Ki K (exC t k) (.ref t.Uf) false/\Ki K (exC t k) (.ref t.Ug) (decide (k=.fine))/\Ki K (exC t k) (.ref t.Uh) false/\Ki K (exC t k) (.ref t.Ui) (decide (k=.page)) /\
  Ki K (exC t k) (.ref t.Uj) false/\Ki K (exC t k) (.ref t.Uk) false/\Ki K (exC t k) (.ref t.Ul) false/\Ki K (exC t k) (.type "ValueError") true
 | .row=>⟨T.QC,T.Qz,T.Qr,T.JL,T.Qs,T.JM,T.Qt,T.Qu,T.JN,T.Qa,T.JO⟩
 | .tune=>⟨T.Rh,T.Qw,T.Qh,T.JA,T.Qi,T.JB,T.Qj,T.Qk,T.JC,T.JT,T.JD⟩
 | .fine=>⟨T.Jd,T.Qv,T.Qc,T.Jw,T.Qe,T.Jx,T.Qf,T.Qg,T.Jy,T.JS,T.Jz⟩
 | .page=>⟨T.Qx,T.Qy,T.Ql,T.JE,T.Qm,T.JF,T.Qn,T.Qo,T.JG,T.JU,T.JH⟩
theorem yeq {x c:V}{C:Addr}{fs:List (Str×V)}{v:Value}{b:Bool}{H:Hp}{Q:VK}(hx:ExcAt H x C fs)(ek:ExcK K C)(cv:yqC c=some v)(kb:Ki K C v b)(q:Q (.bl b) H):yrB K [x,c] H Q:=⟨x,C,fs,c,v,b,rfl,hx,ek,cv,kb,q⟩
noncomputable def w4 (k:Ek):List V:=[V.bl (decide (k=.row)),V.bl (decide (k=.tune)),V.bl false,V.bl (decide (k=.fine))]
noncomputable def w3 (k:Ek):List V:=[V.bl false,V.bl (decide (k=.page)),V.bl false]
noncomputable def w7 (k:Ek):List V:=[V.bl (decide (k=.row)),V.bl (decide (k=.tune)),V.bl false,V.bl (decide (k=.fine)),V.bl false,V.bl (decide (k=.page)),V.bl false]
noncomputable def w9 (k:Ek):List V:=[V.bl (decide (k=.row)),V.bl (decide (k=.tune)),V.bl false,V.bl (decide (k=.fine)),V.bl false,V.bl (decide (k=.page)),V.bl false,V.bl false,V.bl false]
noncomputable def jx:Ek->Nat
 | .row=>0
 | .tune=>1
 | .fine=>3
 | .page=>5
noncomputable def wds:List V:=[.str "row",.str "tune",.str "reach",.str "fine",.str "stretch",.str "page",.str "roll",.str "place",.str "width"]
theorem yp4 {k:Ek}{i:Nat}{z:V}(hi:i < jx k)(h:(w9 k)[i]?=some z):eqV z (.bl true)=false:=by
 have:i=0∨i=1∨i=2∨i=3∨i=4:=by cases k<;>simp[jx] at hi<;>omega
 rcases this with rfl | rfl | rfl | rfl | rfl<;>cases k<;>first | exact absurd hi (by decide) | (cases h;rfl)
noncomputable def ygV (t:Ad):Sp:=λvs H Q _=>∃ (x:V) (k:Ek) (fs:List (Str×V)),vs=[x]/\ExcAt H x (exC t k) fs/\∀ H',Same H H'->Q (.str (exW k)) H'
theorem yrc (T:Txt K mg t):FnOkN P w K mg base CX0 1 t.f_zW t.d_zW ["_law_e"] (ygV t):=by
 refine T.zW.F.okN sc_zW (λvs H Q E h=>?_) (λ_ _ _ s H vs Q E hr h=>?_)
 ·obtain⟨_,_,_,rfl,_⟩:=h;rfl
 have hu:=hr.units
 obtain⟨x,k,fs,rfl,hx,q⟩:=h
 obtain⟨ek,k1,k2,k3,k4,k5,k6,k7,k8,k9,k0⟩:=kx T k
 refine⟨_,(yae (yar (i:=1) sc_zW.nd rfl (Or.inl rfl) (yaw (yaa (yal yby rfl T.Ja yaj (yaa (pv 0) (yaa (ybc (v:=.ref t.Ud) rfl T.QR rfl) yab))) (yaa (yal yby rfl T.Ja yaj (yaa (pv 0) (yaa (ybc (v:=.ref t.Ue) rfl T.QG rfl) yab))) (yaa (yal yby rfl T.Ja yaj (yaa (pv 0) (yaa (ybc (v:=.ref t.Uf) rfl T.QJ rfl) yab))) (yaa (yal yby rfl T.Ja yaj (yaa (pv 0) (yaa (ybc (v:=.ref t.Ug) rfl T.Qp rfl) yab))) yab)))))) (yae (yar (i:=1) sc_zW.nd rfl (Or.inl rfl) (yaF ydU (pv 1) (yaw (yaa (yal yby rfl T.Ja yaj (yaa (pv 0) (yaa (ybc (v:=.ref t.Uh) rfl T.QK rfl) yab))) (yaa (yal yby rfl T.Ja yaj (yaa (pv 0) (yaa (ybc (v:=.ref t.Ui) rfl T.QH rfl) yab))) (yaa (yal yby rfl T.Ja yaj (yaa (pv 0) (yaa (ybc (v:=.ref t.Uj) rfl T.Rc rfl) yab))) yab)))))) (yae (yar (i:=1) sc_zW.nd rfl (Or.inl rfl) (yaF ydU (pv 1) (yaw (yaa (yal yby rfl T.Ja yaj (yaa (pv 0) (yaa (ybc (v:=.ref t.Uk) rfl T.QL rfl) yab))) (yaa (yal yby rfl T.Ja yaj (yaa (pv 0) (yaa (ybc (v:=.ref t.Ul) rfl T.QX rfl) yab))) yab))))) (yae (yaY (PW.pt (ycz (yaz yih (ybN F.plainAttrs_list F.slot_list_count F.type_list_count ykU (pv 1) (yaa ybt yab)) yac (yau _)) (ybW (ybd (yaQ (yal yby rfl T.Ja yaj (yaa (pv 0) (yaa (ybF rfl T.QN ydR) yab)))))))) (yag (yao yaN)) yaA) (yae (yar (i:=2) sc_zW.nd rfl (Or.inl rfl) (yaw (yaa yaN (yaa yaN (yaa yaN (yaa yaN (yaa yaN (yaa yaN (yaa yaN (yaa yaN (yaa yaN yab))))))))))) (yag (yao (yas yaL (pv 2) (ybN F.plainAttrs_list F.slot_list_index F.type_list_index ykT (pv 1) (yaa ybt yab)) (λ_ _=>rfl))))))))),?_⟩
 walk_at ""
 refine yeq hx ek rfl k1 ?_
 walk_at ""
 refine yeq hx ek rfl k2 ?_
 walk_at ""
 refine yeq hx ek rfl k3 ?_
 walk_at ""
 refine yeq hx ek rfl k4 ?_
 walk_at ""
 refine⟨show 4<=sizeLine by decide,λp1 h1=>?_⟩
 have s1:=yaf h1 (HO.lst (w4 k))
 have x1:=hx.same s1
 walk_at ""
 refine yeq x1 ek rfl k5 ?_
 walk_at ""
 refine yeq x1 ek rfl k6 ?_
 walk_at ""
 refine yeq x1 ek rfl k7 ?_
 walk_at ""
 refine⟨show 3<=sizeLine by decide,λp2 h2=>?_⟩
 have s2:=yaf h2 (HO.lst (w3 k))
 refine⟨p1,p2,_,_,rfl,rfl,s2 _ _ yad,yad,show 7<=sizeLine by decide,λp3 h3=>?_⟩
 have s3:=yaf h3 (HO.lst (w7 k))
 have s13:Same H (upd (upd (upd H p1 (HO.lst (w4 k))) p2 (HO.lst (w3 k))) p3 (HO.lst (w7 k))):=s1.trans (s2.trans s3)
 have e3:=(yad (H:=upd (upd H p1 (HO.lst (w4 k))) p2 (HO.lst (w3 k))) (a:=p3) (o:=HO.lst (w7 k)))
 show ybm 1 (V.ref p3) _ (upd (upd (upd H p1 (HO.lst (w4 k))) p2 (HO.lst (w3 k))) p3 (HO.lst (w7 k))) _
 generalize upd (upd (upd H p1 (HO.lst (w4 k))) p2 (HO.lst (w3 k))) p3 (HO.lst (w7 k))=H3 at s13 e3 ⊢
 have x3:=hx.same s13
 walk_at ""
 refine yeq x3 ek rfl k8 ?_
 walk_at ""
 refine yeq x3 ek rfl k9 ?_
 walk_at ""
 refine⟨show 2<=sizeLine by decide,λp4 h4=>?_⟩
 have s4:=yaf h4 (HO.lst [V.bl false,V.bl false])
 refine⟨p3,p4,_,_,rfl,rfl,s4 _ _ e3,yad,show 9<=sizeLine by decide,λp5 h5=>?_⟩
 have s5:=yaf h5 (HO.lst (w9 k))
 have s15:Same H (upd (upd H3 p4 (HO.lst [V.bl false,V.bl false])) p5 (HO.lst (w9 k))):=s13.trans (s4.trans s5)
 have e5:=(yad (H:=upd H3 p4 (HO.lst [V.bl false,V.bl false])) (a:=p5) (o:=HO.lst (w9 k)))
 show ybm 1 (V.ref p5) _ (upd (upd H3 p4 (HO.lst [V.bl false,V.bl false])) p5 (HO.lst (w9 k))) _
 generalize upd (upd H3 p4 (HO.lst [V.bl false,V.bl false])) p5 (HO.lst (w9 k))=H5 at s15 e5 ⊢
 walk_at ""
 refine⟨.inl ⟨rfl,_,SqL.of e5⟩,?_⟩
 walk_at ""
 refine⟨p5,_,_,rfl,rfl,SqL.of e5,rfl,by cases k<;>rfl,?_⟩
 rw[show((w9 k).countP λz=>eqV z (.bl true))=1 by cases k<;>rfl]
 walk_at ""
 refine yh9 (ya2 ?_)
 rw[show(!decide (((1:Nat):Int)=1))=false by decide]
 refine i_F ?_
 walk_at ""
 refine yeq (hx.same s15) ek rfl k0 (ya2 ?_)
 refine i_F ?_
 walk_at ""
 refine⟨show 9<=sizeLine by decide,λp6 h6=>?_⟩
 have s6:=yaf h6 (HO.lst wds)
 walk_at ""
 refine⟨.inl ⟨rfl,_,SqL.of (s6 _ _ e5)⟩,?_⟩
 walk_at ""
 refine⟨p5,_,_,jx k,rfl,rfl,SqL.of (s6 _ _ e5),rfl,by cases k<;>rfl,by cases k<;>decide,λz h=>by cases k<;>(cases h;rfl),λi z hi h=>yp4 hi h,?_⟩
 refine ybp (SqL.of yad) (v:=.str (exW k)) (yak (j:=jx k) (by cases k<;>rfl)) (q _ (s15.trans s6))
theorem yeo (T:Txt K mg t):FnOkN P w K mg base CX0 1 t.f_zB t.d_zB ["_law_found"] ydo:=by
 refine T.zB.F.okN ypA (λvs H Q E h=>?_) (λ_ _ _ s H vs Q E hr h=>?_)
 ·obtain⟨_,rfl,_⟩:=h;rfl
 have hu:=hr.units
 obtain⟨n,rfl,q⟩:=h
 refine⟨_,(yag (yao (ya0 (yal yaO rfl T.Ja yaj (yaa (pv 0) (yaa (ybF rfl T.Ru yhj) yab))) (ya5 (ygX (yal yaO rfl T.Ja yaj (yaa (pv 0) (yaa (ybF rfl T.QA ycr) yab)))))))),?_⟩
 walk_at ""
 refine ybO (.int n) (ya2 (i_T ?_))
 walk_at ""
 exact ybO (.int n) (ya2 q)
section
variable {C:Addr} {σ:St} {H:Hp} {y z:V} {Q:VK} {ta:TA}
theorem mk2 (ht:∀ R:List V->Hp->Prop,R [y,z] H->ta σ H R)(q:∀ e H2,Same H H2->ExcAt H2 (.ref e) C [("bar",y),("voice",z)]->Q (.ref e) H2):ymx C (ypg C) ta σ H Q :=
 ht _ ⟨show 2<=1000 by decide,λe o us he hc hd hf=>⟨e,o,us,y,z,rfl,yad,hc,hd,hf,λdx hx ne=>⟨rfl,q e _ (λb u eb=>by
  rw[yai ne] at hx
  rw[yai (yam eb hx),yai (yam eb he),yai (yam eb he)]
  exact eb) ⟨e,{ o with dict:=some dx },us,rfl,hc,hf,by rw[yai ne.symm,yad],.inr ⟨dx,rfl,yad⟩⟩⟩⟩⟩
theorem mk1 (ht:∀ R:List V->Hp->Prop,R [y] H->ta σ H R)(q:∀ e H2,Same H H2->ExcAt H2 (.ref e) C [("row",y)]->Q (.ref e) H2):ymx C (you C) ta σ H Q :=
 ht _ ⟨show 1<=1000 by decide,λe o us he hc hd hf=>⟨e,o,us,y,rfl,yad,hc,hd,hf,λdx hx ne=>⟨rfl,q e _ (λb u eb=>by
  rw[yai ne] at hx
  rw[yai (yam eb hx),yai (yam eb he),yai (yam eb he)]
  exact eb) ⟨e,{ o with dict:=some dx },us,rfl,hc,hf,by rw[yai ne.symm,yad],.inr ⟨dx,rfl,yad⟩⟩⟩⟩⟩
theorem mk0 (ht:∀ R:List V->Hp->Prop,R [y] H->ta σ H R)(q:∀ e H2,Same H H2->ExcAt H2 (.ref e) C []->Q (.ref e) H2):yrF C ta σ H Q :=
 ht _ ⟨show 1<=1000 by decide,λe o us he hc hd hf=>q e _ (yaf he _) ⟨e,o,us,rfl,hc,hf,yad,.inl ⟨hd,rfl⟩⟩⟩
end
theorem ydw {x:V}{C:Addr}{fs:List (Str×V)}{f:Str}{v:V}{σ:St}{H:Hp}{Q:VK}{ta:TE}(ha:∀ Q':VK,Q' x H->ta σ H Q')(hx:ExcAt H x C fs)(ek:ExcK K C)(n:NoAttr K C f)(l:fs.lookup f=some v)(q:Q v H):ynB K ta f σ H Q:=ha _ ⟨C,fs,v,hx,ek,n,l,q⟩
noncomputable def fourK:List Ek:=[.row,.fine,.tune,.page]
theorem yjg {vs:List V}(h:vs.all imV=true):OkE (.ls (vs.map Th.im)):=⟨ybT λu hu=>by obtain⟨v,hv,rfl⟩:=List.mem_map.mp hu;exact List.all_eq_true.mp h v hv,yhS (k:=59) (ydv λu hu=>by obtain⟨v,_,rfl⟩:=List.mem_map.mp hu;exact ybC)⟩
theorem yfG {H:Hp}{D:Addr}{vs:List V}(h:vs.all imV=true)(e:H D=some (.lst vs)):Is H (.ref D) (.ls (vs.map Th.im)):=ybV e (yfm h)
noncomputable def ylM:Sp:=λvs H Q _=>∃ n:Int,vs=[.int n]/\∀ H',Same H H'->Q (.bl true) H'
theorem ypu (T:Txt K mg t)(G_zd:FnOk P w K mg base CX0 1 t.f_zd t.d_zd ["self","row"] (you t.Ud))(G_zc:FnOk P w K mg base CX0 1 t.f_zc t.d_zc ["self","row"] (you t.Ui))(G_za:FnOk P w K mg base CX0 1 t.f_za t.d_za ["self","bar","voice"] (ypg t.Ug))
  (G_zW:FnOk P w K mg base CX0 1 t.f_zW t.d_zW ["_law_e"] (ygV t)):FnOk P w K mg base CX0 3 t.f_zq t.d_zq ["_law_number"] ylM:=by
 refine T.zq.F.ok sc_zq (λvs H Q E h=>?_) (λ_ _ _ s H vs Q E hr h=>?_)
 ·obtain⟨_,rfl,_⟩:=h;rfl
 have hu:=ybr hr
 obtain⟨n,rfl,q⟩:=h
 refine⟨_,(yae (yar (i:=1) sc_zq.nd rfl (Or.inl rfl) (ygT F.excBase_ValueError T.QI G_za (hr.mono (by first | decide | omega)) T.za.B rfl T.Qp (yaa (pv 0) (yaa yac yab)))) (yae (yar (i:=2) sc_zq.nd rfl (Or.inl rfl) (yaw (yaa (ygT F.excBase_ValueError T.Rm G_zd (hr.mono (by first | decide | omega)) T.zd.B rfl T.QR (yaa (pv 0) yab)) (yaa (pv 1) (yaa (yod F.excBase_ValueError rfl T.QG T.Ri T.Rj (yaa yaN yab)) (yaa (ygT F.excBase_ValueError T.Re G_zc (hr.mono (by first | decide | omega)) T.zc.B rfl T.QH (yaa (pv 0) yab)) yab)))))) (yae (yaY (yaz (yc4 hu) (yaS (yaB (NB:=["_law_one"]) (cap:=[none]) rfl) rfl (yaE (pv 2)) (λ_ _ _ _=>(yaq (i:=0) (show List.Nodup (["_law_one"]:List Str) by decide) rfl (Or.inl rfl))) (λ_ _ _ _=>yaG) (λ_ _ _ _=>(pcl G_zW hr T.zW (yaa (pv 0) yab)))) (yaw (yaa yaN (yaa yaN (yaa yaN (yaa yaN yab))))) (yau _)) (yag (yao ybt)) yaA) (yag (yao (yaJ (ycl hu) (yaw (yaa (yco (yas yaL (pv 2) yac (λ_ _=>rfl)) rfl) (yaa (yco (yas yaL (pv 2) yac (λ_ _=>rfl)) rfl) (yaa (yco (pv 1) rfl) (yaa (yco (pv 1) rfl) yab))))) (yaw (yaa (pv 0) (yaa (pv 0) (yaa (pv 0) (yaa yac yab))))) (yau _))))))),?_⟩
 walk_at ""
 refine mk2 (λR r=>⟨_,rfl,r⟩) λe1 H1 s1 x1=>?_
 walk_at ""
 refine mk1 (λR r=>⟨_,rfl,r⟩) λe2 H2 s2 x2=>?_
 walk_at ""
 refine mk0 (λR r=>r) λe3 H3 s3 x3=>?_
 walk_at ""
 refine mk1 (λR r=>⟨_,rfl,r⟩) λe4 H4 s4 x4=>?_
 walk_at ""
 refine⟨show 4<=sizeLine by decide,λL hL=>?_⟩
 have s5:=yaf hL (HO.lst [V.ref e2,V.ref e1,V.ref e3,V.ref e4])
 have eL:=yad (H:=H4) (a:=L) (o:=HO.lst [V.ref e2,V.ref e1,V.ref e3,V.ref e4])
 generalize upd H4 L (HO.lst [V.ref e2,V.ref e1,V.ref e3,V.ref e4])=H5 at s5 eL ⊢
 have y1:=x1.same (s2.trans (s3.trans (s4.trans s5)))
 have y2:=x2.same (s3.trans (s4.trans s5))
 have y3:=x3.same (s4.trans s5)
 have y4:=x4.same s5
 have al:Al (λx k=>∃ fs,ExcAt H5 x (exC t k) fs) [V.ref e2,V.ref e1,V.ref e3,V.ref e4] fourK:=⟨rfl,λi hi=>by
  have:i=0∨i=1∨i=2∨i=3:=by have:i < 4:=hi;omega
  rcases this with rfl | rfl | rfl | rfl
  ·exact⟨_,rfl,_,y2⟩
  ·exact⟨_,rfl,_,y1⟩
  ·exact⟨_,rfl,_,y3⟩
  ·exact⟨_,rfl,_,y4⟩⟩
 walk_at ""
 refine⟨L,rfl,⟨_,SqL.of eL⟩,λD hD=>ybb (λk:Ek=>.str (exW k)) eL al hD (by decide) (λx k H' Q' _ sm ⟨fs,rx⟩ q'=>?_) λH6 s6 e6=>?_⟩
 ·walk_at ""
  exact⟨x,k,fs,rfl,rx.same sm,q'⟩
 walk_at ""
 refine⟨show 4<=sizeLine by decide,λp7 h7=>?_⟩
 have s7:=yaf h7 (HO.lst (fourK.map λk:Ek=>V.str (exW k)))
 refine ymp (yjg (vs:=fourK.map λk:Ek=>.str (exW k)) rfl) (yfG rfl (s7 _ _ e6)) (yfG rfl yad) (ya2 (i_F ?_))
 have s17:=s6.trans s7
 have z1:=y1.same s17
 walk_at ""
 refine ydw (λQ' q'=>⟨_,rfl,ybp (SqL.of (s17 _ _ eL)) (yak (j:=0) rfl) q'⟩) (y2.same s17) T.QC T.Qb rfl ?_
 walk_at ""
 refine ydw (λQ' q'=>⟨_,rfl,ybp (SqL.of (s17 _ _ eL)) (yak (j:=3) rfl) q'⟩) (y4.same s17) T.Qx T.JQ rfl ?_
 walk_at ""
 refine ydw (iv 1 rfl) z1 T.Jd T.Jn rfl ?_
 walk_at ""
 refine ydw (iv 1 rfl) z1 T.Jd T.Jh rfl ?_
 walk_at ""
 refine⟨show 4<=sizeLine by decide,λp8 h8=>?_⟩
 walk_at ""
 refine⟨show 4<=sizeLine by decide,λp9 h9=>?_⟩
 have s8:=yaf h8 (HO.lst [V.int n,V.int n,V.int n,V.int 2])
 have s9:=yaf h9 (HO.lst [V.int n,V.int n,V.int n,V.int 2])
 exact yjQ (yjg (vs:=[V.int n,V.int n,V.int n,V.int 2]) rfl) (yfG rfl (s9 _ _ yad)) (yfG rfl yad) (q _ (s1.trans (s2.trans (s3.trans (s4.trans (s5.trans (s17.trans (s8.trans s9))))))))
noncomputable def metresL:List Mt:=[⟨4,4,[]⟩,⟨3,4,[]⟩,⟨2,4,[]⟩,⟨6,8,[]⟩,⟨7,8,[3,2,2]⟩,⟨5,8,[]⟩,⟨3,8,[]⟩,⟨2,2,[]⟩,⟨12,8,[]⟩,⟨3,4,[1,2]⟩,⟨9,8,[]⟩,⟨4,2,[]⟩,⟨7,8,[]⟩,⟨5,8,[1,1,3]⟩,⟨4,8,[4]⟩]
theorem ydY:∀ m∈metresL,GoodM m/\36<=yfB m:=by
 have key:∀ m∈metresL,(1<=m.tp/\m.tp<=12/\(m.bt=2∨m.bt=4∨m.bt=8)/\m.tp*(96 / m.bt)<=192/\(∀ g∈m.gs,1<=g/\g<=m.tp)/\(m.gs=[]∨m.gs.sum=m.tp)/\m.gs.length<=12)/\36<=m.tp*(96 / m.bt):=by decide
 exact λm hm=>let ⟨⟨a,b,c,d,e,f,g⟩,h⟩:=key m hm;⟨⟨a,b,c,d,e,f,g⟩,h⟩
noncomputable def yiW (K:PySem.W.Frag):Sp:=λvs H Q _=>∃ (a tp:Addr) (ns:List Int) (N:Nat),vs=[.ref a,.ref tp]/\Dr K a tp ns H N/\N<=100000/\∀ (y:V) (m:Mt) (H':Hp),m∈metresL->SameT tp H H'->Dr K a tp ns H' (N+1)->Is (fr H H') y (mtT m)->Q y H'
theorem yrq (T:Txt K mg t)(G_zQ:FnOk P w K mg base CX0 1 t.f_zQ t.d_zQ ["_law_script","_law_tape","_law_size"] (yeH K)):FnOk P w K mg base CX0 2 t.f_zH t.d_zH ["_law_script","_law_tape"] (yiW K):=by
 refine T.zH.F.ok sc_zH (λvs H Q E h=>?_) (λ_ _ _ s' H vs Q E hr h=>?_)
 ·obtain⟨_,_,_,_,rfl,_⟩:=h;rfl
 have hu:=ybr hr
 obtain⟨a,tp,ns,N,rfl,dr,hN,q⟩:=h
 refine⟨_,(yae (yar (i:=2) sc_zH.nd rfl (Or.inl rfl) (yaw (yaa (yay (yaa yac (yaa yac (yaa (yay yab) yab)))) (yaa (yay (yaa yac (yaa yac (yaa (yay yab) yab)))) (yaa (yay (yaa yac (yaa yac (yaa (yay yab) yab)))) (yaa (yay (yaa yac (yaa yac (yaa (yay yab) yab)))) (yaa (yay (yaa yac (yaa yac (yaa (yay (yaa yac (yaa yac (yaa yac yab)))) yab)))) (yaa (yay (yaa yac (yaa yac (yaa (yay yab) yab)))) (yaa (yay (yaa yac (yaa yac (yaa (yay yab) yab)))) (yaa (yay (yaa yac (yaa yac (yaa (yay yab) yab)))) yab)))))))))) (yae (yar (i:=2) sc_zH.nd rfl (Or.inl rfl) (yaF ydU (pv 2) (yaw (yaa (yay (yaa yac (yaa yac (yaa (yay yab) yab)))) (yaa (yay (yaa yac (yaa yac (yaa (yay (yaa yac (yaa yac yab))) yab)))) (yaa (yay (yaa yac (yaa yac (yaa (yay yab) yab)))) (yaa (yay (yaa yac (yaa yac (yaa (yay yab) yab)))) (yaa (yay (yaa yac (yaa yac (yaa (yay yab) yab)))) (yaa (yay (yaa yac (yaa yac (yaa (yay (yaa yac (yaa yac (yaa yac yab)))) yab)))) (yaa (yay (yaa yac (yaa yac (yaa (yay (yaa yac yab)) yab)))) yab)))))))))) (yag (yao (yas yaL (pv 2) (pcl G_zQ hr T.zQ (yaa (pv 0) (yaa (pv 1) (yaa yac yab)))) (λ_ _=>rfl)))))),?_⟩
 refine ydx (yfV ?_)
 refine(show yip _ (.ls ((metresL.take 8).map mtT)) from ?_) _ _ _ λx H1 s1 i1=>?_
 ·refine yph ?_ (by decide)
  repeat (first | exact ylD | refine ylK ?_ ?_ | refine yio ?_ (by decide) | exact ylR rfl)
 rw[Is] at i1
 obtain⟨a1,xs,rfl,e1,is1⟩:=i1
 refine ybI (ydx (yfV (ypi (ymA rfl ?_))))
 refine(show yip _ (.ls ((metresL.drop 8).map mtT)) from ?_) _ _ _ λy H2 s2 i2=>?_
 ·refine yph ?_ (by decide)
  repeat (first | exact ylD | refine ylK ?_ ?_ | refine yio ?_ (by decide) | exact ylR rfl)
 rw[Is] at i2
 obtain⟨b1,ys,rfl,e2,is2⟩:=i2
 have l8:xs.length=8:=is1.len
 have l7:ys.length=7:=is2.len
 have s14:=s1.trans s2
 have is5:Iss (fr H H2) (xs++ys) (metresL.map mtT):=(is1.same (yfa s2)).app (is2.same (ycJ s1))
 refine⟨a1,b1,xs,ys,rfl,rfl,s2 _ _ (ybf e1).2,(ybf e2).2,by rw[l8,l7];decide,λp hp=>?_⟩
 have s5:=yaf hp (.lst (xs++ys))
 have ep:upd H2 p (.lst (xs++ys)) p=some (.lst (xs++ys)):=yad
 have is6:=is5.same (yfa s5)
 have s15:=s14.trans s5
 generalize upd H2 p (.lst (xs++ys))=H5 at s15 ep is6 ⊢
 walk_at ""
 refine⟨a,tp,ns,N,15,rfl,dr.same s15,hN,by decide,by decide,λv H6 v0 v1 s6 d6=>?_⟩
 obtain⟨u,et⟩:=dr.some
 have np:p≠tp:=λe=>by rw[e] at hp;rw[s14 _ _ et] at hp;cases hp
 obtain⟨y,ey,iy⟩:=is6.at' v.toNat (by rw[List.length_map];show v.toNat < 15;omega)
 rw[List.getElem_map] at iy
 have ea:=yak ey
 rw[Int.toNat_of_nonneg v0] at ea
 exact ybp (SqL.of (s6 _ _ np ep)) ea (q y _ H6 (List.getElem_mem _) (SameT.trans (Same.tt s15) s6) d6 (iy.same (dr.fr s6)))
theorem ymN {L:List Int}{v:Int}(v0:0<=v)(v1:v < L.length):atI (L.map V.int) v=some (.int (L[v.toNat]'(by omega))):=by
 have:=yak (xs:=L.map V.int) (j:=v.toNat) (v:=.int (L[v.toNat]'(by omega))) (by rw[List.getElem?_map,List.getElem?_eq_getElem (by omega)];rfl)
 rwa [Int.toNat_of_nonneg v0] at this
theorem Dr.ne {a tp p:Addr}{ns:List Int}{H:Hp}{N:Nat}(d:Dr K a tp ns H N)(hp:H p=none):p≠tp:=λe=>by
 obtain⟨u,et⟩:=d.some
 rw[e,et] at hp
 cases hp
theorem Dr.put {a tp D:Addr}{ns:List Int}{H H':Hp}{N M:Nat}{o:HO}(d:Dr K a tp ns H N)(hD:H D=none)(s:SameT tp H H')(d':Dr K a tp ns H' M):Dr K a tp ns (upd H' D o) M:=by
 refine⟨d.src.sameT (yec s hD),d.sm,?_⟩
 obtain⟨n,l,e⟩:=d'.tape
 exact⟨n,l,by rw[yai (d.ne hD).symm];exact e⟩
noncomputable def AccT {α:Type}(f:α->Th)(tp:Addr)(H0 H:Hp)(D:Addr)(us:List α):Prop:=SameT tp H0 H/\∃ ks,H D=some (.lst ks)/\Iss (rm (fr H0 H) D) ks (us.map f)
section
variable {α:Type} {f:α->Th} {a tp D:Addr} {ns:List Int} {N:Nat} {H0 H H':Hp} {us:List α}
theorem AccT.nil (hD:H0 D=none):AccT f tp H0 (upd H0 D (.lst [])) D []:=⟨Same.tt (yaf hD _),[],yad,yaV _⟩
theorem AccT.tt (d:Dr K a tp ns H0 N)(hD:H0 D=none)(h:AccT f tp H0 H D us)(s:SameT tp H H'):AccT f tp H0 H' D us:=by
 obtain⟨sm,ks,hd,is⟩:=h
 exact⟨SameT.trans sm s,ks,s _ _ (d.ne hD) hd,is.same (ydj λb u _ e=>d.fr s b u e)⟩
theorem AccT.new (d:Dr K a tp ns H N)(h:AccT f tp H0 H D us):Same (fr H H') (rm (fr H0 H') D):=λb u e=>by
 obtain⟨sm,ks,hd,_⟩:=h
 obtain⟨n,e⟩:=ybf e
 rw[yeS (λz=>by rw[z,hd] at n;cases n),ybH (d.free sm n)]
 exact e
theorem AccT.put (d:Dr K a tp ns H0 N)(hD:H0 D=none)(h:AccT f tp H0 H D us){y:V}{u:α}(iy:Is (rm (fr H0 H) D) y (f u)):∃ ks,H D=some (.lst ks)/\ks.length=us.length/\AccT f tp H0 (upd H D (.lst (ks++[y]))) D (us++[u]):=by
 obtain⟨sm,ks,hd,is⟩:=h
 refine⟨ks,hd,by rw[is.len,List.length_map],yec sm hD,_,yad,?_⟩
 rw[List.map_append]
 exact(is.same yfS).app (yav (iy.same yfS) (yaV _))
theorem AccT.fin (hD:H0 D=none)(h:AccT f tp H0 H D us):Is (fr H0 H) (.ref D) (.ls (us.map f)):=by
 obtain⟨sm,ks,hd,is⟩:=h
 exact ybV (by rw[ybH hD];exact hd) (is.same (yeZ _ _))
end
theorem ym9 {te:TS}{D:ydh}{σ:St}{H:Hp}(P:St->Hp->Prop)(h1:∀ D':ydh,(∀ σ H,P σ H->D'.nx σ H)->te D' σ H)(h2:∀ σ H,P σ H->D.nx σ H):te D σ H:=h1 D h2
noncomputable def yeP (K:PySem.W.Frag):Sp:=λvs H Q _=>∃ (a tp:Addr) (ns:List Int) (N:Nat) (way:Int),vs=[.ref a,.ref tp,.int way]/\Dr K a tp ns H N/\N<=90000/\∀ (n:Int) (H':Hp),2<=n->n<=96->SameT tp H H'->Dr K a tp ns H' (N+1)->Q (.int n) H'
theorem yg1 {a tp p:Addr}{ns:List Int}{N:Nat}{H H':Hp}{Q:VK}{L:List Int}{u:Int}(d:Dr K a tp ns H N)(hp:H p=none)(s:SameT tp (upd H p (.lst (L.map V.int))) H')(u0:0<=u)(u1:u < L.length)(q:∀ x∈L,Q (.int x) H'):ypj K (.ref p) (.int u) H' Q :=
 ybp (SqL.of (s _ _ (d.ne hp) yad)) (ymN u0 u1) (q _ (List.getElem_mem _))
theorem yqj (T:Txt K mg t)(G_zQ:FnOk P w K mg base CX0 1 t.f_zQ t.d_zQ ["_law_script","_law_tape","_law_size"] (yeH K)):FnOk P w K mg base CX0 2 t.f_zw t.d_zw ["_law_script","_law_tape","_law_way"] (yeP K):=by
 refine T.zw.F.ok yq1 (λvs H Q E h=>?_) (λ_ _ _ s' H vs Q E hr h=>?_)
 ·obtain⟨_,_,_,_,_,rfl,_⟩:=h;rfl
 have hu:=ybr hr
 obtain⟨a,tp,ns,N,way,rfl,dr,hN,q⟩:=h
 refine⟨_,(yae (yaY (yaz ycm (pv 2) yac (yau _)) (yag (yao (yaF yb0 yac (yaF ya6 yac (pcl G_zQ hr T.zQ (yaa (pv 0) (yaa (pv 1) (yaa yac yab)))))))) yaA) (yae (yaY (yaz ycm (pv 2) yac (yau _)) (yag (yao (yas yaL (yaw (yaa yac (yaa yac (yaa yac (yaa yac (yaa yac (yaa yac (yaa yac (yaa yac yab))))))))) (pcl G_zQ hr T.zQ (yaa (pv 0) (yaa (pv 1) (yaa yac yab)))) (λ_ _=>rfl)))) yaA) (yae (yaY (yaz ycm (pv 2) yac (yau _)) (yag (yao (yas yaL (yaw (yaa yac (yaa yac (yaa yac (yaa yac (yaa yac (yaa yac yab))))))) (pcl G_zQ hr T.zQ (yaa (pv 0) (yaa (pv 1) (yaa yac yab)))) (λ_ _=>rfl)))) yaA) (yag (yao (yaF ya6 yac (pcl G_zQ hr T.zQ (yaa (pv 0) (yaa (pv 1) (yaa yac yab)))))))))),?_⟩
 walk_at ""
 refine i_d (λ_=>?_) λ_=>?_
 ·walk_at ""
  refine⟨a,tp,ns,N,16,rfl,dr,by omega,by decide,by decide,λv H1 v0 v1 s1 d1=>?_⟩
  walk_at ""
  exact q _ _ (by omega) (by omega) s1 d1
 walk_at ""
 refine i_d (λ_=>?_) λ_=>?_
 ·walk_at ""
  refine⟨by show 8<=sizeLine;decide,λp hp=>?_⟩
  have s2:=yaf hp (.lst ([8,16,4,12,24,2,6,14].map V.int))
  walk_at ""
  refine⟨a,tp,ns,N,8,rfl,dr.same s2,by omega,by decide,by decide,λu H3 u0 u1 s3 d3=>?_⟩
  exact yg1 (L:=[8,16,4,12,24,2,6,14]) dr hp s3 u0 u1 λx hx=>q x H3 (by simp at hx;omega) (by simp at hx;omega) (SameT.trans (Same.tt s2) s3) d3
 walk_at ""
 refine i_d (λ_=>?_) λ_=>?_
 ·walk_at ""
  refine⟨by show 6<=sizeLine;decide,λp hp=>?_⟩
  have s2:=yaf hp (.lst ([24,12,48,36,72,96].map V.int))
  walk_at ""
  refine⟨a,tp,ns,N,6,rfl,dr.same s2,by omega,by decide,by decide,λu H3 u0 u1 s3 d3=>?_⟩
  exact yg1 (L:=[24,12,48,36,72,96]) dr hp s3 u0 u1 λx hx=>q x H3 (by simp at hx;omega) (by simp at hx;omega) (SameT.trans (Same.tt s2) s3) d3
 walk_at ""
 refine⟨a,tp,ns,N,40,rfl,dr,by omega,by decide,by decide,λv H1 v0 v1 s1 d1=>?_⟩
 walk_at ""
 exact q _ _ (by omega) (by omega) s1 d1
noncomputable def ylz (K:PySem.W.Frag):Sp:=λvs H Q _=>∃ (a tp:Addr) (ns:List Int) (N:Nat) (size:Int),vs=[.ref a,.ref tp,.int size]/\Dr K a tp ns H N/\N<=80000/\0<=size/\size<=192/\∀ (y:V) (us:List yex) (H':Hp),us.length<=192->SameT tp H H'->Dr K a tp ns H' (N+600)->Is (fr H H') y (.ls (us.map stT))->Q y H'
theorem yqt (T:Txt K mg t)(G_zQ:FnOk P w K mg base CX0 1 t.f_zQ t.d_zQ ["_law_script","_law_tape","_law_size"] (yeH K))(G_zw:FnOk P w K mg base CX0 2 t.f_zw t.d_zw ["_law_script","_law_tape","_law_way"] (yeP K)):FnOk P w K mg base CX0 3 t.f_zf t.d_zf ["_law_script","_law_tape","_law_size"] (ylz K):=by
 refine T.zf.F.ok sc_zf (λvs H Q E h=>?_) (λ_ _ _ s' H vs Q E hr h=>?_)
 ·obtain⟨_,_,_,_,_,rfl,_⟩:=h;rfl
 have hu:=ybr hr
 obtain⟨a,tp,ns,N,size,rfl,dr,hN,z0,z1,q⟩:=h
 refine⟨_,(yae (yar (i:=3) sc_zf.nd rfl (Or.inl rfl) (yaw yab)) (yae (yar (i:=4) sc_zf.nd rfl (Or.inl rfl) yac) (yae (ydC PassesOwn.never (yaz yel (pv 4) (pv 2) (yau _)) (yae (yar (i:=5) sc_zf.nd rfl (Or.inl rfl) (yas yaL (yaw (yaa yac (yaa yac (yaa yac (yaa yac (yaa yac (yaa yac yab))))))) (pcl G_zQ hr T.zQ (yaa (pv 0) (yaa (pv 1) (yaa yac yab)))) (λ_ _=>rfl))) (yae (yar (i:=6) sc_zf.nd rfl (Or.inl rfl) (yal (yfK rfl) rfl T.Rv yhf (yaa (yaF yb2 (pv 2) (pv 4)) (yaa (pcl G_zw hr T.zw (yaa (pv 0) (yaa (pv 1) (yaa (pv 5) yab)))) yab)))) (yae (yar (i:=7) sc_zf.nd rfl (Or.inl rfl) (yal yaD rfl T.Jj PySem.boot_len (yaa (pv 3) yab))) (yae (yaY (PW.pt (yd6 (yaz ycm (pcl G_zQ hr T.zQ (yaa (pv 0) (yaa (pv 1) (yaa yac yab)))) yac (yau _)) (ydf (PW.pt (ycz (yaz (yla hu) (pv 3) (yaw yab) (yau _)) (ybW (yaz yfk (yas yap (yas yaL (pv 3) (ycM ybR yac) (λ_ _=>rfl)) yac (λ_ _=>rfl)) ybB (yau _)))))))) (yag (yar (i:=7) sc_zf.nd rfl (Or.inl rfl) ybB)) yaA) (yae (yaH (ybN F.plainAttrs_list F.slot_list_append F.type_list_append yaM (pv 3) (yaa (yay (yaa (pv 4) (yaa (pv 6) (yaa (pv 7) (yaa (ya0 (yaJ yfk (pv 7) ybB (yau _)) (ya5 (yaJ ycm (pv 4) yac (yau _)))) (yaa ybt yab)))))) yab))) (yag (yar (i:=4) sc_zf.nd rfl (Or.inl rfl) (yaF ya6 (pv 4) (pv 6)))))))))) (yag (yao (pv 3)))))),?_⟩
 walk_at ""
 refine⟨Nat.zero_le _,λD hD=>?_⟩
 walk_at ""
 refine⟨λn σ H'=>∃ (us:List yex) (at':Int) (o5 o6 o7:Option V),n=(size - at').toNat/\σ=[some (.ref a),some (.ref tp),some (.int size),some (.ref D),some (.int at'),o5,o6,o7]/\0<=at'/\at'<=size/\(us.length:Int)<=at'/\AccT stT tp H H' D us/\Dr K a tp ns H' (N+3*us.length),⟨_,[],0,_,_,_,rfl,rfl,by omega,z0,by simp,AccT.nil hD,dr.same (yaf hD _)⟩,?_⟩
 rintro n σ H' ⟨us,at',o5,o6,o7,rfl,rfl,a0,a1,lu,acc,dd⟩
 walk_at ""
 refine i_d (λh=>?_) λh=>?_
 ·refine⟨fun σ' H''=>∃ (us:List yex) (at2:Int) (o5 o6 o7:Option V),at' < at2/\σ'=[some (.ref a),some (.ref tp),some (.int size),some (.ref D),some (.int at2),o5,o6,o7]/\0<=at2/\at2<=size/\(us.length:Int)<=at2/\AccT stT tp H H'' D us/\Dr K a tp ns H'' (N+3*us.length),fun σ' H'' ⟨us,at2,o5,o6,o7,lt,z⟩=>⟨_,by omega,us,at2,o5,o6,o7,rfl,z⟩,?_⟩
  walk_at ""
  refine⟨by show 6<=sizeLine;decide,λp hp=>?_⟩
  have s2:=yaf hp (.lst ([0,1,1,2,2,3].map V.int))
  walk_at ""
  refine⟨a,tp,ns,_,6,rfl,dd.same s2,by omega,by decide,by decide,λu H3 u0 u1 s3 d3=>?_⟩
  refine yg1 (L:=[0,1,1,2,2,3]) dd hp s3 u0 u1 λway _=>?_
  have s23:=SameT.trans (Same.tt s2) s3
  have acc3:=AccT.tt dr hD acc s23
  walk_at ""
  refine⟨a,tp,ns,_,way,rfl,d3,by omega,λm H4 m0 m1 s4 d4=>?_⟩
  have acc4:=AccT.tt dr hD acc3 s4
  walk_at ""
  refine⟨_,_,rfl,?_⟩
  obtain⟨l,el,l0,l1⟩:∃ l,(if m < size - at' then m else size - at')=l/\1<=l/\l<=size - at':=⟨_,rfl,by split<;>omega,by split<;>omega⟩
  rw[el]
  obtain⟨_,ks,hd,is⟩:=id acc4
  have lk:ks.length=us.length:=by have:=is.len;rwa [List.length_map] at this
  walk_at ""
  refine⟨D,ks,rfl,.inl (SqL.of hd),?_⟩
  refine ybI (ydx (ym9 (te:=yne _ _ _) (fun σ H5=>∃ o:Option Nat,σ=[some (.ref a),some (.ref tp),some (.int size),some (.ref D),some (.int at'),some (.int way),some (.int l),some (oV o)]/\AccT stT tp H H5 D us/\Dr K a tp ns H5 (N+3*us.length+3)) (λD' hD'=>?_) fun σ H5 p=>?_))
  ·have done:∀ (c:Bool) (H5:Hp),AccT stT tp H H5 D us->Dr K a tp ns H5 (N+3*us.length+3)->if c=true then ynd (tC V.non) (ybm 7) D' [some (.ref a),some (.ref tp),some (.int size),some (.ref D),some (.int at'),some (.int way),some (.int l),some (oV (some ks.length))] H5 else ykD D' [some (.ref a),some (.ref tp),some (.int size),some (.ref D),some (.int at'),some (.int way),some (.int l),some (oV (some ks.length))] H5:=λc H5 a5 d5=>by
    refine i_b (λ_=>?_) λ_=>?_
    ·exact hD' _ _ ⟨none,rfl,a5,d5⟩
    ·exact hD' _ _ ⟨some ks.length,rfl,a5,d5⟩
   walk_at ""
   refine⟨a,tp,ns,_,3,rfl,d4,by omega,by decide,by decide,λw H5 w0 w1 s5 d5=>?_⟩
   have acc5:=AccT.tt dr hD acc4 s5
   obtain⟨_,ks5,hd5,is5⟩:=id acc5
   walk_at ""
   refine i_d (λ_=>?_) λ_=>?_
   ·walk_at ""
    refine⟨Nat.zero_le _,λp6 h6=>?_⟩
    have s6:=yaf h6 (.lst [])
    have acc6:=AccT.tt dr hD acc5 (Same.tt s6)
    refine⟨D,p6,ks5,rfl,rfl,SqL.of (s6 _ _ hd5),SqL.of yad,ya2 ?_⟩
    refine i_b (λ_=>done true _ acc6 (d5.same s6)) λne=>?_
    have al5:=ya4 is5
    have nu:us≠[]:=λz=>by
     have:=al5.1
     rw[z] at this
     rw[List.length_eq_zero_iff.mp this] at ne
     cases ne
    obtain⟨zs,z,ezs,sz,_⟩:=ybZ al5 (List.getLast?_eq_some_getLast nu)
    obtain⟨c,rfl,ec⟩:=sz.st
    have ec6:=s6 _ _ ((ybf (ycQ ec).2).2)
    have hd6:=s6 _ _ hd5
    rw[ezs] at hd6
    walk_at ""
    refine ybp (SqL.of hd6) (ybx zs _) ?_
    walk_at ""
    refine yaI (SqT.of ec6) (yak (j:=2) rfl) ?_
    walk_at ""
    exact⟨rfl,ya2 (done _ _ acc6 (d5.same s6))⟩
   ·exact done false _ acc5 d5
  obtain⟨o,rfl,acc5,d5⟩:=p
  obtain⟨_,ks5,hd5,is5⟩:=id acc5
  walk_at ""
  refine⟨.inl ⟨rfl,_,SqL.of hd5⟩,?_⟩
  walk_at ""
  have fin:∀ (co:Bool) (p:Addr),H5 p=none->∃ ks',(upd H5 p (.tup [.int at',.int l,oV o,.bl co,.bl false])) D=some (.lst ks')/\ks'.length<=192/\AccT stT tp H (upd (upd H5 p (.tup [.int at',.int l,oV o,.bl co,.bl false])) D (.lst (ks'++[.ref p]))) D (us++[⟨at',l,o,co,false⟩])/\Dr K a tp ns (upd (upd H5 p (.tup [.int at',.int l,oV o,.bl co,.bl false])) D (.lst (ks'++[.ref p]))) (N+3*us.length+3):=λco p hp=>by
   have s6:=yaf hp (.tup [.int at',.int l,oV o,.bl co,.bl false])
   have ip:Is (fr H5 (upd H5 p (.tup [.int at',.int l,oV o,.bl co,.bl false]))) (.ref p) (stT ⟨at',l,o,co,false⟩):=yo2 (by rw[ybH hp];exact yad)
   have acc6:=AccT.tt dr hD acc5 (Same.tt s6)
   obtain⟨ks',hd',lk,acc7⟩:=acc6.put dr hD (ip.same (AccT.new d5 acc5))
   exact⟨ks',hd',by omega,acc7,dr.put hD acc6.1 (d5.same s6)⟩
  have lp:∀ co:Bool,((us++[(⟨at',l,o,co,false⟩:yex)]).length:Int)<=at'+l:=λco=>by rw[List.length_append,List.length_singleton];omega
  refine⟨rfl,ya2 ?_⟩
  refine i_b (λ_=>?_) λ_=>?_
  ·walk_at ""
   refine⟨by show 5<=sizeLine;decide,λp hp=>?_⟩
   obtain⟨ks',h1,h2,h3,h4⟩:=fin _ p hp
   walk_at ""
   refine ybQ h1 (yat (by omega)) ?_
   walk_at ""
   exact⟨_,at'+l,_,_,_,by omega,rfl,by omega,by omega,lp _,h3,h4.up (by rw[List.length_append,List.length_singleton];omega)⟩
  ·walk_at ""
   refine⟨by show 5<=sizeLine;decide,λp hp=>?_⟩
   obtain⟨ks',h1,h2,h3,h4⟩:=fin false p hp
   walk_at ""
   refine ybQ h1 (yat (by omega)) ?_
   walk_at ""
   exact⟨_,at'+l,_,_,_,by omega,rfl,by omega,by omega,lp _,h3,h4.up (by rw[List.length_append,List.length_singleton];omega)⟩
 ·obtain⟨_,ks,hd,is⟩:=id acc
  walk_at ""
  have lu':us.length<=192:=by omega
  exact q _ us H' lu' acc.1 (dd.up (by omega)) (AccT.fin hD acc)
noncomputable def prT (p:Int×Int):Th:=.tp [nT p.1,nT p.2]
theorem Is.pr {H:Hp}{x:V}{p:Int×Int}(h:Is H x (prT p)):∃ q,x=.ref q/\H q=some (.tup [.int p.1,.int p.2]):=by
 rw[prT,Is] at h
 obtain⟨a,xs,rfl,e,is⟩:=h
 rw[Iss.ims (vs:=[.int p.1,.int p.2]) is] at e
 exact⟨a,rfl,e⟩
theorem yc5 {H:Hp}:∀ {rs:List V} {ps:List (Int×Int)},PairsAt H rs ps->Iss H rs (ps.map prT)
 | [],[],_=>yaV _
 | [],_ :: _,h=>h.elim
 | _ :: _,[],h=>by unfold PairsAt at h;exact h.elim
 | r :: rs,(a,b) :: ps,h=>by
  obtain⟨⟨q,rfl,eq⟩,h2⟩:=h
  exact yav (ycV eq (yav (yin _ _) (yav (yin _ _) (yaV _)))) (yc5 h2)
theorem ynF {H:Hp}{ys:List V}{bs:List (Int×Int)}(h:Iss H ys (bs.map prT)):Al (yrC H) ys bs:=(ya4 h).imp λx p _ i=>i.pr
theorem ynI {H:Hp}{ys:List V}{bs:List (Int×Int)}(h:Iss H ys (bs.map prT)):Al (ynE H) ys bs:=(ya4 h).imp λx p _ i=>by
 obtain⟨q,e,h⟩:=i.pr
 exact⟨q,[],e,h⟩
theorem yfx {bs:List (Int×Int)}{ps:List Int}(h:∀ b∈bs,b.1%3=0):ybA bs ps=ybq bs ps:=List.map_congr_left λb hb=>yeu (h b hb)
noncomputable def obT (o:Option Bool):Th:=.im (obV o)
theorem ynV (o:Option Bool):imV (obV o)=true:=by cases o with | none=>rfl | some b=>rfl
noncomputable def ym8 (L:List (Option Bool)):Th:=if none∈L then .im .non else .ls (L.map obT)
theorem ymP (L:List (Option Bool)):OkE (ym8 L):=by
 unfold ym8
 split
 ·exact⟨rfl,ybC⟩
 ·exact⟨ybT λu hu=>by obtain⟨o,_,rfl⟩:=List.mem_map.mp hu;exact ynV o,yhS (k:=59) (ydv λu hu=>by obtain⟨o,_,rfl⟩:=List.mem_map.mp hu;exact ybC)⟩
theorem ylx {H:Hp}{y:V}{L:List (Option Bool)}(h:none∈L/\y=.non∨none∉L/\∃ D,y=.ref D/\H D=some (.lst (L.map obV))):Is H y (ym8 L):=by
 unfold ym8
 rcases h with ⟨h,rfl⟩ | ⟨h,D,rfl,e⟩
 ·rw[if_pos h];exact ybz rfl
 ·rw[if_neg h,show L.map obT=(L.map obV).map Th.im by rw[List.map_map];rfl]
  exact yfG (by rw[List.all_map,List.all_eq_true];exact λo _=>ynV o) e
noncomputable def yrP (us:List yex)(bs:List (Int×Int)):Th:=.ls [.ls (us.map stT),.ls (bs.map prT)]
theorem ymT (us:List yex)(bs:List (Int×Int)):OkE (yrP us bs):=by
 have c1:∀ s:yex,ycN (stT s)=true/\dpT (stT s)<=1:=λs=>⟨by show(true&&(true&&(imV (oV s.o)&&(true&&(true&&true)))))=true;rw[ymk];rfl,yjP (k:=0) (ybP ybC (ybP ybC (ybP ybC (ybP ybC (ybP ybC yg2)))))⟩
 have c2:∀ p:Int×Int,ycN (prT p)=true/\dpT (prT p)<=1:=λp=>⟨rfl,yjP (k:=0) (ybP ybC (ybP ybC yg2))⟩
 refine⟨ybT λu hu=>?_,Nat.le_trans (yhS (k:=2) (ydv λu hu=>?_)) (by decide)⟩
 ·simp only[List.mem_cons,List.not_mem_nil,or_false] at hu
  rcases hu with rfl | rfl
  ·exact ybT λu hu=>by obtain⟨o,_,rfl⟩:=List.mem_map.mp hu;exact(c1 o).1
  ·exact ybT λu hu=>by obtain⟨o,_,rfl⟩:=List.mem_map.mp hu;exact(c2 o).1
 ·simp only[List.mem_cons,List.not_mem_nil,or_false] at hu
  rcases hu with rfl | rfl
  ·exact yhS (k:=1) (ydv λu hu=>by obtain⟨o,_,rfl⟩:=List.mem_map.mp hu;exact(c1 o).2)
  ·exact yhS (k:=1) (ydv λu hu=>by obtain⟨o,_,rfl⟩:=List.mem_map.mp hu;exact(c2 o).2)
noncomputable def ylP:Sp:=λvs H Q _=>∃ (a c:Addr) (xs ys:List V) (us:List yex) (bs:List (Int×Int)),vs=[.ref a,.ref c]/\H a=some (.lst xs)/\Iss H xs (us.map stT)/\H c=some (.lst ys)/\Iss H ys (bs.map prT)/\us.length<=192/\bs.length<=100/\(∀ b∈bs,b.1%3=0)/\∀ H',Same H H'->Q (.bl true) H'
theorem yqM (T:Txt K mg t)(G_zx:FnOk P w K mg base CX0 1 t.f_zx t.d_zx ["_law_borders","_law_pairs"] ygz)(G_zT:FnOk P w K mg base CX0 2 t.f_zT t.d_zT ["stretches","beats"] yfl):FnOk P w K mg base CX0 3 t.f_zg t.d_zg ["_law_stretches_here","_law_pairs"] ylP:=by
 refine T.zg.F.ok sc_zg (λvs H Q E h=>?_) (λ_ _ _ s H vs Q E hr h=>?_)
 ·obtain⟨_,_,_,_,_,_,rfl,_⟩:=h;rfl
 have hu:=ybr hr
 obtain⟨a,c,xs,ys,us,bs,rfl,ea,ix,ec,iy,lu,lb,b3,q⟩:=h
 have al:=ya4 ix
 refine⟨_,(yae (yar (i:=2) sc_zg.nd rfl (Or.inl rfl) (yaF ydU (yaS (yaB (NB:=["_law_one"]) (cap:=[none]) rfl) rfl (yaE (pv 0)) (λ_ _ _ _=>(yaq (i:=0) (show List.Nodup (["_law_one"]:List Str) by decide) rfl (Or.inl rfl))) (λ_ _ _ _=>yaG) (λ_ _ _ _=>(yas (show IxR _ (yew K) from yap) (pv 0) yac (λ_ _=>rfl)))) (yaS (yaB (NB:=["_law_one"]) (cap:=[none]) rfl) rfl (yaE (pv 0)) (λ_ _ _ _=>(yaq (i:=0) (show List.Nodup (["_law_one"]:List Str) by decide) rfl (Or.inl rfl))) (λ_ _ _ _=>yaG) (λ_ _ _ _=>(yaF ya6 (yas (show IxR _ (yew K) from yap) (pv 0) yac (λ_ _=>rfl)) (yas (show IxR _ (yew K) from yap) (pv 0) yac (λ_ _=>rfl))))))) (yae (yar (i:=3) sc_zg.nd rfl (Or.inl rfl) (pcl G_zx hr T.zx (yaa (pv 2) (yaa (pv 1) yab)))) (yae (yar (i:=4) sc_zg.nd rfl (Or.inl rfl) (yaw (yaa (ybD ya8 rfl T.Jk ya3 (yaa (pv 0) yab)) (yaa (ybD ya8 rfl T.Jk ya3 (yaa (pv 1) yab)) yab)))) (yae (ybs PassesOwn.never rfl (ydO rfl T.JW (yaa yac yab)) (yaq (i:=5) sc_zg.nd rfl (Or.inl rfl)) (yae (yar (i:=6) sc_zg.nd rfl (Or.inl rfl) (pcl G_zT hr T.zT (yaa (yas yaL (pv 4) yac (λ_ _=>rfl)) (yaa (yas yaL (pv 4) yac (λ_ _=>rfl)) yab)))) (yae (yaY (PW.pt (ycz (yaz (yc4 hu) (pv 6) (pv 3) (yau _)) (ybW (yaz (yc4 hu) (pv 4) (yaw (yaa (pv 0) (yaa (pv 1) yab))) (yau _))))) (yag (yao ybt)) yaA) (yag (yaY (yaz yfk (pv 3) ybB (yau _)) (yae (yaY (PW.pt (ycz (ybd (yaQ (yal yaO rfl T.Ja yaj (yaa (pv 6) (yaa (ybF rfl T.Jk ya3) yab))))) (ybW (ybd (yaQ (yal (ybK rfl) rfl T.JV ybJ (yaa (yaS (yaB (NB:=["_law_one"]) (cap:=[none]) rfl) rfl (yaE (pv 6)) (λ_ _ _ _=>(yaq (i:=0) (show List.Nodup (["_law_one"]:List Str) by decide) rfl (Or.inl rfl))) (λ_ _ _ _=>yaG) (λ_ _ _ _=>(yal yaO rfl T.Ja yaj (yaa (pv 0) (yaa (ybF rfl T.QA ycr) yab))))) yab))))))) (yag (yao ybt)) yaA) (yag (yaH (ybN F.plainAttrs_list F.slot_list_append F.type_list_append yaM (pv 6) (yaa ybB yab))))) yaA))))) (yag (yao ybt)))))),?_⟩
 walk_at ""
 refine⟨a,rfl,⟨_,SqL.of ea⟩,λD1 h1=>ybb (λu:yex=>.int u.a) ea al h1 (by omega) (λx u H' Q' _ sm rx q'=>?_) λH1 s1 e1=>?_⟩
 ·obtain⟨z,rfl,ez⟩:=(rx.same sm).st
  walk_at ""
  exact yaI (SqT.of ez) (yak (j:=0) rfl) (q' _ (Same.refl _))
 walk_at ""
 refine⟨a,rfl,⟨_,SqL.of (s1 _ _ ea)⟩,λD2 h2=>ybb (λu:yex=>.int (u.a+u.n)) (s1 _ _ ea) al h2 (by omega) (λx u H' Q' _ sm rx q'=>?_) λH2 s2 e2=>?_⟩
 ·obtain⟨z,rfl,ez⟩:=(rx.same (s1.trans sm)).st
  walk_at ""
  refine yaI (SqT.of ez) (yak (j:=0) rfl) ?_
  walk_at ""
  refine yaI (SqT.of ez) (yak (j:=1) rfl) ?_
  walk_at ""
  exact q' _ (Same.refl _)
 walk_at ""
 have s12:=s1.trans s2
 have lub:(yaK (yeO us)).length<=800:=by simp[yaK,yeO];omega
 refine⟨D1,D2,_,_,rfl,rfl,s2 _ _ e1,e2,by simp only[List.length_map];exact ydi (by show _<=1000;omega),λD3 h3=>?_⟩
 have s3:=yaf h3 (.lst (us.map (λu=>V.int u.a)++us.map (λu=>V.int (u.a+u.n))))
 have eb:(upd H2 D3 (.lst (us.map (λu=>V.int u.a)++us.map (λu=>V.int (u.a+u.n))))) D3=some (.lst ((yaK (yeO us)).map V.int)):=by
  rw[yad,yaK,yeO,List.map_append,List.map_map,List.map_map,List.map_map,List.map_map]
  rfl
 have s13:=s12.trans s3
 generalize upd H2 D3 (.lst (us.map (λu=>V.int u.a)++us.map (λu=>V.int (u.a+u.n))))=H3 at s13 eb ⊢
 walk_at ""
 refine⟨D3,c,ys,_,bs,rfl,eb,s13 _ _ ec,ynF (iy.same s13),lub,by omega,λy H4 s4 hy=>?_⟩
 rw[yfx b3] at hy
 generalize eL:ybq bs (yaK (yeO us))=L at hy
 have s14:=s13.trans s4
 have idue:Is H4 y (ym8 L):=ylx (hy.imp id λ⟨h,D,e,_,e'⟩=>⟨h,D,e,e'⟩)
 walk_at ""
 refine⟨a,xs,rfl,.inl (SqL.of (s14 _ _ ea)),λl1 hl1=>?_⟩
 have s5:=yaf hl1 (.lst xs)
 have e5:=yad (H:=H4) (a:=l1) (o:=.lst xs)
 have s15:=s14.trans s5
 have id5:=idue.same s5
 generalize upd H4 l1 (.lst xs)=H5 at s15 e5 id5 ⊢
 walk_at ""
 refine⟨c,ys,rfl,.inl (SqL.of (s15 _ _ ec)),λl2 hl2=>?_⟩
 have s6:=yaf hl2 (.lst ys)
 have e6:=yad (H:=H5) (a:=l2) (o:=.lst ys)
 have s16:=s15.trans s6
 have id6:=id5.same s6
 have e56:=s6 _ _ e5
 generalize upd H5 l2 (.lst ys)=H6 at s16 e6 id6 e56 ⊢
 walk_at ""
 refine⟨by show 2<=sizeLine;decide,λL0 hL0=>?_⟩
 have s7:=yaf hL0 (.lst [.ref l1,.ref l2])
 have e7:=yad (H:=H6) (a:=L0) (o:=.lst [.ref l1,.ref l2])
 have s17:=s16.trans s7
 have id7:=id6.same s7
 have e57:=s7 _ _ e56
 have e67:=s7 _ _ e6
 generalize upd H6 L0 (.lst [.ref l1,.ref l2])=H7 at s17 e7 id7 e57 e67 ⊢
 walk_at ""
 refine⟨2,rfl,by decide,by decide,ydg (λi σ H'=>(∃ o5 o6,σ=[some (.ref a),some (.ref c),some (.ref D3),some y,some (.ref L0),o5,o6])/\Same H7 H') ⟨⟨_,_,rfl⟩,Same.refl _⟩ ?_ ?_⟩
 ·rintro i σ H' N hN hi ⟨⟨o5,o6,rfl⟩,sm⟩
  have s18:=s17.trans sm
  have ix8:=ix.same s18
  have iy8:=iy.same s18
  walk_at ""
  refine ybp (SqL.of (sm _ _ e7)) (yak (j:=0) rfl) ?_
  walk_at ""
  refine ybp (SqL.of (sm _ _ e7)) (yak (j:=1) rfl) ?_
  walk_at ""
  refine⟨l1,l2,xs,ys,yeO us,bs,rfl,sm _ _ e57,ynt ix8,sm _ _ e67,ynI iy8,by rw[yeO,List.length_map];omega,by omega,λy2 H9 s9 hy2=>?_⟩
  rw[eL] at hy2
  have i9:Is H9 y2 (ym8 L):=ylx (hy2.imp id λ⟨h,D,e,_,e'⟩=>⟨h,D,e,e'⟩)
  have sm9:=sm.trans s9
  have s19:=s17.trans sm9
  walk_at ""
  refine ymp (ymP L) i9 (id7.same sm9) (ya2 (i_F ?_))
  walk_at ""
  refine⟨by show 2<=sizeLine;decide,λp hp=>?_⟩
  have s10:=yaf hp (.lst [.ref a,.ref c])
  have e10:=yad (H:=H9) (a:=p) (o:=.lst [.ref a,.ref c])
  have i10:=i9.same s10
  have fd10:∀ D,H9 D=some (.lst (L.map obV))->(upd H9 p (.lst [.ref a,.ref c])) D=some (.lst (L.map obV)):=λD e=>s10 _ _ e
  have sm10:=sm9.trans s10
  generalize upd H9 p (.lst [.ref a,.ref c])=H10 at e10 i10 sm10 fd10 ⊢
  have s20:=s17.trans sm10
  have two:∀ {L1 m1 m2:Addr},H10 L1=some (.lst [.ref m1,.ref m2])->H10 m1=some (.lst xs)->H10 m2=some (.lst ys)->Is H10 (.ref L1) (yrP us bs):=λh0 h1 h2=>ybV h0 (yav (ybV h1 (ix.same s20)) (yav (ybV h2 (iy.same s20)) (yaV _)))
  refine ymp (ymT us bs) (two (sm10 _ _ e7) (sm10 _ _ e57) (sm10 _ _ e67)) (two e10 (s20 _ _ ea) (s20 _ _ ec)) (ya2 (i_F ?_))
  walk_at ""
  rcases hy with ⟨h,rfl⟩ | ⟨h,D,rfl,_,_⟩
  ·refine⟨rfl,ya2 (i_n (λz=>absurd rfl (of_decide_eq_false z)) λ_=>?_)⟩
   exact hN _ _ ⟨⟨_,_,rfl⟩,sm10⟩
  ·refine⟨rfl,ya2 (i_n (λ_=>?_) λz=>nomatch of_decide_eq_true z)⟩
   rcases hy2 with ⟨h2,_⟩ | ⟨_,D2,rfl,n2,e2'⟩
   ·exact absurd h2 h
   have f2:=fd10 _ e2'
   walk_at ""
   refine ybO (.lst f2) (ya2 (i_F ?_))
   walk_at ""
   have lL:L.length<=100:=by rw[← eL,ybq,List.length_map];exact lb
   refine⟨D2,rfl,⟨_,SqL.of f2⟩,λD5 h5=>ybb (λ_:Option Bool=>.bl true) f2 (ylF (f:=obV) L) h5 (by omega) (λx o H' Q' ho sm rx q'=>?_) λH11 s11 e11=>?_⟩
   ·walk_at ""
    cases o with
    | none=>exact absurd ho h
    | some b =>
     subst rx
     exact ybO (.bl b) (q' _ (Same.refl _))
   walk_at ""
   refine yhA e11 (ya2 (i_F ?_))
   have sm11:=sm10.trans s11
   have f11:=s11 _ _ f2
   walk_at ""
   refine⟨.inl ⟨rfl,_,SqL.of f11⟩,?_⟩
   walk_at ""
   refine ybQ f11 (yat (by rw[List.length_map];omega)) (hN _ _ ⟨⟨_,_,rfl⟩,λb u e=>?_⟩)
   rw[yai (yam (sm _ _ e) n2)]
   exact sm11 _ _ e
 ·rintro σ H' ⟨⟨o5,o6,rfl⟩,sm⟩
  walk_at ""
  exact q _ (s17.trans sm)
theorem ykt {n:Nat}(h:0 < n):ixN n (-1)=some (n - 1):=by
 unfold ixN
 rw[if_neg (by omega)]
 simp
 omega
theorem yk0 {ys:List V}{x v:V}:(ys++[x]).set ((ys++[x]).length - 1) v=ys++[v]:=by
 rw[List.length_append,List.length_singleton,Nat.add_sub_cancel,List.set_append_right _ _ (Nat.le_refl _),Nat.sub_self]
 rfl
theorem ygG (b:Bool):eqT (ycy (.im (.str (if b then "rest" else "tones")))) (ycy (.im (.str "rest")))=b:=by cases b<;>rfl
theorem yqA {x:V}{s:Sn}{H:Hp}(h:Is H x (snT s)):∃ a ys,x=.ref a/\H a=some (.tup ys)/\ys[0]?=some (.str (if isR s then "rest" else "tones"))/\(isR s=true->ys[1]?=some (.int (snL s)))/\(isR s=false->ys[2]?=some (.int (snL s))):=by
 obtain⟨a,ys,e,ea,h1,h2⟩:=yrE h
 exact⟨a,_,e,ea,rfl,h1,h2⟩
theorem ygv {vs:List Sn}{s:Sn}(h:yaR (vs++[s])=vs++[s]):yaR vs=vs:=by
 rw[yaU] at h
 by_cases g:(isR s&&ycw (yaR vs))=true
 ·have hl:=congrArg List.length h
  rw[Bool.and_eq_true] at g
  obtain⟨us,m,e⟩:=ybe g.2
  have ln:=yb7 vs
  cases s with
  | tones=>cases g.1
  | rest n =>
   rw[e] at hl ln
   rw[ya9] at hl
   simp at hl ln
   omega
 ·rw[ybj (by simpa using g)] at h
  exact List.append_cancel_right h
theorem yhR (ss:List Sn):yaR (yaR ss)=yaR ss:=by
 refine ycx (p:=λss=>yaR (yaR ss)=yaR ss) rfl (λss s ih=>?_) ss
 rw[yaU]
 generalize yaR ss=ks at ih
 by_cases g:(isR s&&ycw ks)=true
 ·rw[Bool.and_eq_true] at g
  obtain⟨vs,m,rfl⟩:=ybe g.2
  cases s with
  | tones=>cases g.1
  | rest n =>
   have ev:=ygv ih
   have ne:ycw vs=false:=by
    rw[yaU,ev] at ih
    cases z:ycw vs with
    | false=>rfl
    | true =>
     obtain⟨us,k,rfl⟩:=ybe z
     rw[ya9] at ih
     have:=congrArg List.length ih
     simp at this
   rw[ya9,yaU,ev,ybj (by rw[ne,Bool.and_false])]
 ·rw[ybj (by simpa using g),yaU,ih,ybj (by simpa using g)]
theorem yfF {ss:List Sn}(h:ycw (ybg ss)=false):ybg (ybg ss)=ybg ss:=by
 have key:yaR (ybg ss)=ybg ss:=by
  have n:=yhR ss
  unfold ybg ycA
  by_cases g:ycw (yaR ss)=true
  ·rw[if_pos g]
   obtain⟨vs,m,e⟩:=ybe g
   rw[e] at n ⊢
   rw[List.dropLast_concat]
   exact ygv n
  ·rw[if_neg g]
   exact n
 show ycA (yaR (ybg ss))=_
 rw[key]
 unfold ycA
 rw[h]
 rfl
theorem ygM {ps:List Pit}{n:Int}{wd:Str}{op cl:Bool}(ss:List Sn):Sn.tones ps n wd op cl∈yaR ss->Sn.tones ps n wd op cl∈ss:=by
 refine ycx (p:=λss=>Sn.tones ps n wd op cl∈yaR ss->Sn.tones ps n wd op cl∈ss) id (λss s ih h=>?_) ss
 rw[yaU] at h
 by_cases g:(isR s&&ycw (yaR ss))=true
 ·rw[Bool.and_eq_true] at g
  obtain⟨vs,m,e⟩:=ybe g.2
  cases s with
  | tones=>cases g.1
  | rest k =>
   rw[e,ya9] at h
   rcases List.mem_append.mp h with h | h
   ·exact List.mem_append_left _ (ih (by rw[e];exact List.mem_append_left _ h))
   ·cases List.mem_singleton.mp h
 ·rw[ybj (by simpa using g)] at h
  rcases List.mem_append.mp h with h | h
  ·exact List.mem_append_left _ (ih h)
  ·exact List.mem_append_right _ h
theorem yi6 (ss:List Sn):∀ s∈ybg ss,s∈yaR ss:=λs h=>by
 unfold ybg ycA at h
 split at h
 ·exact List.dropLast_subset _ h
 ·exact h
theorem yhK {ss:List Sn}(g:GoodV ss)(e:ycw (ybg ss)=false):GoodV (ybg ss) where
 n1:=by
  have:=g.ne
  cases h:ybg ss with
  | nil=>exact(this h).elim
  | cons=>simp
 n2:=by have:=ygb ss;have:=g.n2;omega
 g s hs:=by
  have hf:=yi6 ss s hs
  have pf:=ycq g.pos
  cases s with
  | rest n =>
   have a:=pf _ hf
   have b:=yhI pf hf
   rw[yb6] at b
   have c:=g.sum
   exact⟨a,by have b:n<=yaW ss:=b;omega⟩
  | tones=>exact g.g _ (ygM ss hf)
 sum:=by
  have a:=yeA (ycq g.pos)
  have b:=yb6 ss
  have c:=g.sum
  show yaW (ycA (yaR ss))<=1000
  omega
 ne:=by rw[yfF e];exact g.ne
 sl:=by rw[ydT];exact g.sl
theorem AccT.last {α:Type}{f:α->Th}{a tp D:Addr}{ns:List Int}{N:Nat}{H0 H:Hp}{us:List α}{u:α}(d:Dr K a tp ns H0 N)(hD:H0 D=none)(h:AccT f tp H0 H D (us++[u])):∃ zs z,H D=some (.lst (zs++[z]))/\zs.length=us.length/\Is (rm (fr H0 H) D) z (f u)/\∀ y u',Is (rm (fr H0 H) D) y (f u')->AccT f tp H0 (upd H D (.lst (zs++[y]))) D (us++[u']):=by
 obtain⟨sm,ks,hd,is⟩:=h
 obtain⟨zs,z,rfl,sz,vs,ev,az⟩:=ybZ (ya4 is) (u:=u) (by rw[List.getLast?_append];rfl)
 obtain rfl:=List.append_cancel_right ev
 refine⟨zs,z,hd,az.1,sz,λy u' iy=>⟨yec sm hD,_,yad,?_⟩⟩
 rw[List.map_append]
 exact((ycY az).same yfS).app (yav (iy.same yfS) (yaV _))
structure VOk (ss:List Sn):Prop where
 g:GoodV ss
 td:ybg ss=ss
 er:ycw ss=false
 su:yaW ss<=773
structure RInv (rs:List Sn) (n:Nat) (m:Int):Prop where
 g:∀ s∈rs,ygd s
 len:rs.length<=n
 su:yaW rs<=m
 sl:∀ r,ycE false r->ycE false (flags rs++r)
theorem RInv.add {rs:List Sn}{n n':Nat}{m m':Int}{s:Sn}(h:RInv rs n m)(gs:ygd s)(hn:n+1<=n')(hm:m+snL s<=m')(sl:∀ r,ycE false r->ycE false (flags [s]++r)):RInv (rs++[s]) n' m' where
 g z hz:=by
  rcases List.mem_append.mp hz with hz | hz
  ·exact h.g z hz
  ·rw[List.mem_singleton.mp hz];exact gs
 len:=by rw[List.length_append,List.length_singleton];have:=h.len;omega
 su:=by rw[ybL,ycj];have:=h.su;omega
 sl r hr:=by rw[yb4,List.append_assoc];exact h.sl _ (sl r hr)
theorem RInv.up {rs:List Sn}{n n':Nat}{m m':Int}(h:RInv rs n m)(a:n<=n')(b:m<=m'):RInv rs n' m':=⟨h.g,Nat.le_trans h.len a,Int.le_trans h.su b,h.sl⟩
noncomputable def ygN (st oc:Int):List Pit:=[⟨st,0,oc⟩]
theorem yfR {st oc:Int}(h:0<=st/\st<=6)(h2:0<=oc/\oc<=8):yj4 (ygN st oc):=⟨by simp[ygN],by simp[ygN],λp hp=>by
 rw[List.mem_singleton.mp hp]
 exact⟨h.1,h.2,by show(-2:Int)<=0;decide,by show(0:Int)<=2;decide,h2.1,h2.2⟩,λi hi=>by
 simp only[ygN,List.length_singleton] at hi
 omega⟩
theorem yqo {rs:List Sn}{n:Nat}{m:Int}(h:RInv rs n m)(hn:n<=90)(hm:m<=700):VOk (yaR rs++[.tones (ygN 0 5) 24 "" false false]):=by
 have gt:ygd (.tones (ygN 0 5) 24 "" false false):=⟨yfR ⟨by decide,by decide⟩ ⟨by decide,by decide⟩,by decide,by decide,by decide,λc h=>nomatch h⟩
 have e1:yaR (rs++[.tones (ygN 0 5) 24 "" false false])=yaR rs++[.tones (ygN 0 5) 24 "" false false]:=by rw[yaU,ybj rfl]
 have r1:ycw (yaR rs++[.tones (ygN 0 5) 24 "" false false])=false:=by unfold ycw;rw[List.getLast?_append];rfl
 have e2:ybg (rs++[.tones (ygN 0 5) 24 "" false false])=yaR rs++[.tones (ygN 0 5) 24 "" false false]:=by unfold ybg ycA;rw[e1,r1];rfl
 have ri:RInv (rs++[.tones (ygN 0 5) 24 "" false false]) (n+1) (m+24):=h.add gt (Nat.le_refl _) (Int.le_refl _) λr hr=>⟨(λz=>nomatch z),(λz=>nomatch z),hr⟩
 have gv:GoodV (rs++[.tones (ygN 0 5) 24 "" false false]):=⟨by simp,by have:=ri.len;omega,ri.g,by have:=ri.su;omega,by rw[e2];simp,by have:=ri.sl [] rfl;rwa [List.append_nil] at this⟩
 rw[← e2]
 have er:ycw (ybg (rs++[.tones (ygN 0 5) 24 "" false false]))=false:=by rw[e2];exact r1
 exact⟨yhK gv er,yfF er,er,by rw[e2,← e1,yb6];have:=ri.su;omega⟩
theorem ygh {H:Hp}{p1 p2 p3:Addr}{st oc n:Int}(h1:H p1=none)(h2:upd H p1 (.tup [.int st,.int 0,.int oc]) p2=none)(h3:upd (upd H p1 (.tup [.int st,.int 0,.int oc])) p2 (.lst [.ref p1]) p3=none) :
  Same H (upd (upd (upd H p1 (.tup [.int st,.int 0,.int oc])) p2 (.lst [.ref p1])) p3 (.tup [.str "tones",.ref p2,.int n,.str "",.bl false,.bl false]))/\Is (fr H (upd (upd (upd H p1 (.tup [.int st,.int 0,.int oc])) p2 (.lst [.ref p1])) p3 (.tup [.str "tones",.ref p2,.int n,.str "",.bl false,.bl false]))) (.ref p3) (snT (.tones (ygN st oc) n "" false false)):=by
 have s1:=yaf h1 (.tup [.int st,.int 0,.int oc])
 have s2:=yaf h2 (.lst [.ref p1])
 have s3:=yaf h3 (.tup [.str "tones",.ref p2,.int n,.str "",.bl false,.bl false])
 have n2:=s1.free h2
 have n3:=(s1.trans s2).free h3
 refine⟨s1.trans (s2.trans s3),ykn (by rw[ybH n3];exact yad) (ybV (by rw[ybH n2];exact s3 _ _ yad) (yav (yl4 (p:=⟨st,0,oc⟩) (by rw[ybH h1];exact s3 _ _ (s2 _ _ yad))) (yaV _)))⟩
noncomputable def rowsL:List (List Int):=[[24],[12,12],[8,8,8],[16,8],[6,18],[48],[3,21],[14,2,8],[24],[8,4,12]]
noncomputable def yi7 (r:List Int):Prop:=(∀ x∈r,2<=x/\x<=96)/\r.sum<=96/\r.length<=3
theorem yi1:∀ r∈rowsL,yi7 r:=by
 have:∀ r∈rowsL,(∀ x∈r,2<=x/\x<=96)/\r.sum<=96/\r.length<=3:=by decide
 exact this
noncomputable def rT (r:List Int):Th:=.ls (r.map nT)
noncomputable def yiy (K:PySem.W.Frag):Sp:=λvs H Q _=>∃ (a tp:Addr) (ns:List Int) (N:Nat) (b:Bool),vs=[.ref a,.ref tp,.bl b]/\Dr K a tp ns H N/\N<=80000/\∀ (y:V) (ss:List Sn) (H':Hp),VOk ss->SameT tp H H'->Dr K a tp ns H' (N+100)->Is (fr H H') y (vT ss)->Q y H'
theorem yqz (T:Txt K mg t)(G_zQ:FnOk P w K mg base CX0 1 t.f_zQ t.d_zQ ["_law_script","_law_tape","_law_size"] (yeH K))(G_zw:FnOk P w K mg base CX0 2 t.f_zw t.d_zw ["_law_script","_law_tape","_law_way"] (yeP K)):FnOk P w K mg base CX0 3 t.f_zI t.d_zI ["_law_script","_law_tape","_law_is_fine"] (yiy K):=by
 refine T.zI.F.ok sc_zI (λvs H Q E h=>?_) (λ_ _ _ s' H vs Q E hr h=>?_)
 ·obtain⟨_,_,_,_,_,rfl,_⟩:=h;rfl
 have hu:=ybr hr
 obtain⟨a,tp,ns,N,bf,rfl,dr,hN,q⟩:=h
 refine⟨_,(yae (yar (i:=3) sc_zI.nd rfl (Or.inl rfl) (yaw yab)) (yae (ybs PassesOwn.never rfl (ydO rfl T.JW (yaa (yaF ya6 yac (pcl G_zQ hr T.zQ (yaa (pv 0) (yaa (pv 1) (yaa yac yab))))) yab)) (yaq (i:=4) sc_zI.nd rfl (Or.inl rfl)) (yae (yar (i:=5) sc_zI.nd rfl (Or.inl rfl) (yaw (yaa (yaw (yaa yac yab)) (yaa (yaw (yaa yac (yaa yac yab))) (yaa (yaw (yaa yac (yaa yac (yaa yac yab)))) (yaa (yaw (yaa yac (yaa yac yab))) (yaa (yaw (yaa yac (yaa yac yab))) (yaa (yaw (yaa yac yab)) (yaa (yaw (yaa yac (yaa yac yab))) (yaa (yaw (yaa yac (yaa yac (yaa yac yab)))) (yaa (yaw (yaa yac yab)) (yaa (yaw (yaa yac (yaa yac (yaa yac yab)))) yab)))))))))))) (yae (yar (i:=6) sc_zI.nd rfl (Or.inl rfl) (yas yaL (pv 5) (pcl G_zQ hr T.zQ (yaa (pv 0) (yaa (pv 1) (yaa yac yab)))) (λ_ _=>rfl))) (yae (yaY (ybd (yaQ (pv 2))) (yag (yar (i:=6) sc_zI.nd rfl (Or.inl rfl) (yaw (yaa (pcl G_zw hr T.zw (yaa (pv 0) (yaa (pv 1) (yaa (yas yaL (yaw (yaa yac (yaa yac (yaa yac (yaa yac yab))))) (pcl G_zQ hr T.zQ (yaa (pv 0) (yaa (pv 1) (yaa yac yab)))) (λ_ _=>rfl)) yab)))) yab)))) yaA) (yag (ybs PassesOwn.never rfl (yaE (pv 6)) (yaq (i:=7) sc_zI.nd rfl (Or.inl rfl)) (yae (yar (i:=8) sc_zI.nd rfl (Or.inl rfl) (yaJ ycm (pcl G_zQ hr T.zQ (yaa (pv 0) (yaa (pv 1) (yaa yac yab)))) yac (yau _))) (yag (yaY (PW.pt (yd6 (yaQ (pv 8)) (yd6 (yaz (ycv hu) (pv 3) (yaw yab) (yau _)) (ydf (yaz (ycl hu) (yas yap (yas yaL (pv 3) (ycM ybR yac) (λ_ _=>rfl)) yac (λ_ _=>rfl)) yaN (yau _)))))) (yag (ylu (yay (yaa yaN (yaa (yaF ya6 (yas yap (yas yaL (pv 3) (ycM ybR yac) (λ_ _=>rfl)) yac (λ_ _=>rfl)) (pv 7)) yab))) (ylN (pv 3) (ycM ybR yac) ygW))) (yag (yaY (yaQ (pv 8)) (yag (yaH (ybN F.plainAttrs_list F.slot_list_append F.type_list_append yaM (pv 3) (yaa (yay (yaa yaN (yaa (pv 7) yab))) yab)))) (yag (yaH (ybN F.plainAttrs_list F.slot_list_append F.type_list_append yaM (pv 3) (yaa (yay (yaa yaN (yaa (yaw (yaa (yay (yaa (yaF yck (pv 7) yac) (yaa yac (yaa yac yab)))) yab)) (yaa (pv 7) (yaa yaN (yaa ybt (yaa ybt yab))))))) yab))))))))))))))) (yae (yaH (ybN F.plainAttrs_list F.slot_list_append F.type_list_append yaM (pv 3) (yaa (yay (yaa yaN (yaa (yaw (yaa (yay (yaa yac (yaa yac (yaa yac yab)))) yab)) (yaa yac (yaa yaN (yaa ybt (yaa ybt yab))))))) yab))) (yag (yao (pv 3)))))),?_⟩
 walk_at ""
 refine⟨Nat.zero_le _,λD hD=>?_⟩
 have s1:=yaf hD (.lst [])
 walk_at ""
 refine⟨a,tp,ns,N,7,rfl,dr.same s1,by omega,by decide,by decide,λv H1 v0 v1 s2 d2=>?_⟩
 walk_at ""
 refine⟨_,rfl,by omega,by omega,ydg (λi σ H'=>∃ (rs:List Sn) (o4 o5 o6 o7 o8:Option V),σ=[some (.ref a),some (.ref tp),some (.bl bf),some (.ref D),o4,o5,o6,o7,o8]/\RInv rs (3*i) (96*i)/\AccT snT tp H H' D (yaR rs)/\Dr K a tp ns H' (N+1+8*i)) ⟨[],_,_,_,_,_,rfl,⟨by simp,by simp,by simp[yaW],λr h=>h⟩,AccT.tt dr hD (AccT.nil hD) s2,d2⟩ ?_ ?_⟩
 ·rintro i σ H' N' hN' hi ⟨rs,o4,o5,o6,o7,o8,rfl,ri,acc,dd⟩
  have hi7:i < 7:=by omega
  refine ybI (ydx (yfV ?_))
  refine(show yip _ (.ls (rowsL.map rT)) from ?_) _ _ _ λx H2 s3 i3=>?_
  ·refine yph ?_ (by decide)
   repeat (first | exact ylD | refine ylK ?_ ?_ | refine yph ?_ (by decide) | exact ylR rfl)
  rw[Is] at i3
  obtain⟨lr,ls,rfl,e3,is3⟩:=i3
  have acc3:=AccT.tt dr hD acc (Same.tt s3)
  have d3:=dd.same s3
  walk_at ""
  refine⟨a,tp,ns,_,10,rfl,d3,by omega,by decide,by decide,λu H4 u0 u1 s4 d4=>?_⟩
  obtain⟨y,ey,iy⟩:=is3.at' u.toNat (by rw[List.length_map];show u.toNat < 10;omega)
  rw[List.getElem_map,rT] at iy
  have gr0:=yi1 _ (List.getElem_mem (show u.toNat < rowsL.length by show u.toNat < 10;omega))
  generalize rowsL[u.toNat]'(by show u.toNat < 10;omega)=row0 at iy gr0
  obtain⟨lw0,rfl,elw0⟩:=iy.nums
  have ea:=yak ey
  rw[Int.toNat_of_nonneg u0] at ea
  obtain⟨nw0,elw0⟩:=ybf elw0
  have acc4:=AccT.tt dr hD acc3 s4
  obtain⟨_,ks0,hd0,_⟩:=id acc
  refine ybp (SqL.of (s4 _ _ (dd.ne (ybf e3).1) (ybf e3).2)) ea ?_
  refine ybI (ydx (ym9 (te:=yne _ _ _) (fun σ H5=>∃ (lw:Addr) (row:List Int),σ=[some (.ref a),some (.ref tp),some (.bl bf),some (.ref D),some (.int (0+i)),some (.ref lr),some (.ref lw),o7,o8]/\yi7 row/\H5 lw=some (.lst (row.map V.int))/\H lw=none/\lw≠D/\AccT snT tp H H5 D (yaR rs)/\Dr K a tp ns H5 (N+1+8*i+3)) (λD' hD'=>?_) fun σ H5 p=>?_))
  ·walk_at ""
   refine i_n (λ_=>?_) λ_=>?_
   ·walk_at ""
    refine⟨by show 4<=sizeLine;decide,λp hp=>?_⟩
    have s5:=yaf hp (.lst ([0,1,2,2].map V.int))
    walk_at ""
    refine⟨a,tp,ns,_,4,rfl,d4.same s5,by omega,by decide,by decide,λw H6 w0 w1 s6 d6=>?_⟩
    refine yg1 (L:=[0,1,2,2]) d4 hp s6 w0 w1 λway _=>?_
    have s56:=SameT.trans (Same.tt s5) s6
    walk_at ""
    refine⟨a,tp,ns,_,way,rfl,d6,by omega,λm H7 m0 m1 s7 d7=>?_⟩
    have acc7:=AccT.tt dr hD acc4 (SameT.trans s56 s7)
    walk_at ""
    refine⟨by show 1<=sizeLine;decide,λp8 hp8=>?_⟩
    have s8:=yaf hp8 (.lst [.int m])
    obtain⟨_,ks7,hd7,_⟩:=id acc7
    refine hD' _ _ ⟨p8,[m],rfl,⟨λx hx=>by rw[List.mem_singleton.mp hx];exact⟨m0,m1⟩,by simp;exact m1,by simp⟩,yad,d7.free acc7.1 hp8,(λz=>by rw[z,hd7] at hp8;cases hp8),AccT.tt dr hD acc7 (Same.tt s8),(d7.same s8).up (by omega)⟩
   ·exact ycC (hD' _ _ ⟨lw0,row0,rfl,gr0,s4 _ _ (dd.ne nw0) elw0,dd.free acc.1 nw0,(λz=>by rw[z,hd0] at nw0;cases nw0),acc4,d4.up (by omega)⟩)
  obtain⟨lw,row,rfl,⟨gx,gs,gl⟩,elw,nlw,nlD,acc5,d5⟩:=p
  have ntp:=dr.ne nlw
  walk_at ""
  refine⟨lw,rfl,⟨_,SqL.of elw⟩,ybh (xs:=row.map V.int) (λj σ H'=>∃ (rs2:List Sn) (o7 o8:Option V),σ=[some (.ref a),some (.ref tp),some (.bl bf),some (.ref D),some (.int (0+i)),some (.ref lr),some (.ref lw),o7,o8]/\RInv rs2 (3*i+j) (96*i+(row.take j).sum)/\H' lw=some (.lst (row.map V.int))/\AccT snT tp H H' D (yaR rs2)/\Dr K a tp ns H' (N+1+8*i+3+j)) ⟨rs,_,_,rfl,by simpa using ri,elw,acc5,d5⟩ (λj σ H' _ h=>by obtain⟨_,_,_,_,_,e,_⟩:=h;exact SqL.of e) ?_ ?_⟩
  ·rintro j x σ H6 N2 hN2 hx ⟨rs2,o7,o8,rfl,ri2,el6,acc6,d6⟩
   have hj:j < row.length:=by have:=(List.getElem?_eq_some_iff.mp hx).1;rwa [List.length_map] at this
   obtain rfl:V.int row[j]=x:=by
    rw[List.getElem?_map,List.getElem?_eq_getElem hj] at hx
    exact Option.some.inj hx
   obtain⟨m0,m1⟩:=gx _ (List.getElem_mem hj)
   have st:=yed row j hj
   generalize row[j]=m at m0 m1 st
   have lt:=yb7 rs2
   have ln:=ri2.len
   have add:∀ (H7 H8:Hp) (s:Sn) (p:Addr) (c:Bool),AccT snT tp H H7 D (yaR rs2)->Dr K a tp ns H7 (N+1+8*i+3+j+1)->H7 lw=some (.lst (row.map V.int))->Same H7 H8->Is (fr H7 H8) (.ref p) (snT s)->(isR s&&ycw (yaR rs2))=false->ygd s->snL s=m->(∀ r,ycE false r->ycE false (flags [s]++r)) ->
     ∃ ks,H8 D=some (.lst ks)/\ks.length<=900/\N2 [some (.ref a),some (.ref tp),some (.bl bf),some (.ref D),some (.int (0+i)),some (.ref lr),some (.ref lw),some (.int m),some (.bl c)] (upd H8 D (.lst (ks++[.ref p]))):=λH7 H8 s p c a7 d7 e7 s8 is hf g hs sl=>by
    have a8:=AccT.tt dr hD a7 (Same.tt s8)
    obtain⟨ks,hd,lk,a9⟩:=a8.put dr hD (is.same (AccT.new d7 a7))
    refine⟨ks,hd,by omega,hN2 _ _ ⟨rs2++[s],_,_,rfl,ri2.add g (Nat.le_refl _) (by rw[st,hs];omega) sl,by rw[yai nlD];exact s8 _ _ e7,by rw[yaU,ybj hf];exact a9,dr.put hD a8.1 (d7.same s8)⟩⟩
   walk_at ""
   refine⟨a,tp,ns,_,4,rfl,d6,by omega,by decide,by decide,λw H7 w0 w1 s7 d7=>?_⟩
   have acc7:=AccT.tt dr hD acc6 s7
   have el7:=s7 _ _ ntp el6
   walk_at ""
   refine i_d (λhw=>?_) λhw=>?_
   ·walk_at ""
    refine⟨Nat.zero_le _,λp8 hp8=>?_⟩
    obtain⟨_,ks7,hd7,is7⟩:=id acc7
    have s8:=yaf hp8 (.lst [])
    have acc8:=AccT.tt dr hD acc7 (Same.tt s8)
    have d8:=d7.same s8
    have el8:=s8 _ _ el7
    refine⟨D,p8,ks7,rfl,rfl,SqL.of (s8 _ _ hd7),SqL.of yad,ya2 ?_⟩
    generalize upd H7 p8 (.lst [])=H8 at s8 acc8 d8 el8 ⊢
    have lk7:=is7.len
    rw[List.length_map] at lk7
    cases e:(yaR rs2).getLast? with
    | none =>
     have ek:ks7=[]:=List.eq_nil_of_length_eq_zero (by rw[lk7,List.getLast?_eq_none_iff.mp e];rfl)
     have er:ycw (yaR rs2)=false:=by unfold ycw;rw[e]
     rw[ek]
     refine i_F ?_
     walk_at ""
     refine i_d (λ_=>?_) λz=>absurd hw z
     walk_at ""
     refine⟨.inl ⟨rfl,_,SqL.of (s8 _ _ hd7)⟩,?_⟩
     walk_at ""
     refine⟨by show 2<=sizeLine;decide,λp9 hp9=>?_⟩
     obtain⟨ks,h1,h2,h3⟩:=add _ _ (.rest m) p9 _ acc8 d8 el8 (yaf hp9 _) (ygH (by rw[ybH hp9];exact yad)) (by rw[er];rfl) ⟨m0,by omega⟩ rfl (λr h=>h)
     walk_at ""
     exact ybQ h1 (yat (by omega)) h3
    | some sl =>
     obtain⟨vs,ev⟩:=List.getLast?_eq_some_iff.mp e
     have er:ycw (yaR rs2)=isR sl:=by unfold ycw;rw[e]
     have al8:=acc8
     rw[ev] at al8
     obtain⟨zs,z,hdz,lz,iz,put⟩:=al8.last dr hD
     have ez:ks7=zs++[z]:=by have:=s8 _ _ hd7;rw[hdz] at this;simpa using this.symm
     obtain⟨c,ws,rfl,ec,w0',w1',w2'⟩:=yqA (iz.same ((yeZ _ _).trans (yct _ _)))
     rw[ez,show(!(zs++[V.ref c]).isEmpty)=true by cases zs<;>rfl]
     refine i_T ?_
     walk_at ""
     refine ybp (SqL.of hdz) (ybx zs _) ?_
     walk_at ""
     refine yaI (SqT.of ec) (yak (j:=0) w0') ?_
     walk_at ""
     refine yij ⟨rfl,ybC⟩ ⟨rfl,ybC⟩ (ybz rfl) (ybz rfl) ?_
     rw[ygG]
     walk_at ""
     cases hl:isR sl with
     | false =>
      refine i_F ?_
      walk_at ""
      refine i_d (λ_=>?_) λz=>absurd hw z
      walk_at ""
      refine⟨.inl ⟨rfl,_,SqL.of (s8 _ _ hd7)⟩,?_⟩
      walk_at ""
      refine⟨by show 2<=sizeLine;decide,λp9 hp9=>?_⟩
      obtain⟨ks,h1,h2,h3⟩:=add _ _ (.rest m) p9 _ acc8 d8 el8 (yaf hp9 _) (ygH (by rw[ybH hp9];exact yad)) (by rw[er,hl];rfl) ⟨m0,by omega⟩ rfl (λr h=>h)
      walk_at ""
      exact ybQ h1 (yat (by omega)) h3
     | true =>
      refine i_T ?_
      walk_at ""
      refine ybp (SqL.of hdz) (ybx zs _) ?_
      walk_at ""
      refine yaI (SqT.of ec) (yak (j:=1) (w1' hl)) ?_
      walk_at ""
      refine⟨by show 2<=sizeLine;decide,λp2 hp2=>?_⟩
      have s9:=yaf hp2 (.tup [.str "rest",.int (snL sl+m)])
      have acc9:=AccT.tt dr hD acc8 (Same.tt s9)
      rw[ev] at acc9
      obtain⟨zs9,z9,hd9,lz9,_,put9⟩:=acc9.last dr hD
      have i9:Is (fr H8 (upd H8 p2 (.tup [.str "rest",.int (snL sl+m)]))) (.ref p2) (snT (.rest (snL sl+m))):=ygH (by rw[ybH hp2];exact yad)
      have a10:=put9 _ (.rest (snL sl+m)) (i9.same (AccT.new d8 acc8))
      walk_at ""
      refine⟨D,_,-1,_,rfl,rfl,hd9,ykt (by simp),?_⟩
      rw[yk0]
      cases sl with
      | tones=>cases hl
      | rest k =>
       refine hN2 _ _ ⟨rs2++[.rest m],_,_,rfl,ri2.add (s:=.rest m) ⟨m0,by omega⟩ (Nat.le_refl _) (by rw[st];show _+m<=_;omega) (λr h=>h),by rw[yai nlD];exact s9 _ _ el8,?_,dr.put hD acc9.1 (d8.same s9)⟩
       rw[yaU,ev,ya9]
       exact a10
   ·walk_at ""
    refine i_d (λz=>absurd z hw) λ_=>?_
    obtain⟨_,ks7,hd7,is7⟩:=id acc7
    walk_at ""
    refine⟨.inl ⟨rfl,_,SqL.of hd7⟩,?_⟩
    walk_at ""
    refine⟨by show 3<=sizeLine;decide,λp1 h1=>?_⟩
    walk_at ""
    refine⟨by show 1<=sizeLine;decide,λp2 h2=>?_⟩
    walk_at ""
    refine⟨by show 6<=sizeLine;decide,λp3 h3=>?_⟩
    obtain⟨s9,i9⟩:=ygh (n:=m) h1 h2 h3
    obtain⟨ks,k1,k2,k3⟩:=add _ _ _ p3 _ acc7 d7 el7 s9 i9 rfl ⟨yfR ⟨by omega,by omega⟩ ⟨by decide,by decide⟩,m0,by omega,by decide,λc h=>nomatch h⟩ rfl (λr h=>⟨(λz=>nomatch z),(λz=>nomatch z),h⟩)
    walk_at ""
    exact ybQ k1 (yat (by omega)) k3
  ·rintro σ H6 ⟨rs2,o7,o8,rfl,ri2,el6,acc6,d6⟩
   rw[List.length_map] at ri2 d6
   rw[List.take_length] at ri2
   exact hN' _ _ ⟨rs2,_,_,_,_,_,rfl,ri2.up (by omega) (by push_cast;omega),acc6,d6.up (by omega)⟩
 ·rintro σ H' ⟨rs,o4,o5,o6,o7,o8,rfl,ri,acc,dd⟩
  have lv:(1+v).toNat<=7:=by omega
  have dd:=dd.up (M:=N+60) (by omega)
  have ri:=ri.up (n':=21) (m':=672) (by omega) (by omega)
  obtain⟨_,ks8,hd8,_⟩:=id acc
  walk_at ""
  refine⟨.inl ⟨rfl,_,SqL.of hd8⟩,?_⟩
  walk_at ""
  refine⟨by show 3<=sizeLine;decide,λp1 h1=>?_⟩
  walk_at ""
  refine⟨by show 1<=sizeLine;decide,λp2 h2=>?_⟩
  walk_at ""
  refine⟨by show 6<=sizeLine;decide,λp3 h3=>?_⟩
  obtain⟨s9,i9⟩:=ygh (n:=24) h1 h2 h3
  have a9:=AccT.tt dr hD acc (Same.tt s9)
  obtain⟨ks,hd,lk,a10⟩:=a9.put dr hD (i9.same (AccT.new dd acc))
  have d10:=dr.put (o:=.lst (ks++[.ref p3])) hD a9.1 (dd.same s9)
  have:=yb7 rs
  have:=ri.len
  walk_at ""
  refine ybQ hd (yat (by omega)) ?_
  walk_at ""
  exact q _ _ _ (yqo ri (by decide) (by decide)) a10.1 (d10.up (by omega)) (AccT.fin hD a10)
noncomputable def yhp:Sp:=λvs H Q _=>∃ (x:V) (vss:List (List Sn)),vs=[x]/\Is H x (vsT vss)/\yeb vss/\∀ H',Same H H'->Q (.int (ybX vss)) H'
theorem ypy (T:Txt K mg t):FnOk P w K mg base CX0 1 t.f_zN t.d_zN ["_law_voices"] yhp:=by
 refine T.zN.F.ok sc_zN (λvs H Q E h=>?_) (λ_ _ _ s H vs Q E hr h=>?_)
 ·obtain⟨_,_,rfl,_⟩:=h;rfl
 have hu:=ybr hr
 obtain⟨x,vss,rfl,ix,gv,q⟩:=h
 rw[vsT,Is] at ix
 obtain⟨a,xs,rfl,ea,ix⟩:=ix
 have al:=ya4 ix
 have n2:=gv.n2
 refine⟨_,(yae (yar (i:=1) sc_zN.nd rfl (Or.inl rfl) (yaw yab)) (yae (ybs PassesOwn.never rfl (yaE (pv 0)) (yaq (i:=2) sc_zN.nd rfl (Or.inl rfl)) (yag (yaH (ybN F.plainAttrs_list F.slot_list_append F.type_list_append yaM (pv 1) (yaa (yal (ydQ rfl) rfl T.QT yc6 (yaa (yaS (yaB (NB:=["_law_told"]) (cap:=[none]) rfl) rfl (yaE (pv 2)) (λ_ _ _ _=>(yaq (i:=0) (show List.Nodup (["_law_told"]:List Str) by decide) rfl (Or.inl rfl))) (λ_ _ _ _=>yaG) (λ_ _ _ _=>(ycg (yaz (show OpR _ _ (yov K) from ycl hu) (yas (show IxR _ (yew K) from yap) (pv 0) yac (λ_ _=>rfl)) yaN (yau _)) (yas (show IxR _ (yew K) from yap) (pv 0) yac (λ_ _=>rfl)) (yas (show IxR _ (yew K) from yap) (pv 0) yac (λ_ _=>rfl))))) yab)) yab))))) (yag (yao (yal (yfZ hr.hd) rfl T.Rn yeR (yaa (pv 1) yab)))))),?_⟩
 walk_at ""
 refine⟨Nat.zero_le _,λD hD=>?_⟩
 walk_at ""
 refine⟨a,rfl,⟨_,SqL.of (yaf hD _ _ _ ea)⟩,ybh (xs:=xs) (λi σ H'=>(∃ o,σ=[some (.ref a),some (.ref D),o])/\Same H H'/\H' D=some (.lst (((vss.take i).map yaW).map V.int))) ⟨⟨_,rfl⟩,yaf hD _,yad⟩ (λi σ H' _ p=>SqL.of (p.2.1 _ _ ea)) ?_ ?_⟩
 ·rintro i x σ H' N hN hx ⟨⟨o,rfl⟩,sm,hd⟩
  have hi:i < vss.length:=by have:=(List.getElem?_eq_some_iff.mp hx).1;rw[al.1] at this;exact this
  obtain⟨x',e,rx⟩:=al.2 i hi
  rw[hx] at e
  cases e
  rw[vT,Is] at rx
  obtain⟨b,ys,rfl,eb,iy⟩:=rx
  have eb':=sm _ _ eb
  have as:=ya4 iy
  have hv:=List.getElem_mem hi
  have tk:(vss.take (i+1)).map yaW=(vss.take i).map yaW++[yaW vss[i]]:=by rw[List.take_succ_eq_append_getElem hi,List.map_append];rfl
  walk_at ""
  refine⟨.inl ⟨rfl,_,SqL.of hd⟩,?_⟩
  walk_at ""
  refine⟨b,rfl,⟨_,SqL.of eb'⟩,λD2 hD2=>ybb (λs=>V.int (snL s)) eb' as hD2 (by have:=gv.len _ hv;omega) (λx s H2 Q' hs s2 rx q'=>?_) λH2 s2 hd2=>yc8 ⟨D2,vss[i].map snL,rfl,SqL.of (by rw[List.map_map];exact hd2),?_,by rw[List.length_map];have:=gv.len _ hv;omega,?_⟩⟩
  ·obtain⟨c,ws,rfl,ec,w0,w1,w2⟩:=yqA (rx.same (sm.trans s2))
   walk_at ""
   refine yaI (SqT.of ec) (yak (j:=0) w0) ?_
   walk_at ""
   refine yij ⟨rfl,ybC⟩ ⟨rfl,ybC⟩ (ybz rfl) (ybz rfl) ?_
   rw[ygG]
   walk_at ""
   cases hs:isR s with
   | true =>
    refine i_T ?_
    walk_at ""
    exact yaI (SqT.of ec) (yak (j:=1) (w1 hs)) (q' _ (Same.refl _))
   | false =>
    refine i_F ?_
    walk_at ""
    exact yaI (SqT.of ec) (yak (j:=2) (w2 hs)) (q' _ (Same.refl _))
  ·intro n hn
   obtain⟨s,hs',rfl⟩:=List.mem_map.mp hn
   have p:=gv.pos _ hv
   have:=p s hs'
   have:=yhI p hs'
   have:=gv.sum _ hv
   omega
  ·walk_at ""
   refine ybQ (s2 _ _ hd) (by rw[List.length_map,List.length_map,List.length_take];exact yat (by omega)) (hN _ _ ⟨⟨_,rfl⟩,yaT hD (sm.trans s2),?_⟩)
   rw[yad,tk,List.map_append]
   rfl
 ·rintro σ H' ⟨⟨o,rfl⟩,sm,hd⟩
  rw[al.1,List.take_length] at hd
  walk_at ""
  refine⟨D,vss.map yaW,rfl,SqL.of hd,by rw[List.length_map];exact gv.n1,λm h1 h2=>?_⟩
  rw[yeC gv.n1 gv.pos h1 h2]
  exact q _ sm
theorem ymG {p:Addr}{a b c:V}{m n o:Nat}{σ:St}{H:Hp}{N:St->Hp->Prop}(s:SqT K H p [a,b,c])(q:N (((σ.set m (some a)).set n (some b)).set o (some c)) H):ykc K 3 (yb8 (ybm m) (yb8 (ybm n) (yb8 (ybm o) yke))) (.ref p) σ H N:=⟨p,_,rfl,s,rfl,_,_,rfl,_,_,rfl,_,_,rfl,rfl,q⟩
theorem ynw {p q:Addr}{a b c d:V}{m n o r:Nat}{σ:St}{H:Hp}{N:St->Hp->Prop}(s:SqT K H p [a,.ref q])(s2:SqT K H q [b,c,d])(h:N ((((σ.set m (some a)).set n (some b)).set o (some c)).set r (some d)) H):ykc K 2 (yb8 (ybm m) (yb8 (ykc K 3 (yb8 (ybm n) (yb8 (ybm o) (yb8 (ybm r) yke)))) yke)) (.ref p) σ H N:=⟨p,_,rfl,s,rfl,_,_,rfl,_,_,rfl,ymG s2 ⟨rfl,h⟩⟩
noncomputable def yfn (ss:List Sn)(j:Nat):List Int:=(List.range (j+1)).map λi=>yaW (ss.take i)
theorem yii {ss:List Sn}{j:Nat}(h:j < ss.length):yfn ss (j+1)=yfn ss j++[yaW (ss.take j)+snL ss[j]]:=by
 unfold yfn
 rw[List.range_succ,List.map_append,List.map_singleton,ygO h]
theorem yil (ss:List Sn)(j:Nat):∃ zs,yfn ss j=zs++[yaW (ss.take j)]:=by
 unfold yfn
 rw[List.range_succ,List.map_append]
 exact⟨_,rfl⟩
theorem ykQ (ss:List Sn):(yj7 ss).length=ss.length+1:=by simp[yj7]
noncomputable def eT (ss:List Sn):Th:=.ls ((yj7 ss).map nT)
structure FOk (fw:List Fr) (vss:List (List Sn)):Prop where
 n2:vss.length<=2
 lf:fw.length<=24
 m:∀ f∈fw,GoodM f.1
 pos:∀ ss∈vss,Pos ss
 len:∀ ss∈vss,ss.length<=96
noncomputable def ymV (H:Hp)(d:V)(fw:List Fr)(vss:List (List Sn)):Prop:=(∀ i v,i < fw.length->v < vss.length->¬ bad fw vss i v)/\d=.non∨∃ i v p,Fst (bad fw vss) fw.length vss.length i v/\d=.ref p/\H p=some (.tup [.int ((i+1:Nat):Int),.int ((v+1:Nat):Int)])
noncomputable def yi2:Sp:=λvs H Q _=>∃ (x y:V) (vss:List (List Sn)) (fw:List Fr),vs=[x,y]/\Is H x (vsT vss)/\Is H y (ybv fw)/\FOk fw vss /\
 ∀ d H',Same H H'->ymV H' d fw vss->Q d H'
theorem ypr (T:Txt K mg t)(G_zL:FnOk P w K mg base CX0 2 t.f_zL t.d_zL ["_law_metre_here"] ye1)(G_zx:FnOk P w K mg base CX0 1 t.f_zx t.d_zx ["_law_borders","_law_pairs"] ygz):FnOk P w K mg base CX0 3 t.f_zC t.d_zC ["_law_voices","_law_frames"] yi2:=by
 refine T.zC.F.ok sc_zC (λvs H Q E h=>?_) (λ_ _ _ s H vs Q E hr h=>?_)
 ·obtain⟨_,_,_,_,rfl,_⟩:=h;rfl
 have hu:=ybr hr
 obtain⟨x,y,vss,fw,rfl,ix,iy,ok,q0⟩:=h
 have q:∀ H',Same H H'->(∀ i v,i < fw.length->v < vss.length->¬ bad fw vss i v)->Q .non H':=λH' s n=>q0 _ _ s (.inl ⟨n,rfl⟩)
 have qe:∀ i v p H',Fst (bad fw vss) fw.length vss.length i v->Same H H'->H' p=some (.tup [.int ((i+1:Nat):Int),.int ((v+1:Nat):Int)])->Q (.ref p) H':=λi v p H' f s e=>q0 _ _ s (.inr ⟨i,v,p,f,rfl,e⟩)
 rw[vsT,Is] at ix
 obtain⟨a,xs,rfl,ea,ix⟩:=ix
 have al:=ya4 ix
 rw[ybv,Is] at iy
 obtain⟨b,ys,rfl,eb,iy⟩:=iy
 have al1:Al (λz i=>Is H z (frT (bg fw i) (fw.getD i (⟨0,0,[]⟩,0)))) ys (List.range fw.length):=ya4 iy
 have n2:=ok.n2
 have l24:=ok.lf
 refine⟨_,(yae (yar (i:=2) sc_zC.nd rfl (Or.inl rfl) (yaw yab)) (yae (ybs PassesOwn.never rfl (yaE (pv 0)) (yaq (i:=3) sc_zC.nd rfl (Or.inl rfl)) (yae (yar (i:=4) sc_zC.nd rfl (Or.inl rfl) (yaw (yaa yac yab))) (yae (ybs PassesOwn.never rfl (yaE (pv 3)) (yaq (i:=5) sc_zC.nd rfl (Or.inl rfl)) (yag (yaH (ybN F.plainAttrs_list F.slot_list_append F.type_list_append yaM (pv 4) (yaa (yaF ya6 (yas yaL (pv 4) (ycM ybR yac) (λ_ _=>rfl)) (ycg (yaz (ycl hu) (yas yap (pv 5) yac (λ_ _=>rfl)) yaN (yau _)) (yas yap (pv 5) yac (λ_ _=>rfl)) (yas yap (pv 5) yac (λ_ _=>rfl)))) yab))))) (yag (yaH (ybN F.plainAttrs_list F.slot_list_append F.type_list_append yaM (pv 2) (yaa (pv 4) yab))))))) (yae (ybs PassesOwn.never rfl (ygK rfl T.Jo (yaa (pv 1) yab)) (yc0 (n:=2) rfl (yaZ (yaq (i:=6) sc_zC.nd rfl (Or.inl rfl)) (yaZ (yc0 (n:=3) rfl (yaZ (yaq (i:=7) sc_zC.nd rfl (Or.inr rfl)) (yaZ (yaq (i:=8) sc_zC.nd rfl (Or.inl rfl)) (yaZ (yaq (i:=9) sc_zC.nd rfl (Or.inl rfl)) ycb)))) ycb))) (yae (yar (i:=10) sc_zC.nd rfl (Or.inl rfl) (pcl G_zL hr T.zL (yaa (pv 8) yab))) (yag (ybs PassesOwn.never rfl (ygK rfl T.Jo (yaa (pv 2) yab)) (yc0 (n:=2) rfl (yaZ (yaq (i:=11) sc_zC.nd rfl (Or.inl rfl)) (yaZ (yaq (i:=4) sc_zC.nd rfl (Or.inl rfl)) ycb))) (yae (ybk (i:=12) sc_zC.nd rfl (Or.inl rfl) (yaB (NB:=["_law_end","_law_begin"]) (cap:=[none,some 7]) rfl) rfl (yaE (pv 4)) (λ_ _ _ _=>(yaq (i:=0) (show List.Nodup (["_law_end","_law_begin"]:List Str) by decide) rfl (Or.inl rfl))) (λ_ _ _ _=>yaG) (λ_ _ _ _=>(yaF yb2 (pv 0) (pv 1)))) (yag (yaY (yaz yg6 (pcl G_zx hr T.zx (yaa (pv 12) (yaa (pv 10) yab))) ybB (yau _)) (yag (yao (yay (yaa (yaF ya6 (pv 6) yac) (yaa (yaF ya6 (pv 11) yac) yab))))) yaA))))))) (yag (yao ybB))))),?_⟩
 walk_at ""
 refine⟨Nat.zero_le _,λD hD=>?_⟩
 have s0:=yaf hD (HO.lst [])
 walk_at ""
 refine⟨a,rfl,⟨_,SqL.of (s0 _ _ ea)⟩,ybh (xs:=xs) (λi σ H'=>(∃ o3 o4 o5,σ=[some (.ref a),some (.ref b),some (.ref D),o3,o4,o5,none,none,none,none,none,none,none])/\Acc (λH x ss=>Is H x (eT ss)) eH H H' D (vss.take i)) ⟨⟨_,_,_,rfl⟩,Acc.nil hD⟩ (λi σ H' _ p=>SqL.of (p.2.1 _ _ ea)) ?_ ?_⟩
 ·rintro i x σ H' N hN hx ⟨⟨o3,o4,o5,rfl⟩,acc⟩
  have hi:i < vss.length:=by have:=(List.getElem?_eq_some_iff.mp hx).1;rw[al.1] at this;exact this
  obtain⟨_,e',rx⟩:=al.2 i hi
  rw[hx] at e'
  cases e'
  have tk:vss.take (i+1)=vss.take i++[vss[i]]:=List.take_succ_eq_append_getElem hi
  have lss:=ok.len _ (List.getElem_mem hi)
  generalize vss[i]=ss at rx tk lss
  rw[vT,Is] at rx
  obtain⟨c,zs,rfl,ec,iz⟩:=rx
  have az:=ya4 iz
  obtain⟨sm,kv,hd,ak⟩:=id acc
  walk_at ""
  refine⟨by show 1<=sizeLine;decide,λE0 hE=>?_⟩
  have s2:=yaf hE (.lst [.int 0])
  have hEH:H E0=none:=sm.free hE
  walk_at ""
  refine⟨c,rfl,⟨_,SqL.of (s2 _ _ (sm _ _ ec))⟩,ybh (xs:=zs) (λj σ H''=>(∃ o5,σ=[some (.ref a),some (.ref b),some (.ref D),some (.ref c),some (.ref E0),o5,none,none,none,none,none,none,none])/\Same H' H''/\H'' E0=some (.lst ((yfn ss j).map V.int))) ⟨⟨_,rfl⟩,s2,yad⟩ (λj σ H'' _ p=>SqL.of (p.2.1 _ _ (sm _ _ ec))) ?_ ?_⟩
  ·rintro j x σ H'' N2 hN2 hx2 ⟨⟨o5,rfl⟩,sm2,e2⟩
   have hj:j < ss.length:=by have:=(List.getElem?_eq_some_iff.mp hx2).1;rw[az.1] at this;exact this
   obtain⟨_,e',rx⟩:=az.2 j hj
   rw[hx2] at e'
   cases e'
   obtain⟨d,ws,rfl,ed,w0,w1,w2⟩:=yqA (rx.same (sm.trans sm2))
   obtain⟨qs,eqs⟩:=yil ss j
   have fin:N2 [some (.ref a),some (.ref b),some (.ref D),some (.ref c),some (.ref E0),some (.ref d),none,none,none,none,none,none,none] (upd H'' E0 (.lst ((yfn ss j).map V.int++[.int (yaW (ss.take j)+snL ss[j])]))):=hN2 _ _ ⟨⟨_,rfl⟩,yaT hE sm2,by rw[yad,yii hj,List.map_append];rfl⟩
   have lz:((yfn ss j).map V.int).length<=200:=by rw[List.length_map];unfold yfn;rw[List.length_map,List.length_range];omega
   have e2':H'' E0=some (.lst (qs.map V.int++[V.int (yaW (ss.take j))])):=by rw[e2,eqs,List.map_append];rfl
   walk_at ""
   refine⟨.inl ⟨rfl,_,SqL.of e2⟩,?_⟩
   walk_at ""
   refine ybp (SqL.of e2') (ybx _ _) ?_
   walk_at ""
   refine yaI (SqT.of ed) (yak (j:=0) w0) ?_
   walk_at ""
   refine yij ⟨rfl,ybC⟩ ⟨rfl,ybC⟩ (ybz rfl) (ybz rfl) ?_
   rw[ygG]
   refine ya2 ?_
   cases hs:isR ss[j] with
   | true =>
    refine i_T ?_
    walk_at ""
    refine yaI (SqT.of ed) (yak (j:=1) (w1 hs)) ?_
    walk_at ""
    exact ybQ e2 (yat (by omega)) fin
   | false =>
    refine i_F ?_
    walk_at ""
    refine yaI (SqT.of ed) (yak (j:=2) (w2 hs)) ?_
    walk_at ""
    exact ybQ e2 (yat (by omega)) fin
  ·rintro σ H'' ⟨⟨o5,rfl⟩,sm2,e2⟩
   have nE:E0≠D:=λz=>by rw[z,hd] at hE;cases hE
   obtain⟨sm3,kv3,hd3,ak3⟩:=acc.same (R:=λH x ss=>Is H x (eT ss)) yb9 sm2
   have lk:=ak3.1
   rw[List.length_take] at lk
   walk_at ""
   refine⟨.inl ⟨rfl,_,SqL.of hd3⟩,?_⟩
   walk_at ""
   refine ybQ hd3 (yat (by omega)) (hN _ _ ⟨⟨_,_,_,rfl⟩,?_⟩)
   rw[tk]
   refine Acc.put (R:=λH x ss=>Is H x (eT ss)) yb9 hD sm3 ak3 (ybV (yd1 nE hEH e2) ?_)
   rw[az.1]
   exact ydB _ _
 ·rintro σ H1 ⟨⟨o3,o4,o5,rfl⟩,acc⟩
  rw[al.1,List.take_length] at acc
  obtain⟨s1,ks,hd,ak⟩:=acc.fin yb9
  have lk:=ak.1
  have o1:Same (nw eH H H1) H1:=ydu ypp s1
  have l1':=al1.1
  rw[List.length_range] at l1'
  walk_at ""
  refine⟨b,rfl,⟨_,SqL.of (s1 _ _ eb)⟩,ydM (xs:=ys) (λi σ H'=>(∃ o3 o4 o5 o6 o7 o8 o9 o10 o11 o12,σ=[some (.ref a),some (.ref b),some (.ref D),o3,o4,o5,o6,o7,o8,o9,o10,o11,o12])/\Same H1 H'/\∀ i' v,i' < i->v < vss.length->¬ bad fw vss i' v) ⟨⟨_,_,_,_,_,_,_,_,_,_,rfl⟩,Same.refl _,λi' v h=>absurd h (Nat.not_lt_zero _)⟩ (λi _ H' _ h=>SqL.of (h.2.1 _ _ (s1 _ _ eb))) ?_ ?_⟩
  ·rintro i x σ H' p N hN hx ⟨⟨o3,o4,o5,o6,o7,o8,o9,o10,o11,o12,rfl⟩,sm,no⟩ hp
   have hi:i < fw.length:=by have:=(List.getElem?_eq_some_iff.mp hx).1;omega
   obtain⟨_,e',rx⟩:=al1.2 i (by rw[List.length_range];exact hi)
   rw[hx] at e'
   cases e'
   rw[List.getElem_range,ya7 hi] at rx
   obtain⟨c,mv,rfl,ec,im⟩:=rx.fr
   obtain⟨m1,m2,rfl,em,eg⟩:=im.mt
   have gm:=ok.m _ (List.getElem_mem hi)
   have s3:=yaf hp (.tup [.int (i:Nat),.ref c])
   have s13:=(s1.trans sm).trans s3
   refine ynw (SqT.of yad) (SqT.of (s13 _ _ ec)) ?_
   generalize upd H' p (.tup [.int (i:Nat),.ref c])=H3 at s3 s13
   walk_at ""
   refine⟨m1,m2,_,_,_,rfl,⟨s13 _ _ em,s13 _ _ eg⟩,⟨gm.t1,gm.t2⟩,gm.b,by have:=gm.len;omega,λx hx=>by have:=gm.gs x hx;have:=gm.t2;omega,λl H4 s4 nl bl=>?_⟩
   have s14:=(sm.trans s3).trans s4
   walk_at ""
   refine⟨D,rfl,⟨_,SqL.of (s14 _ _ hd)⟩,ydM (xs:=ks) (λv σ H'=>(∃ o4 o11 o12,σ=[some (.ref a),some (.ref b),some (.ref D),o3,o4,o5,some (.int (i:Nat)),some (.int (bg fw i)),some (.ref m1),some (.int fw[i].2),some (.ref l),o11,o12])/\Same H4 H'/\∀ v',v' < v->¬ bad fw vss i v') ⟨⟨_,_,_,rfl⟩,Same.refl _,λv' h=>absurd h (Nat.not_lt_zero _)⟩ (λi _ H' _ h=>SqL.of (h.2.1 _ _ (s14 _ _ hd))) ?_ ?_⟩
   ·rintro v x σ H5 p5 N2 hN2 hx2 ⟨⟨o4,o11,o12,rfl⟩,sm5,no2⟩ hp5
    have hv:v < vss.length:=by have:=(List.getElem?_eq_some_iff.mp hx2).1;omega
    obtain⟨_,e',rx⟩:=ak.2 v hv
    rw[hx2] at e'
    cases e'
    have bl2:=ykq (v:=v) hi ok.m (by rw[ya7 hv];exact ok.pos _ (List.getElem_mem hv))
    rw[ya7 hv] at bl2
    have lss:=ok.len _ (List.getElem_mem hv)
    generalize vss[v]=ss at rx bl2 lss
    have le:=ykQ ss
    obtain⟨le0,rfl,ee⟩:=Is.nums rx
    have s6:=yaf hp5 (.tup [.int (v:Nat),.ref le0])
    have s46:=sm5.trans s6
    have ee6:=s46 _ _ (s14 _ _ (o1 _ _ ee))
    refine yhZ (SqT.of yad) ?_
    generalize upd H5 p5 (.tup [.int (v:Nat),.ref le0])=H6 at s6 s46 ee6
    obtain⟨rs,ers,prs⟩:=bl.same s46
    walk_at ""
    refine⟨le0,rfl,⟨_,SqL.of ee6⟩,λD6 h6=>ycI (ps:=yj7 ss) (λ_=>true) (λe=>.int (e - bg fw i)) ee6 h6 (by omega) (λp H' Q' _ q'=>yca q') (λp H' Q' _ q'=>?_) λH7 s7 e7=>?_⟩
    ·walk_at ""
     exact q'
    have e7':H7 D6=some (.lst (((yj7 ss).map (· - bg fw i)).map V.int)):=by
     rw[e7,List.map_map,show(yj7 ss).filter (λ_=>true)=yj7 ss by simp]
     rfl
    walk_at ""
    refine⟨D6,l,rs,_,_,rfl,e7',s7 _ _ ers,ynF ((yc5 prs).same s7),by rw[List.length_map];omega,?_,λy H8 s8 hy=>?_⟩
    ·have:=ycp (bot:=fw[i].1.bt) ⟨gm.t1,gm.t2⟩ (show fw[i].1.gs.length<=100 by have:=gm.len;omega)
     rw[ycf]
     omega
    have s48:=s46.trans (s7.trans s8)
    have s08:Same H H8:=(s1.trans s14).trans s48
    walk_at ""
    rcases hy with ⟨h,rfl⟩ | ⟨h,D9,rfl,_,_⟩
    ·refine⟨rfl,ya2 (i_d (λ_=>?_) λn=>absurd rfl n)⟩
     walk_at ""
     refine⟨by show 2<=sizeLine;decide,λp9 h9=>?_⟩
     refine qe i v p9 _ ⟨hi,hv,bl2.mpr h,λi' v' _ hv' z=>?_⟩ (s08.trans (yaf h9 _)) ?_
     ·rcases z with z | ⟨rfl,z⟩
      ·exact no i' v' z hv'
      ·exact no2 v' z
     ·rw[yad]
      simp
    ·refine⟨rfl,ya2 (i_d (λh=>nomatch h) λ_=>?_)⟩
     refine hN2 _ _ ⟨⟨_,_,_,rfl⟩,s48,λv' hv'=>?_⟩
     rcases Nat.lt_succ_iff_lt_or_eq.mp hv' with z | rfl
     ·exact no2 v' z
     ·exact λz=>h (bl2.mp z)
   ·rintro σ H5 ⟨⟨o4,o11,o12,rfl⟩,sm5,no2⟩
    refine hN _ _ ⟨⟨_,_,_,_,_,_,_,_,_,_,rfl⟩,s14.trans sm5,λi' v hi' hv=>?_⟩
    rcases Nat.lt_succ_iff_lt_or_eq.mp hi' with z | rfl
    ·exact no i' v z hv
    ·exact no2 v (by omega)
  ·rintro σ H' ⟨⟨o3,o4,o5,o6,o7,o8,o9,o10,o11,o12,rfl⟩,sm,no⟩
   rw[l1'] at no
   walk_at ""
   exact q _ (s1.trans sm) no
noncomputable def chg (vs:List Cv):Nat->List (Nat×Cv)
 | 0=>[]
 | n+1=>if ((chg vs n).getLast?).map (·.2)=some (vs.getD n (.k 0)) then chg vs n else chg vs n++[(n+1,vs.getD n (.k 0))]
structure yn5 (vs:List Cv) (n:Nat) (cs:List (Nat×Cv)):Prop where
 len:cs.length<=n
 le:∀ c∈cs,c.1<=n
 one:1<=n->(cs.map (·.1)).take 1=[1]
 up:∀ i (h:i+1 < cs.length),cs[i].1 < cs[i+1].1
 ne:∀ i (h:i+1 < cs.length),cs[i].2≠cs[i+1].2
 mem:∀ c∈cs,c.2∈vs
 last:1<=n->(cs.getLast?).map (·.2)=some (vs.getD (n - 1) (.k 0))
 at_:∀ i,i < n->ydd (i+1) cs=some (vs.getD i (.k 0))
theorem yf2 {α:Type}(l:List α)(x:α):(l++[x]).getLast?=some x:=by rw[List.getLast?_append];rfl
theorem yeB {cs:List (Nat×Cv)}{n:Nat}(h:∀ c∈cs,c.1<=n):cs.filter (λc=>decide (c.1<=n))=cs:=List.filter_eq_self.mpr λc hc=>by simpa using h c hc
theorem yjm {vs:List Cv}:∀ n,n<=vs.length->yn5 vs n (chg vs n)
 | 0,_=>⟨Nat.le_refl _,(λc h=>nomatch h),(λh=>absurd h (by omega)),(λi h=>absurd h (by simp[chg])),(λi h=>absurd h (by simp[chg])),(λc h=>nomatch h),(λh=>absurd h (by omega)),(λi h=>absurd h (by omega))⟩
 | n+1,h=>by
  have ih:=yjm (vs:=vs) n (by omega)
  have vm:vs.getD n (.k 0)∈vs:=by rw[ya7 (show n < vs.length by omega)];exact List.getElem_mem _
  by_cases e:((chg vs n).getLast?).map (·.2)=some (vs.getD n (.k 0))
  ·have ec:chg vs (n+1)=chg vs n:=by rw[chg,if_pos e]
   have n1:1<=n:=by
    cases n with
    | zero=>cases e
    | succ n=>omega
   rw[ec]
   refine⟨by have:=ih.len;omega,λc hc=>by have:=ih.le c hc;omega,λ_=>ih.one n1,ih.up,ih.ne,ih.mem,λ_=>e,λi hi=>?_⟩
   by_cases z:i < n
   ·exact ih.at_ i z
   ·have:i=n:=by omega
    subst this
    unfold ydd
    rw[yeB λc hc=>by have:=ih.le c hc;omega]
    exact e
  ·have ec:chg vs (n+1)=chg vs n++[(n+1,vs.getD n (.k 0))]:=by rw[chg,if_neg e]
   rw[ec]
   generalize hcs:chg vs n=cs at ih e
   have last_le:∀ i (h:i+1=cs.length),cs[i].1 < n+1/\cs[i].2≠vs.getD n (.k 0):=λi h=>by
    have m:=List.getElem_mem (show i < cs.length by omega)
    have:=ih.le _ m
    refine⟨by omega,λz=>e ?_⟩
    have:cs.getLast?=some cs[i]:=by
     rw[List.getLast?_eq_getElem?,List.getElem?_eq_getElem (by omega)]
     simp only[← h,Nat.add_sub_cancel]
    rw[this]
    exact congrArg some z
   refine⟨by rw[List.length_append,List.length_singleton];have:=ih.len;omega,λc hc=>?_,λ_=>?_,λi h=>?_,λi h=>?_,λc hc=>?_,λ_=>by rw[yf2];rfl,λi hi=>?_⟩
   ·rcases List.mem_append.mp hc with hc | hc
    ·have:=ih.le c hc;omega
    ·rw[List.mem_singleton.mp hc];exact Nat.le_refl _
   ·cases n with
    | zero =>
     have:cs=[]:=List.eq_nil_of_length_eq_zero (by have:=ih.len;omega)
     rw[this]
     rfl
    | succ n =>
     have o:=ih.one (by omega)
     cases cs with
     | nil=>cases o
     | cons c cs=>exact o
   ·rw[List.length_append,List.length_singleton] at h
    by_cases z:i+1 < cs.length
    ·rw[List.getElem_append_left (by omega),List.getElem_append_left z];exact ih.up i z
    ·rw[List.getElem_append_left (by omega),List.getElem_append_right (by omega)]
     simp only[List.getElem_singleton]
     exact(last_le i (by omega)).1
   ·rw[List.length_append,List.length_singleton] at h
    by_cases z:i+1 < cs.length
    ·rw[List.getElem_append_left (by omega),List.getElem_append_left z];exact ih.ne i z
    ·rw[List.getElem_append_left (by omega),List.getElem_append_right (by omega)]
     simp only[List.getElem_singleton]
     exact(last_le i (by omega)).2
   ·rcases List.mem_append.mp hc with hc | hc
    ·exact ih.mem c hc
    ·rw[List.mem_singleton.mp hc];exact vm
   ·unfold ydd
    by_cases z:i < n
    ·rw[List.filter_append,show[((n+1:Nat),vs.getD n (.k 0))].filter (λc=>decide (c.1<=i+1))=[] by simp;omega,List.append_nil]
     exact ih.at_ i z
    ·have:i=n:=by omega
     subst this
     rw[yeB λc hc=>?_,yf2]
     ·rfl
     ·rcases List.mem_append.mp hc with hc | hc
      ·have:=ih.le c hc;omega
      ·rw[List.mem_singleton.mp hc];exact Nat.le_refl _
noncomputable def yhH:Bool->Fr->Cv
 | true,f=>.m f.1
 | false,f=>.k f.2
noncomputable def yiq (j:Bool)(fw:List Fr):List (Nat×Cv):=chg (fw.map (yhH j)) fw.length
theorem yml {vss:List (List Sn)}{fw:List Fr}(v:yfJ vss)(f:OkF fw (ybX (vss.map ybg)))(ne:fw≠[]):ylt (yiq true fw) (yiq false fw) vss fw:=by
 have l1:1<=fw.length:=by
  cases fw with
  | nil=>exact(ne rfl).elim
  | cons=>simp
 have l24:=f.len
 have ok:∀ j,yn5 (fw.map (yhH j)) fw.length (yiq j fw):=λj=>yjm _ (by rw[List.length_map];exact Nat.le_refl _)
 have gd:∀ j i (h:i < fw.length),(fw.map (yhH j)).getD i (.k 0)=yhH j fw[i]:=λj i h=>by rw[ya7 (by rw[List.length_map];exact h),List.getElem_map]
 have gc:∀ j,yhx j (yiq j fw):=λj=>⟨by have:=(ok j).len;omega,(ok j).one l1,(ok j).up,(ok j).ne,λc hc=>by
  obtain⟨g,hg,e⟩:=List.mem_map.mp ((ok j).mem c hc)
  rw[← e]
  cases j with
  | true=>exact f.m g hg
  | false=>exact f.k g hg⟩
 have ls:∀ j,∃ c,(yiq j fw).getLast?=some c/\c.1<=fw.length:=λj=>by
  cases e:(yiq j fw).getLast? with
  | none=>have:=(ok j).last l1;rw[e] at this;cases this
  | some c=>exact⟨c,rfl,(ok j).le c (List.mem_of_getLast? e)⟩
 exact⟨gc true,gc false,v,f,λi h=>⟨by rw[(ok true).at_ i h,gd true i h];rfl,by rw[(ok false).at_ i h,gd false i h];rfl⟩,ls true,ls false⟩
theorem yhh {vs:List Cv}(h:∀ v∈vs,v=.k 0):∀ n,n+1<=vs.length->chg vs (n+1)=[(1,.k 0)]
 | 0,l=>by
  rw[chg,if_neg (by simp[chg]),ya7 (show 0 < vs.length by omega),h _ (List.getElem_mem _)]
  rfl
 | n+1,l=>by
  have ih:=yhh h n (by omega)
  rw[chg,ih,if_pos]
  rw[ya7 (show n+1 < vs.length by omega),h _ (List.getElem_mem _)]
  rfl
theorem yjh {fw:List Fr}(h:∀ f∈fw,f.2=0)(ne:fw≠[]):yiq false fw=[(1,.k 0)]:=by
 unfold yiq
 obtain⟨n,e⟩:∃ n,fw.length=n+1:=by
  cases fw with
  | nil=>exact(ne rfl).elim
  | cons f r=>exact⟨r.length,rfl⟩
 rw[e]
 refine yhh (λv hv=>?_) n (by rw[List.length_map];omega)
 obtain⟨f,hf,rfl⟩:=List.mem_map.mp hv
 show Cv.k f.2=.k 0
 rw[h f hf]
theorem yp8 {B:Addr}{i:Nat}{ts:(St->Prop)->XK->TS}{th:Addr->TS}{D:ydh}{σ:St}{H:Hp}(q:ts (·=σ) (ygC K B i σ th D) D σ H):yon K B i ts th D σ H:=q
theorem yqN {sp:Sp}{ta:TA}{σ:St}{H:Hp}{Q:VK}(q:ta σ H λvs H1=>sp vs H1 Q λ_ _ _=>False):ylY sp ta σ H Q:=q
structure VsOk (vss:List (List Sn)):Prop where
 n1:1<=vss.length
 n2:vss.length<=2
 v:∀ ss∈vss,VOk ss
theorem VsOk.td {vss:List (List Sn)}(h:VsOk vss):vss.map ybg=vss:=by
 rw[List.map_congr_left (g:=id) λss hs=>(h.v ss hs).td,List.map_id]
theorem VsOk.gv {vss:List (List Sn)}(h:VsOk vss):yfJ vss:=⟨h.n1,h.n2,λss hs=>(h.v ss hs).g⟩
theorem VsOk.gw {vss:List (List Sn)}(h:VsOk vss):yeb vss:=⟨h.n1,h.n2,λss hs=>(h.v ss hs).g.n2,λss hs=>(h.v ss hs).g.pos,λss hs=>(h.v ss hs).g.sum⟩
noncomputable def yi8 (Tb:Addr):Sp:=λvs H Q _=>∃ (x y z:V) (vss:List (List Sn)) (fw:List Fr) (Hs:Hp),vs=[x,y,z]/\Same Hs H/\Hs Tb=none/\Is Hs x (vsT vss)/\Is Hs y (ybv fw)/\Is Hs z (csT (yiq true fw))/\VsOk vss/\OkF fw (ybX vss)/\fw≠[]/\(∀ f∈fw,f.2=0)/\TK H Tb/\∀ H',Q (.bl true) H'
theorem yqU {Tb:Addr}(T:Txt K mg t)(G_zC:FnOk P w K mg base CX0 3 t.f_zC t.d_zC ["_law_voices","_law_frames"] yi2)(G_zm:FnOk P w K mg base CX0 9 t.f_zm t.d_zm ["self","metres","keys","voices"] (yiG t))(G_zR:FnOk P w K mg base (CXg P w) 5 t.f_zR t.d_zR ["tune"] (ylU t Tb))
  (G_zW:FnOkN P w K mg base CX0 1 t.f_zW t.d_zW ["_law_e"] (ygV t)) (G_zB:FnOkN P w K mg base CX0 1 t.f_zB t.d_zB ["_law_found"] ydo):FnOk P w K mg base CX0 11 t.f_ze t.d_ze ["_law_voices","_law_frames","_law_metres"] (yi8 Tb):=by
 refine T.ze.F.ok sc_ze (λvs H Q E h=>?_) (λ_ _ _ s H vs Q E hr h=>?_)
 ·obtain⟨_,_,_,_,_,_,rfl,_⟩:=h;rfl
 have hu:=ybr hr
 obtain⟨x,y,z,vss,fw,Hs,rfl,sH,nT,ix,iy,iz,ov,okf,nf,k0,tk,q⟩:=h
 have kz:=yjh k0 nf
 have td:=ov.td
 have tok:=yml ov.gv (by rw[td];exact okf) nf
 refine⟨_,(yae (yar (i:=3) sc_ze.nd rfl (Or.inl rfl) (pcl G_zC hr T.zC (yaa (pv 0) (yaa (pv 1) yab)))) (yae (yar (i:=4) sc_ze.nd rfl (Or.inl rfl) (yfp T.Ry G_zm (hr.mono (by first | decide | omega)) rfl T.Rx T.zm.B .nil ydn (yaa (pv 2) (yaa (yaw (yaa (yay (yaa yac (yaa yac yab))) yab)) (yaa (pv 0) yab))))) (yag (ymc (i:=5) (λpins Eh EE S hps=>(yag (yao (ya0 (yaJ yg6 (ykH G_zR (hr.mono (by decide)) hps rfl T.zR.M T.zR.F.kp T.zR.B (yaa (pv 4) yab)) ybB (yau _)) (ya5 (yaJ yg6 (pv 3) ybB (yau _))))))) rfl T.QQ rfl rfl sc_ze.nd rfl rfl (λa=>(yag (yao (ya0 (yaJ ycm (yeJ G_zW (hr.toN (by decide)) rfl T.zW.M T.zW.F.kp T.zW.B (yaa (pv 5) yab)) yaN (yau _)) (ya0 (yeJ G_zB (hr.toN (by decide)) rfl T.zB.M T.zB.F.kp T.zB.B (yaa (yco (pv 5) rfl) yab)) (ya0 (yeJ G_zB (hr.toN (by decide)) rfl T.zB.M T.zB.F.kp T.zB.B (yaa (yco (pv 5) rfl) yab)) (ya5 (yaJ (ycl hu) (yay (yaa (yco (pv 5) rfl) (yaa (yco (pv 5) rfl) yab))) (pv 3) (yau _))))))))))))),?_⟩
 walk_at ""
 refine⟨x,y,vss,fw,rfl,ix.same sH,iy.same sH,⟨ov.n2,okf.len,okf.m,ov.gw.pos,ov.gw.len⟩,λd H1 s1 due=>?_⟩
 walk_at ""
 refine⟨by show 2<=sizeLine;decide,λp1 h1=>?_⟩
 walk_at ""
 refine⟨by show 1<=sizeLine;decide,λp2 h2=>?_⟩
 have s2:=yaf h1 (.tup [.int 1,.int 0])
 have s3:=yaf h2 (.lst [.ref p1])
 have ik:Is (fr H (upd (upd H1 p1 (.tup [.int 1,.int 0])) p2 (.lst [.ref p1]))) (.ref p2) (csT (yiq false fw)):=by
  rw[kz]
  exact ybV (by rw[ybH ((s1.trans s2).free h2)];exact yad) (yav (ycV (by rw[ybH (s1.free h1)];exact s3 _ _ yad) (yav (yin _ _) (yav (yin _ _) (yaV _)))) (yaV _))
 have s13:=s1.trans (s2.trans s3)
 have due3:ymV (upd (upd H1 p1 (.tup [.int 1,.int 0])) p2 (.lst [.ref p1])) d fw vss:=due.imp id λ⟨i,v,p,f,e,h⟩=>⟨i,v,p,f,e,s3 _ _ (s2 _ _ h)⟩
 generalize upd (upd H1 p1 (.tup [.int 1,.int 0])) p2 (.lst [.ref p1])=H3 at ik s13 due3 ⊢
 walk_at ""
 intro xa dx hx hdx ndx
 have o3:Same (nw Hs H H3) H3:=ydu sH s13
 have n3:nw Hs H H3 Tb=none:=ype tk nT
 have i3:Same Hs (nw Hs H H3):=yer sH
 have ik3:Is (nw Hs H H3) (.ref p2) (csT (yiq false fw)):=ik.same λb u e=>by obtain⟨e1,e2⟩:=ybf e;rw[yaP e1];exact e2
 refine⟨xa,dx,z,.ref p2,x,_,_,vss,fw,nw Hs H H3,H3,rfl,yad,hx,ycZ hx hdx ndx,o3,iz.same i3,ik3,ix.same i3,tok,λH7 s7 tu=>⟨rfl,?_⟩⟩
 rw[td] at tu
 have tk3:=tk.same s13
 have n7:nw (nw Hs H H3) H3 H7 Tb=none:=ype tk3 n3
 have due7:ymV H7 d fw vss:=due3.imp id λ⟨i,v,p,f,e,h⟩=>⟨i,v,p,f,e,s7 _ _ h⟩
 refine ybI (yp8 ?_)
 walk_at ""
 refine⟨rfl,?_⟩
 walk_at ""
 refine⟨_,vss,fw,_,rfl,ydu o3 s7,n7,tu,ov.gw,nf,okf.len,okf.m,tk3.same s7,λH8 s8 no=>?_,λi v e o dx us H8 fst s8 ne c2 d2 f2 e1 e2=>?_⟩
 ·walk_at ""
  refine⟨rfl,ya2 (i_d (λ_=>?_) λn=>absurd rfl n)⟩
  walk_at ""
  rcases due7 with ⟨_,rfl⟩ | ⟨i,v,p,f,_,_⟩
  ·exact⟨rfl,q _⟩
  ·exact absurd f.b (no i v f.i1 f.v1)
 ·refine⟨t.Ug,rfl,T.JP,λa ha=>?_⟩
  cases ha
  have hx8:ExcAt H8 (.ref e) t.Ug [("bar",.int ((i+1:Nat):Int)),("voice",.int ((v+1:Nat):Int))]:=⟨e,o,us,rfl,c2,f2,e1,.inr ⟨dx,d2,e2⟩⟩
  obtain⟨i',v',p,f,rfl,ep⟩:=due7.resolve_left λh=>h.1 i v fst.i1 fst.v1 fst.b
  obtain⟨rfl,rfl⟩:=ymb fst f
  have ep8:H8 p=some (.tup [.int ((i+1:Nat):Int),.int ((v+1:Nat):Int)]):=s8 _ _ (λz=>by obtain⟨ps,et⟩:=ydk (tk3.same s7);rw[z,et] at ep;cases ep) ep
  walk_at ""
  refine yqN ?_
  walk_at ""
  refine⟨_,.fine,_,rfl,hx8,λH9 s9=>?_⟩
  have hx9:=hx8.same s9
  walk_at ""
  refine⟨rfl,ya2 (i_d (λ_=>?_) λn=>absurd rfl n)⟩
  walk_at ""
  refine yqN ?_
  walk_at ""
  refine ydw (iv 5 rfl) hx9 T.Jd T.Jn rfl ?_
  walk_at ""
  refine⟨_,rfl,ya2 (i_T ?_)⟩
  walk_at ""
  refine yqN ?_
  walk_at ""
  refine ydw (iv 5 rfl) hx9 T.Jd T.Jh rfl ?_
  walk_at ""
  refine⟨_,rfl,ya2 (i_T ?_)⟩
  walk_at ""
  refine ydw (iv 5 rfl) hx9 T.Jd T.Jn rfl ?_
  walk_at ""
  refine ydw (iv 5 rfl) hx9 T.Jd T.Jh rfl ?_
  walk_at ""
  refine⟨by show 2<=sizeLine;decide,λp9 h9=>?_⟩
  have s10:=yaf h9 (.tup [.int ((i+1:Nat):Int),.int ((v+1:Nat):Int)])
  walk_at ""
  exact yjQ (tr:=.tp ([((i+1:Nat):Int),((v+1:Nat):Int)].map KT.nT)) (ydF _) (ydS yad) (ydS (s10 _ _ (s9 _ _ ep8))) (q _)
theorem yje {u:Int}(hu:0<=u):∀ (ms:List Int) (b:Int),(∀ m∈ms,0<=m)->∀ p∈yfq u ms b,p.1<=p.2
 | [],_,_=>λp hp=>nomatch hp
 | m :: ms,b,hm=>λp hp=>by
  have m0:0<=u*m:=Int.mul_nonneg hu (hm m (by simp))
  rw[yfq] at hp
  rcases List.mem_cons.mp hp with rfl | hp
  ·show b<=b+u*m;omega
  ·exact yje hu ms _ (λx hx=>hm x (by simp[hx])) p hp
theorem yif {m:Mt}(g:GoodM m):∃ bs p,ybo m=bs++[p]/\0<=p.2/\p.2<=192:=by
 have ne:ybo m≠[]:=λz=>by
  have l:=ycf (96 / m.bt) (yax m.tp m.bt m.gs) 0
  have z:yfq (96 / m.bt) (yax m.tp m.bt m.gs) 0=[]:=z
  rw[z] at l
  have e:yax m.tp m.bt m.gs=[]:=List.eq_nil_of_length_eq_zero l.symm
  have s:=yfP g
  rw[e] at s
  have:=g.t1
  simp at s
  omega
 refine⟨(ybo m).dropLast,(ybo m).getLast ne,(List.dropLast_concat_getLast ne).symm,?_,?_⟩
 ·have h:=yc3 g _ (List.getLast_mem ne)
  have l:=yje (u:=96 / m.bt) (by rcases g.b with h | h | h<;>rw[h]<;>decide) _ 0 (yg0 g) _ (List.getLast_mem ne)
  omega
 ·have h:=yc3 g _ (List.getLast_mem ne)
  have:yfB m<=192:=g.g
  omega
noncomputable def ym4:List Mt:=metresL++[⟨5,4,[3,2]⟩]
theorem yeX:∀ m∈ym4,GoodM m/\36<=yfB m:=λm hm=>by
 rcases List.mem_append.mp hm with h | h
 ·exact ydY m h
 ·rw[List.mem_singleton.mp h]
  exact⟨⟨by decide,by decide,by decide,by decide,by decide,by decide,by decide⟩,by decide⟩
theorem SameT.of {tp:Addr}{H H1 H':Hp}(s:Same H H1)(n:H tp=none)(st:SameT tp H1 H'):Same H H':=λb u e=>st b u (λz=>by rw[z,n] at e;cases e) (s b u e)
theorem ykX:ydA (λH x c=>Is H x (chT c)):=λs h=>h.same s
noncomputable def frP (fw:List Fr):List (Int×Fr):=(List.range fw.length).map λi=>(bg fw i,fw.getD i (⟨0,0,[]⟩,0))
theorem yhs {fw:List Fr}{f:Fr}{i:Nat}(h:i<=fw.length):bg (fw++[f]) i=bg fw i:=by unfold bg;rw[List.take_append_of_le_length h]
theorem ykR (fw:List Fr)(f:Fr):frP (fw++[f])=frP fw++[(bg fw fw.length,f)]:=by
 unfold frP
 rw[List.length_append,List.length_singleton,List.range_succ,List.map_append]
 have h1:(List.range fw.length).map (λi=>(bg (fw++[f]) i,(fw++[f]).getD i (⟨0,0,[]⟩,0)))=(List.range fw.length).map λi=>(bg fw i,fw.getD i (⟨0,0,[]⟩,0)):=List.map_congr_left λi hi=>by
  have:=List.mem_range.mp hi
  rw[yhs (by omega),ya7 (by rw[List.length_append];omega),List.getElem_append_left this,ya7 this]
 rw[h1,List.map_singleton,yhs (Nat.le_refl _),ya7 (by rw[List.length_append];simp),List.getElem_append_right (Nat.le_refl _)]
 simp
theorem yp9 (fw:List Fr):(frP fw).map (λp=>frT p.1 p.2)=ygQ fw fw.length:=by unfold frP ygQ;rw[List.map_map];rfl
theorem ylI {fw:List Fr}{f:Fr}:bg (fw++[f]) (fw++[f]).length=bg fw fw.length+yfB f.1:=by
 have h:fw.length < (fw++[f]).length:=by simp
 rw[List.length_append,List.length_singleton,ydl h,yhs (Nat.le_refl _)]
 simp
theorem yoa {m:Mt}(g:GoodM m):m.tp*96 / m.bt=yfB m:=by
 unfold yfB
 rcases g.b with e | e | e<;>rw[e]<;>omega
theorem ymR {fw:List Fr}(h:∀ f∈fw,36<=yfB f.1):∀ i,i<=fw.length->36*(i:Int)<=bg fw i
 | 0,_=>by simp[bg]
 | i+1,hi=>by
  have:=ymR h i (by omega)
  have:=h _ (List.getElem_mem (show i < fw.length by omega))
  rw[ydl (by omega)]
  omega
theorem ynT {ta:TA}{g:TG}{tb:TS}{D:ydh}{σ:St}{H:Hp}(q:ta σ H λvs H1=>∃ i j:Int,vs=[.int i,.int j]/\(-(2 ^ 62)<=i/\i < 2 ^ 62/\-(2 ^ 62)<=j/\j < 2 ^ 62)/\ykW (Itr i (j - i).toNat) g tb D σ H1):ykV (ykL ta) g tb D σ H:=q
theorem yj0 {F:Hp}{ys:List V}{ms:List Mt}(is:Iss F ys (ms.map mtT)){u:Int}(u0:0<=u)(u1:u < ms.length):∃ y,∃ m∈ms,atI ys u=some y/\Is F y (mtT m):=by
 obtain⟨y,ey,iy⟩:=is.at' u.toNat (by rw[List.length_map];omega)
 rw[List.getElem_map] at iy
 have ea:=yak ey
 rw[Int.toNat_of_nonneg u0] at ea
 exact⟨y,_,List.getElem_mem _,ea,iy⟩
theorem ykC {vss:List (List Sn)}(h:VsOk vss):0 < ybX vss/\ybX vss<=773:=by
 have key:∀ (l:List (List Sn)) (z:Int),(∀ s∈l,yaW s<=773)->z<=773->l.foldl (λm ss=>max m (yaW ss)) z<=773/\z<=l.foldl (λm ss=>max m (yaW ss)) z/\∀ s∈l,yaW s<=l.foldl (λm ss=>max m (yaW ss)) z:=λl=>by
  induction l with
  | nil=>exact λz _ hz=>⟨hz,Int.le_refl _,λs h=>nomatch h⟩
  | cons s l ih =>
   intro z h hz
   have hs:=h s (by simp)
   obtain⟨a,b,c⟩:=ih (max z (yaW s)) (λu hu=>h u (List.mem_cons_of_mem _ hu)) (by omega)
   refine⟨a,by rw[List.foldl_cons];omega,λu hu=>?_⟩
   rcases List.mem_cons.mp hu with rfl | hu
   ·rw[List.foldl_cons];omega
   ·exact c u hu
 obtain⟨k1,_,k3⟩:=key vss 0 (λs hs=>(h.v s hs).su) (by decide)
 obtain⟨ss,hs⟩:∃ ss,ss∈vss:=by
  have:=h.n1
  cases vss with
  | nil=>simp at this
  | cons s r=>exact⟨s,by simp⟩
 have g:=(h.v ss hs).g
 obtain⟨s,hs2⟩:∃ s,s∈ss:=by
  have:=g.n1
  cases ss with
  | nil=>simp at this
  | cons s r=>exact⟨s,by simp⟩
 have a:=yhI g.pos hs2
 have b:=g.pos s hs2
 have c:=k3 ss hs
 exact⟨by unfold ybX;omega,k1⟩
theorem yh0 {α:Type}{S:V->α->Prop}{x:V}{u:α}(h:S x u):Al S [x] [u]:=Al.snoc Al.nil h
noncomputable def yiJ (K:PySem.W.Frag)(Tb:Addr):Sp:=λvs H Q _=>∃ (a:Addr) (ns:List Int),vs=[.ref a]/\SqL K H a (ns.map V.int)/\(∀ v∈ns,Builtin.Int.intBits v<=2 ^ 20)/\TK H Tb/\∀ H',Q (.bl true) H'
theorem ynH {Tb:Addr}(T:Txt K mg t)(G_zq:FnOk P w K mg base CX0 3 t.f_zq t.d_zq ["_law_number"] ylM)(G_zH:FnOk P w K mg base CX0 2 t.f_zH t.d_zH ["_law_script","_law_tape"] (yiW K))(G_zL:FnOk P w K mg base CX0 2 t.f_zL t.d_zL ["_law_metre_here"] ye1)
  (G_zg:FnOk P w K mg base CX0 3 t.f_zg t.d_zg ["_law_stretches_here","_law_pairs"] ylP) (G_zf:FnOk P w K mg base CX0 3 t.f_zf t.d_zf ["_law_script","_law_tape","_law_size"] (ylz K)) (G_zQ:FnOk P w K mg base CX0 1 t.f_zQ t.d_zQ ["_law_script","_law_tape","_law_size"] (yeH K)) (G_zI:FnOk P w K mg base CX0 3 t.f_zI t.d_zI ["_law_script","_law_tape","_law_is_fine"] (yiy K))
  (G_zN:FnOk P w K mg base CX0 1 t.f_zN t.d_zN ["_law_voices"] yhp) (G_ze:FnOk P w K mg base CX0 11 t.f_ze t.d_ze ["_law_voices","_law_frames","_law_metres"] (yi8 Tb)):FnOk P w K mg base CX0 12 t.f_zau t.d_zau ["_law_script"] (yiJ K Tb):=by
 refine T.RZ.F.ok sc_zau (λvs H Q E h=>?_) (λ_ _ _ s H vs Q E hr h=>?_)
 ·obtain⟨_,_,rfl,_⟩:=h;rfl
 have hu:=ybr hr
 obtain⟨a,ns,rfl,hs,sm,tk,q⟩:=h
 refine⟨_,(yae (yar (i:=1) sc_zau.nd rfl (Or.inr rfl) (yaw (yaa yac yab))) (yae (yaY (ybd (yaQ (pcl G_zq hr T.zq (yaa (yaF ya6 yac (yaF yck (yal (yjy rfl) rfl T.QT yc6 (yaa (pv 0) yab)) yac)) yab)))) (yag (yao ybt)) yaA) (yae (yar (i:=2) sc_zau.nd rfl (Or.inl rfl) (pcl G_zH hr T.zH (yaa (pv 0) (yaa (pv 1) yab)))) (yae (yar (i:=3) sc_zau.nd rfl (Or.inl rfl) (pcl G_zL hr T.zL (yaa (pv 2) yab))) (yae (yaY (ybd (yaQ (pcl G_zg hr T.zg (yaa (pcl G_zf hr T.zf (yaa (pv 0) (yaa (pv 1) (yaa (yas yap (yas yaL (pv 3) (ycM ybR yac) (λ_ _=>rfl)) yac (λ_ _=>rfl)) yab)))) (yaa (pv 3) yab))))) (yag (yao ybt)) yaA) (yae (yar (i:=4) sc_zau.nd rfl (Or.inr rfl) (yaJ ycm (pcl G_zQ hr T.zQ (yaa (pv 0) (yaa (pv 1) (yaa yac yab)))) yac (yau _))) (yae (ybk (i:=5) sc_zau.nd rfl (Or.inl rfl) (yaB (NB:=["_law_k","_law_script","_law_tape","_law_is_fine"]) (cap:=[none,some 0,some 1,some 4]) rfl) rfl (ydO rfl T.JW (yaa (yaF ya6 yac (pcl G_zQ hr T.zQ (yaa (pv 0) (yaa (pv 1) (yaa yac yab))))) yab)) (λ_ _ _ _=>(yaq (i:=0) (show List.Nodup (["_law_k","_law_script","_law_tape","_law_is_fine"]:List Str) by decide) rfl (Or.inl rfl))) (λ_ _ _ _=>yaG) (λ_ _ _ _=>(pcl G_zI hr T.zI (yaa (pv 1) (yaa (pv 2) (yaa (pv 3) yab)))))) (yae (yar (i:=6) sc_zau.nd rfl (Or.inl rfl) (yaw yab)) (yae (yar (i:=7) sc_zau.nd rfl (Or.inl rfl) yac) (yae (yar (i:=2) sc_zau.nd rfl (Or.inl rfl) (yas yaL (yaw (yaa (yay (yaa yac (yaa yac (yaa (yay yab) yab)))) (yaa (yay (yaa yac (yaa yac (yaa (yay yab) yab)))) (yaa (yay (yaa yac (yaa yac (yaa (yay yab) yab)))) (yaa (pcl G_zH hr T.zH (yaa (pv 0) (yaa (pv 1) yab))) yab))))) (pcl G_zQ hr T.zQ (yaa (pv 0) (yaa (pv 1) (yaa yac yab)))) (λ_ _=>rfl))) (yae (ydC PassesOwn.never (yaz yel (pv 7) (pcl G_zN hr T.zN (yaa (pv 5) yab)) (yau _)) (yae (yaY (PW.pt (yd6 (yaz (ycv hu) (pv 6) (yaw yab) (yau _)) (ydf (yaz ycm (pcl G_zQ hr T.zQ (yaa (pv 0) (yaa (pv 1) (yaa yac yab)))) yac (yau _))))) (yag (yar (i:=2) sc_zau.nd rfl (Or.inl rfl) (yas yaL (yaw (yaa (yay (yaa yac (yaa yac (yaa (yay yab) yab)))) (yaa (yay (yaa yac (yaa yac (yaa (yay (yaa yac (yaa yac yab))) yab)))) (yaa (pcl G_zH hr T.zH (yaa (pv 0) (yaa (pv 1) yab))) yab)))) (pcl G_zQ hr T.zQ (yaa (pv 0) (yaa (pv 1) (yaa yac yab)))) (λ_ _=>rfl)))) yaA) (yae (yaH (ybN F.plainAttrs_list F.slot_list_append F.type_list_append yaM (pv 6) (yaa (yay (yaa (pv 7) (yaa (pv 2) (yaa yac yab)))) yab))) (yag (yar (i:=7) sc_zau.nd rfl (Or.inl rfl) (yaF ya6 (pv 7) (yaF ycO (yaF yb0 (yas yap (pv 2) yac (λ_ _=>rfl)) yac) (yas yap (pv 2) yac (λ_ _=>rfl))))))))) (yae (yar (i:=8) sc_zau.nd rfl (Or.inl rfl) (yaw (yaa (yay (yaa yac (yaa (yas yap (yas yaL (pv 6) yac (λ_ _=>rfl)) yac (λ_ _=>rfl)) yab))) yab))) (yae (ybs PassesOwn.never rfl (ygm rfl T.JW (yaa yac (yaa (yal yaD rfl T.Jj PySem.boot_len (yaa (pv 6) yab)) yab))) (yaq (i:=9) sc_zau.nd rfl (Or.inl rfl)) (yag (yaY (yaz (yc4 hu) (yas yap (yas yaL (pv 6) (pv 9) (λ_ _=>rfl)) yac (λ_ _=>rfl)) (yas yap (yas yaL (pv 8) (ycM ybR yac) (λ_ _=>rfl)) yac (λ_ _=>rfl)) (yau _)) (yag (yaH (ybN F.plainAttrs_list F.slot_list_append F.type_list_append yaM (pv 8) (yaa (yay (yaa (yaF ya6 (pv 9) yac) (yaa (yas yap (yas yaL (pv 6) (pv 9) (λ_ _=>rfl)) yac (λ_ _=>rfl)) yab))) yab)))) yaA))) (yag (yao (pcl G_ze hr T.ze (yaa (pv 5) (yaa (pv 6) (yaa (pv 8) yab))))))))))))))))))),?_⟩
 walk_at ""
 refine⟨by show 1<=sizeLine;decide,λtp htp=>?_⟩
 have s1:=yaf htp (.lst [V.int 0])
 have d1:Dr K a tp ns (upd H tp (.lst [V.int 0])) 0:=⟨⟨H,hs,htp,s1⟩,sm,0,Nat.le_refl _,yad⟩
 generalize upd H tp (.lst [V.int 0])=H1 at d1 s1 ⊢
 have tk1:=tk.same s1
 walk_at ""
 refine⟨a,ns,rfl,d1.src.sq,?_⟩
 walk_at ""
 refine⟨_,rfl,λH2 s2=>ya2 (i_F ?_)⟩
 have d2:=d1.same s2
 have t2:SameT tp H1 H2:=Same.tt s2
 walk_at ""
 refine⟨a,tp,ns,_,rfl,d2,by omega,λmv m H3 hm t3 d3 im=>?_⟩
 have gm:=(ydY m hm).1
 have t13:=SameT.trans t2 t3
 obtain⟨m1,m2,rfl,em,eg⟩:=(im.same (yct _ _)).mt
 walk_at ""
 refine⟨m1,m2,_,_,_,rfl,⟨em,eg⟩,⟨gm.t1,gm.t2⟩,gm.b,by have:=gm.len;omega,λx hx=>by have:=gm.gs x hx;have:=gm.t2;omega,λl H4 s4 nl bl=>?_⟩
 have d4:=d3.same s4
 have t14:=SameT.trans t13 (Same.tt s4)
 have ntl:l≠tp:=d3.ne nl
 obtain⟨rs,ers,prs⟩:=bl
 have ipr:=yc5 prs
 obtain⟨bs,p,ebs,p0,p1⟩:=yif gm
 have ipl:=ya4 ipr
 have ebs':yfq (96 / m.bt) (yax m.tp m.bt m.gs) 0=bs++[p]:=ebs
 obtain⟨zs,z,rfl,sz,_⟩:=ybZ (u:=p) ipl (by rw[ebs',List.getLast?_append];rfl)
 obtain⟨c,rfl,ec⟩:=sz.pr
 walk_at ""
 refine ybp (SqL.of ers) (ybx zs _) ?_
 walk_at ""
 refine yaI (SqT.of ec) (yak (j:=1) rfl) ?_
 walk_at ""
 refine⟨a,tp,ns,_,_,rfl,d4,by omega,p0,p1,λy us H5 lu t5 d5 iy=>?_⟩
 rw[Is] at iy
 obtain⟨ya,xs,rfl,ey,ix⟩:=iy
 have t15:=SameT.trans t14 t5
 walk_at ""
 obtain⟨ut,et⟩:=d4.tape
 have prs5:PairsAt H5 (zs++[.ref c]) (ybo m):=prs.mono λb xs e=>t5 _ _ (λz=>by rw[z,et.2] at e;cases e) e
 refine⟨ya,l,xs,_,us,ybo m,rfl,(ybf ey).2,ix.same (yct _ _),t5 _ _ ntl ers,yc5 prs5,lu,?_,λb hb=>(yc3 gm b hb).2.2,λH6 s6=>ya2 (i_F ?_)⟩
 ·have:=ycp (bot:=m.bt) ⟨gm.t1,gm.t2⟩ (show m.gs.length<=100 by have:=gm.len;omega)
  rw[ybo,ycf]
  omega
 have d6:=d5.same s6
 have t16:=SameT.trans t15 (Same.tt s6)
 walk_at ""
 refine⟨a,tp,ns,_,2,rfl,d6,by omega,by decide,by decide,λw H7 w0 w1 t7 d7=>?_⟩
 have t17:=SameT.trans t16 t7
 walk_at ""
 refine⟨a,tp,ns,_,2,rfl,d7,by omega,by decide,by decide,λv H8 v0 v1 t8 d8=>?_⟩
 have t18:=SameT.trans t17 t8
 walk_at ""
 refine⟨_,rfl,by omega,by omega,λD hD=>yeG (λi σ' H'=>(∃ o,σ'=[o,some (.ref a),some (.ref tp),some (.bl (decide (w=1)))])/\Dr K a tp ns H' (603+100*i)/\∃ vss:List (List Sn),vss.length=i/\(∀ ss∈vss,VOk ss)/\AccT vT tp H8 H' D vss) ⟨⟨_,rfl⟩,d8.same (yaf hD _),[],rfl,by simp,AccT.nil hD⟩ ?_ ?_⟩
 ·rintro i σ' H' hi ⟨⟨o,rfl⟩,dd,vss,lv,gv,acc⟩
  refine ybI (yca (i_T ?_))
  walk_at ""
  refine⟨a,tp,ns,_,_,rfl,dd,by omega,λy ss H3 g1 s3 d3 iy=>?_⟩
  have acc3:=AccT.tt d8 hD acc s3
  obtain⟨ks,hd,lk,acc4⟩:=acc3.put d8 hD (iy.same (AccT.new dd acc))
  refine⟨ks,hd,yat (by omega),⟨_,rfl⟩,(d8.put hD acc3.1 d3).up (by omega),_,by rw[List.length_append,lv];rfl,λz hz=>?_,acc4⟩
  rcases List.mem_append.mp hz with hz | hz
  ·exact gv z hz
  ·rw[List.mem_singleton.mp hz];exact g1
 rintro σ' H9 ⟨_,d9,vss,lv,gv,acc⟩
 have ov:VsOk vss:=⟨by omega,by omega,gv⟩
 have iv:Is (fr H8 H9) (.ref D) (vsT vss):=acc.fin hD
 have t19:=SameT.trans t18 acc.1
 have iv9:Is (fr H1 H9) (.ref D) (vsT vss):=iv.same (ydE d8 t18)
 have d9:=d9.up (M:=900) (by omega)
 obtain⟨l0,l1⟩:=ykC ov
 refine ydx (yfV (ykx ?_))
 walk_at ""
 refine⟨Nat.zero_le _,λF hF=>?_⟩
 show ybm 6 (V.ref F) [some (.ref a),some (.ref tp),some (.ref m1),some (.ref l),some (.bl (decide (w=1))),some (.ref D),none,none,none,none] _ _
 generalize V.bl (decide (w=1))=fv
 have s10:=yaf hF (HO.lst [])
 have acc10:AccT (λp:Int×Fr=>frT p.1 p.2) tp H9 (upd H9 F (.lst [])) F []:=AccT.nil hF
 have d10:=d9.same s10
 generalize upd H9 F (.lst [])=H10 at s10 acc10 d10 ⊢
 refine ybI ?_
 refine ydx (yfV (i_c (ybI ?_)))
 dsimp only
 refine ydx (ym9 (te:=ynd _ _) (fun σ H'=>∃ (mv:V) (m:Mt),σ=[some (.ref a),some (.ref tp),some mv,some (.ref l),some fv,some (.ref D),some (.ref F),some (.int 0),none,none]/\Is (rm (fr H9 H') F) mv (mtT m)/\m∈ym4/\AccT (λp:Int×Fr=>frT p.1 p.2) tp H9 H' F []/\Dr K a tp ns H' 902) (λD' hD'=>?_) fun σ H' p=>?_)
 ·refine yfV (ypi (ykx (yez ?_)))
  refine(show yip _ (mtT ⟨4,4,[]⟩) from ?_) _ _ _ λy1 Ha sa ia=>?_
  ·refine yio ?_ (by decide)
   repeat (first | exact ylD | refine ylK ?_ ?_ | refine yio ?_ (by decide) | exact ylR rfl)
  refine yez ?_
  refine(show yip _ (mtT ⟨3,4,[]⟩) from ?_) _ _ _ λy2 Hb sb ib=>?_
  ·refine yio ?_ (by decide)
   repeat (first | exact ylD | refine ylK ?_ ?_ | refine yio ?_ (by decide) | exact ylR rfl)
  refine yez ?_
  refine(show yip _ (mtT ⟨2,2,[]⟩) from ?_) _ _ _ λy3 Hc sc ic=>?_
  ·refine yio ?_ (by decide)
   repeat (first | exact ylD | refine ylK ?_ ?_ | refine yio ?_ (by decide) | exact ylR rfl)
  have sac:=sa.trans (sb.trans sc)
  have dc:=d10.same sac
  walk_at ""
  refine⟨a,tp,ns,_,rfl,dc,by omega,λy4 m4 Hd hm4 td dd id4=>?_⟩
  have tad:=SameT.trans (Same.tt sac) td
  have is4:Iss (fr H10 Hd) [y1,y2,y3,y4] ([⟨4,4,[]⟩,⟨3,4,[]⟩,⟨2,2,[]⟩,m4].map mtT):=yav (ia.same (d10.fr (SameT.trans (Same.tt (sb.trans sc)) td))) (yav (ib.same ((ycJ sa).trans (d10.fr (SameT.trans (Same.tt sc) td)))) (yav (ic.same ((ycJ (sa.trans sb)).trans (d10.fr td))) (yav (id4.same (ydE dc (Same.tt sac))) (yaV _))))
  walk_at ""
  refine⟨by show 4<=sizeLine;decide,λpl hpl=>?_⟩
  have se:=yaf hpl (.lst [y1,y2,y3,y4])
  walk_at ""
  refine⟨a,tp,ns,_,4,rfl,dd.same se,by omega,by decide,by decide,λu Hf u0 u1 tf df=>?_⟩
  have tef:=SameT.trans (Same.tt se) tf
  obtain⟨y,m,hm,ey,iy⟩:=yj0 (is4.same (d10.fr tef)) u0 (by show u < 4;exact u1)
  refine ybp (SqL.of (tf _ _ (dd.ne hpl) yad)) ey ?_
  have tall:=SameT.trans tad tef
  refine hD' _ _ ⟨y,m,rfl,iy.same (AccT.new d10 acc10),?_,AccT.tt d9 hF acc10 tall,df.up (by omega)⟩
  simp only[List.mem_cons,List.not_mem_nil,or_false] at hm
  rcases hm with rfl | rfl | rfl | rfl
  ·decide
  ·decide
  ·decide
  ·exact List.mem_append_left _ hm4
 obtain⟨mv,m',rfl,im,hm',acc,dd⟩:=p
 dsimp only
 have cnd:∀ {H':Hp},SameT tp H9 H'->Is H' (.ref D) (vsT vss):=λt'=>iv9.same ((d1.fr t').trans (yct _ _))
 refine ydx (ym9 (te:=yjs _ _) (fun σ H'=>∃ (fw:List Fr) (mv:V),σ=[some (.ref a),some (.ref tp),some mv,some (.ref l),some fv,some (.ref D),some (.ref F),some (.int (bg fw fw.length)),none,none]/\OkF fw (ybX vss)/\fw≠[]/\(∀ f∈fw,f.2=0)/\AccT (λp:Int×Fr=>frT p.1 p.2) tp H9 H' F (frP fw)/\Dr K a tp ns H' 1200) (λD' hD'=>?_) fun σ H' p=>?_)
 ·refine⟨λn σ H'=>∃ (fw:List Fr) (mv:V) (m:Mt),n=(ybX vss - bg fw fw.length).toNat/\σ=[some (.ref a),some (.ref tp),some mv,some (.ref l),some fv,some (.ref D),some (.ref F),some (.int (bg fw fw.length)),none,none]/\Is (rm (fr H9 H') F) mv (mtT m)/\m∈ym4/\(∀ f∈fw,f.1∈ym4/\f.2=0)/\(∀ i,i < fw.length->bg fw i < ybX vss)/\AccT (λp:Int×Fr=>frT p.1 p.2) tp H9 H' F (frP fw)/\Dr K a tp ns H' (902+4*fw.length),⟨_,[],mv,m',rfl,rfl,im,hm',by simp,λi h=>absurd h (by simp),acc,dd⟩,?_⟩
  rintro n σ H' ⟨fw,mv,m,rfl,rfl,im,hm,gf,gl,acc,dd⟩
  have g36:∀ f∈fw,36<=yfB f.1:=λf hf=>(yeX f.1 (gf f hf).1).2
  walk_at ""
  refine⟨_,vss,rfl,cnd acc.1,ov.gw,λH2 s2=>?_⟩
  have acc:=AccT.tt d9 hF acc (Same.tt s2)
  have dd:=dd.same s2
  have im:=im.same (ydj λb u _ e=>d9.fr (Same.tt s2) b u e)
  have ge:=ymR g36 fw.length (Nat.le_refl _)
  walk_at ""
  refine i_d (λh=>?_) λh=>?_
  ·have ln:fw.length<=21:=by omega
   refine⟨fun σ' H''=>∃ (fw2:List Fr) (mv:V) (m:Mt),bg fw fw.length < bg fw2 fw2.length/\σ'=[some (.ref a),some (.ref tp),some mv,some (.ref l),some fv,some (.ref D),some (.ref F),some (.int (bg fw2 fw2.length)),none,none]/\Is (rm (fr H9 H'') F) mv (mtT m)/\m∈ym4/\(∀ f∈fw2,f.1∈ym4/\f.2=0)/\(∀ i,i < fw2.length->bg fw2 i < ybX vss)/\AccT (λp:Int×Fr=>frT p.1 p.2) tp H9 H'' F (frP fw2)/\Dr K a tp ns H'' (902+4*fw2.length),fun σ' H'' ⟨fw2,mv,m,lt,z⟩=>⟨_,by omega,fw2,mv,m,rfl,z⟩,?_⟩
   obtain⟨_,ks0,hd0,is0⟩:=id acc
   refine ydx (ym9 (te:=yne _ _ _) (fun σ H2=>∃ (mv:V) (m:Mt),σ=[some (.ref a),some (.ref tp),some mv,some (.ref l),some fv,some (.ref D),some (.ref F),some (.int (bg fw fw.length)),none,none]/\Is (rm (fr H9 H2) F) mv (mtT m)/\m∈ym4/\AccT (λp:Int×Fr=>frT p.1 p.2) tp H9 H2 F (frP fw)/\Dr K a tp ns H2 (902+4*fw.length+4)) (λD' hD'=>?_) fun σ H2 p=>?_)
   ·walk_at ""
    refine⟨Nat.zero_le _,λp hp=>?_⟩
    have s4:=yaf hp (.lst [])
    have acc4:=AccT.tt d9 hF acc (Same.tt s4)
    have d4:=dd.same s4
    have im4:=im.same (ydj λb u _ e=>d9.fr (Same.tt s4) b u e)
    refine⟨F,p,ks0,rfl,rfl,SqL.of (s4 _ _ hd0),SqL.of yad,ya2 ?_⟩
    generalize upd H2 p (.lst [])=H4 at acc4 d4 im4 ⊢
    refine i_b (λ_=>?_) λ_=>?_
    ·walk_at ""
     refine⟨a,tp,ns,_,4,rfl,d4,by omega,by decide,by decide,λu H5 u0 u1 s5 d5=>?_⟩
     have acc5:=AccT.tt d9 hF acc4 s5
     have im5:=im4.same (ydj λb u _ e=>d9.fr s5 b u e)
     walk_at ""
     refine i_d (λ_=>?_) λ_=>?_
     ·refine yfV (ypi (ykx (yez ?_)))
      refine(show yip _ (mtT ⟨4,4,[]⟩) from ?_) _ _ _ λy1 Ha sa ia=>?_
      ·refine yio ?_ (by decide)
       repeat (first | exact ylD | refine ylK ?_ ?_ | refine yio ?_ (by decide) | exact ylR rfl)
      refine yez ?_
      refine(show yip _ (mtT ⟨5,4,[3,2]⟩) from ?_) _ _ _ λy2 Hb sb ib=>?_
      ·refine yio ?_ (by decide)
       repeat (first | exact ylD | refine ylK ?_ ?_ | refine yio ?_ (by decide) | exact ylR rfl)
      have sac:=sa.trans sb
      have dc:=d5.same sac
      walk_at ""
      refine⟨a,tp,ns,_,rfl,dc,by omega,λy4 m4 Hd hm4 td dd' id4=>?_⟩
      have tad:=SameT.trans (Same.tt sac) td
      have is4:Iss (fr H5 Hd) [y1,y2,y4] ([⟨4,4,[]⟩,⟨5,4,[3,2]⟩,m4].map mtT):=yav (ia.same (d5.fr (SameT.trans (Same.tt sb) td))) (yav (ib.same ((ycJ sa).trans (d5.fr td))) (yav (id4.same (ydE dc (Same.tt sac))) (yaV _)))
      walk_at ""
      refine⟨by show 3<=sizeLine;decide,λpl hpl=>?_⟩
      have se:=yaf hpl (.lst [y1,y2,y4])
      walk_at ""
      refine⟨a,tp,ns,_,3,rfl,dd'.same se,by omega,by decide,by decide,λu Hf u0 u1 tf df=>?_⟩
      have tef:=SameT.trans (Same.tt se) tf
      obtain⟨y,m,hm,ey,iy⟩:=yj0 (is4.same (d5.fr tef)) u0 (by show u < 3;exact u1)
      refine ybp (SqL.of (tf _ _ (dd'.ne hpl) yad)) ey ?_
      have tall:=SameT.trans tad tef
      refine hD' _ _ ⟨y,m,rfl,iy.same (AccT.new d5 acc5),?_,AccT.tt d9 hF acc5 tall,df.up (by omega)⟩
      simp only[List.mem_cons,List.not_mem_nil,or_false] at hm
      rcases hm with rfl | rfl | rfl
      ·decide
      ·decide
      ·exact List.mem_append_left _ hm4
     ·exact ycC (hD' _ _ ⟨mv,m,rfl,im5,hm,acc5,d5.up (by omega)⟩)
    ·exact ycC (hD' _ _ ⟨mv,m,rfl,im4,hm,acc4,d4.up (by omega)⟩)
   obtain⟨mv,m,rfl,im,hm,acc,dd⟩:=p
   obtain⟨_,ks1,hd1,is1⟩:=id acc
   walk_at ""
   refine⟨.inl ⟨rfl,_,SqL.of hd1⟩,?_⟩
   walk_at ""
   refine⟨by show 3<=sizeLine;decide,λp hp=>?_⟩
   have s4:=yaf hp (.tup [.int (bg fw fw.length),mv,.int 0])
   have acc4:=AccT.tt d9 hF acc (Same.tt s4)
   have d4:=dd.same s4
   have im4:=im.same (ydj λb u _ e=>d9.fr (Same.tt s4) b u e)
   have np:p≠F:=λz=>by rw[z,hd1] at hp;cases hp
   have ip:Is (rm (fr H9 (upd H2 p (.tup [.int (bg fw fw.length),mv,.int 0]))) F) (.ref p) (frT (bg fw fw.length) (m,0)):=ynv (by rw[yeS np,ybH (dd.free acc.1 hp)];exact yad) im4
   obtain⟨ks',hd',lk,acc5⟩:=acc4.put d9 hF (u:=(bg fw fw.length,(m,0))) ip
   have dd5:=d9.put (o:=.lst (ks'++[.ref p])) hF acc4.1 d4
   have im5:=im4.same (yfS (o:=.lst (ks'++[.ref p])))
   have lf:(frP fw).length=fw.length:=by unfold frP;rw[List.length_map,List.length_range]
   generalize upd H2 p (.tup [.int (bg fw fw.length),mv,.int 0])=H4 at hd' acc5 dd5 im5 ⊢
   walk_at ""
   refine ybQ hd' (yat (by omega)) ?_
   generalize upd H4 F (.lst (ks'++[.ref p]))=H5 at acc5 dd5 im5 ⊢
   have gm:=yeX m hm
   have so:Same (rm (fr H9 H5) F) H5:=(yeZ _ _).trans (yct _ _)
   obtain⟨c,c2,rfl,ec,ec2⟩:=(im5.same so).mt
   walk_at ""
   refine yaI (SqT.of ec) (yak (j:=0) rfl) ?_
   walk_at ""
   refine yaI (SqT.of ec) (yak (j:=1) rfl) ?_
   have b8:=gm.1.b
   refine i_I ⟨by omega,by omega⟩ ?_
   walk_at ""
   rw[yoa gm.1]
   refine⟨fw++[(m,0)],_,m,by rw[ylI];have:=gm.2;show _ < _+yfB m;omega,by rw[ylI];rfl,im5,hm,λf hf=>?_,λi hi=>?_,by rw[ykR];exact acc5,dd5.up (by rw[List.length_append,List.length_singleton];omega)⟩
   ·rcases List.mem_append.mp hf with hf | hf
    ·exact gf f hf
    ·rw[List.mem_singleton.mp hf];exact⟨hm,rfl⟩
   ·rw[List.length_append,List.length_singleton] at hi
    rw[yhs (by omega)]
    by_cases z:i < fw.length
    ·exact gl i z
    ·rw[show i=fw.length by omega];exact h
  ·have ln:fw.length<=22:=by
    cases hz:fw.length with
    | zero=>omega
    | succ n =>
     have:=gl n (by omega)
     have:=ymR g36 n (by omega)
     omega
   have nf:fw≠[]:=λz=>by rw[z] at h;exact h (by simpa [bg] using l0)
   exact hD' _ _ ⟨fw,mv,rfl,⟨by omega,gl,by omega,λf hf=>(yeX _ (gf f hf).1).1,λf hf=>by rw[(gf f hf).2];decide⟩,nf,λf hf=>(gf f hf).2,acc,dd.up (by omega)⟩
 obtain⟨fw,mv,rfl,okf,nf,k0,acc,dd⟩:=p
 have t1':=SameT.trans t19 acc.1
 have sHs:Same (fr H1 H') H':=yct _ _
 have ivf:Is (fr H1 H') (.ref D) (vsT vss):=iv9.same (d1.fr acc.1)
 have iff9:Is (fr H9 H') (.ref F) (ybv fw):=by
  have z:=acc.fin hF
  rwa [yp9] at z
 have iff':Is (fr H1 H') (.ref F) (ybv fw):=iff9.same (ydE d9 t19)
 have nTs:fr H1 H' Tb=none:=yoQ tk1
 have sHH:Same H H':=SameT.of s1 htp t1'
 generalize fr H1 H'=Hs at sHs ivf iff' nTs
 have iF:=iff'
 rw[ybv,Is] at iF
 obtain⟨_,fs,e,eF,isF⟩:=iF
 cases e
 have al:Al (λz i=>Is Hs z (frT (bg fw i) (fw.getD i (⟨0,0,[]⟩,0)))) fs (List.range fw.length):=ya4 isF
 have lx:=al.1
 rw[List.length_range] at lx
 have at_:∀ i (h:i < fw.length),∃ c y,fs[i]?=some (.ref c)/\Hs c=some (.tup [.int (bg fw i),y,.int fw[i].2])/\Is Hs y (mtT fw[i].1):=λi h=>by
  obtain⟨x',e,rx⟩:=al.2 i (by rw[List.length_range];exact h)
  rw[List.getElem_range,ya7 h] at rx
  obtain⟨c,y,rfl,ec,iy⟩:=rx.fr
  exact⟨c,y,e,ec,iy⟩
 have l1f:1<=fw.length:=by
  cases fw with
  | nil=>exact(nf rfl).elim
  | cons=>simp
 have l24:=okf.len
 obtain⟨c0,y0,ef0,ec0,iy0⟩:=at_ 0 (by omega)
 walk_at ""
 refine ybp (SqL.of (sHs _ _ eF)) (yak (j:=0) ef0) ?_
 walk_at ""
 refine yaI (SqT.of (sHs _ _ ec0)) (yak (j:=1) rfl) ?_
 walk_at ""
 refine⟨by show 2<=sizeLine;decide,λp1 hp1=>?_⟩
 walk_at ""
 refine⟨by show 1<=sizeLine;decide,λM hM=>?_⟩
 have sa:=yaf hp1 (.tup [.int 1,y0])
 have sb:=yaf hM (.lst [.ref p1])
 have hM':=sa.free hM
 have vi:∀ i (h:i < fw.length),(fw.map (yhH true)).getD i (.k 0)=.m fw[i].1:=λi h=>by rw[ya7 (by rw[List.length_map];exact h),List.getElem_map];rfl
 have nM:p1≠M:=λz=>by rw[z,yad] at hM;cases hM
 have acc0:Acc (λH x c=>Is H x (chT c)) Hs H' (upd (upd H' p1 (.tup [.int 1,y0])) M (.lst [.ref p1])) M (chg (fw.map (yhH true)) 1):=by
  rw[chg,if_neg (by simp[chg]),vi 0 (by omega)]
  refine⟨sa.trans sb,_,yad,?_⟩
  refine yh0 (yo3 (n:=1) (c:=.m fw[0].1) (yd1 nM hp1 (by rw[yai nM,yad];rfl)) (iy0.same (ygF sHs)))
 generalize upd (upd H' p1 (.tup [.int 1,y0])) M (.lst [.ref p1])=H2' at acc0 ⊢
 refine ybI ?_
 refine ydx (ym9 (te:=ykV _ _ _) (fun σ H3=>∃ o9,σ=[some (.ref a),some (.ref tp),some mv,some (.ref l),some fv,some (.ref D),some (.ref F),some (.int (bg fw fw.length)),some (.ref M),o9]/\Acc (λH x c=>Is H x (chT c)) Hs H' H3 M (yiq true fw)) (λD' hD'=>?_) fun σ H3 p=>?_)
 ·refine ynT ?_
  walk_at ""
  refine⟨F,fs,rfl,.inl (SqL.of (acc0.1 _ _ (sHs _ _ eF))),?_⟩
  walk_at ""
  refine⟨1,_,rfl,⟨by decide,by decide,by omega,by omega⟩,?_⟩
  rw[show((fs.length:Int) - 1).toNat=fw.length - 1 by omega]
  refine ydg (λi σ H3=>(∃ o9,σ=[some (.ref a),some (.ref tp),some mv,some (.ref l),some fv,some (.ref D),some (.ref F),some (.int (bg fw fw.length)),some (.ref M),o9])/\Acc (λH x c=>Is H x (chT c)) Hs H' H3 M (chg (fw.map (yhH true)) (i+1))) ⟨⟨_,rfl⟩,acc0⟩ ?_ ?_
  ·rintro i σ H3 N hN hi ⟨⟨o9,rfl⟩,acc⟩
   have hi':i+1 < fw.length:=by omega
   obtain⟨c,y,ef,ec,iy⟩:=at_ (i+1) hi'
   have ok:=yjm (vs:=fw.map (yhH true)) (i+1) (by rw[List.length_map];omega)
   have cs1:chg (fw.map (yhH true)) (i+1+1)=if ((chg (fw.map (yhH true)) (i+1)).getLast?).map (·.2)=some (.m fw[i+1].1) then chg (fw.map (yhH true)) (i+1) else chg (fw.map (yhH true)) (i+1)++[(i+1+1,.m fw[i+1].1)]:=by rw[chg,vi (i+1) hi']
   have gm:∀ c∈chg (fw.map (yhH true)) (i+1),yie true c.2:=λc hc=>by
    obtain⟨g,hg,e⟩:=List.mem_map.mp (ok.mem c hc)
    rw[← e]
    exact okf.m g hg
   have lc:=ok.len
   have la:=ok.last (by omega)
   generalize chg (fw.map (yhH true)) (i+1)=cs at acc cs1 gm lc la
   obtain⟨sm,kv,hd,ak⟩:=acc
   have lk:=ak.1
   obtain⟨cl,el⟩:∃ cl,cs.getLast?=some cl:=by
    cases e:cs.getLast? with
    | none=>rw[e] at la;cases la
    | some cl=>exact⟨cl,rfl⟩
   obtain⟨zs,z,rfl,sz,_⟩:=ybZ ak el
   obtain⟨b2,y2,rfl,eb2,iy2⟩:=(sz.same (ycs sHs sm)).ch
   have sG:=sHs.trans sm
   rw[show(1+(i:Int))=((i+1:Nat):Int) by omega]
   walk_at ""
   refine ybp (SqL.of (sG _ _ eF)) (yak (j:=i+1) ef) ?_
   walk_at ""
   refine yaI (SqT.of (sG _ _ ec)) (yak (j:=1) rfl) ?_
   walk_at ""
   refine ybp (SqL.of hd) (ybx zs _) ?_
   walk_at ""
   refine yaI (SqT.of eb2) (yak (j:=1) rfl) ?_
   refine ymn (yht (.m fw[i+1].1)) (yht _) (iy.same sG) iy2 ?_
   rw[yoc (j:=true) (a:=.m fw[i+1].1) (okf.m _ (List.getElem_mem hi')) (gm cl (List.mem_of_getLast? el))]
   refine ya2 (i_n (λh=>?_) λh=>?_)
   ·have hne:Cv.m fw[i+1].1≠cl.2:=of_decide_eq_false h
    walk_at ""
    refine⟨.inl ⟨rfl,_,SqL.of hd⟩,?_⟩
    walk_at ""
    refine ybp (SqL.of (sG _ _ eF)) (yak (j:=i+1) ef) ?_
    walk_at ""
    refine yaI (SqT.of (sG _ _ ec)) (yak (j:=1) rfl) ?_
    walk_at ""
    refine⟨by show 2<=sizeLine;decide,λp2 hp2=>?_⟩
    walk_at ""
    have np:p2≠M:=λz=>by rw[z,hd] at hp2;cases hp2
    have s3:=yaf hp2 (.tup [.int (((i+1:Nat):Int)+1),y])
    refine ybQ (s3 _ _ hd) (yat (by omega)) (hN _ _ ⟨⟨_,rfl⟩,?_⟩)
    rw[cs1,if_neg (by rw[el];intro z;exact hne (Option.some.inj z).symm)]
    refine Acc.put (R:=λH x c=>Is H x (chT c)) ykX hM' (sm.trans s3) (ak.imp λ_ _ _ z=>z.same (ya1 s3)) (yo3 ?_ (iy.same (ygF sHs)))
    refine yd1 np (sm.free hp2) ?_
    rw[yad]
    rfl
   ·refine ycC (hN _ _ ⟨⟨_,rfl⟩,?_⟩)
    rw[cs1,if_pos (by rw[el];exact congrArg some (of_decide_eq_true h).symm)]
    exact⟨sm,_,hd,ak⟩
  ·rintro σ H3 ⟨⟨o9,rfl⟩,acc⟩
   rw[show fw.length - 1+1=fw.length by omega] at acc
   exact hD' _ _ ⟨_,rfl,acc⟩
 obtain⟨o9,rfl,sm3,kv,hd,ak⟩:=p
 walk_at ""
 have tk':=tk.same sHH
 refine⟨.ref D,.ref F,.ref M,vss,fw,nw Hs H' H3,rfl,ydu sHs sm3,ype tk' nTs,ivf.same (yer sHs),iff'.same (yer sHs),ybV (by rw[yaP hM'];exact hd) ((ycY ak).same ycW),ov,okf,nf,k0,tk'.same sm3,q⟩
end
end KT
namespace KT
open PySem L2
section
variable {P:Program} {w:World} {K:PySem.W.Frag} {mg:Str->Option Value} {base:Heap} {t:Ad}
theorem yoN {cc Tb:Addr}(T:Txt K mg t)(TB:Tab K mg base cc Tb):FnOk P w K mg base CX0 12 t.f_zau t.d_zau ["_law_script"] (yiJ K Tb):=by
 have G_zai:=ynn (P:=P) (w:=w) (base:=base) T
 have G_zaf:=ynX T G_zai
 have G_zal:=yoZ (P:=P) (w:=w) (base:=base) T
 have G_zy:=ypq (P:=P) (w:=w) (base:=base) T
 have G_zM:=yrr T G_zy
 have G_zF:=ypR T G_zaf
 have G_zae:=yoY T G_zai G_zaf G_zy G_zF
 have G_zan:=yn6 T G_zaf
 have G_zaa:=ynG T G_zaf
 have G_zaq:=yop (P:=P) (w:=w) (base:=base) T
 have G_zab:=yn9 (P:=P) (w:=w) (base:=base) T
 have G_zu:=yrj T G_zab
 have G_zaj:=yny T G_zu
 have G_zar:=yoD (P:=P) (w:=w) (base:=base) T
 have G_zX:=yqm T G_zaa G_zaq G_zal
 have G_zh:=yqg (P:=P) (w:=w) (base:=base) T
 have G_zi:=ypv T G_zh
 have G_zas:=yof (P:=P) (w:=w) (base:=base) T
 have G_zp:=yqK (P:=P) (w:=w) (base:=base) T
 have G_zO:=yqH (P:=P) (w:=w) (base:=base) T
 have G_zn:=ypn T G_zO G_zaf
 have G_zj:=yqd T G_zO G_zaf G_zX G_zaj
 have G_zac:=yob T G_zn G_zj G_zh G_zi
 have G_zZ:=ypo (P:=P) (w:=w) (base:=base) T
 have G_zP:=ypJ T G_zar G_zh
 have G_zap:=yno T G_zp G_zP
 have G_zD:=yra T G_zar
 have G_zah:=ynq T G_zar G_zap G_zac G_zD
 have G_zS:=ypS T G_zar G_zah
 have G_good:=ymm G_zae (G_zan.mono (by decide))
 have G_zY:=yqc T G_zai G_good
 have G_zE:=ypw T G_zar G_zY G_zal
 have G_zam:=yol (P:=P) (w:=w) (base:=base) T
 have G_zt:=yru T G_zar
 have G_zA:=ypT T G_zar G_zam G_zM
 have G_zz:=yrs T G_zZ
 have G_zU:=yql (P:=P) (w:=w) (base:=base) T
 have G_zr:=yqy (P:=P) (w:=w) (base:=base) T
 have G_zb:=yrv T G_zaf G_zas
 have G_zm:=ypP T G_zE G_zS G_zA G_zz G_zt
 have G_zad:=yoE (P:=P) (w:=w) (base:=base) T
 have G_zo:=yp5 (P:=P) (w:=w) (base:=base) T
 have G_zat:=ynW T G_zr G_zM G_zU G_zb G_zad G_zo
 have G_zK:=ypB (P:=P) (w:=w) (base:=base) T
 have G_zak:=yn8 T TB G_zK
 have G_zao:=yo6 T G_zak G_zy (ykO T)
 have G_zk:=yp6 T G_zr G_zao
 have G_zag:=yoP (P:=P) (w:=w) (base:=base) T
 have G_zT:=yqV T G_zag
 have G_zd:=ypt (P:=P) (w:=w) (base:=base) T
 have G_zc:=yqJ (P:=P) (w:=w) (base:=base) T
 have G_za:=ypW (P:=P) (w:=w) (base:=base) T
 have G_zR:=yqG T G_zat G_zk G_zT G_za
 have G_zQ:=ypU (P:=P) (w:=w) (base:=base) T
 have G_zH:=yrq T G_zQ
 have G_zw:=yqj T G_zQ
 have G_zG:=yq3 (P:=P) (w:=w) (base:=base) T
 have G_zL:=yqI T G_zG
 have G_zx:=yqS (P:=P) (w:=w) (base:=base) T
 have G_zW:=yrc (P:=P) (w:=w) (base:=base) T
 have G__law_wholeN:=yeo (P:=P) (w:=w) (base:=base) T
 have G_zq:=ypu T G_zd G_zc G_za G_zW.ok
 have G_zf:=yqt T G_zQ G_zw
 have G_zg:=yqM T G_zx G_zT
 have G_zI:=yqz T G_zQ G_zw
 have G_zN:=ypy (P:=P) (w:=w) (base:=base) T
 have G_zC:=ypr T G_zL G_zx
 have G_ze:=yqU T G_zC G_zm G_zR G_zW G__law_wholeN
 exact ynH T G_zq G_zH G_zL G_zg G_zf G_zQ G_zI G_zN G_ze
theorem all_mk {l:PySem.W.OpenLaw}{w:World}{K:PySem.W.Frag}{mg:Str->Option Value}{fa:Addr}(cc Tb:Addr)(hfa:mg "law"=some (.ref fa))(ht:PySem.W.tabIn K "rule_of"=some (cc,Tb))(hk:K.lookup Tb=none)(h:∃ t,Txt K mg t/\∀ (s:Shared) (v:Value),BindsTo s t.d_zau ⟨[v],[]⟩ [("_law_script",v)]) :
  ∃ (fd:FuncData) (cc T:Addr),PySem.W.tabIn K "rule_of"=some (cc,T)/\K.lookup T=none/\(∀ (s:Shared) (v:Value),BindsTo s fd ⟨[v],[]⟩ [("_law_script",v)])/\∀ base:Heap,K.In base->base.Ns mainGlobals mg->PySem.W.CodeHd base cc T->base.BuiltinsAt mg T->mainGlobals≠T->FnOk l.prog w K mg base CX0 12 fa fd ["_law_script"] (yiJ K T):=by
 obtain⟨t,T,hb⟩:=h
 have e:=hfa.symm.trans T.RZ.M
 cases e
 exact⟨_,cc,Tb,ht,hk,hb,λbase ki gn C B g=>yoN T ⟨ki,gn,ht,C,B,g⟩⟩
theorem walk {l:PySem.W.OpenLaw}{q:Program}{loose:List Str}{XP:(Str->Option Value)->Heap->Prop}{YP:World->Heap->Prop}{d dm:DefRec}{K:Params->PySem.W.Frag}(hn:l.most=some 63)(hdf:d.params.defaults=[])
  (hY:∀ (w:World) (h:Heap),YP w h->(K w.params).In h) (hrec:(PyProof.Rows.recsOf q).find? (λe=>e.name==Str.ofString "rule_of")=some dm)
  (F:∀ (w:World) (mg:Str->Option Value) (fa:Addr) (h:Heap),(K w.params).In h->h.Ns mainGlobals mg->mg d.name=some (.ref fa) ->
   ∃ (fd:FuncData) (cc T:Addr),PySem.W.tabIn (K w.params) "rule_of"=some (cc,T)/\(K w.params).lookup T=none/\(∀ (s:Shared) (u:Value),BindsTo s fd ⟨[u],[]⟩ [("_law_script",u)])/\∀ base:Heap,(K w.params).In base->base.Ns mainGlobals mg->PySem.W.CodeHd base cc T->base.BuiltinsAt mg T->mainGlobals≠T->FnOk l.prog w (K w.params) mg base CX0 12 fa fd ["_law_script"] (yiJ (K w.params) T)) :
  PySem.W.WalkO q loose XP YP l.row.toRowW d [] (λf vs=>PySem.call f vs) :=
 L2.walk_ofT (n:=63) (k:=12) (x := "_law_script") (maker := "rule_of") (CX:=λ_=>CX0) (sp:=λw T=>yiJ (K w.params) T) hn (by decide) hdf ⟨rfl,by decide,by decide⟩ hY hrec F (λ_ H a T ns hl hbits hO hT hS=>⟨a,ns,rfl,hS,hbits,⟨#[],hT,trivial,.inl rfl⟩,λ_=>rfl⟩) λ_ _ _ _ _ z=>z
theorem ln1 {u:List Value}(h:u.length=1):∃ a,u=[a]:=match u,h with | [a],_=>⟨a,rfl⟩
theorem ln2 {u:List Value}(h:u.length=2):∃ a b,u=[a,b]:=match u,h with | [a,b],_=>⟨a,b,rfl⟩
theorem ln3 {u:List Value}(h:u.length=3):∃ a b c,u=[a,b,c]:=match u,h with | [a,b,c],_=>⟨a,b,c,rfl⟩
theorem ln4 {u:List Value}(h:u.length=4):∃ a b c d,u=[a,b,c,d]:=match u,h with | [a,b,c,d],_=>⟨a,b,c,d,rfl⟩
theorem ln6 {u:List Value}(h:u.length=6):∃ a b c d e f,u=[a,b,c,d,e,f]:=match u,h with | [a,b,c,d,e,f],_=>⟨a,b,c,d,e,f,rfl⟩
theorem yaC {K:PySem.W.Frag}{h:Heap}{mg:Str->Option Value}{n:Str}{m:Nat}{ps:List Str}{f:Addr}{od an:Option Addr}{sl:Array (Option Value)}{oc kV dc pm cd ct:Value}(X:K.In h)(G:h.Ns mainGlobals mg)
  (a:PySem.W.nsIn K mainGlobals n=some (some (.ref f)):=by (try dsimp only);k_is) (l:K.lookup f=some ⟨oc,od,.func (PySem.W.fnOf n n (ybG (top m)) (ybi (top m)) (yah (top m)) .none kV dc pm an cd ct),sl⟩:=by (try dsimp only);k_is)
  (c:PySem.W.codeIn K cd n=true:=by (try dsimp only);k_is) (k:PySem.W.keepIn K (.ref f)=true:=by (try dsimp only);k_is)
  (e:∀ (kV dc pm:Value) (an:Option Addr) (cd ct:Value) (us:List Value),us.length=ps.length->bindArgs (PySem.W.fnOf n n (ybG (top m)) (ybi (top m)) (yah (top m)) .none kV dc pm an cd ct) ⟨us,[]⟩=pure (ps.zip us):=by first | (intro _ _ _ _ _ _ us hl;obtain⟨_,rfl⟩:=ln1 hl;rfl) | (intro _ _ _ _ _ _ us hl;obtain⟨_,_,rfl⟩:=ln2 hl;rfl) | (intro _ _ _ _ _ _ us hl;obtain⟨_,_,_,rfl⟩:=ln3 hl;rfl) | (intro _ _ _ _ _ _ us hl;obtain⟨_,_,_,_,rfl⟩:=ln4 hl;rfl) | (intro _ _ _ _ _ _ us hl;obtain⟨_,_,_,_,_,_,rfl⟩:=ln6 hl;rfl)) :
  FM K mg n m ps f (PySem.W.fnOf n n (ybG (top m)) (ybi (top m)) (yah (top m)) .none kV dc pm an cd ct) :=
 ⟨yg9 l c k,(yg9 l c k).binds e,PySem.W.mg_of X G a⟩
theorem mN {K:PySem.W.Frag}{n q:Str}{m:Nat}{ps:List Str}{f:Addr}{od an:Option Addr}{sl:Array (Option Value)}{oc kV dc pm cd ct:Value}
  (l:K.lookup f=some ⟨oc,od,.func (PySem.W.fnOf n q (ybG (top m)) (ybi (top m)) (yah (top m)) .none kV dc pm an cd ct),sl⟩:=by (try dsimp only);k_is)
  (c:PySem.W.codeIn K cd q=true:=by (try dsimp only);k_is) (k:PySem.W.keepIn K (.ref f)=true:=by (try dsimp only);k_is)
  (e:∀ (kV dc pm:Value) (an:Option Addr) (cd ct:Value) (us:List Value),us.length=ps.length->bindArgs (PySem.W.fnOf n q (ybG (top m)) (ybi (top m)) (yah (top m)) .none kV dc pm an cd ct) ⟨us,[]⟩=pure (ps.zip us):=by first | (intro _ _ _ _ _ _ us hl;obtain⟨_,rfl⟩:=ln1 hl;rfl) | (intro _ _ _ _ _ _ us hl;obtain⟨_,_,rfl⟩:=ln2 hl;rfl) | (intro _ _ _ _ _ _ us hl;obtain⟨_,_,_,rfl⟩:=ln3 hl;rfl) | (intro _ _ _ _ _ _ us hl;obtain⟨_,_,_,_,rfl⟩:=ln4 hl;rfl) | (intro _ _ _ _ _ _ us hl;obtain⟨_,_,_,_,_,_,rfl⟩:=ln6 hl;rfl)) :
  FN K n q m ps f (PySem.W.fnOf n q (ybG (top m)) (ybi (top m)) (yah (top m)) .none kV dc pm an cd ct) :=
 ⟨yg9 l c k,(yg9 l c k).binds e⟩
section
variable {K:PySem.W.Frag} {h:Heap} {mg:Str->Option Value} {n:Str} {v:Value} {f C:Addr}
theorem mV (X:K.In h)(G:h.Ns mainGlobals mg)(a:PySem.W.nsIn K mainGlobals n=some (some v):=by (try dsimp only);k_is):mg n=some v:=PySem.W.mg_of X G a
theorem mZ (X:K.In h)(G:h.Ns mainGlobals mg)(a:PySem.W.nsIn K mainGlobals n=some none:=by (try dsimp only);k_is):mg n=none:=PySem.W.mg_none_of X G a
theorem mK (a:PySem.W.makesIn K C=true:=by (try dsimp only);k_is)(b:PySem.W.findIn K (.ref C) "__init__"=some (some (.ref f)):=by (try dsimp only);k_is)(c:PySem.W.isFn K (.ref f)=true:=by (try dsimp only);k_is)(d:PySem.W.keepIn K (.ref C)=true:=by (try dsimp only);k_is):Mk K C f:=⟨a,b,c,d⟩
theorem mM (a:PySem.W.findIn K (.ref C) n=some (some (.ref f)):=by (try dsimp only);k_is)(b:PySem.W.isFn K (.ref f)=true:=by (try dsimp only);k_is)(c:PySem.W.keepIn K (.ref f)=true:=by (try dsimp only);k_is):yis K C n f:=⟨a,b,c⟩
theorem mS (a:PySem.W.specialIn K (.ref C) "__getattribute__"=some (some (.builtin "type.__getattribute__")):=by (try dsimp only);k_is)(b:PySem.W.readsIn K C (.type "type")=true:=by (try dsimp only);k_is)(c:PySem.W.findCls K (.ref C) (.type "type") n=some (.val (.ref f)):=by (try dsimp only);k_is)(d:PySem.W.keepIn K (.ref f)=true:=by (try dsimp only);k_is):ymU K C n f:=⟨a,b,c,rfl,d⟩
theorem mL (a:PySem.W.plainGet K C Str.empty=true:=by (try dsimp only);k_is)(b:PySem.W.hasDictIn K C=true:=by (try dsimp only);k_is)(c:PySem.W.plainOver K C=true:=by (try dsimp only);k_is)(d:PySem.W.findIn K (.ref C) "__setattr__"=some (some (.builtin "object.__setattr__")):=by (try dsimp only);k_is):Cls K C:=⟨a,b,c,d⟩
theorem mO (a:PySem.W.findIn K (.ref C) "__class__"=some (some (.builtin "object.__class__")):=by (try dsimp only);k_is)(b:PySem.W.specialIn K (.builtin "object.__class__") "__get__"=some (some (.builtin "getset_descriptor.__get__")):=by (try dsimp only);k_is)(c:PySem.W.takesIn K (.builtin "object.__class__")=some true:=by (try dsimp only);k_is)(d:PySem.W.mroIn K C (.type "object")=some true:=by (try dsimp only);k_is):ClsObj K C:=⟨a,b,c,d⟩
theorem mA (a:PySem.W.findIn K (.ref C) n=some none:=by (try dsimp only);k_is):NoAttr K C n:=a
theorem mI {D:Addr}{b:Bool}(a:PySem.W.kitOne K (.ref C) (.ref D)=some b:=by (try dsimp only);kit_is):PySem.W.kitOne K (.ref C) (.ref D)=some b:=a
theorem mQ {xs:List V}{i:List Value}{k:Nat}(l:K.lookup f=some ⟨.type "tuple",none,.seq i.toArray k,#[]⟩:=by (try dsimp only);k_is)(v:yju xs i=true:=by rfl)(y:i.length<=1000:=by decide):TupIn K f xs:=yle l v (by simpa using y)
theorem mJ {b:Bool}(a:PySem.W.kitOne K (.ref C) (.type "ValueError")=some b:=by (try dsimp only);kit_is):PySem.W.kitOne K (.ref C) (.type "ValueError")=some b:=a
theorem mW (a:PySem.W.keepIn K (.ref C)=true:=by (try dsimp only);k_is):PySem.W.keepIn K (.ref C)=true:=a
theorem mU {v:Value}(a:PySem.W.typeIn K (.ref C)=some v:=by (try dsimp only);k_is):PySem.W.typeIn K (.ref C)=some v:=a
theorem mX {bm:List Value}{s:String}(a:PySem.W.excIn K C bm s=true:=by (try dsimp only);k_exc):PySem.W.excIn K C bm s=true:=a
theorem mH {D:Addr}{cd:ClassData}{b:Bool}(h0:PySem.W.clsIn K D=some cd:=by (try dsimp only);k_is)(h1:PySem.W.typeIn K (.ref D)=some (.type "type"):=by (try dsimp only);k_is)(h2:PySem.W.mroIn K D (.type "BaseException")=some true:=by (try dsimp only);k_is)(h3:PySem.W.mroIn K C (.ref D)=some b:=by (try dsimp only);k_is):PySem.W.exmOne K (.ref C) (.ref D)=some b:=by
 unfold PySem.W.exmOne PySem.W.kitCls PySem.W.subIn
 simp[h0,h1,h2,h3]
theorem mY {cd:ClassData}(a:PySem.W.clsIn K C=some cd:=by (try dsimp only);k_is)(b:cd.hasDict=true:=by rfl)(c:∀ self,refuseLoop self "__setattr__" cd.mro=pure ():=by (intro self;(try dsimp only);rw[refuseLoop_ref,refuseLoop_ref];kernel_rfl))
  (d:PySem.W.findIn K (.ref C) "__getattribute__"=some (some (.builtin "BaseException.__getattribute__")):=by (try dsimp only);k_is) (e:PySem.W.findIn K (.ref C) "__getattr__"=some none:=by (try dsimp only);k_is) (f:PySem.W.findIn K (.ref C) "__setattr__"=some (some (.builtin "object.__setattr__")):=by (try dsimp only);k_is) (g:PySem.W.findIn K (.ref C) "__class__"=some (some (.builtin "object.__class__")):=by (try dsimp only);k_is)
  (h:PySem.W.specialIn K (.builtin "object.__class__") "__get__"=some (some (.builtin "getset_descriptor.__get__")):=by (try dsimp only);k_is) (i:PySem.W.takesIn K (.builtin "object.__class__")=some true:=by (try dsimp only);k_is) (j:PySem.W.mroIn K C (.type "object")=some true:=by (try dsimp only);k_is) (k:PySem.W.mroIn K C (.type "BaseException")=some true:=by (try dsimp only);k_is):ExcK K C:=⟨⟨cd,a,b,c⟩,d,e,f,g,h,i,j,k⟩
theorem mE {nm qn:Str}{n:Addr}{bs bm bmB:List Value}{hdct:Bool}{sn:List Str}{sub:List Value}{ab:Bool}{col:Option Bool}{dd:Option Addr}{k0 k1 k2 k3 k5:Option Value}{s:String}(a:K.lookup C=some (excClassObj nm qn C n bs bm hdct sn sub ab col dd k0 k1 k2 k3 k5 s):=by (try dsimp only);k_is)(b:PySem.W.tailIn K bmB bm=true:=by kernel_rfl)
  (c:PySem.W.findIn K (.ref C) "__init__"=some (some (.ref f)):=by (try dsimp only);k_is) (d:PySem.W.isFn K (.ref f)=true:=by (try dsimp only);k_is) (e:PySem.W.keepIn K (.ref C)=true:=by (try dsimp only);k_is):ygI K C f bmB s:=⟨⟨nm,qn,n,bs,bm,hdct,sn,sub,ab,col,dd,k0,k1,k2,k3,k5,a,b⟩,c,d,e⟩
end
end
section
open PySem PySem.W PyProof.Rows
theorem txx {w:World}{mg:Str->Option Value}{h:Heap}(X:(pre.heap_1 w.params).In h)(G:h.Ns mainGlobals mg):∃ t,Txt (pre.heap_1 w.params) mg t/\∀ (s:Shared) (v:Value),BindsTo s t.d_zau ⟨[v],[]⟩ [("_law_script",v)] :=
 ⟨⟨_,_,_,_,_,_,_,_,_,_,_,_,_,_,_,_,_,_,_,_,_,_,_,_,_,_,_,_,_,_,_,_,_,_,_,_,_,_,_,_,_,_,_,_,_,_,_,_,_,_,_,_,_,_,_,_,_,_,_,_,_,_,_,_,_,_,_,_,_,_,_,_,_,_,_,_,_,_,_,_,_,_,_,_,_,_,_,_,_,_,_,_,_,_,_,_,_,_,_,_,_,_,_,_,_,_,_,_,_,_,_,_,_,_,_,_,_,_,_,_,_,_,_,_,_,_,_,_,_,_,_,_,_,_,_,_,_,_,_,_,_,_,_,_,_,_,_,_,_,_,_,_,_,_⟩,⟨mV X G,mV X G,mV X G,mV X G,mV X G,mV X G,mV X G,mV X G,mV X G,mV X G,mV X G,mV X G,mV X G,mV X G,mK,mK,mK,mM,mM,mM,mM,mM,mM,mS,mE,mE,mE,yaC X G,yaC X G,yaC X G,yaC X G,yaC X G,yaC X G,yaC X G,yaC X G,yaC X G,yaC X G,yaC X G,yaC X G,yaC X G,yaC X G,yaC X G,mN,mN,mN,mN,mN,mN,mN,mN,mN,yaC X G,yaC X G,yaC X G,yaC X G,yaC X G,yaC X G,yaC X G,yaC X G,yaC X G,yaC X G,yaC X G,yaC X G,yaC X G,yaC X G,yaC X G,yaC X G,yaC X G,yaC X G,yaC X G,yaC X G,yaC X G,yaC X G,yaC X G,yaC X G,yaC X G,mN,mN,mN,yaC X G,yaC X G,yaC X G,yaC X G,yaC X G,yaC X G,yaC X G,yaC X G,yaC X G,yaC X G,yaC X G,yaC X G,yaC X G,yaC X G,yaC X G,yaC X G,yaC X G,mZ X G,mZ X G,mZ X G,mZ X G,mZ X G,mZ X G,mZ X G,mZ X G,mZ X G,mZ X G,mZ X G,mZ X G,mZ X G,mZ X G,mZ X G,⟨_,mV X G⟩,⟨_,mV X G⟩,⟨_,mV X G⟩,⟨_,mV X G⟩,mV X G,mQ,⟨_,mV X G⟩,mV X G,mQ,⟨_,mV X G⟩,⟨_,mV X G⟩,⟨_,mV X G⟩,⟨_,mV X G⟩,⟨_,mV X G⟩,⟨_,mV X G⟩,⟨_,mV X G⟩,⟨_,mV X G⟩,mL,mO,mA,mI,mI,mL,mO,mA,mA,mA,mA,mA,mI,mI,mL,mO,mA,mA,mA,mA,mI,mI,mY,mI,mI,mI,mI,mI,mI,mI,mI,mI,mJ,mA,mY,mI,mI,mI,mI,mI,mI,mI,mI,mI,mJ,mA,mA,mY,mI,mI,mI,mI,mI,mI,mI,mI,mI,mJ,mX,mW,mY,mI,mI,mI,mI,mI,mI,mI,mI,mI,mJ,mA,mU,mH⟩,λs v=>.of_eq rfl⟩
end
end KT
open PySem PySem.W PyProof.Rows
set_option maxRecDepth 100000 in
set_option maxHeartbeats 0 in
theorem PySem.Challenge.cw_barwright_k13_threes_holds : PySem.Challenge.rw_barwright_k13_threes.Holds := by
 refine KT.headx ?_
 k_fill
 refine KT.walk (l:=PySem.Challenge.rw_barwright_k13_threes) (K:=KT.pre.heap_1) rfl KT.dx_dfl (λw h Y=>PySem.W.km_in_of Y) KT.mx_is ?F
 case F =>
  intro w mg fa h KX G hmg
  rw[KT.dx_name] at hmg
  exact KT.all_mk 92 88 hmg (by kernel_rfl) (by kernel_rfl) (KT.txx KX G)
