import PyProof.Rows.All
import Wide.All
import OpenK.AllK
import Wide.FinOn
import Lean
import PyProof.EqAt
import PyProof.EqKinds
import PyProof.TupleCall
import PyProof.NeKinds
import PyProof.CompFree
import PyProof.EnumMake
import PyProof.Draws
import PyProof.Rows.CallKwBuiltin
import OpenK.KCls
import KE.KNest
import PyProof.SumWalk
import PyProof.WalksMore
import PyProof.ZipIter
import PyProof.DictWalks
import PyProof.DictKinds
import PyProof.DictStraight
import KE.KSortKey
import PyProof.Rows.Range3
import KE.KRevIter
import PyProof.Rows.MinMaxN
import PyProof.DictDisplay
import KE.KLam
import KE.KMinKey
import PyProof.TupleIter
import PyProof.StrWalks
import KE.KIntText
import PyProof.Rows.StrNews2
import PyProof.StrCalls6
import PyProof.StrLawsIn
import PyProof.StrBlockL
import KE.IntTextLaws
import KE.KSortAsk
import KE.KSortTup
import PyProof.ListRange
import PyProof.CollectIter
import PyProof.StrCalls
import PyProof.Rows.StrLen
import PyProof.DictItems
import KE.KPairComp
import KE.KRevSl
import PyProof.AutoSeq1
import PyProof.StrLawsIdx
import PyProof.StrLawsNeg
import KE.IntBitsLaws
import KE.RegKIsAll
import PySem.Challenge.RW_barwright_k14_signs_as_words
set_option bootstrap.genMatcherCode false
set_option compiler.extract_closed false
noncomputable section
set_option Elab.async false
set_option linter.all false
set_option maxRecDepth 100000
set_option maxHeartbeats 4000000
def qM:=@List.length_map
def qG:=@List.getElem?_eq_getElem
def qA:=@List.length_append
def qC:=@List.length_cons
def qS:=@List.length_singleton
def qZ:=@List.size_toArray
theorem qN:¬false=true:=Bool.false_ne_true
theorem qR (n:Nat):n<=n:=Nat.le_refl n
theorem qE {α:Type u}{l:List α}{i:Nat}{a:α}(h:l[i]?=some a):∃ h:i<l.length,l[i]=a:=List.getElem?_eq_some_iff.mp h
abbrev qF:=PySem.W.Frag
def qT:=@List.length_take
def qm:=@List.getElem?_map
def qk:=@List.not_mem_nil
def qP:=@List.map_append
noncomputable abbrev rP:PySem.Program:=PySem.Challenge.rw_barwright_k14_signs_as_words.row.prog
namespace KS
section
open PySem PySem.W PyProof.Rows
noncomputable def yqn (p:Program)(w:World)(N:Nat):Option Shared :=
 ((Fast.tw10274390034422433532 Fast.tw14364793385576792824 (opening p) w N (Fast.tw1435165496053646825 (opening p)).fst (Fast.tw1435165496053646825 (opening p)).snd).bind (Fast.tw14289696077712309145 p)).bind
  λs₀=>match s₀.heap.isNs mainGlobals&&s₀.gens.size==0 with
  | true=>(Fast.tw14082659384304107361 Fast.tw14364793385576792824 p w s₀.heap.objs.size (s₀.heap.nsMap mainGlobals (Str.ofString "__annotations__")) N s₀ (topStub p)).bind
    λs₁=>match staticsOk (importedModules p.main.body) s₀.heap s₁.heap&&namesBound p s₁.heap&&gensDone s₁&&laidKept s₀.heap s₁.heap with
    | true=>some s₁
    | false=>none
  | false=>none
noncomputable abbrev ycG (p q:Program)(loose:List Str)(Xt:Shared->Bool):=Fast.tw4187177175401517315 q loose (importedModules p.main.body) Xt true
theorem ytf {p q:Program}{loose:List Str}{Xt:Shared->Bool}{α:Type}{Yf:Shared->α}{Ya:World->α}{N:Nat}{g0:Bool}
  (f:∀ w:World,(openEnds treeTable p (w.withFollow "special-get-raises" false) N).map (λs=>(openSeen q loose (importedModules p.main.body) Xt g0 s,Yf s))=some (openGood q loose,Ya (w.withFollow "special-get-raises" false)))
  (t:∀ w:World,(openEnds treeTable p (w.withFollow "special-get-raises" true) N).map (λs=>(openSeen q loose (importedModules p.main.body) Xt g0 s,Yf s))=some (openGood q loose,Ya (w.withFollow "special-get-raises" true))):LeftO p q loose Xt Yf Ya N g0:=by
 intro w
 have e:=World.withFollow_self w "special-get-raises"
 cases hb:w.params.followText "special-get-raises" <;> rw[hb] at e
 ·have:=f w;rw[e] at this;exact this
 ·have:=t w;rw[e] at this;exact this
theorem yif {p q:Program}{loose:List Str}{Xt:Shared->Bool}{α:Type}{Yf:Shared->α}{a:α}{N:Nat}{w:World}{s:Shared}(hr:yqn p w N=some s/\True)
  (hb1:(ycG p q loose Xt s).1=PyProof.Rows.expectedOf q/\True)
  (h2:((ycG p q loose Xt s).2.1,(ycG p q loose Xt s).2.2.2.2.1,(ycG p q loose Xt s).2.2.2.2.2.2.1,(ycG p q loose Xt s).2.2.2.2.2.2.2.2)=(bltViewBooted,pinGoodD (PyProof.Rows.drecsOf q),PyProof.Rows.plainGoodD q loose,clsGoodW q loose)/\True)
  (h3:(ycG p q loose Xt s).2.2.1=true/\True) (h4:(ycG p q loose Xt s).2.2.2.1=true/\True) (h5:(ycG p q loose Xt s).2.2.2.2.2.1=PyProof.Rows.plainGoodE q (looseW q loose)/\True) (h6:(ycG p q loose Xt s).2.2.2.2.2.2.2.1=wideGood q/\True) (h7:Yf s=a/\True) :
  (openEnds treeTable p w N).map (λs=>(openSeen q loose (importedModules p.main.body) Xt true s,Yf s))=some (openGood q loose,a):=by
 unfold openEnds fencedOpening topFrom
 rw[Fast.te14364793385576792824,Fast.te10274390034422433532,Fast.te4187177175401517315,Fast.te14082659384304107361,Fast.te1435165496053646825,Fast.te14289696077712309145]
 show(yqn p w N).map _=_
 rw[hr.1]
 have h2:=h2.1
 simp only[Option.map_some,Option.some.injEq,Prod.mk.injEq] at h2 ⊢
 exact⟨Prod.ext hb1.1 (Prod.ext h2.1 (Prod.ext h3.1 (Prod.ext h4.1 (Prod.ext h2.2.1 (Prod.ext h5.1 (Prod.ext h2.2.2.1 (Prod.ext h6.1 h2.2.2.2))))))),h7.1⟩
theorem yoa {p:Program}{w:World}{N M n:Nat}{ann:Option Value}{s₀ s:Shared}(h0:((Fast.tw10274390034422433532 Fast.tw14364793385576792824 (opening p) w N (Fast.tw1435165496053646825 (opening p)).fst (Fast.tw1435165496053646825 (opening p)).snd).bind (Fast.tw14289696077712309145 p))=some s₀/\True)
  (hb1:(s₀.heap.isNs mainGlobals&&s₀.gens.size==0,s₀.heap.objs.size,s₀.heap.nsMap mainGlobals (Str.ofString "__annotations__"))=(true,n,ann)/\True) (h2:topRun treeTable p w n ann M s₀ (topStub p)=some s) (le:M<=N)
  (h3:(staticsOk (importedModules p.main.body) s₀.heap s.heap&&namesBound p s.heap&&gensDone s&&laidKept s₀.heap s.heap)=true/\True):yqn p w N=some s/\True:=by
 obtain⟨z1,z2,z3⟩:_/\_/\_:=by simpa only[Prod.mk.injEq] using hb1.1
 have r:=topRun_mono (N - M) _ _ _ _ h2
 rw[show M+(N - M)=N by omega,Fast.te14364793385576792824,Fast.te14082659384304107361] at r
 refine⟨?_,trivial⟩
 unfold yqn
 rw[h0.1]
 show(match s₀.heap.isNs mainGlobals&&s₀.gens.size==0 with | true=>_ | false=>_)=_
 rw[z1]
 show(Fast.tw14082659384304107361 Fast.tw14364793385576792824 p w s₀.heap.objs.size (s₀.heap.nsMap mainGlobals (Str.ofString "__annotations__")) N s₀ (topStub p)).bind _=_
 rw[z2,z3,r]
 show(match staticsOk (importedModules p.main.body) s₀.heap s.heap&&namesBound p s.heap&&gensDone s&&laidKept s₀.heap s.heap with | true=>some s | false=>none)=_
 rw[h3.1]
theorem yrI {l:OpenLaw}(ok:Fast.tw9446332074065402090 l=true/\True)(h:l.row.wellSaid=true->l.row.Holds):l.Holds:=by
 refine holds_law ?_ h
 rw[Fast.te9446332074065402090]
 exact ok.1
noncomputable def dn (h i:Int)(t:Tok)(v:Value):DictEntry:=⟨h,.int i t,v⟩
noncomputable def bs (i:Nat):Stmt:=PySem.Challenge.pw_barwright_k14_signs_as_words.main.body.getD i (.Pass ⟨0,0,0,0⟩)
noncomputable def cs (i j:Nat):Stmt:=match bs i with
 | .ClassDef _ _ _ b _ _ _ _ _ _ _=>b.getD j (.Pass ⟨0,0,0,0⟩)
 | s=>s
noncomputable def aO (s:Stmt):Arguments:=match s with
 | .FunctionDef _ a _ _ _ _ _ _ _ _=>a
 | _=>⟨[],[],none,[],[],none,[]⟩
noncomputable def bO (s:Stmt):List Stmt:=match s with
 | .FunctionDef _ _ b _ _ _ _ _ _ _=>b
 | _=>[]
noncomputable def sO (s:Stmt):Scope:=match s with
 | .FunctionDef _ _ _ _ _ _ sc _ _ _=>sc
 | _=>{ kind:=.function,names:=[],isGenerator:=false,isCoroutine:=false }
noncomputable def fd (n q:Str)(st:Stmt)(g:Addr)(pm cd:Value):FuncData:=⟨n,q,aO st,.stmts (bO st),sO st,g,[],.none,.none,.none,pm,none,cd,.none,0⟩
noncomputable def de (P:Params)(k:Str)(t:Tok)(v:Value):DictEntry:=⟨PyData.keyHash P k,.str k t,v⟩
noncomputable def ut (l:List Value):Obj:=⟨.type "tuple",none,.seq ⟨l⟩ 0,#[]⟩
noncomputable def uf (l:List Value):Obj:=⟨.none,none,.fields ⟨l⟩,#[]⟩
noncomputable def uh2 (n q:Str)(s:Stmt):Obj:=⟨.none,none,.func (fd n q s 0 .none .none),#[]⟩
noncomputable def uh (n:Str)(s:Stmt):Obj:=uh2 n n s
noncomputable def uu (n q:Str)(s:Stmt)(m:Str)(t:Tok)(c:Addr):Obj:=⟨.type "function",none,.func (fd n q s 3 (.str m t) (.ref c)),#[]⟩
noncomputable def uc (n q:Str)(t:Tok)(l a:Int)(r:Addr)(x y:Value)(h:Addr)(z:Tok):Obj:=⟨.type "code",none,.fields #[.str n t,.str q (t+1),.str "/claim/cut.py" (t+2),.int l 0,.int a 0,.int 0 0,.int 0 0,.int 3 0,.ref r,.bool true,.int 181 0,.ref (r+1),.none,x,y,.ref h,.int z 0,.int l 0,.str "/claim/cut.py" (z+1)],#[]⟩
noncomputable def pa (l:List Obj)(c:List (Nat×Obj)):List Obj:=c.foldl (λl x=>l.set x.1 x.2) l
noncomputable def nmO (s:Stmt):Str:=match s with
 | .FunctionDef n _ _ _ _ _ _ _ _ _=>n
 | _ => ""
noncomputable def m0:Str := "__main__"
noncomputable def m1:Str := "barwright.words"
noncomputable def m2:Str := "barwright.pitches"
noncomputable def m3:Str := "barwright.keys"
noncomputable def m4:Str := "barwright.lengths"
noncomputable def m5:Str := "barwright.metres"
noncomputable def m6:Str := "barwright.signs"
noncomputable def m7:Str := "law_barwright_k14_signs_as_words"
noncomputable def ua (i:Nat)(m:Str)(t:Tok)(c:Addr):Obj:=uu (nmO (bs i)) (nmO (bs i)) (bs i) m t c
noncomputable def ui (i:Nat):Obj:=uh (nmO (bs i)) (bs i)
noncomputable def rf (n:Nat):Value:=cond (n==0) .none (.ref n)
noncomputable def ud (i:Nat)(t:Tok)(l a:Int)(r:Addr)(x y:Nat)(h:Addr)(z:Tok):Obj:=uc (nmO (bs i)) (nmO (bs i)) t l a r (rf x) (rf y) h z
noncomputable def ub (a:String)(v:Value):Obj:=⟨.type "builtin_function_or_method",none,.fields #[.builtin a,v],#[]⟩
noncomputable def up:Obj:=ub "type.__prepare__" (.type "type")
noncomputable def uq (r:Addr):Obj:=ub "object.__init_subclass__" (.ref r)
noncomputable def us (r:Addr):Obj:=⟨.type "super",none,.fields #[.ref r,.ref r,.ref r],#[]⟩
noncomputable def ug (t:Tok)(r:Addr):Obj:=⟨.type "getset_descriptor",none,.fields #[.str "__weakref__" t,.ref r,.builtin "ExceptionGroup.__weakref__",.none],#[]⟩
noncomputable def uv (c d:Addr)(m:Str)(t:Tok):Obj:=⟨.type "frame",none,.plain,#[some (.ref c),some (.ref 3),some (.ref d),none,some (.str m t),none,some (.ref 0)]⟩
noncomputable def uk (n:Str)(t:Tok)(l:Int)(r:Addr)(q:Int):Obj:=⟨.type "code",none,.fields #[.str n t,.str n (t+1),.str "/claim/cut.py" (t+2),.int l 0,.int 0 0,.int 0 0,.int 0 0,.int 0 0,.ref r,.bool false,.int q 0,.ref (r+1),.none,.none,.none,.none,.int ((t+3:Nat):Int) 0,.int l 0,.str "/claim/cut.py" (t+4)],#[]⟩
noncomputable def dd (l:List DictEntry)(n:Nat):Obj:=⟨.type "dict",none,.dict ⟨l⟩ n,#[]⟩
noncomputable def db (P:Params)(n:Nat)(l:List String):List DictEntry:=(l.zipIdx n).map λx=>de P (Str.ofString x.1) x.2 (.builtin x.1)
noncomputable def dt (P:Params)(n:Nat)(l:List String):List DictEntry:=(l.zipIdx n).map λx=>de P (Str.ofString x.1) x.2 (.type x.1)
noncomputable def dr (P:Params)(l:List (Str×Tok×Nat)):List DictEntry:=l.map λx=>de P x.1 x.2.1 (.ref x.2.2)
noncomputable def di (P:Params)(l:List (Str×Tok×Int)):List DictEntry:=l.map λx=>de P x.1 x.2.1 (.int x.2.2 (x.2.1 - 1))
noncomputable def uw (k:Int)(l:List (Int×Nat)):Obj:=uf (l.flatMap λx=>[.int x.1 0,.int k 0,.ref x.2])
noncomputable def u0:Obj:=ut []
noncomputable def u1:Obj:=uf []
noncomputable def h0 (P:Params):List Obj:=[
 dd ([de P "__name__" 1 (.str "builtins" 160),de P "__doc__" 2 (.builtin "builtins.__doc__:str#opaque"),de P "__package__" 3 (.builtin "builtins.__package__:str#opaque"),de P "__loader__" 4 (.builtin "builtins.__loader__:shared#opaque"),de P "__spec__" 5 (.builtin "builtins.__spec__#opaque")]++db P 6 ["__build_class__","__import__","abs","all","any","ascii","bin","breakpoint","callable","chr","compile","delattr","dir","divmod","eval","exec","format","getattr","globals","hasattr","hash","hex","id","input","isinstance","issubclass","iter","aiter","len","locals","max","min","next","anext","oct","ord","pow","print","repr","round","setattr","sorted","sum","vars"]++[de P "None" 50 (.none),de P "Ellipsis" 51 (.ellipsis),de P "NotImplemented" 52 (.notImplemented),de P "False" 53 (.bool false),de P "True" 54 (.bool true)]++dt P 55 ["bool","memoryview","bytearray","bytes","classmethod","complex","dict","enumerate","filter","float","frozenset","property","int","list","map","object","range","reversed","set","slice","staticmethod","str","super","tuple","type","zip"]++[de P "__debug__" 81 (.bool true)]++dt P 82 ["BaseException","BaseExceptionGroup","Exception","GeneratorExit","KeyboardInterrupt","SystemExit","ArithmeticError","AssertionError","AttributeError","BufferError","EOFError","ImportError","LookupError","MemoryError","NameError","OSError","ReferenceError","RuntimeError","StopAsyncIteration","StopIteration","SyntaxError","SystemError","TypeError","ValueError","Warning","FloatingPointError","OverflowError","ZeroDivisionError","BytesWarning","DeprecationWarning","EncodingWarning","FutureWarning","ImportWarning","PendingDeprecationWarning","ResourceWarning","RuntimeWarning","SyntaxWarning","UnicodeWarning","UserWarning","BlockingIOError","ChildProcessError","ConnectionError","FileExistsError","FileNotFoundError","InterruptedError","IsADirectoryError","NotADirectoryError","PermissionError","ProcessLookupError","TimeoutError","IndentationError","_IncompleteInputError","IndexError","KeyError","ModuleNotFoundError","NotImplementedError","PythonFinalizationError","RecursionError","UnboundLocalError","UnicodeError","BrokenPipeError","ConnectionAbortedError","ConnectionRefusedError","ConnectionResetError","TabError","UnicodeDecodeError","UnicodeEncodeError","UnicodeTranslateError","ExceptionGroup"]++[de P "EnvironmentError" 151 (.type "OSError"),de P "IOError" 152 (.type "OSError"),de P "open" 153 (.builtin "open"),de P "quit" 154 (.builtin "builtins.quit#opaque"),de P "exit" 155 (.builtin "builtins.exit#opaque"),de P "copyright" 156 (.builtin "builtins.copyright#opaque"),de P "credits" 157 (.builtin "builtins.credits#opaque"),de P "license" 158 (.builtin "builtins.license#opaque"),de P "help" 159 (.builtin "builtins.help#opaque")]) 159,
 dd (dr P [("builtins",162,4),("__main__",163,5)]) 2,⟨.none,none,(.dict #[] 0),#[]⟩,
 dd ([de P "__name__" 165 (.str "__main__" 164),de P "__doc__" 166 (.none),de P "__package__" 167 (.none),de P "__loader__" 168 (.builtin "__main__.__loader__#opaque"),de P "__spec__" 169 (.none)]++dr P [("__annotations__",170,6),("__builtins__",171,4)]++[de P "__file__" 173 (.str "/claim/cut.py" 172),de P "__cached__" 174 (.none)]) 9,⟨.type "module",(some 0),.plain,#[]⟩,
 ⟨.type "module",(some 3),.plain,#[]⟩,dd ([]) 0,u0,u1,uk "<module>" 176 1 7 175,uv 9 3 m0 164]
noncomputable def ha (P:Params):List Obj:=pa (h0 P) []++[
 u0,u1,uk "<module>" 182 1 11 181,uv 13 3 m0 164]
noncomputable def hb1 (P:Params):List Obj:=pa (ha P) [(3,dd ([de P "__name__" 165 (.str "barwright.lengths" 290),de P "__doc__" 166 (.none),de P "__package__" 167 (.none),de P "__loader__" 168 (.builtin "__main__.__loader__#opaque"),de P "__spec__" 169 (.none)]++dr P [("__annotations__",170,6),("__builtins__",171,4)]++[de P "__file__" 173 (.str "/claim/cut.py" 172),de P "__cached__" 174 (.none),de P "FIGURES" 190 (.str "0123456789" 189),de P "SYLLABLE_SIGNS" 192 (.str "abcdefghijklmnopqrstuvwxyzABCDEFGHIJKLMNOPQRSTUVWXYZ-" 191)]++di P [("MOST_FIGURES",194,4),("MOST_SYLLABLE_SIGNS",196,12)]++dr P [("is_whole",203,21),("is_among",212,28),("do_rise",218,33),("has_only",224,38),("is_syllable",231,45),("are_figures",238,52),("number_of",246,59),("number_text",253,66)]++[de P "LETTERS" 257 (.str "cdefgab" 256),de P "OCTAVE_FIGURES" 259 (.str "012345678" 258),de P "parts_of" 268 (.ref 73),de P "MOST_SIGNS" 272 (.int 7 271)]++dr P [("is_key",279,80),("key_of",287,87)]++[de P "GRAINS" 289 (.int 96 288)]) 28),(12,uf [.int 6 0,.int 0 0,.ref 20,.int 8 0,.int 0 0,.ref 27,.int 10 0,.int 0 0,.ref 32,.int 12 0,.int 0 0,.ref 37,.int 14 0,.int 0 0,.ref 44,.int 18 0,.int 0 0,.ref 51,.int 22 0,.int 0 0,.ref 58,.int 29 0,.int 0 0,.ref 65,.int 34 0,.int 0 0,.ref 72,.int 44 0,.int 0 0,.ref 79,.int 46 0,.int 0 0,.ref 86])]++[
 u0,u1,ut [.str "thing" 200],u0,ui 5,ud 5 197 6 1 15 17 18 19 201,ua 5 m1 187 20,u0,u1,ut [.str "thing" 207,.str "least" 208,.str "most" 209],u0,ui 6,ud 6 204 8 3 22 24 25 26 210,ua 6 m1 187 27,u0,u1,ui 7,ud 7 213 10 1 29 0 0 31 216,ua 7 m1 187 32,u0,u1,ui 8,ud 8 219 12 2 34 0 0 36 222,ua 8 m1 187 37,u0,u1,ut [.str "thing" 228],u0,ui 9,ud 9 225 14 1 39 41 42 43 229,ua 9 m1 187 44,u0,u1,
 ut [.str "text" 235],u0,ui 10,ud 10 232 18 1 46 48 49 50 236,ua 10 m1 187 51,u0,u1,ut [.str "word" 242,.str "figures" 243],u0,ui 11,ud 11 239 22 1 53 55 56 57 244,ua 11 m1 187 58,u0,u1,ut [.str "number" 250],u0,ui 12,ud 12 247 29 1 60 62 63 64 251,ua 12 m1 187 65,u0,u1,ut [.str "word" 263,.str "step" 264,.str "octave" 265],u0,ui 16,ud 16 260 34 1 67 69 70 71 266,ua 16 m2 254 72,u0,u1,
 ut [.str "thing" 276],u0,ui 19,ud 19 273 44 1 74 76 77 78 277,ua 19 m3 269 79,u0,u1,ut [.str "word" 283,.str "key" 284],u0,ui 20,ud 20 280 46 1 81 83 84 85 285,ua 20 m3 269 86]
noncomputable def h2 (P:Params):List Obj:=pa (hb1 P) [(3,dd ([de P "__name__" 165 (.str "barwright.lengths" 290),de P "__doc__" 166 (.none),de P "__package__" 167 (.none),de P "__loader__" 168 (.builtin "__main__.__loader__#opaque"),de P "__spec__" 169 (.none)]++dr P [("__annotations__",170,6),("__builtins__",171,4)]++[de P "__file__" 173 (.str "/claim/cut.py" 172),de P "__cached__" 174 (.none),de P "FIGURES" 190 (.str "0123456789" 189),de P "SYLLABLE_SIGNS" 192 (.str "abcdefghijklmnopqrstuvwxyzABCDEFGHIJKLMNOPQRSTUVWXYZ-" 191)]++di P [("MOST_FIGURES",194,4),("MOST_SYLLABLE_SIGNS",196,12)]++dr P [("is_whole",203,21),("is_among",212,28),("do_rise",218,33),("has_only",224,38),("is_syllable",231,45),("are_figures",238,52),("number_of",246,59),("number_text",253,66)]++[de P "LETTERS" 257 (.str "cdefgab" 256),de P "OCTAVE_FIGURES" 259 (.str "012345678" 258),de P "parts_of" 268 (.ref 73),de P "MOST_SIGNS" 272 (.int 7 271)]++dr P [("is_key",279,80),("key_of",287,87)]++[de P "GRAINS" 289 (.int 96 288),de P "MOST_DOTS" 310 (.ref 88)]) 29)]++[
 dd ([dn 1 1 292 (.int 2 293),dn 2 2 294 (.int 2 295),dn 4 4 296 (.int 2 297),dn 8 8 298 (.int 2 299),dn 16 16 300 (.int 1 301),dn 32 32 302 (.int 0 303)]) 6]
noncomputable def h3 (P:Params):List Obj:=pa (h2 P) [(3,dd ([de P "__name__" 165 (.str "barwright.signs" 383),de P "__doc__" 166 (.none),de P "__package__" 167 (.none),de P "__loader__" 168 (.builtin "__main__.__loader__#opaque"),de P "__spec__" 169 (.none)]++dr P [("__annotations__",170,6),("__builtins__",171,4)]++[de P "__file__" 173 (.str "/claim/cut.py" 172),de P "__cached__" 174 (.none),de P "FIGURES" 190 (.str "0123456789" 189),de P "SYLLABLE_SIGNS" 192 (.str "abcdefghijklmnopqrstuvwxyzABCDEFGHIJKLMNOPQRSTUVWXYZ-" 191)]++di P [("MOST_FIGURES",194,4),("MOST_SYLLABLE_SIGNS",196,12)]++dr P [("is_whole",203,21),("is_among",212,28),("do_rise",218,33),("has_only",224,38),("is_syllable",231,45),("are_figures",238,52),("number_of",246,59),("number_text",253,66)]++[de P "LETTERS" 257 (.str "cdefgab" 256),de P "OCTAVE_FIGURES" 259 (.str "012345678" 258),de P "parts_of" 268 (.ref 73),de P "MOST_SIGNS" 272 (.int 7 271)]++dr P [("is_key",279,80),("key_of",287,87)]++[de P "GRAINS" 289 (.int 96 288)]++dr P [("MOST_DOTS",310,88),("is_piece",317,95),("piece_grains",327,102)]++[de P "MOST_TOP" 331 (.int 12 330),de P "BOTTOMS" 335 (.ref 103),de P "MOST_BAR_GRAINS" 337 (.int 192 336)]++dr P [("is_metre",346,110),("are_groups",352,115),("metre_of",363,122),("numbers_of",369,127),("metre_text",375,132),("unit_grains",382,139),("MARKS",391,140)]++[de P "MOST_HEADS" 393 (.int 4 392),de P "SIGNS_BEHIND" 395 (.str "~_()" 394)]++dr P [("Sign",436,171),("Note",493,211),("Pause",539,251),("Whole",585,291),("KeySign",624,324),("MetreSign",663,357)]) 49),(12,uf [.int 6 0,.int 0 0,.ref 20,.int 8 0,.int 0 0,.ref 27,.int 10 0,.int 0 0,.ref 32,.int 12 0,.int 0 0,.ref 37,.int 14 0,.int 0 0,.ref 44,.int 18 0,.int 0 0,.ref 51,.int 22 0,.int 0 0,.ref 58,.int 29 0,.int 0 0,.ref 65,.int 34 0,.int 0 0,.ref 72,.int 44 0,.int 0 0,.ref 79,.int 46 0,.int 0 0,.ref 86,.int 52 0,.int 0 0,.ref 94,.int 58 0,.int 0 0,.ref 101,.int 69 0,.int 0 0,.ref 109,.int 77 0,.int 0 0,.ref 114,.int 83 0,.int 0 0,.ref 121,.int 93 0,.int 0 0,.ref 126,.int 96 0,.int 0 0,.ref 131,.int 101 0,.int 0 0,.ref 138,.int 107 0,.int 0 0,.ref 146,.int 117 0,.int 0 0,.ref 181,.int 142 0,.int 0 0,.ref 219,.int 155 0,.int 0 0,.ref 259,.int 168 0,.int 0 0,.ref 299,.int 178 0,.int 0 0,.ref 332])]++[
 u0,u1,ut [.str "thing" 314],u0,ui 24,ud 24 311 52 1 89 91 92 93 315,ua 24 m4 290 94,u0,u1,ut [.str "piece" 321,.str "more" 322,.str "grains" 323,.str "dot" 324],u0,ui 25,ud 25 318 58 1 96 98 99 100 325,ua 25 m4 290 101,ut [.int 2 332,.int 4 333,.int 8 334],u0,u1,ut [.str "thing" 341,.str "top" 342,.str "bottom" 343],u0,ui 30,ud 30 338 69 1 104 106 107 108 344,ua 30 m5 328 109,u0,u1,ui 31,
 ud 31 347 77 2 111 0 0 113 350,ua 31 m5 328 114,u0,u1,ut [.str "word" 356,.str "halves" 357,.str "fraction" 358,.str "groups" 359,.str "metre" 360],u0,ui 32,ud 32 353 83 1 116 118 119 120 361,ua 32 m5 328 121,u0,u1,ui 33,ud 33 364 93 2 123 0 0 125 367,ua 33 m5 328 126,u0,u1,ui 34,ud 34 370 96 1 128 0 0 130 373,ua 34 m5 328 131,u0,u1,ut [.str "bottom" 379],u0,ui 35,
 ud 35 376 101 1 133 135 136 137 380,ua 35 m5 328 138,ut [.str "" 385,.str "=" 386,.str "+" 387,.str "++" 388,.str "-" 389,.str "--" 390],u0,up,dd ([de P "__module__" 403 (.str "barwright.signs" 383),de P "__qualname__" 405 (.str "Sign" 404),de P "__firstlineno__" 407 (.int 107 406)]++dr P [("told",414,154),("written",421,161),("grains",428,168),("__static_attributes__",429,169)]) 7,u0,
 uf [.int 109 0,.int 4 0,.ref 153,.int 112 0,.int 4 0,.ref 160,.int 115 0,.int 4 0,.ref 167],uk "Sign" 398 107 144 181,uv 146 143 m6 383,u0,u1,ut [.str "self" 411],u0,uh2 "told" "Sign.told" (cs 40 0),uc "told" "Sign.told" 408 109 1 148 (.ref 150) (.ref 151) 152 412,uu "told" "Sign.told" (cs 40 0) m6 383 153,u0,u1,ut [.str "self" 418],u0,uh2 "written" "Sign.written" (cs 40 1),
 uc "written" "Sign.written" 415 112 1 155 (.ref 157) (.ref 158) 159 419,uu "written" "Sign.written" (cs 40 1) m6 383 160,u0,u1,ut [.str "self" 425],u0,uh2 "grains" "Sign.grains" (cs 40 2),uc "grains" "Sign.grains" 422 115 1 162 (.ref 164) (.ref 165) 166 426,uu "grains" "Sign.grains" (cs 40 2) m6 383 167,u0,
 dd ([de P "__module__" 403 (.str "barwright.signs" 383),de P "__firstlineno__" 407 (.int 107 406)]++dr P [("told",414,154),("written",421,161),("grains",428,168),("__static_attributes__",429,169),("__dict__",431,172),("__weakref__",433,173)]++[de P "__doc__" 434 (.none)]) 4,
 ⟨.type "type",none,(.cls ⟨"Sign",[.type "object"],[.ref 171,.type "object"],170,"Sign",true,[],[.ref 211,.ref 251,.ref 291,.ref 324,.ref 357],false,none,false⟩),#[none,none,(some (.str "Sign" 396)),(some (.str "Sign" 404)),(some (.builtin "object.__new__")),(some (.bool true))]⟩,
 ⟨.type "getset_descriptor",none,(.fields #[.str "__dict__" 430,.ref 171,.builtin "function.__dict__",.builtin "function.__dict__#set"]),#[]⟩,ug 432 171,us 171,uq 171,ut [.ref 171],up,
 dd ([de P "__module__" 444 (.str "barwright.signs" 383),de P "__qualname__" 446 (.str "Note" 445),de P "__firstlineno__" 448 (.int 117 447)]++dr P [("__init__",462,189),("told",469,196),("written",475,201),("grains",482,208),("__static_attributes__",490,209)]) 8,u0,uf [.int 119 0,.int 4 0,.ref 188,.int 128 0,.int 4 0,.ref 195,.int 131 0,.int 4 0,.ref 200,.int 140 0,.int 4 0,.ref 207],
 uk "Note" 439 117 179 181,uv 181 178 m6 383,u0,u1,ut [.str "self" 452,.str "heads" 453,.str "piece" 454,.str "is_tied" 455,.str "is_beamed" 456,.str "word" 457,.str "opens" 458,.str "closes" 459],u0,uh2 "__init__" "Note.__init__" (cs 41 0),uc "__init__" "Note.__init__" 449 119 8 183 (.ref 185) (.ref 186) 187 460,uu "__init__" "Note.__init__" (cs 41 0) m6 383 188,u0,u1,ut [.str "self" 466],u0,
 uh2 "told" "Note.told" (cs 41 1),uc "told" "Note.told" 463 128 1 190 (.ref 192) (.ref 193) 194 467,uu "told" "Note.told" (cs 41 1) m6 383 195,u0,u1,uh2 "written" "Note.written" (cs 41 2),uc "written" "Note.written" 470 131 1 197 (.none) (.none) 199 473,uu "written" "Note.written" (cs 41 2) m6 383 200,u0,u1,ut [.str "self" 479],u0,uh2 "grains" "Note.grains" (cs 41 3),
 uc "grains" "Note.grains" 476 140 1 202 (.ref 204) (.ref 205) 206 480,uu "grains" "Note.grains" (cs 41 3) m6 383 207,ut [.str "closes" 483,.str "heads" 484,.str "is_beamed" 485,.str "is_tied" 486,.str "opens" 487,.str "piece" 488,.str "word" 489],
 dd ([de P "__module__" 444 (.str "barwright.signs" 383),de P "__firstlineno__" 448 (.int 117 447)]++dr P [("__init__",462,189),("told",469,196),("written",475,201),("grains",482,208),("__static_attributes__",490,209)]++[de P "__doc__" 491 (.none)]) 2,
 ⟨.type "type",none,(.cls ⟨"Note",[.ref 171],[.ref 211,.ref 171,.type "object"],210,"Note",true,[],[],false,none,false⟩),#[(some (.ref 176)),none,(some (.str "Note" 437)),(some (.str "Note" 445)),(some (.builtin "object.__new__")),(some (.bool true))]⟩,us 211,uq 211,ut [.ref 171],up,
 dd ([de P "__module__" 501 (.str "barwright.signs" 383),de P "__qualname__" 503 (.str "Pause" 502),de P "__firstlineno__" 505 (.int 142 504)]++dr P [("__init__",513,227),("told",520,234),("written",527,241),("grains",534,248),("__static_attributes__",536,249)]) 8,u0,uf [.int 144 0,.int 4 0,.ref 226,.int 147 0,.int 4 0,.ref 233,.int 150 0,.int 4 0,.ref 240,.int 153 0,.int 4 0,.ref 247],
 uk "Pause" 496 142 217 181,uv 219 216 m6 383,u0,u1,ut [.str "self" 509,.str "piece" 510],u0,uh2 "__init__" "Pause.__init__" (cs 42 0),uc "__init__" "Pause.__init__" 506 144 2 221 (.ref 223) (.ref 224) 225 511,uu "__init__" "Pause.__init__" (cs 42 0) m6 383 226,u0,u1,ut [.str "self" 517],u0,uh2 "told" "Pause.told" (cs 42 1),uc "told" "Pause.told" 514 147 1 228 (.ref 230) (.ref 231) 232 518,
 uu "told" "Pause.told" (cs 42 1) m6 383 233,u0,u1,ut [.str "self" 524],u0,uh2 "written" "Pause.written" (cs 42 2),uc "written" "Pause.written" 521 150 1 235 (.ref 237) (.ref 238) 239 525,uu "written" "Pause.written" (cs 42 2) m6 383 240,u0,u1,ut [.str "self" 531],u0,uh2 "grains" "Pause.grains" (cs 42 3),uc "grains" "Pause.grains" 528 153 1 242 (.ref 244) (.ref 245) 246 532,
 uu "grains" "Pause.grains" (cs 42 3) m6 383 247,ut [.str "piece" 535],dd ([de P "__module__" 501 (.str "barwright.signs" 383),de P "__firstlineno__" 505 (.int 142 504)]++dr P [("__init__",513,227),("told",520,234),("written",527,241),("grains",534,248),("__static_attributes__",536,249)]++[de P "__doc__" 537 (.none)]) 2,
 ⟨.type "type",none,(.cls ⟨"Pause",[.ref 171],[.ref 251,.ref 171,.type "object"],250,"Pause",true,[],[],false,none,false⟩),#[(some (.ref 214)),none,(some (.str "Pause" 494)),(some (.str "Pause" 502)),(some (.builtin "object.__new__")),(some (.bool true))]⟩,us 251,uq 251,ut [.ref 171],up,
 dd ([de P "__module__" 547 (.str "barwright.signs" 383),de P "__qualname__" 549 (.str "Whole" 548),de P "__firstlineno__" 551 (.int 155 550)]++dr P [("__init__",559,267),("told",566,274),("written",573,281),("grains",580,288),("__static_attributes__",582,289)]) 8,u0,uf [.int 157 0,.int 4 0,.ref 266,.int 160 0,.int 4 0,.ref 273,.int 163 0,.int 4 0,.ref 280,.int 166 0,.int 4 0,.ref 287],
 uk "Whole" 542 155 257 181,uv 259 256 m6 383,u0,u1,ut [.str "self" 555,.str "length" 556],u0,uh2 "__init__" "Whole.__init__" (cs 43 0),uc "__init__" "Whole.__init__" 552 157 2 261 (.ref 263) (.ref 264) 265 557,uu "__init__" "Whole.__init__" (cs 43 0) m6 383 266,u0,u1,ut [.str "self" 563],u0,uh2 "told" "Whole.told" (cs 43 1),uc "told" "Whole.told" 560 160 1 268 (.ref 270) (.ref 271) 272 564,
 uu "told" "Whole.told" (cs 43 1) m6 383 273,u0,u1,ut [.str "self" 570],u0,uh2 "written" "Whole.written" (cs 43 2),uc "written" "Whole.written" 567 163 1 275 (.ref 277) (.ref 278) 279 571,uu "written" "Whole.written" (cs 43 2) m6 383 280,u0,u1,ut [.str "self" 577],u0,uh2 "grains" "Whole.grains" (cs 43 3),uc "grains" "Whole.grains" 574 166 1 282 (.ref 284) (.ref 285) 286 578,
 uu "grains" "Whole.grains" (cs 43 3) m6 383 287,ut [.str "length" 581],dd ([de P "__module__" 547 (.str "barwright.signs" 383),de P "__firstlineno__" 551 (.int 155 550)]++dr P [("__init__",559,267),("told",566,274),("written",573,281),("grains",580,288),("__static_attributes__",582,289)]++[de P "__doc__" 583 (.none)]) 2,
 ⟨.type "type",none,(.cls ⟨"Whole",[.ref 171],[.ref 291,.ref 171,.type "object"],290,"Whole",true,[],[],false,none,false⟩),#[(some (.ref 254)),none,(some (.str "Whole" 540)),(some (.str "Whole" 548)),(some (.builtin "object.__new__")),(some (.bool true))]⟩,us 291,uq 291,ut [.ref 171],up,
 dd ([de P "__module__" 593 (.str "barwright.signs" 383),de P "__qualname__" 595 (.str "KeySign" 594),de P "__firstlineno__" 597 (.int 168 596)]++dr P [("__init__",605,307),("told",612,314),("written",619,321),("__static_attributes__",621,322)]) 7,u0,uf [.int 170 0,.int 4 0,.ref 306,.int 173 0,.int 4 0,.ref 313,.int 176 0,.int 4 0,.ref 320],uk "KeySign" 588 168 297 181,uv 299 296 m6 383,u0,u1,
 ut [.str "self" 601,.str "key" 602],u0,uh2 "__init__" "KeySign.__init__" (cs 44 0),uc "__init__" "KeySign.__init__" 598 170 2 301 (.ref 303) (.ref 304) 305 603,uu "__init__" "KeySign.__init__" (cs 44 0) m6 383 306,u0,u1,ut [.str "self" 609],u0,uh2 "told" "KeySign.told" (cs 44 1),uc "told" "KeySign.told" 606 173 1 308 (.ref 310) (.ref 311) 312 610,uu "told" "KeySign.told" (cs 44 1) m6 383 313,u0,u1,
 ut [.str "self" 616],u0,uh2 "written" "KeySign.written" (cs 44 2),uc "written" "KeySign.written" 613 176 1 315 (.ref 317) (.ref 318) 319 617,uu "written" "KeySign.written" (cs 44 2) m6 383 320,ut [.str "key" 620],
 dd ([de P "__module__" 593 (.str "barwright.signs" 383),de P "__firstlineno__" 597 (.int 168 596)]++dr P [("__init__",605,307),("told",612,314),("written",619,321),("__static_attributes__",621,322)]++[de P "__doc__" 622 (.none)]) 2,
 ⟨.type "type",none,(.cls ⟨"KeySign",[.ref 171],[.ref 324,.ref 171,.type "object"],323,"KeySign",true,[],[],false,none,false⟩),#[(some (.ref 294)),none,(some (.str "KeySign" 586)),(some (.str "KeySign" 594)),(some (.builtin "object.__new__")),(some (.bool true))]⟩,us 324,uq 324,ut [.ref 171],up,
 dd ([de P "__module__" 632 (.str "barwright.signs" 383),de P "__qualname__" 634 (.str "MetreSign" 633),de P "__firstlineno__" 636 (.int 178 635)]++dr P [("__init__",644,340),("told",651,347),("written",658,354),("__static_attributes__",660,355)]) 7,u0,uf [.int 180 0,.int 4 0,.ref 339,.int 183 0,.int 4 0,.ref 346,.int 186 0,.int 4 0,.ref 353],uk "MetreSign" 627 178 330 181,uv 332 329 m6 383,u0,u1,
 ut [.str "self" 640,.str "metre" 641],u0,uh2 "__init__" "MetreSign.__init__" (cs 45 0),uc "__init__" "MetreSign.__init__" 637 180 2 334 (.ref 336) (.ref 337) 338 642,uu "__init__" "MetreSign.__init__" (cs 45 0) m6 383 339,u0,u1,ut [.str "self" 648],u0,uh2 "told" "MetreSign.told" (cs 45 1),uc "told" "MetreSign.told" 645 183 1 341 (.ref 343) (.ref 344) 345 649,
 uu "told" "MetreSign.told" (cs 45 1) m6 383 346,u0,u1,ut [.str "self" 655],u0,uh2 "written" "MetreSign.written" (cs 45 2),uc "written" "MetreSign.written" 652 186 1 348 (.ref 350) (.ref 351) 352 656,uu "written" "MetreSign.written" (cs 45 2) m6 383 353,ut [.str "metre" 659],
 dd ([de P "__module__" 632 (.str "barwright.signs" 383),de P "__firstlineno__" 636 (.int 178 635)]++dr P [("__init__",644,340),("told",651,347),("written",658,354),("__static_attributes__",660,355)]++[de P "__doc__" 661 (.none)]) 2,
 ⟨.type "type",none,(.cls ⟨"MetreSign",[.ref 171],[.ref 357,.ref 171,.type "object"],356,"MetreSign",true,[],[],false,none,false⟩),#[(some (.ref 327)),none,(some (.str "MetreSign" 625)),(some (.str "MetreSign" 633)),(some (.builtin "object.__new__")),(some (.bool true))]⟩,us 357,uq 357]
noncomputable def h4 (P:Params):List Obj:=pa (h3 P) [(3,dd ([de P "__name__" 165 (.str "law_barwright_k14_signs_as_words" 938),de P "__doc__" 166 (.none),de P "__package__" 167 (.none),de P "__loader__" 168 (.builtin "__main__.__loader__#opaque"),de P "__spec__" 169 (.none)]++dr P [("__annotations__",170,6),("__builtins__",171,4)]++[de P "__file__" 173 (.str "/claim/cut.py" 172),de P "__cached__" 174 (.none),de P "FIGURES" 190 (.str "0123456789" 189),de P "SYLLABLE_SIGNS" 192 (.str "abcdefghijklmnopqrstuvwxyzABCDEFGHIJKLMNOPQRSTUVWXYZ-" 191)]++di P [("MOST_FIGURES",194,4),("MOST_SYLLABLE_SIGNS",196,12)]++dr P [("is_whole",203,21),("is_among",212,28),("do_rise",218,33),("has_only",224,38),("is_syllable",231,45),("are_figures",238,52),("number_of",246,59),("number_text",253,66)]++[de P "LETTERS" 257 (.str "cdefgab" 256),de P "OCTAVE_FIGURES" 259 (.str "012345678" 258),de P "parts_of" 268 (.ref 73),de P "MOST_SIGNS" 272 (.int 7 271)]++dr P [("is_key",279,80),("key_of",287,87)]++[de P "GRAINS" 289 (.int 96 288)]++dr P [("MOST_DOTS",310,88),("is_piece",317,95),("piece_grains",327,102)]++[de P "MOST_TOP" 331 (.int 12 330),de P "BOTTOMS" 335 (.ref 103),de P "MOST_BAR_GRAINS" 337 (.int 192 336)]++dr P [("is_metre",346,110),("are_groups",352,115),("metre_of",363,122),("numbers_of",369,127),("metre_text",375,132),("unit_grains",382,139),("MARKS",391,140)]++[de P "MOST_HEADS" 393 (.int 4 392),de P "SIGNS_BEHIND" 395 (.str "~_()" 394)]++dr P [("Sign",436,171),("Note",493,211),("Pause",539,251),("Whole",585,291),("KeySign",624,324),("MetreSign",663,357),("Begin",693,383),("End",723,409),("Ending",762,442),("Close",792,468),("Fine",822,494),("Back",852,520),("head_text",859,529),("head_line",866,536),("piece_text",873,543),("sign_of",882,550),("key_sign_of",890,557),("metre_sign_of",898,564),("pause_of",906,571),("piece_of",917,578),("note_of",923,583),("heads_of",929,588),("head_of",937,595),("_law_draw",950,602),("_law_alike",956,607),("_law_longer",964,614)]++dr P [("_law_piece",974,621),("_law_grains",982,628),("_law_word",988,633),("_law_heads",999,640),("_law_metre",1008,647),("_law_told",1014,652),("_law_made",1023,659),("_law_plain",1030,666),("_law_is_of",1036,671),("_law_piece_word",1043,678),("_law_written",1049,683),("_law_pieces_by_words",1059,690),("_law_read_heads",1065,695),("_law_read_note",1071,700),("_law_is_syllable",1077,705),("_law_number",1083,710),("_law_read_metre",1089,715),("_law_read",1101,722),("_law_spoilt",1116,729),("_law_odd",1122,734),("_law_fields",1131,741),("_law_reads",1141,748),("_law_time",1148,755),("law",1164,762)]) 93),(12,uf [.int 6 0,.int 0 0,.ref 20,.int 8 0,.int 0 0,.ref 27,.int 10 0,.int 0 0,.ref 32,.int 12 0,.int 0 0,.ref 37,.int 14 0,.int 0 0,.ref 44,.int 18 0,.int 0 0,.ref 51,.int 22 0,.int 0 0,.ref 58,.int 29 0,.int 0 0,.ref 65,.int 34 0,.int 0 0,.ref 72,.int 44 0,.int 0 0,.ref 79,.int 46 0,.int 0 0,.ref 86,.int 52 0,.int 0 0,.ref 94,.int 58 0,.int 0 0,.ref 101,.int 69 0,.int 0 0,.ref 109,.int 77 0,.int 0 0,.ref 114,.int 83 0,.int 0 0,.ref 121,.int 93 0,.int 0 0,.ref 126,.int 96 0,.int 0 0,.ref 131,.int 101 0,.int 0 0,.ref 138,.int 107 0,.int 0 0,.ref 146,.int 117 0,.int 0 0,.ref 181,.int 142 0,.int 0 0,.ref 219,.int 155 0,.int 0 0,.ref 259,.int 168 0,.int 0 0,.ref 299,.int 178 0,.int 0 0,.ref 332,.int 188 0,.int 0 0,.ref 365,.int 195 0,.int 0 0,.ref 391,.int 202 0,.int 0 0,.ref 417,.int 212 0,.int 0 0,.ref 450,.int 219 0,.int 0 0,.ref 476,.int 226 0,.int 0 0,.ref 502,.int 233 0,.int 0 0,.ref 528,.int 235 0,.int 0 0,.ref 535,.int 237 0,.int 0 0,.ref 542,.int 239 0,.int 0 0,.ref 549,.int 252 0,.int 0 0,.ref 556,.int 255 0,.int 0 0,.ref 563,.int 258 0,.int 0 0,.ref 570,.int 261 0,.int 0 0,.ref 577,.int 267 0,.int 0 0,.ref 582,.int 279 0,.int 0 0,.ref 587,.int 284 0,.int 0 0,.ref 594,.int 290 0,.int 0 0,.ref 601,.int 297 0,.int 0 0,.ref 606,.int 303 0,.int 0 0,.ref 613,.int 309 0,.int 0 0,.ref 620,.int 313 0,.int 0 0,.ref 627,.int 317 0,.int 0 0,.ref 632,.int 323 0,.int 0 0,.ref 639,.int 330 0,.int 0 0,.ref 646,.int 333 0,.int 0 0,.ref 651,.int 343 0,.int 0 0,.ref 658,.int 358 0,.int 0 0,.ref 665,.int 366 0,.int 0 0,.ref 670,.int 372 0,.int 0 0,.ref 677,.int 374 0,.int 0 0,.ref 682,.int 393 0,.int 0 0,.ref 689,.int 400 0,.int 0 0,.ref 694,.int 411 0,.int 0 0,.ref 699,.int 428 0,.int 0 0,.ref 704,.int 431 0,.int 0 0,.ref 709,.int 433 0,.int 0 0,.ref 714,.int 447 0,.int 0 0,.ref 721,.int 457 0,.int 0 0,.ref 728,.int 466 0,.int 0 0,.ref 733,.int 475 0,.int 0 0,.ref 740,.int 488 0,.int 0 0,.ref 747,.int 496 0,.int 0 0,.ref 754,.int 500 0,.int 0 0,.ref 761]),(171,⟨.type "type",none,(.cls ⟨"Sign",[.type "object"],[.ref 171,.type "object"],170, "Sign",true,[],[.ref 211,.ref 251,.ref 291,.ref 324,.ref 357,.ref 383,.ref 409,.ref 442,.ref 468,.ref 494,.ref 520],false,none,false⟩),#[none,none,(some (.str "Sign" 396)),(some (.str "Sign" 404)),(some (.builtin "object.__new__")),(some (.bool true))]⟩)]++[
 ut [.ref 171],up,dd ([de P "__module__" 671 (.str "barwright.signs" 383),de P "__qualname__" 673 (.str "Begin" 672),de P "__firstlineno__" 675 (.int 188 674)]++dr P [("told",682,373),("written",689,380),("__static_attributes__",690,381)]) 6,u0,uf [.int 190 0,.int 4 0,.ref 372,.int 193 0,.int 4 0,.ref 379],uk "Begin" 666 188 363 181,uv 365 362 m6 383,u0,u1,ut [.str "self" 679],u0,
 uh2 "told" "Begin.told" (cs 46 0),uc "told" "Begin.told" 676 190 1 367 (.ref 369) (.ref 370) 371 680,uu "told" "Begin.told" (cs 46 0) m6 383 372,u0,u1,ut [.str "self" 686],u0,uh2 "written" "Begin.written" (cs 46 1),uc "written" "Begin.written" 683 193 1 374 (.ref 376) (.ref 377) 378 687,uu "written" "Begin.written" (cs 46 1) m6 383 379,u0,
 dd ([de P "__module__" 671 (.str "barwright.signs" 383),de P "__firstlineno__" 675 (.int 188 674)]++dr P [("told",682,373),("written",689,380),("__static_attributes__",690,381)]++[de P "__doc__" 691 (.none)]) 2,
 ⟨.type "type",none,(.cls ⟨"Begin",[.ref 171],[.ref 383,.ref 171,.type "object"],382,"Begin",true,[],[],false,none,false⟩),#[(some (.ref 360)),none,(some (.str "Begin" 664)),(some (.str "Begin" 672)),(some (.builtin "object.__new__")),(some (.bool true))]⟩,us 383,uq 383,ut [.ref 171],up,
 dd ([de P "__module__" 701 (.str "barwright.signs" 383),de P "__qualname__" 703 (.str "End" 702),de P "__firstlineno__" 705 (.int 195 704)]++dr P [("told",712,399),("written",719,406),("__static_attributes__",720,407)]) 6,u0,uf [.int 197 0,.int 4 0,.ref 398,.int 200 0,.int 4 0,.ref 405],uk "End" 696 195 389 181,uv 391 388 m6 383,u0,u1,ut [.str "self" 709],u0,uh2 "told" "End.told" (cs 47 0),
 uc "told" "End.told" 706 197 1 393 (.ref 395) (.ref 396) 397 710,uu "told" "End.told" (cs 47 0) m6 383 398,u0,u1,ut [.str "self" 716],u0,uh2 "written" "End.written" (cs 47 1),uc "written" "End.written" 713 200 1 400 (.ref 402) (.ref 403) 404 717,uu "written" "End.written" (cs 47 1) m6 383 405,u0,
 dd ([de P "__module__" 701 (.str "barwright.signs" 383),de P "__firstlineno__" 705 (.int 195 704)]++dr P [("told",712,399),("written",719,406),("__static_attributes__",720,407)]++[de P "__doc__" 721 (.none)]) 2,
 ⟨.type "type",none,(.cls ⟨"End",[.ref 171],[.ref 409,.ref 171,.type "object"],408,"End",true,[],[],false,none,false⟩),#[(some (.ref 386)),none,(some (.str "End" 694)),(some (.str "End" 702)),(some (.builtin "object.__new__")),(some (.bool true))]⟩,us 409,uq 409,ut [.ref 171],up,
 dd ([de P "__module__" 731 (.str "barwright.signs" 383),de P "__qualname__" 733 (.str "Ending" 732),de P "__firstlineno__" 735 (.int 202 734)]++dr P [("__init__",743,425),("told",750,432),("written",757,439),("__static_attributes__",759,440)]) 7,u0,uf [.int 204 0,.int 4 0,.ref 424,.int 207 0,.int 4 0,.ref 431,.int 210 0,.int 4 0,.ref 438],uk "Ending" 726 202 415 181,uv 417 414 m6 383,u0,u1,
 ut [.str "self" 739,.str "number" 740],u0,uh2 "__init__" "Ending.__init__" (cs 48 0),uc "__init__" "Ending.__init__" 736 204 2 419 (.ref 421) (.ref 422) 423 741,uu "__init__" "Ending.__init__" (cs 48 0) m6 383 424,u0,u1,ut [.str "self" 747],u0,uh2 "told" "Ending.told" (cs 48 1),uc "told" "Ending.told" 744 207 1 426 (.ref 428) (.ref 429) 430 748,uu "told" "Ending.told" (cs 48 1) m6 383 431,u0,u1,
 ut [.str "self" 754],u0,uh2 "written" "Ending.written" (cs 48 2),uc "written" "Ending.written" 751 210 1 433 (.ref 435) (.ref 436) 437 755,uu "written" "Ending.written" (cs 48 2) m6 383 438,ut [.str "number" 758],
 dd ([de P "__module__" 731 (.str "barwright.signs" 383),de P "__firstlineno__" 735 (.int 202 734)]++dr P [("__init__",743,425),("told",750,432),("written",757,439),("__static_attributes__",759,440)]++[de P "__doc__" 760 (.none)]) 2,
 ⟨.type "type",none,(.cls ⟨"Ending",[.ref 171],[.ref 442,.ref 171,.type "object"],441,"Ending",true,[],[],false,none,false⟩),#[(some (.ref 412)),none,(some (.str "Ending" 724)),(some (.str "Ending" 732)),(some (.builtin "object.__new__")),(some (.bool true))]⟩,us 442,uq 442,ut [.ref 171],up,
 dd ([de P "__module__" 770 (.str "barwright.signs" 383),de P "__qualname__" 772 (.str "Close" 771),de P "__firstlineno__" 774 (.int 212 773)]++dr P [("told",781,458),("written",788,465),("__static_attributes__",789,466)]) 6,u0,uf [.int 214 0,.int 4 0,.ref 457,.int 217 0,.int 4 0,.ref 464],uk "Close" 765 212 448 181,uv 450 447 m6 383,u0,u1,ut [.str "self" 778],u0,uh2 "told" "Close.told" (cs 49 0),
 uc "told" "Close.told" 775 214 1 452 (.ref 454) (.ref 455) 456 779,uu "told" "Close.told" (cs 49 0) m6 383 457,u0,u1,ut [.str "self" 785],u0,uh2 "written" "Close.written" (cs 49 1),uc "written" "Close.written" 782 217 1 459 (.ref 461) (.ref 462) 463 786,uu "written" "Close.written" (cs 49 1) m6 383 464,u0,
 dd ([de P "__module__" 770 (.str "barwright.signs" 383),de P "__firstlineno__" 774 (.int 212 773)]++dr P [("told",781,458),("written",788,465),("__static_attributes__",789,466)]++[de P "__doc__" 790 (.none)]) 2,
 ⟨.type "type",none,(.cls ⟨"Close",[.ref 171],[.ref 468,.ref 171,.type "object"],467,"Close",true,[],[],false,none,false⟩),#[(some (.ref 445)),none,(some (.str "Close" 763)),(some (.str "Close" 771)),(some (.builtin "object.__new__")),(some (.bool true))]⟩,us 468,uq 468,ut [.ref 171],up,
 dd ([de P "__module__" 800 (.str "barwright.signs" 383),de P "__qualname__" 802 (.str "Fine" 801),de P "__firstlineno__" 804 (.int 219 803)]++dr P [("told",811,484),("written",818,491),("__static_attributes__",819,492)]) 6,u0,uf [.int 221 0,.int 4 0,.ref 483,.int 224 0,.int 4 0,.ref 490],uk "Fine" 795 219 474 181,uv 476 473 m6 383,u0,u1,ut [.str "self" 808],u0,uh2 "told" "Fine.told" (cs 50 0),
 uc "told" "Fine.told" 805 221 1 478 (.ref 480) (.ref 481) 482 809,uu "told" "Fine.told" (cs 50 0) m6 383 483,u0,u1,ut [.str "self" 815],u0,uh2 "written" "Fine.written" (cs 50 1),uc "written" "Fine.written" 812 224 1 485 (.ref 487) (.ref 488) 489 816,uu "written" "Fine.written" (cs 50 1) m6 383 490,u0,
 dd ([de P "__module__" 800 (.str "barwright.signs" 383),de P "__firstlineno__" 804 (.int 219 803)]++dr P [("told",811,484),("written",818,491),("__static_attributes__",819,492)]++[de P "__doc__" 820 (.none)]) 2,
 ⟨.type "type",none,(.cls ⟨"Fine",[.ref 171],[.ref 494,.ref 171,.type "object"],493,"Fine",true,[],[],false,none,false⟩),#[(some (.ref 471)),none,(some (.str "Fine" 793)),(some (.str "Fine" 801)),(some (.builtin "object.__new__")),(some (.bool true))]⟩,us 494,uq 494,ut [.ref 171],up,
 dd ([de P "__module__" 830 (.str "barwright.signs" 383),de P "__qualname__" 832 (.str "Back" 831),de P "__firstlineno__" 834 (.int 226 833)]++dr P [("told",841,510),("written",848,517),("__static_attributes__",849,518)]) 6,u0,uf [.int 228 0,.int 4 0,.ref 509,.int 231 0,.int 4 0,.ref 516],uk "Back" 825 226 500 181,uv 502 499 m6 383,u0,u1,ut [.str "self" 838],u0,uh2 "told" "Back.told" (cs 51 0),
 uc "told" "Back.told" 835 228 1 504 (.ref 506) (.ref 507) 508 839,uu "told" "Back.told" (cs 51 0) m6 383 509,u0,u1,ut [.str "self" 845],u0,uh2 "written" "Back.written" (cs 51 1),uc "written" "Back.written" 842 231 1 511 (.ref 513) (.ref 514) 515 846,uu "written" "Back.written" (cs 51 1) m6 383 516,u0,
 dd ([de P "__module__" 830 (.str "barwright.signs" 383),de P "__firstlineno__" 834 (.int 226 833)]++dr P [("told",841,510),("written",848,517),("__static_attributes__",849,518)]++[de P "__doc__" 850 (.none)]) 2,
 ⟨.type "type",none,(.cls ⟨"Back",[.ref 171],[.ref 520,.ref 171,.type "object"],519,"Back",true,[],[],false,none,false⟩),#[(some (.ref 497)),none,(some (.str "Back" 823)),(some (.str "Back" 831)),(some (.builtin "object.__new__")),(some (.bool true))]⟩,us 520,uq 520,u0,u1,ut [.str "head" 856],u0,ui 52,ud 52 853 233 1 523 525 526 527 857,ua 52 m6 383 528,u0,u1,ut [.str "head" 863],u0,ui 53,
 ud 53 860 235 1 530 532 533 534 864,ua 53 m6 383 535,u0,u1,ut [.str "piece" 870],u0,ui 54,ud 54 867 237 1 537 539 540 541 871,ua 54 m6 383 542,u0,u1,ut [.str "word" 877,.str "length" 878,.str "sign" 879],u0,ui 55,ud 55 874 239 2 544 546 547 548 880,ua 55 m6 383 549,u0,u1,ut [.str "text" 886,.str "key" 887],u0,ui 56,ud 56 883 252 1 551 553 554 555 888,ua 56 m6 383 556,u0,u1,
 ut [.str "text" 894,.str "metre" 895],u0,ui 57,ud 57 891 255 1 558 560 561 562 896,ua 57 m6 383 563,u0,u1,ut [.str "text" 902,.str "piece" 903],u0,ui 58,ud 58 899 258 1 565 567 568 569 904,ua 58 m6 383 570,u0,u1,ut [.str "text" 910,.str "is_three" 911,.str "plain" 912,.str "value" 913,.str "piece" 914],u0,ui 59,ud 59 907 261 1 572 574 575 576 915,ua 59 m6 383 577,u0,u1,ui 60,
 ud 60 918 267 1 579 0 0 581 921,ua 60 m6 383 582,u0,u1,ui 61,ud 61 924 279 1 584 0 0 586 927,ua 61 m6 383 587,u0,u1,ut [.str "word" 933,.str "parts" 934],u0,ui 62,ud 62 930 284 1 589 591 592 593 935,ua 62 m6 383 594,u0,u1,ut [.str "_law_script" 943,.str "_law_tape" 944,.str "_law_size" 945,.str "_law_cell" 946,.str "_law_number_here" 947],u0,ui 64,ud 64 940 290 3 596 598 599 600 948,
 ua 64 m7 938 601,u0,u1,ui 65,ud 65 951 297 2 603 0 0 605 954,ua 65 m7 938 606,u0,u1,ut [.str "_law_told_here" 960,.str "_law_one" 961],u0,ui 66,ud 66 957 303 1 608 610 611 612 962,ua 66 m7 938 613,u0,u1,ut [.str "_law_script" 968,.str "_law_tape" 969,.str "_law_value" 970,.str "_law_dots" 971],u0,ui 67,ud 67 965 309 2 615 617 618 619 972,ua 67 m7 938 620,u0,u1,
 ut [.str "_law_piece_here" 978,.str "_law_whole" 979],u0,ui 68,ud 68 975 313 1 622 624 625 626 980,ua 68 m7 938 627,u0,u1,ui 69,ud 69 983 317 2 629 0 0 631 986,ua 69 m7 938 632,u0,u1,ut [.str "_law_script" 992,.str "_law_tape" 993,.str "_law_place" 994,.str "_law_found" 995,.str "_law_k" 996],u0,ui 70,ud 70 989 323 2 634 636 637 638 997,ua 70 m7 938 639,u0,u1,
 ut [.str "_law_script" 1003,.str "_law_tape" 1004,.str "_law_some" 1005],u0,ui 71,ud 71 1000 330 2 641 643 644 645 1006,ua 71 m7 938 646,u0,u1,ui 72,ud 72 1009 333 2 648 0 0 650 1012,ua 72 m7 938 651,u0,u1,ut [.str "_law_told_here" 1018,.str "_law_heads_here" 1019,.str "_law_kind" 1020],u0,ui 73,ud 73 1015 343 2 653 655 656 657 1021,ua 73 m7 938 658,u0,u1,ut [.str "_law_kind" 1027],u0,ui 74,
 ud 74 1024 358 1 660 662 663 664 1028,ua 74 m7 938 665,u0,u1,ui 75,ud 75 1031 366 2 667 0 0 669 1034,ua 75 m7 938 670,u0,u1,ut [.str "_law_piece_here" 1040],u0,ui 76,ud 76 1037 372 1 672 674 675 676 1041,ua 76 m7 938 677,u0,u1,ui 77,ud 77 1044 374 1 679 0 0 681 1047,ua 77 m7 938 682,u0,u1,ut [.str "_law_found" 1053,.str "_law_value" 1054,.str "_law_dots" 1055,.str "_law_is_three" 1056],u0,ui 78,
 ud 78 1050 393 0 684 686 687 688 1057,ua 78 m7 938 689,u0,u1,ui 79,ud 79 1060 400 1 691 0 0 693 1063,ua 79 m7 938 694,u0,u1,ui 80,ud 80 1066 411 1 696 0 0 698 1069,ua 80 m7 938 699,u0,u1,ui 81,ud 81 1072 428 1 701 0 0 703 1075,ua 81 m7 938 704,u0,u1,ui 82,ud 82 1078 431 1 706 0 0 708 1081,ua 82 m7 938 709,u0,u1,ui 83,ud 83 1084 433 1 711 0 0 713 1087,ua 83 m7 938 714,u0,u1,
 ut [.str "_law_word_here" 1093,.str "_law_length" 1094,.str "_law_some" 1095,.str "_law_key" 1096,.str "_law_text" 1097,.str "_law_piece_here" 1098],u0,ui 84,ud 84 1090 447 2 716 718 719 720 1099,ua 84 m7 938 721,u0,u1,
 ut [.str "_law_script" 1105,.str "_law_tape" 1106,.str "_law_word_here" 1107,.str "_law_signs" 1108,.str "_law_turn" 1109,.str "_law_at" 1110,.str "_law_sign" 1111,.str "_law_way" 1112,.str "_law_put" 1113],u0,ui 85,ud 85 1102 457 3 723 725 726 727 1114,ua 85 m7 938 728,u0,u1,ui 86,ud 86 1117 466 2 730 0 0 732 1120,ua 86 m7 938 733,u0,u1,
 ut [.str "_law_sign" 1126,.str "_law_kind" 1127,.str "_law_flags" 1128],u0,ui 87,ud 87 1123 475 2 735 737 738 739 1129,ua 87 m7 938 740,u0,u1,ut [.str "_law_word_here" 1135,.str "_law_length" 1136,.str "_law_found" 1137,.str "_law_due" 1138],u0,ui 88,ud 88 1132 488 2 742 744 745 746 1139,ua 88 m7 938 747,u0,u1,ut [.str "_law_told_here" 1145],u0,ui 89,ud 89 1142 496 1 749 751 752 753 1146,
 ua 89 m7 938 754,u0,u1,ut [.str "_law_script" 1152,.str "_law_tape" 1153,.str "_law_due" 1154,.str "_law_heads_here" 1155,.str "_law_sign" 1156,.str "_law_wanted" 1157,.str "_law_length" 1158,.str "_law_held" 1159,.str "_law_word_here" 1160,.str "_law_odd_here" 1161],u0,ui 90,ud 90 1149 500 1 756 758 759 760 1162,ua 90 m7 938 761]
noncomputable abbrev s0 (w:World):Shared:=⟨⟨⟨h0 w.params⟩,{}⟩,#[],{},181,{}⟩
noncomputable abbrev sa (w:World):Shared:=⟨⟨⟨ha w.params⟩,{}⟩,#[],{},187,{}⟩
noncomputable abbrev s1 (w:World):Shared:=⟨⟨⟨hb1 w.params⟩,{}⟩,#[],{},292,{}⟩
noncomputable abbrev s2 (w:World):Shared:=⟨⟨⟨h2 w.params⟩,{}⟩,#[],{},311,{}⟩
noncomputable abbrev s3 (w:World):Shared:=⟨⟨⟨h3 w.params⟩,{}⟩,#[],{},664,{}⟩
noncomputable abbrev s4 (w:World):Shared:=⟨⟨⟨h4 w.params⟩,{}⟩,#[],{},1165,{}⟩
noncomputable def ex:Env:={ scope:=rP.main.scope,locals:=mainNs,globals:=mainNs,cells:=[],code:=.ref 13,frame:=some 14 }
noncomputable def lb:List Stmt:=behindTheImports rP
noncomputable def cx:Code:=.body lb ex
noncomputable abbrev qB:List Frame:=[topFrame ⟨0,0,0,0⟩]
theorem g0 (w:World):((Fast.tw10274390034422433532 Fast.tw14364793385576792824 (opening rP) w 5804 (Fast.tw1435165496053646825 (opening rP)).fst (Fast.tw1435165496053646825 (opening rP)).snd).bind (Fast.tw14289696077712309145 rP))=some (s0 w)/\True:=⟨by kernel_rfl,trivial⟩
theorem g1 (w:World):Fast.tw15667345088766844465 Fast.tw14364793385576792824 rP w 11 (some (.ref 6)) 12 (s0 w) (topStub rP)=some (sa w,⟨Fast.tw11892475500146522536 Fast.tw14364793385576792824 (.body lb ex),.body lb ex,⟨0,0,0,0⟩,qB⟩)/\True:=⟨by kernel_rfl,trivial⟩
theorem g2 (w:World):Fast.tw14374325043358763698 Fast.tw14364793385576792824 rP w 11 (some (.ref 6)) 1 1 (sa w) (blockOf lb ex cx ⟨0,0,0,0⟩ qB)=some (.next,sa w,cx,⟨0,0,0,0⟩)/\True:=⟨by kernel_rfl,trivial⟩
theorem g3 (w:World):Fast.tw14374325043358763698 Fast.tw14364793385576792824 rP w 11 (some (.ref 6)) 1 428 (sa w) ⟨(Fast.tw12563942051412417395 ((lb.drop 0).take 23) ex).wrap doneF deadEnd id id,cx,⟨0,0,0,0⟩,qB⟩=some (.next,s1 w,cx,⟨50,0,50,8⟩)/\True:=⟨by kernel_rfl,trivial⟩
theorem g4f (w:World):Fast.tw14374325043358763698 Fast.tw14364793385576792824 rP (w.withFollow "special-get-raises" false) 11 (some (.ref 6)) 1 89 (s1 (w.withFollow "special-get-raises" false)) ⟨(Fast.tw12563942051412417395 ((lb.drop 23).take 1) ex).wrap doneF deadEnd id id,cx,⟨50,0,50,8⟩,qB⟩=some (.next,s2 (w.withFollow "special-get-raises" false),cx,⟨51,0,51,9⟩)/\True:=⟨by kernel_rfl,trivial⟩
theorem g4t (w:World):Fast.tw14374325043358763698 Fast.tw14364793385576792824 rP (w.withFollow "special-get-raises" true) 11 (some (.ref 6)) 1 89 (s1 (w.withFollow "special-get-raises" true)) ⟨(Fast.tw12563942051412417395 ((lb.drop 23).take 1) ex).wrap doneF deadEnd id id,cx,⟨50,0,50,8⟩,qB⟩=some (.next,s2 (w.withFollow "special-get-raises" true),cx,⟨51,0,51,9⟩)/\True:=⟨by kernel_rfl,trivial⟩
theorem g5 (w:World):Fast.tw14374325043358763698 Fast.tw14364793385576792824 rP w 11 (some (.ref 6)) 1 2235 (s2 w) ⟨(Fast.tw12563942051412417395 ((lb.drop 24).take 22) ex).wrap doneF deadEnd id id,cx,⟨51,0,51,9⟩,qB⟩=some (.next,s3 w,cx,⟨178,0,187,43⟩)/\True:=⟨by kernel_rfl,trivial⟩
theorem g6 (w:World):Fast.tw14374325043358763698 Fast.tw14364793385576792824 rP w 11 (some (.ref 6)) 1 2807 (s3 w) ⟨(Fast.tw12563942051412417395 ((lb.drop 46).take 45) ex).wrap doneF deadEnd id id,cx,⟨178,0,187,43⟩,qB⟩=some (.next,s4 w,cx,⟨500,0,520,154⟩)/\True:=⟨by kernel_rfl,trivial⟩
theorem ge (w:World):Fast.tw14082659384304107361 Fast.tw14364793385576792824 rP w 11 (some (.ref 6)) 20 (s4 w) ⟨doneF .next,cx,⟨500,0,520,154⟩,qB⟩=some (s4 w)/\True:=⟨by kernel_rfl,trivial⟩
theorem lsp:lb=((lb.drop 0).take 23++((lb.drop 23).take 1++((lb.drop 24).take 22++((lb.drop 46).take 45++[]))))/\True:=⟨by kernel_rfl,trivial⟩
theorem yvq (w:World)(ga:Fast.tw14374325043358763698 Fast.tw14364793385576792824 rP w 11 (some (.ref 6)) 1 89 (s1 w) ⟨(Fast.tw12563942051412417395 ((lb.drop 23).take 1) ex).wrap doneF deadEnd id id,cx,⟨50,0,50,8⟩,qB⟩=some (.next,s2 w,cx,⟨51,0,51,9⟩)/\True):topRun treeTable rP w 11 (some (.ref 6)) (12+(1+(428+(89+(2235+(2807+20)))))) (s0 w) (topStub rP)=some (s4 w):=by
 have g1:=(g1 w).1
 have g2:=(g2 w).1
 have g3:=(g3 w).1
 have g4:=ga.1
 have g5:=(g5 w).1
 have g6:=(g6 w).1
 have ge:=(ge w).1
 rw[← Fast.te14364793385576792824,← Fast.te15667345088766844465,← Fast.te11892475500146522536] at g1
 rw[← Fast.te14364793385576792824,← Fast.te14374325043358763698] at g2
 rw[← Fast.te14364793385576792824,← Fast.te14374325043358763698,← Fast.te12563942051412417395] at g3
 rw[← Fast.te14364793385576792824,← Fast.te14374325043358763698,← Fast.te12563942051412417395] at g4
 rw[← Fast.te14364793385576792824,← Fast.te14374325043358763698,← Fast.te12563942051412417395] at g5
 rw[← Fast.te14364793385576792824,← Fast.te14374325043358763698,← Fast.te12563942051412417395] at g6
 rw[← Fast.te14364793385576792824,← Fast.te14082659384304107361] at ge
 refine go_top g1 (piece_block (c:=cx) g2 ?_)
 rw[lsp.1]
 exact(piece_app (l:=(lb.drop 0).take 23) (rest:=_) g3 (piece_app (l:=(lb.drop 23).take 1) (rest:=_) g4 (piece_app (l:=(lb.drop 24).take 22) (rest:=_) g5 (piece_app (l:=(lb.drop 46).take 45) (rest:=_) g6 (piece_nil ge)))))
local macro_rules | `(tactic| o_head $_) => `(tactic| assumption)
theorem pre (h:PySem.Challenge.rw_barwright_k14_signs_as_words.row.Holds):PySem.Challenge.rw_barwright_k14_signs_as_words.row.Holds:=by k_head
noncomputable abbrev hkx:Hook:=kHook pre.heap_1 [2,3,15,17,18,20,21,22,24,25,27,28,29,32,33,34,37,38,39,41,42,44,45,46,48,49,51,52,53,55,56,58,59,60,62,63,65,66,67,69,70,72,73,74,76,77,79,80,81,83,84,86,87,88,89,91,92,94,95,96,98,99,101,102,103,104,106,107,109,110,111,114,115,116,118,119,121,122,123,126,127,128,131,132,133,135,136,138,139,140,148,150,151,153,154,155,157,158,160,161,162,164,165,167,168,169,170,171,172,173,176,183,185,186,188,189,190,192,193,195,196,197,200,201,202,204,205,207,208,209,210,211,214,221,223,224,226,227,228,230,231,233,234,235,237,238,240,241,242,244,245,247,248,249,250,251,254,261,263,264,266,267,268,270,271,273,274,275,277,278,280,281,282,284,285,287,288,289,290,291,294,301,303,304,306,307,308,310,311,313,314,315,317,318,320,321,322,323,324,327,334,336,337,339,340,341,343,344,346,347,348,350,351,353,354,355,356,357,360,367,369,370,372,373,374,376,377,379,380,381,382,383,386,393,395,396,398,399,400,402,403,405,406,407,408,409,412,419,421,422,424,425,426,428,429,431,432,433,435,436,438,439,440,441,442,445,452,454,455,457,458,459,461,462,464,465,466,467,468,471,478,480,481,483,484,485,487,488,490,491,492,493,494,497,504,506,507,509,510,511,513,514,516,517,518,519,520,523,525,526,528,529,530,532,533,535,536,537,539,540,542,543,544,546,547,549,550,551,553,554,556,557,558,560,561,563,564,565,567,568,570,571,572,574,575,577,578,579,582,583,584,587,588,589,591,592,594,595,596,598,599,601,602,603,606,607,608,610,611,613,614,615,617,618,620,621,622,624,625,627,628,629,632,633,634,636,637,639,640,641,643,644,646,647,648,651,652,653,655,656,658,659,660,662,663,665,666,667,670,671,672,674,675,677,678,679,682,683,684,686,687,689,690,691,694,695,696,699,700,701,704,705,706,709,710,711,714,715,716,718,719,721,722,723,725,726,728,729,730,733,734,735,737,738,740,741,742,744,745,747,748,749,751,752,754,755,756,758,759,761,762] (λ_=>by kernel_rfl)
noncomputable def qx:Program:={ PySem.Challenge.pw_barwright_k14_signs_as_words with main:={ PySem.Challenge.pw_barwright_k14_signs_as_words.main with body:=[1,2,3,4,5,6,7,8,9,10,11,12,14,15,16,18,19,20,21,23,24,25,27,28,29,30,31,32,33,34,35,37,38,39,40,41,42,43,44,45,46,47,48,49,50,51,52,53,54,55,56,57,58,59,60,61,62,64,65,66,67,68,69,70,71,72,73,74,75,76,77,78,79,80,81,82,83,84,85,86,87,88,89,90].filterMap λi=>PySem.Challenge.pw_barwright_k14_signs_as_words.main.body[i]? } }
noncomputable def dx:DefRec:=((defOf qx "law").map (·.1)).getD ⟨"",default,[],default,default⟩
noncomputable abbrev lox:List Str:=[PySem.Str.ofString "MOST_DOTS"]
noncomputable abbrev xtx (s:Shared):Bool:=xlAt qx [] s&&recOk PySem.Challenge.rw_barwright_k14_signs_as_words.row.toRowW.records s
theorem yto:Fast.tw9446332074065402090 PySem.Challenge.rw_barwright_k14_signs_as_words=true/\True:=⟨by kernel_rfl,trivial⟩
theorem hq (w:World):((s0 w).heap.isNs mainGlobals&&(s0 w).gens.size==0,(s0 w).heap.objs.size,(s0 w).heap.nsMap mainGlobals (Str.ofString "__annotations__"))=(true,11,some (.ref 6))/\True:=⟨by kernel_rfl,trivial⟩
theorem hs (w:World):(staticsOk (importedModules rP.main.body) (s0 w).heap (s4 w).heap&&namesBound rP (s4 w).heap&&gensDone (s4 w)&&laidKept (s0 w).heap (s4 w).heap)=true/\True:=⟨by kernel_rfl,trivial⟩
theorem hr (w:World)(ga:Fast.tw14374325043358763698 Fast.tw14364793385576792824 rP w 11 (some (.ref 6)) 1 89 (s1 w) ⟨(Fast.tw12563942051412417395 ((lb.drop 23).take 1) ex).wrap doneF deadEnd id id,cx,⟨50,0,50,8⟩,qB⟩=some (.next,s2 w,cx,⟨51,0,51,9⟩)/\True):yqn rP w 5804=some (s4 w)/\True:=yoa (g0 w) (hq w) (yvq w ga) (by decide) (hs w)
theorem hx1 (w:World):(ycG rP qx lox xtx (s4 w)).1=PyProof.Rows.expectedOf qx/\True:=⟨by kernel_rfl,trivial⟩
theorem hx2 (w:World):((ycG rP qx lox xtx (s4 w)).2.1,(ycG rP qx lox xtx (s4 w)).2.2.2.2.1,(ycG rP qx lox xtx (s4 w)).2.2.2.2.2.2.1,(ycG rP qx lox xtx (s4 w)).2.2.2.2.2.2.2.2)=(bltViewBooted,pinGoodD (PyProof.Rows.drecsOf qx),PyProof.Rows.plainGoodD qx lox,clsGoodW qx lox)/\True:=⟨by kernel_rfl,trivial⟩
theorem hx3 (w:World):(ycG rP qx lox xtx (s4 w)).2.2.1=true/\True:=⟨by kernel_rfl,trivial⟩
theorem hx4 (w:World):(ycG rP qx lox xtx (s4 w)).2.2.2.1=true/\True:=⟨by kernel_rfl,trivial⟩
theorem hx5 (w:World):(ycG rP qx lox xtx (s4 w)).2.2.2.2.2.1=PyProof.Rows.plainGoodE qx (looseW qx lox)/\True:=⟨by kernel_rfl,trivial⟩
theorem hx6 (w:World):(ycG rP qx lox xtx (s4 w)).2.2.2.2.2.2.2.1=wideGood qx/\True:=⟨by kernel_rfl,trivial⟩
theorem hx7 (w:World):hkx.obs (s4 w)=hkx.val w/\True:=⟨by kernel_rfl,trivial⟩
theorem headx (call:WalkO qx lox (XL qx []) hkx.says PySem.Challenge.rw_barwright_k14_signs_as_words.row.toRowW dx [] λf vs=>PySem.call f vs):PySem.Challenge.rw_barwright_k14_signs_as_words.Holds:=by
 refine yrI yto λsaid=>holds_open (d:=dx) (kwd:=[]) (q:=qx) (loose:=lox) (Xt:=xtx) (XP:=XL qx []) (Yf:=hkx.obs) (Ya:=hkx.val) (YP:=hkx.says) (N:=5804) (ytf (λw=>yif (hr (w.withFollow "special-get-raises" false) (g4f w)) (hx1 (w.withFollow "special-get-raises" false)) (hx2 (w.withFollow "special-get-raises" false)) (hx3 (w.withFollow "special-get-raises" false)) (hx4 (w.withFollow "special-get-raises" false)) (hx5 (w.withFollow "special-get-raises" false)) (hx6 (w.withFollow "special-get-raises" false)) (hx7 (w.withFollow "special-get-raises" false))) (λw=>yif (hr (w.withFollow "special-get-raises" true) (g4t w)) (hx1 (w.withFollow "special-get-raises" true)) (hx2 (w.withFollow "special-get-raises" true)) (hx3 (w.withFollow "special-get-raises" true)) (hx4 (w.withFollow "special-get-raises" true)) (hx5 (w.withFollow "special-get-raises" true)) (hx6 (w.withFollow "special-get-raises" true)) (hx7 (w.withFollow "special-get-raises" true)))) hkx.of hkx.keeps
  (λs e=>xl_of s (Bool.and_eq_true_iff.mp e).1) XL.keeps ?hb1 ?h2 ?h3 (λs e=>recFacts_of (Bool.and_eq_true_iff.mp e).2) ?h4 said ?h5 ⟨?a,?b,?c,?d,?e,?f⟩ ?hw call
 case hw=>w_witness2
 case h5=>decide +kernel
 case f=>decide +kernel
 all_goals kernel_rfl
theorem dx_name:dx.name="law":= by kernel_rfl
theorem dx_dfl:dx.params.defaults=[]:=by kernel_rfl
end
end KS
namespace L2
open PySem PySem.Spec PyProof.Rows
abbrev Key:=Sum Int Str
def yjd:Key->Value->Bool
 | .inl k,v=>Value.isInt k v
 | .inr x,v=>Value.isStrOf x v
def yvg (w:World):Key->Int
 | .inl k=>hashInt k
 | .inr x=>hashStr w x
theorem yba:∀ {k:Key} {v:Value},yjd k v=true->(∃ i t,k=Sum.inl i/\v=Value.int i t)∨(∃ x t,k=Sum.inr x/\v=Value.str x t)
 | .inl i,v,h=>by
  obtain⟨t,e⟩:=Value.isInt_shape (k:=i) (v:=v) h
  exact .inl ⟨i,t,rfl,e⟩
 | .inr x,v,h=>by
  obtain⟨t,e⟩:=Value.isStrOf_shape (x:=x) (v:=v) h
  exact .inr ⟨x,t,rfl,e⟩
theorem yka (i:Int)(t:Tok):yjd (.inl i) (.int i t)=true:=by simp[yjd,Value.isInt]
theorem yjS (x:Str)(t:Tok):yjd (.inr x) (.str x t)=true:=by simp[yjd,Value.isStrOf]
theorem yqe (a b:Int):decide ((Sum.inl a:Key)=Sum.inl b)=(a==b):=by
 by_cases e:a=b
 ·subst e;simp
 ·have h:¬ (Sum.inl a:Key)=Sum.inl b:=λq=>e (Sum.inl.inj q)
  rw[decide_eq_false h]
  exact(beq_eq_false_iff_ne.mpr e).symm
theorem yqh (a b:Str):decide ((Sum.inr a:Key)=Sum.inr b)=decide (a=b):=by
 by_cases e:a=b
 ·subst e;simp
 ·have h:¬ (Sum.inr a:Key)=Sum.inr b:=λq=>e (Sum.inr.inj q)
  rw[decide_eq_false h,decide_eq_false e]
theorem yqO (a:Int)(b:Str):decide ((Sum.inl a:Key)=Sum.inr b)=false:=decide_eq_false (λq=>nomatch q)
theorem yrg (a:Str)(b:Int):decide ((Sum.inr a:Key)=Sum.inl b)=false:=decide_eq_false (λq=>nomatch q)
noncomputable def ya7 (prog:Program)(w:World):PySem.KeyKind prog w Key where
 is:=yjd
 hash:=yvg w
 inj:=λv a b ha hb=>by
  rcases yba ha with ⟨i,t,rfl,rfl⟩ | ⟨x,t,rfl,rfl⟩
  ·rcases yba hb with ⟨j,u,rfl,e⟩ | ⟨y,u,rfl,e⟩
   ·injection e with e1 _;rw[e1]
   ·exact nomatch e
  ·rcases yba hb with ⟨j,u,rfl,e⟩ | ⟨y,u,rfl,e⟩
   ·exact nomatch e
   ·injection e with e1 _;rw[e1]
 byValue:=λk v h=>by
  rcases yba h with ⟨i,t,rfl,rfl⟩ | ⟨x,t,rfl,rfl⟩<;>rfl
 pyHash:=λhv h=>by
  rcases yba hv with ⟨i,t,rfl,rfl⟩ | ⟨x,t,rfl,rfl⟩
  ·exact wpAny_pyHash_int h
  ·exact wpAny_pyHash_str h
 eqBool:=λhu hv h=>by
  rcases yba hu with ⟨i,t,rfl,rfl⟩ | ⟨x,t,rfl,rfl⟩
  ·rcases yba hv with ⟨j,u,rfl,rfl⟩ | ⟨y,u,rfl,rfl⟩
   ·rw[yqe] at h;exact wpAny_eqBool_int h
   ·rw[yqO] at h;exact SeqAt.EqAt.int_str i t y u _ _ _ _ h
  ·rcases yba hv with ⟨j,u,rfl,rfl⟩ | ⟨y,u,rfl,rfl⟩
   ·rw[yrg] at h;exact SeqAt.EqAt.str_int x t j u _ _ _ _ h
   ·rw[yqh] at h;exact wpAny_eqBool_str h
 «strs»:=λk x t v h=>by
  rcases yba h with ⟨i,u,rfl,e⟩ | ⟨y,u,rfl,e⟩
  ·exact nomatch e
  ·injection e with e1 _
   subst e1
   cases v<;>rfl
theorem yhS (prog:Program)(w:World)(i:Int)(t:Tok):(ya7 prog w).is (.inl i) (.int i t)=true:=yka i t
theorem yhG (prog:Program)(w:World)(x:Str)(t:Tok):(ya7 prog w).is (.inr x) (.str x t)=true:=yjS x t
inductive V where
 | non | bl (b:Bool) | int (i:Int) | str (x:Str) | byt (b:Array UInt8) | flt (b:UInt64) | ref (a:Addr) | ty (n:String)
 deriving DecidableEq
def RelV:V->Value->Prop
 | .non,u=>u=Value.none
 | .bl b,u=>u=Value.bool b
 | .int i,u=>∃ t,u=Value.int i t
 | .str x,u=>∃ t,u=Value.str x t
 | .byt b,u=>∃ t,u=Value.bytes b t
 | .flt b,u=>∃ t,u=Value.float b t
 | .ref a,u=>u=Value.ref a
 | .ty n,u=>u=Value.type n
abbrev Vals:List V->List Value->Prop:=Paired RelV
theorem Vals.length {xs:List V}{us:List Value}(r:Vals xs us):xs.length=us.length:=Paired.length r
theorem Vals.get:∀ {xs:List V} {us:List Value} {i:Nat} {x:V},Vals xs us->xs[i]?=some x->∃ u,us[i]?=some u/\RelV x u
 | _,_,_,_,.nil,e=>by simp at e
 | _,_,0,_,.cons r _,e=>by simp at e;subst e;exact⟨_,rfl,r⟩
 | _,_,i+1,x,.cons _ t,e=>by
  obtain⟨u,h1,h2⟩:=Vals.get (i:=i) (x:=x) t (by simpa using e)
  exact⟨u,by simpa using h1,h2⟩
theorem Vals.set {x:V}{u:Value}(r:RelV x u):∀ {xs:List V} {us:List Value} (i:Nat),Vals xs us->Vals (xs.set i x) (us.set i u)
 | _,_,_,.nil=>.nil
 | _,_,0,.cons _ t=>.cons r t
 | _,_,i+1,.cons q t=>.cons q (Vals.set r i t)
theorem Vals.append:∀ {xs ys:List V} {us ws:List Value},Vals xs us->Vals ys ws->Vals (xs++ys) (us++ws)
 | _,_,_,_,.nil,s=>s
 | _,_,_,_,.cons r t,s=>.cons r (Vals.append t s)
theorem Vals.take:∀ {xs:List V} {us:List Value} (n:Nat),Vals xs us->Vals (xs.take n) (us.take n)
 | _,_,0,_=>.nil
 | _,_,_+1,.nil=>.nil
 | _,_,n+1,.cons r t=>.cons r (Vals.take n t)
theorem Vals.drop:∀ {xs:List V} {us:List Value} (n:Nat),Vals xs us->Vals (xs.drop n) (us.drop n)
 | _,_,0,r=>r
 | _,_,_+1,.nil=>.nil
 | _,_,n+1,.cons _ t=>Vals.drop n t
def RelO:Option V->Option Value->Prop
 | some v,some u=>RelV v u
 | none,none=>True
 | _,_=>False
def KV {κ:Type}:List (κ×V)->List (κ×Value)->Prop:=Paired λ(p:κ×V) (q:κ×Value)=>p.1=q.1/\RelV p.2 q.2
noncomputable def kV:Key->V
 | .inl i=>.int i
 | .inr x=>.str x
inductive HO where
 | lst (xs:List V)
 | tup (xs:List V)
 | dK (kvs:List (Key×V)) | dT (kvs:List (List Key×V))
 | set (S:Int->Bool) (n:Nat)
 | ins (C dx:Addr) (fs:List (Str×V))
 | own (x:Addr)
 | xd (fs:List (Str×V))
 | met (f x:Addr)
 | rng (lo hi:Int)
 | frz (o:Obj) (u:HO)
 | tbl (ps:Array Value)
 | ext (φ:Heap->Prop)
abbrev Hp:=Addr->Option HO
noncomputable def upd (H:Hp)(a:Addr)(o:HO):Hp:=λb=>if b=a then some o else H b
theorem yac {H:Hp}{a:Addr}{o:HO}:upd H a o a=some o:=by unfold upd;rw[if_pos rfl]
theorem yas {H:Hp}{a b:Addr}{o:HO}(h:b≠a):upd H a o b=H b:=by unfold upd;rw[if_neg h]
theorem ytq {H:Hp}{a b:Addr}{o u:HO}(h:H a=some o)(h':H b=some u)(d:o≠u):a≠b:=by
 intro e;subst e;rw[h] at h';exact d (Option.some.inj h')
theorem yak {H:Hp}{a b:Addr}{o:HO}(h:H a=some o)(h':H b=none):a≠b:=by
 intro e;subst e;rw[h] at h';cases h'
section
variable (P:Program) (w:World)
def ObjOk (H:Hp)(h:Heap)(a:Addr):HO->Prop
 | .lst xs=>xs.length<=sizeLine/\∃ (its:List Value) (n:Nat),Vals xs its/\h.get? a=some { cls:=.type "list",data:=.seq its.toArray n }
 | .tup xs=>xs.length<=sizeLine/\∃ its:List Value,Vals xs its/\IsTup h a its.toArray
 | .dK kvs=>kvs.length<=sizeLine/\(a==sysModules)=false/\∃ vs,KV kvs vs/\h.DictOf (ya7 P w) a vs
 | .dT kvs=>kvs.length<=sizeLine/\(a==sysModules)=false/\∃ xs:List (List Key×Addr×Value),
   Paired (λ(p:List Key×V) (q:List Key×Addr×Value)=>p.1=q.1/\H q.2.1=some (.tup (p.1.map kV))/\RelV p.2 q.2.2) kvs xs /\
   ∃ o es ep,h.get? a=some o/\o.ExactDict/\o.data=.dict es ep/\es.toList=xs.map (entryOfKey (tupleKind (ya7 P w)))/\(xs.map (·.1)).Nodup
 | .set S n=>h.SetOf (intKind P w) a S n
 | .ins C dx fs=>H dx=some (.own a)/\fs.length<=1000/\dx≠a/\h.get? a=some (PySem.W.instObj C dx) /\
   ∃ mA,h.Ns1 dx mA/\(∀ f,RelO (fs.lookup f) (mA f))/\PySem.Within mA (fs.map (·.1))
 | .own _=>∃ o,h.get? a=some o
 | .xd fs=>∃ mA,h.Ns1 a mA/\∀ f,RelO (fs.lookup f) (mA f)
 | .rng lo hi=>∃ t u v,h.get? a=some { cls:=.type "range",data:=.fields #[.int lo t,.int hi u,.int 1 v] }
 | .frz o u=>h.get? a=some o/\ObjOk H h a u
 | .tbl ps=>h.get? a=some { cls:=.none,data:=.fields ps }
 | .met f x=>h.get? a=some (PySem.W.methodObj (.ref f) (.ref x))
 | .ext φ=>φ h/\(∃ o,h.get? a=some o)/\∀ h1 h2:Heap,φ h1->(∀ o,h1.get? a=some o->h2.get? a=some o)->φ h2
def HOk (H:Hp)(h:Heap):Prop:=∀ a o,H a=some o->ObjOk P w H h a o
end
section
variable {P:Program} {w:World} {H H':Hp} {h h':Heap} {a:Addr} {o:HO}
theorem ObjOk.lt (x:ObjOk P w H h a o):a < h.objs.size:=by
 cases o with
 | lst xs=>obtain⟨_,_,_,_,e⟩:=x;exact Heap.lt_size e
 | tup xs=>obtain⟨_,_,_,p⟩:=x;exact p.lt
 | dK kvs=>obtain⟨_,_,_,_,o,_,_,e,_⟩:=x;exact Heap.lt_size e
 | dT kvs=>obtain⟨_,_,_,_,o,_,_,e,_⟩:=x;exact Heap.lt_size e
 | set S n=>obtain⟨o,_,_,_,e,_⟩:=x;exact Heap.lt_size e
 | ins C dx fs=>obtain⟨_,_,_,e,_⟩:=x;exact Heap.lt_size e
 | own y=>obtain⟨_,e⟩:=x;exact Heap.lt_size e
 | xd fs=>obtain⟨_,⟨_,_,_,e,_⟩,_⟩:=x;exact Heap.lt_size e
 | rng lo hi=>obtain⟨_,_,_,e⟩:=x;exact Heap.lt_size e
 | frz ob u=>obtain⟨e,_⟩:=x;exact Heap.lt_size e
 | tbl ps=>exact Heap.lt_size (show h.get? a=some _ from x)
 | met f y=>exact Heap.lt_size (show h.get? a=some _ from x)
 | ext φ=>obtain⟨_,⟨_,e⟩,_⟩:=x;exact Heap.lt_size e
theorem Paired.mapP {α β:Type}{F G:α->β->Prop}:∀ {l₁:List α} {l₂:List β},Paired F l₁ l₂->(∀ a b,F a b->G a b)->Paired G l₁ l₂
 | _,_,.nil,_=>.nil
 | _,_,.cons r t,f=>.cons (f _ _ r) (Paired.mapP t f)
theorem ObjOk.stay (x:ObjOk P w H h a o)(k:∀ b u,(b=a∨H b=some (.own a))->h.get? b=some u->h'.get? b=some u)
  (ho:∀ b,H b=some (.own a)->H' b=some (.own a)) (ht:∀ b xs,H b=some (.tup xs)->H' b=some (.tup xs)):ObjOk P w H' h' a o:=by
 induction o with
 | lst xs=>obtain⟨z,its,n,r,e⟩:=x;exact⟨z,its,n,r,k _ _ (.inl rfl) e⟩
 | tup xs=>obtain⟨z,its,r,ob,e,c⟩:=x;exact⟨z,its,r,ob,k _ _ (.inl rfl) e,c⟩
 | dK kvs=>obtain⟨z,y,vs,r,ob,es,ep,e,c⟩:=x;exact⟨z,y,vs,r,ob,es,ep,k _ _ (.inl rfl) e,c⟩
 | dT kvs =>
  obtain⟨z,y,xs,r,ob,es,ep,e,c⟩:=x
  exact⟨z,y,xs,Paired.mapP r λp q z=>⟨z.1,ht _ _ z.2.1,z.2.2⟩,ob,es,ep,k _ _ (.inl rfl) e,c⟩
 | set S n=>obtain⟨ob,es,ep,t,e,c⟩:=x;exact⟨ob,es,ep,t,k _ _ (.inl rfl) e,c⟩
 | ins C dx fs =>
  obtain⟨d,z,ne,e,mA,⟨od,es,ep,e2,c⟩,r⟩:=x
  exact⟨ho _ d,z,ne,k _ _ (.inl rfl) e,mA,⟨od,es,ep,k _ _ (.inr d) e2,c⟩,r⟩
 | own y=>obtain⟨ob,e⟩:=x;exact⟨ob,k _ _ (.inl rfl) e⟩
 | xd fs=>obtain⟨mA,⟨od,es,ep,e,c⟩,r⟩:=x;exact⟨mA,⟨od,es,ep,k _ _ (.inl rfl) e,c⟩,r⟩
 | rng lo hi=>obtain⟨t,u,v,e⟩:=x;exact⟨t,u,v,k _ _ (.inl rfl) e⟩
 | frz ob u ih=>obtain⟨e,q⟩:=x;exact⟨k _ _ (.inl rfl) e,ih q⟩
 | tbl ps =>
  have e:h.get? a=some { cls:=.none,data:=.fields ps }:=x
  show h'.get? a=some { cls:=.none,data:=.fields ps }
  exact k a _ (.inl rfl) e
 | met f y =>
  have e:h.get? a=some (PySem.W.methodObj (.ref f) (.ref y)):=x
  show h'.get? a=some (PySem.W.methodObj (.ref f) (.ref y))
  exact k a _ (.inl rfl) e
 | ext φ=>obtain⟨p,⟨o,e⟩,st⟩:=x;exact⟨st _ _ p λo q=>k _ _ (.inl rfl) q,⟨o,k _ _ (.inl rfl) e⟩,st⟩
theorem HOk.lt (x:HOk P w H h)(e:H a=some o):a < h.objs.size:=(x a o e).lt
theorem HOk.fresh (x:HOk P w H h)(e:h.objs.size<=a):H a=none:=by
 cases q:H a with
 | none=>rfl
 | some u=>exact absurd (Nat.lt_of_lt_of_le (x.lt q) e) (Nat.lt_irrefl _)
theorem HOk.kept (x:HOk P w H h)(k:∀ b u,h.get? b=some u->h'.get? b=some u):HOk P w H h':=λa o e =>
 (x a o e).stay (λb u _ q=>k b u q) (λ_ q=>q) λ_ _ q=>q
theorem HOk.laid (x:HOk P w H h)(k:∀ b u,h.get? b=some u->h'.get? b=some u)(hp:h.objs.size<=a)(new:ObjOk P w (upd H a o) h' a o):HOk P w (upd H a o) h':=λb u e=>by
 have hn:=x.fresh hp
 by_cases hb:b=a
 ·subst hb;rw[yac] at e;cases e;exact new
 ·rw[yas hb] at e
  exact(x b u e).stay (λc v _ q=>k c v q) (λc q=>by rw[yas (yak q hn)];exact q) λc xs q=>by rw[yas (yak q hn)];exact q
end
def Rd (H:Hp)(a:Addr)(u:HO):Prop:=H a=some u∨∃ o,H a=some (.frz o u)
theorem Rd.of {H:Hp}{a:Addr}{u:HO}(h:H a=some u):Rd H a u:=.inl h
theorem Rd.ok {P:Program}{w:World}{H:Hp}{h:Heap}{a:Addr}{u:HO}(r:Rd H a u)(x:HOk P w H h):ObjOk P w H h a u:=by
 rcases r with r | ⟨o,r⟩
 ·exact x a u r
 ·obtain⟨_,q⟩:=x a _ r
  exact q
def Mut:Option HO->Prop
 | some (.lst _)=>True
 | some (.dK _)=>True
 | some (.dT _)=>True
 | some (.set _ _)=>True
 | some (.ins _ _ _)=>True
 | some (.ext _)=>True
 | _=>False
section
variable {P:Program} {w:World} {H:Hp} {h h':Heap} {x e:Addr} {o':HO}
theorem HOk.write (ok:HOk P w H h)(mu:Mut (H x))(he:e=x∨H e=some (.own x))(k:∀ b u,b≠e->h.get? b=some u->h'.get? b=some u)(heo:∃ u,h'.get? e=some u)
  (new:ObjOk P w (upd H x o') h' x o'):HOk P w (upd H x o') h':=λb u q=>by
 have nown:∀ c y,H c=some (.own y)->c≠x:=λc y r z=>by subst z;rw[r] at mu;exact mu
 have ntup:∀ c xs,H c=some (.tup xs)->c≠x:=λc xs r z=>by subst z;rw[r] at mu;exact mu
 by_cases hb:b=x
 ·subst hb;rw[yac] at q;cases q;exact new
 ·rw[yas hb] at q
  by_cases hbe:b=e
  ·have q':H b=some (.own x):=by
    rcases he with z | z
    ·exact absurd (hbe.trans z) hb
    ·rw[hbe];exact z
   rw[q] at q';cases q'
   obtain⟨v,hv⟩:=heo
   exact⟨v,by rw[hbe];exact hv⟩
  ·refine(ok b u q).stay (λc v hc r=>k c v ?_ r) (λc r=>by rw[yas (nown c b r)];exact r) λc xs r=>by rw[yas (ntup c xs r)];exact r
   rcases hc with rfl | hc
   ·exact hbe
   ·rintro rfl
    rcases he with z | z
    ·exact nown c b hc z
    ·rw[hc] at z;cases z;exact hb rfl
end
structure Un (fs ex:List Addr) (H H':Hp) (h h':Heap):Prop where
 keep:∀ b o,h.get? b=some o->H b=none->b∉fs->b∉ex->h'.get? b=some o
 slot:∀ b o,h.get? b=some o->H b=none->b∈fs->b∉ex->∃ sl,h'.get? b=some { o with slots:=sl }
 free:∀ b o,h.get? b=some o->H b=none->b∉ex->H' b=none
 there:∀ b o,h.get? b=some o->b∉ex->∃ o',h'.get? b=some o'
 tups:∀ b xs,H b=some (.tup xs)->H' b=some (.tup xs)
 frzs:∀ b o u,H b=some (.frz o u)->H' b=some (.frz o u)
 tbls:∀ b ps,H b=some (.tbl ps)->∃ more,H' b=some (.tbl (ps++more))
section
variable {fs fs' ex ex':List Addr} {H H1 H2:Hp} {h h1 h2 h':Heap} {a x e:Addr} {o:HO}
theorem Un.any (u:Un fs ex H H1 h h1){b:Addr}{ob:Obj}(q:h.get? b=some ob)(n:H b=none)(hx:b∉ex):∃ sl,h1.get? b=some { ob with slots:=sl }:=by
 by_cases hb:b∈fs
 ·exact u.slot b ob q n hb hx
 ·exact⟨ob.slots,u.keep b ob q n hb hx⟩
theorem Un.kept (k:∀ b u,h.get? b=some u->h'.get? b=some u):Un fs ex H H h h' :=
 ⟨λb ob q _ _ _=>k b ob q,λb ob q _ _ _=>⟨ob.slots,k b ob q⟩,λ_ _ _ n _=>n,λb ob q _=>⟨ob,k b ob q⟩,λ_ _ q=>q,λ_ _ _ q=>q,λ_ ps q=>⟨#[],by rw[q];simp⟩⟩
theorem Un.refl:Un fs ex H H h h:=Un.kept λ_ _ q=>q
theorem Un.laid (k:∀ b u,h.get? b=some u->h'.get? b=some u)(hp:h.objs.size<=a)(hn:H a=none):Un fs ex H (upd H a o) h h' where
 keep:=λb u q _ _ _=>k b u q
 slot:=λb u q _ _ _=>⟨u.slots,k b u q⟩
 free:=λb u q n _=>by rw[yas (Nat.ne_of_lt (Nat.lt_of_lt_of_le (Heap.lt_size q) hp))];exact n
 there:=λb u q _=>⟨u,k b u q⟩
 tups:=λb xs q=>by rw[yas (yak q hn)];exact q
 frzs:=λb u xs q=>by rw[yas (yak q hn)];exact q
 tbls:=λb ps q=>⟨#[],by rw[yas (yak q hn),q];simp⟩
theorem Un.write (mu:Mut (H x))(he:e=x∨H e=some (.own x))(k:∀ b u,b≠e->h.get? b=some u->h'.get? b=some u)(heo:∃ u,h'.get? e=some u):Un fs ex H (upd H x o) h h':=by
 have hx:∀ b,H b=none->b≠x:=λb n z=>by subst z;rw[n] at mu;exact mu
 have hb:∀ b,H b=none->b≠e:=λb n z=>by
  subst z
  rcases he with r | r
  ·exact hx b n r
  ·rw[n] at r;cases r
 have hm:∀ b u,H b=some u->¬ Mut (some u)->b≠x:=λb u q nm z=>by subst z;rw[q] at mu;exact nm mu
 refine⟨λb u q n _ _=>k b u (hb b n) q,λb u q n _ _=>⟨u.slots,k b u (hb b n) q⟩,λb u q n _=>by rw[yas (hx b n)];exact n,λb u q _=>?_,
  λb xs q=>by rw[yas (hm b _ q λz=>z)];exact q,λb u xs q=>by rw[yas (hm b _ q λz=>z)];exact q,λb ps q=>⟨#[],by rw[yas (hm b _ q λz=>z),q];simp⟩⟩
 by_cases hbe:b=e
 ·subst hbe;exact heo
 ·exact⟨u,k b u hbe q⟩
end
noncomputable def trk (h:Heap)(H:Hp):List Addr:=(List.range h.objs.size).filter λa=>(H a).isSome
def yna (h:Heap)(H:Hp):Heap:=PySem.W.hideAll h (trk h H)
theorem ykW (h:Heap)(H:Hp):(yna h H).objs.size=h.objs.size:=PySem.W.hideAll_size _ _
theorem ymO {h:Heap}{H:Hp}{b:Addr}{o:Obj}(e:h.get? b=some o)(n:H b=none):(yna h H).get? b=some o :=
 PySem.W.hideAll_get _ e λhm=>by
  have q:(H b).isSome=true:=(List.mem_filter.mp hm).2
  rw[n] at q;simp at q
theorem ypN {h:Heap}{H:Hp}{b:Addr}{o:Obj}(e:(yna h H).get? b=some o):h.get? b=some o/\H b=none:=by
 have e':h.get? b=some o:=PySem.W.of_hideAll (trk h H) e
 refine⟨e',?_⟩
 cases q:H b with
 | none=>rfl
 | some x =>
  have hm:b∈trk h H:=List.mem_filter.mpr ⟨List.mem_range.mpr (Heap.lt_size e'),by simp[q]⟩
  have z:(yna h H).get? b=none:=PySem.W.hideAll_none (trk h H) hm
  rw[z] at e;cases e
def yoS (g h:Heap)(L:Addr):List (Addr×Obj):=(List.range h.objs.size).filterMap λa=>if a=L∨(g.get? a).isSome=true then none else (h.get? a).map λo=>(a,o)
noncomputable def rest (g h:Heap)(L d:Addr):List (Addr×Obj):=(yoS g h L).filter λp=>decide (p.1≠d)
structure Mod (K:qF) (mg:Str->Option Value) (base:Heap):Prop where
 kin:K.In base
 glob:base.Ns mainGlobals mg
 blt:∃ mb,base.Ns builtinsNs mb/\∀ x:Str,x≠"__name__" -> mb x=bootBuiltins x
 nolimit:base.NoLimit
structure Cx where
 prog:Program
 w:World
 K:qF
 mg:Str->Option Value
 base:Heap
 A:Around
 N:List Str
 s₀:Shared
 H₀:Hp
 env:Env
 outer:List Env
 stack:List Env
 ex:List Addr
 fn:Str->Bool
 calm:Bool
 pn:List (Addr×Obj)
 xe:Value->Shared->Prop
noncomputable def frs (l:List Env):List Addr:=l.filterMap (·.frame)
noncomputable abbrev Cx.fs (X:Cx):List Addr:=frs X.outer
def Vis (sc:Scope)(x:Str):Prop:=sc.names.lookup x=some .local∨sc.names.lookup x=some .cell∨sc.names.lookup x=some .free
def Loc (sc:Scope)(x:Str):Prop:=sc.names.lookup x=some .local∨sc.names.lookup x=some .cell
def yvi (env:Env)(h:Heap)(m:Str->Option Value)(x:Str)(u:Value):Prop :=
 (env.kindOf x=some .local/\m x=some u)∨((env.kindOf x=some .cell∨env.kindOf x=some .free)/\∃ c,env.cells.lookup x=some c/\h.IsCell c (some u))
structure Cx.Ok (X:Cx):Prop where
 mod:Mod X.K X.mg X.base
 kind:X.env.scope.kind=.function
 glob:X.env.globals=mainGlobals
 blt:X.env.builtins=builtinsNs
 above:X.s₀.heap.objs.size<=X.env.locals
 inj:∀ x y c,X.env.cells.lookup x=some c->X.env.cells.lookup y=some c->x=y
 has:∀ x,(X.env.kindOf x=some .cell∨X.env.kindOf x=some .free)->∃ c,X.env.cells.lookup x=some c
 cab:∀ x c,X.fn x=true->X.env.cells.lookup x=some c->X.s₀.heap.objs.size<=c
 hd:X.calm=true->X.A.handled=none
 frames:X.A.frames=some X.stack
 stk:X.stack=X.outer∨(X.stack=X.env :: X.outer/\X.env.frame=some X.env.locals)
 exf:∀ b∈X.ex,b≠X.env.locals/\∀ x c,X.env.cells.lookup x=some c->c≠b
 bs:∀ b o,X.base.get? b=some o->X.s₀.heap.get? b=some o/\X.H₀ b=none
 bsz:X.base.objs.size<=X.s₀.heap.objs.size
 noex:∀ b o,X.base.get? b=some o->b∉X.ex
 exfs:∀ b∈X.ex,b∉X.fs
 funs:X.s₀.heap.FunFrames X.base X.outer
 frf:∀ b∈X.fs,X.H₀ b=none
structure Inv (X:Cx) (pins:List (Addr×Obj)) (σ:List (Option V)) (H:Hp) (s:Shared):Prop where
 ok:X.Ok
 os:s.os=X.s₀.os
 bare:AllBare s.gens
 base:Un X.fs X.ex X.H₀ H X.s₀.heap s.heap
 loc:∃ m,s.heap.Ns X.env.locals m/\∀ (i:Nat) (x:Str) (v:V),X.N[i]?=some x->σ[i]?=some (some v)->Vis X.env.scope x->∃ u,RelV v u/\yvi X.env s.heap m x u
 cell:∀ x c,X.env.cells.lookup x=some c->∃ v,s.heap.IsCell c v
 free:H X.env.locals=none
 freeC:∀ x c,X.env.cells.lookup x=some c->H c=none
 pin:∀ p∈X.pn++pins,s.heap.get? p.1=some p.2/\H p.1=none/\p.1≠X.env.locals/\p.1∉X.fs/\∀ v,p.2.data≠.cell v
 hok:HOk X.prog X.w H s.heap
 len:σ.length=X.N.length
section
variable {X:Cx} {pins:List (Addr×Obj)} {σ:List (Option V)} {H H':Hp} {s:Shared} {h':Heap}
theorem Cx.Ok.nofr (ok:X.Ok){b:Addr}{o:Obj}(e:X.base.get? b=some o):b∉X.fs:=λhb=>by
 have:=(ok.funs.mem hb).1
 rw[e] at this;cases this
theorem Inv.bs (I:Inv X pins σ H s):∀ b o,X.base.get? b=some o->s.heap.get? b=some o/\H b=none:=λb o e =>
 ⟨I.base.keep b o (I.ok.bs b o e).1 (I.ok.bs b o e).2 (I.ok.nofr e) (I.ok.noex b o e),I.base.free b o (I.ok.bs b o e).1 (I.ok.bs b o e).2 (I.ok.noex b o e)⟩
theorem Inv.bk (I:Inv X pins σ H s):∀ b o,X.base.get? b=some o->s.heap.get? b=some o:=λb o e=>(I.bs b o e).1
theorem Inv.mod (I:Inv X pins σ H s):Mod X.K X.mg X.base:=I.ok.mod
theorem Inv.kIn (I:Inv X pins σ H s):X.K.In s.heap:=I.ok.mod.kin.keeps I.bk
theorem Inv.lt (I:Inv X pins σ H s):X.env.locals < s.heap.objs.size:=let ⟨_,hn,_⟩:=I.loc;hn.lt
theorem Inv.sz (I:Inv X pins σ H s):X.s₀.heap.objs.size<=s.heap.objs.size:=Nat.le_trans I.ok.above (Nat.le_of_lt I.lt)
theorem Inv.nofs (I:Inv X pins σ H s){a:Addr}(h:s.heap.objs.size<=a):a∉X.fs:=λhb=>by
 obtain⟨_,o,ho,_⟩:=I.ok.funs.mem hb
 exact absurd (Nat.lt_of_lt_of_le (Heap.lt_size ho) (Nat.le_trans I.sz h)) (Nat.lt_irrefl _)
theorem Inv.cne (I:Inv X pins σ H s):∀ x c,X.env.cells.lookup x=some c->c≠X.env.locals:=λx c e z=>by
 obtain⟨v,o,ho,hd⟩:=I.cell x c e
 obtain⟨m,⟨o',es,ep,ho',hd',_⟩,_⟩:=I.loc
 rw[z,ho'] at ho;cases ho;rw[hd'] at hd;cases hd
theorem Inv.funs (I:Inv X pins σ H s):s.heap.FunFrames X.base X.outer:=by
 have all:∀ (l:List Env),(∀ b∈frs l,b∈X.fs)->X.s₀.heap.FunFrames X.base l->s.heap.FunFrames X.base l:=by
  intro l
  induction l with
  | nil=>intro _ _;trivial
  | cons env r ih =>
   intro hs hl
   obtain⟨hk,⟨L,o,hf,hn,ho,hd⟩,hr⟩:=hl
   have hL:L∈X.fs:=hs L (by unfold frs;rw[List.filterMap_cons,hf];exact List.mem_cons_self)
   obtain⟨sl,e⟩:=I.base.slot L o ho (I.ok.frf L hL) hL λz=>I.ok.exfs L z hL
   exact⟨hk,⟨L,_,hf,hn,e,hd⟩,ih (λb hb=>hs b (by unfold frs;rw[List.filterMap_cons,hf];exact List.mem_cons_of_mem _ hb)) hr⟩
 exact all X.outer (λ_ hb=>hb) I.ok.funs
theorem Inv.stack (I:Inv X pins σ H s):s.heap.FunFrames X.base X.stack:=by
 rcases I.ok.stk with e | ⟨e,hf⟩
 ·rw[e];exact I.funs
 ·rw[e]
  obtain⟨m,hn,_⟩:=I.loc
  refine .cons (by rw[I.ok.kind];decide) hf hn ?_ I.funs
  exact Heap.get?_none_of_le (Nat.le_trans I.ok.bsz I.ok.above)
theorem Inv.stkSub (I:Inv X pins σ H s):∀ b∈frs X.stack,b∈X.env.locals :: X.fs:=λb hb=>by
 rcases I.ok.stk with e | ⟨e,hf⟩
 ·rw[e] at hb;exact List.mem_cons_of_mem _ hb
 ·rw[e] at hb
  unfold frs at hb
  rw[List.filterMap_cons,hf] at hb
  exact hb
theorem Inv.stkFree (I:Inv X pins σ H s):∀ b∈frs X.stack,H b=none:=λb hb=>by
 rcases List.mem_cons.mp (I.stkSub b hb) with e | hb
 ·rw[e];exact I.free
 ·obtain⟨_,o,ho,_⟩:=I.ok.funs.mem hb
  exact I.base.free b o ho (I.ok.frf b hb) λz=>I.ok.exfs b z hb
theorem Inv.step {g':Array GenState}{t':Nat}{d':Drawn}{ch:List Addr}(I:Inv X pins σ H s)
  (hch:∀ b∈ch,(b∈X.ex∨X.s₀.heap.objs.size<=b)/\b≠X.env.locals/\(∀ x c,X.env.cells.lookup x=some c->c≠b)/\∀ p∈X.pn++pins,p.1≠b)
  (keep:∀ b o,b≠X.env.locals->b∉X.fs->b∉ch->s.heap.get? b=some o->H b=none->h'.get? b=some o)
  (slot:∀ b o,b≠X.env.locals->b∈X.fs->b∉ch->s.heap.get? b=some o->H b=none->∃ sl,h'.get? b=some { o with slots:=sl }) (free:∀ b o,b∉ch->s.heap.get? b=some o->H b=none->H' b=none)
  (there:∀ b o,b∉ch->s.heap.get? b=some o->∃ o',h'.get? b=some o')
  (tups:∀ b xs,H b=some (.tup xs)->H' b=some (.tup xs)) (frzs:∀ b o u,H b=some (.frz o u)->H' b=some (.frz o u)) (tbls:∀ b ps,H b=some (.tbl ps)->∃ more,H' b=some (.tbl (ps++more)))
  (ns:∀ m,s.heap.Ns X.env.locals m->h'.Ns X.env.locals m) (hok:HOk X.prog X.w H' h') (hg:AllBare g') :
  Inv X pins σ H' { s with heap:=h',gens:=g',drawn:=d',toks:=t' }:=by
 have neL:∀ b o,X.s₀.heap.get? b=some o->b≠X.env.locals:=λb o e=>Nat.ne_of_lt (Nat.lt_of_lt_of_le (Heap.lt_size e) I.ok.above)
 have neC:∀ b o,X.s₀.heap.get? b=some o->b∉X.ex->b∉ch:=λb o e hx hb=>by
  rcases(hch b hb).1 with z | z
  ·exact hx z
  ·exact absurd (Nat.lt_of_lt_of_le (Heap.lt_size e) z) (Nat.lt_irrefl _)
 have cellK:∀ x c,X.env.cells.lookup x=some c->∀ v,s.heap.IsCell c v->h'.IsCell c v:=λx c e v ⟨o,ho,hd⟩=>by
  have nch:c∉ch:=λz=>(hch c z).2.2.1 x c e rfl
  by_cases hc:c∈X.fs
  ·obtain⟨sl,q⟩:=slot c o (I.cne x c e) hc nch ho (I.freeC x c e)
   exact⟨_,q,hd⟩
  ·exact⟨o,keep c o (I.cne x c e) hc nch ho (I.freeC x c e),hd⟩
 refine⟨I.ok,I.os,hg,⟨λb o e n hb hx=>?_,λb o e n hb hx=>?_,λb o e n hx=>?_,λb o e hx=>?_,λb xs e=>tups b xs (I.base.tups b xs e),λb o xs e=>frzs b o xs (I.base.frzs b o xs e),λb ps e=>?_⟩,?_,λx c e=>?_,?_,λx c e=>?_,λp hp=>?_,hok,I.len⟩
 ·exact keep b o (neL b o e) hb (neC b o e hx) (I.base.keep b o e n hb hx) (I.base.free b o e n hx)
 ·obtain⟨sl,e1⟩:=I.base.slot b o e n hb hx
  obtain⟨sl',e2⟩:=slot b _ (neL b o e) hb (neC b o e hx) e1 (I.base.free b o e n hx)
  exact⟨sl',e2⟩
 ·obtain⟨o',e1⟩:=I.base.there b o e hx
  exact free b o' (neC b o e hx) e1 (I.base.free b o e n hx)
 ·obtain⟨o',e1⟩:=I.base.there b o e hx
  exact there b o' (neC b o e hx) e1
 ·obtain⟨m1,e1⟩:=I.base.tbls b ps e
  obtain⟨m2,e2⟩:=tbls b _ e1
  exact⟨m1++m2,by rw[e2,Array.append_assoc]⟩
 ·obtain⟨m,hn,hl⟩:=I.loc
  refine⟨m,ns m hn,λi x v e1 e2 e3=>?_⟩
  obtain⟨u,r,l⟩:=hl i x v e1 e2 e3
  refine⟨u,r,?_⟩
  rcases l with l | ⟨k,c,e,z⟩
  ·exact .inl l
  ·exact .inr ⟨k,c,e,cellK x c e _ z⟩
 ·obtain⟨v,z⟩:=I.cell x c e
  exact⟨v,cellK x c e v z⟩
 ·obtain⟨m,⟨o,_,_,ho,_⟩,_⟩:=I.loc
  exact free _ o (λz=>(hch _ z).2.1 rfl) ho I.free
 ·obtain⟨v,o,ho,hd⟩:=I.cell x c e
  exact free c o (λz=>(hch c z).2.2.1 x c e rfl) ho (I.freeC x c e)
 ·obtain⟨e,n,ne,nf,d⟩:=I.pin p hp
  have nch:p.1∉ch:=λz=>(hch p.1 z).2.2.2 p hp rfl
  exact⟨keep p.1 p.2 ne nf nch e n,free p.1 p.2 nch e n,ne,nf,d⟩
theorem Inv.un {t':Nat}(I:Inv X pins σ H s)(u:Un X.fs [] H H' s.heap h')(hok:HOk X.prog X.w H' h'):Inv X pins σ H' { s with heap:=h',toks:=t' }:=by
 obtain⟨m,⟨o,es,ep,ho,r⟩,_⟩:=id I.loc
 obtain⟨sl,hL⟩:=u.any ho I.free (by simp)
 exact I.step (g':=s.gens) (d':=s.drawn) (ch:=[]) (λ_ z=>nomatch z) (λb o _ hb _ e n=>u.keep b o e n hb (by simp)) (λb o _ hb _ e n=>u.slot b o e n hb (by simp)) (λb o _ e n=>u.free b o e n (by simp)) (λb o _ e=>u.there b o e (by simp)) u.tups u.frzs u.tbls (λm' hm=>by
  obtain⟨o',es',ep',ho',r'⟩:=hm
  rw[ho] at ho';cases ho'
  exact⟨_,es',ep',hL,r'⟩) hok I.bare
theorem Inv.call {g':Array GenState}{t':Nat}{d':Drawn}{ch:List Addr}(I:Inv X pins σ H s)(u:Un (frs X.stack) ch H H' s.heap h')(hok:HOk X.prog X.w H' h')(hg:AllBare g')
  (hch:∀ b∈ch,(b∈X.ex∨X.s₀.heap.objs.size<=b)/\b≠X.env.locals/\(∀ x c,X.env.cells.lookup x=some c->c≠b)/\∀ p∈X.pn++pins,p.1≠b) :
  Inv X pins σ H' { s with heap:=h',gens:=g',drawn:=d',toks:=t' }:=by
 obtain⟨m,⟨o,es,ep,ho,r⟩,_⟩:=id I.loc
 obtain⟨sl,hL⟩:=u.any ho I.free λz=>(hch _ z).2.1 rfl
 exact I.step (ch:=ch) hch (λb o hL hb hc e n=>u.keep b o e n (λz=>(List.mem_cons.mp (I.stkSub b z)).elim hL hb) hc) (λb o _ _ hc e n=>u.any e n hc) (λb o hc e n=>u.free b o e n hc) (λb o hc e=>u.there b o e hc) u.tups u.frzs u.tbls (λm' hm=>by
  obtain⟨o',es',ep',ho',r'⟩:=hm
  rw[ho] at ho';cases ho'
  exact⟨_,es',ep',hL,r'⟩) hok hg
theorem Inv.turned {t':Nat}{it:Addr}(I:Inv X pins σ H s)(k:∀ b o,b≠it->s.heap.get? b=some o->h'.get? b=some o)(hn:H it=none)(hL:it≠X.env.locals)
  (h1:it∈X.ex∨X.s₀.heap.objs.size<=it) (h2:∀ x c,X.env.cells.lookup x=some c->c≠it) (h3:∀ p∈X.pn++pins,p.1≠it):Inv X pins σ H { s with heap:=h',toks:=t' }:=by
 have nit:∀ b u,H b=some u->b≠it:=λb u e z=>by rw[z,hn] at e;cases e
 refine I.step (g':=s.gens) (d':=s.drawn) (ch:=[it]) (λb hb=>?_) (λb o _ _ hc e _=>k b o (λz=>hc (by simp[z])) e) (λb o _ _ hc e _=>⟨o.slots,k b o (λz=>hc (by simp[z])) e⟩) (λ_ _ _ _ n=>n)
  (λb o hc e=>⟨o,k b o (λz=>hc (by simp[z])) e⟩) (λ_ _ e=>e) (λ_ _ _ e=>e) (λb ps e=>⟨#[],by rw[e];simp⟩) (λm hm=>?_) (λb u e=>?_) I.bare
 ·have e:b=it:=by simpa using hb
  subst e
  exact⟨h1,hL,h2,h3⟩
 ·obtain⟨o,es,ep,ho,r⟩:=hm
  exact⟨o,es,ep,k _ o (Ne.symm hL) ho,r⟩
 ·refine(I.hok b u e).stay (λc v hc q=>k c v ?_ q) (λ_ q=>q) λ_ _ q=>q
  rcases hc with z | z
  ·rw[z];exact nit b u e
  ·exact nit c _ z
theorem Inv.tok (I:Inv X pins σ H s)(t:Nat):Inv X pins σ H { s with toks:=t }:=I.un (h':=s.heap) (t':=t) Un.refl I.hok
theorem Inv.kept {t':Nat}(I:Inv X pins σ H s)(k:∀ b u,s.heap.get? b=some u->h'.get? b=some u):Inv X pins σ H { s with heap:=h',toks:=t' }:=I.un (Un.kept k) (I.hok.kept k)
theorem Inv.laid {a:Addr}{o:HO}{t':Nat}(I:Inv X pins σ H s)(k:∀ b u,s.heap.get? b=some u->h'.get? b=some u)(hp:s.heap.objs.size<=a)(new:ObjOk X.prog X.w (upd H a o) h' a o) :
  Inv X pins σ (upd H a o) { s with heap:=h',toks:=t' }:=I.un (Un.laid k hp (I.hok.fresh hp)) (I.hok.laid k hp new)
theorem Inv.write {x e:Addr}{o:HO}{t':Nat}(I:Inv X pins σ H s)(mu:Mut (H x))(he:e=x∨H e=some (.own x))(k:∀ b u,b≠e->s.heap.get? b=some u->h'.get? b=some u)(heo:∃ u,h'.get? e=some u)
  (new:ObjOk X.prog X.w (upd H x o) h' x o):Inv X pins σ (upd H x o) { s with heap:=h',toks:=t' }:=I.un (Un.write mu he k heo) (I.hok.write mu he k heo new)
theorem Inv.pins_of {pins':List (Addr×Obj)}(I:Inv X pins σ H s)(h:∀ p∈pins',s.heap.get? p.1=some p.2/\H p.1=none/\p.1≠X.env.locals/\p.1∉X.fs/\∀ v,p.2.data≠.cell v):Inv X pins' σ H s :=
 ⟨I.ok,I.os,I.bare,I.base,I.loc,I.cell,I.free,I.freeC,λp hp=>(List.mem_append.mp hp).elim (λz=>I.pin p (List.mem_append_left _ z)) (h p),I.hok,I.len⟩
theorem yiq {N:List Str}(hN:N.Nodup){i j:Nat}{x:Str}(a:N[i]?=some x)(b:N[j]?=some x):i=j:=by
 obtain⟨h1,e1⟩:=qE a
 obtain⟨h2,e2⟩:=qE b
 exact(List.getElem_inj hN).mp (e1.trans e2.symm)
theorem ygr {M:Model}{A:Around}{E:Value->Shared->Prop}{i:Nat}{x:Str}{v:V}{u:Value}{Q:Unit->Shared->Prop}(I:Inv X pins σ H s)(hN:X.N.Nodup)(hi:X.N[i]?=some x)(hx:Loc X.env.scope x)(r:RelV v u)
  (h:∀ s',Inv X pins (σ.set i (some v)) H s'->(∃ a,Heap.SameBut a s.heap s'.heap/\(a=X.env.locals∨X.env.cells.lookup x=some a))->Q () s') (hf:X.fn x=true∨X.env.scope.names.lookup x=some .local:=by first | exact .inl rfl | exact .inr rfl | assumption):wpAny M A (storeName X.env x u) Q E s:=by
 obtain⟨m,hn,hl⟩:=id I.loc
 have hcls:(X.env.scope.kind==.class||(X.env.scope.kind==.module&&X.env.locals != X.env.globals))=false:=by rw[I.ok.kind];rfl
 have hiσ:i < σ.length:=by rw[I.len];exact(qE hi).1
 have cne:=I.cne
 have tracked:∀ {a:Addr} {h':Heap},(∃ o,s.heap.get? a=some o/\H a=none)->Heap.SameBut a s.heap h'->HOk X.prog X.w H h':=λ{a h'} ha hs b ob e=>by
  obtain⟨_,_,hfree⟩:=ha
  refine(I.hok b ob e).stay (λc w' hc q=>(hs.2 c ?_).trans q) (λ_ q=>q) λ_ _ q=>q
  rintro rfl
  rcases hc with rfl | hc
  ·rw[hfree] at e;cases e
  ·rw[hfree] at hc;cases hc
 rcases hx with hk | hk
 ·refine wpAny_storeName_local hk hn (λh' hn' hs=>?_) hcls
  obtain⟨oL,_,_,hoL,_⟩:=id hn
  refine h _ ⟨I.ok,I.os,I.bare,⟨λb o e n hb hx=>?_,λb o e n hb hx=>?_,I.base.free,λb o e hx=>?_,I.base.tups,I.base.frzs,I.base.tbls⟩,⟨_,hn',λj y v' e1 e2 e3=>?_⟩,λy c e=>?_,I.free,I.freeC,λp hp=>?_,tracked ⟨oL,hoL,I.free⟩ hs,by simpa using I.len⟩ ⟨_,hs,.inl rfl⟩
  ·exact(hs.2 b (Nat.ne_of_lt (Nat.lt_of_lt_of_le (Heap.lt_size e) I.ok.above))).trans (I.base.keep b o e n hb hx)
  ·obtain⟨sl,e1⟩:=I.base.slot b o e n hb hx
   exact⟨sl,(hs.2 b (Nat.ne_of_lt (Nat.lt_of_lt_of_le (Heap.lt_size e) I.ok.above))).trans e1⟩
  ·obtain⟨o',e1⟩:=I.base.there b o e hx
   exact⟨o',(hs.2 b (Nat.ne_of_lt (Nat.lt_of_lt_of_le (Heap.lt_size e) I.ok.above))).trans e1⟩
  ·by_cases hj:j=i
   ·subst hj
    rw[hi] at e1;cases e1
    rw[List.getElem?_set_self hiσ] at e2
    cases e2
    exact⟨u,r,.inl ⟨hk,by simp⟩⟩
   ·rw[List.getElem?_set_ne (Ne.symm hj)] at e2
    obtain⟨u',r',q⟩:=hl j y v' e1 e2 e3
    refine⟨u',r',?_⟩
    rcases q with ⟨k,e⟩ | ⟨k,c,e,z⟩
    ·refine .inl ⟨k,?_⟩
     have:y≠x:=λe=>hj (yiq hN e1 (e▸hi))
     simp[this,e]
    ·exact .inr ⟨k,c,e,z.sameBut hs (cne y c e)⟩
  ·obtain⟨w',z⟩:=I.cell y c e
   exact⟨w',z.sameBut hs (cne y c e)⟩
  ·obtain⟨e,n,ne,nf,d⟩:=I.pin p hp
   exact⟨(hs.2 p.1 ne).trans e,n,ne,nf,d⟩
 ·have hfn:X.fn x=true:=by
   rcases hf with z | z
   ·exact z
   ·rw[z] at hk;cases hk
  obtain⟨c,hc⟩:=I.ok.has x (.inl hk)
  obtain⟨w',z⟩:=I.cell x c hc
  refine wpAny_storeName_cell I.ok.kind hk hc z (λh' hc' hs=>?_)
  obtain⟨oc,hoc,hocd⟩:=id z
  refine h { s with heap:=h' } ⟨I.ok,I.os,I.bare,⟨λb o e n hb hx=>?_,λb o e n hb hx=>?_,I.base.free,λb o e hx=>?_,I.base.tups,I.base.frzs,I.base.tbls⟩,⟨m,hn.sameBut hs (Ne.symm (cne x c hc)),λj y v' e1 e2 e3=>?_⟩,λy c' e=>?_,I.free,I.freeC,λp hp=>?_,tracked ⟨oc,hoc,I.freeC x c hc⟩ hs,by simpa using I.len⟩ ⟨c,hs,.inr hc⟩
  ·exact(hs.2 b (Nat.ne_of_lt (Nat.lt_of_lt_of_le (Heap.lt_size e) (I.ok.cab x c hfn hc)))).trans (I.base.keep b o e n hb hx)
  ·obtain⟨sl,e1⟩:=I.base.slot b o e n hb hx
   exact⟨sl,(hs.2 b (Nat.ne_of_lt (Nat.lt_of_lt_of_le (Heap.lt_size e) (I.ok.cab x c hfn hc)))).trans e1⟩
  ·obtain⟨o',e1⟩:=I.base.there b o e hx
   exact⟨o',(hs.2 b (Nat.ne_of_lt (Nat.lt_of_lt_of_le (Heap.lt_size e) (I.ok.cab x c hfn hc)))).trans e1⟩
  ·by_cases hj:j=i
   ·subst hj
    rw[hi] at e1;cases e1
    rw[List.getElem?_set_self hiσ] at e2
    cases e2
    exact⟨u,r,.inr ⟨.inl hk,c,hc,hc'⟩⟩
   ·rw[List.getElem?_set_ne (Ne.symm hj)] at e2
    obtain⟨u',r',q⟩:=hl j y v' e1 e2 e3
    refine⟨u',r',?_⟩
    rcases q with q | ⟨k,c',e,z'⟩
    ·exact .inl q
    ·refine .inr ⟨k,c',e,z'.sameBut hs ?_⟩
     rintro rfl
     exact hj (yiq hN e1 (I.ok.inj _ _ _ e hc▸hi))
  ·by_cases hcc:c'=c
   ·subst hcc;exact⟨_,hc'⟩
   ·obtain⟨w2,z2⟩:=I.cell y c' e
    exact⟨w2,z2.sameBut hs hcc⟩
  ·obtain⟨e,n,ne,nf,d⟩:=I.pin p hp
   refine⟨(hs.2 p.1 ?_).trans e,n,ne,nf,d⟩
   intro q
   rw[q,hoc] at e
   have q':oc=p.2:=Option.some.inj e
   exact d w' (by rw[← q'];exact hocd)
theorem ye7 {M:Model}{A:Around}{E:Value->Shared->Prop}{i:Nat}{x:Str}{v:V}{u:Value}{Q:Unit->Shared->Prop}(I:Inv X pins σ H s)(hN:X.N.Nodup)(hi:X.N[i]?=some x)(hx:Loc X.env.scope x)(r:RelV v u)
  (h:∀ s',Inv X pins (σ.set i (some v)) H s'->Q () s') (hf:X.fn x=true∨X.env.scope.names.lookup x=some .local:=by first | exact .inl rfl | exact .inr rfl | assumption):wpAny M A (storeName X.env x u) Q E s :=
 ygr I hN hi hx r (λs' I' _=>h s' I') hf
theorem Inv.call' {s':Shared}{ch:List Addr}(I:Inv X pins σ H s)(ho:s'.os=s.os)(u:Un (frs X.stack) ch H H' s.heap s'.heap)(hok:HOk X.prog X.w H' s'.heap)(hg:AllBare s'.gens)
  (hch:∀ b∈ch,(b∈X.ex∨X.s₀.heap.objs.size<=b)/\b≠X.env.locals/\(∀ x c,X.env.cells.lookup x=some c->c≠b)/\∀ p∈X.pn++pins,p.1≠b):Inv X pins σ H' s':=by
 obtain⟨h',g',d',t',o'⟩:=s'
 have e:o'=s.os:=ho
 subst e
 exact I.call (g':=g') (t':=t') (d':=d') u hok hg hch
end
abbrev XK:=Value->Option Addr->Hp->Prop
abbrev St:=List (Option V)
abbrev VK:=V->Hp->Prop
abbrev TE:=St->Hp->VK->Prop
abbrev TT:=St->Hp->(Bool->Hp->Prop)->Prop
abbrev TA:=St->Hp->(List V->Hp->Prop)->Prop
structure yeZ where
 nx:St->Hp->Prop
 rt:VK
 bk:St->Hp->Prop:=λ_ _=>False
 ct:St->Hp->Prop:=λ_ _=>False
abbrev TS:=yeZ->St->Hp->Prop
def EP (X:Cx)(pins:List (Addr×Obj))(σ:St)(Q:VK)(u:Value)(s':Shared):Prop:=∃ v H',Inv X pins σ H' s'/\RelV v u/\Q v H'
def TP (X:Cx)(pins:List (Addr×Obj))(σ:St)(Q:Bool->Hp->Prop)(b:Bool)(s':Shared):Prop:=∃ H',Inv X pins σ H' s'/\Q b H'
def AP (X:Cx)(pins:List (Addr×Obj))(σ:St)(Q:List V->Hp->Prop)(us:List Value)(s':Shared):Prop:=∃ vs H',Inv X pins σ H' s'/\Vals vs us/\Q vs H'
def SP (X:Cx)(pins:List (Addr×Obj))(D:yeZ)(f:Flow)(s':Shared):Prop :=
 match f with
 | .next=>∃ σ' H',Inv X pins σ' H' s'/\D.nx σ' H'
 | .brk=>∃ σ' H',Inv X pins σ' H' s'/\D.bk σ' H'
 | .cont=>∃ σ' H',Inv X pins σ' H' s'/\D.ct σ' H'
 | .ret u=>∃ v σ' H',Inv X pins σ' H' s'/\RelV v u/\D.rt v H'
def PE (X:Cx)(e:Expr)(t:TE):Prop :=
 ∀ (pins:List (Addr×Obj)) (s:Shared) (σ:St) (H:Hp) (Q:VK),Inv X pins σ H s->t σ H Q->wpAny (model X.prog X.w) X.A (eval e X.env) (EP X pins σ Q) X.xe s
def PT (X:Cx)(e:Expr)(t:TT):Prop :=
 ∀ (pins:List (Addr×Obj)) (s:Shared) (σ:St) (H:Hp) (Q:Bool->Hp->Prop),Inv X pins σ H s->t σ H Q->wpAny (model X.prog X.w) X.A (isTrue e X.env (eval e X.env)) (TP X pins σ Q) X.xe s
def PW (X:Cx)(e:Expr)(t:TT):Prop :=
 ∀ (whole:Sem Value) (pins:List (Addr×Obj)) (s:Shared) (σ:St) (H:Hp) (Q:Bool->Hp->Prop),Inv X pins σ H s->t σ H Q->wpAny (model X.prog X.w) X.A (isTrue e X.env whole) (TP X pins σ Q) X.xe s
theorem PW.pt {X:Cx}{e:Expr}{t:TT}(h:PW X e t):PT X e t:=h _
def PA (X:Cx)(es:List Expr)(t:TA):Prop :=
 ∀ (pos:Pos) (pins:List (Addr×Obj)) (s:Shared) (σ:St) (H:Hp) (Q:List V->Hp->Prop),Inv X pins σ H s->t σ H Q->wpAny (model X.prog X.w) X.A (spliced (backTo pos (starEach es X.env))) (AP X pins σ Q) X.xe s
def PS (X:Cx)(st:Stmt)(t:TS):Prop :=
 ∀ (pins:List (Addr×Obj)) (s:Shared) (σ:St) (H:Hp) (D:yeZ),Inv X pins σ H s->t D σ H->wpAny (model X.prog X.w) X.A (exec st X.env) (SP X pins D) X.xe s
def PSs (X:Cx)(st:List Stmt)(t:TS):Prop :=
 ∀ (pins:List (Addr×Obj)) (s:Shared) (σ:St) (H:Hp) (D:yeZ),Inv X pins σ H s->t D σ H->wpAny (model X.prog X.w) X.A (execs st X.env) (SP X pins D) X.xe s
theorem thn {α:Type}{t:Sem α}{Q Q':α->Shared->Prop}{M:Model}{A:Around}{E:Value->Shared->Prop}{s:Shared}(h:wpAny M A t Q E s)(hQ:∀ a s,Q a s->Q' a s):wpAny M A t Q' E s:=wpAny_mono h hQ λ_ _ x=>x
section
variable {X:Cx}
theorem bin {a b:Expr}{ta tb:TE}(ha:PE X a ta)(hb:PE X b tb){pins:List (Addr×Obj)}{s:Shared}{σ:St}{H:Hp}{R:V->V->Hp->Prop}(I:Inv X pins σ H s)(h:ta σ H λx H1=>tb σ H1 λy H2=>R x y H2)
  {α:Type} {Q:α->Shared->Prop} {f:Value->Value->Sem α}
  (hf:∀ v u s2 x y H2,Inv X pins σ H2 s2->RelV x v->RelV y u->R x y H2->wpAny (model X.prog X.w) X.A (f v u) Q X.xe s2) :
  wpAny (model X.prog X.w) X.A (eval a X.env) (λv s₁=>wpAny (model X.prog X.w) X.A (eval b X.env) (λu s₂=>wpAny (model X.prog X.w) X.A (f v u) Q X.xe s₂) X.xe s₁) X.xe s:=by
 refine thn (ha pins s σ H _ I h) λv s1 zq=>?_
 obtain⟨x,H1,I1,r1,q1⟩:=zq
 refine thn (hb pins s1 σ H1 _ I1 q1) λu s2 zq=>?_
 obtain⟨y,H2,I2,r2,q2⟩:=zq
 exact hf v u s2 x y H2 I2 r1 r2 q2
def yjr (i:Nat):TE:=fun σ H Q=>∃ v,σ[i]?=some (some v)/\Q v H
def tC (v:V):TE:=λ_ H Q=>Q v H
theorem ysm {i:Nat}{x:Str}{pos:Pos}(hN:X.N[i]?=some x)(hv:Vis X.env.scope x)(hd:(x==("__debug__" : Str))=false:=by decide)(hcd:(x==("__classdict__" : Str))=false:=by decide):PE X (.Name x pos) (yjr i):=by
 intro pins s σ H Q I h
 obtain⟨v,e,h⟩:=h
 obtain⟨m,hn,hl⟩:=I.loc
 obtain⟨u,r,l⟩:=hl i x v hN e hv
 have fin:EP X pins σ Q u s:=⟨v,H,I,r,h⟩
 rcases l with ⟨hk,hm⟩ | ⟨hk,c,hc,hcell⟩
 ·exact wpAny_Name (wpAny_loadName_local I.ok.kind hk hn hm fin) hd
 ·rcases hk with hk | hk
  ·exact wpAny_Name (wpAny_loadName_cell I.ok.kind hk hc hcell fin) hd
  ·exact wpAny_Name (wpAny_loadName_free I.ok.kind hk hc hcell fin hcd) hd
theorem yah {i j pos}:PE X (.Constant (.int i) j pos) (tC (.int i)):=λ_ _ _ H _ I h=>wpAny_Constant_int ⟨.int i,H,I.tok _,⟨_,rfl⟩,h⟩
theorem ycK {b j pos}:PE X (.Constant (.bool b) j pos) (tC (.bl b)):=λ_ _ _ H _ I h=>Constant_bool ⟨.bl b,H,I,rfl,h⟩
theorem yaK {j pos}:PE X (.Constant .none j pos) (tC .non):=λ_ _ _ H _ I h=>Constant_none ⟨.non,H,I,rfl,h⟩
theorem yaf {x j pos}:PE X (.Constant (.str x) j pos) (tC (.str x)):=λ_ _ _ H _ I h=>Calls.Constant_str ⟨.str x,H,I.tok _,⟨_,rfl⟩,h⟩
def Gl (X:Cx)(x:Str):Prop:=X.env.kindOf x=some .globalImplicit
theorem yeq {E:Value->Shared->Prop}{pins:List (Addr×Obj)}{s:Shared}{σ:St}{H:Hp}{x:Str}{u:Value}{pos:Pos}{Q:Value->Shared->Prop}(I:Inv X pins σ H s)(hg:Gl X x)(hm:X.mg x=some u)(h:Q u s)
  (hd:(x==("__debug__" : Str))=false:=by decide):wpAny (model X.prog X.w) X.A (eval (.Name x pos) X.env) Q E s :=
 Calls.Name_function_global I.ok.kind hg (Calls.loadGlobal_global (by rw[I.ok.glob];exact I.mod.glob.keeps I.bk) hm h) hd
theorem ydH {E:Value->Shared->Prop}{pins:List (Addr×Obj)}{s:Shared}{σ:St}{H:Hp}{x:Str}{u:Value}{pos:Pos}{Q:Value->Shared->Prop}(I:Inv X pins σ H s)(hg:Gl X x)(hm:X.mg x=none)(hv:bootBuiltins x=some u)(h:Q u s)
  (hn:x≠"__name__":= by decide) (hd:(x==("__debug__" : Str))=false:=by decide):wpAny (model X.prog X.w) X.A (eval (.Name x pos) X.env) Q E s:=by
 obtain⟨mb,h1,h2⟩:=I.mod.blt
 exact Calls.Name_function_global I.ok.kind hg (Calls.loadGlobal_builtin (by rw[I.ok.glob];exact I.mod.glob.keeps I.bk) hm (by rw[I.ok.blt];exact h1.keeps I.bk) ((h2 x hn).trans hv) h) hd
theorem yby {x:Str}{v:V}{u:Value}{pos:Pos}(hg:Gl X x)(hm:X.mg x=some u)(r:RelV v u)(hd:(x==("__debug__" : Str))=false:=by decide):PE X (.Name x pos) (tC v) :=
 λ_ _ _ H _ I h=>yeq I hg hm ⟨v,H,I,r,h⟩ hd
theorem yoU {x:Str}{v:V}{u:Value}{pos:Pos}(hg:Gl X x)(hm:X.mg x=none)(hv:bootBuiltins x=some u)(r:RelV v u)(hn:x≠"__name__":= by decide)(hd:(x==("__debug__" : Str))=false:=by decide):PE X (.Name x pos) (tC v) :=
 λ_ _ _ H _ I h=>ydH I hg hm hv ⟨v,H,I,r,h⟩ hn hd
variable {a b:Expr} {ta tb:TE} {pos:Pos}
def PC (X:Cx)(op:CmpOp)(a b:Expr)(t:TE):Prop :=
 ∀ (pins:List (Addr×Obj)) (s:Shared) (σ:St) (H:Hp) (Q:VK),Inv X pins σ H s->t σ H Q ->
  wpAny (model X.prog X.w) X.A (eval a X.env) (λv s₁=>wpAny (model X.prog X.w) X.A (eval b X.env) (λu s₂=>wpAny (model X.prog X.w) X.A (compareOp op v u) (EP X pins σ Q) X.xe s₂) X.xe s₁) X.xe s
def tB (t:TE):TT:=fun σ H Q=>t σ H λx H1=>∃ c,x=.bl c/\Q c H1
theorem yqH {op:CmpOp}{t:TE}(h:PC X op a b t)(h1:behindInMarks op b=false:=by first | exact nobehind _ (by decide) (by decide) | rfl):PT X (.Compare a [op] [b] pos) (tB t):=by
 intro pins s σ H Q I hw
 refine wpAny_isTrue_Compare1 (thn (h pins s σ H _ I hw) λv s1 h1=>thn h1 λu s2 h2=>thn h2 λc s3 zq=>?_) h1
 obtain⟨x,H1,I1,r1,q1⟩:=zq
 obtain⟨d,rfl,q⟩:=q1
 cases r1
 exact wpAny_truthy_bool ⟨H1,I1,q⟩
theorem yaG {e:Expr}{t:TE}(h:PE X e t)(he:∀ whole,isTrue e X.env whole=(do let v ← whole;standAt e.pos;holding [v] (truthy v)):=by intro _;rfl):PT X e (tB t):=by
 intro pins s σ H Q I hw
 refine isTrue_plain (thn (h pins s σ H _ I hw) λv s1 zq=>?_) (he _)
 obtain⟨x,H1,I1,r1,q1⟩:=zq
 obtain⟨d,rfl,q⟩:=q1
 cases r1
 exact wpAny_truthy_bool ⟨H1,I1,q⟩
variable {tA tB':TT} {rest:List Expr}
def ysX (t u:TT):TT:=fun σ H Q=>t σ H λc H1=>if c=true then u σ H1 Q else Q false H1
def tOr (t u:TT):TT:=fun σ H Q=>t σ H λc H1=>if c=true then Q true H1 else u σ H1 Q
def ytO (t:TT):TT:=fun σ H Q=>t σ H λc H1=>Q (!c) H1
theorem yet (ha:PT X a tA):PW X (.BoolOp .And [a] pos) tA:=by
 intro wh pins s σ H Q I h
 refine isTrue_and (thn (ha pins s σ H Q I h) λc s1 e=>?_)
 cases c with
 | true=>exact isTrue_and_nil e
 | false=>exact e
theorem ybp (ha:PT X a tA):PW X (.BoolOp .Or [a] pos) tA:=by
 intro wh pins s σ H Q I h
 refine isTrue_or (thn (ha pins s σ H Q I h) λc s1 e=>?_)
 cases c with
 | false=>exact isTrue_or_nil e
 | true=>exact e
theorem yfW (ha:PT X a tA)(hb:PW X (.BoolOp .And (b :: rest) pos) tB'):PW X (.BoolOp .And (a :: b :: rest) pos) (ysX tA tB'):=by
 intro wh pins s σ H Q I h
 refine isTrue_and (thn (ha pins s σ H _ I h) λc s1 zq=>?_)
 obtain⟨H1,I1,q1⟩:=zq
 cases c with
 | true=>exact hb wh pins s1 σ H1 Q I1 q1
 | false=>exact⟨H1,I1,q1⟩
theorem ybE (ha:PT X a tA)(hb:PW X (.BoolOp .Or (b :: rest) pos) tB'):PW X (.BoolOp .Or (a :: b :: rest) pos) (tOr tA tB'):=by
 intro wh pins s σ H Q I h
 refine isTrue_or (thn (ha pins s σ H _ I h) λc s1 zq=>?_)
 obtain⟨H1,I1,q1⟩:=zq
 cases c with
 | true=>exact⟨H1,I1,q1⟩
 | false=>exact hb wh pins s1 σ H1 Q I1 q1
theorem ybf (ha:PT X a tA):PT X (.UnaryOp .Not a pos) (ytO tA):=by
 intro pins s σ H Q I h
 exact isTrue_not (ha pins s σ H (λc H1=>Q (!c) H1) I h)
def ypj (ta tb:TE):TE:=fun σ H Q=>ta σ H λx H1=>∃ c,x=.bl c/\if c=true then tb σ H1 Q else Q (.bl false) H1
def yu9 (ta tb:TE):TE:=fun σ H Q=>ta σ H λx H1=>∃ c,x=.bl c/\if c=true then Q (.bl true) H1 else tb σ H1 Q
def ysg (ta:TE):TE:=fun σ H Q=>ta σ H λx H1=>∃ c,x=.bl c/\Q (.bl (!c)) H1
theorem ycD {op}{t:TE}(h:PE X a t):PE X (.BoolOp op [a] pos) t:=λpins s σ H Q I hw=>BoolOp_one (h pins s σ H Q I hw)
theorem ycQ (ha:PE X a ta)(hb:PE X (.BoolOp .And (b :: rest) pos) tb):PE X (.BoolOp .And (a :: b :: rest) pos) (ypj ta tb):=by
 intro pins s σ H Q I h
 refine BoolOp_and (thn (ha pins s σ H _ I h) λv s1 zq=>?_)
 obtain⟨x,H1,I1,r1,q1⟩:=zq
 obtain⟨c,rfl,q1⟩:=q1
 cases r1
 refine wpAny_truthy_bool ?_
 cases c with
 | true=>exact hb pins s1 σ H1 Q I1 q1
 | false=>exact⟨.bl false,H1,I1,rfl,q1⟩
theorem yrX (ha:PE X a ta)(hb:PE X (.BoolOp .Or (b :: rest) pos) tb):PE X (.BoolOp .Or (a :: b :: rest) pos) (yu9 ta tb):=by
 intro pins s σ H Q I h
 refine BoolOp_or (thn (ha pins s σ H _ I h) λv s1 zq=>?_)
 obtain⟨x,H1,I1,r1,q1⟩:=zq
 obtain⟨c,rfl,q1⟩:=q1
 cases r1
 refine wpAny_truthy_bool ?_
 cases c with
 | false=>exact hb pins s1 σ H1 Q I1 q1
 | true=>exact⟨.bl true,H1,I1,rfl,q1⟩
theorem yno (ha:PE X a ta):PE X (.UnaryOp .Not a pos) (ysg ta):=by
 intro pins s σ H Q I h
 refine UnaryOp_ (thn (ha pins s σ H _ I h) λv s1 zq=>?_)
 obtain⟨x,H1,I1,r1,q1⟩:=zq
 obtain⟨c,rfl,q1⟩:=q1
 cases r1
 exact not_of (wpAny_truthy_bool ⟨.bl (!c),H1,I1,rfl,q1⟩)
def tIf (t:TT)(ta tb:TE):TE:=fun σ H Q=>t σ H λc H1=>if c=true then ta σ H1 Q else tb σ H1 Q
theorem yaJ {c:Expr}(hc:PT X c tA)(ha:PE X a ta)(hb:PE X b tb):PE X (.IfExp c a b pos) (tIf tA ta tb):=by
 intro pins s σ H Q I h
 refine wpAny_IfExp (thn (hc pins s σ H _ I h) λd s1 zq=>?_)
 obtain⟨H1,I1,q1⟩:=zq
 cases d with
 | true=>exact ha pins s1 σ H1 Q I1 q1
 | false=>exact hb pins s1 σ H1 Q I1 q1
end
def SqL (K:qF)(H:Hp)(a:Addr)(xs:List V):Prop :=
 Rd H a (.lst xs) ∨
  ∃ (o:Obj) (its:Array Value) (n:Nat),K.lookup a=some o/\o.cls=.type "list" /\ o.dict=none/\o.data=.seq its n/\its.size<=sizeLine/\Vals xs its.toList
def SqT (K:qF)(H:Hp)(a:Addr)(xs:List V):Prop :=
 Rd H a (.tup xs) ∨
  ∃ (o:Obj) (its:Array Value) (n:Nat),K.lookup a=some o/\o.cls=.type "tuple" /\ o.data=.seq its n/\its.size<=sizeLine/\Vals xs its.toList
def yvL:Value->Option V
 | .none=>some .non
 | .bool b=>some (.bl b)
 | .int i _=>some (.int i)
 | .str x _=>some (.str x)
 | .bytes b _=>some (.byt b)
 | .float b _=>some (.flt b)
 | .ref a=>some (.ref a)
 | .type n=>some (.ty n)
 | _=>none
theorem RelV.abs {x:V}{u:Value}(r:RelV x u):yvL u=some x:=by
 cases x with
 | non=>cases r;rfl
 | bl _=>cases r;rfl
 | int _=>obtain⟨t,rfl⟩:=r;rfl
 | str _=>obtain⟨t,rfl⟩:=r;rfl
 | byt _=>obtain⟨t,rfl⟩:=r;rfl
 | flt _=>obtain⟨t,rfl⟩:=r;rfl
 | ref _=>cases r;rfl
 | ty _=>cases r;rfl
theorem RelV.inj {x y:V}{u:Value}(r:RelV x u)(q:RelV y u):x=y:=Option.some.inj (r.abs.symm.trans q.abs)
theorem Vals.inj:∀ {xs ys:List V} {us:List Value},Vals xs us->Vals ys us->xs=ys
 | _,_,_,.nil,.nil=>rfl
 | _,_,_,.cons r t,.cons r' t'=>by rw[r.inj r',Vals.inj t t']
section
variable {X:Cx} {pins:List (Addr×Obj)} {σ:St} {H:Hp} {s:Shared} {a:Addr} {xs ys:List V}
theorem SqL.of {K:qF}(h:H a=some (.lst xs)):SqL K H a xs:=.inl (.inl h)
theorem SqT.of {K:qF}(h:H a=some (.tup xs)):SqT K H a xs:=.inl (.inl h)
theorem Inv.list (I:Inv X pins σ H s)(h:SqL X.K H a xs):∃ its:List Value,Vals xs its/\PlainL s.heap a its.toArray/\xs.length<=sizeLine:=by
 rcases h with h | ⟨o,its,n,hk,hc,hd,hs,hz,r⟩
 ·obtain⟨z,its,n,r,e⟩:=h.ok I.hok
  exact⟨its,r,⟨_,n,e,rfl,rfl,rfl⟩,z⟩
 ·refine⟨its.toList,r,⟨o,n,I.kIn a o hk,hc,hd,by simpa using hs⟩,?_⟩
  have e:=r.length
  simp only[Array.length_toList] at e
  omega
theorem Inv.tuple (I:Inv X pins σ H s)(h:SqT X.K H a xs):∃ its:List Value,Vals xs its/\IsTup s.heap a its.toArray/\xs.length<=sizeLine:=by
 rcases h with h | ⟨o,its,n,hk,hc,hs,hz,r⟩
 ·obtain⟨z,its,r,p⟩:=h.ok I.hok
  exact⟨its,r,p,z⟩
 ·refine⟨its.toList,r,⟨o,I.kIn a o hk,hc,n,by simpa using hs⟩,?_⟩
  have e:=r.length
  simp only[Array.length_toList] at e
  omega
theorem Inv.list_inj (I:Inv X pins σ H s)(h:SqL X.K H a xs)(h':SqL X.K H a ys):xs=ys:=by
 obtain⟨its,r,⟨o,n,e,_,_,d⟩,_⟩:=I.list h
 obtain⟨its',r',⟨o',n',e',_,_,d'⟩,_⟩:=I.list h'
 rw[e] at e';cases e'
 rw[d] at d'
 injection d' with d1 _
 have:its=its':=by simpa using congrArg Array.toList d1
 subst this
 exact r.inj r'
theorem Inv.tuple_inj (I:Inv X pins σ H s)(h:SqT X.K H a xs)(h':SqT X.K H a ys):xs=ys:=by
 obtain⟨its,r,⟨o,e,_,n,d⟩,_⟩:=I.tuple h
 obtain⟨its',r',⟨o',e',_,n',d'⟩,_⟩:=I.tuple h'
 rw[e] at e';cases e'
 rw[d] at d'
 injection d' with d1 _
 have:its=its':=by simpa using congrArg Array.toList d1
 subst this
 exact r.inj r'
end
noncomputable abbrev Cx.wish (X:Cx)(E:Value->Shared->Prop):Cx:={ X with xe:=E }
noncomputable abbrev Cx.nox (X:Cx):Cx:=X.wish λ_ _=>False
theorem Cx.Ok.wish {X:Cx}(ok:X.Ok)(E:Value->Shared->Prop):(X.wish E).Ok :=
 ⟨ok.mod,ok.kind,ok.glob,ok.blt,ok.above,ok.inj,ok.has,ok.cab,ok.hd,ok.frames,ok.stk,ok.exf,ok.bs,ok.bsz,ok.noex,ok.exfs,ok.funs,ok.frf⟩
theorem Cx.Ok.unwish {X:Cx}{E:Value->Shared->Prop}(ok:(X.wish E).Ok):X.Ok :=
 ⟨ok.mod,ok.kind,ok.glob,ok.blt,ok.above,ok.inj,ok.has,ok.cab,ok.hd,ok.frames,ok.stk,ok.exf,ok.bs,ok.bsz,ok.noex,ok.exfs,ok.funs,ok.frf⟩
section
variable {X:Cx} {pins:List (Addr×Obj)} {σ:St} {H:Hp} {s:Shared} {E:Value->Shared->Prop}
theorem Inv.wish (I:Inv X pins σ H s)(E:Value->Shared->Prop):Inv (X.wish E) pins σ H s:=⟨I.ok.wish E,I.os,I.bare,I.base,I.loc,I.cell,I.free,I.freeC,I.pin,I.hok,I.len⟩
theorem Inv.unwish (I:Inv (X.wish E) pins σ H s):Inv X pins σ H s:=⟨I.ok.unwish,I.os,I.bare,I.base,I.loc,I.cell,I.free,I.freeC,I.pin,I.hok,I.len⟩
theorem SP.unwish {D:yeZ}{f:Flow}{s':Shared}(h:SP (X.wish E) pins D f s'):SP X pins D f s':=by
 cases f with
 | next=>obtain⟨σ',H',I,q⟩:=h;exact⟨σ',H',I.unwish,q⟩
 | brk=>obtain⟨σ',H',I,q⟩:=h;exact⟨σ',H',I.unwish,q⟩
 | cont=>obtain⟨σ',H',I,q⟩:=h;exact⟨σ',H',I.unwish,q⟩
 | ret u=>obtain⟨v,σ',H',I,r,q⟩:=h;exact⟨v,σ',H',I.unwish,r,q⟩
theorem PSs.nox {st:List Stmt}{t:TS}(h:PSs X.nox st t):PSs X st t:=λpins s σ H D I hw =>
 wpAny_mono (h pins s σ H D (I.wish _) hw) (λ_ _ q=>q.unwish) λ_ _ z=>False.elim z
end
section
variable {X:Cx} {st:Stmt} {rest:List Stmt} {t u:TS} {e:Expr} {te:TE} {pos:Pos}
def yoh:TS:=λD σ H=>D.nx σ H
def yt7 (t u:TS):TS:=λD σ H=>t { D with nx:=u D } σ H
theorem yau:PSs X [] yoh:=λ_ _ σ H _ I h=>wpAny_execs_nil ⟨σ,H,I,h⟩
theorem yad (h1:PS X st t)(h2:PSs X rest u):PSs X (st :: rest) (yt7 t u):=by
 intro pins s σ H D I h
 refine wpAny_execs_cons (thn (h1 pins s σ H { D with nx:=u D } I h) λf s1 q=>?_)
 cases f with
 | next =>
  obtain⟨σ',H',I',q⟩:=q
  exact h2 pins s1 σ' H' D I' q
 | ret v=>exact q
 | brk=>exact q
 | cont=>exact q
theorem yag (h1:PS X st t):PSs X [st] t:=by
 intro pins s σ H D I h
 refine wpAny_execs_cons (thn (h1 pins s σ H D I h) λf s1 q=>?_)
 cases f with
 | next=>exact wpAny_execs_nil q
 | ret v=>exact q
 | brk=>exact q
 | cont=>exact q
theorem Inv.quiet {pins:List (Addr×Obj)}{σ:St}{H:Hp}{s:Shared}(I:Inv X pins σ H s):interactive X.env=false:=by simp[interactive,I.ok.kind]
noncomputable def yjo (te:TE):TS:=λD σ H=>te σ H λ_ H1=>D.nx σ H1
theorem ych (he:PE X e te)(hs:swapsWith e none pos.line X.env=pure false:=by rfl):PS X (.Expr e pos) (yjo te):=by
 intro pins s σ H D I h
 exact wpAny_Expr_any (thn (he pins s σ H _ I h) λv s1 ⟨x,H1,I1,r1,q1⟩=>⟨σ,H1,I1,q1⟩) I.quiet hs
def ys0 (te:TE):TS:=λD σ H=>te σ H D.rt
theorem yam (he:PE X e te):PS X (.Return (some e) pos) (ys0 te):=by
 intro pins s σ H D I h
 exact wpAny_Return_some (thn (he pins s σ H _ I h) λv s1 ⟨x,H1,I1,r1,q1⟩=>⟨x,σ,H1,I1,r1,q1⟩)
def yo3 (c:TT)(t u:TS):TS:=λD σ H=>c σ H λb H1=>if b=true then t D σ H1 else u D σ H1
theorem yaI {c:Expr}{a b:List Stmt}{tc:TT}(hc:PT X c tc)(ha:PSs X a t)(hb:PSs X b u):PS X (.If c a b pos) (yo3 tc t u):=by
 intro pins s σ H D I h
 refine wpAny_If (thn (hc pins s σ H _ I h) λd s1 zq=>?_)
 obtain⟨H1,I1,q1⟩:=zq
 cases d with
 | true=>exact ha pins s1 σ H1 D I1 q1
 | false=>exact hb pins s1 σ H1 D I1 q1
def yrW:TS:=λ_ _ _=>False
theorem yjw {sts:List Stmt}:PSs X sts yrW:=λ_ _ _ _ _ _ h=>h.elim
end
abbrev TG:=V->St->Hp->(St->Hp->Prop)->Prop
abbrev TGs:=List V->St->Hp->(St->Hp->Prop)->Prop
def PG (X:Cx)(target:Expr)(t:TG):Prop :=
 ∀ (pins:List (Addr×Obj)) (s:Shared) (σ:St) (H:Hp) (v:V) (u:Value) (Q:St->Hp->Prop),Inv X pins σ H s->RelV v u->t v σ H Q ->
  wpAny (model X.prog X.w) X.A (assign target X.env u) (λ_ s'=>∃ σ' H',Inv X pins σ' H' s'/\Q σ' H') X.xe s
def PGs (X:Cx)(ts:List Expr)(t:TGs):Prop :=
 ∀ (pins:List (Addr×Obj)) (s:Shared) (σ:St) (H:Hp) (vs:List V) (us:List Value) (Q:St->Hp->Prop),Inv X pins σ H s->Vals vs us->t vs σ H Q ->
  wpAny (model X.prog X.w) X.A (assignInOrder ((assignEach ts X.env).map (·.2)) us) (λ_ s'=>∃ σ' H',Inv X pins σ' H' s'/\Q σ' H') X.xe s
abbrev ytj:=V->V->V->Hp->(Hp->Prop)->Prop
noncomputable def yu7 (X:Cx)(t:ytj):Prop :=
 ∀ (pins:List (Addr×Obj)) (s:Shared) (σ:St) (H:Hp) (o i v:V) (ov iv u:Value) (Q:Hp->Prop),Inv X pins σ H s->RelV o ov->RelV i iv->RelV v u->t o i v H Q ->
  wpAny (model X.prog X.w) X.A (setItem ov iv u) (λ_ s'=>∃ H',Inv X pins σ H' s'/\Q H') X.xe s
abbrev TIp:=V->V->Hp->VK->Prop
def PIp (X:Cx)(op:Operator)(t:TIp):Prop :=
 ∀ (pins:List (Addr×Obj)) (s:Shared) (σ:St) (H:Hp) (x y:V) (v u:Value) (Q:VK),Inv X pins σ H s->RelV x v->RelV y u->t x y H Q ->
  wpAny (model X.prog X.w) X.A (inplaceOp op v u) (EP X pins σ Q) X.xe s
section
variable {X:Cx} {pos:Pos}
def ybt (i:Nat):TG:=λv σ H Q=>Q (σ.set i (some v)) H
theorem ydy {i:Nat}{x:Str}(hN:X.N.Nodup)(hi:X.N[i]?=some x)(hx:Loc X.env.scope x)(hf:X.fn x=true∨X.env.scope.names.lookup x=some .local:=by first | exact .inl rfl | exact .inr rfl | assumption):PG X (.Name x pos) (ybt i):=by
 intro pins s σ H v u Q I r h
 exact wpAny_assign_Name (ye7 I hN hi hx r (λs' I'=>⟨_,H,I',h⟩) hf)
def ynm:TGs:=λvs σ H Q=>vs=[]/\Q σ H
noncomputable def yda (t:TG)(u:TGs):TGs:=λvs σ H Q=>∃ v r,vs=v :: r/\t v σ H fun σ' H'=>u r σ' H' Q
theorem yem:PGs X [] ynm:=by
 intro pins s σ H vs us Q I r h
 obtain⟨e,h⟩:=h
 subst e
 cases r
 exact assignInOrder_nil ⟨σ,H,I,h⟩
theorem ybH {e:Expr}{es:List Expr}{t:TG}{u:TGs}(h1:PG X e t)(h2:PGs X es u)
  (hs:(assignEach (e :: es) X.env).map (·.2)=assign e X.env :: (assignEach es X.env).map (·.2):=by rfl):PGs X (e :: es) (yda t u):=by
 intro pins s σ H vs us Q I r h
 obtain⟨v,vr,e1,h⟩:=h
 subst e1
 cases r with
 | cons r rr =>
  rw[hs]
  refine assignInOrder_cons (thn (h1 pins s σ H _ _ _ I r h) λ_ s1 zq=>?_)
  obtain⟨σ1,H1,I1,q1⟩:=zq
  exact h2 pins s1 σ1 H1 _ _ Q I1 rr q1
def yn1 (K:qF)(n:Nat)(t:TGs):TG:=λv σ H Q=>∃ a xs,v=.ref a/\SqT K H a xs/\xs.length=n/\t xs σ H Q
theorem ygm {es:List Expr}{k:Nat}{t:TGs}{n:Nat}(hc:X.calm=true)(h:PGs X es t)
  (hn:(assignEach es X.env).length=n:=by rfl) (hst:(assignEach es X.env).findIdx? (·.1)=none:=by rfl):PG X (.Tuple es k pos) (yn1 X.K n t):=by
 intro pins s σ H v u Q I r hw
 obtain⟨a,xs,e1,hq,hl,hw⟩:=hw
 subst e1
 cases r
 obtain⟨its,rv,ht,hz⟩:=I.tuple hq
 refine assign_Tuple_tuple (I.ok.hd hc) ht (by simp[hn,← hl,rv.length]) hst λh' hx=>?_
 have I1:Inv X pins σ H { s with heap:=h' }:=I.kept (t':=s.toks) λb o e=>hx b o (Nat.ne_of_lt (Heap.lt_size e)) e
 exact h pins _ σ H xs _ Q I1 (by simpa using rv) hw
def yuY (to ti:TE)(t:ytj):TG:=λv σ H Q=>to σ H λo H1=>ti σ H1 λi H2=>t o i v H2 λH3=>Q σ H3
theorem yrs {o i:Expr}{to ti:TE}{t:ytj}(ho:PE X o to)(hi:PE X i ti)(hs:yu7 X t)
  (ha:∀ v,assign (.Subscript o i pos) X.env v=(do
   let ov ← holding [v] (eval o X.env)
   let iv ← holding [v,ov] (eval i X.env)
   standAt pos
   holding [v,ov,iv] (setItem ov iv v)
   release [v,ov,iv] []):=by intro _;rfl):PG X (.Subscript o i pos) (yuY to ti t):=by
 intro pins s σ H v u Q I r h
 rw[ha]
 refine wpAny_bind (wpAny_holding (thn (ho pins s σ H _ I h) λov s1 zq=>?_))
 obtain⟨x,H1,I1,r1,q1⟩:=zq
 refine wpAny_bind (wpAny_holding (thn (hi pins s1 σ H1 _ I1 q1) λiv s2 zq=>?_))
 obtain⟨y,H2,I2,r2,q2⟩:=zq
 refine wpAny_bind (wpAny_standAt (wpAny_bind (wpAny_holding (thn (hs pins s2 σ H2 x y v ov iv u _ I2 r1 r2 r q2) λ_ s3 zq=>?_))))
 obtain⟨H3,I3,q3⟩:=zq
 exact wpAny_release ⟨σ,H3,I3,q3⟩
noncomputable def ylK (te:TE)(g:TG):TS:=λD σ H=>te σ H λx H1=>g x σ H1 D.nx
theorem ynx {tg e:Expr}{te:TE}{g:TG}(he:PE X e te)(hg:PG X tg g)(hs:swapsWithSole [tg] e pos.line X.env=pure false:=by rfl)(hw:swappedStores [tg] e X.env=pure none:=by rfl)
  (h1:(assignEach [tg] X.env).map (·.2)=[assign tg X.env]:=by rfl):PS X (.Assign [tg] e pos) (ylK te g):=by
 intro pins s σ H D I h
 refine wpAny_Assign_stores (thn (he pins s σ H _ I h) λv s1 zq=>?_) hs hw
 obtain⟨x,H1,I1,r1,q1⟩:=zq
 rw[h1]
 exact thn (hg pins s1 σ H1 x v _ I1 r1 q1) λ_ s2 q=>q
theorem ycR {i:Nat}{x:Str}{e:Expr}{te:TE}{pos':Pos}(hN:X.N.Nodup)(hi:X.N[i]?=some x)(hx:Loc X.env.scope x)(he:PE X e te)(hs:swapsWith e (some (.Name x pos')) pos.line X.env=pure false:=by rfl)(hf:X.fn x=true∨X.env.scope.names.lookup x=some .local:=by first | exact .inl rfl | exact .inr rfl | assumption) :
  PS X (.Assign [.Name x pos'] e pos) (ylK te (ybt i)):=by
 intro pins s σ H D I h
 refine wpAny_Assign_Name (thn (he pins s σ H _ I h) λv s1 zq=>?_) hs
 obtain⟨y,H1,I1,r1,q1⟩:=zq
 exact ye7 I1 hN hi hx r1 (λs2 I2=>⟨_,H1,I2,q1⟩) hf
def yuT (i:Nat)(te:TE)(ti:TIp):TS:=λD σ H=>∃ x,σ[i]?=some (some x)/\te σ H λy H1=>ti x y H1 λz H2=>D.nx (σ.set i (some z)) H2
theorem ypZ {i:Nat}{x:Str}{e:Expr}{te:TE}{op:Operator}{ti:TIp}{pos':Pos}(hN:X.N.Nodup)(hi:X.N[i]?=some x)(hx:Loc X.env.scope x)(he:PE X e te)(ho:PIp X op ti)(hf:X.fn x=true∨X.env.scope.names.lookup x=some .local:=by first | exact .inl rfl | exact .inr rfl | assumption) :
  PS X (.AugAssign (.Name x pos') op e pos) (yuT i te ti):=by
 intro pins s σ H D I h
 obtain⟨v,e1,h⟩:=h
 obtain⟨m,hn,hl⟩:=I.loc
 have vis:Vis X.env.scope x:=by rcases hx with k | k;exact .inl k;exact .inr (.inl k)
 obtain⟨u,r,l⟩:=hl i x v hi e1 vis
 refine wpAny_AugAssign_Name ?_
 have go:wpAny (model X.prog X.w) X.A (eval e X.env) (λw s₂=>wpAny (model X.prog X.w) X.A (inplaceOp op u w) (λr s₃=>wpAny (model X.prog X.w) X.A (storeName X.env x r) (λ_=>SP X pins D .next) X.xe s₃) X.xe s₂) X.xe s:=by
  refine thn (he pins s σ H _ I h) λw s1 zq=>?_
  obtain⟨y,H1,I1,r1,q1⟩:=zq
  refine thn (ho pins s1 σ H1 v y u w _ I1 r r1 q1) λz s2 zq=>?_
  obtain⟨zv,H2,I2,r2,q2⟩:=zq
  exact ye7 I2 hN hi hx r2 (λs3 I3=>⟨_,H2,I3,q2⟩) hf
 rcases l with ⟨hk,hm⟩ | ⟨hk,c,hc,hcell⟩
 ·exact wpAny_loadName_local I.ok.kind hk hn hm go
 ·rcases hk with hk | hk
  ·exact wpAny_loadName_cell I.ok.kind hk hc hcell go
  ·rcases hx with k | k
   ·have:X.env.scope.names.lookup x=some .free:=hk
    rw[k] at this;cases this
   ·have:X.env.scope.names.lookup x=some .free:=hk
    rw[k] at this;cases this
def ipI (f:Int->Int->Int):TIp:=λx y H Q=>∃ i j,x=.int i/\y=.int j/\Q (.int (f i j)) H
theorem ysk:PIp X .Add (ipI λi j=>i+j):=by
 intro pins s σ H x y v u Q I r1 r2 h
 obtain⟨i,j,e1,e2,q⟩:=h
 subst e1;subst e2
 obtain⟨t,rfl⟩:=r1
 obtain⟨t',rfl⟩:=r2
 exact iadd_int ⟨.int _,H,I.tok _,⟨_,rfl⟩,q⟩
def yn7 (c:TT)(tb:TS):TS:=λD σ H=>∃ W:Nat->St->Hp->Prop,(∃ m,W m σ H)/\∀ m σ H,W m σ H ->
 c σ H λb H1=>if b=true then ∃ N:St->Hp->Prop,(∀ σ' H',N σ' H'->∃ m',m' < m/\W m' σ' H')/\tb { D with nx:=N,ct:=N,bk:=D.nx } σ H1 else D.nx σ H1
theorem ymR {c:Expr}{body:List Stmt}{tc:TT}{tb:TS}(hp:PassesOwn (model X.prog X.w) X.A X.env X.xe)(hc:PT X c tc)(hb:PSs X body tb):PS X (.While c body [] pos) (yn7 tc tb):=by
 intro pins s σ H D I h
 obtain⟨W,⟨m0,w0⟩,turn⟩:=h
 refine wpAny_While (codeAny_whileLoop (λn s'=>∃ σ' H',Inv X pins σ' H' s'/\W n σ' H') ?_ m0 ⟨σ,H,I,w0⟩)
 rintro n s1 ⟨σ1,H1,I1,w1⟩
 refine wpAny_passesOwn hp (thn (hc pins s1 σ1 H1 _ I1 (turn n σ1 H1 w1)) λb s2 zq=>?_)
 obtain⟨H2,I2,q2⟩:=zq
 cases b with
 | true =>
  obtain⟨N,hN,q2⟩:=q2
  rw[if_pos rfl]
  refine wpAny_passesOwn hp (thn (hb pins s2 σ1 H2 _ I2 q2) λf s3 q3=>?_)
  cases f with
  | next =>
   obtain⟨σ3,H3,I3,n3⟩:=q3
   obtain⟨m',hm,w3⟩:=hN σ3 H3 n3
   exact⟨m',hm,σ3,H3,I3,w3⟩
  | cont =>
   obtain⟨σ3,H3,I3,n3⟩:=q3
   obtain⟨m',hm,w3⟩:=hN σ3 H3 n3
   exact⟨m',hm,σ3,H3,I3,w3⟩
  | brk=>exact q3
  | ret v=>exact q3
 | false =>
  rw[if_neg qN]
  exact wpAny_execs_nil ⟨σ1,H2,I2,q2⟩
end
structure It where
 go:Nat->Hp->Prop
 yld:Nat->Hp->V->Hp->Prop
 stop:Nat->Hp->Prop
def yfT (X:Cx)(pins:List (Addr×Obj))(H:Hp)(b:Addr):Prop :=
 H b=none/\b≠X.env.locals/\b∉X.fs/\(b∈X.ex∨X.s₀.heap.objs.size<=b)/\(∀ x c,X.env.cells.lookup x=some c->c≠b)/\∀ p∈X.pn++pins,p.1≠b
theorem Inv.fpOk {X:Cx}{pins:List (Addr×Obj)}{σ:St}{H H':Hp}{s:Shared}{b:Addr}(I:Inv X pins σ H s)(hb:s.heap.objs.size<=b)(hn:H' b=none):yfT X pins H' b:=by
 refine⟨hn,Nat.ne_of_gt (Nat.lt_of_lt_of_le I.lt hb),I.nofs hb,.inr (Nat.le_trans I.sz hb),λx c e z=>?_,λp hp z=>?_⟩
 ·obtain⟨v,q⟩:=I.cell x c e
  exact absurd (Nat.lt_of_lt_of_le q.lt (by rw[z];exact hb)) (Nat.lt_irrefl _)
 ·exact absurd (Nat.lt_of_lt_of_le (Heap.lt_size (I.pin p hp).1) (by rw[z];exact hb)) (Nat.lt_irrefl _)
structure ylQ (P:Program) (w:World) (K:qF) (tg:Expr) (J:It) (fp:List Addr) (it:Addr) (tn:Nat->Heap->Prop):Prop where
 mem:it∈fp
 obj:∀ i h,tn i h->∀ b∈fp,∃ o,h.get? b=some o/\∀ v,o.data≠.cell v
 keep:∀ i h h',tn i h->(∀ b∈fp,∀ o,h.get? b=some o->h'.get? b=some o)->tn i h'
 item:∀ (X:Cx),X.prog=P->X.w=w->X.K=K->X.calm=true->∀ (i:Nat) (pins:List (Addr×Obj)) (s:Shared) (σ:St) (H:Hp) (E:Value->Shared->Prop),Inv X pins σ H s->(∀ b∈fp,yfT X pins H b)->tn i s.heap->J.go i H ->
  wpAny (model P w) X.A (pyNext (.ref it)) (λr s1=>∃ u,r=some u /\
   wpAny (model P w) X.A (letOwnedTupleGo tg (.ref it) u) (λ_ s2=>∃ x H',Inv X pins σ H' s2/\RelV x u/\J.yld i H x H'/\tn (i+1) s2.heap/\∀ b∈fp,H' b=none) E s1) E s
 done:∀ (X:Cx),X.prog=P->X.w=w->X.K=K->X.calm=true->∀ (i:Nat) (pins:List (Addr×Obj)) (s:Shared) (σ:St) (H:Hp) (E:Value->Shared->Prop),Inv X pins σ H s->(∀ b∈fp,yfT X pins H b)->tn i s.heap->J.stop i H ->
  wpAny (model P w) X.A (pyNext (.ref it)) (λr s1=>r=none/\Inv X pins σ H s1) E s
 self:∀ (A:Around) (i:Nat) (s:Shared) (Q:Value->Shared->Prop) (E:Value->Shared->Prop),tn i s.heap->Q (.ref it) s->wpAny (model P w) A (pyIter (.ref it)) Q E s
abbrev TI:=St->Hp->(It->Hp->Prop)->Prop
def PIE (X:Cx)(pins:List (Addr×Obj))(σ:St)(tg:Expr)(R:It->Hp->Prop)(itv:Value)(s2:Shared):Prop :=
 ∃ (it:Addr) (fp:List Addr) (tn:Nat->Heap->Prop) (J:It) (H':Hp),itv=.ref it/\Inv X pins σ H' s2/\ylQ X.prog X.w X.K tg J fp it tn/\tn 0 s2.heap/\(∀ b∈fp,yfT X pins H' b)/\R J H'
def PI (X:Cx)(tg iter:Expr)(wi:TI):Prop :=
 ∀ (pins:List (Addr×Obj)) (s:Shared) (σ:St) (H:Hp) (R:It->Hp->Prop),Inv X pins σ H s->wi σ H R ->
  wpAny (model X.prog X.w) X.A (eval iter X.env) (λv s1=>wpAny (model X.prog X.w) X.A (pyIter v) (PIE X pins σ tg R) X.xe s1) X.xe s
theorem ymC {M:Model}{A:Around}{E:Value->Shared->Prop}{s:Shared}{tg:Expr}{it:Addr}{u:Value}{o:Obj}{n:String}{vs:Array Value}{Q:Unit->Shared->Prop}(ho:s.heap.get? it=some o)(hc:o.cls=.type n)(hd:o.data=.fields vs)
  (hn:["enumerate","zip","dict_itemiterator","dict_reverseitemiterator","odict_iterator","itertools.zip_longest","itertools.pairwise"].contains n=false) (hQ:Q () s):wpAny M A (letOwnedTupleGo tg (.ref it) u) Q E s:=by
 unfold letOwnedTupleGo
 cases tg<;>first
  | exact wpAny_pure hQ
  | (cases u<;>first
    | exact wpAny_pure hQ
    | (refine wpAny_bind (wpAny_load ho ?_)
       rw[hc,hd]
       show wpAny M A (if (["enumerate","zip","dict_itemiterator","dict_reverseitemiterator","odict_iterator","itertools.zip_longest","itertools.pairwise"].contains n&&vs[0]?==some (rawInt _))=true then _ else _) Q E s
       rw[if_neg (by intro h;rw[hn,Bool.false_and] at h;cases h)]
       exact wpAny_pure hQ))
noncomputable def Itl (K:qF)(a:Addr):It :=
 ⟨λi H=>∃ xs x,SqL K H a xs/\xs[i]?=some x,λi H x H'=>H'=H/\∀ xs,SqL K H a xs->xs[i]?=some x,λi H=>∃ xs,SqL K H a xs/\xs.length<=i⟩
noncomputable def Itt (K:qF)(a:Addr):It :=
 ⟨λi H=>∃ xs x,SqT K H a xs/\xs[i]?=some x,λi H x H'=>H'=H/\∀ xs,SqT K H a xs->xs[i]?=some x,λi H=>∃ xs,SqT K H a xs/\xs.length<=i⟩
noncomputable def Itr (lo:Int)(n:Nat):It:=⟨λi _=>i < n,λi H x H'=>H'=H/\x=.int (lo+i),λi _=>n<=i⟩
theorem ykX {P:Program}{w:World}{K:qF}{tg:Expr}(a it:Addr):ylQ P w K tg (Itl K a) [it] it (λi h=>h.IsListIter it a i) where
 mem:=by simp
 obj:=λi h st b hb=>by
  have e:b=it:=by simpa using hb
  subst e
  obtain⟨o,e,c,d⟩:=st
  exact⟨o,e,λv z=>by rw[d] at z;cases z⟩
 keep:=λi h h' st k=>st.at λo e=>k it (by simp) o e
 item:=by
  intro X hP hw hK hc i pins s σ H E I hf st hg
  subst hP hw hK
  obtain⟨xs,x,hq,hx⟩:=hg
  obtain⟨its,rv,p,hz⟩:=I.list hq
  obtain⟨u,hu,ru⟩:=rv.get hx
  obtain⟨f0,f1,f2,f3,f4,f5⟩:=hf it (by simp)
  refine wpAny_pyNext_list_item st p.isList (x:=u) (by simpa using hu) λh' st' sb=>?_
  have I1:Inv X pins σ H { s with heap:=h' }:=I.turned (t':=s.toks) (λb o hb e=>(sb.2 b hb).trans e) f0 f1 f3 f4 f5
  obtain⟨o,e,c,d⟩:=id st'
  exact⟨u,rfl,ymC (s:={ s with heap:=h' }) e c d (by decide) ⟨x,H,I1,ru,⟨rfl,λys hy=>by rw[I.list_inj hy hq];exact hx⟩,st',λb hb=>(hf b hb).1⟩⟩
 done:=by
  intro X hP hw hK hc i pins s σ H E I hf st hg
  subst hP hw hK
  obtain⟨xs,hq,hx⟩:=hg
  obtain⟨its,rv,p,hz⟩:=I.list hq
  obtain⟨f0,f1,f2,f3,f4,f5⟩:=hf it (by simp)
  have hl:=rv.length
  exact wpAny_pyNext_list_end (I.ok.hd hc) st p.isList (by simp;omega) λh' eb=>⟨rfl,I.turned (t':=s.toks) (λb o hb e=>eb b o hb e) f0 f1 f3 f4 f5⟩
 self:=λ_ _ _ _ _ st h=>wpAny_pyIter_listiter st h
theorem yja {P:Program}{w:World}{K:qF}{tg:Expr}(a it:Addr):ylQ P w K tg (Itt K a) [it] it (λi h=>h.IsTupleIter it a i) where
 mem:=by simp
 obj:=λi h st b hb=>by
  have e:b=it:=by simpa using hb
  subst e
  obtain⟨o,e,c,d⟩:=st
  exact⟨o,e,λv z=>by rw[d] at z;cases z⟩
 keep:=λi h h' st k=>st.at λo e=>k it (by simp) o e
 item:=by
  intro X hP hw hK hc i pins s σ H E I hf st hg
  subst hP hw hK
  obtain⟨xs,x,hq,hx⟩:=hg
  obtain⟨its,rv,p,hz⟩:=I.tuple hq
  obtain⟨u,hu,ru⟩:=rv.get hx
  obtain⟨f0,f1,f2,f3,f4,f5⟩:=hf it (by simp)
  refine wpAny_pyNext_tuple_item st (show s.heap.IsTuple a its.toArray from p) (x:=u) (by simpa using hu) λh' st' sb=>?_
  have I1:Inv X pins σ H { s with heap:=h' }:=I.turned (t':=s.toks) (λb o hb e=>(sb.2 b hb).trans e) f0 f1 f3 f4 f5
  obtain⟨o,e,c,d⟩:=id st'
  exact⟨u,rfl,ymC (s:={ s with heap:=h' }) e c d (by decide) ⟨x,H,I1,ru,⟨rfl,λys hy=>by rw[I.tuple_inj hy hq];exact hx⟩,st',λb hb=>(hf b hb).1⟩⟩
 done:=by
  intro X hP hw hK hc i pins s σ H E I hf st hg
  subst hP hw hK
  obtain⟨xs,hq,hx⟩:=hg
  obtain⟨its,rv,p,hz⟩:=I.tuple hq
  obtain⟨f0,f1,f2,f3,f4,f5⟩:=hf it (by simp)
  have hl:=rv.length
  exact wpAny_pyNext_tuple_end (I.ok.hd hc) st (show s.heap.IsTuple a its.toArray from p) (by simp;omega) λh' eb=>⟨rfl,I.turned (t':=s.toks) (λb o hb e=>eb b o hb e) f0 f1 f3 f4 f5⟩
 self:=λ_ _ _ _ _ st h=>wpAny_pyIter_tupleiter st h
theorem yi3 {P:Program}{w:World}{K:qF}{tg:Expr}(it:Addr)(lo:Int)(n:Nat):ylQ P w K tg (Itr lo n) [it] it (λi h=>IsRangeIter h it (lo+(i:Nat)*1) ((n:Int) - (i:Nat)) 1) where
 mem:=by simp
 obj:=λi h st b hb=>by
  have e:b=it:=by simpa using hb
  subst e
  exact⟨_,st,λv z=>by
   have z':Data.fields _=Data.cell v:=z
   cases z'⟩
 keep:=λi h h' st k=>k it (by simp) _ st
 item:=by
  intro X hP hw hK hc i pins s σ H E I hf st hg
  subst hP hw hK
  obtain⟨f0,f1,f2,f3,f4,f5⟩:=hf it (by simp)
  have W:=Walks.range (prog:=X.prog) (w:=X.w) (I.ok.hd hc) it lo 1 n
  refine W.item i s _ _ hg st λv h' tk hv st' kk=>?_
  obtain⟨t,rfl⟩:=hv
  have I1:Inv X pins σ H { s with heap:=h',toks:=tk }:=I.turned (λb o hb e=>kk b o (by simpa using hb) e) f0 f1 f3 f4 f5
  refine⟨_,rfl,ymC (s:={ s with heap:=h',toks:=tk }) (n := "range_iterator") st' rfl rfl (by decide) ⟨.int (lo+i),H,I1,⟨t,?_⟩,⟨rfl,rfl⟩,st',λb hb=>(hf b hb).1⟩⟩
  rw[Int.mul_one]
 done:=by
  intro X hP hw hK hc i pins s σ H E I hf st hg
  subst hP hw hK
  obtain⟨f0,f1,f2,f3,f4,f5⟩:=hf it (by simp)
  exact wpAny_pyNext_range_end (I.ok.hd hc) st (by have:n<=i:=hg;omega) λh' eb=>⟨rfl,I.turned (t':=s.toks) (λb o hb e=>eb b o hb e) f0 f1 f3 f4 f5⟩
 self:=λ_ _ _ _ _ st h=>wpAny_pyIter_rangeiter st h
section
variable {X:Cx} {tg:Expr}
def yms (K:qF)(tl:TE):TI:=fun σ H R=>tl σ H λx H1=>∃ a,x=.ref a/\(∃ xs,SqL K H1 a xs)/\R (Itl K a) H1
def ysN (K:qF)(tl:TE):TI:=fun σ H R=>tl σ H λx H1=>∃ a,x=.ref a/\(∃ xs,SqT K H1 a xs)/\R (Itt K a) H1
theorem ycf {l:Expr}{tl:TE}(hl:PE X l tl):PI X tg l (yms X.K tl):=by
 intro pins s σ H R I h
 refine thn (hl pins s σ H _ I h) λv s1 zq=>?_
 obtain⟨x,H1,I1,r1,q1⟩:=zq
 obtain⟨a,e,⟨xs,hq⟩,q⟩:=q1
 subst e
 cases r1
 obtain⟨its,rv,p,hz⟩:=I1.list hq
 refine wpAny_pyIter_list p.isList ?_
 refine⟨s1.heap.objs.size,[s1.heap.objs.size],_,_,H1,rfl,I1.kept (t':=s1.toks) λb o e=>Heap.get?_push_of_some _ e,ykX a _,⟨_,Heap.get?_push_size _ rfl,rfl,rfl⟩,λb hb=>?_,q⟩
 have e:b=s1.heap.objs.size:=by simpa using hb
 subst e
 exact I1.fpOk (qR _) (I1.hok.fresh (qR _))
theorem ydK {l:Expr}{tl:TE}(hl:PE X l tl):PI X tg l (ysN X.K tl):=by
 intro pins s σ H R I h
 refine thn (hl pins s σ H _ I h) λv s1 zq=>?_
 obtain⟨x,H1,I1,r1,q1⟩:=zq
 obtain⟨a,e,⟨xs,hq⟩,q⟩:=q1
 subst e
 cases r1
 obtain⟨its,rv,p,hz⟩:=I1.tuple hq
 refine wpAny_pyIter_tuple (show s1.heap.IsTuple a its.toArray from p) ?_
 refine⟨s1.heap.objs.size,[s1.heap.objs.size],_,_,H1,rfl,I1.kept (t':=s1.toks) λb o e=>Heap.get?_push_of_some _ e,yja a _,⟨_,Heap.get?_push_size _ rfl,rfl,rfl⟩,λb hb=>?_,q⟩
 have e:b=s1.heap.objs.size:=by simpa using hb
 subst e
 exact I1.fpOk (qR _) (I1.hok.fresh (qR _))
theorem yih {pins:List (Addr×Obj)}{σ:St}{H:Hp}{s:Shared}{R:It->Hp->Prop}{E:Value->Shared->Prop}{lo hi:Int}{t u v:Tok}{tk:Nat}(I:Inv X pins σ H s)(h1:-(2 ^ 62)<=lo)(h2:lo < 2 ^ 62)(h3:-(2 ^ 62)<=hi)(h4:hi < 2 ^ 62)
  (q:R (Itr lo (hi - lo).toNat) H):wpAny (model X.prog X.w) X.A (pyIter (.ref s.heap.objs.size)) (PIE X pins σ tg R) E { s with heap:=s.heap.push { cls:=.type "range",data:=.fields #[.int lo t,.int hi u,.int 1 v] },toks:=tk }:=by
 refine wpAny_pyIter_range (IsRange.new ..) (small_one h1 h2 h3 h4) ?_
 have I1:Inv X pins σ H { s with heap:=s.heap.push { cls:=.type "range",data:=.fields #[.int lo t,.int hi u,.int 1 v] },toks:=tk }:=I.kept λb o e=>Heap.get?_push_of_some _ e
 refine⟨(s.heap.push { cls:=.type "range",data:=.fields #[.int lo t,.int hi u,.int 1 v] }).objs.size,[(s.heap.push { cls:=.type "range",data:=.fields #[.int lo t,.int hi u,.int 1 v] }).objs.size],_,_,H,rfl,
  I1.kept (t':=tk) λb o e=>Heap.get?_push_of_some _ e,yi3 _ lo (hi - lo).toNat,?_,λb hb=>?_,q⟩
 ·have e1:lo+((0:Nat):Int)*1=lo:=by simp
  have e2:(((hi - lo).toNat:Nat):Int) - ((0:Nat):Int)=Builtin.Range.rangeSize lo hi 1:=by rw[rangeSize_one];split<;>omega
  show IsRangeIter _ _ (lo+((0:Nat):Int)*1) ((((hi - lo).toNat:Nat):Int) - ((0:Nat):Int)) 1
  rw[e1,e2]
  exact Heap.get?_push_size _ rfl
 ·have e:b=(s.heap.push { cls:=.type "range",data:=.fields #[.int lo t,.int hi u,.int 1 v] }).objs.size:=by simpa using hb
  subst e
  exact I1.fpOk (qR _) (I1.hok.fresh (qR _))
def ylV (ta:TA):TI:=fun σ H R=>ta σ H λvs H1=>∃ j:Int,vs=[.int j]/\-(2 ^ 62)<=j/\j < 2 ^ 62/\R (Itr 0 j.toNat) H1
def yoK (ta:TA):TI:=fun σ H R=>ta σ H λvs H1=>∃ i j:Int,vs=[.int i,.int j]/\(-(2 ^ 62)<=i/\i < 2 ^ 62/\-(2 ^ 62)<=j/\j < 2 ^ 62)/\R (Itr i (j - i).toNat) H1
theorem ycb {a:Expr}{ta:TA}{p pos:Pos}(hg:Gl X "range")(hm:X.mg "range"=none)(ha:PA X [a] ta)(hs:starEach [a] X.env=[(false,eval a X.env)]:=by rfl):PI X tg (.Call (.Name "range" p) [a] [] pos) (ylV ta):=by
 intro pins s σ H R I h
 refine Call_ (ydH I hg hm boot_range (PyProof.Rows.callWith_type1 (thn (ha pos pins s σ H _ I h) λus s1 zq=>?_) hs rfl))
 obtain⟨vs,H1,I1,r1,q1⟩:=zq
 obtain⟨j,e,q1,q2,q⟩:=q1
 subst e
 cases r1 with
 | cons r rr =>
  cases rr
  obtain⟨t,rfl⟩:=r
  exact call_range_1 (yih I1 (by omega) (by omega) q1 q2 (by simpa using q))
theorem yha {a b:Expr}{ta:TA}{p pos:Pos}(hg:Gl X "range")(hm:X.mg "range"=none)(ha:PA X [a,b] ta)(hs:starEach [a,b] X.env=[(false,eval a X.env),(false,eval b X.env)]:=by rfl)(hs2:starEach [b] X.env=[(false,eval b X.env)]:=by rfl) :
  PI X tg (.Call (.Name "range" p) [a,b] [] pos) (yoK ta):=by
 intro pins s σ H R I h
 refine Call_ (ydH I hg hm boot_range (PyProof.Rows.callWith_type1 (thn (ha pos pins s σ H _ I h) λus s1 zq=>?_) (by rw[hs,hs2]) (by rw[hs2];rfl)))
 obtain⟨vs,H1,I1,r1,q1⟩:=zq
 obtain⟨i,j,e,⟨q1,q2,q3,q4⟩,q⟩:=q1
 subst e
 cases r1 with
 | cons r rr =>
  cases rr with
  | cons r' rr =>
   cases rr
   obtain⟨t,rfl⟩:=r
   obtain⟨t',rfl⟩:=r'
   exact call_range_2 (yih I1 q1 q2 q3 q4 q)
def ylq (wi:TI)(g:TG)(tb:TS):TS:=λD σ H=>wi σ H λJ H1=>∃ W:Nat->Nat->St->Hp->Prop,(∃ m,W 0 m σ H1)/\∀ i m σ H,W i m σ H ->
 (J.stop i H/\D.nx σ H)∨(J.go i H/\∃ N:St->Hp->Prop,(∀ σ' H',N σ' H'->∃ m',m' < m/\W (i+1) m' σ' H')/\∀ x H',J.yld i H x H'->g x σ H' fun σ2 H2=>tb { D with nx:=N,ct:=N,bk:=D.nx } σ2 H2)
def ygp (fp:List Addr)(h:Heap):List (Addr×Obj):=fp.filterMap λb=>(h.get? b).map λo=>(b,o)
theorem ycW {fp:List Addr}{h:Heap}{b:Addr}{o:Obj}(hb:b∈fp)(e:h.get? b=some o):(b,o)∈ygp fp h:=List.mem_filterMap.mpr ⟨b,hb,by rw[e];rfl⟩
theorem ykT {fp:List Addr}{h:Heap}{p:Addr×Obj}(hp:p∈ygp fp h):p.1∈fp/\h.get? p.1=some p.2:=by
 obtain⟨b,hb,e⟩:=List.mem_filterMap.mp hp
 cases q:h.get? b with
 | none=>rw[q] at e;cases e
 | some o =>
  rw[q] at e
  have e':(b,o)=p:=Option.some.inj e
  subst e'
  exact⟨hb,q⟩
theorem Inv.pinned {pins:List (Addr×Obj)}{σ:St}{H:Hp}{s:Shared}{fp:List Addr}(I:Inv X pins σ H s)(hf:∀ b∈fp,yfT X pins H b)(ho:∀ b∈fp,∃ o,s.heap.get? b=some o/\∀ v,o.data≠.cell v):Inv X (pins++ygp fp s.heap) σ H s :=
 I.pins_of λp hp=>(List.mem_append.mp hp).elim (λz=>I.pin p (List.mem_append_right _ z)) λz=>by
  obtain⟨hb,e⟩:=ykT z
  obtain⟨f0,f1,f2,_⟩:=hf p.1 hb
  obtain⟨o,e',d⟩:=ho p.1 hb
  rw[e] at e';cases e'
  exact⟨e,f0,f1,f2,d⟩
theorem Inv.unpinned {pins pl:List (Addr×Obj)}{σ:St}{H:Hp}{s:Shared}(I:Inv X (pins++pl) σ H s):Inv X pins σ H s:=I.pins_of λp hp=>I.pin p (List.mem_append_right _ (List.mem_append_left _ hp))
theorem ycd {iter:Expr}{body:List Stmt}{wi:TI}{g:TG}{tb:TS}{pos:Pos}(hp:PassesOwn (model X.prog X.w) X.A X.env X.xe)(hc:X.calm=true)(hi:PI X tg iter wi)(hg:PG X tg g)(hb:PSs X body tb)
  (hs:∀ x,foldedSetIterable iter X.env x=pure x:=by intro _;rfl):PS X (.For tg iter body [] pos) (ylq wi g tb):=by
 intro pins s σ H D I h
 refine wpAny_For (thn (hi pins s σ H _ I h) λv s1 h1=>thn h1 λitv s2 h2=>?_) hs
 obtain⟨it,fp,tn,J,H2,e,I2,T,st2,f2,W,⟨m0,w0⟩,turn⟩:=h2
 subst e
 have stat:∀ {H':Hp},(∀ b∈fp,H' b=none)->∀ b∈fp,yfT X pins H' b:=λhn b hb=>⟨hn b hb,(f2 b hb).2⟩
 refine codeAny_forLoop_any (λn s'=>∃ i σ' H',Inv X pins σ' H' s'/\tn i s'.heap/\(∀ b∈fp,H' b=none)/\W i n σ' H') ?_ m0 ⟨0,σ,H2,I2,st2,λb hb=>(f2 b hb).1,w0⟩
 rintro n s3 ⟨i,σ3,H3,I3,st3,fr3,w3⟩
 rcases turn i n σ3 H3 w3 with ⟨stop,qn⟩ | ⟨go,N,hN,step⟩
 ·refine wpAny_passesOwn hp (thn (T.done X rfl rfl rfl hc i pins s3 σ3 H3 X.xe I3 (stat fr3) st3 stop) λr s4 zq=>?_)
  obtain⟨hr,I4⟩:=zq
  subst hr
  exact wpAny_execs_nil ⟨σ3,H3,I4,qn⟩
 ·refine wpAny_passesOwn hp (thn (T.item X rfl rfl rfl hc i pins s3 σ3 H3 X.xe I3 (stat fr3) st3 go) λr s4 zq=>?_)
  obtain⟨u,hr,h4⟩:=zq
  subst hr
  refine wpAny_passesOwn hp (thn h4 λ_ s5 zq=>?_)
  obtain⟨x,H5,I5,r5,y5,st5,fr5⟩:=zq
  have I5':=I5.pinned (stat fr5) (T.obj _ _ st5)
  refine wpAny_passesOwn hp (thn (hg _ s5 σ3 H5 x u _ I5' r5 (step x H5 y5)) λ_ s6 zq=>?_)
  obtain⟨σ6,H6,I6,q6⟩:=zq
  refine wpAny_passesOwn hp (thn (hb _ s6 σ6 H6 _ I6 q6) λf s7 q7=>?_)
  have again:∀ {σ7:St} {H7:Hp},Inv X (pins++ygp fp s5.heap) σ7 H7 s7->N σ7 H7->∃ m,m < n/\∃ i σ' H',Inv X pins σ' H' s7/\tn i s7.heap/\(∀ b∈fp,H' b=none)/\W i m σ' H':=λ{σ7 H7} I7 n7=>by
   obtain⟨m',hm,w7⟩:=hN σ7 H7 n7
   refine⟨m',hm,i+1,σ7,H7,I7.unpinned,T.keep _ _ _ st5 λb hb o e=>(I7.pin (b,o) (List.mem_append_right _ (List.mem_append_right _ (ycW hb e)))).1,λb hb=>?_,w7⟩
   obtain⟨o,e,d⟩:=T.obj _ _ st5 b hb
   exact(I7.pin (b,o) (List.mem_append_right _ (List.mem_append_right _ (ycW hb e)))).2.1
  cases f with
  | next=>obtain⟨σ7,H7,I7,n7⟩:=q7;exact again I7 n7
  | cont=>obtain⟨σ7,H7,I7,n7⟩:=q7;exact again I7 n7
  | brk=>obtain⟨σ7,H7,I7,q7⟩:=q7;exact⟨σ7,H7,I7.unpinned,q7⟩
  | ret v=>obtain⟨x7,σ7,H7,I7,r7,q7⟩:=q7;exact⟨x7,σ7,H7,I7.unpinned,r7,q7⟩
end
theorem yiN {K:qF}{a:Addr}{xs:List V}{g:TG}{tb:TS}{D:yeZ}{σ:St}{H:Hp}(Pv:Nat->St->Hp->Prop)(h0:Pv 0 σ H)(hl:∀ i σ H,i<=xs.length->Pv i σ H->SqL K H a xs)
  (hs:∀ i x σ H,xs[i]?=some x->Pv i σ H->g x σ H fun σ2 H2=>tb { D with nx:=Pv (i+1),ct:=Pv (i+1),bk:=D.nx } σ2 H2) (hd:∀ σ H,Pv xs.length σ H->D.nx σ H) :
  ∃ W:Nat->Nat->St->Hp->Prop,(∃ m,W 0 m σ H)/\∀ i m σ H,W i m σ H ->
   ((Itl K a).stop i H/\D.nx σ H)∨((Itl K a).go i H/\∃ N:St->Hp->Prop,(∀ σ' H',N σ' H'->∃ m',m' < m/\W (i+1) m' σ' H')/\∀ x H',(Itl K a).yld i H x H'->g x σ H' fun σ2 H2=>tb { D with nx:=N,ct:=N,bk:=D.nx } σ2 H2):=by
 refine⟨λi m σ H=>m=xs.length - i/\i<=xs.length/\Pv i σ H,⟨xs.length,by simp,Nat.zero_le _,h0⟩,?_⟩
 rintro i m σ H ⟨rfl,hi,p⟩
 have q:=hl i σ H hi p
 by_cases hlt:i < xs.length
 ·refine .inr ⟨⟨xs,xs[i],q,by simp[hlt]⟩,Pv (i+1),fun σ' H' p'=>⟨xs.length - (i+1),by omega,rfl,hlt,p'⟩,λx H' y=>?_⟩
  obtain⟨e,y⟩:=y
  subst e
  exact hs i x σ _ (y xs q) p
 ·have e:i=xs.length:=by omega
  subst e
  exact .inl ⟨⟨xs,q,qR _⟩,hd σ H p⟩
theorem ye8 {K:qF}{a:Addr}{xs:List V}{g:TG}{tb:TS}{D:yeZ}{σ:St}{H:Hp}(Pv:Nat->St->Hp->Prop)(h0:Pv 0 σ H)(hl:∀ i σ H,i<=xs.length->Pv i σ H->SqT K H a xs)
  (hs:∀ i x σ H,xs[i]?=some x->Pv i σ H->g x σ H fun σ2 H2=>tb { D with nx:=Pv (i+1),ct:=Pv (i+1),bk:=D.nx } σ2 H2) (hd:∀ σ H,Pv xs.length σ H->D.nx σ H) :
  ∃ W:Nat->Nat->St->Hp->Prop,(∃ m,W 0 m σ H)/\∀ i m σ H,W i m σ H ->
   ((Itt K a).stop i H/\D.nx σ H)∨((Itt K a).go i H/\∃ N:St->Hp->Prop,(∀ σ' H',N σ' H'->∃ m',m' < m/\W (i+1) m' σ' H')/\∀ x H',(Itt K a).yld i H x H'->g x σ H' fun σ2 H2=>tb { D with nx:=N,ct:=N,bk:=D.nx } σ2 H2):=by
 refine⟨λi m σ H=>m=xs.length - i/\i<=xs.length/\Pv i σ H,⟨xs.length,by simp,Nat.zero_le _,h0⟩,?_⟩
 rintro i m σ H ⟨rfl,hi,p⟩
 have q:=hl i σ H hi p
 by_cases hlt:i < xs.length
 ·refine .inr ⟨⟨xs,xs[i],q,by simp[hlt]⟩,Pv (i+1),fun σ' H' p'=>⟨xs.length - (i+1),by omega,rfl,hlt,p'⟩,λx H' y=>?_⟩
  obtain⟨e,y⟩:=y
  subst e
  exact hs i x σ _ (y xs q) p
 ·have e:i=xs.length:=by omega
  subst e
  exact .inl ⟨⟨xs,q,qR _⟩,hd σ H p⟩
theorem yg2 {lo:Int}{n:Nat}{g:TG}{tb:TS}{D:yeZ}{σ:St}{H:Hp}(Pv:Nat->St->Hp->Prop)(h0:Pv 0 σ H)
  (hs:∀ i σ H,i < n->Pv i σ H->g (.int (lo+i)) σ H fun σ2 H2=>tb { D with nx:=Pv (i+1),ct:=Pv (i+1),bk:=D.nx } σ2 H2) (hd:∀ σ H,Pv n σ H->D.nx σ H) :
  ∃ W:Nat->Nat->St->Hp->Prop,(∃ m,W 0 m σ H)/\∀ i m σ H,W i m σ H ->
   ((Itr lo n).stop i H/\D.nx σ H)∨((Itr lo n).go i H/\∃ N:St->Hp->Prop,(∀ σ' H',N σ' H'->∃ m',m' < m/\W (i+1) m' σ' H')/\∀ x H',(Itr lo n).yld i H x H'->g x σ H' fun σ2 H2=>tb { D with nx:=N,ct:=N,bk:=D.nx } σ2 H2):=by
 refine⟨λi m σ H=>m=n - i/\i<=n/\Pv i σ H,⟨n,by simp,Nat.zero_le _,h0⟩,?_⟩
 rintro i m σ H ⟨rfl,hi,p⟩
 by_cases hlt:i < n
 ·refine .inr ⟨hlt,Pv (i+1),fun σ' H' p'=>⟨n - (i+1),by omega,rfl,hlt,p'⟩,λx H' y=>?_⟩
  obtain⟨e,y⟩:=y
  subst e y
  exact hs i σ _ hlt p
 ·have e:i=n:=by omega
  subst e
  exact .inl ⟨qR _,hd σ H p⟩
abbrev R2:=V->V->Hp->VK->Prop
def OpR (X:Cx)(f:Value->Value->Sem Value)(r:R2):Prop :=
 ∀ (pins:List (Addr×Obj)) (s:Shared) (σ:St) (H:Hp) (x y:V) (v u:Value) (Q:VK),Inv X pins σ H s->RelV x v->RelV y u->r x y H Q ->
  wpAny (model X.prog X.w) X.A (f v u) (EP X pins σ Q) X.xe s
def UnR (X:Cx)(f:Value->Sem Value)(r:V->Hp->VK->Prop):Prop :=
 ∀ (pins:List (Addr×Obj)) (s:Shared) (σ:St) (H:Hp) (x:V) (v:Value) (Q:VK),Inv X pins σ H s->RelV x v->r x H Q ->
  wpAny (model X.prog X.w) X.A (f v) (EP X pins σ Q) X.xe s
def ybF (X:Cx)(f:Value)(r:List V->Hp->VK->Prop):Prop :=
 ∀ (pins:List (Addr×Obj)) (s:Shared) (σ:St) (H:Hp) (xs:List V) (us:List Value) (Q:VK),Inv X pins σ H s->Vals xs us->r xs H Q ->
  wpAny (model X.prog X.w) X.A (call f us) (EP X pins σ Q) X.xe s
def tOp (r:R2)(ta tb:TE):TE:=fun σ H Q=>ta σ H λx H1=>tb σ H1 λy H2=>r x y H2 Q
def tUn (r:V->Hp->VK->Prop)(ta:TE):TE:=fun σ H Q=>ta σ H λx H1=>r x H1 Q
def rI (C:Int->Int->Prop)(g:Int->Int->V):R2:=λx y H Q=>∃ i j,x=.int i/\y=.int j/\C i j/\Q (g i j) H
def rI0 (g:Int->Int->V):R2:=λx y H Q=>∃ i j,x=.int i/\y=.int j/\Q (g i j) H
def rU (g:Int->V):V->Hp->VK->Prop:=λx H Q=>∃ i,x=.int i/\Q (g i) H
section
variable {X:Cx} {a b c:Expr} {ta tb tc:TE} {pos:Pos}
theorem ytk (ha:PE X a ta)(hb:PE X b tb){pins:List (Addr×Obj)}{s:Shared}{σ:St}{H:Hp}{R:V->V->Hp->Prop}(I:Inv X pins σ H s)
  (h:ta σ H λx H1=>tb σ H1 λy H2=>R x y H2) {Q:Value->Shared->Prop} {f:Value->Value->Sem Value}
  (hf:∀ v u s2 x y H2,Inv X pins σ H2 s2->RelV x v->RelV y u->R x y H2->wpAny (model X.prog X.w) X.A (f v u) Q X.xe s2) :
  wpAny (model X.prog X.w) X.A (eval a X.env) (λv s₁=>wpAny (model X.prog X.w) X.A (eval b X.env) (λu s₂=>wpAny (model X.prog X.w) X.A (f v u) Q X.xe s₂) X.xe s₁) X.xe s:=by
 refine thn (ha pins s σ H _ I h) λv s1 zq=>?_
 obtain⟨x,H1,I1,r1,q1⟩:=zq
 refine thn (hb pins s1 σ H1 _ I1 q1) λu s2 zq=>?_
 obtain⟨y,H2,I2,r2,q2⟩:=zq
 exact hf v u s2 x y H2 I2 r1 r2 q2
theorem yay {op:Operator}{r:R2}(ho:OpR X (binaryOp op) r)(ha:PE X a ta)(hb:PE X b tb):PE X (.BinOp a op b pos) (tOp r ta tb):=by
 intro pins s σ H Q I h
 exact wpAny_BinOp (ytk ha hb I h λv u s2 x y H2 I2 rx ry q=>ho pins s2 σ H2 x y v u Q I2 rx ry q)
theorem ye9 {op:UnaryOp}{r:V->Hp->VK->Prop}(ho:UnR X (unaryOp op) r)(ha:PE X a ta):PE X (.UnaryOp op a pos) (tUn r ta):=by
 intro pins s σ H Q I h
 exact UnaryOp_ (thn (ha pins s σ H _ I h) λv s1 ⟨x,H1,I1,r1,q1⟩=>ho pins s1 σ H1 x v Q I1 r1 q1)
theorem opI {f:Value->Value->Sem Value}{C:Int->Int->Prop}{g:Int->Int->Int}
  (rule:∀ (i j:Int) (t u:Tok) (s:Shared) (Q:Value->Shared->Prop) (E:Value->Shared->Prop),C i j->Q (.int (g i j) s.toks) { s with toks:=s.toks+1 }->wpAny (model X.prog X.w) X.A (f (.int i t) (.int j u)) Q E s) :
  OpR X f (rI C λi j=>.int (g i j)):=by
 intro pins s σ H x y v u Q I rx ry h
 obtain⟨i,j,rfl,rfl,hc,q⟩:=h
 obtain⟨t,rfl⟩:=rx
 obtain⟨t',rfl⟩:=ry
 exact rule i j t t' s _ _ hc ⟨.int (g i j),H,I.tok _,⟨_,rfl⟩,q⟩
theorem yuR {f:Value->Value->Sem Value}{g:Int->Int->Int}
  (rule:∀ (i j:Int) (t u:Tok) (s:Shared) (Q:Value->Shared->Prop) (E:Value->Shared->Prop),Q (.int (g i j) s.toks) { s with toks:=s.toks+1 }->wpAny (model X.prog X.w) X.A (f (.int i t) (.int j u)) Q E s) :
  OpR X f (rI0 λi j=>.int (g i j)):=by
 intro pins s σ H x y v u Q I rx ry h
 obtain⟨i,j,rfl,rfl,q⟩:=h
 obtain⟨t,rfl⟩:=rx
 obtain⟨t',rfl⟩:=ry
 exact rule i j t t' s _ _ ⟨.int (g i j),H,I.tok _,⟨_,rfl⟩,q⟩
theorem ytm {f:Value->Value->Sem Value}{g:Int->Int->Bool}
  (rule:∀ (i j:Int) (t u:Tok) (s:Shared) (Q:Value->Shared->Prop) (E:Value->Shared->Prop),Q (.bool (g i j)) s->wpAny (model X.prog X.w) X.A (f (.int i t) (.int j u)) Q E s) :
  OpR X f (rI0 λi j=>.bl (g i j)):=by
 intro pins s σ H x y v u Q I rx ry h
 obtain⟨i,j,rfl,rfl,q⟩:=h
 obtain⟨t,rfl⟩:=rx
 obtain⟨t',rfl⟩:=ry
 exact rule i j t t' s _ _ ⟨.bl (g i j),H,I,rfl,q⟩
def yu5 (i j:Int):Prop:=0 < j/\j < 1073741824
def CMul (i j:Int):Prop:=(-(2 ^ 64) < i/\i < 2 ^ 64)∨(-(2 ^ 64) < j/\j < 2 ^ 64)
theorem CMul.ok {i j:Int}(h:CMul i j):IntMulOk i j:=by
 rcases h with ⟨h1,h2⟩ | ⟨h1,h2⟩
 ·exact .of_left (intBits_le_64 h1 h2)
 ·exact .of_right (intBits_le_64 h1 h2)
theorem ybv:OpR X (binaryOp .Add) (rI0 λi j=>.int (i+j)):=yuR λ_ _ _ _ _ _ _ q=>add_int q
theorem yiy:OpR X (binaryOp .Sub) (rI0 λi j=>.int (i - j)):=yuR λ_ _ _ _ _ _ _ q=>sub_int q
theorem yb2:OpR X (binaryOp .FloorDiv) (rI yu5 λi j=>.int (i / j)):=opI λi j _ _ _ _ _ hc q=>by
 have h1:(0:Int) < j:=hc.1
 have h2:j < 1073741824:=hc.2
 exact floordiv_int (by omega) (by rw[Int.fdiv_eq_ediv_of_nonneg i (by omega)];exact q) (.inl (PyProof.noPylong_small (by omega)))
theorem yeR:OpR X (binaryOp .Mod) (rI (λ_ j=>0 < j) λi j=>.int (i%j)):=opI λi j _ _ _ _ _ hc q=>by
 have h1:(0:Int) < j:=hc
 exact mod_int' (by omega) (by rw[Int.fmod_eq_emod_of_nonneg i (by omega)];exact q)
theorem unI {f:Value->Sem Value}{g:Int->Int}
  (rule:∀ (i:Int) (t:Tok) (s:Shared) (Q:Value->Shared->Prop) (E:Value->Shared->Prop),Q (.int (g i) s.toks) { s with toks:=s.toks+1 }->wpAny (model X.prog X.w) X.A (f (.int i t)) Q E s) :
  UnR X f (rU λi=>.int (g i)):=by
 intro pins s σ H x v Q I rx h
 obtain⟨i,rfl,q⟩:=h
 obtain⟨t,rfl⟩:=rx
 exact rule i t s _ _ ⟨.int (g i),H,I.tok _,⟨_,rfl⟩,q⟩
theorem ydh:UnR X (unaryOp .USub) (rU λi=>.int (-i)):=unI λ_ _ _ _ _ q=>neg_int q
end
def ys9:V->V->Bool
 | .non,.non=>true | .non,.int _=>true | .int _,.non=>true | .non,.bl _=>true | .bl _,.non=>true | .non,.str _=>true | .str _,.non=>true
 | .int _,.int _=>true | .bl _,.bl _=>true | .str _,.str _=>true | .byt _,.byt _=>true
 | .int _,.str _=>true | .str _,.int _=>true | .bl _,.str _=>true | .str _,.bl _=>true
 | _,_=>false
def rEq:R2:=λx y H Q=>ys9 x y=true/\Q (.bl (decide (x=y))) H
def rNe:R2:=λx y H Q=>ys9 x y=true/\Q (.bl (!decide (x=y))) H
theorem ykm {i j:Int}:decide (V.int i=V.int j)=(i==j):=by
 rw[Bool.eq_iff_iff]
 simp
theorem ynE {i j:Bool}:decide (V.bl i=V.bl j)=(i==j):=by
 rw[Bool.eq_iff_iff]
 simp
theorem yj2 {i j:Str}:decide (V.str i=V.str j)=(i==j):=by
 rw[Bool.eq_iff_iff]
 simp
theorem yjE {i j:Array UInt8}:decide (V.byt i=V.byt j)=(i.toList==j.toList):=by
 rw[Bool.eq_iff_iff]
 cases i
 cases j
 simp
section
variable {X:Cx} {a b c:Expr} {ta tb tc:TE} {pos:Pos}
theorem yaY {pins:List (Addr×Obj)}{σ:St}{H:Hp}{s:Shared}{Q:VK}{k k':Bool}(I:Inv X pins σ H s)(q:Q (.bl k) H)(e:k=k'):EP X pins σ Q (.bool k') s:=by
 subst e
 exact⟨.bl k,H,I,rfl,q⟩
theorem ya2:OpR X (compareOp .Eq) rEq:=by
 intro pins s σ H x y v u Q I rx ry h
 obtain⟨hs,q⟩:=h
 cases x with
 | non =>
  cases rx
  cases y with
  | non=>cases ry;exact PySem.EqNone.eq_none_none (yaY I q (by simp))
  | bl j=>cases ry;exact PySem.EqNone.eq_none_bool (yaY I q (by simp))
  | int j=>obtain⟨t',rfl⟩:=ry;exact PySem.EqNone.eq_none_int (yaY I q (by simp))
  | str j=>obtain⟨t',rfl⟩:=ry;exact PySem.EqNone.eq_none_str (yaY I q (by simp))
  | _=>exact absurd (show false=true from hs) qN
 | bl i =>
  cases rx
  cases y with
  | non=>cases ry;exact PySem.EqNone.eq_bool_none (yaY I q (by simp))
  | bl j=>cases ry;exact eq_bool (yaY I q ynE)
  | str j=>obtain⟨t',rfl⟩:=ry;exact PySem.EqMixed.eq_bool_str (yaY I q (by simp))
  | _=>exact absurd (show false=true from hs) qN
 | int i =>
  obtain⟨t,rfl⟩:=rx
  cases y with
  | non=>cases ry;exact PySem.EqNone.eq_int_none (yaY I q (by simp))
  | int j=>obtain⟨t',rfl⟩:=ry;exact eq_int (yaY I q ykm)
  | str j=>obtain⟨t',rfl⟩:=ry;exact PySem.EqMixed.eq_int_str (yaY I q (by simp))
  | _=>exact absurd (show false=true from hs) qN
 | str i =>
  obtain⟨t,rfl⟩:=rx
  cases y with
  | non=>cases ry;exact PySem.EqNone.eq_str_none (yaY I q (by simp))
  | bl j=>cases ry;exact PySem.EqMixed.eq_str_bool (yaY I q (by simp))
  | int j=>obtain⟨t',rfl⟩:=ry;exact PySem.EqMixed.eq_str_int (yaY I q (by simp))
  | str j=>obtain⟨t',rfl⟩:=ry;exact eq_str (yaY I q yj2)
  | _=>exact absurd (show false=true from hs) qN
 | byt i =>
  obtain⟨t,rfl⟩:=rx
  cases y with
  | byt j=>obtain⟨t',rfl⟩:=ry;exact PySem.W.eq_bytes (yaY I q yjE)
  | _=>exact absurd (show false=true from hs) qN
 | _=>cases y<;>exact absurd (show false=true from hs) qN
theorem yeI:OpR X (compareOp .NotEq) rNe:=by
 intro pins s σ H x y v u Q I rx ry h
 obtain⟨hs,q⟩:=h
 cases x with
 | non =>
  cases rx
  cases y with
  | non=>cases ry;exact PySem.EqNone.ne_none_none (yaY I q (by simp))
  | bl j=>cases ry;exact PySem.EqNone.ne_none_bool (yaY I q (by simp))
  | int j=>obtain⟨t',rfl⟩:=ry;exact PySem.EqNone.ne_none_int (yaY I q (by simp))
  | str j=>obtain⟨t',rfl⟩:=ry;exact PySem.EqNone.ne_none_str (yaY I q (by simp))
  | _=>exact absurd (show false=true from hs) qN
 | bl i =>
  cases rx
  cases y with
  | non=>cases ry;exact PySem.EqNone.ne_bool_none (yaY I q (by simp))
  | bl j=>cases ry;exact ne_bool (yaY I q (congrArg not ynE))
  | str j=>obtain⟨t',rfl⟩:=ry;exact PySem.EqMixed.ne_bool_str (yaY I q (by simp))
  | _=>exact absurd (show false=true from hs) qN
 | int i =>
  obtain⟨t,rfl⟩:=rx
  cases y with
  | non=>cases ry;exact PySem.EqNone.ne_int_none (yaY I q (by simp))
  | int j=>obtain⟨t',rfl⟩:=ry;exact ne_int (yaY I q (congrArg not ykm))
  | str j=>obtain⟨t',rfl⟩:=ry;exact PySem.EqMixed.ne_int_str (yaY I q (by simp))
  | _=>exact absurd (show false=true from hs) qN
 | str i =>
  obtain⟨t,rfl⟩:=rx
  cases y with
  | non=>cases ry;exact PySem.EqNone.ne_str_none (yaY I q (by simp))
  | bl j=>cases ry;exact PySem.EqMixed.ne_str_bool (yaY I q (by simp))
  | int j=>obtain⟨t',rfl⟩:=ry;exact PySem.EqMixed.ne_str_int (yaY I q (by simp))
  | str j=>obtain⟨t',rfl⟩:=ry;exact ne_str (yaY I q (congrArg not yj2))
  | _=>exact absurd (show false=true from hs) qN
 | byt i =>
  obtain⟨t,rfl⟩:=rx
  cases y with
  | byt j=>obtain⟨t',rfl⟩:=ry;exact PySem.W.ne_bytes (yaY I q (congrArg not yjE))
  | _=>exact absurd (show false=true from hs) qN
 | _=>cases y<;>exact absurd (show false=true from hs) qN
theorem yfO:OpR X (compareOp .Lt) (rI0 λi j=>.bl (decide (i < j))):=ytm λ_ _ _ _ _ _ _ q=>lt_int q
theorem yfr:OpR X (compareOp .LtE) (rI0 λi j=>.bl (decide (i<=j))):=ytm λ_ _ _ _ _ _ _ q=>le_int q
theorem yiQ:OpR X (compareOp .Gt) (rI0 λi j=>.bl (decide (j < i))):=ytm λ_ _ _ _ _ _ _ q=>gt_int q
theorem ybZ:OpR X (compareOp .In) (λx y H Q=>∃ i j,x=.str i/\y=.str j/\Q (.bl (!(Builtin.Str.occurrences j i 0 j.length 1).isEmpty)) H):=by
 intro pins s σ H x y v u Q I rx ry h
 obtain⟨i,j,rfl,rfl,q⟩:=h
 obtain⟨t,rfl⟩:=rx
 obtain⟨t',rfl⟩:=ry
 exact in_str (yaY I q rfl)
theorem ycu:OpR X (compareOp .Is) (λx y H Q=>y=.non/\Q (.bl (decide (x=.non))) H):=by
 intro pins s σ H x y v u Q I rx ry h
 obtain⟨rfl,q⟩:=h
 cases ry
 refine is_none_gen (yaY I q ?_)
 cases x<;>first
  | (cases rx;rfl)
  | (obtain⟨t,rfl⟩:=rx;rfl)
theorem ycl:OpR X (compareOp .NotIn) (λx y H Q=>∃ i j,x=.str i/\y=.str j/\Q (.bl (!(!(Builtin.Str.occurrences j i 0 j.length 1).isEmpty))) H):=by
 intro pins s σ H x y v u Q I rx ry h
 obtain⟨i,j,rfl,rfl,q⟩:=h
 obtain⟨t,rfl⟩:=rx
 obtain⟨t',rfl⟩:=ry
 exact notIn_str (yaY I q rfl)
theorem yat (b:Expr){op:CmpOp}(h:op≠.In:=by decide)(h2:op≠.NotIn:=by decide):behindInMarks op b=false:=by
 have e1:(op==CmpOp.In)=false:=by cases op<;>first | rfl | exact absurd rfl h
 have e2:(op==CmpOp.NotIn)=false:=by cases op<;>first | rfl | exact absurd rfl h2
 cases b<;>simp[behindInMarks,e1,e2]
theorem yaS {op:CmpOp}{r:R2}(ho:OpR X (compareOp op) r)(ha:PE X a ta)(hb:PE X b tb)(hm:behindInMarks op b=false):PE X (.Compare a [op] [b] pos) (tOp r ta tb):=by
 intro pins s σ H Q I h
 exact wpAny_Compare1 (ytk ha hb I h λv u s2 x y H2 I2 rx ry q=>ho pins s2 σ H2 x y v u Q I2 rx ry q) hm
def ylS (t:TE):TT:=fun σ H Q=>t σ H λx H'=>∃ k,x=.bl k/\Q k H'
theorem yap {op:CmpOp}{r:R2}(ho:OpR X (compareOp op) r)(ha:PE X a ta)(hb:PE X b tb)(hm:behindInMarks op b=false):PT X (.Compare a [op] [b] pos) (ylS (tOp r ta tb)):=by
 intro pins s σ H Q I h
 refine wpAny_isTrue_Compare1 (thn (ha pins s σ H _ I h) λv s1 ⟨x,H1,I1,r1,q1⟩=>thn (hb pins s1 σ H1 _ I1 q1) λu s2 ⟨y,H2,I2,r2,q2⟩ =>
  thn (ho pins s2 σ H2 x y v u _ I2 r1 r2 q2) λc s3 ⟨z,H3,I3,r3,k,e,q3⟩=>?_) hm
 subst e
 cases r3
 exact wpAny_truthy_bool ⟨H3,I3,q3⟩
def yiw (r r':R2)(ta tb tc:TE):TE:=fun σ H Q=>ta σ H λx H1=>tb σ H1 λy H2=>r x y H2 λz H3=>∃ k,z=.bl k /\
 (if k=true then tc σ H3 λw' H4=>r' y w' H4 Q else Q (.bl false) H3)
theorem yfe {op op':CmpOp}{r r':R2}(ho:OpR X (compareOp op) r)(ho':OpR X (compareOp op') r')(ha:PE X a ta)(hb:PE X b tb)(hc:PE X c tc)
  (hm:lastMarks [op,op'] [b,c]=false:=by with_unfolding_all rfl):PE X (.Compare a [op,op'] [b,c] pos) (yiw r r' ta tb tc):=by
 intro pins s σ H Q I h
 refine Compare_chain (thn (ha pins s σ H _ I h) λv s1 ⟨x,H1,I1,r1,q1⟩=>chain_link (thn (hb pins s1 σ H1 _ I1 q1) λu s2 ⟨y,H2,I2,r2,q2⟩ =>
  thn (ho pins s2 σ H2 x y v u _ I2 r1 r2 q2) λd s3 ⟨z,H3,I3,r3,k,e,q3⟩=>?_)) hm
 subst e
 cases r3
 refine wpAny_truthy_bool ?_
 cases k with
 | false=>exact ite_ff ⟨.bl false,H3,I3,rfl,q3⟩
 | true=>exact ite_tt (chain_last (thn (hc pins s3 σ H3 _ I3 q3) λw' s4 ⟨z',H4,I4,r4,q4⟩=>ho' pins s4 σ H4 y z' u w' Q I4 r2 r4 q4))
theorem ymq {op op':CmpOp}{r r':R2}(ho:OpR X (compareOp op) r)(ho':OpR X (compareOp op') r')(ha:PE X a ta)(hb:PE X b tb)(hc:PE X c tc)
  (hm:lastMarks [op,op'] [b,c]=false:=by with_unfolding_all rfl):PT X (.Compare a [op,op'] [b,c] pos) (ylS (yiw r r' ta tb tc)):=by
 intro pins s σ H Q I h
 refine isTrue_chain (thn (ha pins s σ H _ I h) λv s1 ⟨x,H1,I1,r1,q1⟩=>test_link (thn (hb pins s1 σ H1 _ I1 q1) λu s2 ⟨y,H2,I2,r2,q2⟩ =>
  thn (ho pins s2 σ H2 x y v u _ I2 r1 r2 q2) λd s3 ⟨z,H3,I3,r3,k,e,q3⟩=>?_)) hm
 subst e
 cases r3
 refine wpAny_truthy_bool ?_
 cases k with
 | false =>
  obtain⟨k',e',q'⟩:=q3
  cases e'
  exact ite_ff ⟨H3,I3,q'⟩
 | true =>
  refine ite_tt (test_last (thn (hc pins s3 σ H3 _ I3 q3) λw' s4 ⟨z',H4,I4,r4,q4⟩=>thn (ho' pins s4 σ H4 y z' u w' _ I4 r2 r4 q4) λd' s5 zq=>?_))
  obtain⟨z2,H5,I5,r5,k2,e2,q5⟩:=zq
  subst e2
  cases r5
  exact wpAny_truthy_bool ⟨H5,I5,q5⟩
theorem yee:(sizeLine:Nat) < 2 ^ 63:=by rw[sizeLine_eq];decide
theorem yaq:OpR X (binaryOp .Add) (λx y H Q=>∃ i j,x=.str i/\y=.str j/\i.length+j.length<=sizeLine/\Q (.str (i++j)) H):=by
 intro pins s σ H x y v u Q I rx ry h
 obtain⟨i,j,rfl,rfl,hz,q⟩:=h
 obtain⟨t,rfl⟩:=rx
 obtain⟨t',rfl⟩:=ry
 exact add_str (λt' tk=>⟨.str (i++j),H,I.tok _,⟨_,rfl⟩,q⟩) hz
theorem ydG {x:V}{us:List Value}(r:Vals [x] us):∃ u,us=[u]/\RelV x u:=by
 cases r with
 | cons r1 r2=>cases r2;exact⟨_,rfl,r1⟩
theorem yfX {x y:V}{us:List Value}(r:Vals [x,y] us):∃ u w',us=[u,w']/\RelV x u/\RelV y w':=by
 cases r with
 | cons r1 r2 =>
  cases r2 with
  | cons r3 r4=>cases r4;exact⟨_,_,rfl,r1,r3⟩
theorem ykq (hc:X.calm=true):ybF X (.builtin "min") (λxs H Q=>∃ i j,xs=[.int i,.int j]/\Q (.int (if j < i then j else i)) H):=by
 intro pins s σ H xs us Q I r h
 obtain⟨i,j,rfl,q⟩:=h
 obtain⟨u,w',rfl,⟨t,rfl⟩,⟨t',rfl⟩⟩:=yfX r
 refine min_two_ints (I.ok.hd hc) λh' tk k=>⟨_,H,I.kept k,?_,q⟩
 by_cases hj:j < i
 ·rw[if_pos hj,if_pos hj];exact⟨_,rfl⟩
 ·rw[if_neg hj,if_neg hj];exact⟨_,rfl⟩
theorem ycc:ybF X (.type "int") (λxs H Q=>(∃ i,xs=[.int i]/\Q (.int i) H)∨∃ k,xs=[.bl k]/\Q (.int (if k then 1 else 0)) H):=by
 intro pins s σ H xs us Q I r h
 rcases h with ⟨i,rfl,q⟩ | ⟨k,rfl,q⟩
 ·obtain⟨u,rfl,t,rfl⟩:=ydG r
  exact call_int_int ⟨.int i,H,I,⟨_,rfl⟩,q⟩
 ·obtain⟨u,rfl,r1⟩:=ydG r
  cases r1
  exact call_int_bool ⟨.int (if k then 1 else 0),H,I.tok _,⟨_,rfl⟩,q⟩
theorem yaU:ybF X (.type "str") (λxs H Q=>∃ i,xs=[.int i]/\i.natAbs.log2 < 1920/\Q (.str (toString i)) H):=by
 intro pins s σ H xs us Q I r h
 obtain⟨i,rfl,hz,q⟩:=h
 obtain⟨u,rfl,t,rfl⟩:=ydG r
 exact PySem.P.str_of_int hz ⟨.str _,H,I.tok _,⟨_,rfl⟩,q⟩
def yvE (K:qF)(x:V)(H:Hp)(n:Nat):Prop :=
 match x with
 | .str y=>y.length<=sizeLine/\n=y.length
 | .byt y=>y.size<=sizeLine/\n=y.size
 | .ref p=>(∃ xs,SqL K H p xs/\n=xs.length)∨∃ xs,SqT K H p xs/\n=xs.length
 | _=>False
theorem yh7:ybF X (.builtin "len") (λxs H Q=>∃ x n,xs=[x]/\yvE X.K x H n/\Q (.int n) H):=by
 intro pins s σ H xs us Q I r h
 obtain⟨x,n,rfl,e,q⟩:=h
 obtain⟨u,rfl,rx⟩:=ydG r
 have hl:=yee
 have hs:sizeLine=16777216:=sizeLine_eq
 cases x with
 | str y =>
  obtain⟨t,rfl⟩:=rx
  obtain⟨hy,e'⟩:y.length<=sizeLine/\n=y.length:=e
  subst e'
  exact len_str (by omega) ⟨.int _,H,I.tok _,⟨_,rfl⟩,q⟩
 | byt y =>
  obtain⟨t,rfl⟩:=rx
  obtain⟨hy,e'⟩:y.size<=sizeLine/\n=y.size:=e
  subst e'
  exact PySem.W.len_bytes (by omega) ⟨.int _,H,I.tok _,⟨_,rfl⟩,q⟩
 | ref p =>
  cases rx
  have e':(∃ xs,SqL X.K H p xs/\n=xs.length)∨∃ xs,SqT X.K H p xs/\n=xs.length:=e
  rcases e' with ⟨xs,hx,e'⟩ | ⟨xs,hx,e'⟩
  ·subst e'
   obtain⟨its,r',pl,hz⟩:=I.list hx
   have hlen:=r'.length
   exact Calls.call_len_list pl.isList (by simp only[qZ];omega) ⟨.int xs.length,H,I.tok _,⟨_,by simp only[qZ];rw[hlen]⟩,q⟩
  ·subst e'
   obtain⟨its,r',pl,hz⟩:=I.tuple hx
   have hlen:=r'.length
   exact len_tuple pl (by simp only[qZ];omega) ⟨.int xs.length,H,I.tok _,⟨_,by simp only[qZ];rw[hlen]⟩,q⟩
 | _=>exact(show False from e).elim
end
structure ObjM (h:Heap) (x dx C:Addr) (mA:Str->Option Value):Prop where
 obj:h.get? x=some (PySem.W.instObj C dx)
 ns:h.Ns1 dx mA
 ne:dx≠x
theorem yjK {h:Heap}{dx:Addr}{mA:Str->Option Value}(n:h.Ns1 dx mA):∃ od,h.get? dx=some od/\∀ name,PySem.W.lookIn name od=some (mA name):=by
 obtain⟨o,es,ep,ho,hd,hk,_,hm⟩:=n
 refine⟨o,ho,λname=>?_⟩
 have e:=hm name
 unfold nsFind findBy at e
 rw[← Array.find?_toList] at e
 unfold PySem.W.lookIn
 rw[hd]
 dsimp only
 split
 ·rename_i y q
  rw[q] at e
  exact congrArg some e
 ·rename_i q
  rw[q] at e
  have a:es.toList.any (·.refKey)=false:=by
   rw[List.any_eq_false]
   intro y hy
   obtain⟨z,t,hkey⟩:=hk y (Array.mem_toList_iff.mp hy)
   simp[DictEntry.refKey,hkey]
  have a':¬ es.toList.any (·.refKey)=true:=by rw[a];exact qN
  rw[if_neg a']
  exact congrArg some e
theorem ObjM.look {h:Heap}{x dx C:Addr}{mA:Str->Option Value}(I:ObjM h x dx C mA):∃ od,PySem.W.InstAt h x (PySem.W.instObj C dx) C (some od)/\∀ name,PySem.W.lookIn name od=some (mA name) :=
 let ⟨od,ho,hl⟩:=yjK I.ns
 ⟨od,⟨I.obj,rfl,rfl,ho⟩,hl⟩
section
variable {prog:Program} {w:World} {A:Around} {E:Value->Shared->Prop} {s:Shared} {K:qF} {x dx C f:Addr} {mA:Str->Option Value} {name:Str} {v:Value}
theorem yov {expr:Bool}{Q:Value->Shared->Prop}(X:K.In s.heap)(I:ObjM s.heap x dx C mA)(hg:PySem.W.plainGet K C name=true)(hh:PySem.W.hasDictIn K C=true)
  (ha:PySem.W.findIn K (.ref C) name=some none) (hv:mA name=some v) (hv':PySem.W.handedIn v=true) (h:Q v { s with toks:=s.toks+1 }) :
  wpAny (model prog w) A (getAttr (.ref x) name expr) Q E s:=by
 obtain⟨od,J,hl⟩:=I.look
 exact PySem.W.get_value X J (PySem.W.plainGet_of hg).1 (PySem.W.findObj_own hh ha rfl (by rw[hl,hv])) hv' h
theorem yl5 {pl:Sem Bool}{Q:Value×List Value->Shared->Prop}(X:K.In s.heap)(I:ObjM s.heap x dx C mA)(hg:PySem.W.plainGet K C name=true)
  (hf:PySem.W.findIn K (.ref C) name=some (some (.ref f))) (ht:PySem.W.isFn K (.ref f)=true) (hv:mA name=none) (h:Q (.ref f,[.ref x]) s) :
  wpAny (model prog w) A (getMethod (.ref x) name pl) Q E s:=by
 obtain⟨od,J,hl⟩:=I.look
 exact PySem.W.method_fn X J (PySem.W.plainGet_of hg).1 (PySem.W.plainGet_of hg).2 hf (beq_iff_eq.mp ht) (by show(PySem.W.lookIn name od).map (·.isSome)=some false;rw[hl,hv];rfl) h
theorem yoe {ns:List Str}{Q:Unit->Shared->Prop}(X:K.In s.heap)(I:ObjM s.heap x dx C mA)
  (hs:PySem.W.findIn K (.ref C) "__setattr__"=some (some (.builtin "object.__setattr__"))) (hp:PySem.W.plainOver K C=true) (ht:PySem.W.takerIn K C name=some none) (hh:PySem.W.hasDictIn K C=true)
  (hw:PySem.Within mA ns) (hsz:ns.length<=sizeLine)
  (h:∀ h',ObjM h' x dx C (λy=>if y=name then some v else mA y)->Heap.SameBut dx s.heap h'->Q () { s with heap:=h',toks:=s.toks+2 }) :
  wpAny (model prog w) A (setAttr (.ref x) name v) Q E s:=by
 obtain⟨od,J,hl⟩:=I.look
 refine PySem.W.set_plain X J hs (PySem.W.osa_open (s:={ s with toks:=s.toks+1 }) (r:=none) X J hp ht λb=>?_)
 obtain⟨cd,hc,hd'⟩:=PySem.W.any_some hh
 have hx:s.heap.get? x=some ⟨.ref C,some dx,.plain,#[]⟩:=I.obj
 refine wpAny_bind (wpAny_pure (wpAny_bind (wpAny_bind (wpAny_loadPart hx (wpAny_bind (PySem.W.Looks.here (s:={ s with toks:=s.toks+1 }) (PySem.W.looks_clsIn X hc) ?_))))))
 rw[hd']
 refine wpAny_pure (a:=some dx) (wpAny_bind (wpAny_pure (wpAny_bind ?_)))
 refine wpAny_nsSet1 (s:={ s with toks:=s.toks+1 }) I.ns λh' hn2 hs2=>?_
 obtain⟨oD,esD,epD,hoD,hdD,hcD⟩:=hn2.count (PySem.Within.cons name v hw)
 refine wpAny_bind (wpAny_lookBehind hoD (by rw[hdD];exact pastItsLine_dict (Nat.le_trans hcD (by rw[qC];omega))) ?_)
 exact wpAny_pure (h _ ⟨(hs2.2 _ (Ne.symm I.ne)).trans I.obj,hn2,I.ne⟩ hs2)
theorem ymU {R:Result->Shared->Prop}{vs:List Value}{kw:List (Str×Value)}(X:K.In s.heap)(hm:PySem.W.makesIn K C=true)
  (hi:PySem.W.findIn K (.ref C) "__init__"=some (some (.ref f))) (hf:PySem.W.typeIn K (.ref f)=some (.type "function"))
  (h:codeAny (model prog w) (A.under (.builtin "type.__call__" ⟨.ref C :: vs,kw⟩)) (.call (.ref f) ⟨.ref (s.heap.objs.size+1) :: vs,kw⟩) (PySem.W.InitBack (s.heap.objs.size+1) R)
   { s with heap:=(s.heap.push PySem.W.emptyDict).push (PySem.W.instObj C s.heap.objs.size) }) :
  codeAny (model prog w) A (.call (.ref C) ⟨vs,kw⟩) R s:=by
 obtain⟨hh,g,d,t,os⟩:=s
 exact PySem.W.make_core (PySem.W.makes_of X hm) (PySem.W.looks_findIn X hi) (λself=>PySem.W.bind_fn X self hf) (.inl rfl) h
theorem ykp {R:Result->Shared->Prop}(X:K.In s.heap)(hm:PySem.W.makesIn K C=true)
  (hi:PySem.W.findIn K (.ref C) "__init__"=some (some (.builtin "object.__init__")))
  (hb:∀ self,PySem.W.Looks (model prog w) s.heap (bindSpecial (.builtin "object.__init__") self) (.builtin "object.__init__",[self]))
  (h:codeAny (model prog w) (A.under (.builtin "type.__call__" ⟨[.ref C],[]⟩)) (.call (.builtin "object.__init__") ⟨[.ref (s.heap.objs.size+1)],[]⟩) (PySem.W.InitBack (s.heap.objs.size+1) R)
   { s with heap:=(s.heap.push PySem.W.emptyDict).push (PySem.W.instObj C s.heap.objs.size) }) :
  codeAny (model prog w) A (.call (.ref C) ⟨[],[]⟩) R s:=by
 obtain⟨hh,g,d,t,os⟩:=s
 exact PySem.W.make_core (PySem.W.makes_of X hm) (PySem.W.looks_findIn X hi) hb (.inr ⟨rfl,rfl⟩) h
end
def yfZ (f:Str)(v:V):List (Str×V)->List (Str×V)
 | []=>[(f,v)]
 | (g,x) :: r=>if g=f then (g,v) :: r else (g,x) :: yfZ f v r
theorem yev (f g:Str)(v:V):∀ fs:List (Str×V),(yfZ f v fs).lookup g=if g=f then some v else fs.lookup g
 | []=>by
  show List.lookup g [(f,v)]=_
  by_cases h:g=f
  ·have hb:(g==f)=true:=beq_iff_eq.mpr h
   simp only[List.lookup,hb,if_pos h]
  ·have hb:(g==f)=false:=beq_eq_false_iff_ne.mpr h
   simp only[List.lookup,hb,if_neg h]
 | (k,x) :: r=>by
  have ih:=yev f g v r
  rw[show yfZ f v ((k,x) :: r)=(if k=f then (k,v) :: r else (k,x) :: yfZ f v r) from rfl]
  by_cases hk:k=f
  ·rw[if_pos hk]
   by_cases h:g=k
   ·have hb:(g==k)=true:=beq_iff_eq.mpr h
    simp only[List.lookup,hb,if_pos (h.trans hk)]
   ·have hb:(g==k)=false:=beq_eq_false_iff_ne.mpr h
    simp only[List.lookup,hb,if_neg (λe:g=f=>h (e.trans hk.symm))]
  ·rw[if_neg hk]
   by_cases h:g=k
   ·have hb:(g==k)=true:=beq_iff_eq.mpr h
    simp only[List.lookup,hb,if_neg (λe:g=f=>hk (h.symm.trans e))]
   ·have hb:(g==k)=false:=beq_eq_false_iff_ne.mpr h
    simp only[List.lookup,hb]
    exact ih
theorem yeA (f:Str)(v:V):∀ fs:List (Str×V),f∈(yfZ f v fs).map (·.1)/\∀ g,g∈fs.map (·.1)->g∈(yfZ f v fs).map (·.1)
 | []=>⟨by simp[yfZ],λg h=>by simp at h⟩
 | (k,x) :: r=>by
  obtain⟨i1,i2⟩:=yeA f v r
  rw[show yfZ f v ((k,x) :: r)=(if k=f then (k,v) :: r else (k,x) :: yfZ f v r) from rfl]
  by_cases hk:k=f
  ·rw[if_pos hk]
   subst hk
   exact⟨by simp,λg h=>by simpa using h⟩
  ·rw[if_neg hk]
   refine⟨?_,λg h=>?_⟩
   ·rw[List.map_cons]
    exact List.mem_cons_of_mem _ i1
   ·rw[List.map_cons] at h ⊢
    rcases List.mem_cons.mp h with e | e
    ·exact List.mem_cons.mpr (.inl e)
    ·exact List.mem_cons_of_mem _ (i2 g e)
theorem yed (f:Str)(v:V):∀ fs:List (Str×V),(yfZ f v fs).length<=fs.length+1
 | []=>by simp[yfZ]
 | (k,x) :: r=>by
  have ih:=yed f v r
  rw[show yfZ f v ((k,x) :: r)=(if k=f then (k,v) :: r else (k,x) :: yfZ f v r) from rfl]
  by_cases hk:k=f
  ·rw[if_pos hk,qC,qC];omega
  ·rw[if_neg hk,qC,qC];omega
theorem RelO.some_of {v:V}{o:Option Value}(r:RelO (some v) o):∃ u,o=some u/\RelV v u:=by
 cases o with
 | none=>exact(show False from r).elim
 | some u=>exact⟨u,rfl,r⟩
theorem RelO.none_of {o:Option Value}(r:RelO none o):o=none:=by
 cases o with
 | none=>rfl
 | some u=>exact(show False from r).elim
theorem ykl {v:V}{u:Value}(r:RelV v u):PySem.W.handedIn u=true:=by
 cases v with
 | non=>cases (show u=Value.none from r);rfl
 | bl b=>cases (show u=Value.bool b from r);rfl
 | int i=>obtain⟨t,e⟩:=(show ∃ t,u=Value.int i t from r);cases e;rfl
 | str x=>obtain⟨t,e⟩:=(show ∃ t,u=Value.str x t from r);cases e;rfl
 | byt b=>obtain⟨t,e⟩:=(show ∃ t,u=Value.bytes b t from r);cases e;rfl
 | flt b=>obtain⟨t,e⟩:=(show ∃ t,u=Value.float b t from r);cases e;rfl
 | ref a=>cases (show u=Value.ref a from r);rfl
 | ty n=>cases (show u=Value.type n from r);rfl
section
variable {P:Program} {w:World} {H H':Hp} {h h':Heap} {a C dx:Addr} {fs fs':List (Str×V)}
theorem yfE (hok:HOk P w H h)(e:H a=some (.ins C dx fs)):∃ mA,ObjM h a dx C mA/\(∀ f,RelO (fs.lookup f) (mA f))/\PySem.Within mA (fs.map (·.1))/\fs.length<=1000/\H dx=some (.own a):=by
 obtain⟨d,z,ne,ob,mA,n,r,q⟩:=(show ObjOk P w H h a (.ins C dx fs) from hok a _ e)
 exact⟨mA,⟨ob,n,ne⟩,r,q,z,d⟩
end
structure Cls (K:qF) (C:Addr):Prop where
 pg:PySem.W.plainGet K C Str.empty=true
 hd:PySem.W.hasDictIn K C=true
 po:PySem.W.plainOver K C=true
 sa:PySem.W.findIn K (.ref C) "__setattr__"=some (some (.builtin "object.__setattr__"))
theorem Cls.get {K:qF}{C:Addr}(c:Cls K C)(f:Str):PySem.W.plainGet K C f=true:=c.pg
def NoAttr (K:qF)(C:Addr)(f:Str):Prop:=PySem.W.findIn K (.ref C) f=some none
theorem NoAttr.taker {K:qF}{C:Addr}{f:Str}(n:NoAttr K C f):PySem.W.takerIn K C f=some none:=by
 unfold PySem.W.takerIn
 rw[show PySem.W.findIn K (.ref C) f=some none from n]
 rfl
structure Con (K:qF) (C:Addr) (f:Str) (v:V) (u:Value):Prop where
 at_:PySem.W.findIn K (.ref C) f=some (some u)
 rel:RelV v u
 get:PySem.W.specialIn K u "__get__"=some none
 cp:PySem.W.copiedNames.contains f=false
structure ycw (K:qF) (C:Addr) (m:Str) (f:Addr):Prop where
 at_:PySem.W.findIn K (.ref C) m=some (some (.ref f))
 fn:PySem.W.isFn K (.ref f)=true
 kp:PySem.W.keepIn K (.ref f)=true
section
variable {X:Cx} {pins:List (Addr×Obj)} {σ:St} {H:Hp} {s:Shared} {a C dx:Addr} {fs:List (Str×V)} {f:Str} {v:V} {A:Around} {E:Value->Shared->Prop}
theorem yiZ {b:Bool}{Q:Value->Shared->Prop}(I:Inv X pins σ H s)(e:H a=some (.ins C dx fs))(c:Cls X.K C)(n:NoAttr X.K C f)(l:fs.lookup f=some v)
  (h:∀ u s',Inv X pins σ H s'->RelV v u->Q u s'):wpAny (model X.prog X.w) A (getAttr (.ref a) f b) Q E s:=by
 obtain⟨mA,O,r,_,_,_⟩:=yfE I.hok e
 obtain⟨u,hu,ru⟩:=RelO.some_of (v:=v) (o:=mA f) (by rw[← l];exact r f)
 exact yov I.kIn O (c.get f) c.hd n hu (ykl ru) (h u _ (I.tok _) ru)
theorem yiU {m:Str}{g:Addr}{pl:Sem Bool}{Q:Value×List Value->Shared->Prop}(I:Inv X pins σ H s)(e:H a=some (.ins C dx fs))(c:Cls X.K C)(k:ycw X.K C m g)(l:fs.lookup m=none)
  (h:Q (.ref g,[.ref a]) s):wpAny (model X.prog X.w) A (getMethod (.ref a) m pl) Q E s:=by
 obtain⟨mA,O,r,_,_,_⟩:=yfE I.hok e
 have hn:mA m=none:=RelO.none_of (by rw[← l];exact r m)
 exact yl5 I.kIn O (c.get m) k.at_ k.fn hn h
theorem yjm {y:V}{u:Value}{Q:Unit->Shared->Prop}(I:Inv X pins σ H s)(e:H a=some (.ins C dx fs))(c:Cls X.K C)(n:NoAttr X.K C f)(hl:fs.length < 1000)(ry:RelV y u)
  (h:∀ s',Inv X pins σ (upd H a (.ins C dx (yfZ f y fs))) s'->Q () s'):wpAny (model X.prog X.w) A (setAttr (.ref a) f u) Q E s:=by
 obtain⟨mA,O,r,wi,_,ho⟩:=yfE I.hok e
 have hz:(fs.map (·.1)).length<=sizeLine:=by rw[qM,sizeLine_eq];omega
 refine yoe I.kIn O c.sa c.po n.taker c.hd wi hz λh' O' sb=>h _ ?_
 have hd:∃ o,h'.get? dx=some o:=let ⟨o,_,_,e',_⟩:=O'.ns;⟨o,e'⟩
 refine I.write (x:=a) (e:=dx) (by rw[e];exact True.intro) (.inr ho) (λb q hb z=>(sb.2 b hb).trans z) hd ?_
 refine⟨by rw[yas O.ne];exact ho,?_,O.ne,O'.obj,_,O'.ns,λg=>?_,λg hg=>?_⟩
 ·have:=yed f y fs;omega
 ·show RelO ((yfZ f y fs).lookup g) (if g=f then some u else mA g)
  rw[yev]
  by_cases q:g=f
  ·rw[if_pos q,if_pos q];exact ry
  ·rw[if_neg q,if_neg q];exact r g
 ·by_cases q:g=f
  ·rw[q];exact(yeA f y fs).1
  ·refine(yeA f y fs).2 g (wi g λz=>hg ?_)
   show(if g=f then some u else mA g)=none
   rw[if_neg q];exact z
theorem Inv.made (I:Inv X pins σ H s):Inv X pins σ (upd (upd H s.heap.objs.size (.own (s.heap.objs.size+1))) (s.heap.objs.size+1) (.ins C s.heap.objs.size []))
  { s with heap:=(s.heap.push PySem.W.emptyDict).push (PySem.W.instObj C s.heap.objs.size) }:=by
 have e1:(s.heap.push PySem.W.emptyDict).get? s.heap.objs.size=some PySem.W.emptyDict:=Heap.get?_push_size s.heap rfl
 have e2:((s.heap.push PySem.W.emptyDict).push (PySem.W.instObj C s.heap.objs.size)).get? (s.heap.objs.size+1)=some (PySem.W.instObj C s.heap.objs.size):=by
  have:=Heap.get?_push_size (s.heap.push PySem.W.emptyDict) (o:=PySem.W.instObj C s.heap.objs.size) rfl
  rwa [Heap.size_push] at this
 have e3:(s.heap.push PySem.W.emptyDict).Ns s.heap.objs.size (λ_=>none):=⟨PySem.W.emptyDict,#[],_,e1,rfl,(λe he=>absurd he (by simp)),λ_=>rfl⟩
 have I1:=I.laid (a:=s.heap.objs.size) (o:=.own (s.heap.objs.size+1)) (h':=s.heap.push PySem.W.emptyDict) (t':=s.toks) (λb u q=>Heap.get?_push_of_some _ q) (qR _) ⟨_,e1⟩
 refine I1.laid (a:=s.heap.objs.size+1) (o:=.ins C s.heap.objs.size []) (t':=s.toks) (λb u q=>Heap.get?_push_of_some _ q) (Nat.le_of_eq (Heap.size_push _ _)) ?_
 have ne:s.heap.objs.size≠s.heap.objs.size+1:=Nat.ne_of_lt (Nat.lt_succ_self _)
 refine⟨by rw[yas ne,yac],Nat.zero_le _,ne,e2,λ_=>none,(Heap.Ns1.of_empty e3).at λo q=>Heap.get?_push_of_some _ q,λ_=>True.intro,λy hy=>absurd rfl hy⟩
theorem ypK {prog:Program}{w:World}{env:Env}{e:Expr}{f:Str}{pos:Pos}{s:Shared}{Q:Value->Shared->Prop}(hb:attributeBase e f env (eval e env)=eval e env)
  (h:wpAny (model prog w) A (eval e env) (λo s₁=>wpAny (model prog w) A (getAttr o f true) Q E s₁) E s):wpAny (model prog w) A (eval (.Attribute e f pos) env) Q E s :=
 Attribute_any_ h (by rw[arm_eval_Attribute,hb])
end
def ys6 (K:qF)(ta:TE)(f:Str):TE:=fun σ H Q=>ta σ H λx H1=>∃ a C dx fs v,x=.ref a/\H1 a=some (.ins C dx fs)/\Cls K C/\NoAttr K C f/\fs.lookup f=some v/\Q v H1
def ytK (K:qF)(ta tv:TE)(f:Str):TS:=λD σ H=>tv σ H λy H1=>ta σ H1 λx H2=>∃ a C dx fs,x=.ref a/\H2 a=some (.ins C dx fs)/\Cls K C/\NoAttr K C f/\fs.length < 1000 /\
 D.nx σ (upd H2 a (.ins C dx (yfZ f y fs)))
section
variable {X:Cx} {o e value:Expr} {f:Str} {pos pos' tpos:Pos} {ta tv:TE}
theorem yaQ (he:PE X e ta)(hb:attributeBase e f X.env (eval e X.env)=eval e X.env):PE X (.Attribute e f pos) (ys6 X.K ta f):=by
 intro pins s σ H Q I h
 refine ypK hb (thn (he pins s σ H _ I h) λu s1 zq=>?_)
 obtain⟨x,H1,I1,rx,a,C,dx,fs,v,ex,ea,c,n,l,q⟩:=zq
 subst ex
 obtain rfl:u=Value.ref a:=rx
 exact yiZ I1 ea c n l λu' s2 I2 ru=>⟨v,H1,I2,ru,q⟩
theorem ycC (ha:PE X o ta)(hv:PE X value tv)(hs:swapsWith value (some (.Attribute o f pos')) pos.line X.env=pure false):PS X (.Assign [.Attribute o f pos'] value pos) (ytK X.K ta tv f):=by
 intro pins s σ H D I h
 refine plainObj_wpAny_Assign_Attribute (thn (hv pins s σ H _ I h) λu s1 ⟨y,H1,I1,ry,q⟩=>thn (ha pins s1 σ H1 _ I1 q) λov s2 zq=>?_) hs
 obtain⟨x,H2,I2,rx,a,C,dx,fs,ex,ea,c,n,l,q2⟩:=zq
 subst ex
 obtain rfl:ov=Value.ref a:=rx
 exact yjm I2 ea c n l ry λs3 I3=>⟨σ,_,I3,q2⟩
end
section
variable {X:Cx} {pins:List (Addr×Obj)} {σ:St} {H:Hp} {s:Shared} {A:Around} {E:Value->Shared->Prop} {Q:Value->Shared->Prop} {c:Value} {b:Bool}
inductive ye3 (K:qF) (H:Hp):V->Value->Prop where
 | non:ye3 K H .non (.type "NoneType")
 | bl (x:Bool):ye3 K H (.bl x) (.type "bool")
 | int (i:Int):ye3 K H (.int i) (.type "int")
 | str (x:Str):ye3 K H (.str x) (.type "str")
 | flt (x:UInt64):ye3 K H (.flt x) (.type "float")
 | lst {a:Addr} {xs:List V} (e:H a=some (.lst xs)):ye3 K H (.ref a) (.type "list")
 | frz {a:Addr} {o:Obj} {xs:List V} (e:H a=some (.frz o (.lst xs))):ye3 K H (.ref a) (.type "list")
 | tup {a:Addr} {xs:List V} (e:H a=some (.tup xs)):ye3 K H (.ref a) (.type "tuple")
 | dK {a:Addr} {kvs:List (Key×V)} (e:H a=some (.dK kvs)):ye3 K H (.ref a) (.type "dict")
 | dT {a:Addr} {kvs:List (List Key×V)} (e:H a=some (.dT kvs)):ye3 K H (.ref a) (.type "dict")
 | ins {a C dx:Addr} {fs:List (Str×V)} (e:H a=some (.ins C dx fs)) (cl:Cls K C) (ha:PySem.W.findIn K (.ref C) "__class__"=some (some (.builtin "object.__class__")))
   (hn:PySem.W.specialIn K (.builtin "object.__class__") "__get__"=some (some (.builtin "getset_descriptor.__get__"))) (htk:PySem.W.takesIn K (.builtin "object.__class__")=some true)
   (hm:PySem.W.mroIn K C (.type "object")=some true):ye3 K H (.ref a) (.ref C)
theorem yhb {x:V}{u t:Value}(I:Inv X pins σ H s)(rx:RelV x u)(ty:ye3 X.K H x t)(e:PySem.W.kitOne X.K t c=some b)(h:∀ tk,Q (.bool b) { s with toks:=tk }) :
  wpAny (model X.prog X.w) A (call (.builtin "isinstance") [u,c]) Q E s:=by
 cases ty with
 | non=>cases (show u=Value.none from rx);exact PySem.W.kia_one PySem.W.kitx_none I.kIn True.intro e (λz=>nomatch z) h
 | bl y=>cases (show u=Value.bool y from rx);exact PySem.W.kia_one PySem.W.kitx_bool I.kIn True.intro e (λz=>nomatch z) h
 | int i=>obtain⟨t,q⟩:=(show ∃ t,u=Value.int i t from rx);cases q;exact PySem.W.kia_one PySem.W.kitx_int I.kIn True.intro e (λz=>nomatch z) h
 | str y=>obtain⟨t,q⟩:=(show ∃ t,u=Value.str y t from rx);cases q;exact PySem.W.kia_one PySem.W.kitx_str I.kIn True.intro e (λz=>nomatch z) h
 | flt y=>obtain⟨t,q⟩:=(show ∃ t,u=Value.float y t from rx);cases q;exact PySem.W.kia_one PySem.W.kitx_float I.kIn True.intro e (λz=>nomatch z) h
 | @lst a xs ea =>
  cases (show u=Value.ref a from rx)
  obtain⟨_,_,n,_,h1⟩:=(show ObjOk X.prog X.w H s.heap a (.lst xs) from I.hok a _ ea)
  exact PySem.W.kia_one PySem.W.kitx_list I.kIn ⟨_,h1,rfl⟩ e (λz=>nomatch z) h
 | @frz a ob xs ea =>
  cases (show u=Value.ref a from rx)
  obtain⟨_,_,_,n,_,h1⟩:=(show ObjOk X.prog X.w H s.heap a (.frz ob (.lst xs)) from I.hok a _ ea)
  exact PySem.W.kia_one PySem.W.kitx_list I.kIn ⟨_,h1,rfl⟩ e (λz=>nomatch z) h
 | @tup a xs ea =>
  cases (show u=Value.ref a from rx)
  obtain⟨_,_,_,p⟩:=(show ObjOk X.prog X.w H s.heap a (.tup xs) from I.hok a _ ea)
  obtain⟨o,h1,h2,_⟩:=p
  exact PySem.W.kia_one PySem.W.kitx_tuple I.kIn ⟨o,h1,h2⟩ e (λz=>nomatch z) h
 | @dK a kvs ea =>
  cases (show u=Value.ref a from rx)
  obtain⟨_,_,vs,_,p⟩:=(show ObjOk X.prog X.w H s.heap a (.dK kvs) from I.hok a _ ea)
  obtain⟨o,es,ep,h1,h2,_⟩:=p
  exact PySem.W.kia_one PySem.W.kitx_dict I.kIn ⟨o,h1,h2.1⟩ e (λz=>nomatch z) h
 | @dT a kvs ea =>
  cases (show u=Value.ref a from rx)
  obtain⟨_,_,xs,_,o,es,ep,h1,h2,_⟩:=(show ObjOk X.prog X.w H s.heap a (.dT kvs) from I.hok a _ ea)
  exact PySem.W.kia_one PySem.W.kitx_dict I.kIn ⟨o,h1,h2.1⟩ e (λz=>nomatch z) h
 | @ins a C dx fs ea cl ha hn htk hm =>
  cases (show u=Value.ref a from rx)
  obtain⟨mA,O,_⟩:=yfE I.hok ea
  obtain⟨od,J,_⟩:=O.look
  exact PySem.W.kia_one (PySem.W.kitx_own (cl.get _) cl.hd ha hn htk hm) I.kIn J e (λz=>nomatch z) h
end
structure Room (k:Nat) (A:Around):Prop where
 hd:A.handled=none
 dp:A.depth+3*k+5 < recursionLimit
 un:A.units+16*k+200 < cLine
theorem Room.mono {j k:Nat}{A:Around}(r:Room k A)(h:j<=k):Room j A:=⟨r.hd,by have:=r.dp;omega,by have:=r.un;omega⟩
theorem Room.deeper {k:Nat}{A:Around}(r:Room (k+1) A)(env:Env):Room k (A.deeper env) :=
 ⟨r.hd,by have:=r.dp;show A.depth+1+3*k+5 < _;omega,by have:=r.un;show A.units+3+16*k+200 < _;omega⟩
theorem yi0 {A:Around}{C:Addr}{us:List Value}{kw:List (Str×Value)}:(A.under (.builtin "type.__call__" ⟨.ref C :: us,kw⟩)).depth=A.depth+1:=by
 first | rfl | simp[Around.under,Code.weight,Code.isCreation,Code.isGuard,Code.isCaller,Code.frames,Code.isFrame,guardIds]
theorem yi7 {A:Around}{C:Addr}{us:List Value}{kw:List (Str×Value)}:(A.under (.builtin "type.__call__" ⟨.ref C :: us,kw⟩)).units=A.units+1:=by
 first | rfl | simp[Around.under,Code.cUnits,Code.frames,Code.isFrame]
theorem Room.make {k:Nat}{A:Around}(r:Room (k+1) A)(C:Addr)(us:List Value)(kw:List (Str×Value)):Room k (A.under (.builtin "type.__call__" ⟨.ref C :: us,kw⟩)) :=
 ⟨r.hd,by have:=r.dp;rw[yi0];omega,by have:=r.un;rw[yi7];omega⟩
theorem Room.depth {k:Nat}{A:Around}(r:Room k A):A.depth < recursionLimit:=by have:=r.dp;omega
theorem Room.units {k:Nat}{A:Around}(r:Room k A):A.units+64 < cLine:=by have:=r.un;omega
def ylc:TA:=λ_ H Q=>Q [] H
noncomputable def ycO (ta:TE)(tr:TA):TA:=fun σ H Q=>ta σ H λx H1=>tr σ H1 λxs H2=>Q (x :: xs) H2
section
variable {X:Cx} {e:Expr} {es:List Expr} {te:TE} {t:TA} {pos:Pos}
theorem yab:PA X [] ylc:=λ_ _ _ _ H Q I h=>Calls.spliced_nil ⟨[],H,I,.nil,h⟩
theorem yaa (ha:PE X e te)(hr:PA X es t)(hs:starEach (e :: es) X.env=(false,eval e X.env) :: starEach es X.env:=by rfl):PA X (e :: es) (ycO te t):=by
 intro pos pins s σ H Q I h
 rw[hs]
 show wpAny _ _ (spliced ((false,eval e X.env) :: backTo pos (starEach es X.env))) _ _ s
 refine Calls.spliced_cons (thn (ha pins s σ H _ I h) λu s1 zq=>?_)
 obtain⟨x,H1,I1,r1,q1⟩:=zq
 exact thn (hr pos pins s1 σ H1 _ I1 q1) λus s2 ⟨xs,H2,I2,r2,q2⟩=>⟨x :: xs,H2,I2,.cons r1 r2,q2⟩
noncomputable def yrB (t:TA):TE:=fun σ H Q=>t σ H λxs H1=>xs.length<=sizeLine/\∀ p,H1 p=none->Q (.ref p) (upd H1 p (.tup xs))
def ysJ (t:TA):TE:=fun σ H Q=>t σ H λxs H1=>xs.length<=sizeLine/\∀ p,H1 p=none->Q (.ref p) (upd H1 p (.lst xs))
theorem yaw {x1}(h:PA X es t):PE X (.Tuple es x1 pos) (yrB t):=by
 intro pins s σ H Q I hq
 refine wpAny_Tuple_spliced (thn (h pos pins s σ H _ I hq) λus s1 ⟨xs,H1,I1,r,z,q⟩=>⟨by rw[← r.length];exact z,?_⟩)
 have hf:H1 s1.heap.objs.size=none:=I1.hok.fresh (qR _)
 refine⟨.ref s1.heap.objs.size,upd H1 s1.heap.objs.size (.tup xs),I1.laid (t':=s1.toks) (λb u e=>Heap.get?_push_of_some _ e) (qR _) ?_,rfl,q _ hf⟩
 exact⟨z,us,r,⟨_,Heap.get?_push_size _ rfl,rfl,_,rfl⟩⟩
theorem yaN (h:PA X es t):PE X (.List es pos) (ysJ t):=by
 intro pins s σ H Q I hq
 refine wpAny_List_spliced (thn (h pos pins s σ H _ I hq) λus s1 ⟨xs,H1,I1,r,z,q⟩=>⟨by rw[← r.length];exact z,?_⟩)
 have hf:H1 s1.heap.objs.size=none:=I1.hok.fresh (qR _)
 refine⟨.ref s1.heap.objs.size,upd H1 s1.heap.objs.size (.lst xs),I1.laid (t':=s1.toks) (λb u e=>Heap.get?_push_of_some _ e) (qR _) ?_,rfl,q _ hf⟩
 exact⟨z,us,0,r,Heap.get?_push_size _ rfl⟩
end
abbrev Sp:=List V->Hp->VK->XK->Prop
abbrev CXT:=List Env->Hp->Shared->XK->Value->Shared->Prop
structure Env0 (P:Program) (w:World) (K:qF) (mg:Str->Option Value) (base:Heap) (A:Around) (outer:List Env) (s:Shared) (H:Hp):Prop where
 frames:A.frames=some outer
 mod:Mod K mg base
 bs:∀ b o,base.get? b=some o->s.heap.get? b=some o/\H b=none
 bsz:base.objs.size<=s.heap.objs.size
 funs:s.heap.FunFrames base outer
 frf:∀ b∈frs outer,H b=none
 hok:HOk P w H s.heap
 bare:AllBare s.gens
def CE (outer:List Env)(P:Program)(w:World)(H:Hp)(s:Shared)(Q:VK)(u:Value)(s':Shared):Prop :=
 ∃ v H',s'.os=s.os/\AllBare s'.gens/\Un (frs outer) [] H H' s.heap s'.heap/\HOk P w H' s'.heap/\RelV v u/\Q v H'
def CR (CX:CXT)(outer:List Env)(P:Program)(w:World)(H:Hp)(s:Shared)(Q:VK)(E:XK)(r:Result)(s':Shared):Prop :=
 match r with
 | .ok (.ret u)=>CE outer P w H s Q u s'
 | .ok _=>False
 | .error e=>CX outer H s E e s'
structure FnOk (P:Program) (w:World) (K:qF) (mg:Str->Option Value) (base:Heap) (CX:CXT) (k:Nat) (f:Addr) (fd:FuncData) (ps:List Str) (sp:Sp):Prop where
 len:∀ vs H Q E,sp vs H Q E->vs.length=ps.length
 run:∀ (A:Around) (outer:List Env) (s:Shared) (H:Hp) (args:Args) (us:List Value) (vs:List V) (Q:VK) (E:XK),Room k A->Env0 P w K mg base A outer s H->BindsTo s fd args (ps.zip us)->Vals vs us->sp vs H Q E ->
  codeAny (model P w) A (.call (.ref f) args) (CR CX outer P w H s Q E) s
theorem FnOk.mono {P:Program}{w:World}{K:qF}{mg:Str->Option Value}{base:Heap}{CX:CXT}{j k:Nat}{f:Addr}{fd:FuncData}{ps:List Str}{sp:Sp}(F:FnOk P w K mg base CX j f fd ps sp)(h:j<=k) :
  FnOk P w K mg base CX k f fd ps sp:=⟨F.len,λA outer s H args us vs Q E hr=>F.run A outer s H args us vs Q E (hr.mono h)⟩
theorem FnOk.imp {P:Program}{w:World}{K:qF}{mg:Str->Option Value}{base:Heap}{CX:CXT}{k:Nat}{f:Addr}{fd:FuncData}{ps:List Str}{sp sp':Sp}(F:FnOk P w K mg base CX k f fd ps sp)
  (h:∀ vs H Q E,sp' vs H Q E->sp vs H Q E):FnOk P w K mg base CX k f fd ps sp' :=
 ⟨λvs H Q E q=>F.len vs H Q E (h _ _ _ _ q),λA outer s H args us vs Q E hr he hb hv hs=>F.run A outer s H args us vs Q E hr he hb hv (h _ _ _ _ hs)⟩
theorem Env0.make {P:Program}{w:World}{K:qF}{mg:Str->Option Value}{base:Heap}{A:Around}{outer:List Env}{s:Shared}{H:Hp}(e:Env0 P w K mg base A outer s H)(C:Addr)(us:List Value)(kw:List (Str×Value)) :
  Env0 P w K mg base (A.under (.builtin "type.__call__" ⟨.ref C :: us,kw⟩)) outer s H:=⟨by first | exact e.frames | (simpa [Around.under,Code.envs,Code.isFrame,pushEnvs] using e.frames),e.mod,e.bs,e.bsz,e.funs,e.frf,e.hok,e.bare⟩
section
variable {X:Cx} {pins:List (Addr×Obj)} {σ:St} {H:Hp} {s s':Shared}
theorem Inv.env0 (I:Inv X pins σ H s):Env0 X.prog X.w X.K X.mg X.base X.A X.stack s H :=
 ⟨I.ok.frames,I.ok.mod,I.bs,Nat.le_trans I.ok.bsz I.sz,I.stack,I.stkFree,I.hok,I.bare⟩
theorem Inv.after {Q:VK}{u:Value}(I:Inv X pins σ H s)(h:CE X.stack X.prog X.w H s Q u s'):EP X pins σ Q u s':=by
 obtain⟨v,H',os,bare,un,hok,r,q⟩:=h
 obtain⟨hh,g,d,t,os'⟩:=s'
 obtain rfl:os'=s.os:=os
 exact⟨v,H',I.call (h':=hh) (g':=g) (d':=d) (t':=t) (ch:=[]) un hok bare (λb z=>absurd z (by simp)),r,q⟩
end
def yhH (sp:Sp)(dvs:List V)(E:XK)(t:TA):TE:=fun σ H Q=>t σ H λvs H1=>sp (vs++dvs) H1 Q E
def you (C:Addr)(sp:Sp)(dvs:List V)(E:XK)(t:TA):TE:=fun σ H Q=>t σ H λvs H1=>∀ x dx,H1 x=none->H1 dx=none->dx≠x ->
 sp (.ref x :: (vs++dvs)) (upd (upd H1 dx (.own x)) x (.ins C dx [])) (λv H2=>v=.non/\Q (.ref x) H2) E
def Binds (K:qF)(fd:FuncData)(ps:List Str)(ds:List Value):Prop :=
 ∀ (s:Shared) (us:List Value),K.In s.heap->(us++ds).length=ps.length->BindsTo s fd ⟨us,[]⟩ (ps.zip (us++ds))
theorem Binds.all {K:qF}{fd:FuncData}{ps:List Str}(h:∀ us:List Value,us.length=ps.length->bindArgs fd ⟨us,[]⟩=pure (ps.zip us)):Binds K fd ps []:=λs us _ hl=>by
 rw[List.append_nil] at hl ⊢
 exact .of_eq (h us hl)
def yef (CX:CXT)(X:Cx)(E:XK):Prop:=∀ (pins:List (Addr×Obj)) (σ:St) (H:Hp) (s:Shared) (e:Value) (s':Shared),Inv X pins σ H s->CX X.stack H s E e s'->X.xe e s'
section
variable {X:Cx} {CX:CXT} {k:Nat} {f C:Addr} {fd:FuncData} {ps:List Str} {sp:Sp} {dvs:List V} {ds:List Value} {E:XK} {x m:Str} {p pos apos:Pos} {e o:Expr} {es:List Expr} {ta:TE} {t:TA}
theorem yjZ {pins:List (Addr×Obj)}{σ:St}{H:Hp}{s:Shared}{Q:VK}{us:List Value}{vs:List V}(F:FnOk X.prog X.w X.K X.mg X.base CX k f fd ps sp)(hr:Room k X.A)(hb:Binds X.K fd ps ds)(hd:Vals dvs ds)(hx:yef CX X E)
  (I:Inv X pins σ H s) (r:Vals vs us) (h:sp (vs++dvs) H Q E):wpAny (model X.prog X.w) X.A (call (.ref f) us) (EP X pins σ Q) X.xe s:=by
 have r2:Vals (vs++dvs) (us++ds):=r.append hd
 have hl:(us++ds).length=ps.length:=by rw[← r2.length];exact F.len _ _ _ _ h
 refine wpAny_call (codeAny_mono (F.run X.A X.stack s H ⟨us,[]⟩ (us++ds) (vs++dvs) Q E hr I.env0 (hb s us I.kIn hl) r2 h) λr s' hq=>?_)
 cases r with
 | error e=>exact hx pins σ H s e s' I hq
 | ok fl =>
  cases fl with
  | ret u=>exact I.after hq
  | next=>exact False.elim hq
  | brk=>exact False.elim hq
  | cont=>exact False.elim hq
theorem yo1 (F:FnOk X.prog X.w X.K X.mg X.base CX k f fd ps sp)(hr:Room k X.A)(hg:Gl X x)(hm:X.mg x=some (.ref f))(hk:PySem.W.keepIn X.K (.ref f)=true)(hb:Binds X.K fd ps ds)(hd:Vals dvs ds)(hx:yef CX X E)
  (ha:PA X (e :: es) t) (hdb:(x==("__debug__" : Str))=false:=by decide) (he:starEach (e :: es) X.env=(false,eval e X.env) :: starEach es X.env:=by rfl) (hpl:(backTo pos (starEach es X.env)).any (·.1)=false:=by rfl) :
  PE X (.Call (.Name x p) (e :: es) [] pos) (yhH sp dvs E t):=by
 intro pins s σ H Q I h
 refine wpAny_Call_Name_kw (yeq I hg hm ?_ hdb)
 refine PySem.W.callWith_K (h₀:=X.base) I.ok.mod.kin hk (thn (ha pos pins s σ H _ I h) λus s1 ⟨vs,H1,I1,r,q⟩=>⟨I1.kIn,?_⟩) he hpl
 exact yjZ F hr hb hd hx I1 r q
theorem yim (F:FnOk X.prog X.w X.K X.mg X.base CX k f fd ps sp)(hr:Room k X.A)(hg:Gl X x)(hm:X.mg x=some (.ref f))(hk:PySem.W.keepIn X.K (.ref f)=true)(hb:Binds X.K fd ps ds)(hd:Vals dvs ds)(hx:yef CX X E)
  (hdb:(x==("__debug__" : Str))=false:=by decide):PE X (.Call (.Name x p) [] [] pos) (yhH sp dvs E ylc):=by
 intro pins s σ H Q I h
 refine wpAny_Call_Name_kw (yeq I hg hm ?_ hdb)
 exact PySem.W.callWith_K0 I.kIn hk (yjZ (us:=[]) F hr hb hd hx I .nil h)
structure Mk (K:qF) (C f:Addr):Prop where
 makes:PySem.W.makesIn K C=true
 init:PySem.W.findIn K (.ref C) "__init__"=some (some (.ref f))
 fn:PySem.W.isFn K (.ref f)=true
 kp:PySem.W.keepIn K (.ref C)=true
theorem ymM {pins:List (Addr×Obj)}{σ:St}{H:Hp}{s:Shared}{Q:VK}{us:List Value}{vs:List V}(M:Mk X.K C f)(F:FnOk X.prog X.w X.K X.mg X.base CX k f fd ps sp)(hr:Room (k+1) X.A)(hb:Binds X.K fd ps ds)(hd:Vals dvs ds)
  (hx:yef CX X E) (I:Inv X pins σ H s) (r:Vals vs us)
  (h:∀ x dx,H x=none->H dx=none->dx≠x->sp (.ref x :: (vs++dvs)) (upd (upd H dx (.own x)) x (.ins C dx [])) (λv H2=>v=.non/\Q (.ref x) H2) E) :
  wpAny (model X.prog X.w) X.A (call (.ref C) us) (EP X pins σ Q) X.xe s:=by
 have hq:=h (s.heap.objs.size+1) s.heap.objs.size (I.hok.fresh (Nat.le_succ _)) (I.hok.fresh (qR _)) (Nat.ne_of_lt (Nat.lt_succ_self _))
 have I2:=Inv.made (C:=C) I
 have r2:Vals (V.ref (s.heap.objs.size+1) :: (vs++dvs)) (Value.ref (s.heap.objs.size+1) :: (us++ds)):=.cons rfl (r.append hd)
 have hl:(Value.ref (s.heap.objs.size+1) :: us++ds).length=ps.length:=by
  have e:=r2.length
  rw[F.len _ _ _ _ hq] at e
  exact e.symm
 refine wpAny_call (ymU (f:=f) I.kIn M.makes M.init (beq_iff_eq.mp M.fn) (codeAny_mono (F.run _ X.stack _ _ ⟨Value.ref (s.heap.objs.size+1) :: us,[]⟩ (Value.ref (s.heap.objs.size+1) :: (us++ds)) _ _ E (hr.make C us [])
  (I2.env0.make C us []) (hb _ (Value.ref (s.heap.objs.size+1) :: us) I2.kIn hl) r2 hq) λr s' hq'=>?_))
 cases r with
 | error e=>exact hx pins σ _ _ e s' I2 hq'
 | ok fl =>
  cases fl with
  | ret u =>
   obtain⟨v,H',I3,rv,ev,q3⟩:=I2.after hq'
   subst ev
   exact⟨rv,⟨V.ref (s.heap.objs.size+1),H',I3,rfl,q3⟩⟩
  | next=>exact False.elim hq'
  | brk=>exact False.elim hq'
  | cont=>exact False.elim hq'
theorem ybP (M:Mk X.K C f)(F:FnOk X.prog X.w X.K X.mg X.base CX k f fd ps sp)(hr:Room (k+1) X.A)(hg:Gl X x)(hm:X.mg x=some (.ref C))(hb:Binds X.K fd ps ds)(hd:Vals dvs ds)(hx:yef CX X E)
  (ha:PA X (e :: es) t) (hdb:(x==("__debug__" : Str))=false:=by decide) (he:starEach (e :: es) X.env=(false,eval e X.env) :: starEach es X.env:=by rfl) (hpl:(backTo pos (starEach es X.env)).any (·.1)=false:=by rfl) :
  PE X (.Call (.Name x p) (e :: es) [] pos) (you C sp dvs E t):=by
 intro pins s σ H Q I h
 refine wpAny_Call_Name_kw (yeq I hg hm ?_ hdb)
 refine PySem.W.callWith_K (h₀:=X.base) I.ok.mod.kin M.kp (thn (ha pos pins s σ H _ I h) λus s1 ⟨vs,H1,I1,r,q⟩=>⟨I1.kIn,?_⟩) he hpl
 exact ymM M F hr hb hd hx I1 r q
end
section
variable {X:Cx} {CX:CXT} {k:Nat} {f C:Addr} {fd:FuncData} {ps ks:List Str} {sp:Sp} {E:XK} {x m:Str} {p pos apos kpos:Pos} {e o:Expr} {es:List Expr} {kws:List Keyword} {te ta:TE} {t tk:TA} {nm:Option Str}
structure yvc (K:qF) (fd:FuncData) (ps ks:List Str) (g:List Value->List Value->List Value) (gV:List V->List V->List V):Prop where
 to:∀ (s:Shared) (us ws:List Value),K.In s.heap->(g us ws).length=ps.length->BindsTo s fd ⟨us,ks.zip ws⟩ (ps.zip (g us ws))
 rel:∀ {vs:List V} {us:List Value} {zs:List V} {ws:List Value},Vals vs us->Vals zs ws->Vals (gV vs zs) (g us ws)
variable {g:List Value->List Value->List Value} {gV:List V->List V->List V}
end
structure yao (N P:List Str) (sc:Scope):Prop where
 kind:sc.kind=.function
 co:sc.isCoroutine=false
 gen:sc.isGenerator=false
 nd:N.Nodup
 pre:N.take P.length=P
 par:∀ x∈P,sc.names.lookup x=some .local∨sc.names.lookup x=some .cell
 nofree:∀ y∈sc.names,y.2≠.free
theorem ygu {kindOf:Str->Option NameKind}{x:Str}:∀ {binds:List (Str×Value)} {m:Str->Option Value},(∀ v,(x,v)∉binds)->bindL kindOf binds m x=m x
 | [],_,_=>rfl
 | (n,v) :: r,m,h=>by
  unfold bindL
  rw[ygu λw hw=>h w (List.mem_cons_of_mem _ hw)]
  split
  ·have:x≠n:=by rintro rfl;exact h v List.mem_cons_self
   simp[this]
  ·rfl
theorem ygt {kindOf:Str->Option NameKind}{x:Str}:∀ {binds:List (Str×Value)} {m:Str->Option Value},(∀ v,(x,v)∉binds)->bindC kindOf binds m x=m x
 | [],_,_=>rfl
 | (n,v) :: r,m,h=>by
  unfold bindC
  rw[ygt λw hw=>h w (List.mem_cons_of_mem _ hw)]
  split
  ·rfl
  ·have:x≠n:=by rintro rfl;exact h v List.mem_cons_self
   simp[this]
theorem ygL {kindOf:Str->Option NameKind}{x:Str}{v:Value}:∀ {P:List Str} {vs:List Value} {i:Nat} {m:Str->Option Value},P.Nodup->P[i]?=some x->vs[i]?=some v->kindOf x=some .local ->
  bindL kindOf (P.zip vs) m x=some v
 | [],_,_,_,_,h,_,_=>by simp at h
 | _ :: _,[],_,_,_,_,h,_=>by simp at h
 | p :: P,w :: vs,0,m,nd,h1,h2,hk=>by
  simp at h1 h2;subst h1;subst h2
  show bindL kindOf ((p,w) :: P.zip vs) m p=_
  unfold bindL
  rw[ygu λv hv=>(List.nodup_cons.mp nd).1 (List.of_mem_zip hv).1,if_pos hk]
  simp
 | p :: P,w :: vs,i+1,m,nd,h1,h2,hk=>by
  show bindL kindOf ((p,w) :: P.zip vs) m x=_
  unfold bindL
  exact ygL (i:=i) (List.nodup_cons.mp nd).2 (by simpa using h1) (by simpa using h2) hk
theorem yge {kindOf:Str->Option NameKind}{x:Str}{v:Value}:∀ {P:List Str} {vs:List Value} {i:Nat} {m:Str->Option Value},P.Nodup->P[i]?=some x->vs[i]?=some v->kindOf x≠some .local ->
  bindC kindOf (P.zip vs) m x=some v
 | [],_,_,_,_,h,_,_=>by simp at h
 | _ :: _,[],_,_,_,_,h,_=>by simp at h
 | p :: P,w :: vs,0,m,nd,h1,h2,hk=>by
  simp at h1 h2;subst h1;subst h2
  show bindC kindOf ((p,w) :: P.zip vs) m p=_
  unfold bindC
  rw[ygt λv hv=>(List.nodup_cons.mp nd).1 (List.of_mem_zip hv).1,if_neg hk]
  simp
 | p :: P,w :: vs,i+1,m,nd,h1,h2,hk=>by
  show bindC kindOf ((p,w) :: P.zip vs) m x=_
  unfold bindC
  exact yge (i:=i) (List.nodup_cons.mp nd).2 (by simpa using h1) (by simpa using h2) hk
noncomputable def start (N:List Str)(vs:List V):St:=vs.map some++List.replicate (N.length - vs.length) none
def yjc (CX:CXT)(P:Program)(w:World)(K:qF)(mg:Str->Option Value)(base:Heap)(N:List Str)(qual:Str)(scope:Scope)(f:Addr)(cd:Value)(A:Around)(outer:List Env)(s:Shared)(H:Hp)(E:XK):Cx where
 prog:=P
 w:=w
 K:=K
 mg:=mg
 base:=base
 A:=A.deeper (envOfC qual scope s.heap.objs.size f cd)
 N:=N
 s₀:=s
 H₀:=H
 env:=envOfC qual scope s.heap.objs.size f cd
 outer:=outer
 stack:=envOfC qual scope s.heap.objs.size f cd :: outer
 ex:=[]
 calm:=true
 fn:=λ_=>true
 pn:=[]
 xe:=λe s'=>wpAny (model P w) (A.deeper (envOfC qual scope s.heap.objs.size f cd)) (leaving (envOfC qual scope s.heap.objs.size f cd) e) (λ_ s''=>CX outer H s E e s'') (λe' s''=>CX outer H s E e' s'') s'
theorem yiL {sc:Scope}{n:Nat}{x:Str}(h:sc.names.lookup x=some .cell):∃ c,(cellsFrom n sc.names []).lookup x=some c:=by
 have q:=PySem.W.cellsFrom_some sc.names n [] (.inl h)
 exact Option.isSome_iff_exists.mp q
theorem ylC {CX:CXT}{P:Program}{w:World}{K:qF}{mg:Str->Option Value}{base:Heap}{N ps:List Str}{qual:Str}{scope:Scope}{f:Addr}{cd:Value}{A:Around}{outer:List Env}{s s1:Shared}{H:Hp}{E:XK}{us:List Value}{vs:List V}
  (S:yao N ps scope) (hd:A.handled=none) (e0:Env0 P w K mg base A outer s H) (hl:vs.length=ps.length) (r:Vals vs us)
  (x:InCallC s s.heap.objs.size (bindL (envOfC qual scope s.heap.objs.size f cd).kindOf (ps.zip us) λ_=>none) (cellsFrom (s.heap.objs.size+1) scope.names []) (bindC (envOfC qual scope s.heap.objs.size f cd).kindOf (ps.zip us) λ_=>none) s1) :
  Inv (yjc CX P w K mg base N qual scope f cd A outer s H E) [] (start N vs) H s1:=by
 have hpl:ps.length<=N.length:=by have:=congrArg List.length S.pre;rw[qT] at this;omega
 obtain⟨h1,tk,rfl,hk⟩:=x.done
 have noA:∀ b:Addr,b∉(yjc CX P w K mg base N qual scope f cd A outer s H E).ex:=λb z=>absurd (show b∈([]:List Addr) from z) (by simp)
 refine⟨⟨e0.mod,S.kind,rfl,rfl,qR _,λy z c h1 h2=>?_,λy hy=>?_,λy c _ h=>?_,λ_=>hd,Around.frames_deeper e0.frames,.inr ⟨rfl,rfl⟩,λb z=>absurd z (noA b),e0.bs,e0.bsz,λb _ _=>noA b,λb z=>absurd z (noA b),e0.funs,e0.frf⟩,
  rfl,e0.bare,Un.kept hk,⟨_,x.toInCall.ns,λi y v h1 h2 h3=>?_⟩,λy c h=>⟨_,x.cell y c h⟩,e0.hok.fresh (qR _),λy c h=>?_,λp hp=>absurd (show p∈([]:List (Addr×Obj)) from hp) (by simp),e0.hok.kept hk,?_⟩
 ·exact name_of_addr x.apart (PySem.mem_of_lookup h1) (PySem.mem_of_lookup h2)
 ·have hy:scope.names.lookup y=some .cell∨scope.names.lookup y=some .free:=hy
  rcases hy with hy | hy
  ·exact yiL hy
  ·exact absurd rfl (S.nofree _ (PySem.mem_of_lookup hy))
 ·exact Nat.le_of_lt (x.above y c (PySem.mem_of_lookup h))
 ·have hi:i < vs.length:=by
   unfold start at h2
   by_cases hi:i < vs.length
   ·exact hi
   ·rw[List.getElem?_append_right (by simpa using hi)] at h2
    rw[List.getElem?_replicate] at h2
    split at h2<;>cases h2
  have ha:vs[i]?=some v:=by
   unfold start at h2
   rw[List.getElem?_append_left (by simpa using hi),qm] at h2
   cases e:vs[i]? with
   | none=>rw[e] at h2;cases h2
   | some a=>rw[e] at h2;cases h2;rfl
  obtain⟨u,hu,rv⟩:=r.get ha
  have hp:ps[i]?=some y:=by
   rw[← S.pre,List.getElem?_take_of_lt (by omega)];exact h1
  have ndP:ps.Nodup:=by rw[← S.pre];exact S.nd.sublist (List.take_sublist _ _)
  refine⟨u,rv,?_⟩
  rcases S.par y (List.mem_of_getElem? hp) with k | k
  ·exact .inl ⟨k,ygL ndP hp hu k⟩
  ·obtain⟨c,e⟩:=yiL (n:=s.heap.objs.size+1) k
   refine .inr ⟨.inl k,c,e,?_⟩
   have q:=x.cell y c e
   rw[yge ndP hp hu (by show scope.names.lookup y≠_;rw[k];decide)] at q
   exact q
 ·exact e0.hok.fresh (Nat.le_of_lt (x.above y c (PySem.mem_of_lookup h)))
 ·unfold start
  show _=N.length
  rw[qA,qM,List.length_replicate]
  omega
theorem ytJ {CX:CXT}{P:Program}{w:World}{K:qF}{mg:Str->Option Value}{base:Heap}{k:Nat}{f:Addr}{name qual:Str}{params:Arguments}{body:List Stmt}{scope:Scope}{dV kV doc pm cdv ct oc:Value}{an od:Option Addr}
  {osl:Array (Option Value)} {N ps:List Str} {sp:Sp} (lk:K.lookup f=some ⟨oc,od,.func (PySem.W.fnOf name qual params body scope dV kV doc pm an cdv ct),osl⟩) (hcd:PySem.W.codeIn K cdv qual=true) (S:yao N ps scope)
  (len:∀ vs H Q E,sp vs H Q E->vs.length=ps.length)
  (hbody:∀ (A:Around) (outer:List Env) (s:Shared) (H:Hp) (vs:List V) (Q:VK) (E:XK),Room k (A.deeper (envOfC qual scope s.heap.objs.size f cdv))->sp vs H Q E ->
   ∃ t,PSs (yjc CX P w K mg base N qual scope f cdv A outer s H E) body t/\t { nx:=λ_ H'=>Q .non H',rt:=Q } (start N vs) H) :
  FnOk P w K mg base CX (k+1) f (PySem.W.fnOf name qual params body scope dV kV doc pm an cdv ct) ps sp:=by
 refine⟨len,λA outer s H args us vs Q E hr e0 hb r hsp=>?_⟩
 have hl:=len _ _ _ _ hsp
 have KX:K.In s.heap:=e0.mod.kin.keeps λb o e=>(e0.bs b o e).1
 have lim:s.heap.NoLimit:=e0.mod.nolimit.keeps λb o e=>(e0.bs b o e).1
 have hkind:∀ y∈ps.zip us,scope.names.lookup y.1=some .local∨(scope.names.lookup y.1=some .cell/\((cellsFrom (s.heap.objs.size+1) scope.names []).lookup y.1).isSome=true):=λ⟨n,v⟩ hy=>by
  rcases S.par n (List.of_mem_zip hy).1 with q | q
  ·exact .inl q
  ·exact .inr ⟨q,PySem.W.cellsFrom_some _ _ _ (.inl q)⟩
 refine codeAny_call_function hr.depth (KX _ _ lk) rfl S.co S.gen rfl (PySem.W.codeRec_of KX hcd) (hb _ _ _ _ ?_)
 refine wpAny_newFunctionEnv_cells S.kind hkind λenv he s1 x=>?_
 subst he
 refine⟨lim.keeps x.toInCall.keep,codeAny_func ?_⟩
 obtain⟨t,ht,hq⟩:=hbody A outer s H vs Q E (hr.deeper _) hsp
 have I:Inv (yjc CX P w K mg base N qual scope f cdv A outer s H E) [] (start N vs) H s1:=ylC S hr.hd e0 hl r x
 refine wpAny_mono (ht [] s1 (start N vs) H _ I hq) (λfl s' hs=>?_) λe s' hs=>hs
 have fin:∀ {σ':St} {H':Hp} {v:V} {u:Value},Inv (yjc CX P w K mg base N qual scope f cdv A outer s H E) [] σ' H' s'->RelV v u->Q v H'->CE outer P w H s Q u s' :=
  λ{σ' H' v u} J rv q=>⟨v,H',J.os,J.bare,J.base,J.hok,rv,q⟩
 cases fl with
 | ret u =>
  obtain⟨v,σ',H',J,rv,q⟩:=hs
  exact fin J rv q
 | next =>
  obtain⟨σ',H',J,q⟩:=hs
  exact fin (v:=V.non) (u:=Value.none) J rfl q
 | brk =>
  obtain⟨_,_,_,q⟩:=hs
  exact False.elim q
 | cont =>
  obtain⟨_,_,_,q⟩:=hs
  exact False.elim q
section
variable {X:Cx} {x:Str} {p pos:Pos} {e:Expr} {es:List Expr} {t:TA} {id T:String} {r:List V->Hp->VK->Prop}
def tCB (r:List V->Hp->VK->Prop)(t:TA):TE:=fun σ H Q=>t σ H λvs H1=>r vs H1 Q
theorem yar (hc:ybF X (.builtin id) r)(hg:Gl X x)(hm:X.mg x=none)(hv:bootBuiltins x=some (.builtin id))(ha:PA X (e :: es) t)(hn:x≠"__name__":= by decide)(hdb:(x==("__debug__" : Str))=false:=by decide)
  (he:starEach (e :: es) X.env=(false,eval e X.env) :: starEach es X.env:=by rfl) (hpl:(backTo pos (starEach es X.env)).any (·.1)=false:=by rfl):PE X (.Call (.Name x p) (e :: es) [] pos) (tCB r t):=by
 intro pins s σ H Q I h
 refine wpAny_Call_Name_kw (ydH I hg hm hv ?_ hn hdb)
 exact PyProof.Rows.callWith_builtin1 (thn (ha pos pins s σ H _ I h) λus s1 ⟨vs,H1,I1,r1,q1⟩=>hc pins s1 σ H1 vs us Q I1 r1 q1) he hpl
theorem yaC (hc:ybF X (.type T) r)(hg:Gl X x)(hm:X.mg x=none)(hv:bootBuiltins x=some (.type T))(ha:PA X (e :: es) t)(hn:x≠"__name__":= by decide)(hdb:(x==("__debug__" : Str))=false:=by decide)
  (he:starEach (e :: es) X.env=(false,eval e X.env) :: starEach es X.env:=by rfl) (hpl:(backTo pos (starEach es X.env)).any (·.1)=false:=by rfl):PE X (.Call (.Name x p) (e :: es) [] pos) (tCB r t):=by
 intro pins s σ H Q I h
 refine wpAny_Call_Name_kw (ydH I hg hm hv ?_ hn hdb)
 exact PyProof.Rows.callWith_type1 (thn (ha pos pins s σ H _ I h) λus s1 ⟨vs,H1,I1,r1,q1⟩=>hc pins s1 σ H1 vs us Q I1 r1 q1) he hpl
end
end L2
namespace HT
open PySem PyProof.Rows
section
open PySem.SeqAt
open PySem.AutoSeq1 (wpAny_loadPart')
open PySem.MeetsSeq PySem.MeetsSeq2 PySem.MeetsSeq3
end
section
variable {prog:Program} {w:World} {A:Around} {E:Value->Shared->Prop} {s:Shared}
theorem cat_tup {t b:Addr}{vs ws:List Value}{Q:Value->Shared->Prop}(ht:IsTup s.heap t vs.toArray)(hb:IsTup s.heap b ws.toArray)(hv:vs≠[])
  (h1:ws=[]->Q (.ref t) s) (h2:ws≠[]->Q (.ref s.heap.objs.size) { s with heap:=s.heap.push { cls:=.type "tuple",data:=.seq (vs++ws).toArray } })
  (hsz:vs.length+ws.length<=sizeLine):wpAny (model prog w) A (binaryOp .Add (.ref t) (.ref b)) Q E s:=by
 obtain⟨⟨cls,dd,data,sl⟩,ho,hc,n,hd⟩:=id ht
 obtain⟨⟨cls2,dd2,data2,sl2⟩,ho2,hc2,n2,hd2⟩:=id hb
 simp only at hc hd hc2 hd2
 subst hc hd hc2 hd2
 have e:vs.toArray++ws.toArray=(vs++ws).toArray:=by simp
 by_cases hw:ws=[]
 ·exact concat_meets ⟨_,ho,rfl⟩ ⟨_,ho2,rfl⟩ noFill_tuple_add seq_tuple_add PySem.F.slot_tuple_add PySem.F.entry_tuple_add (PySem.F.args_tuple_add_2 _ _)
   (tuple_addW1 t b vs.toArray ws.toArray n n2 dd dd2 sl sl2 (by simpa using hv) (by simp[hw])) ⟨ho,ho2,h1 hw⟩
 ·refine concat_meets ⟨_,ho,rfl⟩ ⟨_,ho2,rfl⟩ noFill_tuple_add seq_tuple_add PySem.F.slot_tuple_add PySem.F.entry_tuple_add (PySem.F.args_tuple_add_2 _ _)
   (tuple_addW2 t b vs.toArray ws.toArray n n2 dd dd2 sl sl2 (by simpa using hv) (by simpa using hw) (by rw[qZ,qZ];exact hsz)) ⟨ho,ho2,?_⟩
  rw[e]
  exact h2 hw
noncomputable def sIx (n d:Nat):Option Int->Nat
 | none=>d
 | some v=>if v < 0 then (v+(n:Int)).toNat else min v.toNat n
theorem sIx_none (n d:Nat):sIx n d none=d:=rfl
theorem sIx_nat (n d k:Nat):sIx n d (some (k:Int))=min k n:=by
 show(if (k:Int) < 0 then ((k:Int)+(n:Int)).toNat else min (k:Int).toNat n)=min k n
 rw[if_neg (by omega),Int.toNat_natCast]
theorem yqR (n d:Nat)(hd:d<=n)(o:Option Int):sIx n d o<=n:=by
 cases o with
 | none=>exact hd
 | some v =>
  show(if v < 0 then (v+(n:Int)).toNat else min v.toNat n)<=n
  by_cases hv:v < 0
  ·rw[if_pos hv];omega
  ·rw[if_neg hv];exact Nat.min_le_right _ _
theorem ylf (v:Int)(n d:Nat):(if v < 0 then max (v+(n:Int)) 0 else min v (n:Int))=((sIx n d (some v):Nat):Int):=by
 show(if v < 0 then max (v+(n:Int)) 0 else min v (n:Int))=(((if v < 0 then (v+(n:Int)).toNat else min v.toNat n):Nat):Int)
 by_cases hv:v < 0
 ·simp only[if_pos hv];omega
 ·simp only[if_neg hv];omega
theorem yjh (lo hi:Option Int)(n:Nat):Builtin.Slice.sliceAdjust lo hi 1 (n:Int)=(((sIx n 0 lo:Nat):Int),((sIx n n hi:Nat):Int)):=by
 have h1:¬ ((1:Int) < 0):=by omega
 unfold Builtin.Slice.sliceAdjust
 simp only[h1,if_false]
 refine Prod.ext ?_ ?_
 ·cases lo with
  | none=>rfl
  | some v=>exact ylf v n 0
 ·cases hi with
  | none=>rfl
  | some v=>exact ylf v n n
theorem yjn (i j:Nat):Builtin.Slice.slicePlaces (i:Int) (j:Int) 1=j - i:=by
 unfold Builtin.Slice.slicePlaces
 have h1:(1:Int) > 0:=by omega
 simp only[h1,if_true,Int.ediv_one]
 split<;>omega
theorem ye4 {v:Value}{o:Option Int}{Q:Option Int->Shared->Prop}(p:IsPart v o)(h:Q o s):wpAny (model prog w) A (Builtin.Slice.slicePartIndex v) Q E s:=by
 cases p with
 | none=>exact slicePart_none h
 | int i t=>exact slicePart_int h
theorem ydS {sl:Addr}{vl vu:Value}{lo hi:Option Int}{n:Nat}{Q:Int×Int×Nat->Shared->Prop}(hs:s.heap.IsSliceOf sl vl vu .none)(pl:IsPart vl lo)(pu:IsPart vu hi)
  (h:Q (((sIx n 0 lo:Nat):Int),1,sIx n n hi - sIx n 0 lo) s):wpAny (model prog w) A (Builtin.Slice.sliceApplied (.ref sl) (pure (n:Int))) Q E s:=by
 obtain⟨os,hos,hcs,hds⟩:=id hs
 unfold Builtin.Slice.sliceApplied Builtin.Slice.sliceFields
 refine wpAny_bind (wpAny_bind (wpAny_field hos hds (x:=vl) rfl (wpAny_bind (wpAny_field hos hds (x:=vu) rfl (wpAny_bind (wpAny_field hos hds (x:=.none) rfl (wpAny_pure ?_)))))))
 refine wpAny_bind (slicePart_none ?_)
 show wpAny _ _ (if ((1:Int)==0)=true then _ else _) _ _ s
 rw[if_neg (by decide)]
 refine wpAny_bind (ye4 pl (wpAny_bind (ye4 pu (wpAny_bind (wpAny_pure ?_)))))
 show wpAny _ _ (match Builtin.Slice.sliceAdjust lo hi 1 (n:Int) with | (lo,hi)=>pure (lo,(1:Int),Builtin.Slice.slicePlaces lo hi 1)) _ _ s
 rw[yjh lo hi n]
 show wpAny _ _ (pure (((sIx n 0 lo:Nat):Int),(1:Int),Builtin.Slice.slicePlaces ((sIx n 0 lo:Nat):Int) ((sIx n n hi:Nat):Int) 1)) _ _ s
 rw[yjn]
 exact wpAny_pure h
theorem ymW (xs:Array Value)(i k:Nat):((List.range k).filterMap λ(m:Nat)=>xs[((i:Int)+(m:Int)*1).toNat]?).toArray=((xs.toList.drop i).take k).toArray:=by
 have e:(λ(m:Nat)=>xs[((i:Int)+(m:Int)*1).toNat]?)=λm=>xs[i+m]?:=by
  funext m
  have:((i:Int)+(m:Int)*1).toNat=i+m:=by omega
  rw[this]
 rw[e]
 have:=pick_run xs i k
 rw[List.filterMap_map] at this
 have e2:((λx=>xs[x]?) ∘ λx=>i+x)=λm=>xs[i+m]?:=rfl
 rw[e2] at this
 rw[this]
theorem getItem_tuple_cut {t sl:Addr}{items:Array Value}{vl vu:Value}{lo hi:Option Int}{Q:Value->Shared->Prop}(ht:IsTup s.heap t items)(hs:s.heap.IsSliceOf sl vl vu .none)(pl:IsPart vl lo)(pu:IsPart vu hi)
  (hw:¬ (sIx items.size 0 lo=0/\sIx items.size items.size hi=items.size))
  (h:Q (.ref s.heap.objs.size) { s with heap:=s.heap.push { cls:=.type "tuple",data:=.seq ((items.toList.drop (sIx items.size 0 lo)).take (sIx items.size items.size hi - sIx items.size 0 lo)).toArray } })
  (hsz:items.size<=sizeLine):wpAny (model prog w) A (getItem (.ref t) (.ref sl)) Q E s:=by
 have htake:sizeOk (.seq ((items.toList.drop (sIx items.size 0 lo)).take (sIx items.size items.size hi - sIx items.size 0 lo)).toArray):=by
  show((items.toList.drop (sIx items.size 0 lo)).take (sIx items.size items.size hi - sIx items.size 0 lo)).toArray.size<=sizeLine
  rw[qZ,qT,List.length_drop,Array.length_toList]
  omega
 have hj:sIx items.size items.size hi<=items.size:=yqR _ _ (qR _) hi
 obtain⟨os,hos,hcs,hds⟩:=id hs
 have hTs:s.TypeIs (.ref sl) "slice":= ⟨os,hos,hcs⟩
 unfold getItem
 try with_reducible refine wpAny_holding ?_
 first | refine wpAny_bind (wpAny_pure ?_) | skip
 refine wpAny_bind (wpAny_sequenceKey ht.typeIs (by decide) ?_)
 refine wpAny_bind (wpAny_callSpecial?_slot (name:=Str.ofString "__getitem__") ht.typeIs PyProof.Rows.slot_tuple_getitem
  (wpAny_call_entry PyProof.Rows.slot_tuple_getitem ht.typeIs entry_tuple_getitem ?_ (args_tuple_getitem _ _)))
 show wpAny _ _ (Builtin.Tuple.tupleItemsOf (.ref t) >>= _) _ _ s
 refine wpAny_bind (tupleItemsOf_ ht ?_)
 refine wpAny_bind (wpAny_typeOf hTs ?_)
 rw[if_pos (by decide)]
 refine wpAny_bind (ydS hs pl pu ?_)
 have hno:¬ ((((sIx items.size 0 lo:Nat):Int)==0&&(1:Int)==1&&(sIx items.size items.size hi - sIx items.size 0 lo)==items.size)=true):=by
  intro q
  rw[Bool.and_eq_true,Bool.and_eq_true] at q
  have q1:((sIx items.size 0 lo:Nat):Int)=0:=eq_of_beq q.1.1
  have q2:sIx items.size items.size hi - sIx items.size 0 lo=items.size:=eq_of_beq q.2
  exact hw ⟨by omega,by omega⟩
 show wpAny _ _ (if (((sIx items.size 0 lo:Nat):Int)==0&&(1:Int)==1&&(sIx items.size items.size hi - sIx items.size 0 lo)==items.size)=true then _ else _) _ _ s
 rw[if_neg hno,ymW]
 first
  | exact wpAny_bind (m:=Builtin.Tuple.tupleExact _) (wpAny_newObj_type (wpAny_pure ⟨_,rfl,wpAny_pure h⟩) htake)
  | exact wpAny_bind (m:=Builtin.Tuple.tupleExact _) (wpAny_newObj_type (wpAny_bind (wpAny_pure (wpAny_pure ⟨_,rfl,wpAny_pure h⟩))) htake)
  | exact wpAny_bind (wpAny_bind (m:=Builtin.Tuple.tupleExact _) (wpAny_newObj_type (wpAny_pure (wpAny_pure ⟨_,rfl,wpAny_pure h⟩)) htake))
  | exact wpAny_bind (wpAny_bind (m:=Builtin.Tuple.tupleExact _) (wpAny_newObj_type (wpAny_pure ⟨_,rfl,wpAny_pure h⟩) htake))
end
end HT
namespace L2
open PySem PySem.Spec PyProof.Rows
abbrev TO:=St->Hp->(Option Int->Hp->Prop)->Prop
def PO (X:Cx)(e:Option Expr)(t:TO):Prop :=
 ∀ (pins:List (Addr×Obj)) (s:Shared) (σ:St) (H:Hp) (Q:Option Int->Hp->Prop),Inv X pins σ H s->t σ H Q ->
  wpAny (model X.prog X.w) X.A (evalPart e X.env) (λu s'=>∃ o H',Inv X pins σ H' s'/\IsPart u o/\Q o H') X.xe s
noncomputable def yfp:TO:=λ_ H Q=>Q none H
def yl2 (t:TE):TO:=fun σ H Q=>t σ H λx H1=>∃ i,x=.int i/\Q (some i) H1
section
variable {X:Cx} {e:Expr} {te:TE} {lo hi:Option Expr} {tl th:TO} {pos p2:Pos}
theorem ybB:PO X none yfp:=by
 intro pins s σ H Q I h
 rw[evalPart_none]
 exact wpAny_pure ⟨none,H,I,.none,h⟩
theorem yaX (h:PE X e te):PO X (some e) (yl2 te):=by
 intro pins s σ H Q I hw
 rw[evalPart_some]
 refine thn (h pins s σ H _ I hw) λu s1 zq=>?_
 obtain⟨x,H1,I1,r1,q1⟩:=zq
 obtain⟨i,rfl,q⟩:=q1
 obtain⟨t,rfl⟩:=r1
 exact⟨some i,H1,I1,.int i t,q⟩
def SlR (X:Cx)(r:V->Option Int->Option Int->Hp->VK->Prop):Prop :=
 ∀ (pins:List (Addr×Obj)) (s:Shared) (σ:St) (H:Hp) (x:V) (v vl vu:Value) (lo hi:Option Int) (sl:Addr) (Q:VK),Inv X pins σ H s->RelV x v->s.heap.IsSliceOf sl vl vu .none->IsPart vl lo->IsPart vu hi->r x lo hi H Q ->
  ∃ T id,typeLookup (.type T) "__getitem__"=pure (some (.builtin id))/\s.TypeIs v T/\wpAny (model X.prog X.w) X.A (getItem v (.ref sl)) (EP X pins σ Q) X.xe s
def tSl (r:V->Option Int->Option Int->Hp->VK->Prop)(te:TE)(tl th:TO):TE:=fun σ H Q=>te σ H λx H1=>tl σ H1 λl H2=>th σ H2 λu H3=>r x l u H3 Q
theorem yaW {r:V->Option Int->Option Int->Hp->VK->Prop}(hr:SlR X r)(he:PE X e te)(hl:PO X lo tl)(hu:PO X hi th):PE X (.Subscript e (.Slice lo hi none p2) pos) (tSl r te tl th):=by
 intro pins s σ H Q I h
 refine Subscript_ (thn (he pins s σ H _ I h) λv s1 zq=>?_)
 obtain⟨x,H1,I1,r1,q1⟩:=zq
 refine wpAny_Slice (thn (hl pins s1 σ H1 _ I1 q1) λvl s2 ⟨l,H2,I2,pl,q2⟩=>thn (hu pins s2 σ H2 _ I2 q2) λvu s3 zq=>?_)
 obtain⟨u,H3,I3,pu,q3⟩:=zq
 rw[evalPart_none]
 refine wpAny_pure ?_
 have I4:Inv X pins σ H3 { s3 with heap:=s3.heap.push { cls:=.type "slice",data:=.fields #[vl,vu,.none] } }:=I3.kept (t':=s3.toks) λb ob q=>Heap.get?_push_of_some _ q
 obtain⟨T,id,hT,ht,hg⟩:=hr pins { s3 with heap:=s3.heap.push { cls:=.type "slice",data:=.fields #[vl,vu,.none] } } σ H3 x v vl vu l u s3.heap.objs.size Q I4 r1 (Heap.IsSliceOf.new ..) pl pu q3
 show wpAny (model X.prog X.w) X.A (subscriptTail e (.Slice lo hi none p2) v (.ref s3.heap.objs.size)) (EP X pins σ Q) X.xe { s3 with heap:=s3.heap.push { cls:=.type "slice",data:=.fields #[vl,vu,.none] } }
 exact tail_any (ops:=[.ref s3.heap.objs.size,v]) ht hT hg (by with_unfolding_all rfl)
def yjy (xs:List V)(lo hi:Option Int):List V:=(xs.drop (HT.sIx xs.length 0 lo)).take (HT.sIx xs.length xs.length hi - HT.sIx xs.length 0 lo)
theorem yez (xs:List V)(lo hi:Option Int):(yjy xs lo hi).length<=xs.length:=by
 unfold yjy
 rw[qT,List.length_drop]
 omega
def yu2 (K:qF):V->Option Int->Option Int->Hp->VK->Prop:=λx lo hi H Q=>∃ a xs,x=.ref a/\SqT K H a xs /\
 ¬ (HT.sIx xs.length 0 lo=0/\HT.sIx xs.length xs.length hi=xs.length)/\∀ p,H p=none->Q (.ref p) (upd H p (.tup (yjy xs lo hi)))
theorem ynX:SlR X (yu2 X.K):=by
 intro pins s σ H x v vl vu lo hi sl Q I rx hs pl pu h
 obtain⟨a,xs,rfl,hx,hw,q⟩:=h
 cases rx
 obtain⟨its,r,ht,hz⟩:=I.tuple hx
 have hlen:its.toArray.size=xs.length:=by rw[qZ];exact r.length.symm
 refine⟨"tuple",_,PyProof.Rows.slot_tuple_getitem.lookup,ht.typeIs,?_⟩
 refine HT.getItem_tuple_cut ht hs pl pu (by rw[hlen];exact hw) ?_ (by rw[hlen];exact hz)
 rw[hlen]
 refine⟨.ref s.heap.objs.size,_,I.laid (t':=s.toks) (o:=.tup (yjy xs lo hi)) (λb ob q=>Heap.get?_push_of_some _ q) (qR _) ?_,rfl,q _ (I.hok.fresh (qR _))⟩
 exact⟨Nat.le_trans (yez xs lo hi) hz,_,(r.drop (HT.sIx xs.length 0 lo)).take (HT.sIx xs.length xs.length hi - HT.sIx xs.length 0 lo),IsTup.new _ _⟩
def yrA (K:qF):R2:=λx y H Q=>∃ a b xs ys,x=.ref a/\y=.ref b/\SqT K H a xs/\SqT K H b ys/\xs≠[]/\xs.length+ys.length<=sizeLine /\
 (ys=[]->Q (.ref a) H)/\(ys≠[]->∀ p,H p=none->Q (.ref p) (upd H p (.tup (xs++ys))))
theorem Vals.nil_iff {xs:List V}{us:List Value}(r:Vals xs us):us=[]↔xs=[]:=by
 cases r with
 | nil=>simp
 | cons _ _=>simp
theorem ykg:OpR X (binaryOp .Add) (yrA X.K):=by
 intro pins s σ H x y v u Q I rx ry h
 obtain⟨a,b,xs,ys,rfl,rfl,ha,hb,hx,hz,q1,q2⟩:=h
 cases rx
 cases ry
 obtain⟨its,r1,p1,_⟩:=I.tuple ha
 obtain⟨its2,r2,p2,_⟩:=I.tuple hb
 refine HT.cat_tup p1 p2 (λz=>hx (r1.nil_iff.mp z)) (λz=>⟨.ref a,H,I,rfl,q1 (r2.nil_iff.mp z)⟩) (λz=>?_) (by rw[← r1.length,← r2.length];exact hz)
 refine⟨.ref s.heap.objs.size,_,I.laid (t':=s.toks) (o:=.tup (xs++ys)) (λb ob q=>Heap.get?_push_of_some _ q) (qR _) ?_,rfl,q2 (λw=>z (r2.nil_iff.mpr w)) _ (I.hok.fresh (qR _))⟩
 exact⟨by rw[qA];exact hz,_,r1.append r2,IsTup.new _ _⟩
end
noncomputable def ixN (n:Nat)(i:Int):Option Nat:=if 0<=i then (if i < n then some i.toNat else none) else if -(n:Int)<=i then some (i+n).toNat else none
noncomputable def atI {α:Type}(xs:List α)(i:Int):Option α:=(ixN xs.length i).bind λj=>xs[j]?
theorem ykC {n:Nat}{i:Int}{j:Nat}(h:ixN n i=some j):seqIndex? i n=some j/\j < n/\-(n:Int)<=i/\i < n:=by
 unfold ixN at h
 by_cases h0:0<=i
 ·rw[if_pos h0] at h
  by_cases h1:i < n
  ·rw[if_pos h1] at h
   have e:i.toNat=j:=Option.some.inj h
   exact⟨by rw[seqIndex_of h0 h1,e],by omega,by omega,h1⟩
  ·rw[if_neg h1] at h;cases h
 ·rw[if_neg h0] at h
  by_cases h1:-(n:Int)<=i
  ·rw[if_pos h1] at h
   have e:(i+n).toNat=j:=Option.some.inj h
   exact⟨by rw[seqIndex_neg (by omega) h1,e],by omega,h1,by omega⟩
  ·rw[if_neg h1] at h;cases h
theorem yhw {α:Type}{xs:List α}{i:Int}{v:α}(h:atI xs i=some v):∃ j,seqIndex? i xs.length=some j/\xs[j]?=some v/\j < xs.length/\-(xs.length:Int)<=i/\i < xs.length:=by
 unfold atI at h
 cases e:ixN xs.length i with
 | none=>rw[e] at h;cases h
 | some j =>
  rw[e] at h
  obtain⟨h1,h2,h3,h4⟩:=ykC e
  exact⟨j,h1,h,h2,h3,h4⟩
theorem yav {α:Type}{xs:List α}{j:Nat}{v:α}(h:xs[j]?=some v):atI xs (j:Int)=some v:=by
 have hj:j < xs.length:=(qE h).1
 have e:ixN xs.length (j:Int)=some j:=by
  unfold ixN
  rw[if_pos (by omega),if_pos (by omega)];simp
 unfold atI;rw[e];exact h
theorem ymo {α:Type}(xs:List α)(v:α):atI (xs++[v]) (-1)=some v:=by
 have hl:(xs++[v]).length=xs.length+1:=by simp
 have e:ixN (xs++[v]).length (-1)=some xs.length:=by
  unfold ixN
  rw[hl,if_neg (by decide),if_pos (by omega)]
  congr 1
  omega
 unfold atI
 rw[e]
 show(xs++[v])[xs.length]?=some v
 simp
def ypw (b:Expr):Prop:=∀ o i,subscripted b false o i=operate [o,i] (getItem o i)
def IxR (X:Cx)(r:R2):Prop :=
 ∀ (value slice:Expr) (pins:List (Addr×Obj)) (s:Shared) (σ:St) (H:Hp) (x y:V) (v u:Value) (Q:VK),Inv X pins σ H s->RelV x v->RelV y u->r x y H Q ->
  subscripted slice false v u=operate [v,u] (getItem v u)->wpAny (model X.prog X.w) X.A (subscriptTail value slice v u) (EP X pins σ Q) X.xe s
def MtR (X:Cx)(id:String)(r:V->List V->Hp->VK->Prop):Prop :=
 ∀ (pins:List (Addr×Obj)) (s:Shared) (σ:St) (H:Hp) (x:V) (xs:List V) (v:Value) (us:List Value) (Q:VK),Inv X pins σ H s->RelV x v->Vals xs us->r x xs H Q ->
  wpAny (model X.prog X.w) X.A (call (.builtin id) (v :: us)) (EP X pins σ Q) X.xe s
section
variable {X:Cx} {a b:Expr} {ta tb:TE} {pos:Pos}
theorem ya5 {r:R2}(hr:IxR X r)(ha:PE X a ta)(hb:PE X b tb)(hs:ypw b):PE X (.Subscript a b pos) (tOp r ta tb):=by
 intro pins s σ H Q I h
 exact Subscript_ (ytk ha hb I h λv u s2 x y H2 I2 rx ry q=>hr a b pins s2 σ H2 x y v u Q I2 rx ry q (hs _ _))
def ynN (K:qF):R2:=λx y H Q=>∃ p xs i v,x=.ref p/\y=.int i/\SqL K H p xs/\atI xs i=some v/\Q v H
def ylD (K:qF):R2:=λx y H Q=>∃ p xs i v,x=.ref p/\y=.int i/\SqT K H p xs/\atI xs i=some v/\Q v H
def yu8:R2:=λx y H Q=>∃ z i c,x=.str z/\y=.int i/\z.length<=sizeLine/\atI z.cps.toList i=some c/\Q (.str ⟨#[c]⟩) H
theorem ya1:IxR X (ynN X.K):=by
 intro value slice pins s σ H x y v u Q I rx ry h hs
 obtain⟨p,xs,i,z,rfl,rfl,hq,he,q⟩:=h
 cases rx
 obtain⟨t,rfl⟩:=ry
 obtain⟨its,r,pl,hz⟩:=I.list hq
 obtain⟨j,h1,h2,h3,h4,h5⟩:=yhw he
 obtain⟨w,ew,rw'⟩:=r.get h2
 have hl:=r.length
 have hn:=yee
 have fin:EP X pins σ Q w s:=⟨z,H,I,rw',q⟩
 by_cases h0:0<=i
 ·have hj:i.toNat=j:=by
   rw[seqIndex_of h0 h5] at h1
   exact Option.some.inj h1
  exact item_listR pl.isList h0 (by omega) (by rw[hj];simpa using ew) fin hs
 ·have hj:(i+(its.toArray.size:Int)).toNat=j:=by
   rw[seqIndex_neg (by omega) h4] at h1
   rw[qZ,← hl]
   exact Option.some.inj h1
  exact subscriptTail_builtinR (x:=w) pl.isList.typeIs slot_list_getitem.lookup
   (wpAny_getItem_list_neg (Q:=λr s'=>r=w/\EP X pins σ Q r s') pl.isList (by omega) (by rw[qZ]<;>omega) (by omega) (by rw[hj];simpa using ew) ⟨rfl,fin⟩) hs
theorem ycJ:IxR X (ylD X.K):=by
 intro value slice pins s σ H x y v u Q I rx ry h hs
 obtain⟨p,xs,i,z,rfl,rfl,hq,he,q⟩:=h
 cases rx
 obtain⟨t,rfl⟩:=ry
 obtain⟨its,r,pl,hz⟩:=I.tuple hq
 obtain⟨j,h1,h2,h3,h4,h5⟩:=yhw he
 obtain⟨w,ew,rw'⟩:=r.get h2
 have hl:=r.length
 have hn:=yee
 have fin:EP X pins σ Q w s:=⟨z,H,I,rw',q⟩
 exact subscriptTail_builtinR (x:=w) pl.typeIs slot_tuple_getitem.lookup
  (getItem_tuple (j:=j) (Q:=λr s'=>r=w/\EP X pins σ Q r s') pl (by omega) (by omega) (by rw[qZ,← hl];exact h1) (by simpa using ew) ⟨rfl,fin⟩) hs
theorem ycN:IxR X yu8:=by
 intro value slice pins s σ H x y v u Q I rx ry h hs
 obtain⟨z,i,c,rfl,rfl,hz,he,q⟩:=h
 obtain⟨t,rfl⟩:=rx
 obtain⟨t',rfl⟩:=ry
 obtain⟨j,h1,h2,h3,h4,h5⟩:=yhw he
 have hl:z.cps.toList.length=z.length:=by simp[Str.length]
 rw[hl] at h1 h4 h5
 have hn:=yee
 exact tail_any (typeIs_str s z t) slot_str_getitem.lookup (getItem_str (c:=c) (by
  have e1:decide (i < -(2 ^ 63:Int))=false:=decide_eq_false (by omega)
  have e2:decide (i≥2 ^ 63)=false:=decide_eq_false (by omega)
  rw[e1,e2,Bool.or_false]) (by rw[h1];simpa using h2) ⟨.str ⟨#[c]⟩,H,I.tok _,⟨_,rfl⟩,q⟩) hs
theorem yiX (its:List Value)(n j:Nat)(u:Value):Obj.mapSeq (·.setIfInBounds j u) { cls:=.type "list",data:=.seq its.toArray n }={ cls:=.type "list",data:=.seq (its.set j u).toArray n }:=by
 simp[Obj.mapSeq]
theorem Inv.lst {pins:List (Addr×Obj)}{σ:St}{H:Hp}{s:Shared}{p:Addr}{xs:List V}(I:Inv X pins σ H s)(h:H p=some (.lst xs)) :
  ∃ (its:List Value) (n:Nat),Vals xs its/\s.heap.get? p=some { cls:=.type "list",data:=.seq its.toArray n }/\xs.length<=sizeLine:=by
 obtain⟨z,its,n,r,e⟩:=I.hok p _ h
 exact⟨its,n,r,e,z⟩
theorem Inv.lstUpd {pins:List (Addr×Obj)}{σ:St}{H:Hp}{s:Shared}{p:Addr}{xs ys:List V}{its its':List Value}{n n':Nat}{f:Obj->Obj}(I:Inv X pins σ H s)(h:H p=some (.lst xs))
  (ho:s.heap.get? p=some { cls:=.type "list",data:=.seq its.toArray n }) (hf:f { cls:=.type "list",data:=.seq its.toArray n }={ cls:=.type "list",data:=.seq its'.toArray n' }) (r:Vals ys its') (hz:ys.length<=sizeLine) (t:Nat) :
  Inv X pins σ (upd H p (.lst ys)) { s with heap:=s.heap.update p f,toks:=t }:=by
 have e:(s.heap.update p f).get? p=some { cls:=.type "list",data:=.seq its'.toArray n' }:=by
  rw[Heap.get?_update_self f ho (by rw[hf]<;>rfl),hf]
 refine I.write (x:=p) (e:=p) (by rw[h];trivial) (.inl rfl) (λb u hb q=>(Heap.get?_update_other _ _ (Ne.symm hb)).trans q) ⟨_,e⟩ ?_
 exact⟨hz,its',n',r,e⟩
def yry:V->V->V->Hp->(Hp->Prop)->Prop:=λo i v H Q=>∃ p xs k j,o=.ref p/\i=.int k/\H p=some (.lst xs)/\ixN xs.length k=some j/\Q (upd H p (.lst (xs.set j v)))
theorem ym1:yu7 X yry:=by
 intro pins s σ H o i v ov iv u Q I ro ri rv h
 obtain⟨p,xs,k,j,rfl,rfl,hp,hj,q⟩:=h
 cases ro
 obtain⟨t,rfl⟩:=ri
 obtain⟨its,n,r,ho,hz⟩:=I.lst hp
 obtain⟨h1,h2,h3,h4⟩:=ykC hj
 have hl:=r.length
 have hn:=yee
 have I':Inv X pins σ (upd H p (.lst (xs.set j v))) { s with heap:=s.heap.update p (Obj.mapSeq (·.setIfInBounds j u)) } :=
  I.lstUpd hp ho (yiX its n j u) (r.set rv j) (by rw[List.length_set];exact hz) s.toks
 by_cases h0:0<=k
 ·have hk:k.toNat=j:=by
   rw[seqIndex_of h0 h4] at h1
   exact Option.some.inj h1
  exact PySem.W.ki_setAt ho h0 (by omega) (by rw[qZ,← hl];exact h4) (by rw[hk];exact⟨_,I',q⟩)
 ·have hk:(k+(its.toArray.size:Int)).toNat=j:=by
   rw[seqIndex_neg (by omega) h3] at h1
   rw[qZ,← hl]
   exact Option.some.inj h1
  exact PySem.W.ki_setBack ho (by omega) (by rw[qZ,← hl];exact h3) (by omega) (by rw[hk];exact⟨_,I',q⟩)
theorem ygC (lo hi:Option Int)(n:Nat):(sliceBounds lo hi none n).1=((HT.sIx n 0 lo:Nat):Int)/\(sliceBounds lo hi none n).2.1=((HT.sIx n n hi:Nat):Int)/\(sliceBounds lo hi none n).2.2=1:=by
 refine⟨?_,?_,rfl⟩
 ·cases lo with
  | none=>simp[sliceBounds,HT.sIx]
  | some i =>
   simp only[sliceBounds,HT.sIx,Option.getD_none,show(1:Int) > 0 by decide,if_true]
   by_cases h:i < 0
   ·simp only[h,if_true]<;>omega
   ·simp only[h,if_false]<;>omega
 ·cases hi with
  | none=>simp[sliceBounds,HT.sIx]
  | some i =>
   simp only[sliceBounds,HT.sIx,Option.getD_none,show(1:Int) > 0 by decide,if_true]
   by_cases h:i < 0
   ·simp only[h,if_true]<;>omega
   ·simp only[h,if_false]<;>omega
theorem yfJ (its:List Value)(lo hi:Option Int):slicePick its.toArray lo hi none=((its.drop (HT.sIx its.length 0 lo)).take (HT.sIx its.length its.length hi - HT.sIx its.length 0 lo)).toArray:=by
 obtain⟨h1,h2,h3⟩:=ygC lo hi its.toArray.size
 unfold slicePick
 rw[h1,h2,h3]
 simp only[sliceRange_one,pick_run,qZ]<;>rfl
def yvd (K:qF):V->Option Int->Option Int->Hp->VK->Prop:=λx lo hi H Q=>∃ a xs,x=.ref a/\SqL K H a xs/\∀ p,H p=none->Q (.ref p) (upd H p (.lst (yjy xs lo hi)))
theorem ypJ:SlR X (yvd X.K):=by
 intro pins s σ H x v vl vu lo hi sl Q I rx hs pl pu h
 obtain⟨a,xs,rfl,hx,q⟩:=h
 cases rx
 obtain⟨its,r,ht,hz⟩:=I.list hx
 have hlen:=r.length
 refine⟨"list",_,slot_list_getitem.lookup,ht.isList.typeIs,?_⟩
 refine wpAny_getItem_list_slice ht.isList hs pl pu .none (by simp) ?_ (by rw[qZ]<;>omega)
 rw[yfJ,← hlen]
 refine⟨.ref s.heap.objs.size,_,I.laid (t':=s.toks) (o:=.lst (yjy xs lo hi)) (λb ob q=>Heap.get?_push_of_some _ q) (qR _) ?_,rfl,q _ (I.hok.fresh (qR _))⟩
 exact⟨Nat.le_trans (yez xs lo hi) hz,_,0,(r.drop (HT.sIx xs.length 0 lo)).take (HT.sIx xs.length xs.length hi - HT.sIx xs.length 0 lo),Heap.get?_push_size _ rfl⟩
def ycp:V->Bool
 | .non=>true
 | .bl _=>true
 | .int _=>true
 | .str _=>true
 | _=>false
noncomputable def eqV:V->V->Bool
 | .non,.non=>true
 | .bl a,.bl b=>a==b
 | .bl a,.int b=>(if a then 1 else 0)==b
 | .int a,.bl b=>a==(if b then 1 else 0)
 | .int a,.int b=>a==b
 | .str a,.str b=>a==b
 | _,_=>false
theorem ynQ {A:Around}{s:Shared}{y x:V}{u v:Value}(ry:RelV y u)(rx:RelV x v)(fy:ycp y=true)(fx:ycp x=true):SeqAt.EqAt A s u v (eqV y x):=by
 cases y with
 | non =>
  cases ry
  cases x with
  | non=>cases rx;exact SeqAt.EqAt.same _
  | bl b=>cases rx;exact SeqAt.EqAt.none_bool b
  | int b=>obtain⟨t,rfl⟩:=rx;exact SeqAt.EqAt.none_int b t
  | str b=>obtain⟨t,rfl⟩:=rx;exact SeqAt.EqAt.none_str b t
  | _=>exact absurd (show false=true from fx) qN
 | bl a =>
  cases ry
  cases x with
  | non=>cases rx;exact SeqAt.EqAt.bool_none a
  | bl b=>cases rx;exact SeqAt.EqAt.bool_bool a b
  | int b=>obtain⟨t,rfl⟩:=rx;exact SeqAt.EqAt.bool_int a b t
  | str b=>obtain⟨t,rfl⟩:=rx;exact SeqAt.EqAt.bool_str a b t
  | _=>exact absurd (show false=true from fx) qN
 | int a =>
  obtain⟨t',rfl⟩:=ry
  cases x with
  | non=>cases rx;exact SeqAt.EqAt.int_none a t'
  | bl b=>cases rx;exact SeqAt.EqAt.int_bool a t' b
  | int b=>obtain⟨t,rfl⟩:=rx;exact SeqAt.EqAt.int_int a t' b t
  | str b=>obtain⟨t,rfl⟩:=rx;exact SeqAt.EqAt.int_str a t' b t
  | _=>exact absurd (show false=true from fx) qN
 | str a =>
  obtain⟨t',rfl⟩:=ry
  cases x with
  | non=>cases rx;exact SeqAt.EqAt.str_none a t'
  | bl b=>cases rx;exact SeqAt.EqAt.str_bool a t' b
  | int b=>obtain⟨t,rfl⟩:=rx;exact SeqAt.EqAt.str_int a t' b t
  | str b=>obtain⟨t,rfl⟩:=rx;exact SeqAt.EqAt.str_str a t' b t
  | _=>exact absurd (show false=true from fx) qN
 | _=>exact absurd (show false=true from fy) qN
noncomputable def eqU (x:V)(u:Value):Bool:=match u with
 | .none=>eqV .non x
 | .bool b=>eqV (.bl b) x
 | .int i _=>eqV (.int i) x
 | .str z _=>eqV (.str z) x
 | _=>false
theorem yn6 {x y:V}{u:Value}(r:RelV y u)(f:ycp y=true):eqU x u=eqV y x:=by
 cases y with
 | non=>cases r;rfl
 | bl b=>cases r;rfl
 | int i=>obtain⟨t,rfl⟩:=r;rfl
 | str z=>obtain⟨t,rfl⟩:=r;rfl
 | _=>exact absurd (show false=true from f) qN
theorem yd4 {x:V}:∀ {xs:List V} {us:List Value},Vals xs us->xs.all ycp=true->us.any (eqU x)=xs.any λy=>eqV y x
 | _,_,.nil,_=>rfl
 | y :: xs,u :: us,.cons r t,f=>by
  rw[List.all_cons,Bool.and_eq_true] at f
  rw[List.any_cons,List.any_cons,yn6 r f.1,yd4 t f.2]
theorem ydq {A:Around}{s:Shared}{x:V}{v:Value}(rx:RelV x v)(fx:ycp x=true):∀ {xs:List V} {us:List Value},Vals xs us->xs.all ycp=true->∀ u∈us,SeqAt.EqAt A s u v (eqU x u)
 | _,_,.nil,_=>λu hu=>by cases hu
 | y :: xs,u :: us,.cons r t,f=>λu' hu=>by
  rw[List.all_cons,Bool.and_eq_true] at f
  rcases List.mem_cons.mp hu with rfl | hu
  ·rw[yn6 r f.1];exact ynQ r rx f.1 fx
  ·exact ydq rx fx t f.2 u' hu
noncomputable def inV (x:V)(xs:List V):Bool:=xs.any λy=>eqV y x
def rIn (K:qF)(neg:Bool):R2:=λx y H Q=>∃ p xs,y=.ref p/\(SqL K H p xs∨SqT K H p xs)/\ycp x=true/\xs.all ycp=true/\Q (.bl (if neg then !inV x xs else inV x xs)) H
theorem yjz:OpR X (compareOp .In) (rIn X.K false):=by
 intro pins s σ H x y v u Q I rx ry h
 obtain⟨p,xs,rfl,hq,fx,fs,q⟩:=h
 cases ry
 rcases hq with hq | hq
 ·obtain⟨its,r,pl,hz⟩:=I.list hq
  refine SeqAt.in_listAt (eqU x) pl.isList (λw hw=>ydq rx fx r fs w (by simpa using hw)) ⟨.bl _,H,I,rfl,?_⟩
  rw[show its.toArray.any (eqU x)=its.any (eqU x) by simp,yd4 r fs]
  exact q
 ·obtain⟨its,r,pl,hz⟩:=I.tuple hq
  refine SeqAt.in_tupleAt (eqU x) pl (λw hw=>ydq rx fx r fs w (by simpa using hw)) ⟨.bl _,H,I,rfl,?_⟩
  rw[show its.toArray.any (eqU x)=its.any (eqU x) by simp,yd4 r fs]
  exact q
theorem ycj:OpR X (compareOp .NotIn) (rIn X.K true):=by
 intro pins s σ H x y v u Q I rx ry h
 obtain⟨p,xs,rfl,hq,fx,fs,q⟩:=h
 cases ry
 rcases hq with hq | hq
 ·obtain⟨its,r,pl,hz⟩:=I.list hq
  refine SeqAt.notIn_listAt (eqU x) pl.isList (λw hw=>ydq rx fx r fs w (by simpa using hw)) ⟨.bl _,H,I,rfl,?_⟩
  rw[show its.toArray.any (eqU x)=its.any (eqU x) by simp,yd4 r fs]
  exact q
 ·obtain⟨its,r,pl,hz⟩:=I.tuple hq
  refine SeqAt.notIn_tupleAt (eqU x) pl (λw hw=>ydq rx fx r fs w (by simpa using hw)) ⟨.bl _,H,I,rfl,?_⟩
  rw[show its.toArray.any (eqU x)=its.any (eqU x) by simp,yd4 r fs]
  exact q
theorem yaL:ybF X (.builtin "len") (λxs H Q=>∃ p ys,xs=[.ref p]/\(SqL X.K H p ys∨SqT X.K H p ys)/\Q (.int ys.length) H):=by
 intro pins s σ H xs us Q I r h
 obtain⟨p,ys,rfl,hq,q⟩:=h
 obtain⟨u,rfl,rx⟩:=ydG r
 cases rx
 have hn:=yee
 rcases hq with hq | hq
 ·obtain⟨its,r',pl,hz⟩:=I.list hq
  have hlen:=r'.length
  exact Calls.call_len_list pl.isList (by simp only[qZ]<;>omega) ⟨.int ys.length,H,I.tok _,⟨s.toks+1,by rw[qZ,hlen]⟩,q⟩
 ·obtain⟨its,r',pl,hz⟩:=I.tuple hq
  have hlen:=r'.length
  exact len_tuple pl (by simp only[qZ]<;>omega) ⟨.int ys.length,H,I.tok _,⟨s.toks+1,by rw[qZ,hlen]⟩,q⟩
theorem ygM:ybF X (.builtin "len") (λxs H Q=>∃ z,xs=[.str z]/\z.length<=sizeLine/\Q (.int z.length) H):=by
 intro pins s σ H xs us Q I r h
 obtain⟨z,rfl,hz,q⟩:=h
 obtain⟨u,rfl,t,rfl⟩:=ydG r
 have hn:=yee
 exact len_str (by omega) ⟨.int z.length,H,I.tok _,⟨_,rfl⟩,q⟩
theorem ycI:ybF X (.type "list") (λxs H Q=>∃ p ys,xs=[.ref p]/\(SqL X.K H p ys∨SqT X.K H p ys)/\∀ l,H l=none->Q (.ref l) (upd H l (.lst ys))):=by
 intro pins s σ H xs us Q I r h
 obtain⟨p,ys,rfl,hq,q⟩:=h
 obtain⟨u,rfl,rx⟩:=ydG r
 cases rx
 have fin:∀ (its:List Value),Vals ys its->ys.length<=sizeLine->∀ (h':Heap) (c':Nat),(∀ b o',s.heap.get? b=some o'->h'.get? b=some o') ->
   h'.get? s.heap.objs.size=some { cls:=.type "list",dict:=none,data:=.seq its.toArray c',slots:=#[] }->EP X pins σ Q (.ref s.heap.objs.size) { s with heap:=h' }:=λits r' hz h' c' kp e =>
  ⟨.ref s.heap.objs.size,_,I.laid (t':=s.toks) kp (qR _) (show ObjOk X.prog X.w _ h' _ (.lst ys) from ⟨hz,its,c',r',e⟩),rfl,q _ (I.hok.fresh (qR _))⟩
 rcases hq with hq | hq
 ·obtain⟨its,r',pl,hz⟩:=I.list hq
  have hlen:=r'.length
  obtain⟨o,ho,hc,n,hd⟩:=pl.isList
  exact call_list_seq p (.inl rfl) ho hc hd (λh' c' kp e=>fin its r' hz h' c' kp e) (by simp only[qZ]<;>omega)
 ·obtain⟨its,r',pl,hz⟩:=I.tuple hq
  have hlen:=r'.length
  obtain⟨o,ho,hc,n,hd⟩:=pl
  exact call_list_seq p (.inr rfl) ho hc hd (λh' c' kp e=>fin its r' hz h' c' kp e) (by simp only[qZ]<;>omega)
theorem ydl:ybF X (.type "tuple") (λxs H Q=>∃ p ys,xs=[.ref p]/\((SqL X.K H p ys/\∀ l,H l=none->Q (.ref l) (upd H l (.tup ys)))∨(SqT X.K H p ys/\Q (.ref p) H))):=by
 intro pins s σ H xs us Q I r h
 obtain⟨p,ys,rfl,h⟩:=h
 obtain⟨u,rfl,rx⟩:=ydG r
 cases rx
 rcases h with ⟨hq,q⟩ | ⟨hq,q⟩
 ·obtain⟨its,r',pl,hz⟩:=I.list hq
  have hlen:=r'.length
  refine call_tuple_list pl.isList (λh' kp=>?_) (by simp only[qZ]<;>omega)
  have I1:Inv X pins σ H { s with heap:=h' }:=I.kept (t':=s.toks) kp
  have I2:Inv X pins σ (upd H h'.objs.size (.tup ys)) { s with heap:=h'.push { cls:=.type "tuple",data:=.seq its.toArray } } :=
   I1.laid (t':=s.toks) (λb o e=>Heap.get?_push_of_some _ e) (qR _) (show ObjOk X.prog X.w _ _ _ (.tup ys) from ⟨hz,its,r',IsTup.new _ _⟩)
  exact⟨.ref h'.objs.size,_,I2,rfl,q _ (I1.hok.fresh (qR _))⟩
 ·obtain⟨its,r',pl,hz⟩:=I.tuple hq
  exact call_tuple_same pl ⟨.ref p,H,I,rfl,q⟩
def tyV (K:qF)(T:String)(x:V)(H:Hp):Prop:=match x with
 | .str _=>T="str"
 | .int _=>T="int"
 | .ref p=>(T="list" /\ ∃ xs,SqL K H p xs)∨(T="tuple" /\ ∃ o,K.lookup p=some o/\o.cls=.type "tuple" /\ o.dict=none) ∨
   (T="dict" /\ ((∃ kvs,H p=some (.dK kvs))∨∃ kvs,H p=some (.dT kvs)))∨(T="set" /\ ∃ S n,H p=some (.set S n))
 | _=>False
theorem yrR {pins:List (Addr×Obj)}{σ:St}{H:Hp}{s:Shared}{T:String}{x:V}{v:Value}(I:Inv X pins σ H s)(r:RelV x v)(ty:tyV X.K T x H) :
  s.TypeIs v T/\∀ a,v=.ref a->∃ ob,s.heap.get? a=some ob/\ob.dict=none:=by
 cases x with
 | str z =>
  obtain⟨t,rfl⟩:=r
  cases (show T="str" from ty)
  exact⟨typeIs_str s z t,λ_ e=>nomatch e⟩
 | int i =>
  obtain⟨t,rfl⟩:=r
  cases (show T="int" from ty)
  exact⟨typeIs_int s i t,λ_ e=>nomatch e⟩
 | ref p =>
  cases r
  rcases ty with ⟨rfl,xs,hq⟩ | ⟨rfl,o,hk,hc,hd⟩ | ⟨rfl,hk⟩ | ⟨rfl,S,n,hk⟩
  ·obtain⟨its,_,pl,_⟩:=I.list hq
   refine⟨pl.isList.typeIs,λa e=>?_⟩
   cases e
   obtain⟨o,n,e,c,hd,_⟩:=pl
   exact⟨o,e,hd⟩
  ·refine⟨⟨o,I.kIn p o hk,hc⟩,λa e=>?_⟩
   cases e
   exact⟨o,I.kIn _ o hk,hd⟩
  ·have z:∃ o,s.heap.get? p=some o/\o.ExactDict:=by
    rcases hk with ⟨kvs,hk⟩ | ⟨kvs,hk⟩
    ·obtain⟨_,_,_,_,o,_,_,e,ex,_⟩:=I.hok p _ hk
     exact⟨o,e,ex⟩
    ·obtain⟨_,_,_,_,o,_,_,e,ex,_⟩:=I.hok p _ hk
     exact⟨o,e,ex⟩
   obtain⟨o,e,ex⟩:=z
   refine⟨⟨o,e,ex.1⟩,λa e2=>?_⟩
   cases e2
   exact⟨o,e,ex.2.1⟩
  ·obtain⟨o,_,_,_,e,ex,_⟩:=I.hok p _ hk
   refine⟨⟨o,e,ex.1⟩,λa e2=>?_⟩
   cases e2
   exact⟨o,e,ex.2.1⟩
 | _=>exact False.elim ty
def tBM (K:qF)(T:String)(r:V->List V->Hp->VK->Prop)(to:TE)(t:TA):TE:=fun σ H Q=>to σ H λx H1=>tyV K T x H1/\t σ H1 λxs H2=>r x xs H2 Q
variable {o e:Expr} {es:List Expr} {to:TE} {t:TA} {name:Str} {apos cpos:Pos} {T id:String} {r:V->List V->Hp->VK->Prop}
theorem yex (pa:PlainAttrs T)(slot:Slot T name id)(hty:typeOf (.builtin id)=pure (.type "method_descriptor"))(hm:MtR X id r)(ho:PE X o to)(ha:PA X (e :: es) t)
  (hbase:attributeBase o name X.env (eval o X.env)=eval o X.env:=by rfl)
  (hfew:((backTo cpos (starEach (e :: es) X.env)).all (λx=>!x.1)&&(backToKw cpos (keywordEach [] X.env)).all (λx=>x.1.isSome)
   && decide ((e :: es).length+([]:List Keyword).length+(if ([]:List Keyword).isEmpty then 0 else 1) < 30))=true:=by rfl)
  (hline:(apos.endLine==cpos.line)=true:=by rfl) (hs:starEach (e :: es) X.env=(false,eval e X.env) :: starEach es X.env:=by rfl) (hplain:(backTo cpos (starEach es X.env)).any (·.1)=false:=by rfl) :
  PE X (.Call (.Attribute o name apos) (e :: es) [] cpos) (tBM X.K T r to t):=by
 intro pins s σ H Q I h
 refine wpAny_Call_method_late hbase hfew hline rfl (thn (ho pins s σ H _ I h) λv s1 zq=>?_)
 obtain⟨x,H1,I1,r1,ty,q1⟩:=zq
 obtain⟨h1,h2⟩:=yrR I1 r1 ty
 refine⟨T,id,pa,slot,hty,h1,h2,?_⟩
 have hA:=ha cpos pins s1 σ H1 _ I1 q1
 rw[hs] at hA ⊢
 refine Calls.callWith_builtin (by show(false||(backTo cpos (starEach es X.env)).any (·.1))=false;rw[hplain]<;>rfl) (Calls.evalArgs_plain ?_)
 exact thn hA λus s2 ⟨vs,H2,I2,r2,q2⟩=>hm pins s2 σ H2 x vs v us Q I2 r1 r2 q2
end
def MtM (X:Cx)(id:String)(r:V->List V->Hp->VK->Prop):Prop :=
 ∀ (pins:List (Addr×Obj)) (s:Shared) (σ:St) (H:Hp) (x:V) (xs:List V) (v:Value) (us:List Value) (Q:VK),Inv X pins σ H s->RelV x v->Vals xs us->r x xs H Q ->
  wpAny (model X.prog X.w) X.A (call (.builtin id) (v :: us)) (EP X pins σ Q) X.xe s
theorem Vals.one:∀ {x:V} {us:List Value},Vals [x] us->∃ u,us=[u]/\RelV x u
 | _,_,.cons r .nil=>⟨_,rfl,r⟩
section
variable {X:Cx} {pins:List (Addr×Obj)} {σ:St} {H:Hp} {s:Shared} {l b:Addr} {xs ys zs:List V}
theorem Inv.lset {its its':List Value}{n:Nat}{f:Array Value->Array Value}{t':Nat}(I:Inv X pins σ H s)(hH:H l=some (.lst xs))
  (e:s.heap.get? l=some { cls:=.type "list",data:=.seq its.toArray n }) (hf:f its.toArray=its'.toArray) (hv:Vals ys its') (hz:ys.length<=sizeLine) :
  Inv X pins σ (upd H l (.lst ys)) { s with heap:=s.heap.update l (Obj.mapSeq f),toks:=t' }:=by
 have q:=PySem.IsL.update e f
 rw[hf] at q
 refine I.write (x:=l) (e:=l) (by rw[hH];exact trivial) (.inl rfl) (λb' u hb hu=>(Heap.get?_update_other s.heap (Obj.mapSeq f) (Ne.symm hb)).trans hu) ⟨_,q⟩ ?_
 exact⟨hz,its',_,hv,q⟩
theorem Inv.lnew {its:List Value}{t':Nat}(I:Inv X pins σ H s)(hv:Vals ys its)(hz:ys.length<=sizeLine) :
  Inv X pins σ (upd H s.heap.objs.size (.lst ys)) { s with heap:=s.heap.push { cls:=.type "list",data:=.seq its.toArray },toks:=t' } :=
 I.laid (λ_ _ q=>Heap.get?_push_of_some _ q) (qR _) ⟨hz,its,0,hv,Heap.get?_push_size _ rfl⟩
theorem Inv.fresh (I:Inv X pins σ H s):H s.heap.objs.size=none:=I.hok.fresh (qR _)
theorem Inv.lstM (I:Inv X pins σ H s)(hH:H l=some (.lst xs)):xs.length<=sizeLine/\∃ (its:List Value) (n:Nat),Vals xs its/\xs.length=its.length/\s.heap.get? l=some { cls:=.type "list",data:=.seq its.toArray n }:=by
 obtain⟨z,its,n,r,e⟩:=I.hok l _ hH
 exact⟨z,its,n,r,r.length,e⟩
end
section
variable {X:Cx}
def yhy:V->List V->Hp->VK->Prop:=λx vs H Q=>∃ l xs y,x=.ref l/\vs=[y]/\H l=some (.lst xs)/\xs.length < sizeLine/\Q .non (upd H l (.lst (xs++[y])))
theorem yhj:MtM X "list.append" yhy:=by
 intro pins s σ H x vs v us Q I rx rv h
 obtain⟨l,xs,y,rfl,rfl,hH,hz,q⟩:=h
 cases rx
 obtain⟨u,rfl,ru⟩:=rv.one
 obtain⟨z,its,n,r,hl,e⟩:=I.lstM hH
 refine call_meets F.slot_list_append ⟨_,e,rfl⟩ F.entry_list_append (F.args_list_append_2 _ _) (PySem.list_append l its.toArray n u (by rw[qZ];omega)) ⟨e,?_⟩
 refine⟨.non,_,I.lset (its':=its++[u]) hH e (by simp) (r.append (.cons ru .nil)) ?_,rfl,q⟩
 rw[qA,qS]
 omega
def ysO:R2:=λx y H Q=>∃ l b xs zs,x=.ref l/\y=.ref b/\H l=some (.lst xs)/\H b=some (.lst zs)/\xs.length+zs.length<=sizeLine/\∀ p,H p=none->Q (.ref p) (upd H p (.lst (xs++zs)))
theorem ydr:OpR X (binaryOp .Add) ysO:=by
 intro pins s σ H x y v u Q I rx ry h
 obtain⟨l,b,xs,zs,rfl,rfl,hH,hB,hz,q⟩:=h
 cases rx
 cases ry
 obtain⟨z,its,n,r,hl,e⟩:=I.lstM hH
 obtain⟨z2,its2,n2,r2,hl2,e2⟩:=I.lstM hB
 refine PySem.P.add_list e e2 ?_ (by rw[qZ,qZ];omega)
 have ea:its.toArray++its2.toArray=(its++its2).toArray:=by simp
 rw[ea]
 exact⟨.ref _,_,I.lnew (t':=s.toks) (r.append r2) (by rw[qA];omega),rfl,q _ I.fresh⟩
end
section
variable {prog:Program} {w:World} {A:Around} {E:Value->Shared->Prop} {s:Shared}
set_option maxRecDepth 100000 in
end
section
variable {X:Cx}
end
end L2
namespace Att
open PySem PySem.W PySem.Calls PyProof.Rows
theorem yeo {P:Params}{h:Heap}:∀ (ns:List Int) (vs:List Value),WellAll P h vs (ns.map WData.int)->IntsAre vs ns:=by
 intro ns
 induction ns with
 | nil =>
  intro vs w
  rw[List.map_nil] at w
  cases w
  exact .nil
 | cons n ns ih =>
  intro vs w
  rw[List.map_cons] at w
  cases w with
  | cons a b =>
   cases a
   exact .cons _ _ (ih _ b)
theorem yjC {l:OpenLaw}{n:Nat}(hn:l.most=some n){P:Params}{h:Heap}{args:List WData}{vals:List Value}
  (hpre:l.row.toRowW.claim.pre args=true) (hwl:WellAll P h vals args) :
  ∃ a vs ns,vals=[Value.ref a]/\args=[WData.list (ns.map WData.int)]/\h.get? a=some { cls:=.type "list",data:=.seq vs.toArray }/\IntsAre vs ns/\ns.length<=n:=by
 have hsh:WShape.hasAll [] args [.list .int]=true:=(pre_splitW hpre).1
 have hc:l.pre.holds [] { args:=args }=true:=(pre_splitW hpre).2
 obtain⟨d,r,rfl,h1,h2⟩:=hasAllW_cons hsh
 obtain rfl:=hasAllW_nil h2
 obtain⟨xs,rfl,h3⟩:=hasW_list h1
 obtain⟨ns,rfl⟩:=items_int h3
 have hlen:ns.length<=n:=by
  unfold OpenLaw.pre at hc
  have h4:(WTm.not (.lt (.lit (.int (n:Int))) (.len (.arg 0)))).holds [] { args:=[.list (ns.map .int)] }=true:=by
   have h4:=(holds_andW hc).1
   rw[hn] at h4
   exact h4
  have h5:=condW_of h4 (w_not (w_lt w_lit (w_len_list (w_arg rfl))))
  rw[qM] at h5
  refine Nat.le_of_not_lt λq=>?_
  have q':(n:Int) < ((ns.length:Nat):Int):=by omega
  first
   | (rw[decide_eq_true q'] at h5;exact absurd h5 (by decide))
   | (simp at h5;omega)
 cases hwl with
 | cons w1 w2 =>
  cases w2
  cases w1 with
  | list ho hall=>exact⟨_,_,ns,rfl,rfl,ho,yeo ns _ hall,hlen⟩
theorem ykS (l:OpenLaw)(args:List WData):l.row.toRowW.claim.post args (.bool true) args=true :=
 postW_of (r:=l.row.toRowW) (X:=(true==true))
  (show WShape.has [] (.bool true) .bool=true by first | rfl | decide | simp[WShape.has,WShape.arms,WShape.armsAll])
  (show(WTm.eq .res (.lit (.bool true))).value [] { args:=args,res:=some (.bool true),after:=args }=some (.bool (true==true)) from w_eq_bool (w_res rfl) w_lit) rfl
section
variable {prog:Program} {w:World} {A:Around} {E:Value->Shared->Prop} {s:Shared} {K:Frag}
end
end Att
namespace L2
open PySem PySem.Spec PyProof.Rows
theorem yf0:∀ {vs:List Value} {ns:List Int},IntsAre vs ns->Vals (ns.map V.int) vs
 | _,_,.nil=>.nil
 | _,_,.cons n t h=>.cons ⟨t,rfl⟩ (yf0 h)
def yua (H:Hp):Prop:=∀ b,H b=none∨∃ o xs,H b=some (.frz o (.lst xs))
theorem yml {P:Program}{w:World}{K:qF}{mg mb:Str->Option Value}{CX:CXT}{k:Nat}{fa a:Addr}{fd:FuncData}{x:Str}{sp:Sp}{s₁:Shared}{vs:List Value}{ns:List Int}
  (KX:K.In s₁.heap) (hns:s₁.heap.Ns mainGlobals mg) (hb:s₁.heap.Ns builtinsNs mb) (hbb:∀ x:Str,x≠"__name__" -> mb x=bootBuiltins x) (hlim:s₁.heap.NoLimit) (hg:s₁.gens=#[])
  (ha:s₁.heap.get? a=some { cls:=.type "list",data:=.seq vs.toArray }) (hi:IntsAre vs ns) (hl:ns.length<=sizeLine) (hr:Room k callerA)
  (F:∀ base:Heap,K.In base->base.Ns mainGlobals mg->FnOk P w K mg base CX k fa fd [x] sp) (hbind:∀ (s:Shared) (u:Value),BindsTo s fd ⟨[u],[]⟩ [(x,u)])
  (hsp:∀ H:Hp,yua H->SqL K H a (ns.map V.int)->sp [.ref a] H (λv _=>v=.bl true) λ_ _ _=>False)
  (hCX:∀ H e s',CX [] H s₁ (λ_ _ _=>False) e s'->False) :
  codeAny (model P w) callerA (.call (.ref fa) ⟨[.ref a],[]⟩) (λr s'=>r=.ok (.ret (.bool true))/\OldK s₁.heap s'.heap/\s'.os=s₁.os/\AllBare s'.gens) s₁:=by
 have rv:=yf0 hi
 have lenV:=hi.length
 have core:∀ H:Hp,yua H->SqL K H a (ns.map V.int)->HOk P w H s₁.heap->(∀ b,H b≠none->b=a)->(H a≠none->K.lookup a=none) ->
   codeAny (model P w) callerA (.call (.ref fa) ⟨[.ref a],[]⟩) (λr s'=>r=.ok (.ret (.bool true))/\OldK s₁.heap s'.heap/\s'.os=s₁.os/\AllBare s'.gens) s₁:=by
  intro H hO hS hok hA hK
  have base_of:∀ {b:Addr} {o:Obj},s₁.heap.get? b=some o->H b=none->(yna s₁.heap H).get? b=some o:=λe n=>ymO e n
  have noA:∀ {b:Addr} {o:Obj} {es:Array DictEntry} {ep:Nat},s₁.heap.get? b=some o->o.data=.dict es ep->H b=none:=λ{b o es ep} e d=>by
   cases q:H b with
   | none=>rfl
   | some u =>
    have e':b=a:=hA b (by rw[q];simp)
    subst e'
    rw[ha] at e;cases e
    have d':Data.seq vs.toArray _=Data.dict es ep:=d
    cases d'
  have nsK:∀ {b:Addr} {m:Str->Option Value},s₁.heap.Ns b m->(yna s₁.heap H).Ns b m:=λ{b m} ⟨o,es,ep,e,d,r⟩=>⟨o,es,ep,base_of e (noA e d),d,r⟩
  have hKb:K.In (yna s₁.heap H):=λb o e=>base_of (KX b o e) (by
   cases q:H b with
   | none=>rfl
   | some u =>
    have e':b=a:=hA b (by rw[q];simp)
    subst e'
    rw[hK (by rw[q];simp)] at e;cases e)
  have hM:Mod K mg (yna s₁.heap H):=⟨hKb,nsK hns,⟨mb,nsK hb,hbb⟩,let ⟨mc,h1,h2⟩:=hlim;⟨mc,nsK h1,h2⟩⟩
  have e0:Env0 P w K mg (yna s₁.heap H) callerA [] s₁ H:=⟨rfl,hM,λb o e=>ypN e,Nat.le_of_eq (ykW _ _),trivial,λb hb=>absurd (show b∈([]:List Addr) from hb) (by simp),hok,.of_eq hg⟩
  refine codeAny_mono ((F _ hKb (nsK hns)).run callerA [] s₁ H ⟨[.ref a],[]⟩ [.ref a] [.ref a] _ _ hr e0 (hbind s₁ (.ref a)) (.cons rfl .nil) (hsp H hO hS)) λr s' h=>?_
  cases r with
  | error e=>exact(hCX H e s' h).elim
  | ok fl =>
   cases fl with
   | next=>exact False.elim h
   | brk=>exact False.elim h
   | cont=>exact False.elim h
   | ret u =>
    obtain⟨v,H',os,bare,un,hok',r',q⟩:=h
    have q':v=.bl true:=q
    subst q'
    obtain rfl:u=Value.bool true:=r'
    refine⟨rfl,OldK.of_keep λb o e=>?_,os,bare⟩
    cases q:H b with
    | none=>exact un.keep b o e q (by intro z;exact absurd (show b∈([]:List Addr) from z) (by simp)) (by simp)
    | some u =>
     rcases hO b with z | ⟨ob,xs,z⟩
     ·rw[q] at z;cases z
     ·have z2:=un.frzs b ob _ z
      obtain⟨e1,_⟩:=hok b _ z
      obtain⟨e2,_⟩:=hok' b _ z2
      rw[e] at e1;cases e1
      exact e2
 cases hk:K.lookup a with
 | some o =>
  have e:=KX a o hk
  rw[ha] at e
  cases e
  refine core (λ_=>none) (λ_=>.inl rfl) (.inr ⟨_,vs.toArray,_,hk,rfl,rfl,rfl,by rw[qZ,lenV];exact hl,by simpa using rv⟩) (λb u z=>by have z':(none:Option HO)=some u:=z;cases z') (λb z=>absurd rfl z) λz=>absurd rfl z
 | none =>
  refine core (λb=>if b=a then some (.frz { cls:=.type "list",data:=.seq vs.toArray } (.lst (ns.map V.int))) else none) (λb=>?_) (.inl (.inr ⟨{ cls:=.type "list",data:=.seq vs.toArray },if_pos rfl⟩)) (λb u z=>?_) (λb z=>?_) λ_=>hk
  ·by_cases hb:b=a
   ·exact .inr ⟨_,_,if_pos hb⟩
   ·exact .inl (if_neg hb)
  ·by_cases hb:b=a
   ·have z':=(if_pos hb).symm.trans z
    cases z'
    subst hb
    exact⟨ha,by rw[qM];exact hl,vs,_,rv,ha⟩
   ·have z':=(if_neg hb).symm.trans z
    cases z'
  ·by_cases hb:b=a
   ·exact hb
   ·exact absurd (if_neg hb) z
def ycm (s:Stmt):Arguments:=match s with
 | .FunctionDef _ a _ _ _ _ _ _ _ _=>a
 | _=>{ posonlyargs:=[],args:=[],vararg:=none,kwonlyargs:=[],kw_defaults:=[],kwarg:=none,defaults:=[] }
noncomputable def ybT (s:Stmt):List Stmt:=match s with
 | .FunctionDef _ _ b _ _ _ _ _ _ _=>b
 | _=>[]
noncomputable def yai (s:Stmt):Scope:=match s with
 | .FunctionDef _ _ _ _ _ _ sc _ _ _=>sc
 | _=>{ kind:=.function,names:=[],isGenerator:=false,isCoroutine:=false }
abbrev CX0:CXT:=λ_ _ _ _ _ _=>False
abbrev E0:XK:=λ_ _ _=>False
theorem ybW {X:Cx}:yef CX0 X E0:=λ_ _ _ _ _ _ _ h=>h.elim
structure Fun (K:qF) (x qual:Str) (st:Stmt) (f:Addr) (fd:FuncData):Prop where
 ex:∃ (oc:Value) (od:Option Addr) (kV doc pm:Value) (an:Option Addr) (cdv ct:Value) (osl:Array (Option Value)),
  fd=PySem.W.fnOf x qual (ycm st) (ybT st) (yai st) .none kV doc pm an cdv ct/\K.lookup f=some ⟨oc,od,.func fd,osl⟩/\PySem.W.codeIn K cdv qual=true
 kp:PySem.W.keepIn K (.ref f)=true
section
variable {P:Program} {w:World} {K:qF} {mg:Str->Option Value} {base:Heap}
theorem Fun.ok {x qual:Str}{st:Stmt}{f:Addr}{fd:FuncData}{N ps:List Str}{k:Nat}{sp:Sp}(F:Fun K x qual st f fd)(S:yao N ps (yai st))(len:∀ vs H Q E,sp vs H Q E->vs.length=ps.length)
  (hbody:∀ (cdv:Value) (A:Around) (outer:List Env) (s:Shared) (H:Hp) (vs:List V) (Q:VK) (E:XK),Room k (A.deeper (envOfC qual (yai st) s.heap.objs.size f cdv))->sp vs H Q E ->
   ∃ t,PSs (yjc CX0 P w K mg base N qual (yai st) f cdv A outer s H E).nox (ybT st) t/\t { nx:=λ_ H'=>Q .non H',rt:=Q } (start N vs) H):FnOk P w K mg base CX0 (k+1) f fd ps sp:=by
 obtain⟨oc,od,kV,doc,pm,an,cdv,ct,osl,rfl,lk,hcd⟩:=F.ex
 refine ytJ lk hcd S len λA outer s H vs Q E hr hsp=>?_
 obtain⟨t,h,q⟩:=hbody cdv A outer s H vs Q E hr hsp
 exact⟨t,h.nox,q⟩
theorem Fun.binds {x qual:Str}{st:Stmt}{f:Addr}{fd:FuncData}{ps:List Str}(F:Fun K x qual st f fd)
  (h:∀ (kV doc pm:Value) (an:Option Addr) (cdv ct:Value) (us:List Value),us.length=ps.length->bindArgs (PySem.W.fnOf x qual (ycm st) (ybT st) (yai st) .none kV doc pm an cdv ct) ⟨us,[]⟩=pure (ps.zip us)):Binds K fd ps []:=by
 obtain⟨oc,od,kV,doc,pm,an,cdv,ct,osl,rfl,lk,hcd⟩:=F.ex
 exact .all (h kV doc pm an cdv ct)
theorem yig {x qual:Str}{st:Stmt}{f:Addr}{oc:Value}{od an:Option Addr}{osl:Array (Option Value)}{kV doc pm cdv ct:Value}(l:K.lookup f=some ⟨oc,od,.func (PySem.W.fnOf x qual (ycm st) (ybT st) (yai st) .none kV doc pm an cdv ct),osl⟩)
  (c:PySem.W.codeIn K cdv qual=true) (k:PySem.W.keepIn K (.ref f)=true):Fun K x qual st f (PySem.W.fnOf x qual (ycm st) (ybT st) (yai st) .none kV doc pm an cdv ct):=⟨⟨oc,od,kV,doc,pm,an,cdv,ct,osl,rfl,l,c⟩,k⟩
end
theorem yaD {n:Nat}(h:n<=1000):n < sizeLine:=Nat.lt_of_le_of_lt h (by decide)
section
variable {X:Cx}
theorem pv (i:Nat){x:Str}{pos:Pos}(hN:X.N[i]?=some x:=by rfl)(hv:Vis X.env.scope x:=by first | exact Or.inl rfl | exact Or.inr (Or.inl rfl) | exact Or.inr (Or.inr rfl))(hd:(x==("__debug__" : Str))=false:=by decide)
  (hcd:(x==("__classdict__" : Str))=false:=by decide):PE X (.Name x pos) (yjr i):=ysm hN hv hd hcd
end
theorem yjb {c A B:Prop}[Decidable c](h1:c->A)(h2:¬ c->B):if c then A else B:=by
 by_cases h:c
 ·rw[if_pos h]
  exact h1 h
 ·rw[if_neg h]
  exact h2 h
def Same (H H':Hp):Prop:=∀ b o,H b=some o->H' b=some o
theorem Same.refl (H:Hp):Same H H:=λ_ _ h=>h
theorem Same.trans {H H1 H2:Hp}(a:Same H H1)(b:Same H1 H2):Same H H2:=λc o h=>b c o (a c o h)
theorem Same.free {H H':Hp}(e:Same H H'){l:Addr}(h:H' l=Option.none):H l=Option.none:=by
 cases q:H l with
 | none=>rfl
 | some o =>
  rw[e l o q] at h
  cases h
theorem Same.seq {K:qF}{H H':Hp}{a:Addr}{xs:List V}(e:Same H H')(h:SqL K H a xs):SqL K H' a xs:=by
 rcases h with (h | ⟨o,h⟩) | h
 ·exact .inl (.inl (e _ _ h))
 ·exact .inl (.inr ⟨o,e _ _ h⟩)
 ·exact .inr h
section
variable {X:Cx}
def yvF (K:qF):List V->Hp->VK->Prop:=λxs H Q=>∃ x n t b,xs=[x,.ty n]/\ye3 K H x t/\PySem.W.kitOne K t (.type n)=some b/\Q (.bl b) H
theorem ymI:ybF X (.builtin "isinstance") (yvF X.K):=by
 intro pins s σ H xs us Q I r h
 obtain⟨x,n,t,b,rfl,ty,e,q⟩:=h
 obtain⟨u,v,rfl,ru,rv⟩:=yfX r
 obtain rfl:v=Value.type n:=rv
 exact yhb I ru ty e λtk=>⟨.bl b,H,I.tok tk,rfl,q⟩
theorem yhz {K:qF}:PySem.W.kitOne K (.type "int") (.type "int")=some true:=by kernel_rfl
theorem yfY {K:qF}:PySem.W.kitOne K (.type "int") (.type "bool")=some false:=by kernel_rfl
theorem yhE {K:qF}:PySem.W.kitOne K (.type "int") (.type "str")=some false:=by kernel_rfl
theorem ygH {K:qF}:PySem.W.kitOne K (.type "int") (.type "list")=some false:=by kernel_rfl
theorem ye6 {K:qF}:PySem.W.kitOne K (.type "int") (.type "tuple")=some false:=by kernel_rfl
theorem yg8 {K:qF}:PySem.W.kitOne K (.type "bool") (.type "int")=some true:=by kernel_rfl
theorem yfA {K:qF}:PySem.W.kitOne K (.type "bool") (.type "bool")=some true:=by kernel_rfl
theorem ygT {K:qF}:PySem.W.kitOne K (.type "bool") (.type "str")=some false:=by kernel_rfl
theorem yfu {K:qF}:PySem.W.kitOne K (.type "bool") (.type "list")=some false:=by kernel_rfl
theorem yeF {K:qF}:PySem.W.kitOne K (.type "bool") (.type "tuple")=some false:=by kernel_rfl
theorem yhT {K:qF}:PySem.W.kitOne K (.type "str") (.type "int")=some false:=by kernel_rfl
theorem yf4 {K:qF}:PySem.W.kitOne K (.type "str") (.type "bool")=some false:=by kernel_rfl
theorem yhr {K:qF}:PySem.W.kitOne K (.type "str") (.type "str")=some true:=by kernel_rfl
theorem yg3 {K:qF}:PySem.W.kitOne K (.type "str") (.type "list")=some false:=by kernel_rfl
theorem yfx {K:qF}:PySem.W.kitOne K (.type "str") (.type "tuple")=some false:=by kernel_rfl
theorem ygI {K:qF}:PySem.W.kitOne K (.type "NoneType") (.type "int")=some false:=by kernel_rfl
theorem yfl {K:qF}:PySem.W.kitOne K (.type "NoneType") (.type "bool")=some false:=by kernel_rfl
theorem ygY {K:qF}:PySem.W.kitOne K (.type "NoneType") (.type "str")=some false:=by kernel_rfl
theorem yfg {K:qF}:PySem.W.kitOne K (.type "NoneType") (.type "list")=some false:=by kernel_rfl
theorem yeK {K:qF}:PySem.W.kitOne K (.type "NoneType") (.type "tuple")=some false:=by kernel_rfl
theorem yg6 {K:qF}:PySem.W.kitOne K (.type "list") (.type "int")=some false:=by kernel_rfl
theorem yff {K:qF}:PySem.W.kitOne K (.type "list") (.type "bool")=some false:=by kernel_rfl
theorem ygO {K:qF}:PySem.W.kitOne K (.type "list") (.type "str")=some false:=by kernel_rfl
theorem yfh {K:qF}:PySem.W.kitOne K (.type "list") (.type "list")=some true:=by kernel_rfl
theorem yeN {K:qF}:PySem.W.kitOne K (.type "list") (.type "tuple")=some false:=by kernel_rfl
theorem yfn {K:qF}:PySem.W.kitOne K (.type "tuple") (.type "int")=some false:=by kernel_rfl
theorem yeM {K:qF}:PySem.W.kitOne K (.type "tuple") (.type "bool")=some false:=by kernel_rfl
theorem yfB {K:qF}:PySem.W.kitOne K (.type "tuple") (.type "str")=some false:=by kernel_rfl
theorem yeH {K:qF}:PySem.W.kitOne K (.type "tuple") (.type "list")=some false:=by kernel_rfl
theorem yew {K:qF}:PySem.W.kitOne K (.type "tuple") (.type "tuple")=some true:=by kernel_rfl
theorem yf9 {K:qF}:PySem.W.kitOne K (.type "dict") (.type "int")=some false:=by kernel_rfl
theorem yfD {K:qF}:PySem.W.kitOne K (.type "dict") (.type "bool")=some false:=by kernel_rfl
theorem yg9 {K:qF}:PySem.W.kitOne K (.type "dict") (.type "str")=some false:=by kernel_rfl
theorem yfK {K:qF}:PySem.W.kitOne K (.type "dict") (.type "list")=some false:=by kernel_rfl
theorem yeL {K:qF}:PySem.W.kitOne K (.type "dict") (.type "tuple")=some false:=by kernel_rfl
inductive Knd | non | bl | int | str | lst | tup | dct
 deriving DecidableEq
noncomputable def Knd.name:Knd->String
 | .non => "NoneType" | .bl => "bool" | .int => "int" | .str => "str" | .lst => "list" | .tup => "tuple" | .dct => "dict"
inductive KndOf (H:Hp):V->Knd->Prop where
 | non:KndOf H .non .non
 | bl (b:Bool):KndOf H (.bl b) .bl
 | int (i:Int):KndOf H (.int i) .int
 | str (x:Str):KndOf H (.str x) .str
 | lst {a:Addr} {xs:List V} (e:H a=some (.lst xs)):KndOf H (.ref a) .lst
 | tup {a:Addr} {xs:List V} (e:H a=some (.tup xs)):KndOf H (.ref a) .tup
 | dct {a:Addr} {kvs:List (Key×V)} (e:H a=some (.dK kvs)):KndOf H (.ref a) .dct
theorem KndOf.ty {K:qF}{H:Hp}{x:V}{k:Knd}(h:KndOf H x k):ye3 K H x (.type k.name):=by
 cases h with
 | non=>exact .non
 | bl b=>exact .bl b
 | int i=>exact .int i
 | str x=>exact .str x
 | lst e=>exact .lst e
 | tup e=>exact .tup e
 | dct e=>exact .dK e
noncomputable def Knd.isA:Knd->String->Bool
 | .int, "int"=> true
 | .bl, "int"=> true
 | .bl, "bool"=> true
 | .str, "str"=> true
 | .lst, "list"=> true
 | .tup, "tuple"=> true
 | .dct, "dict"=> true
 | _,_=>false
def ydi (n:String):Prop:=n="int" ∨ n="bool" ∨ n="str" ∨ n="list" ∨ n="tuple"
theorem ykt {K:qF}(k:Knd){n:String}(h:ydi n):PySem.W.kitOne K (.type k.name) (.type n)=some (k.isA n):=by
 rcases h with rfl | rfl | rfl | rfl | rfl<;>cases k
 ·exact ygI
 ·exact yg8
 ·exact yhz
 ·exact yhT
 ·exact yg6
 ·exact yfn
 ·exact yf9
 ·exact yfl
 ·exact yfA
 ·exact yfY
 ·exact yf4
 ·exact yff
 ·exact yeM
 ·exact yfD
 ·exact ygY
 ·exact ygT
 ·exact yhE
 ·exact yhr
 ·exact ygO
 ·exact yfB
 ·exact yg9
 ·exact yfg
 ·exact yfu
 ·exact ygH
 ·exact yg3
 ·exact yfh
 ·exact yeH
 ·exact yfK
 ·exact yeK
 ·exact yeF
 ·exact ye6
 ·exact yfx
 ·exact yeN
 ·exact yew
 ·exact yeL
noncomputable def yt4:List V->Hp->VK->Prop:=λxs H Q=>∃ x n k,xs=[x,.ty n]/\ydi n/\KndOf H x k/\Q (.bl (k.isA n)) H
theorem ya0:ybF X (.builtin "isinstance") yt4:=by
 intro pins s σ H xs us Q I r h
 obtain⟨x,n,k,rfl,hn,hk,q⟩:=h
 exact ymI pins s σ H _ us Q I r ⟨x,n,_,_,rfl,hk.ty,ykt k hn,q⟩
def yqC:V->List V->Hp->VK->Prop:=λx vs H Q=>∃ a b,x=.str a/\vs=[.str b]/\Q (.int (Txt.find a b)) H
theorem yo4:MtR X "str.find" yqC:=by
 intro pins s σ H x vs v us Q I rx rv h
 obtain⟨a,b,rfl,rfl,q⟩:=h
 obtain⟨t,rfl⟩:=rx
 obtain⟨u,rfl,ru⟩:=rv.one
 obtain⟨t',rfl⟩:=ru
 exact SC.find ⟨.int _,H,I.tok _,⟨_,rfl⟩,q⟩
def yjY:V->List V->Hp->VK->Prop:=λx vs H Q=>∃ a b,x=.str a/\vs=[.str b]/\Q (.bl (Txt.startswith a b)) H
theorem yjM:MtR X "str.startswith" yjY:=by
 intro pins s σ H x vs v us Q I rx rv h
 obtain⟨a,b,rfl,rfl,q⟩:=h
 obtain⟨t,rfl⟩:=rx
 obtain⟨u,rfl,ru⟩:=rv.one
 obtain⟨t',rfl⟩:=ru
 exact SC.startswith ⟨.bl _,H,I,rfl,q⟩
def ytL:V->Option Int->Option Int->Hp->VK->Prop:=λx lo hi H Q=>∃ z,x=.str z/\z.length<=sizeLine/\Q (.str (Txt.slice z lo hi)) H
theorem ydL {v:Value}{o:Option Int}(p:IsPart v o):(v=.none/\o=none)∨∃ i t,v=.int i t/\o=some i:=by
 cases p with
 | none=>exact .inl ⟨rfl,rfl⟩
 | int i t=>exact .inr ⟨i,t,rfl,rfl⟩
theorem ybX:SlR X ytL:=by
 intro pins s σ H x v vl vu lo hi sl Q I rx hs pl pu h
 obtain⟨z,rfl,hz,q⟩:=h
 obtain⟨t,rfl⟩:=rx
 refine⟨"str",_,F.slot_str_getitem.lookup,typeIs_str _ _ _,?_⟩
 have fin:∀ t' k,EP X pins σ Q (.str (Txt.slice z lo hi) t') { s with toks:=k }:=λt' k=>⟨.str _,H,I.tok _,⟨_,rfl⟩,q⟩
 rcases ydL pl with ⟨rfl,rfl⟩ | ⟨i,ti,rfl,rfl⟩<;>rcases ydL pu with ⟨rfl,rfl⟩ | ⟨j,tj,rfl,rfl⟩
 ·exact wpAny_getItem_str_slice (l:=none) (u:=none) (st:=none) hs rfl (post_val_or_str ⟨Nat.le_trans (Txt.slice_le z _ _) hz,fin⟩)
 ·exact wpAny_getItem_str_slice (l:=none) (u:=some (j,tj)) (st:=none) hs rfl (post_val_or_str ⟨Nat.le_trans (Txt.slice_le z _ _) hz,fin⟩)
 ·exact wpAny_getItem_str_slice (l:=some (i,ti)) (u:=none) (st:=none) hs rfl (post_val_or_str ⟨Nat.le_trans (Txt.slice_le z _ _) hz,fin⟩)
 ·exact wpAny_getItem_str_slice (l:=some (i,ti)) (u:=some (j,tj)) (st:=none) hs rfl (post_val_or_str ⟨Nat.le_trans (Txt.slice_le z _ _) hz,fin⟩)
end
inductive Tr where
 | vl (v:V) | ls (ts:List Tr) | tp (ts:List Tr)
mutual
def eqT:Tr->Tr->Bool
 | .vl x,.vl y=>eqV x y
 | .ls xs,.ls ys=>eqTs xs ys
 | .tp xs,.tp ys=>eqTs xs ys
 | _,_=>false
def eqTs:List Tr->List Tr->Bool
 | [],[]=>true
 | x :: xs,y :: ys=>eqT x y&&eqTs xs ys
 | _,_=>false
end
mutual
def Rep (K:qF)(H:Hp):V->Tr->Prop
 | v,.vl w=>v=w/\ycp w=true
 | v,.ls ts=>∃ a xs,v=.ref a/\SqL K H a xs/\Reps K H xs ts
 | v,.tp ts=>∃ a xs,v=.ref a/\SqT K H a xs/\Reps K H xs ts
def Reps (K:qF)(H:Hp):List V->List Tr->Prop
 | xs,[]=>xs=[]
 | xs,t :: ts=>∃ x r,xs=x :: r/\Rep K H x t/\Reps K H r ts
end
mutual
def dep:Tr->Nat
 | .vl _=>0
 | .ls ts=>deps ts+1
 | .tp ts=>deps ts+1
def deps:List Tr->Nat
 | []=>0
 | t :: ts=>max (dep t) (deps ts)
end
def yjO (ts us:List Tr)(j:Nat):Bool:=match ts[j]?,us[j]? with
 | some t,some u=>eqT t u
 | _,_=>true
theorem yfH:∀ {ts us:List Tr},ts.length=us.length->eqTs ts us=(List.range ts.length).all (yjO ts us)
 | [],[],_=>rfl
 | t :: ts,u :: us,h=>by
  have h':ts.length=us.length:=by simpa using h
  rw[eqTs,qC,List.range_succ_eq_map,List.all_cons,List.all_map,yfH h']
  rfl
 | [],_ :: _,h=>by simp at h
 | _ :: _,[],h=>by simp at h
theorem yfm:∀ {ts us:List Tr},ts.length≠us.length->eqTs ts us=false
 | [],[],h=>absurd rfl h
 | t :: ts,u :: us,h=>by
  have h':ts.length≠us.length:=λz=>h (by simp[z])
  rw[eqTs,yfm h',Bool.and_false]
 | [],_ :: _,_=>rfl
 | _ :: _,[],_=>rfl
theorem Reps.length {K:qF}{H:Hp}:∀ {xs:List V} {ts:List Tr},Reps K H xs ts->xs.length=ts.length
 | xs,[],h=>by rw[Reps] at h;subst h;rfl
 | xs,t :: ts,h=>by
  rw[Reps] at h
  obtain⟨x,r,rfl,_,h⟩:=h
  rw[qC,qC,Reps.length h]
theorem Reps.get {K:qF}{H:Hp}:∀ {xs:List V} {ts:List Tr} {i:Nat} {x:V},Reps K H xs ts->xs[i]?=some x->∃ t,ts[i]?=some t/\Rep K H x t
 | xs,[],i,x,h,e=>by rw[Reps] at h;subst h;simp at e
 | xs,t :: ts,0,x,h,e=>by
  rw[Reps] at h
  obtain⟨y,r,rfl,hy,h⟩:=h
  simp at e
  subst e
  exact⟨t,rfl,hy⟩
 | xs,t :: ts,i+1,x,h,e=>by
  rw[Reps] at h
  obtain⟨y,r,rfl,hy,h⟩:=h
  obtain⟨u,h1,h2⟩:=Reps.get (i:=i) h (by simpa using e)
  exact⟨u,by simpa using h1,h2⟩
theorem yj1:∀ {ts:List Tr} {i:Nat} {t:Tr},ts[i]?=some t->dep t<=deps ts
 | [],_,_,e=>by simp at e
 | t :: ts,0,u,e=>by
  simp at e
  subst e
  rw[deps]
  exact Nat.le_max_left _ _
 | t :: ts,i+1,u,e=>by
  rw[deps]
  exact Nat.le_trans (yj1 (ts:=ts) (i:=i) (by simpa using e)) (Nat.le_max_right _ _)
theorem yj4 (x:V)(us:List Tr):eqT (.vl x) (.ls us)=false:=by simp[eqT]
theorem ylb (x:V)(us:List Tr):eqT (.vl x) (.tp us)=false:=by simp[eqT]
theorem yke (x:V)(us:List Tr):eqT (.ls us) (.vl x)=false:=by simp[eqT]
theorem ylB (x:V)(us:List Tr):eqT (.tp us) (.vl x)=false:=by simp[eqT]
theorem ykO (ts us:List Tr):eqT (.ls ts) (.tp us)=false:=by simp[eqT]
theorem yjU (ts us:List Tr):eqT (.tp ts) (.ls us)=false:=by simp[eqT]
theorem ym5 {v:V}(f:ycp v=true):eqV v v=true:=by
 cases v<;>first | (simp[ycp] at f;done) | rfl | (simp[eqV];done)
section
variable {X:Cx} {pins:List (Addr×Obj)} {σ:St} {H:Hp} {s:Shared}
theorem Inv.apart (I:Inv X pins σ H s){a:Addr}{xs ys:List V}(h:SqL X.K H a xs)(h':SqT X.K H a ys):False:=by
 obtain⟨its,_,p,_⟩:=I.list h
 obtain⟨its',_,p',_⟩:=I.tuple h'
 exact SeqAt.ne_of_list_tuple p.isList p' rfl
mutual
theorem yiz (I:Inv X pins σ H s):∀ (t u:Tr) (x:V),Rep X.K H x t->Rep X.K H x u->eqT t u=true
 | .vl v,.vl w,x,h1,h2=>by
  rw[Rep] at h1
  rw[Rep] at h2
  obtain⟨rfl,f⟩:=h1
  obtain⟨rfl,_⟩:=h2
  rw[eqT]
  exact ym5 f
 | .vl v,.ls us,x,h1,h2=>by
  rw[Rep] at h1
  rw[Rep] at h2
  obtain⟨rfl,f⟩:=h1
  obtain⟨a,xs,rfl,_⟩:=h2
  cases f
 | .vl v,.tp us,x,h1,h2=>by
  rw[Rep] at h1
  rw[Rep] at h2
  obtain⟨rfl,f⟩:=h1
  obtain⟨a,xs,rfl,_⟩:=h2
  cases f
 | .ls ts,.vl v,x,h1,h2=>by
  rw[Rep] at h1
  rw[Rep] at h2
  obtain⟨rfl,f⟩:=h2
  obtain⟨a,xs,rfl,_⟩:=h1
  cases f
 | .tp ts,.vl v,x,h1,h2=>by
  rw[Rep] at h1
  rw[Rep] at h2
  obtain⟨rfl,f⟩:=h2
  obtain⟨a,xs,rfl,_⟩:=h1
  cases f
 | .ls ts,.ls us,x,h1,h2=>by
  rw[Rep] at h1
  rw[Rep] at h2
  obtain⟨a,xs,rfl,hx,hs⟩:=h1
  obtain⟨b,ys,e,hy,hu⟩:=h2
  cases e
  have e:=I.list_inj hx hy
  subst e
  rw[eqT]
  exact reps_same I ts us xs hs hu
 | .tp ts,.tp us,x,h1,h2=>by
  rw[Rep] at h1
  rw[Rep] at h2
  obtain⟨a,xs,rfl,hx,hs⟩:=h1
  obtain⟨b,ys,e,hy,hu⟩:=h2
  cases e
  have e:=I.tuple_inj hx hy
  subst e
  rw[eqT]
  exact reps_same I ts us xs hs hu
 | .ls ts,.tp us,x,h1,h2=>by
  rw[Rep] at h1
  rw[Rep] at h2
  obtain⟨a,xs,rfl,hx,hs⟩:=h1
  obtain⟨b,ys,e,hy,hu⟩:=h2
  cases e
  exact(I.apart hx hy).elim
 | .tp ts,.ls us,x,h1,h2=>by
  rw[Rep] at h1
  rw[Rep] at h2
  obtain⟨a,xs,rfl,hx,hs⟩:=h1
  obtain⟨b,ys,e,hy,hu⟩:=h2
  cases e
  exact(I.apart hy hx).elim
theorem reps_same (I:Inv X pins σ H s):∀ (ts us:List Tr) (xs:List V),Reps X.K H xs ts->Reps X.K H xs us->eqTs ts us=true
 | [],[],_,_,_=>by rw[eqTs]
 | [],u :: us,xs,h1,h2=>by
  rw[Reps] at h1
  rw[Reps] at h2
  obtain⟨x,r,e,_⟩:=h2
  rw[h1] at e
  cases e
 | t :: ts,[],xs,h1,h2=>by
  rw[Reps] at h1
  rw[Reps] at h2
  obtain⟨x,r,e,_⟩:=h1
  rw[h2] at e
  cases e
 | t :: ts,u :: us,xs,h1,h2=>by
  rw[Reps] at h1
  rw[Reps] at h2
  obtain⟨x,r,rfl,hx,hr⟩:=h1
  obtain⟨y,q,e,hy,hq⟩:=h2
  cases e
  rw[eqTs,yiz I t u x hx hy,reps_same I ts us r hr hq]
  rfl
end
theorem yrq {A:Around}{y x:V}{u v:Value}(ry:RelV y u)(rx:RelV x v)(fy:ycp y=true)(fx:ycp x=true):SeqAt.RcAt A s u v (eqV y x):=by
 cases y with
 | non =>
  cases ry
  cases x with
  | non=>cases rx;exact SeqAt.RcAt.none_none
  | bl b=>cases rx;exact SeqAt.RcAt.none_bool b
  | int b=>obtain⟨t,rfl⟩:=rx;exact SeqAt.RcAt.none_int b t
  | str b=>obtain⟨t,rfl⟩:=rx;exact SeqAt.RcAt.none_str b t
  | _=>exact absurd (show false=true from fx) qN
 | bl a =>
  cases ry
  cases x with
  | non=>cases rx;exact SeqAt.RcAt.bool_none a
  | bl b=>cases rx;exact SeqAt.RcAt.bool_bool a b
  | int b=>obtain⟨t,rfl⟩:=rx;exact SeqAt.RcAt.bool_int a b t
  | str b=>obtain⟨t,rfl⟩:=rx;exact SeqAt.RcAt.bool_str a b t
  | _=>exact absurd (show false=true from fx) qN
 | int a =>
  obtain⟨t',rfl⟩:=ry
  cases x with
  | non=>cases rx;exact SeqAt.RcAt.int_none a t'
  | bl b=>cases rx;exact SeqAt.RcAt.int_bool a t' b
  | int b=>obtain⟨t,rfl⟩:=rx;exact SeqAt.RcAt.int_int a t' b t
  | str b=>obtain⟨t,rfl⟩:=rx;exact SeqAt.RcAt.int_str a t' b t
  | _=>exact absurd (show false=true from fx) qN
 | str a =>
  obtain⟨t',rfl⟩:=ry
  cases x with
  | non=>cases rx;exact SeqAt.RcAt.str_none a t'
  | bl b=>cases rx;exact SeqAt.RcAt.str_bool a t' b
  | int b=>obtain⟨t,rfl⟩:=rx;exact SeqAt.RcAt.str_int a t' b t
  | str b=>obtain⟨t,rfl⟩:=rx;exact SeqAt.RcAt.str_str a t' b t
  | _=>exact absurd (show false=true from fx) qN
 | _=>exact absurd (show false=true from fy) qN
theorem ymB {A:Around}{y x:V}{u v:Value}(ry:RelV y u)(rx:RelV x v)(fy:ycp y=true)(fx:ycp x=true):SeqAt.RcNeAt A s u v (!eqV y x):=by
 cases y with
 | non =>
  cases ry
  cases x with
  | non=>cases rx;exact SeqAt.RcNeAt.none_none
  | bl b=>cases rx;exact SeqAt.RcNeAt.none_bool b
  | int b=>obtain⟨t,rfl⟩:=rx;exact SeqAt.RcNeAt.none_int b t
  | str b=>obtain⟨t,rfl⟩:=rx;exact SeqAt.RcNeAt.none_str b t
  | _=>exact absurd (show false=true from fx) qN
 | bl a =>
  cases ry
  cases x with
  | non=>cases rx;exact SeqAt.RcNeAt.bool_none a
  | bl b=>cases rx;exact SeqAt.RcNeAt.bool_bool a b
  | int b=>obtain⟨t,rfl⟩:=rx;exact SeqAt.RcNeAt.bool_int a b t
  | str b=>obtain⟨t,rfl⟩:=rx;exact SeqAt.RcNeAt.bool_str a b t
  | _=>exact absurd (show false=true from fx) qN
 | int a =>
  obtain⟨t',rfl⟩:=ry
  cases x with
  | non=>cases rx;exact SeqAt.RcNeAt.int_none a t'
  | bl b=>cases rx;exact SeqAt.RcNeAt.int_bool a t' b
  | int b=>obtain⟨t,rfl⟩:=rx;exact SeqAt.RcNeAt.int_int a t' b t
  | str b=>obtain⟨t,rfl⟩:=rx;exact SeqAt.RcNeAt.int_str a t' b t
  | _=>exact absurd (show false=true from fx) qN
 | str a =>
  obtain⟨t',rfl⟩:=ry
  cases x with
  | non=>cases rx;exact SeqAt.RcNeAt.str_none a t'
  | bl b=>cases rx;exact SeqAt.RcNeAt.str_bool a t' b
  | int b=>obtain⟨t,rfl⟩:=rx;exact SeqAt.RcNeAt.str_int a t' b t
  | str b=>obtain⟨t,rfl⟩:=rx;exact SeqAt.RcNeAt.str_str a t' b t
  | _=>exact absurd (show false=true from fx) qN
 | _=>exact absurd (show false=true from fy) qN
def yk1 (A:Around)(s:Shared)(ts us:List Tr)(its its':List Value):Prop :=
 ∀ j (h1:j < its.toArray.size) (h2:j < its'.toArray.size),SeqAt.EqAt A s its.toArray[j] its'.toArray[j] (yjO ts us j)
theorem ypi {n m:Nat}{e:Nat->Bool}{ts us:List Tr}(hn:n=ts.length)(hm:m=us.length)(he:e=yjO ts us):((List.range (min n m)).all e&&n==m)=eqTs ts us:=by
 subst hn hm he
 by_cases h:ts.length=us.length
 ·rw[yfH h,h,Nat.min_self]
  simp
 ·rw[yfm h]
  have:(ts.length==us.length)=false:=by simpa using h
  rw[this,Bool.and_false]
theorem yqm (I:Inv X pins σ H s)(A:Around)(t u:Tr)(x y:V)(v w:Value)(hx:Rep X.K H x t)(hy:Rep X.K H y u)(rx:RelV x v)(ry:RelV y w)(hu:A.units+dep t < cLine)(hu':A.units+dep u < cLine)
  (ih:∀ ts us xs ys its its',(t=.ls ts/\u=.ls us∨t=.tp ts/\u=.tp us)->Reps X.K H xs ts->Reps X.K H ys us->Vals xs its->Vals ys its'->yk1 A.in1 s ts us its its') :
  SeqAt.RcAt A s v w (eqT t u)/\SeqAt.RcNeAt A s v w (!eqT t u):=by
 cases t with
 | vl p =>
  rw[Rep] at hx
  obtain⟨rfl,fx⟩:=hx
  cases u with
  | vl q =>
   rw[Rep] at hy
   obtain⟨rfl,fy⟩:=hy
   rw[eqT]
   exact⟨yrq rx ry fx fy,ymB rx ry fx fy⟩
  | ls us =>
   rw[Rep] at hy
   obtain⟨b,ys,rfl,hb,_⟩:=hy
   cases ry
   obtain⟨its,_,p,_⟩:=I.list hb
   have hA:A.units < cLine:=by omega
   rw[yj4]
   cases x with
   | non=>cases rx;exact⟨.none_list p.isList hA,.none_list p.isList hA⟩
   | bl c=>cases rx;exact⟨.bool_list c p.isList hA,.bool_list c p.isList hA⟩
   | int c=>obtain⟨t,rfl⟩:=rx;exact⟨.int_list c t p.isList hA,.int_list c t p.isList hA⟩
   | str c=>obtain⟨t,rfl⟩:=rx;exact⟨.str_list c t p.isList hA,.str_list c t p.isList hA⟩
   | _=>exact absurd (show false=true from fx) qN
  | tp us =>
   rw[Rep] at hy
   obtain⟨b,ys,rfl,hb,_⟩:=hy
   cases ry
   obtain⟨its,_,p,_⟩:=I.tuple hb
   have hA:A.units < cLine:=by omega
   rw[ylb]
   cases x with
   | non=>cases rx;exact⟨.none_tuple p hA,.none_tuple p hA⟩
   | bl c=>cases rx;exact⟨.bool_tuple c p hA,.bool_tuple c p hA⟩
   | int c=>obtain⟨t,rfl⟩:=rx;exact⟨.int_tuple c t p hA,.int_tuple c t p hA⟩
   | str c=>obtain⟨t,rfl⟩:=rx;exact⟨.str_tuple c t p hA,.str_tuple c t p hA⟩
   | _=>exact absurd (show false=true from fx) qN
 | ls ts =>
  rw[Rep] at hx
  obtain⟨a,xs,rfl,ha,hs⟩:=hx
  cases rx
  obtain⟨its,vr,p,_⟩:=I.list ha
  have hA:A.units < cLine:=by omega
  cases u with
  | vl q =>
   rw[Rep] at hy
   obtain⟨rfl,fy⟩:=hy
   rw[yke]
   cases y with
   | non=>cases ry;exact⟨.list_none p.isList hA,.list_none p.isList hA⟩
   | bl c=>cases ry;exact⟨.list_bool c p.isList hA,.list_bool c p.isList hA⟩
   | int c=>obtain⟨t,rfl⟩:=ry;exact⟨.list_int c t p.isList hA,.list_int c t p.isList hA⟩
   | str c=>obtain⟨t,rfl⟩:=ry;exact⟨.list_str c t p.isList hA,.list_str c t p.isList hA⟩
   | _=>exact absurd (show false=true from fy) qN
  | ls us =>
   rw[Rep] at hy
   obtain⟨b,ys,rfl,hb,hs'⟩:=hy
   cases ry
   obtain⟨its',vr',p',_⟩:=I.list hb
   have l1:its.toArray.size=ts.length:=by rw[qZ,← vr.length,hs.length]
   have l2:its'.toArray.size=us.length:=by rw[qZ,← vr'.length,hs'.length]
   rw[eqT]
   by_cases hl:ts.length=us.length
   ·have hsz:its.toArray.size=its'.toArray.size:=by rw[l1,l2,hl]
    have q:=ih ts us xs ys its its' (.inl ⟨rfl,rfl⟩) hs hs' vr vr'
    rw[yfH hl,← l1]
    exact⟨.lists p.isList p'.isList hsz hA q,.lists p.isList p'.isList hsz hA q⟩
   ·have hsz:(its.toArray.size != its'.toArray.size)=true:=by rw[l1,l2];simpa using hl
    rw[yfm hl]
    exact⟨.lists_lengths p.isList p'.isList hsz hA,.lists_lengths p.isList p'.isList hsz hA⟩
  | tp us =>
   rw[Rep] at hy
   obtain⟨b,ys,rfl,hb,hs'⟩:=hy
   cases ry
   obtain⟨its',vr',p',_⟩:=I.tuple hb
   rw[ykO]
   exact⟨.list_tuple p.isList p' hA,.list_tuple p.isList p' hA⟩
 | tp ts =>
  rw[Rep] at hx
  obtain⟨a,xs,rfl,ha,hs⟩:=hx
  cases rx
  obtain⟨its,vr,p,_⟩:=I.tuple ha
  have hA:A.units < cLine:=by omega
  cases u with
  | vl q =>
   rw[Rep] at hy
   obtain⟨rfl,fy⟩:=hy
   rw[ylB]
   cases y with
   | non=>cases ry;exact⟨.tuple_none p hA,.tuple_none p hA⟩
   | bl c=>cases ry;exact⟨.tuple_bool c p hA,.tuple_bool c p hA⟩
   | int c=>obtain⟨t,rfl⟩:=ry;exact⟨.tuple_int c t p hA,.tuple_int c t p hA⟩
   | str c=>obtain⟨t,rfl⟩:=ry;exact⟨.tuple_str c t p hA,.tuple_str c t p hA⟩
   | _=>exact absurd (show false=true from fy) qN
  | ls us =>
   rw[Rep] at hy
   obtain⟨b,ys,rfl,hb,hs'⟩:=hy
   cases ry
   obtain⟨its',vr',p',_⟩:=I.list hb
   rw[yjU]
   exact⟨.tuple_list p p'.isList hA,.tuple_list p p'.isList hA⟩
  | tp us =>
   rw[Rep] at hy
   obtain⟨b,ys,rfl,hb,hs'⟩:=hy
   cases ry
   obtain⟨its',vr',p',_⟩:=I.tuple hb
   have l1:its.toArray.size=ts.length:=by rw[qZ,← vr.length,hs.length]
   have l2:its'.toArray.size=us.length:=by rw[qZ,← vr'.length,hs'.length]
   have q:=ih ts us xs ys its its' (.inr ⟨rfl,rfl⟩) hs hs' vr vr'
   rw[eqT,← ypi l1 l2 rfl]
   exact⟨.tuples p p' hA q,.tuples p p' hA q⟩
theorem yiG (I:Inv X pins σ H s):∀ (n:Nat) (A:Around) (t u:Tr) (x y:V) (v w:Value),dep t<=n->dep u<=n->Rep X.K H x t->Rep X.K H y u->RelV x v->RelV y w->A.units+n < cLine ->
  SeqAt.EqAt A s v w (eqT t u)/\SeqAt.RcAt A s v w (eqT t u)/\SeqAt.RcNeAt A s v w (!eqT t u):=by
 intro n
 induction n using Nat.strongRecOn with
 | _ n rec =>
  intro A t u x y v w ht hu hx hy rx ry hA
  have ih:∀ ts us xs ys its its',(t=.ls ts/\u=.ls us∨t=.tp ts/\u=.tp us)->Reps X.K H xs ts->Reps X.K H ys us->Vals xs its->Vals ys its'->yk1 A.in1 s ts us its its':=by
   intro ts us xs ys its its' htu h1 h2 r1 r2 j j1 j2
   have d:deps ts+1<=n/\deps us+1<=n:=by
    rcases htu with ⟨rfl,rfl⟩ | ⟨rfl,rfl⟩<;>exact⟨ht,hu⟩
   cases n with
   | zero=>omega
   | succ m =>
    rw[qZ] at j1 j2
    have k1:j < xs.length:=by rw[r1.length];exact j1
    have k2:j < ys.length:=by rw[r2.length];exact j2
    obtain⟨t1,e1,q1⟩:=h1.get (qG k1)
    obtain⟨t2,e2,q2⟩:=h2.get (qG k2)
    obtain⟨v1,f1,g1⟩:=r1.get (qG k1)
    obtain⟨v2,f2,g2⟩:=r2.get (qG k2)
    have z1:its.toArray[j]=v1:=by
     rw[qG j1] at f1
     simpa using f1
    have z2:its'.toArray[j]=v2:=by
     rw[qG j2] at f2
     simpa using f2
    have pe:yjO ts us j=eqT t1 t2:=by unfold yjO;rw[e1,e2]
    rw[z1,z2,pe]
    exact(rec m (Nat.lt_succ_self m) A.in1 t1 t2 _ _ v1 v2 (by have:=yj1 e1;omega) (by have:=yj1 e2;omega) q1 q2 g1 g2 (by show A.units+1+m < cLine;omega)).1
  have rc:=yqm I A t u x y v w hx hy rx ry (by omega) (by omega) ih
  refine⟨?_,rc⟩
  by_cases fl:ycp x=true/\ycp y=true
  ·cases t with
   | vl p =>
    cases u with
    | vl q =>
     rw[Rep] at hx
     rw[Rep] at hy
     obtain⟨rfl,fx⟩:=hx
     obtain⟨rfl,fy⟩:=hy
     rw[eqT]
     exact ynQ rx ry fx fy
    | ls us=>rw[Rep] at hy;obtain⟨b,ys,rfl,_⟩:=hy;exact absurd (show false=true from fl.2) qN
    | tp us=>rw[Rep] at hy;obtain⟨b,ys,rfl,_⟩:=hy;exact absurd (show false=true from fl.2) qN
   | ls ts=>rw[Rep] at hx;obtain⟨b,ys,rfl,_⟩:=hx;exact absurd (show false=true from fl.1) qN
   | tp ts=>rw[Rep] at hx;obtain⟨b,ys,rfl,_⟩:=hx;exact absurd (show false=true from fl.1) qN
  ·intro prog w' E Q hq
   unfold eqBool
   refine wpAny_holding ?_
   have nf:∀ b tk,v≠Value.float b tk:=λb tk e=>by
    subst e
    cases t with
    | vl p =>
     rw[Rep] at hx
     obtain⟨rfl,fx⟩:=hx
     cases x<;>first | (simp[ycp] at fx;done) | (cases rx;done) | (obtain⟨_,z⟩:=rx;cases z;done)
    | ls ts=>rw[Rep] at hx;obtain⟨b,ys,rfl,_⟩:=hx;cases rx
    | tp ts=>rw[Rep] at hx;obtain⟨b,ys,rfl,_⟩:=hx;cases rx
   refine wpAny_ite_split (λhab=>?_) (λ_=>?_)
   ·have e:=eq_of_beq hab
    subst e
    have exy:x=y:=rx.inj ry
    subst exy
    rw[yiz I t u x hx hy] at hq
    exact wpAny_bind (wpAny_rule (wpAny_pure hq))
   ·have h2:=rc.1 prog w' E (λa s'=>wpAny (model prog w') A (truthOfDropped a) Q E s') (wpAny_truthy_bool hq)
    cases v with
    | float b tk=>exact absurd rfl (nf b tk)
    | _=>exact wpAny_bind h2
def ysM (K:qF):R2:=λx y H Q=>∃ t u,Rep K H x t/\Rep K H y u/\dep t<=60/\dep u<=60/\Q (.bl (eqT t u)) H
def yun (K:qF):R2:=λx y H Q=>∃ t u,Rep K H x t/\Rep K H y u/\dep t<=60/\dep u<=60/\Q (.bl (!eqT t u)) H
end
theorem yg1 {X:Cx}(hu:X.A.units+64 < cLine):OpR X (compareOp .Eq) (ysM X.K):=by
 intro pins s σ H x y v u Q I rx ry h
 obtain⟨t,t',h1,h2,d1,d2,q⟩:=h
 exact(yiG I 60 X.A t t' x y v u d1 d2 h1 h2 rx ry (by omega)).2.1 _ _ _ _ ⟨.bl _,H,I,rfl,q⟩
theorem ysu {X:Cx}(hu:X.A.units+64 < cLine):OpR X (compareOp .NotEq) (yun X.K):=by
 intro pins s σ H x y v u Q I rx ry h
 obtain⟨t,t',h1,h2,d1,d2,q⟩:=h
 exact(yiG I 60 X.A t t' x y v u d1 d2 h1 h2 rx ry (by omega)).2.2 _ _ _ _ ⟨.bl _,H,I,rfl,q⟩
end L2
namespace L2
open PySem PySem.Spec PyProof.Rows
def yfd (cells:List (Str×Addr)):List (Str×NameKind)->List (Str×Addr)->List (Str×Addr)
 | [],acc=>acc
 | (n,k) :: r,acc=>match k==.free,cells.lookup n with
  | true,some c=>yfd cells r ((n,c) :: acc)
  | _,_=>yfd cells r acc
theorem yjf {scope:Scope}{env:Env}(hf:∀ y∈scope.names,y.2=.free->∃ c,env.cells.lookup y.1=some c):closureFor scope env=pure (yfd env.cells scope.names []):=by
 unfold closureFor
 have key:∀ (names:List (Str×NameKind)) (acc:List (Str×Addr)),(∀ y∈names,y.2=.free->∃ c,env.cells.lookup y.1=some c) ->
   (forIn names acc λx r=>match x with | (name,kind)=>if (kind==NameKind.free)=true then do let a ← cellOf env name;pure (ForInStep.yield ((name,a) :: r)) else pure (ForInStep.yield r):Sem _)=pure (yfd env.cells names acc):=by
  intro names
  induction names with
  | nil=>intro acc _;rfl
  | cons y r ih =>
   intro acc h
   obtain⟨n,k⟩:=y
   rw[List.forIn_cons]
   have hr:∀ y∈r,y.2=.free->∃ c,env.cells.lookup y.1=some c:=λy hy=>h y (List.mem_cons_of_mem _ hy)
   by_cases hk:k=.free
   ·subst hk
    obtain⟨c,hc⟩:=h _ List.mem_cons_self rfl
    have e:cellOf env n=pure c:=by unfold cellOf;rw[show env.cells.lookup n=some c from hc]
    simp only[beq_self_eq_true,if_true,e]
    show(forIn r ((n,c) :: acc) _:Sem _)=_
    rw[ih _ hr]
    simp only[yfd,beq_self_eq_true,show env.cells.lookup n=some c from hc]
   ·have hb:(k==NameKind.free)=false:=by simpa using hk
    simp only[hb,Bool.false_eq_true,if_false]
    show(forIn r acc _:Sem _)=_
    rw[ih _ hr]
    simp only[yfd,hb]
 exact(congrArg (λm:Sem (List (Str×Addr))=>m >>= λcs=>pure cs) (key scope.names [] hf)).trans rfl
theorem yfz (cells:List (Str×Addr)):∀ (names:List (Str×NameKind)) (acc:List (Str×Addr)) (x:Str) (c:Addr),(x,c)∈yfd cells names acc->(x,c)∈acc∨cells.lookup x=some c
 | [],acc,x,c,h=>.inl h
 | (n,k) :: r,acc,x,c,h=>by
  rw[yfd] at h
  split at h
  ·rename_i c' h1 h2
   rcases yfz cells r _ x c h with q | q
   ·rcases List.mem_cons.mp q with q | q
    ·cases q;exact .inr h2
    ·exact .inl q
   ·exact .inr q
  ·exact yfz cells r _ x c h
theorem yfN (cells:List (Str×Addr)):∀ (names:List (Str×NameKind)) (acc:List (Str×Addr)) (p:Str×Addr),p∈acc->p∈yfd cells names acc
 | [],acc,p,h=>h
 | (n,k) :: r,acc,p,h=>by
  rw[yfd]
  split
  ·exact yfN cells r _ p (List.mem_cons_of_mem _ h)
  ·exact yfN cells r _ p h
theorem yfj (cells:List (Str×Addr)):∀ (names:List (Str×NameKind)) (acc:List (Str×Addr)) (x:Str) (c:Addr),(x,.free)∈names->cells.lookup x=some c->(x,c)∈yfd cells names acc
 | [],acc,x,c,h,_=>by simp at h
 | (n,k) :: r,acc,x,c,h,e=>by
  rw[yfd]
  rcases List.mem_cons.mp h with q | q
  ·cases q
   simp only[beq_self_eq_true,e]
   exact yfN cells r _ _ List.mem_cons_self
  ·split
   ·exact yfj cells r _ x c q e
   ·exact yfj cells r _ x c q e
theorem yds:∀ {l:List (Str×Addr)} {x:Str} {c:Addr},(x,c)∈l->∃ c',l.lookup x=some c'
 | [],_,_,h=>by simp at h
 | (n,d) :: r,x,c,h=>by
  rw[List.lookup_cons]
  cases q:x==n with
  | true=>exact⟨d,rfl⟩
  | false =>
   rcases List.mem_cons.mp h with z | z
   ·cases z;simp at q
   ·exact yds z
theorem yeT:∀ {l:List (Str×Addr)} {x:Str} {c:Addr},l.lookup x=some c->(x,c)∈l
 | [],_,_,h=>by simp at h
 | (n,d) :: r,x,c,h=>by
  rw[List.lookup_cons] at h
  cases q:x==n with
  | true =>
   rw[q] at h
   have e:x=n:=by simpa using q
   cases h
   rw[e]
   exact List.mem_cons_self
  | false =>
   rw[q] at h
   exact List.mem_cons_of_mem _ (yeT h)
theorem ybz {cells:List (Str×Addr)}{names:List (Str×NameKind)}{x:Str}{c:Addr}(h:(yfd cells names []).lookup x=some c):cells.lookup x=some c:=by
 rcases yfz cells names [] x c (yeT h) with q | q
 ·simp at q
 ·exact q
theorem yf5 {cells:List (Str×Addr)}{names:List (Str×NameKind)}{x:Str}{c:Addr}(h:(x,.free)∈names)(e:cells.lookup x=some c):(yfd cells names []).lookup x=some c:=by
 obtain⟨c',q⟩:=yds (yfj cells names [] x c h e)
 have:=ybz q
 rw[e] at this
 cases this
 exact q
theorem yjq {prog:Program}{w:World}{A:Around}{R:Result->Shared->Prop}{s:Shared}{elt:Expr}{gs:List Comprehension}{scope:Scope}{pos:Pos}{it acc:Value}{env:Env}(St:Nat->Shared->Prop)
  (one:∀ n s,St n s->wpAny (model prog w) A (compTurn (.ListComp elt gs scope pos) 0 it acc env) (λf s'=>(∃ r,f=.done r/\R (.ok r) s')∨(f=.again (.compLoop (.ListComp elt gs scope pos) 0 it acc env)/\∃ m,m < n/\St m s')) (notedBy (model prog w) A env λe s'=>R (.error e) s') s)
  (n:Nat) (h:St n s):codeAny (model prog w) A (.compLoop (.ListComp elt gs scope pos) 0 it acc env) R s :=
 codeAny_loop rfl St (λn s hn=>(wpAny_noted (thn (one n s hn) λf s' z=>by
  rcases z with ⟨r,e,z⟩ | ⟨e,z⟩<;>subst e
  ·exact z
  ·exact⟨rfl,z⟩):wpAny (model prog w) A ((compTurn (.ListComp elt gs scope pos) 0 it acc env).onRaise _) _ _ s)) n h
noncomputable def cxB (X:Cx)(scope:Scope)(NB:List Str)(C:Addr)(s:Shared)(H:Hp)(ex:List Addr):Cx where
 prog:=X.prog
 w:=X.w
 K:=X.K
 mg:=X.mg
 base:=X.base
 A:=X.A
 N:=NB
 s₀:=s
 H₀:=H
 env:=compEnvC scope (yfd X.env.cells scope.names []) C X.env
 outer:=X.stack
 stack:=X.stack
 ex:=ex
 fn:=λ_=>false
 calm:=X.calm
 pn:=X.pn
 xe:=λ_ _=>False
noncomputable def stB (cap:List (Option Nat))(σ:St):St:=cap.map λo=>match o with
 | none=>none
 | some j=>(σ[j]?).getD none
structure BlockOk (X:Cx) (scope:Scope) (NB:List Str) (cap:List (Option Nat)):Prop where
 kind:scope.kind=.function
 cell:∀ y∈scope.names,y.2≠.cell
 names:∀ y∈scope.names,y.2=.local->scope.names.lookup y.1=some .local
 free:∀ y∈scope.names,y.2=.free->(X.env.kindOf y.1=some .cell∨X.env.kindOf y.1=some .free)
 len:cap.length=NB.length
 caps:∀ (i:Nat) (x:Str) (j:Nat),NB[i]?=some x->cap[i]?=some (some j)->X.N[j]?=some x/\(x,NameKind.free)∈scope.names/\((relabel scope X.env).names.lookup x=some .cell∨(relabel scope X.env).names.lookup x=some .free)
theorem yeD:∀ {l:List (Str×NameKind)} {x:Str} {c:NameKind},l.lookup x=some c->(x,c)∈l
 | [],_,_,h=>by simp at h
 | (n,d) :: r,x,c,h=>by
  rw[List.lookup_cons] at h
  cases q:x==n with
  | true =>
   rw[q] at h
   have e:x=n:=by simpa using q
   cases h
   rw[e]
   exact List.mem_cons_self
  | false =>
   rw[q] at h
   exact List.mem_cons_of_mem _ (yeD h)
theorem ygP {scope:Scope}{env:Env}{x:Str}(hc:∀ y∈scope.names,y.2≠.cell)(h:(relabel scope env).names.lookup x=some .cell∨(relabel scope env).names.lookup x=some .free):(x,NameKind.free)∈scope.names:=by
 have key:∀ k,(relabel scope env).names.lookup x=some k->(k=.cell∨k=.free)->(x,NameKind.free)∈scope.names:=by
  intro k hk hkk
  obtain⟨⟨n,k0⟩,hm,e⟩:=List.mem_map.mp (yeD hk)
  dsimp only at e
  split at e
  ·rename_i c
   cases e
   have:k0=.free:=by
    simp only[Bool.and_eq_true] at c
    simpa using c.1.1
   subst this
   exact hm
  ·cases e
   rcases hkk with rfl | rfl
   ·exact absurd rfl (hc _ hm)
   ·exact hm
 rcases h with h | h
 ·exact key _ h (.inl rfl)
 ·exact key _ h (.inr rfl)
section
variable {X:Cx} {pins:List (Addr×Obj)} {σ:St} {H:Hp} {s:Shared} {scope:Scope} {NB:List Str} {cap:List (Option Nat)}
theorem BlockOk.closure (B:BlockOk X scope NB cap)(ok:X.Ok):closureFor scope X.env=pure (yfd X.env.cells scope.names []):=yjf λy hy e=>ok.has y.1 (B.free y hy e)
theorem yk3 {h₁:Heap}{m:Str->Option Value}{fp:List Addr}{tk:Nat}(B:BlockOk X scope NB cap)(I:Inv X pins σ H s)(hk:∀ b o,s.heap.get? b=some o->h₁.get? b=some o)(hn:h₁.Ns s.heap.objs.size m)
  (hf:∀ b∈fp,yfT X pins H b) (hlt:∀ b∈fp,b < s.heap.objs.size):Inv (cxB X scope NB s.heap.objs.size s H fp) pins (stB cap σ) H { s with heap:=h₁,toks:=tk }:=by
 have ltC:∀ {b:Addr} {o:Obj},s.heap.get? b=some o->b≠s.heap.objs.size:=λe=>Nat.ne_of_lt (Heap.lt_size e)
 refine⟨⟨I.ok.mod,B.kind,I.ok.glob,I.ok.blt,qR _,λx y c h1 h2=>I.ok.inj x y c (ybz h1) (ybz h2),λx hx=>?_,λx c h _=>absurd h (by simp[cxB]),I.ok.hd,I.ok.frames,.inl rfl,λb hb=>⟨Nat.ne_of_lt (hlt b hb),λx c e=>(hf b hb).2.2.2.2.1 x c (ybz e)⟩,
  I.bs,Nat.le_trans I.ok.bsz I.sz,λb o e hb=>?_,λb hb hs=>?_,I.stack,I.stkFree⟩,rfl,I.bare,Un.kept hk,⟨m,hn,λi x v e1 e2 e3=>?_⟩,λx c e=>?_,I.hok.fresh (qR _),λx c e=>I.freeC x c (ybz e),λp hp=>?_,I.hok.kept hk,?_⟩
 ·have hm:=ygP B.cell hx
  obtain⟨c,hc⟩:=I.ok.has x (B.free _ hm rfl)
  exact⟨c,yf5 hm hc⟩
 ·rcases(hf b hb).2.2.2.1 with z | z
  ·exact I.ok.noex b o e z
  ·exact absurd (Nat.lt_of_lt_of_le (Heap.lt_size e) (Nat.le_trans I.ok.bsz z)) (Nat.lt_irrefl _)
 ·rcases List.mem_cons.mp (I.stkSub b hs) with z | z
  ·exact(hf b hb).2.1 z
  ·exact(hf b hb).2.2.1 z
 ·have e1:NB[i]?=some x:=e1
  have e2:(stB cap σ)[i]?=some (some v):=e2
  unfold stB at e2
  rw[qm] at e2
  cases q:cap[i]? with
  | none=>rw[q] at e2;cases e2
  | some o =>
   rw[q] at e2
   cases o with
   | none=>cases e2
   | some j =>
    have e2':(σ[j]?).getD none=some v:=by simpa using e2
    have e2'':σ[j]?=some (some v):=by
     cases z:σ[j]? with
     | none=>rw[z] at e2';cases e2'
     | some y=>rw[z] at e2';rw[show y=some v from e2']
    obtain⟨hN,hm,hk2⟩:=B.caps i x j e1 q
    obtain⟨m',hn',hl⟩:=I.loc
    have hkx:=B.free _ hm rfl
    obtain⟨u,ru,lk⟩:=hl j x v hN e2'' (.inr hkx)
    refine⟨u,ru,?_⟩
    rcases lk with ⟨kl,_⟩ | ⟨_,c,hc,hcell⟩
    ·rcases hkx with z | z<;>(rw[z] at kl;cases kl)
    ·obtain⟨oc,ho,hd⟩:=hcell
     exact .inr ⟨hk2,c,yf5 hm hc,oc,hk c oc ho,hd⟩
 ·obtain⟨v,oc,ho,hd⟩:=I.cell x c (ybz e)
  exact⟨v,oc,hk c oc ho,hd⟩
 ·obtain⟨e,n,ne,nf,d⟩:=I.pin p hp
  refine⟨hk _ _ e,n,ltC e,λz=>?_,d⟩
  rcases List.mem_cons.mp (I.stkSub p.1 z) with z | z
  ·exact ne z
  ·exact nf z
 ·unfold stB
  rw[qM]
  exact B.len
noncomputable def ypR (X:Cx)(ifs:List Expr)(t:TT):Prop :=
 ∀ (pins:List (Addr×Obj)) (s:Shared) (σ:St) (H:Hp) (Q:Bool->Hp->Prop),Inv X pins σ H s->t σ H Q ->
  wpAny (model X.prog X.w) X.A (forIn ifs true λc r=>if r=true then do let ok ← isTrue c X.env (eval c X.env);pure (ForInStep.yield ok) else pure (ForInStep.yield r)) (TP X pins σ Q) X.xe s
def ygl:TT:=λ_ H Q=>Q true H
theorem yaZ:ypR X [] ygl:=λpins s σ H Q I h=>wpAny_tests_nil ⟨H,I,h⟩
theorem ydW {c:Expr}{t:TT}(h:PT X c t):ypR X [c] t:=λpins s σ H Q I q=>wpAny_tests_one (h pins s σ H Q I q)
def ydd (J:It)(g:TG)(tc:TT)(te:TE)(D:Addr)(Fin:Hp->Prop)(W:Nat->Nat->St->Hp->Prop):Prop :=
 ∀ i m σ H,W i m σ H->(J.stop i H/\Fin H)∨(J.go i H/\∃ N:St->Hp->Prop,(∀ σ' H',N σ' H'->∃ m',m' < m/\W (i+1) m' σ' H') /\
  ∀ x H',J.yld i H x H'->g x σ H' fun σ2 H2=>tc σ2 H2 λb H3=>if b=true then te σ2 H3 λy H4=>∃ ys,H4 D=some (.lst ys)/\ys.length < sizeLine/\N σ2 (upd H4 D (.lst (ys++[y]))) else N σ2 H3)
def yiT (wi:TI)(cap:List (Option Nat))(g:TG)(tc:TT)(te:TE):TE:=fun σ H Q=>wi σ H λJ H1=>∀ D,H1 D=none ->
 ∃ W:Nat->Nat->St->Hp->Prop,(∃ m,W 0 m (stB cap σ) (upd H1 D (.lst [])))/\ydd J g tc te D (λH'=>Q (.ref D) H') W
theorem ygs {elt tg iter:Expr}{ifs:List Expr}{pos:Pos}{it:Addr}{fp:List Addr}{tn:Nat->Heap->Prop}{J:It}{g:TG}{tc:TT}{te:TE}{E:Value->Shared->Prop}{RR:Value->Addr->Result->Shared->Prop}{Qd:Addr->Hp->Prop}
  (B:BlockOk X scope NB cap) (hc:X.calm=true) (hg:∀ C s H ex,PG (cxB X scope NB C s H ex) tg g) (ht:∀ C s H ex,ypR (cxB X scope NB C s H ex) ifs tc) (he:∀ C s H ex,PE (cxB X scope NB C s H ex) elt te)
  (I:Inv X pins σ H s) (T:ylQ X.prog X.w X.K tg J fp it tn) (st:tn 0 s.heap) (hf:∀ b∈fp,yfT X pins H b)
  (rd:∀ D,H D=none->∃ W:Nat->Nat->St->Hp->Prop,(∃ m,W 0 m (stB cap σ) (upd H D (.lst [])))/\ydd J g tc te D (Qd D) W)
  (hRR:∀ D C H' s' m',Inv X pins σ H' s'->s'.heap.Ns C m'->yfT X pins H' C->Qd D H'->RR (.ref D) C (.ok .next) s') :
  wpAny (model X.prog X.w) X.A (newList []) (λacc s₃=>wpAny (model X.prog X.w) X.A (newFunctionEnv scope X.env.globals (yfd X.env.cells scope.names []) [] X.env.qual none .none (some X.env)) (λcenv s₄ =>
   codeAny (model X.prog X.w) X.A (.compStart (.ListComp elt [⟨tg,iter,ifs,0⟩] scope pos) 0 (.ref it) acc { cenv with scope:=relabel scope X.env }) (RR acc cenv.locals) s₄) E s₃) E s:=by
 have hlt:∀ b∈fp,b < s.heap.objs.size:=λb hb=>by
  obtain⟨o,e,_⟩:=T.obj _ _ st b hb
  exact Heap.lt_size e
 have hD:H s.heap.objs.size=none:=I.hok.fresh (qR _)
 obtain⟨W,⟨m0,w0⟩,cw⟩:=rd _ hD
 refine wpAny_newObj_type (wpAny_newFunctionEnv B.cell (by intro y hy;simp at hy) (λh₁ hns₁ hsb₁=>?_) B.kind)
 dsimp only at hns₁ hsb₁ ⊢
 have I3:Inv X pins σ (upd H s.heap.objs.size (.lst [])) { s with heap:=s.heap.push { cls:=.type "list",dict:=none,data:=.seq ([]:List Value).toArray } } :=
  I.laid (t':=s.toks) (λb o e=>Heap.get?_push_of_some _ e) (qR _) ⟨Nat.zero_le _,[],0,.nil,Heap.get?_push_size _ rfl⟩
 have up:∀ b o,s.heap.get? b=some o->(s.heap.push { cls:=.type "list",dict:=none,data:=.seq ([]:List Value).toArray }).get? b=some o:=λb o e=>Heap.get?_push_of_some _ e
 have hf3:∀ b∈fp,yfT X pins (upd H s.heap.objs.size (.lst [])) b:=λb hb=>⟨by rw[yas (Nat.ne_of_lt (hlt b hb))];exact(hf b hb).1,(hf b hb).2⟩
 generalize hH2:s.heap.push { cls:=.type "list",dict:=none,data:=.seq ([]:List Value).toArray }=H2 at hns₁ hsb₁ I3 up ⊢
 have hlt3:∀ b∈fp,b < H2.objs.size:=λb hb=>by
  rw[← hH2,Heap.size_push]
  exact Nat.lt_succ_of_lt (hlt b hb)
 have keep:∀ b o,H2.get? b=some o->h₁.get? b=some o:=λb o e=>hsb₁.extBut b o (Nat.ne_of_lt (Heap.lt_size e)) (Heap.get?_push_of_some _ e)
 have IB:=λtk=>yk3 (tk:=tk) (s:={ s with heap:=H2 }) B I3 keep hns₁ hf3 hlt3
 have st1:tn 0 h₁:=T.keep _ _ _ st λb hb o e=>keep b o (up b o e)
 generalize hX':cxB X scope NB H2.objs.size { s with heap:=H2 } (upd H s.heap.objs.size (.lst [])) fp=X' at IB
 have fpB:∀ {pins':List (Addr×Obj)} {H':Hp},pins'=pins->(∀ b∈fp,H' b=none)->∀ b∈fp,yfT X' pins' H' b:=λ{pins' H'} ep hn b hb=>by
  subst ep
  subst hX'
  obtain⟨_,f1,f2,f3,f4,f5⟩:=hf b hb
  refine⟨hn b hb,Nat.ne_of_lt (hlt3 b hb),λz=>?_,.inl hb,λx c e=>f4 x c (ybz e),f5⟩
  rcases List.mem_cons.mp (I3.stkSub b z) with z | z
  ·exact f1 z
  ·exact f2 z
 have hg':=hg H2.objs.size { s with heap:=H2 } (upd H s.heap.objs.size (.lst [])) fp
 have ht':=ht H2.objs.size { s with heap:=H2 } (upd H s.heap.objs.size (.lst [])) fp
 have he':=he H2.objs.size { s with heap:=H2 } (upd H s.heap.objs.size (.lst [])) fp
 rw[hX'] at hg' ht' he'
 have pP:X'.prog=X.prog:=by subst hX';rfl
 have pw:X'.w=X.w:=by subst hX';rfl
 have pK:X'.K=X.K:=by subst hX';rfl
 have pA:X'.A=X.A:=by subst hX';rfl
 have pc:X'.calm=true:=by subst hX';exact hc
 have pe:X'.env=compEnvC scope (yfd X.env.cells scope.names []) H2.objs.size X.env:=by subst hX';rfl
 have px:X'.xe=λ_ _=>False:=by subst hX';rfl
 have fin:∀ {σ':St} {H':Hp} {s':Shared},Inv X' pins σ' H' s'->Qd s.heap.objs.size H'->RR (.ref s.heap.objs.size) H2.objs.size (.ok .next) s':=λ{σ' H' s'} I' q=>by
  have os':s'.os=s.os:=by have:=I'.os;subst hX';exact this
  have un':Un (frs X.stack) fp (upd H s.heap.objs.size (.lst [])) H' H2 s'.heap:=by have:=I'.base;subst hX';exact this
  have IX:Inv X pins σ H' s':=I3.call' (s':=s') (ch:=fp) os' un' (by have:=I'.hok;rw[pP,pw] at this;exact this) I'.bare λb hb=>⟨(hf b hb).2.2.2.1,(hf b hb).2.1,(hf b hb).2.2.2.2.1,(hf b hb).2.2.2.2.2⟩
  obtain⟨m,hn,_⟩:=I'.loc
  have hfr:=I'.free
  rw[pe] at hn hfr
  exact hRR _ _ H' s' m IX hn (I3.fpOk (qR _) hfr) q
 have loop:∀ s₃:Shared,s₃={ s with heap:=h₁,toks:=s.toks+([]:List (Str×Value)).length } ->
   codeAny (model X.prog X.w) X.A (.compLoop (.ListComp elt [⟨tg,iter,ifs,0⟩] scope pos) 0 (.ref it) (.ref s.heap.objs.size) (compEnvC scope (yfd X.env.cells scope.names []) H2.objs.size X.env))
    (RR (.ref s.heap.objs.size) H2.objs.size) s₃:=by
  rintro s₃ rfl
  refine yjq (λn s'=>∃ i σ' H',Inv X' pins σ' H' s'/\tn i s'.heap/\(∀ b∈fp,H' b=none)/\W i n σ' H') ?_ m0 ⟨0,stB cap σ,_,IB _,st1,λb hb=>(hf3 b hb).1,w0⟩
  rintro n s3 ⟨i,σ3,H3,I3',st3,fr3,w3⟩
  rw[← pe]
  rw[← pP,← pw,← pK] at T
  rw[← pP,← pw,← pA]
  rw[compTurn_list]
  refine wpAny_bind (wpAny_standAt (wpAny_bind ?_))
  rcases cw i n σ3 H3 w3 with ⟨stop,qn⟩ | ⟨go,N,hN,step⟩
  ·refine thn (T.done X' rfl rfl rfl pc i pins s3 σ3 H3 _ I3' (fpB rfl fr3) st3 stop) λr s4 zq=>?_
   obtain⟨hr,I4⟩:=zq
   subst hr
   exact wpAny_pure (.inl ⟨_,rfl,fin I4 qn⟩)
  ·refine thn (T.item X' rfl rfl rfl pc i pins s3 σ3 H3 _ I3' (fpB rfl fr3) st3 go) λr s4 zq=>?_
   obtain⟨u,hr,h4⟩:=zq
   subst hr
   refine wpAny_bind (thn h4 λ_ s5 zq=>?_)
   obtain⟨x,H5,I5,r5,y5,st5,fr5⟩:=zq
   have I5':=I5.pinned (fpB rfl fr5) (T.obj _ _ st5)
   have no:∀ {E':Value->Shared->Prop} (e:Value) (s':Shared),X'.xe e s'->E' e s':=λe s' z=>by rw[px] at z;exact z.elim
   refine wpAny_bind (wpAny_mono (hg' _ s5 σ3 H5 x u _ I5' r5 (step x H5 y5)) (λ_ s6 zq=>?_) no)
   obtain⟨σ6,H6,I6,q6⟩:=zq
   have again:∀ {σ7:St} {H7:Hp} {s7:Shared},Inv X' (pins++ygp fp s5.heap) σ7 H7 s7->N σ7 H7->∃ m,m < n/\∃ i σ' H',Inv X' pins σ' H' s7/\tn i s7.heap/\(∀ b∈fp,H' b=none)/\W i m σ' H':=λ{σ7 H7 s7} I7 n7=>by
    obtain⟨m',hm,w7⟩:=hN σ7 H7 n7
    refine⟨m',hm,i+1,σ7,H7,I7.unpinned,T.keep _ _ _ st5 λb hb o e=>(I7.pin (b,o) (List.mem_append_right _ (List.mem_append_right _ (ycW hb e)))).1,λb hb=>?_,w7⟩
    obtain⟨o,e,d⟩:=T.obj _ _ st5 b hb
    exact(I7.pin (b,o) (List.mem_append_right _ (List.mem_append_right _ (ycW hb e)))).2.1
   refine wpAny_bind (wpAny_mono (ht' _ s6 σ6 H6 _ I6 q6) (λb s7 zq=>?_) no)
   obtain⟨H7,I7,q7⟩:=zq
   cases b with
   | false=>exact wpAny_pure (.inr ⟨rfl,again I7 q7⟩)
   | true =>
    refine wpAny_bind (wpAny_bind (wpAny_mono (he' _ s7 σ6 H7 _ I7 q7) (λyv s8 zq=>?_) no))
    obtain⟨y,H8,I8,r8,ys,hy,hz,q8⟩:=zq
    refine wpAny_bind (wpAny_mono (yhj (X:=X') _ s8 σ6 H8 (.ref s.heap.objs.size) [y] _ [yv] (λ_ H9=>N σ6 H9) I8 rfl (.cons r8 .nil) ⟨_,ys,y,rfl,rfl,hy,hz,q8⟩) (λ_ s9 ⟨_,H9,I9,_,q9⟩=>wpAny_pure (wpAny_pure (.inr ⟨rfl,again I9 q9⟩))) no)
 exact codeAny_compStart_list (loop _ rfl) (T.self _ 0 _ _ _ st1 (loop _ rfl))
theorem ybo {elt tg iter:Expr}{ifs:List Expr}{pos:Pos}{wi:TI}{g:TG}{tc:TT}{te:TE}(B:BlockOk X scope NB cap)(hc:X.calm=true)(hi:PI X tg iter wi)
  (hg:∀ C s H ex,PG (cxB X scope NB C s H ex) tg g) (ht:∀ C s H ex,ypR (cxB X scope NB C s H ex) ifs tc) (he:∀ C s H ex,PE (cxB X scope NB C s H ex) elt te) (hs:∀ x,foldedSetIterable iter X.env x=pure x:=by intro _;rfl) :
  PE X (.ListComp elt [⟨tg,iter,ifs,0⟩] scope pos) (yiT wi cap g tc te):=by
 intro pins s σ H Q I h
 rw[eval_ListComp]
 refine wpAny_comprehension_free (use:=none) rfl hs (B.closure I.ok) B.kind B.names (thn (hi pins s σ H _ I h) λv s1 h1=>thn h1 λitv s2 h2=>?_)
 obtain⟨it,fp,tn,J,H2,e,I2,T,st2,f2,rd⟩:=h2
 subst e
 refine ygs (RR:=λacc C=>compPost (model X.prog X.w) X.A X.xe none (EP X pins σ Q) acc C) (Qd:=λD H'=>Q (.ref D) H') B hc hg ht he I2 T st2 f2 rd ?_
 intro D C H' s' m' I' hn hfp q
 obtain⟨f0,f1,f2',f3,f4,f5⟩:=hfp
 refine⟨m',hn,λh' sb=>⟨.ref D,H',I'.turned (t':=s'.toks) (it:=C) (λb o hb e=>(sb.2 b hb).trans e) f0 f1 f3 f4 f5,rfl,q⟩⟩
def yh8 (i:Nat)(te:TE):TS:=λD σ H=>te σ H λx H1=>D.nx (σ.set i (some x)) H1
theorem yb8 {i:Nat}{y:Str}{elt tg iter:Expr}{ifs:List Expr}{pos spos py:Pos}{wi:TI}{g:TG}{tc:TT}{te:TE}(hN:X.N.Nodup)(hi':X.N[i]?=some y)(hx:Loc X.env.scope y)(B:BlockOk X scope NB cap)(hc:X.calm=true)(hi:PI X tg iter wi)
  (hg:∀ C s H ex,PG (cxB X scope NB C s H ex) tg g) (ht:∀ C s H ex,ypR (cxB X scope NB C s H ex) ifs tc) (he:∀ C s H ex,PE (cxB X scope NB C s H ex) elt te)
  (hsw:swapsWith (.ListComp elt [⟨tg,iter,ifs,0⟩] scope pos) (some (.Name y py)) spos.line X.env=pure true:=by rfl)
  (hf:X.fn y=true∨X.env.scope.names.lookup y=some .local:=by first | exact .inl rfl | exact .inr rfl | assumption) (hs:∀ x,foldedSetIterable iter X.env x=pure x:=by intro _;rfl) :
  PS X (.Assign [.Name y py] (.ListComp elt [⟨tg,iter,ifs,0⟩] scope pos) spos) (yh8 i (yiT wi cap g tc te)):=by
 intro pins s σ H D I h
 rw[exec_Assign_Name_used _ _ _ _ hsw]
 refine wpAny_bind (wpAny_standAt (wpAny_bind ?_))
 show wpAny _ X.A (do let _ ← comprehension (.ListComp elt [⟨tg,iter,ifs,0⟩] scope pos) scope X.env _ (newList []) false (eval iter X.env) (some (assign (.Name y py) X.env))) _ _ s
 refine wpAny_bind (wpAny_mono (wpAny_comprehension_free (use:=some (assign (.Name y py) X.env)) (Q:=λ_ s'=>SP X pins D .next s') rfl hs (B.closure I.ok) B.kind B.names
  (thn (hi pins s σ H _ I h) λv s1 h1=>thn h1 λitv s2 h2=>?_)) (λ_ s' hq=>wpAny_pure (wpAny_pure hq)) λ_ _ e=>e)
 obtain⟨it,fp,tn,J,H2,e,I2,T,st2,f2,rd⟩:=h2
 subst e
 refine ygs (RR:=λacc C=>compPost (model X.prog X.w) X.A X.xe (some (assign (.Name y py) X.env)) (λ_ s'=>SP X pins D .next s') acc C) (Qd:=λd H'=>D.nx (σ.set i (some (.ref d))) H') B hc hg ht he I2 T st2 f2 rd ?_
 intro d C H' s' m' I' hn hfp q
 show wpAny _ X.A (assign (.Name y py) X.env (.ref d)) _ _ _
 refine wpAny_assign_Name (ygr (v:=.ref d) I' hN hi' hx rfl (λs'' I'' sb=>?_) hf)
 obtain⟨f0,f1,f2',f3,f4,f5⟩:=hfp
 obtain⟨a,sa,ha⟩:=sb
 have haC:C≠a:=by
  rcases ha with z | z
  ·rw[z];exact f1
  ·exact λe=>f4 y a z e.symm
 refine⟨m',hn.sameBut sa haC,λh' sb=>⟨_,H',I''.turned (t':=s''.toks) (it:=C) (λb o hb e=>(sb.2 b hb).trans e) f0 f1 f3 f4 f5,q⟩⟩
end
end L2
namespace PB
open PySem
open PySem.Sem (wp)
open PySem.AutoSeq1 (wpAny_loadPart')
end PB
namespace L2
section
open PySem PySem.SeqAt
open AutoSeq1 (wpAny_loadPart')
open MeetsSeq MeetsSeq2 MeetsSeq3 SeqRoads2
end
open PySem PySem.Spec PyProof.Rows
section
variable {X:Cx}
theorem ylu (bs:List Bool):(List.range bs.length).all (λi=>(bs[i]?).getD true)=bs.all id:=by
 induction bs with
 | nil=>rfl
 | cons b r ih =>
  rw[qC,List.range_succ_eq_map,List.all_cons,List.all_map,List.all_cons,← ih]
  rfl
def yta (K:qF):List V->Hp->VK->Prop:=λxs H Q=>∃ (p:Addr) (bs:List Bool),xs=[.ref p]/\SqL K H p (bs.map V.bl)/\Q (.bl (bs.all id)) H
theorem ydn (hc:X.calm=true):ybF X (.builtin "all") (yta X.K):=by
 intro pins s σ H xs us Q I r h
 obtain⟨p,bs,rfl,hq,q⟩:=h
 obtain⟨u,rfl,ru⟩:=ydG r
 cases ru
 obtain⟨its,rv,pl,hz⟩:=I.list hq
 have hlt:p < s.heap.objs.size:=by obtain⟨_,e,_⟩:=pl.isList;exact Heap.lt_size e
 refine call_all_walk (wpAny_pyIter_list pl.isList ?_)
 refine⟨s.heap.objs.size,_,_,_,_,_,(λi=>(bs[i]?).getD true),rfl,Walks.list (A:=X.A.in1) (I.ok.hd hc) s.heap.objs.size p (Nat.ne_of_lt hlt) its.toArray,⟨⟨_,Heap.get?_push_size _ rfl,rfl,rfl⟩,pl.isList.push _⟩,?_,?_⟩
 ·intro i v s' Q' E' hP hQ'
  have hv:its[i]?=some v:=by simpa using hP
  have hi:i < its.length:=(qE hv).1
  have hb:i < bs.length:=by
   have:=rv.length
   rw[qM] at this
   omega
  obtain⟨w',e',r'⟩:=rv.get (x:=.bl bs[i]) (i:=i) (by rw[qm,qG hb];rfl)
  rw[e'] at hv
  cases hv
  cases r'
  have hQ2:Q' ((bs[i]?).getD true) s':=hQ'
  rw[qG hb] at hQ2
  exact wpAny_truthy_bool hQ2
 ·intro h' tk hk
  have e:(List.range its.toArray.size).all (λi=>(bs[i]?).getD true)=bs.all id:=by
   have:=rv.length
   rw[qM] at this
   rw[qZ,← this]
   exact ylu bs
  rw[e]
  refine⟨.bl _,H,I.kept (t':=tk) λb o e=>hk b o ?_ (Heap.get?_push_of_some _ e),rfl,q⟩
  intro z
  have:b=s.heap.objs.size:=by simpa using z
  exact absurd (Heap.lt_size e) (by rw[this];exact Nat.lt_irrefl _)
def yqJ:R2:=λx y H Q=>∃ z n,x=.str z/\y=.int n/\MulOk z n/\Q (.str (Txt.mul z n)) H
theorem ype:OpR X (binaryOp .Mult) yqJ:=by
 intro pins s σ H x y v u Q I rx ry h
 obtain⟨z,n,rfl,rfl,hk,q⟩:=h
 obtain⟨t,rfl⟩:=rx
 obtain⟨t',rfl⟩:=ry
 exact SB.mul hk λt' k=>⟨.str _,H,I.tok _,⟨_,rfl⟩,q⟩
end
section
variable {X:Cx} {pins:List (Addr×Obj)} {σ:St} {H:Hp} {s:Shared} {a:Addr} {y v:V} {u r:Value} {o:Option V} {A:Around} {E:Value->Shared->Prop}
theorem Inv.big (I:Inv X pins σ H s):sysModules < s.heap.objs.size:=by
 have h:mainGlobals < s.heap.objs.size:=(I.mod.glob.keeps I.bk).lt
 exact Nat.lt_trans (by decide) h
end
theorem yiv {P:Program}{w:World}{H:Hp}(h:Heap)(hb:sysModules < h.objs.size):ObjOk P w H (h.push { cls:=.type "dict",data:=.dict #[] }) h.objs.size (.dK []) :=
 ⟨Nat.zero_le _,beq_eq_false_iff_ne.mpr (Ne.symm (Nat.ne_of_lt hb)),[],.nil,Heap.DictOf.new h⟩
def ykh:TE:=λ_ H Q=>∀ p,H p=none->Q (.ref p) (upd H p (.dK []))
section
variable {X:Cx} {pos:Pos}
theorem yip:PE X (.Dict [] [] pos) ykh:=λpins s σ H Q I h =>
 wpAny_Dict_empty ⟨.ref s.heap.objs.size,_,I.laid (a:=s.heap.objs.size) (o:=.dK []) (t':=s.toks) (λ_ _ q=>Heap.get?_push_of_some _ q) (qR _) (yiv s.heap I.big),rfl,h _ (I.hok.fresh (qR _))⟩
end
section
variable {X:Cx}
theorem yi9 {x z:Str}{pos:Pos}(hg:Gl X x)(hm:∃ k,X.mg x=some (.str z k))(hd:(x==("__debug__" : Str))=false:=by decide):PE X (.Name x pos) (tC (.str z)):=by
 obtain⟨k,e⟩:=hm
 exact yby hg e ⟨k,rfl⟩ hd
theorem yfo {x:Str}{z:Int}{pos:Pos}(hg:Gl X x)(hm:∃ k,X.mg x=some (.int z k))(hd:(x==("__debug__" : Str))=false:=by decide):PE X (.Name x pos) (tC (.int z)):=by
 obtain⟨k,e⟩:=hm
 exact yby hg e ⟨k,rfl⟩ hd
theorem yb5:OpR X (binaryOp .Mult) (rI IntMulOk λi j=>.int (i*j)):=opI λ_ _ _ _ _ _ _ hc q=>mul_int q hc
end
def TupIn (K:qF)(a:Addr)(xs:List V):Prop :=
 ∃ (o:Obj) (its:Array Value) (n:Nat),K.lookup a=some o/\o.cls=.type "tuple" /\ o.dict=none/\o.data=.seq its n/\its.size<=sizeLine/\Vals xs its.toList
theorem TupIn.sq {K:qF}{a:Addr}{xs:List V}(h:TupIn K a xs)(H:Hp):SqT K H a xs:=by
 obtain⟨o,its,n,h1,h2,h3,h4,h5,h6⟩:=h
 exact .inr ⟨o,its,n,h1,h2,h4,h5,h6⟩
def ytx:V->Value->Bool
 | .non,.none=>true
 | .bl b,.bool c=>b==c
 | .int i,.int j _=>i==j
 | .str x,.str y _=>x==y
 | _,_=>false
def ylF:List V->List Value->Bool
 | [],[]=>true
 | x :: xs,u :: us=>ytx x u&&ylF xs us
 | _,_=>false
theorem ylT {x:V}{u:Value}(h:ytx x u=true):RelV x u:=by
 cases x<;>cases u<;>simp[ytx] at h
 ·rfl
 ·subst h;rfl
 ·subst h;exact⟨_,rfl⟩
 ·subst h;exact⟨_,rfl⟩
theorem ygh:∀ {xs:List V} {us:List Value},ylF xs us=true->Vals xs us
 | [],[],_=>.nil
 | x :: xs,u :: us,h=>by
  rw[ylF,Bool.and_eq_true] at h
  exact .cons (ylT h.1) (ygh h.2)
 | [],_ :: _,h=>by cases h
 | _ :: _,[],h=>by cases h
theorem ymh {K:qF}{a:Addr}{xs:List V}{its:Array Value}{n:Nat}{sl:Array (Option Value)}(l:K.lookup a=some ⟨.type "tuple",none,.seq its n,sl⟩)(v:ylF xs its.toList=true)(hz:its.size<=1000:=by decide):TupIn K a xs :=
 ⟨_,its,n,l,rfl,rfl,rfl,Nat.le_trans hz (by decide),ygh v⟩
def yn3 (scope:Scope)(env:Env)(N NB:List Str)(cap:List (Option Nat)):Bool :=
 decide (scope.kind=.function)&&scope.names.all (λy=>decide (y.2≠.cell))&&scope.names.all (λy=>decide (y.2≠.local)||decide (scope.names.lookup y.1=some .local)) &&
 scope.names.all (λy=>decide (y.2≠.free)||decide (env.kindOf y.1=some .cell)||decide (env.kindOf y.1=some .free))&&decide (cap.length=NB.length) &&
 (List.range NB.length).all (λi=>match NB[i]?,cap[i]? with
  | some x,some (some j)=>decide (N[j]?=some x)&&decide ((x,NameKind.free)∈scope.names)&&(decide ((relabel scope env).names.lookup x=some .cell)||decide ((relabel scope env).names.lookup x=some .free))
  | _,_=>true)
theorem yaR {X:Cx}{scope:Scope}{NB:List Str}{cap:List (Option Nat)}(h:yn3 scope X.env X.N NB cap=true):BlockOk X scope NB cap:=by
 unfold yn3 at h
 simp only[Bool.and_eq_true,decide_eq_true_eq,List.all_eq_true,Bool.or_eq_true] at h
 obtain⟨⟨⟨⟨⟨h1,h2⟩,h3⟩,h4⟩,h5⟩,h6⟩:=h
 refine⟨h1,h2,λy hy e=>?_,λy hy e=>?_,h5,λi x j e1 e2=>?_⟩
 ·rcases h3 y hy with z | z
  ·exact absurd e z
  ·exact z
 ·rcases h4 y hy with (z | z) | z
  ·exact absurd e z
  ·exact .inl z
  ·exact .inr z
 ·have hi:i < NB.length:=(qE e1).1
  have q:=h6 i (List.mem_range.mpr hi)
  rw[e1,e2] at q
  simp only[Bool.and_eq_true,decide_eq_true_eq,Bool.or_eq_true] at q
  exact⟨q.1.1,q.1.2,q.2⟩
end L2
namespace Att
open PySem PySem.W PySem.Calls PyProof.Rows
theorem yid:∀ {ns:List Int},WData.weightAll (ns.map WData.int)<=2 ^ 20->∀ v∈ns,Builtin.Int.intBits v<=2 ^ 20
 | [],_,v,h=>by simp at h
 | n :: ns,h,v,hv=>by
  rw[List.map_cons,WData.weightAll] at h
  rcases List.mem_cons.mp hv with rfl | hv
  ·have:WData.weight (.int v)<=2 ^ 20:=by omega
   simpa only[WData.weight,Builtin.Int.intBits] using this
  ·exact yid (by omega) v hv
theorem yoP {ns:List Int}(h:WData.layableAll [WData.list (ns.map WData.int)]=true):∀ v∈ns,Builtin.Int.intBits v<=2 ^ 20:=by
 simp only[WData.layableAll,List.all_cons,WData.layable,Bool.and_eq_true,decide_eq_true_eq] at h
 exact yid (by have:=h.1.2;rw[WData.weight] at this;exact this)
theorem attach_callB {l:OpenLaw}{n:Nat}{q:Program}{loose:List Str}{XP:(Str->Option Value)->Heap->Prop}{YP:World->Heap->Prop}{d:DefRec}
  (hn:l.most=some n) (hdf:d.params.defaults=[])
  (call:∀ (w:World) (s₀ s₁:Shared) (mg mb:Str->Option Value) (fa:Addr) (o:Obj) (pm cd doc:Value) (a:Addr) (vs:List Value) (ns:List Int),
   Ground q loose [] XP w s₀ mg mb s₁.heap->YP w s₁.heap ->
   s₁.heap.get? fa=some o->o.data=.func (docDef d.name d.params d.body d.scope pm cd doc)->s₁.heap.CodeRec cd d.name->mg d.name=some (.ref fa) ->
   s₁.heap.get? a=some { cls:=.type "list",data:=.seq vs.toArray }->IntsAre vs ns->ns.length<=n->(∀ v∈ns,Builtin.Int.intBits v<=2 ^ 20)->s₁.gens=#[] ->
   codeAny (model l.prog w) callerA (.call (.ref fa) ⟨[.ref a],[]⟩) (λr s'=>r=.ok (.ret (.bool true))/\OldK s₁.heap s'.heap/\s'.os=s₁.os/\AllBare s'.gens) s₁) :
  WalkO q loose XP YP l.row.toRowW d [] (λf vs=>PySem.call f vs):=by
 intro w s₀ s₁ mg mb G Y fa o pm cd doc dV kV ho hd hcd hD hmg hg args vals as hpre hlay hrd hwl hlo
 obtain rfl:dV=.none:=Dflts.none hD hdf
 obtain rfl:kV=.none:=Dflts.noKw hD
 obtain⟨a,vs,ns,rfl,rfl,hobj,hints,hlen⟩:=yjC hn hpre hwl
 refine enter_call (codeAny_mono (call w s₀ s₁ mg mb fa o pm cd doc a vs ns G Y ho (fd_plain hd) hcd hmg hobj hints hlen (yoP hlay) hg) λr s' hq=>?_)
 obtain⟨rfl,h2,h3,h4⟩:=hq
 exact⟨.inl ⟨.bool true,.bool true,[],rfl,λ_=>rfl,.bool true,ykS l _,λ_=>⟨List.Pairwise.nil,λ_ hm=>(nomatch hm)⟩⟩,h2,h3,h4⟩
end Att
namespace L2
open PySem PySem.Spec PyProof.Rows
theorem walk_ofB {l:PySem.W.OpenLaw}{n k:Nat}{q:Program}{loose:List Str}{XP:(Str->Option Value)->Heap->Prop}{YP:World->Heap->Prop}{d:DefRec}{K:Params->qF}{CX:World->CXT}{sp:World->Sp}{x:Str}
  (hn:l.most=some n) (hn2:n<=sizeLine) (hdf:d.params.defaults=[]) (hr:Room k callerA)
  (hY:∀ (w:World) (h:Heap),YP w h->(K w.params).In h)
  (F:∀ (w:World) (mg:Str->Option Value) (fa:Addr) (h:Heap),(K w.params).In h->h.Ns mainGlobals mg->mg d.name=some (.ref fa) ->
   ∃ fd:FuncData,(∀ (s:Shared) (u:Value),BindsTo s fd ⟨[u],[]⟩ [(x,u)]) /\
    ∀ base:Heap,(K w.params).In base->base.Ns mainGlobals mg->FnOk l.prog w (K w.params) mg base (CX w) k fa fd [x] (sp w))
  (hsp:∀ (w:World) (H:Hp) (a:Addr) (ns:List Int),ns.length<=n->(∀ v∈ns,Builtin.Int.intBits v<=2 ^ 20)->yua H->SqL (K w.params) H a (ns.map V.int)->sp w [.ref a] H (λv _=>v=.bl true) λ_ _ _=>False)
  (hCX:∀ (w:World) (H:Hp) (s:Shared) (e:Value) (s':Shared),CX w [] H s (λ_ _ _=>False) e s'->False) :
  PySem.W.WalkO q loose XP YP l.row.toRowW d [] (λf vs=>PySem.call f vs):=by
 refine Att.attach_callB hn hdf λw s₀ s₁ mg mb fa o pm cd doc a vs ns G Y ho hd hcd hmg hobj hints hlen hbits hg=>?_
 have KX:=hY w _ Y
 obtain⟨fd,hb,hF⟩:=F w mg fa _ KX G.T.g hmg
 exact yml KX G.T.g G.T.b G.T.builtins G.T.nolimit hg hobj hints (Nat.le_trans hlen hn2) hr hF hb (λH hO hS=>hsp w H a ns hlen hbits hO hS) λH e s'=>hCX w H s₁ e s'
section
variable {X:Cx} {CX:CXT} {k:Nat} {E:XK} {x m:Str} {p pos apos:Pos} {e o:Expr} {es:List Expr} {ta:TE} {t:TA}
def yhn (K:qF):List V->Hp->VK->Prop:=λxs H Q=>∃ x C t b,xs=[x,.ref C]/\ye3 K H x t/\PySem.W.kitOne K t (.ref C)=some b/\Q (.bl b) H
theorem ybw:ybF X (.builtin "isinstance") (yhn X.K):=by
 intro pins s σ H xs us Q I r h
 obtain⟨x,C,t,b,rfl,ty,hk,q⟩:=h
 obtain⟨u,v,rfl,ru,rv⟩:=yfX r
 cases (show v=Value.ref C from rv)
 exact yhb I ru ty hk λtk=>⟨.bl b,H,I.tok _,rfl,q⟩
def ylw {ι:Type}(C:ι->Addr)(m:Str)(sp:ι->Sp)(E:XK)(ta:TE):TE:=fun σ H Q=>ta σ H λx H1=>∃ i a dx fs,x=.ref a/\H1 a=some (.ins (C i) dx fs)/\fs.lookup m=none/\sp i [x] H1 Q E
theorem ybU {pl:Sem Bool}{ι:Type}{C f:ι->Addr}{fd:ι->FuncData}{ps:ι->List Str}{sp:ι->Sp}(he:PE X o ta)(c:∀ i,Cls X.K (C i))(hm:∀ i,ycw X.K (C i) m (f i))
  (F:∀ i,FnOk X.prog X.w X.K X.mg X.base CX k (f i) (fd i) (ps i) (sp i)) (hr:Room k X.A) (hb:∀ i,Binds X.K (fd i) (ps i) []) (hx:yef CX X E)
  (ht:eval (.Call (.Attribute o m apos) [] [] pos) X.env=(do
   let ov ← eval o X.env
   standAt apos.atName
   let (f,first) ← holding [ov] (getMethod ov m pl)
   callWith pos f first (backTo pos (starEach [] X.env)) (backToKw pos (keywordEach [] X.env))):=by rfl) :
  PE X (.Call (.Attribute o m apos) [] [] pos) (ylw C m sp E ta):=by
 intro pins s σ H Q I h
 refine PySem.W.methodCall_KW (pl:=pl) (thn (he pins s σ H _ I h) λu s1 zq=>?_) ht
 obtain⟨x,H1,I1,rx,i,a,dx,fs,ex,ea,l,q⟩:=zq
 subst ex
 obtain rfl:u=Value.ref a:=rx
 exact yiU I1 ea (c i) (hm i) l (PySem.W.callWith_K0 (first:=[.ref a]) I1.kIn (hm i).kp (yjZ (us:=[.ref a]) (vs:=[.ref a]) (F i) hr (hb i) .nil hx I1 (.cons rfl .nil) q))
structure yvm (K:qF) (C:Addr) (m:Str) (f:Addr):Prop where
 ga:PySem.W.specialIn K (.ref C) "__getattribute__"=some (some (.builtin "type.__getattribute__"))
 rd:PySem.W.readsIn K C (.type "type")=true
 at_:PySem.W.findCls K (.ref C) (.type "type") m=some (.val (.ref f))
 hh:PySem.W.handedIn (.ref f)=true
 kp:PySem.W.keepIn K (.ref f)=true
end
structure ClsObj (K:qF) (C:Addr):Prop where
 ha:PySem.W.findIn K (.ref C) "__class__"=some (some (.builtin "object.__class__"))
 hn:PySem.W.specialIn K (.builtin "object.__class__") "__get__"=some (some (.builtin "getset_descriptor.__get__"))
 htk:PySem.W.takesIn K (.builtin "object.__class__")=some true
 hm:PySem.W.mroIn K C (.type "object")=some true
theorem ClsObj.ty {K:qF}{C a dx:Addr}{H:Hp}{fs:List (Str×V)}(o:ClsObj K C)(c:Cls K C)(e:H a=some (.ins C dx fs)):ye3 K H (.ref a) (.ref C):=.ins e c o.ha o.hn o.htk o.hm
section
variable {K:qF} {σ:St} {H:Hp} {Q:VK} {ta tb:TE} {f:Str} {a C dx:Addr} {fs:List (Str×V)} {v y:V} {D:yeZ}
theorem yuH (q:ta σ H λx H1=>∃ a C dx fs v,x=.ref a/\H1 a=some (.ins C dx fs)/\Cls K C/\NoAttr K C f/\fs.lookup f=some v/\Q v H1):ys6 K ta f σ H Q:=q
theorem ysl (q:tb σ H λy H1=>ta σ H1 λx H2=>∃ a C dx fs,x=.ref a/\H2 a=some (.ins C dx fs)/\Cls K C/\NoAttr K C f/\fs.length < 1000/\D.nx σ (upd H2 a (.ins C dx (yfZ f y fs)))):ytK K ta tb f D σ H:=q
end
section
variable {H:Hp} {Q:VK}
theorem ysf {g:Int->Int->V}{a b:Int}(h:0 < b/\b < 1073741824)(q:Q (g a b) H):rI yu5 g (.int a) (.int b) H Q:=⟨a,b,rfl,rfl,h,q⟩
end
section
variable {X:Cx}
theorem ybG {x:Str}{n:String}{pos:Pos}(hg:Gl X x)(hm:X.mg x=none)(hv:bootBuiltins x=some (.type n))(hn:x≠"__name__":= by decide)(hd:(x==("__debug__" : Str))=false:=by decide):PE X (.Name x pos) (tC (.ty n)):=yoU (v:=.ty n) hg hm hv rfl hn hd
theorem ymE {x:Str}{a:Addr}{pos:Pos}(hg:Gl X x)(hm:X.mg x=some (.ref a))(hd:(x==("__debug__" : Str))=false:=by decide):PE X (.Name x pos) (tC (.ref a)):=yby (v:=.ref a) hg hm rfl hd
end
theorem yae {H:Hp}{p:Addr}(h:H p=none)(o:HO):Same H (upd H p o):=λb u q=>by rw[yas (yak q h)];exact q
theorem KndOf.same {H H':Hp}{x:V}{k:Knd}(h:KndOf H x k)(s:Same H H'):KndOf H' x k:=by
 cases h with
 | non=>exact .non
 | bl b=>exact .bl b
 | int i=>exact .int i
 | str x=>exact .str x
 | lst e=>exact .lst (s _ _ e)
 | tup e=>exact .tup (s _ _ e)
 | dct e=>exact .dct (s _ _ e)
mutual
def Own (H:Hp):V->Tr->Prop
 | v,.vl w=>v=w/\ycp w=true
 | v,.ls ts=>∃ a xs,v=.ref a/\H a=some (.lst xs)/\Owns H xs ts
 | v,.tp ts=>∃ a xs,v=.ref a/\H a=some (.tup xs)/\Owns H xs ts
def Owns (H:Hp):List V->List Tr->Prop
 | xs,[]=>xs=[]
 | xs,t :: ts=>∃ x r,xs=x :: r/\Own H x t/\Owns H r ts
end
mutual
theorem Own.same {H H':Hp}(s:Same H H'):∀ {v:V} {t:Tr},Own H v t->Own H' v t
 | v,.vl w,h=>by rw[Own] at h ⊢;exact h
 | v,.ls ts,h=>by
  rw[Own] at h ⊢
  obtain⟨a,xs,e,q,r⟩:=h
  exact⟨a,xs,e,s _ _ q,Owns.same s r⟩
 | v,.tp ts,h=>by
  rw[Own] at h ⊢
  obtain⟨a,xs,e,q,r⟩:=h
  exact⟨a,xs,e,s _ _ q,Owns.same s r⟩
theorem Owns.same {H H':Hp}(s:Same H H'):∀ {xs:List V} {ts:List Tr},Owns H xs ts->Owns H' xs ts
 | xs,[],h=>by rw[Owns] at h ⊢;exact h
 | xs,t :: ts,h=>by
  rw[Owns] at h ⊢
  obtain⟨x,r,e,q,z⟩:=h
  exact⟨x,r,e,Own.same s q,Owns.same s z⟩
end
mutual
theorem Own.rep {K:qF}{H:Hp}:∀ {v:V} {t:Tr},Own H v t->Rep K H v t
 | v,.vl w,h=>by rw[Own] at h;rw[Rep];exact h
 | v,.ls ts,h=>by
  rw[Own] at h
  rw[Rep]
  obtain⟨a,xs,e,q,r⟩:=h
  exact⟨a,xs,e,SqL.of q,Owns.rep r⟩
 | v,.tp ts,h=>by
  rw[Own] at h
  rw[Rep]
  obtain⟨a,xs,e,q,r⟩:=h
  exact⟨a,xs,e,SqT.of q,Owns.rep r⟩
theorem Owns.rep {K:qF}{H:Hp}:∀ {xs:List V} {ts:List Tr},Owns H xs ts->Reps K H xs ts
 | xs,[],h=>by rw[Owns] at h;rw[Reps];exact h
 | xs,t :: ts,h=>by
  rw[Owns] at h
  rw[Reps]
  obtain⟨x,r,e,q,z⟩:=h
  exact⟨x,r,e,Own.rep q,Owns.rep z⟩
end
theorem yhO {A:Around}{k:Nat}(hr:Room k A):A.units+64 < cLine:=hr.units
def ybL (x:V)(lo hi:Int):Bool:=match x with
 | .int i=>decide (lo<=i)&&decide (i<=hi)
 | _=>false
end L2
namespace L2
theorem yo0 (k:Knd):k.isA "int"=(decide (k=.int)||decide (k=.bl)):=by cases k<;>rfl
theorem yng (k:Knd):k.isA "bool"=decide (k=.bl):=by cases k<;>rfl
theorem ypo (k:Knd):k.isA "str"=decide (k=.str):=by cases k<;>rfl
theorem yir (k:Knd):k.isA "list"=decide (k=.lst):=by cases k<;>rfl
theorem ygB (k:Knd):k.isA "tuple"=decide (k=.tup):=by cases k<;>rfl
theorem ysC:ydi "int":= .inl rfl
theorem ypB:ydi "bool":= .inr (.inl rfl)
theorem yq7:ydi "str":= .inr (.inr (.inl rfl))
theorem ykE:ydi "list":= .inr (.inr (.inr (.inl rfl)))
theorem yhZ:ydi "tuple":= .inr (.inr (.inr (.inr rfl)))
theorem ypE:ydi "int"=True:=eq_true ysC
theorem yl9:ydi "bool"=True:=eq_true ypB
theorem ypt:ydi "str"=True:=eq_true yq7
theorem ymG:ydi "list"=True:=eq_true ykE
theorem yjX:ydi "tuple"=True:=eq_true yhZ
end L2
namespace L2
open PySem
end L2
namespace L2
open PySem
theorem ygS {K:qF}{a D:Addr}{xs:List V}{g:TG}{tc:TT}{te:TE}{Fin:Hp->Prop}{σ:St}{H:Hp}(Pv:Nat->St->Hp->Prop)(h0:Pv 0 σ H)(hl:∀ i σ H,i<=xs.length->Pv i σ H->SqL K H a xs)
  (hs:∀ i x σ H,xs[i]?=some x->Pv i σ H->g x σ H fun σ2 H2=>tc σ2 H2 λb H3=>if b=true then te σ2 H3 λy H4=>∃ ys,H4 D=some (.lst ys)/\ys.length < sizeLine/\Pv (i+1) σ2 (upd H4 D (.lst (ys++[y]))) else Pv (i+1) σ2 H3)
  (hd:∀ σ H,Pv xs.length σ H->Fin H):∃ W:Nat->Nat->St->Hp->Prop,(∃ m,W 0 m σ H)/\ydd (Itl K a) g tc te D Fin W:=by
 refine⟨λi m σ H=>m=xs.length - i/\i<=xs.length/\Pv i σ H,⟨xs.length,by simp,Nat.zero_le _,h0⟩,?_⟩
 rintro i m σ H ⟨rfl,hi,p⟩
 have q:=hl i σ H hi p
 by_cases hlt:i < xs.length
 ·refine .inr ⟨⟨xs,xs[i],q,by simp[hlt]⟩,Pv (i+1),fun σ' H' p'=>⟨xs.length - (i+1),by omega,rfl,hlt,p'⟩,λx H' y=>?_⟩
  obtain⟨e,y⟩:=y
  subst e
  exact hs i x σ _ (y xs q) p
 ·have e:i=xs.length:=by omega
  subst e
  exact .inl ⟨⟨xs,q,qR _⟩,hd σ H p⟩
theorem yfL {K:qF}{a D:Addr}{xs:List V}{g:TG}{tc:TT}{te:TE}{Fin:Hp->Prop}{σ:St}{H:Hp}(Pv:Nat->St->Hp->Prop)(h0:Pv 0 σ H)(hl:∀ i σ H,i<=xs.length->Pv i σ H->SqT K H a xs)
  (hs:∀ i x σ H,xs[i]?=some x->Pv i σ H->g x σ H fun σ2 H2=>tc σ2 H2 λb H3=>if b=true then te σ2 H3 λy H4=>∃ ys,H4 D=some (.lst ys)/\ys.length < sizeLine/\Pv (i+1) σ2 (upd H4 D (.lst (ys++[y]))) else Pv (i+1) σ2 H3)
  (hd:∀ σ H,Pv xs.length σ H->Fin H):∃ W:Nat->Nat->St->Hp->Prop,(∃ m,W 0 m σ H)/\ydd (Itt K a) g tc te D Fin W:=by
 refine⟨λi m σ H=>m=xs.length - i/\i<=xs.length/\Pv i σ H,⟨xs.length,by simp,Nat.zero_le _,h0⟩,?_⟩
 rintro i m σ H ⟨rfl,hi,p⟩
 have q:=hl i σ H hi p
 by_cases hlt:i < xs.length
 ·refine .inr ⟨⟨xs,xs[i],q,by simp[hlt]⟩,Pv (i+1),fun σ' H' p'=>⟨xs.length - (i+1),by omega,rfl,hlt,p'⟩,λx H' y=>?_⟩
  obtain⟨e,y⟩:=y
  subst e
  exact hs i x σ _ (y xs q) p
 ·have e:i=xs.length:=by omega
  subst e
  exact .inl ⟨⟨xs,q,qR _⟩,hd σ H p⟩
theorem yc2 {lo:Int}{n:Nat}{D:Addr}{g:TG}{tc:TT}{te:TE}{Fin:Hp->Prop}{σ:St}{H:Hp}(Pv:Nat->St->Hp->Prop)(h0:Pv 0 σ H)
  (hs:∀ i σ H,i < n->Pv i σ H->g (.int (lo+i)) σ H fun σ2 H2=>tc σ2 H2 λb H3=>if b=true then te σ2 H3 λy H4=>∃ ys,H4 D=some (.lst ys)/\ys.length < sizeLine/\Pv (i+1) σ2 (upd H4 D (.lst (ys++[y]))) else Pv (i+1) σ2 H3)
  (hd:∀ σ H,Pv n σ H->Fin H):∃ W:Nat->Nat->St->Hp->Prop,(∃ m,W 0 m σ H)/\ydd (Itr lo n) g tc te D Fin W:=by
 refine⟨λi m σ H=>m=n - i/\i<=n/\Pv i σ H,⟨n,by simp,Nat.zero_le _,h0⟩,?_⟩
 rintro i m σ H ⟨rfl,hi,p⟩
 by_cases hlt:i < n
 ·refine .inr ⟨hlt,Pv (i+1),fun σ' H' p'=>⟨n - (i+1),by omega,rfl,hlt,p'⟩,λx H' y=>?_⟩
  obtain⟨e,y⟩:=y
  subst e y
  exact hs i σ _ hlt p
 ·have e:i=n:=by omega
  subst e
  exact .inl ⟨qR _,hd σ H p⟩
end L2
namespace L2
open PySem PySem.Spec PyProof.Rows
def yox (a:Addr)(o:Obj):HO:=.ext λh=>h.get? a=some o
section
variable {P:Program} {w:World} {H:Hp} {h:Heap} {a:Addr}
end
def SameT (T:Addr)(H H':Hp):Prop:=∀ b o,b≠T->H b=some o->H' b=some o
theorem SameT.refl {T:Addr}{H:Hp}:SameT T H H:=λ_ _ _ q=>q
theorem Same.t {T:Addr}{H H':Hp}(a:Same H H'):SameT T H H':=λc o _ q=>a c o q
def ys4 (H:Hp)(c:Addr)(qual:Str):Prop:=∃ o vs t,H c=some (yox c o)/\o.data=.fields vs/\vs[1]?=some (.str qual t)
def FnK (H:Hp)(fa:Addr)(name qual:Str)(params:Arguments)(body:List Stmt)(scope:Scope)(clos:List (Str×Addr)):Prop :=
 ∃ doc pm c' ctv,H fa=some (yox fa (PySem.W.fnMade name qual params body scope clos doc pm c' ctv))/\ys4 H c' qual
def ytP (H:Hp)(fa:Addr):Prop:=∃ oc od fd sl,H fa=some (yox fa ⟨oc,od,.func fd,sl⟩)
theorem FnK.isFn {H:Hp}{fa:Addr}{name qual:Str}{params:Arguments}{body:List Stmt}{scope:Scope}{clos:List (Str×Addr)}(F:FnK H fa name qual params body scope clos):ytP H fa:=by
 obtain⟨doc,pm,c',ctv,e,_⟩:=F
 exact⟨_,_,_,_,e⟩
structure yuV (P:Program) (w:World) (K:qF) (mg:Str->Option Value) (base:Heap) (k:Nat) (spX:Addr->V->Hp->VK->Prop):Prop where
 run:∀ (A:Around) (outer:List Env) (s:Shared) (H:Hp) (fa:Addr) (u:Value) (xv:V) (Q:VK) (E:XK),Room k A->Env0 P w K mg base A outer s H->RelV xv u->spX fa xv H Q->codeAny (model P w) A (.call (.ref fa) ⟨[u],[]⟩) (CR CX0 outer P w H s Q E) s
section
variable {X:Cx} {k i:Nat} {x:Str} {p pos:Pos} {e:Expr} {t:TA} {spX:Addr->V->Hp->VK->Prop}
end
theorem ycg (ns:List Int):∀ j,j<=ns.length->preSum (λi=>(ns[i]?).getD 0) j=(ns.take j).sum
 | 0,_=>by simp[preSum]
 | j+1,h=>by
  have hj:j < ns.length:=h
  rw[preSum,ycg ns j (Nat.le_of_lt hj),List.take_add_one,List.sum_append,qG hj]
  simp
theorem yey:∀ {ns:List Int},(∀ n∈ns,0<=n/\n<=1000)->0<=ns.sum/\ns.sum<=1000*ns.length
 | [],_=>by simp
 | n :: r,h=>by
  have h1:=h n (by simp)
  have h2:=yey (ns:=r) λm hm=>h m (by simp[hm])
  rw[List.sum_cons,qC]
  omega
section
variable {X:Cx}
def yqp (K:qF):List V->Hp->VK->Prop:=λxs H Q=>∃ (p:Addr) (ns:List Int),xs=[.ref p]/\SqT K H p (ns.map V.int)/\(∀ n∈ns,0<=n/\n<=1000)/\ns.length<=1000/\Q (.int ns.sum) H
theorem ykK (hc:X.calm=true):ybF X (.builtin "sum") (yqp X.K):=by
 intro pins s σ H xs us Q I r h
 obtain⟨p,ns,rfl,hq,hs,hln,q⟩:=h
 obtain⟨u,rfl,ru⟩:=ydG r
 cases ru
 obtain⟨its,rv,pl,hz⟩:=I.tuple hq
 have hlen:ns.length=its.length:=by have:=rv.length;rw[qM] at this;exact this
 have hlt:p < s.heap.objs.size:=pl.lt
 have pt:s.heap.IsTuple p its.toArray:=pl
 refine call_sum_walk (wpAny_pyIter_tuple pt ?_)
 refine⟨s.heap.objs.size,_,_,_,_,_,(λi=>(ns[i]?).getD 0),rfl,Walks.tuple (A:=X.A.in1) (I.ok.hd hc) s.heap.objs.size p (Nat.ne_of_lt hlt) its.toArray,⟨⟨_,Heap.get?_push_size _ rfl,rfl,rfl⟩,pt.push _⟩,?_,?_,?_,?_⟩
 ·intro b hb
  show b < (s.heap.push _).objs.size
  rw[Heap.size_push]
  have hb:b=s.heap.objs.size∨b=p:=by simpa using hb
  rcases hb with rfl | rfl
  ·exact Nat.lt_succ_self _
  ·exact Nat.lt_succ_of_lt hlt
 ·intro i v hP
  have hv:its[i]?=some v:=by simpa using hP
  have hi:i < its.length:=(qE hv).1
  have hb:i < ns.length:=by omega
  obtain⟨w',e',r'⟩:=rv.get (x:=.int ns[i]) (i:=i) (by rw[qm,qG hb];rfl)
  rw[e'] at hv
  cases hv
  obtain⟨t,rfl⟩:=r'
  exact⟨t,by show Value.int ns[i] t=Value.int ((ns[i]?).getD 0) t;rw[qG hb];rfl⟩
 ·intro j hj
  have hj:j < ns.length:=by rw[qZ] at hj;omega
  have h1:=hs ns[j] (List.getElem_mem hj)
  have h2:=yey (ns:=ns.take (j+1)) λn hn=>hs n (List.mem_of_mem_take hn)
  have h3:(ns.take (j+1)).length<=1000:=by rw[qT];omega
  refine⟨?_,?_⟩
  ·show InLong ((ns[j]?).getD 0)
   rw[qG hj]
   exact⟨by show -(2 ^ 63)<=ns[j];omega,by show ns[j] < 2 ^ 63;omega⟩
  ·rw[ycg ns (j+1) hj]
   exact⟨by omega,by omega⟩
 ·intro h' tk t' hk
  rw[qZ,← hlen,ycg ns _ (qR _),List.take_length]
  refine⟨.int _,H,I.kept (t':=tk) λb o e=>hk b o ?_ (Heap.get?_push_of_some _ e),⟨t',rfl⟩,q⟩
  intro z
  have:b=s.heap.objs.size:=by simpa using z
  exact absurd (Heap.lt_size e) (by rw[this];exact Nat.lt_irrefl _)
end
structure yuZ (X:Cx) (scope:Scope) (NB:List Str) (cap:List (Option Nat)) (v:Str):Prop where
 kind:scope.kind=.function
 cell:∀ y∈scope.names,y.2=.cell->y.1=v
 nv:∀ y∈scope.names,y.2=.free->y.1≠v
 names:∀ y∈scope.names,y.2=.local->scope.names.lookup y.1=some .local
 free:∀ y∈scope.names,y.2=.free->(X.env.kindOf y.1=some .cell∨X.env.kindOf y.1=some .free)
 len:cap.length=NB.length
 caps:∀ (i:Nat) (x:Str) (j:Nat),NB[i]?=some x->cap[i]?=some (some j)->X.N[j]?=some x/\(x,NameKind.free)∈scope.names/\((relabel scope X.env).names.lookup x=some .cell∨(relabel scope X.env).names.lookup x=some .free)
 cf:∀ n cl,cellsFrom n scope.names cl=(v,n) :: cl
 pc:∀ h,pushCells h scope.names=h.push { cls:=.type "cell",data:=.cell none }
section
variable {X:Cx} {pins:List (Addr×Obj)} {σ:St} {H:Hp} {s:Shared} {scope:Scope} {NB:List Str} {cap:List (Option Nat)} {v:Str}
end
section
variable {X:Cx}
def ynr (K:qF):R2:=λx y H Q=>∃ a b xs,x=.ref a/\y=.ref b/\SqL K H a xs/\SqL K H b []/\Q (.bl xs.isEmpty) H
theorem yiA (hu:X.A.units+64 < cLine):OpR X (compareOp .Eq) (ynr X.K):=by
 intro pins s σ H x y v u Q I rx ry h
 obtain⟨a,b,xs,rfl,rfl,ha,hb,q⟩:=h
 cases rx
 cases ry
 obtain⟨its,r,p,_⟩:=I.list ha
 obtain⟨its',r',p',_⟩:=I.list hb
 cases r'
 have hA:X.A.units < cLine:=by omega
 cases r with
 | nil=>exact SeqAt.RcAt.lists p.isList p'.isList rfl hA (e:=λ_=>true) (λj h1 _=>absurd h1 (Nat.not_lt_zero _)) _ _ _ _ ⟨.bl true,H,I,rfl,q⟩
 | cons _ _=>exact SeqAt.RcAt.lists_lengths p.isList p'.isList (by simp) hA _ _ _ _ ⟨.bl false,H,I,rfl,q⟩
def yrS (K:qF):List V->Hp->VK->Prop:=λxs H Q=>∃ (p:Addr) (ns:List Int),xs=[.ref p]/\SqL K H p (ns.map V.int)/\(∀ n∈ns,0<=n/\n<=1000)/\ns.length<=1000/\Q (.int ns.sum) H
theorem yk5 (hc:X.calm=true):ybF X (.builtin "sum") (yrS X.K):=by
 intro pins s σ H xs us Q I r h
 obtain⟨p,ns,rfl,hq,hs,hln,q⟩:=h
 obtain⟨u,rfl,ru⟩:=ydG r
 cases ru
 obtain⟨its,rv,pl,hz⟩:=I.list hq
 have hlen:ns.length=its.length:=by have:=rv.length;rw[qM] at this;exact this
 have hl:=pl.isList
 have hlt:p < s.heap.objs.size:=by obtain⟨_,g,_⟩:=hl;exact Heap.lt_size g
 refine call_sum_walk (wpAny_pyIter_list hl ?_)
 refine⟨s.heap.objs.size,_,_,_,_,_,(λi=>(ns[i]?).getD 0),rfl,Walks.list (A:=X.A.in1) (I.ok.hd hc) s.heap.objs.size p (Nat.ne_of_lt hlt) its.toArray,⟨⟨_,Heap.get?_push_size _ rfl,rfl,rfl⟩,hl.push _⟩,?_,?_,?_,?_⟩
 ·intro b hb
  have hb:b=s.heap.objs.size∨b=p:=by simpa using hb
  have low:b<=s.heap.objs.size:=hb.elim (λz=>Nat.le_of_eq z) λz=>Nat.le_of_lt (z▸hlt)
  exact Heap.size_push ..▸Nat.lt_succ_of_le low
 ·intro i v hP
  have hv:its[i]?=some v:=by simpa using hP
  have hb:i < ns.length:=hlen▸(qE hv).1
  obtain⟨w',e',r'⟩:=rv.get (x:=.int ns[i]) (i:=i) (by rw[qm,qG hb];rfl)
  rw[e'] at hv
  cases hv
  obtain⟨t,rfl⟩:=r'
  exact⟨t,by show Value.int ns[i] t=Value.int ((ns[i]?).getD 0) t;rw[qG hb];rfl⟩
 ·intro j hj
  have hj:j < ns.length:=by rw[qZ] at hj;omega
  have h1:=hs ns[j] (List.getElem_mem hj)
  have h2:=yey (ns:=ns.take (j+1)) λn hn=>hs n (List.mem_of_mem_take hn)
  have h3:(ns.take (j+1)).length<=1000:=by rw[qT];omega
  refine⟨?_,?_⟩
  ·show InLong ((ns[j]?).getD 0)
   rw[qG hj]
   exact⟨by show -(2 ^ 63)<=ns[j];omega,by show ns[j] < 2 ^ 63;omega⟩
  ·rw[ycg ns (j+1) hj]
   exact⟨by omega,by omega⟩
 ·intro h' tk t' hk
  rw[qZ,← hlen,ycg ns _ (qR _),List.take_length]
  refine⟨.int _,H,I.kept (t':=tk) λb o e=>hk b o ?_ (Heap.get?_push_of_some _ e),⟨t',rfl⟩,q⟩
  intro z
  have:b=s.heap.objs.size:=by simpa using z
  exact absurd (Heap.lt_size e) (by rw[this];exact Nat.lt_irrefl _)
def ynw (K:qF):R2:=λx y H Q=>∃ a b xs,x=.ref a/\y=.ref b/\SqL K H a xs/\SqL K H b []/\Q (.bl (!xs.isEmpty)) H
theorem ymv (hu:X.A.units+64 < cLine):OpR X (compareOp .NotEq) (ynw X.K):=by
 intro pins s σ H x y v u Q I rx ry h
 obtain⟨a,b,xs,rfl,rfl,ha,hb,q⟩:=h
 cases rx
 cases ry
 obtain⟨its,r,p,_⟩:=I.list ha
 obtain⟨its',r',p',_⟩:=I.list hb
 cases r'
 have hA:X.A.units < cLine:=by omega
 cases r with
 | nil=>exact SeqAt.RcNeAt.lists p.isList p'.isList rfl hA (e:=λ_=>true) (λj h1 _=>absurd h1 (Nat.not_lt_zero _)) _ _ _ _ ⟨.bl false,H,I,rfl,q⟩
 | cons _ _=>exact SeqAt.RcNeAt.lists_lengths p.isList p'.isList (by simp) hA _ _ _ _ ⟨.bl true,H,I,rfl,q⟩
theorem yoo {K:qF}(k:Knd):PySem.W.kitAny K (.type k.name) [.type "tuple",.type "list"]=some (decide (k=.tup)||decide (k=.lst)):=by
 have a:=ykt (K:=K) k yhZ
 have b:=ykt (K:=K) k ykE
 rw[ygB] at a
 rw[yir] at b
 unfold PySem.W.kitAny
 rw[a]
 cases k<;>first | rfl | (unfold PySem.W.kitAny;rw[b];rfl)
def ynV:List V->Hp->VK->Prop:=λxs H Q=>∃ x p k,xs=[x,.ref p]/\H p=some (.tup [.ty "tuple",.ty "list"])/\KndOf H x k/\k≠.dct/\Q (.bl (decide (k=.tup)||decide (k=.lst))) H
theorem ycs:ybF X (.builtin "isinstance") ynV:=by
 intro pins s σ H xs us Q I r h
 obtain⟨x,p,k,rfl,hp,hk,nd,q⟩:=h
 obtain⟨u,v,rfl,rx,rv⟩:=yfX r
 cases rv
 obtain⟨_,its,rt,ob,hob,hc,n,hd⟩:=(show ObjOk X.prog X.w H s.heap p (.tup [.ty "tuple",.ty "list"]) from I.hok p _ hp)
 obtain⟨c,dd,dt,sl⟩:=ob
 dsimp only at hc hd
 subst hc hd
 obtain⟨_,_,rfl,e1,e2⟩:=yfX rt
 cases (show _=Value.type "tuple" from e1)
 cases (show _=Value.type "list" from e2)
 have fin:∀ tk,EP X pins σ Q (.bool (decide (k=.tup)||decide (k=.lst))) { s with toks:=tk }:=λtk=>⟨.bl _,H,I.tok tk,rfl,q⟩
 have e:=yoo (K:=X.K) k
 cases hk with
 | non=>cases (show u=Value.none from rx);exact PySem.W.kia_tup PySem.W.kitx_none I.kIn True.intro hob e (λz=>nomatch z) fin
 | bl b=>cases (show u=Value.bool b from rx);exact PySem.W.kia_tup PySem.W.kitx_bool I.kIn True.intro hob e (λz=>nomatch z) fin
 | int i=>obtain⟨t,q'⟩:=(show ∃ t,u=Value.int i t from rx);cases q';exact PySem.W.kia_tup PySem.W.kitx_int I.kIn True.intro hob e (λz=>nomatch z) fin
 | str y=>obtain⟨t,q'⟩:=(show ∃ t,u=Value.str y t from rx);cases q';exact PySem.W.kia_tup PySem.W.kitx_str I.kIn True.intro hob e (λz=>nomatch z) fin
 | @lst a xs ea =>
  cases (show u=Value.ref a from rx)
  obtain⟨_,_,n',_,h1⟩:=(show ObjOk X.prog X.w H s.heap a (.lst xs) from I.hok a _ ea)
  exact PySem.W.kia_tup PySem.W.kitx_list I.kIn ⟨_,h1,rfl⟩ hob e (λz=>nomatch z) fin
 | @tup a xs ea =>
  cases (show u=Value.ref a from rx)
  obtain⟨_,_,_,o,h1,h2,_⟩:=(show ObjOk X.prog X.w H s.heap a (.tup xs) from I.hok a _ ea)
  exact PySem.W.kia_tup PySem.W.kitx_tuple I.kIn ⟨_,h1,h2⟩ hob e (λz=>nomatch z) fin
 | dct ea=>exact absurd rfl nd
theorem Inv.tupBut {pins:List (Addr×Obj)}{σ:St}{H:Hp}{s:Shared}{ch:List Addr}{vs:List V}{its:List Value}{h':Heap}{t':Nat}(I:Inv X pins σ H s)(hf:∀ b∈ch,yfT X pins H b)
  (kp:∀ b o,b∉ch->s.heap.get? b=some o->h'.get? b=some o) (z:vs.length<=sizeLine) (r:Vals vs its) (g:IsTup h' s.heap.objs.size its.toArray):Inv X pins σ (upd H s.heap.objs.size (.tup vs)) { s with heap:=h',toks:=t' }:=by
 have fr:H s.heap.objs.size=none:=I.hok.fresh (qR _)
 have new:∀ {b:Addr} {o:Obj},s.heap.get? b=some o->b≠s.heap.objs.size:=λh=>Nat.ne_of_lt (Heap.lt_size h)
 have old:∀ {b:Addr} {u:HO},H b=some u->upd H s.heap.objs.size (.tup vs) b=some u:=λh=>by rw[yas (yak h fr)];exact h
 have off:∀ b u,H b=some u->b∉ch:=λb u h m=>by rw[(hf b m).1] at h;cases h
 refine I.step (g':=s.gens) (d':=s.drawn) (ch:=ch) (λb hb=>⟨(hf b hb).2.2.2.1,(hf b hb).2.1,(hf b hb).2.2.2.2⟩) (λb o _ _ n e _=>kp b o n e) (λb o _ _ n e _=>⟨o.slots,kp b o n e⟩) (λb o _ e n=>by rw[yas (new e)];exact n)
  (λb o n e=>⟨o,kp b o n e⟩) (λ_ _ h=>old h) (λ_ _ _ h=>old h) (λ_ ps h=>⟨#[],by rw[old h];simp⟩) (λm hm=>?_) (λb u h=>?_) I.bare
 ·exact hm.at λo e=>kp _ o (λn=>(hf _ n).2.1 rfl) e
 ·by_cases hb:b=s.heap.objs.size
  ·subst hb
   rw[yac] at h
   cases h
   exact⟨z,its,r,g⟩
  ·rw[yas hb] at h
   refine(I.hok b u h).stay (λc v hc q=>kp c v ?_ q) (λ_ h=>old h) λ_ _ h=>old h
   exact hc.elim (λe=>e▸off b u h) λe=>off c _ e
noncomputable def Itz (K:qF)(a b:Addr):It :=
 ⟨λi H=>∃ xs ys x y,SqL K H a xs/\SqL K H b ys/\xs[i]?=some x/\ys[i]?=some y,λi H x H'=>∃ p v u,x=.ref p/\H p=none/\H'=upd H p (.tup [v,u])/\∀ xs ys,SqL K H a xs->SqL K H b ys->xs[i]?=some v/\ys[i]?=some u,
  λi H=>∃ xs ys,SqL K H a xs/\SqL K H b ys/\(xs.length<=i∨ys.length<=i)⟩
structure ypA (z TI TO i1 i2:Addr):Prop where
 a1:TI≠z
 a2:TO≠z
 a3:i1≠z
 a4:i2≠z
 a5:TI≠TO
 a6:TI≠i1
 a7:TI≠i2
 a8:TO≠i1
 a9:TO≠i2
 a0:i1≠i2
noncomputable def yqi (z TI TO i1 i2 a b:Addr)(i:Nat)(h:Heap):Prop:=IsZip h z TI TO .none/\IsPair h TI (.ref i1) (.ref i2)/\(∃ u v,IsPair h TO u v)/\h.IsListIter i1 a i/\h.IsListIter i2 b i
theorem ybs {h:Heap}{a b:Addr}{o p:Obj}(ga:h.get? a=some o)(gb:h.get? b=some p)(n:o.cls≠p.cls):a≠b:=λe=>n (by rw[e] at ga;rw[Option.some.inj (ga.symm.trans gb)])
theorem ygg {h:Heap}{z TI TO i1 i2 a b:Addr}{i:Nat}{xs ys:Array Value}(F:ypA z TI TO i1 i2)(st:yqi z TI TO i1 i2 a b i h)(ha:h.IsList a xs)(hb:h.IsList b ys):ZipApart z TI TO i1 i2 a b:=by
 obtain⟨s1,s2,⟨u,v,s3⟩,⟨o4,s4,c4,_⟩,⟨o5,s5,c5,_⟩⟩:=st
 obtain⟨oa,ga,ca,_⟩:=ha
 obtain⟨ob,gb,cb,_⟩:=hb
 exact⟨F.a1,F.a2,F.a3,F.a4,F.a5,F.a6,F.a7,F.a8,F.a9,F.a0,ybs ga s1 (by rw[ca];show Value.type "list" ≠ .type "zip";decide),ybs ga s3 (by rw[ca];show Value.type "list" ≠ .type "tuple";decide),ybs ga s4 (by rw[ca,c4];decide),ybs ga s5 (by rw[ca,c5];decide),
  ybs gb s1 (by rw[cb];show Value.type "list" ≠ .type "zip";decide),ybs gb s3 (by rw[cb];show Value.type "list" ≠ .type "tuple";decide),ybs gb s4 (by rw[cb,c4];decide),ybs gb s5 (by rw[cb,c5];decide)⟩
theorem yiu {P:Program}{w:World}{K:qF}{elts:List Expr}{x1}{tp:Pos}{z TI TO i1 i2 a b:Addr}(F:ypA z TI TO i1 i2):ylQ P w K (.Tuple elts x1 tp) (Itz K a b) [z,TI,TO,i1,i2] z (yqi z TI TO i1 i2 a b) where
 mem:=by simp
 obj:=λi h st c hc=>by
  obtain⟨s1,s2,⟨u,v,s3⟩,⟨o4,s4,_,d4⟩,⟨o5,s5,_,d5⟩⟩:=st
  simp only[List.mem_cons,qk,or_false] at hc
  rcases hc with rfl | rfl | rfl | rfl | rfl
  ·exact⟨_,s1,λv=>nofun⟩
  ·exact⟨_,s2,λv=>nofun⟩
  ·exact⟨_,s3,λv=>nofun⟩
  ·exact⟨_,s4,λv e=>by rw[d4] at e;cases e⟩
  ·exact⟨_,s5,λv e=>by rw[d5] at e;cases e⟩
 keep:=λi h h' st k=>by
  obtain⟨s1,s2,⟨u,v,s3⟩,s4,s5⟩:=st
  exact⟨k _ (by simp) _ s1,k _ (by simp) _ s2,⟨u,v,k _ (by simp) _ s3⟩,s4.at λo e=>k _ (by simp) o e,s5.at λo e=>k _ (by simp) o e⟩
 item:=by
  intro X hP hw hK hc i pins s σ H E I hf st hg
  subst hP hw hK
  obtain⟨xs,ys,x,y,hx,hy,ex,ey⟩:=hg
  obtain⟨itx,rx,px,_⟩:=I.list hx
  obtain⟨ity,ry,py,_⟩:=I.list hy
  obtain⟨u,eu,ru⟩:=rx.get ex
  obtain⟨v,ev,rv⟩:=ry.get ey
  have D:=ygg F st px.isList py.isList
  obtain⟨s1,s2,⟨p,q,s3⟩,s4,s5⟩:=st
  refine wpAny_pyNext_zip_item D s1 s2 s3 s4 s5 px.isList py.isList (x:=u) (y:=v) (by simpa using eu) (by simpa using ev) λh1 b1 b2 b3 b4 b5 b6 kp=>?_
  refine⟨_,rfl,wpAny_letOwnedTupleGo_zip b1 λh2 c1 sb=>?_⟩
  have sb:Heap.SameBut z h1 h2:=sb
  have zl:s.heap.objs.size≠z:=Nat.ne_of_gt (Heap.lt_size s1)
  have fr:H s.heap.objs.size=none:=I.hok.fresh (qR _)
  have k2:∀ c o,c∉[z,TI,TO,i1,i2]->s.heap.get? c=some o->h2.get? c=some o:=λc o n e=>by
   simp only[List.mem_cons,qk,or_false,not_or] at n
   exact(sb.2 c n.1).trans (kp c o n.1 n.2.2.1 n.2.2.2.1 n.2.2.2.2 e)
  have T2:IsPair h2 TI (.ref i1) (.ref i2):=(sb.2 _ F.a1).trans (kp _ _ F.a1 F.a5 F.a6 F.a7 s2)
  refine⟨.ref s.heap.objs.size,_,I.tupBut (t':=s.toks) hf k2 (vs:=[x,y]) (its:=[u,v]) (by show 2<=sizeLine;decide) (.cons ru (.cons rv .nil)) ⟨_,(sb.2 _ zl).trans b5,rfl,_,rfl⟩,rfl,⟨_,x,y,rfl,fr,rfl,λxs' ys' hx' hy'=>by rw[I.list_inj hx' hx,I.list_inj hy' hy];exact⟨ex,ey⟩⟩,
   ⟨c1,T2,⟨_,_,(sb.2 _ F.a2).trans b2⟩,b3.extBut sb.extBut F.a3,b4.extBut sb.extBut F.a4⟩,λc hcm=>?_⟩
  have nb:c≠s.heap.objs.size:=by
   obtain⟨o4,g4,_⟩:=s4
   obtain⟨o5,g5,_⟩:=s5
   simp only[List.mem_cons,qk,or_false] at hcm
   rcases hcm with rfl | rfl | rfl | rfl | rfl
   ·exact zl.symm
   ·exact Nat.ne_of_lt (Heap.lt_size s2)
   ·exact Nat.ne_of_lt (Heap.lt_size s3)
   ·exact Nat.ne_of_lt (Heap.lt_size g4)
   ·exact Nat.ne_of_lt (Heap.lt_size g5)
  rw[yas nb]
  exact(hf c hcm).1
 done:=by
  intro X hP hw hK hc i pins s σ H E I hf st hg
  subst hP hw hK
  obtain⟨xs,ys,hx,hy,he⟩:=hg
  obtain⟨itx,rx,px,_⟩:=I.list hx
  obtain⟨ity,ry,py,_⟩:=I.list hy
  have D:=ygg F st px.isList py.isList
  obtain⟨s1,s2,⟨p,q,s3⟩,s4,s5⟩:=st
  have l1:=rx.length
  have l2:=ry.length
  refine wpAny_pyNext_zip_end (I.ok.hd hc) D s1 s2 s3 s4 s5 px.isList py.isList (he.imp (λh=>by simp;omega) λh=>by simp;omega) λh1 kp=>⟨rfl,?_⟩
  have off:∀ b u,H b=some u->b∉[z,TI,TO,i1,i2]:=λb u h m=>by rw[(hf b m).1] at h;cases h
  have k2:∀ c o,c∉[z,TI,TO,i1,i2]->s.heap.get? c=some o->h1.get? c=some o:=λc o n e=>by
   simp only[List.mem_cons,qk,or_false,not_or] at n
   exact kp c o n.1 n.2.2.1 n.2.2.2.1 n.2.2.2.2 e
  exact I.step (g':=s.gens) (d':=s.drawn) (t':=s.toks) (ch:=[z,TI,TO,i1,i2]) (λb hb=>⟨(hf b hb).2.2.2.1,(hf b hb).2.1,(hf b hb).2.2.2.2⟩) (λb o _ _ n e _=>k2 b o n e) (λb o _ _ n e _=>⟨o.slots,k2 b o n e⟩) (λ_ _ _ _ n=>n)
   (λb o n e=>⟨o,k2 b o n e⟩) (λ_ _ h=>h) (λ_ _ _ h=>h) (λ_ ps h=>⟨#[],by rw[h];simp⟩) (λm hm=>hm.at λo e=>k2 _ o (λn=>(hf _ n).2.1 rfl) e) (λb u h=>(I.hok b u h).stay (λc v hc q=>k2 c v (hc.elim (λe=>e▸off b u h) λe=>off c _ e) q) (λ_ h=>h) λ_ _ h=>h) I.bare
 self:=λ_ _ _ _ _ st h=>wpAny_pyIter_zip st.1 h
theorem yfP:bootBuiltins "zip"=some (.type "zip"):=by decide +kernel
noncomputable def yuU (K:qF)(ta:TA):TI:=fun σ H R=>ta σ H λvs H1=>∃ a b,vs=[.ref a,.ref b]/\(∃ xs,SqL K H1 a xs)/\(∃ ys,SqL K H1 b ys)/\R (Itz K a b) H1
theorem yso {elts:List Expr}{x1}{tp:Pos}{a b:Expr}{ta:TA}{p pos:Pos}(hg:Gl X "zip")(hm:X.mg "zip"=none)(ha:PA X [a,b] ta)(hs:starEach [a,b] X.env=[(false,eval a X.env),(false,eval b X.env)]:=by rfl)(hs2:starEach [b] X.env=[(false,eval b X.env)]:=by rfl) :
  PI X (.Tuple elts x1 tp) (.Call (.Name "zip" p) [a,b] [] pos) (yuU X.K ta):=by
 intro pins s σ H R I h
 refine Call_ (ydH I hg hm yfP (PyProof.Rows.callWith_type1 (thn (ha pos pins s σ H _ I h) λus s1 zq=>?_) (by rw[hs,hs2]) (by rw[hs2];rfl)))
 obtain⟨vs,H1,I1,r1,q1⟩:=zq
 obtain⟨la,lb,e,⟨xs,hx⟩,⟨ys,hy⟩,q⟩:=q1
 subst e
 obtain⟨u,v,rfl,ru,rv⟩:=yfX r1
 cases ru
 cases rv
 obtain⟨itx,rx,px,_⟩:=I1.list hx
 obtain⟨ity,ry,py,_⟩:=I1.list hy
 refine call_zip_2 px.isList py.isList λh' b1 b2 b3 b4 b5 sz kp=>wpAny_pyIter_zip b1 ?_
 have lt:∀ n,yfT X pins H1 (s1.heap.objs.size+n):=λn=>I1.fpOk (Nat.le_add_right _ _) (I1.hok.fresh (Nat.le_add_right _ _))
 have ne:∀ {n m:Nat},n≠m->s1.heap.objs.size+n≠s1.heap.objs.size+m:=λh e=>h (Nat.add_left_cancel e)
 refine⟨_,[s1.heap.objs.size+4,s1.heap.objs.size+2,s1.heap.objs.size+3,s1.heap.objs.size+0,s1.heap.objs.size+1],_,_,H1,rfl,I1.kept (t':=s1.toks) kp,yiu ⟨ne (by decide),ne (by decide),ne (by decide),ne (by decide),ne (by decide),ne (by decide),ne (by decide),ne (by decide),ne (by decide),ne (by decide)⟩,⟨b1,b2,⟨_,_,b3⟩,b4,b5⟩,λc hc=>?_,q⟩
 simp only[List.mem_cons,qk,or_false] at hc
 rcases hc with rfl | rfl | rfl | rfl | rfl<;>exact lt _
theorem yhV {K:qF}{a b D:Addr}{xs ys:List V}{g:TG}{tc:TT}{te:TE}{Fin:Hp->Prop}{σ:St}{H:Hp}(Pv:Nat->St->Hp->Prop)(h0:Pv 0 σ H)(hl:∀ i σ H,Pv i σ H->SqL K H a xs/\SqL K H b ys)
  (hs:∀ i x y σ H p,xs[i]?=some x->ys[i]?=some y->Pv i σ H->H p=none->g (.ref p) σ (upd H p (.tup [x,y])) fun σ2 H2=>tc σ2 H2 λb H3=>if b=true then te σ2 H3 λy H4=>∃ ys,H4 D=some (.lst ys)/\ys.length < sizeLine/\Pv (i+1) σ2 (upd H4 D (.lst (ys++[y]))) else Pv (i+1) σ2 H3)
  (hd:∀ i σ H,i=min xs.length ys.length->Pv i σ H->Fin H):∃ W:Nat->Nat->St->Hp->Prop,(∃ m,W 0 m σ H)/\ydd (Itz K a b) g tc te D Fin W:=by
 refine⟨λi m σ H=>m=min xs.length ys.length - i/\i<=min xs.length ys.length/\Pv i σ H,⟨min xs.length ys.length,by simp,Nat.zero_le _,h0⟩,?_⟩
 rintro i m σ H ⟨rfl,hi,p⟩
 obtain⟨q1,q2⟩:=hl i σ H p
 by_cases hlt:i < min xs.length ys.length
 ·have l1:i < xs.length:=by omega
  have l2:i < ys.length:=by omega
  refine .inr ⟨⟨xs,ys,xs[i],ys[i],q1,q2,by simp[l1],by simp[l2]⟩,Pv (i+1),fun σ' H' p'=>⟨min xs.length ys.length - (i+1),by omega,rfl,hlt,p'⟩,λx H' y=>?_⟩
  obtain⟨c,v,u,e1,e2,e3,y⟩:=y
  subst e1 e3
  obtain⟨y1,y2⟩:=y xs ys q1 q2
  exact hs i v u σ H c y1 y2 p e2
 ·exact .inl ⟨⟨xs,ys,q1,q2,by omega⟩,hd i σ H (by omega) p⟩
end
def yux:Int×Int->DictEntry->Bool
 | (k,v),⟨h,.int k' _,.int v' _⟩=>decide (h=hashInt k)&&decide (k=k')&&decide (v=v')
 | _,_=>false
def yi6:List (Int×Int)->List DictEntry->Bool
 | [],[]=>true
 | q :: qs,e :: es=>yux q e&&yi6 qs es
 | _,_=>false
structure DctIn (K:qF) (a:Addr) (qs:List (Int×Int)):Prop where
 ne:(a==sysModules)=false
 nd:(qs.map (·.1)).Nodup
 at':∃ (es:Array DictEntry) (ep:Nat),K.lookup a=some ⟨.type "dict",none,.dict es ep,#[]⟩/\yi6 qs es.toList=true
theorem ymY {K:qF}{a:Addr}{qs:List (Int×Int)}{es:List DictEntry}{ep:Nat}(l:K.lookup a=some ⟨.type "dict",none,.dict es.toArray ep,#[]⟩)(v:yi6 qs es=true)(hd:(a==sysModules)=false)(nd:(qs.map (·.1)).Nodup):DctIn K a qs :=
 ⟨hd,nd,es.toArray,ep,l,by simpa using v⟩
theorem ynj {q:Int×Int}{e:DictEntry}(h:yux q e=true):∃ t t',e=⟨hashInt q.1,.int q.1 t,.int q.2 t'⟩:=by
 obtain⟨k,v⟩:=q
 obtain⟨hh,kk,vv⟩:=e
 cases kk<;>cases vv<;>simp[yux] at h
 obtain⟨⟨h1,h2⟩,h3⟩:=h
 subst h1 h2 h3
 exact⟨_,_,rfl⟩
theorem ygv {prog:Program}{w:World}:∀ {qs:List (Int×Int)} {es:List DictEntry},yi6 qs es=true ->
  ∃ vs:List (Int×Value),vs.map (·.1)=qs.map (·.1)/\Pairs (intKind prog w) es vs/\(∀ e∈es,∃ k,(intKind prog w).is k e.key=true/\e.hash=(intKind prog w).hash k) /\
   ∀ i:Nat,∀ k v,qs[i]?=some (k,v)->∃ t,vs[i]?=some (k,.int v t)
 | [],[],_=>⟨[],rfl,.nil,λe h=>(nomatch h),λi k v h=>by simp at h⟩
 | q :: qs,e :: es,h=>by
  rw[yi6,Bool.and_eq_true] at h
  obtain⟨t,t',rfl⟩:=ynj h.1
  obtain⟨vs,h1,h2,h3,h4⟩:=ygv (prog:=prog) (w:=w) h.2
  have hi:(intKind prog w).is q.1 (.int q.1 t)=true:=by simp[intKind,Value.isInt]
  refine⟨(q.1,.int q.2 t') :: vs,by simp[h1],.cons hi rfl h2,λe he=>?_,λi k v hx=>?_⟩
  ·rcases List.mem_cons.mp he with rfl | he
   ·exact⟨q.1,hi,rfl⟩
   ·exact h3 e he
  ·cases i with
   | zero =>
    rw[List.getElem?_cons_zero] at hx ⊢
    cases hx
    exact⟨t',rfl⟩
   | succ i =>
    rw[List.getElem?_cons_succ] at hx ⊢
    exact h4 i k v hx
 | [],_ :: _,h=>by cases h
 | _ :: _,[],h=>by cases h
theorem DctIn.dict {K:qF}{a:Addr}{qs:List (Int×Int)}{prog:Program}{w:World}{h:Heap}(d:DctIn K a qs)(X:K.In h) :
  ∃ vs ep,h.DictAt (intKind prog w) a vs ep/\vs.map (·.1)=qs.map (·.1)/\∀ i:Nat,∀ k v,qs[i]?=some (k,v)->∃ t,vs[i]?=some (k,.int v t):=by
 obtain⟨es,ep,l,b⟩:=d.at'
 obtain⟨vs,h1,h2,h3,h4⟩:=ygv (prog:=prog) (w:=w) b
 exact⟨vs,ep,⟨_,es,X a _ l,⟨rfl,rfl,rfl⟩,rfl,λe he=>h3 e (by simpa using he),h2,by rw[h1];exact d.nd⟩,h1,h4⟩
noncomputable def dLk (qs:List (Int×Int))(k:Int):Option Int:=(qs.find? λq=>decide (q.1=k)).map (·.2)
theorem ykM {qs:List (Int×Int)}:∀ {vs:List (Int×Value)},vs.map (·.1)=qs.map (·.1)->(∀ i:Nat,∀ k v,qs[i]?=some (k,v)->∃ t,vs[i]?=some (k,.int v t)) ->
  ∀ k,(valueAt vs k=none/\dLk qs k=none)∨∃ v t,dLk qs k=some v/\valueAt vs k=some (.int v t):=by
 induction qs with
 | nil =>
  intro vs e _ k
  cases vs with
  | nil=>exact .inl ⟨rfl,rfl⟩
  | cons a r=>simp at e
 | cons q qs ih =>
  intro vs e hg k
  cases vs with
  | nil=>simp at e
  | cons p vs =>
   obtain⟨t,ht⟩:=hg 0 q.1 q.2 rfl
   rw[List.getElem?_cons_zero] at ht
   cases ht
   have e2:vs.map (·.1)=qs.map (·.1):=by simpa using e
   have:=ih e2 (λi k v hx=>by have:=hg (i+1) k v (by rw[List.getElem?_cons_succ];exact hx);rwa [List.getElem?_cons_succ] at this) k
   unfold valueAt dLk at this ⊢
   rw[List.find?_cons,List.find?_cons]
   by_cases c:q.1=k
   ·exact .inr ⟨q.2,t,by simp[c],by simp[c]⟩
   ·simp only[c,decide_false]
    exact this
section
variable {X:Cx}
def yuO (K:qF)(neg:Bool):R2:=λx y H Q=>∃ i p qs,x=.int i/\y=.ref p/\DctIn K p qs/\Q (.bl (if neg=true then !(dLk qs i).isSome else (dLk qs i).isSome)) H
theorem yg4:OpR X (compareOp .NotIn) (yuO X.K true):=by
 intro pins s σ H x y v u Q I rx ry h
 obtain⟨i,p,qs,rfl,rfl,d,q⟩:=h
 obtain⟨t,rfl⟩:=rx
 cases ry
 obtain⟨vs,ep,da,e1,e2⟩:=d.dict (prog:=X.prog) (w:=X.w) I.kIn
 refine wpAny_notIn_of (knd:=intKind X.prog X.w) (k:=i) (by simp[intKind,Value.isInt]) d.ne da.dictOf.mapOf ?_
 have e:(valueAt vs i).isSome=(dLk qs i).isSome:=by
  rcases ykM e1 e2 i with ⟨a,b⟩ | ⟨v,t,a,b⟩<;>rw[a,b]<;>rfl
 rw[e]
 exact⟨.bl (!(dLk qs i).isSome),H,I.tok _,rfl,q⟩
def yuS (K:qF):R2:=λx y H Q=>∃ p qs i v,x=.ref p/\y=.int i/\DctIn K p qs/\dLk qs i=some v/\Q (.int v) H
theorem yp6:IxR X (yuS X.K):=by
 intro value slice pins s σ H x y v u Q I rx ry h hs
 obtain⟨p,qs,i,z,rfl,rfl,d,hz,q⟩:=h
 cases rx
 obtain⟨t,rfl⟩:=ry
 obtain⟨vs,ep,da,e1,e2⟩:=d.dict (prog:=X.prog) (w:=X.w) I.kIn
 obtain⟨z',t',b⟩:∃ z' t',dLk qs i=some z'/\valueAt vs i=some (.int z' t'):=by
  rcases ykM e1 e2 i with ⟨a,b⟩ | h
  ·rw[b] at hz;cases hz
  ·exact h
 have ez:z=z':=Option.some.inj (hz.symm.trans b.1)
 subst ez
 exact subscriptTail_builtinR (x:=.int z t') da.dictOf.typeIs PySem.slot_dict_getitem.lookup
  (wpAny_getItem_of (knd:=intKind X.prog X.w) (k:=i) (Q:=λr s'=>r=.int z t'/\EP X pins σ Q r s') (by simp[intKind,Value.isInt]) da.dictOf.mapOf b.2 ⟨rfl,.int z,H,I.tok _,⟨t',rfl⟩,q⟩) hs
end
section
variable {X:Cx} {pins l:List (Addr×Obj)} {σ:St} {H:Hp} {s:Shared} {A:Around} {E:Value->Shared->Prop} {a kS:Addr} {b:Bool} {vs:List Value} {kz:List Int} {e1 n:Nat} {f:Value}
end
section
variable {X:Cx} {tg:Expr}
end
section
variable {prog:Program} {w:World} {A:Around} {E:Value->Shared->Prop} {s:Shared}
end
section
variable {X:Cx} {tg:Expr}
end
theorem ygE {K:qF}{a:Addr}{xs:List V}{g:TG}{tb:TS}{D:yeZ}{σ:St}{H:Hp}(Pv:Nat->St->Hp->Prop)(h0:Pv 0 σ H)(hl:∀ i σ H,i<=xs.length->Pv i σ H->SqL K H a xs)
  (hs:∀ i x σ H (N:St->Hp->Prop),(∀ σ' H',Pv (i+1) σ' H'->N σ' H')->xs[i]?=some x->Pv i σ H->g x σ H fun σ2 H2=>tb { D with nx:=N,ct:=N,bk:=D.nx } σ2 H2) (hd:∀ σ H,Pv xs.length σ H->D.nx σ H) :
  ∃ W:Nat->Nat->St->Hp->Prop,(∃ m,W 0 m σ H)/\∀ i m σ H,W i m σ H ->
   ((Itl K a).stop i H/\D.nx σ H)∨((Itl K a).go i H/\∃ N:St->Hp->Prop,(∀ σ' H',N σ' H'->∃ m',m' < m/\W (i+1) m' σ' H')/\∀ x H',(Itl K a).yld i H x H'->g x σ H' fun σ2 H2=>tb { D with nx:=N,ct:=N,bk:=D.nx } σ2 H2) :=
 yiN Pv h0 hl (λi x σ H hx p=>hs i x σ H _ (λ_ _ z=>z) hx p) hd
theorem yc0 {lo:Int}{n:Nat}{g:TG}{tb:TS}{D:yeZ}{σ:St}{H:Hp}(Pv:Nat->St->Hp->Prop)(h0:Pv 0 σ H)
  (hs:∀ i σ H (N:St->Hp->Prop),(∀ σ' H',Pv (i+1) σ' H'->N σ' H')->i < n->Pv i σ H->g (.int (lo+i)) σ H fun σ2 H2=>tb { D with nx:=N,ct:=N,bk:=D.nx } σ2 H2) (hd:∀ σ H,Pv n σ H->D.nx σ H) :
  ∃ W:Nat->Nat->St->Hp->Prop,(∃ m,W 0 m σ H)/\∀ i m σ H,W i m σ H ->
   ((Itr lo n).stop i H/\D.nx σ H)∨((Itr lo n).go i H/\∃ N:St->Hp->Prop,(∀ σ' H',N σ' H'->∃ m',m' < m/\W (i+1) m' σ' H')/\∀ x H',(Itr lo n).yld i H x H'->g x σ H' fun σ2 H2=>tb { D with nx:=N,ct:=N,bk:=D.nx } σ2 H2) :=
 yg2 Pv h0 (λi σ H hx p=>hs i σ H _ (λ_ _ z=>z) hx p) hd
theorem ye2 {K:qF}{a D:Addr}{xs:List V}{g:TG}{tc:TT}{te:TE}{Fin:Hp->Prop}{σ:St}{H:Hp}(Pv:Nat->St->Hp->Prop)(h0:Pv 0 σ H)(hl:∀ i σ H,i<=xs.length->Pv i σ H->SqL K H a xs)
  (hs:∀ i x σ H (N:St->Hp->Prop),(∀ σ' H',Pv (i+1) σ' H'->N σ' H')->xs[i]?=some x->Pv i σ H->g x σ H fun σ2 H2=>tc σ2 H2 λb H3=>if b=true then te σ2 H3 λy H4=>∃ ys,H4 D=some (.lst ys)/\ys.length < sizeLine/\N σ2 (upd H4 D (.lst (ys++[y]))) else N σ2 H3)
  (hd:∀ σ H,Pv xs.length σ H->Fin H):∃ W:Nat->Nat->St->Hp->Prop,(∃ m,W 0 m σ H)/\ydd (Itl K a) g tc te D Fin W :=
 ygS Pv h0 hl (λi x σ H hx p=>hs i x σ H _ (λ_ _ z=>z) hx p) hd
section
variable {X:Cx}
end
section
variable {κ:Type} [DecidableEq κ]
def yfs (kvs:List (κ×V))(k:κ):Option V:=(kvs.find? λkv=>decide (kv.1=k)).map (·.2)
def ydY (kvs:List (κ×V))(k:κ)(v:V):List (κ×V) :=
 if (kvs.any λkv=>decide (kv.1=k))=true then kvs.map (λkv=>if kv.1=k then (kv.1,v) else kv) else kvs++[(k,v)]
def ysz (kvs:List (κ×V))(k:κ):List (κ×V):=kvs.filter λkv=>decide (kv.1≠k)
theorem yd0 {p:κ×V}{r:List (κ×V)}{k:κ}(e:p.1=k):yfs (p :: r) k=some p.2:=by simp[yfs,List.find?_cons,e]
theorem ydV {p:κ×V}{r:List (κ×V)}{k:κ}(e:¬ p.1=k):yfs (p :: r) k=yfs r k:=by simp[yfs,List.find?_cons,e]
theorem yfw (k:κ):∀ kvs:List (κ×V),(kvs.any λkv=>decide (kv.1=k))=(yfs kvs k).isSome
 | []=>rfl
 | p :: r=>by
  rw[List.any_cons]
  by_cases e:p.1=k
  ·simp only[yd0 e,decide_eq_true e,Bool.true_or,Option.isSome_some]
  ·rw[ydV e,decide_eq_false e,Bool.false_or];exact yfw k r
theorem yc9 (kvs:List (κ×V))(k:κ)(v:V):(ydY kvs k v).length<=kvs.length+1:=by
 unfold ydY
 split
 ·rw[qM];omega
 ·rw[qA,qC,List.length_nil];omega
theorem yl4 {kvs:List (κ×V)}{k:κ}(v:V)(h:yfs kvs k=none):ydY kvs k v=kvs++[(k,v)]:=by
 unfold ydY
 rw[yfw,h]
 exact if_neg (by decide)
theorem RelO.isSome_eq {o:Option V}{u:Option Value}(r:RelO o u):o.isSome=u.isSome:=by
 cases o with
 | none=>cases u with
  | none=>rfl
  | some _=>exact(show False from r).elim
 | some _=>cases u with
  | none=>exact(show False from r).elim
  | some _=>rfl
theorem RelO.getD {o:Option V}{u:Option Value}{d:V}{d':Value}(r:RelO o u)(rd:RelV d d'):RelV (o.getD d) (u.getD d'):=by
 cases o with
 | none=>cases u with
  | none=>exact rd
  | some _=>exact(show False from r).elim
 | some _=>cases u with
  | none=>exact(show False from r).elim
  | some _=>exact r
theorem KV.val {kvs:List (κ×V)}{vs:List (κ×Value)}(r:KV kvs vs)(k:κ):RelO (yfs kvs k) (valueAt vs k):=by
 unfold KV at r
 induction r with
 | nil=>exact True.intro
 | @cons p q ps qs h t ih =>
  obtain⟨h1,h2⟩:=h
  by_cases e:p.1=k
  ·have e':q.1=k:=h1.symm.trans e
   have b:valueAt (q :: qs) k=some q.2:=by simp[valueAt,List.find?_cons,e']
   rw[yd0 e,b];exact h2
  ·have e':¬ q.1=k:=λz=>e (h1.trans z)
   have b:valueAt (q :: qs) k=valueAt qs k:=by simp[valueAt,List.find?_cons,e']
   rw[ydV e,b];exact ih
theorem KV.any {kvs:List (κ×V)}{vs:List (κ×Value)}(r:KV kvs vs)(k:κ):(kvs.any λkv=>decide (kv.1=k))=vs.any λkv=>decide (kv.1=k):=by
 unfold KV at r
 induction r with
 | nil=>rfl
 | cons h t ih=>rw[List.any_cons,List.any_cons,ih,h.1]
theorem KV.repl {kvs:List (κ×V)}{vs:List (κ×Value)}(r:KV kvs vs)(k:κ){y:V}{u:Value}(ry:RelV y u) :
  KV (kvs.map λkv=>if kv.1=k then (kv.1,y) else kv) (vs.map λkv=>if kv.1=k then (kv.1,u) else kv):=by
 unfold KV at r ⊢
 induction r with
 | nil=>exact .nil
 | @cons p q ps qs h t ih =>
  rw[List.map_cons,List.map_cons]
  refine .cons ?_ ih
  obtain⟨h1,h2⟩:=h
  by_cases e:p.1=k
  ·rw[if_pos e,if_pos (h1.symm.trans e)];exact⟨h1,ry⟩
  ·rw[if_neg e,if_neg (λz=>e (h1.trans z))];exact⟨h1,h2⟩
theorem KV.put {kvs:List (κ×V)}{vs:List (κ×Value)}(r:KV kvs vs)(k:κ){y:V}{u:Value}(ry:RelV y u):KV (ydY kvs k y) (stored vs k u):=by
 unfold ydY stored
 rw[r.any k]
 by_cases e:(vs.any λkv=>decide (kv.1=k))=true
 ·rw[if_pos e,if_pos e];exact r.repl k ry
 ·rw[if_neg e,if_neg e];exact Paired.snoc r ⟨rfl,ry⟩
theorem KV.drop {kvs:List (κ×V)}{vs:List (κ×Value)}(r:KV kvs vs)(k:κ):KV (ysz kvs k) (without vs k):=by
 unfold KV at r ⊢
 unfold ysz without
 induction r with
 | nil=>exact .nil
 | @cons p q ps qs h t ih =>
  obtain⟨h1,h2⟩:=h
  rw[List.filter_cons,List.filter_cons]
  by_cases e:p.1=k
  ·have a:¬ decide (p.1≠k)=true:=by simp[e]
   have b:¬ decide (q.1≠k)=true:=by simp[h1.symm.trans e]
   rw[if_neg a,if_neg b];exact ih
  ·have e':¬ q.1=k:=λz=>e (h1.trans z)
   have a:decide (p.1≠k)=true:=by simp[e]
   have b:decide (q.1≠k)=true:=by simp[e']
   rw[if_pos a,if_pos b];exact .cons ⟨h1,h2⟩ ih
theorem KV.keys {kvs:List (κ×V)}{vs:List (κ×Value)}(r:KV kvs vs):kvs.map (·.1)=vs.map (·.1):=by
 unfold KV at r
 induction r with
 | nil=>rfl
 | cons h t ih=>rw[List.map_cons,List.map_cons,ih,h.1]
theorem KV.length {kvs:List (κ×V)}{vs:List (κ×Value)}(r:KV kvs vs):kvs.length=vs.length:=Paired.length r
end
theorem yi8 {P:Program}{w:World}{k:Key}{u:Value}(r:RelV (kV k) u):(ya7 P w).is k u=true:=by
 cases k with
 | inl i=>obtain⟨t,e⟩:=(show ∃ t,u=Value.int i t from r);subst e;exact yhS P w i t
 | inr x=>obtain⟨t,e⟩:=(show ∃ t,u=Value.str x t from r);subst e;exact yhG P w x t
theorem yhf {P:Program}{w:World}:∀ {ks:List Key} {us:List Value},Vals (ks.map kV) us->ItemsAre (ya7 P w) ks us
 | [],_,r=>by rw[List.map_nil] at r;cases r;exact .nil
 | k :: ks,_,r=>by
  rw[List.map_cons] at r
  cases r with
  | cons h t=>exact .cons (yi8 h) (yhf t)
abbrev KT (H:Hp):List (List Key×V)->List (List Key×Addr×Value)->Prop:=Paired λp q=>p.1=q.1/\H q.2.1=some (.tup (p.1.map kV))/\RelV p.2 q.2.2
theorem KT.val {H:Hp}{kvs:List (List Key×V)}{xs:List (List Key×Addr×Value)}(r:KT H kvs xs)(k:List Key):RelO (yfs kvs k) ((atKey xs k).map (·.2)):=by
 induction r with
 | nil=>exact True.intro
 | @cons p q ps qs h t ih =>
  obtain⟨h1,_,h2⟩:=h
  by_cases e:p.1=k
  ·have e':q.1=k:=h1.symm.trans e
   have b:atKey (q :: qs) k=some q.2:=by simp[atKey,List.find?_cons,e']
   rw[yd0 e,b];exact h2
  ·have e':¬ q.1=k:=λz=>e (h1.trans z)
   have b:atKey (q :: qs) k=atKey qs k:=by simp[atKey,List.find?_cons,e']
   rw[ydV e,b];exact ih
theorem KT.repl {H:Hp}{kvs:List (List Key×V)}{xs:List (List Key×Addr×Value)}(r:KT H kvs xs)(k:List Key){y:V}{u:Value}(ry:RelV y u) :
  KT H (kvs.map λkv=>if kv.1=k then (kv.1,y) else kv) (xs.map (putAt k u)):=by
 induction r with
 | nil=>exact .nil
 | @cons p q ps qs h t ih =>
  rw[List.map_cons,List.map_cons]
  refine .cons ?_ ih
  obtain⟨h1,h2,h3⟩:=h
  unfold putAt
  by_cases e:p.1=k
  ·rw[if_pos e,if_pos (h1.symm.trans e)];exact⟨h1,h2,ry⟩
  ·rw[if_neg e,if_neg (λz=>e (h1.trans z))];exact⟨h1,h2,h3⟩
theorem KT.put {H:Hp}{kvs:List (List Key×V)}{xs:List (List Key×Addr×Value)}(r:KT H kvs xs)(k:List Key){b:Addr}{y:V}{u:Value}(hb:H b=some (.tup (k.map kV)))(ry:RelV y u) :
  KT H (ydY kvs k y) (storedH xs k b u):=by
 have e:(kvs.any λkv=>decide (kv.1=k))=(atKey xs k).isSome:=by
  rw[yfw,(r.val k).isSome_eq,Option.isSome_map]
 unfold ydY storedH
 rw[e]
 by_cases q:(atKey xs k).isSome=true
 ·rw[if_pos q,if_pos q];exact r.repl k ry
 ·rw[if_neg q,if_neg q];exact Paired.snoc r ⟨rfl,hb,ry⟩
theorem KT.keeps {H H':Hp}{kvs:List (List Key×V)}{xs:List (List Key×Addr×Value)}(r:KT H kvs xs)(ht:∀ b ys,H b=some (.tup ys)->H' b=some (.tup ys)):KT H' kvs xs :=
 Paired.mapP r λ_ _ z=>⟨z.1,ht _ _ z.2.1,z.2.2⟩
section
variable {P:Program} {w:World} {H:Hp} {h:Heap} {a:Addr}
theorem yrK {u:HO}(ok:HOk P w H h)(e:Rd H a u):ObjOk P w H h a u:=e.ok ok
theorem yiR {kvs:List (Key×V)}(ok:HOk P w H h)(e:Rd H a (.dK kvs)):kvs.length<=sizeLine/\(a==sysModules)=false/\∃ vs,KV kvs vs/\h.DictOf (ya7 P w) a vs :=
 show ObjOk P w H h a (.dK kvs) from yrK ok e
theorem yli {kvs:List (Key×V)}(ok:HOk P w H h)(e:H a=some (.dK kvs)):kvs.length<=sizeLine/\(a==sysModules)=false/\∃ vs,KV kvs vs/\h.DictOf (ya7 P w) a vs:=yiR ok (.inl e)
theorem yhi {ks:List Key}(ok:HOk P w H h)(e:H a=some (.tup (ks.map kV))):(tupleKind (ya7 P w)).is h ks a:=by
 obtain⟨_,its,r,o,h1,h2,n,h3⟩:=(show ObjOk P w H h a (.tup (ks.map kV)) from ok a _ e)
 exact⟨o,its.toArray,n,h1,h2,h3,by simpa using yhf r⟩
theorem yjk {kvs:List (List Key×V)}(ok:HOk P w H h)(e:Rd H a (.dT kvs)):kvs.length<=sizeLine/\(a==sysModules)=false /\
  ∃ xs,KT H kvs xs/\h.DictOfH (tupleKind (ya7 P w)) a xs:=by
 obtain⟨z,y,xs,r,o,es,ep,h1,h2,h3,h4,h5⟩:=(show ObjOk P w H h a (.dT kvs) from yrK ok e)
 refine⟨z,y,xs,r,o,es,ep,h1,h2,h3,h4,λx hx=>?_,h5⟩
 have all:∀ {l:List (List Key×V)} {m:List (List Key×Addr×Value)},KT H l m->∀ x∈m,(tupleKind (ya7 P w)).is h x.1 x.2.1:=by
  intro l m q
  induction q with
  | nil=>intro x hx;exact nomatch hx
  | @cons p q ps qs hq t ih =>
   intro x hx
   rcases List.mem_cons.mp hx with e | hx
   ·subst e
    exact yhi ok (by rw[← hq.1];exact hq.2.1)
   ·exact ih x hx
 exact all r x hx
theorem ytF {kvs:List (List Key×V)}(ok:HOk P w H h)(e:H a=some (.dT kvs)):kvs.length<=sizeLine/\(a==sysModules)=false /\
  ∃ xs,KT H kvs xs/\h.DictOfH (tupleKind (ya7 P w)) a xs:=yjk ok (.inl e)
end
def DGet (H:Hp)(a:Addr)(y:V)(r:Option V):Prop :=
 (∃ kvs k,Rd H a (.dK kvs)/\y=kV k/\r=yfs kvs k)∨∃ kvs k b,Rd H a (.dT kvs)/\y=.ref b/\H b=some (.tup (k.map kV))/\r=yfs kvs k
def DPut (H:Hp)(a:Addr)(y v:V)(H':Hp):Prop :=
 (∃ kvs k,H a=some (.dK kvs)/\y=kV k/\kvs.length < sizeLine/\H'=upd H a (.dK (ydY kvs k v))) ∨
 ∃ kvs k b,H a=some (.dT kvs)/\y=.ref b/\H b=some (.tup (k.map kV))/\kvs.length < sizeLine/\H'=upd H a (.dT (ydY kvs k v))
theorem DGet.k {H:Hp}{a:Addr}{kvs:List (Key×V)}{k:Key}(e:H a=some (.dK kvs)):DGet H a (kV k) (yfs kvs k):=.inl ⟨kvs,k,.inl e,rfl,rfl⟩
theorem DGet.t {H:Hp}{a b:Addr}{kvs:List (List Key×V)}{k:List Key}(e:H a=some (.dT kvs))(eb:H b=some (.tup (k.map kV))):DGet H a (.ref b) (yfs kvs k):=.inr ⟨kvs,k,b,.inl e,rfl,eb,rfl⟩
theorem DPut.k {H:Hp}{a:Addr}{kvs:List (Key×V)}{k:Key}{v:V}(e:H a=some (.dK kvs))(hl:kvs.length < sizeLine):DPut H a (kV k) v (upd H a (.dK (ydY kvs k v))):=.inl ⟨kvs,k,e,rfl,hl,rfl⟩
theorem DPut.t {H:Hp}{a b:Addr}{kvs:List (List Key×V)}{k:List Key}{v:V}(e:H a=some (.dT kvs))(eb:H b=some (.tup (k.map kV)))(hl:kvs.length < sizeLine) :
  DPut H a (.ref b) v (upd H a (.dT (ydY kvs k v))):=.inr ⟨kvs,k,b,e,rfl,eb,hl,rfl⟩
section
variable {X:Cx} {pins:List (Addr×Obj)} {σ:St} {H:Hp} {s:Shared} {a:Addr} {y v:V} {u r:Value} {o:Option V} {A:Around} {E:Value->Shared->Prop}
theorem ykd {Q:Value->Shared->Prop}(hu:A.units+1 < cLine)(I:Inv X pins σ H s)(g:DGet H a y (some v))(ry:RelV y u)(h:∀ w' s',Inv X pins σ H s'->RelV v w'->Q w' s') :
  wpAny (model X.prog X.w) A (getItem (.ref a) u) Q E s:=by
 rcases g with ⟨kvs,k,e,ey,l⟩ | ⟨kvs,k,b,e,ey,eb,l⟩
 ·subst ey
  obtain⟨z,hd,vs,rel,dd⟩:=yiR I.hok e
  obtain⟨w',hw,rw'⟩:=RelO.some_of (v:=v) (o:=valueAt vs k) (by rw[l];exact rel.val k)
  exact wpAny_getItem_of (yi8 ry) dd.mapOf hw (h w' _ (I.tok _) rw')
 ·subst ey
  cases (show u=Value.ref b from ry)
  obtain⟨z,hd,xs,rel,dd⟩:=yjk I.hok e
  obtain⟨w',hw,rw'⟩:=RelO.some_of (v:=v) (o:=(atKey xs k).map (·.2)) (by rw[l];exact rel.val k)
  obtain⟨p,hp,hp2⟩:=Option.map_eq_some_iff.mp hw
  refine wpAny_getItem_heap (tupleKind_room_in1 hu) (yhi I.hok eb) dd hp ?_
  rw[hp2]
  exact h w' _ (I.tok _) rw'
theorem yvj {Q:Value->Shared->Prop}(hu:A.units+1 < cLine)(I:Inv X pins σ H s)(g:DGet H a y o)(ry:RelV y u)(h:∀ s',Inv X pins σ H s'->Q (.bool o.isSome) s') :
  wpAny (model X.prog X.w) A (compareOp .In u (.ref a)) Q E s:=by
 rcases g with ⟨kvs,k,e,ey,l⟩ | ⟨kvs,k,b,e,ey,eb,l⟩
 ·subst ey
  obtain⟨z,hd,vs,rel,dd⟩:=yiR I.hok e
  refine wpAny_in_of (yi8 ry) hd dd.mapOf ?_
  rw[← (rel.val k).isSome_eq,← l]
  exact h _ (I.tok _)
 ·subst ey
  cases (show u=Value.ref b from ry)
  obtain⟨z,hd,xs,rel,dd⟩:=yjk I.hok e
  refine wpAny_in_heap (tupleKind_room_in1 hu) (yhi I.hok eb) hd dd ?_
  have q:=(rel.val k).isSome_eq
  rw[Option.isSome_map] at q
  rw[← q,← l]
  exact h _ (I.tok _)
theorem yfM {h':Heap}{t':Nat}{ob:HO}(I:Inv X pins σ H s)(mu:Mut (H a))(hs:Heap.SameBut a s.heap h')(he:∃ q,h'.get? a=some q)(new:ObjOk X.prog X.w (upd H a ob) h' a ob) :
  Inv X pins σ (upd H a ob) { s with heap:=h',toks:=t' } :=
 I.write (x:=a) (e:=a) mu (.inl rfl) (λb q hb z=>(hs.2 b hb).trans z) he new
theorem yjG {P:Program}{w:World}{H':Hp}{h':Heap}{kvs:List (Key×V)}{vs:List (Key×Value)}(z:kvs.length<=sizeLine)(hd:(a==sysModules)=false)(rel:KV kvs vs)(dd:h'.DictOf (ya7 P w) a vs) :
  ObjOk P w H' h' a (.dK kvs):=⟨z,hd,vs,rel,dd⟩
theorem ylv {H':Hp}{Q:Unit->Shared->Prop}(hu:A.units+1 < cLine)(I:Inv X pins σ H s)(g:DPut H a y v H')(ry:RelV y u)(rv:RelV v r)(h:∀ s',Inv X pins σ H' s'->Q () s') :
  wpAny (model X.prog X.w) A (setItem (.ref a) u r) Q E s:=by
 rcases g with ⟨kvs,k,e,ey,l,eH⟩ | ⟨kvs,k,b,e,ey,eb,l,eH⟩
 ·subst ey eH
  obtain⟨z,hd,vs,rel,dd⟩:=yli I.hok e
  have hz:vs.length<=sizeLine:=by rw[← rel.length];exact z
  have hl:(ydY kvs k v).length<=sizeLine:=by have:=yc9 kvs k v;omega
  refine wpAny_setItem_pairs (hsz:=hz) (yi8 ry) dd λh' dd' hs=>h _ ?_
  have he:∃ q,h'.get? a=some q:=let ⟨q,_,_,hq,_⟩:=dd';⟨q,hq⟩
  exact yfM I (by rw[e];exact True.intro) hs he (yjG hl hd (rel.put k rv) dd')
 ·subst ey eH
  cases (show u=Value.ref b from ry)
  obtain⟨z,hd,xs,rel,dd⟩:=ytF I.hok e
  have hz:xs.length<=sizeLine:=by rw[← Paired.length rel];exact z
  have hl:(ydY kvs k v).length<=sizeLine:=by have:=yc9 kvs k v;omega
  refine wpAny_setItem_heap (hsz:=hz) (tupleKind_room_in1 hu) (yhi I.hok eb) dd λh' dd' hs=>h _ ?_
  obtain⟨q,es,ep,hq,h2,h3,h4,_,h5⟩:=dd'
  refine yfM I (by rw[e];exact True.intro) hs ⟨q,hq⟩ ⟨hl,hd,_,(rel.put k eb rv).keeps λc ys ec=>?_,q,es,ep,hq,h2,h3,h4,h5⟩
  rw[yas (ytq ec e (λz=>nomatch z))]
  exact ec
end
section
variable {X:Cx} {pins:List (Addr×Obj)} {σ:St} {H:Hp} {s:Shared} {a:Addr} {kvs:List (Key×V)} {k:Key} {u:Value} {A:Around} {E:Value->Shared->Prop}
end
def yva (i:Expr):Prop:=∀ ov iv,subscripted i false ov iv=operate [ov,iv] (getItem ov iv)
theorem ypO {prog:Program}{w:World}{A:Around}{E:Value->Shared->Prop}{s:Shared}{env:Env}{value slice:Expr}{pos:Pos}{T id:String}{Q:Value->Shared->Prop}
  (hl:typeLookup (.type T) "__getitem__"=pure (some (.builtin id))) (hs:yva slice)
  (h:wpAny (model prog w) A (eval value env) (λo s₁=>wpAny (model prog w) A (eval slice env) (λi s₂=>s₂.TypeIs o T/\wpAny (model prog w) A (getItem o i) Q E s₂) E s₁) E s) :
  wpAny (model prog w) A (eval (.Subscript value slice pos) env) Q E s:=by
 refine Subscript_ (wpAny_mono h (λo s₁ h₁=>wpAny_mono h₁ (λi s₂ h₂=>?_) λ_ _ x=>x) λ_ _ x=>x)
 obtain⟨hT,h₂⟩:=h₂
 unfold subscriptTail
 refine wpAny_bind ?_
 rw[getitemInPython_of_ne hT.not_modules]
 refine wpAny_bind (wpAny_specialOf hT hl ?_)
 have fin:wpAny (model prog w) A (subscripted slice false o i) (λr s₃=>wpAny (model prog w) A (letTemporaryGo value o r >>= λ_=>pure r) Q E s₃) E s₂:=by
  rw[hs o i]
  exact wpAny_operating (wpAny_mono h₂ (λr s₃ h₃=>wpAny_bind (wpAny_letTemporaryGo (wpAny_pure h₃))) λ_ _ x=>x)
 first
  | exact wpAny_pure (wpAny_bind fin)
  | exact wpAny_bind (wpAny_pure (wpAny_bind fin))
  | exact wpAny_bind fin
theorem yhx {X:Cx}{pins:List (Addr×Obj)}{σ:St}{H:Hp}{s:Shared}{a:Addr}{y:V}{o:Option V}(I:Inv X pins σ H s)(g:DGet H a y o):s.TypeIs (.ref a) "dict":= by
 rcases g with ⟨kvs,k,e,_,_⟩ | ⟨kvs,k,b,e,_,_,_⟩
 ·obtain⟨_,_,vs,_,dd⟩:=yiR I.hok e
  exact dd.typeIs
 ·obtain⟨_,_,xs,_,dd⟩:=yjk I.hok e
  exact dd.typeIs
def ypm (td ty:TE):TE:=fun σ H Q=>td σ H λx H1=>ty σ H1 λy H2=>∃ a v,x=.ref a/\DGet H2 a y (some v)/\Q v H2
def ysV (ty td:TE):TE:=fun σ H Q=>ty σ H λy H1=>td σ H1 λx H2=>∃ a o,x=.ref a/\DGet H2 a y o/\Q (.bl o.isSome) H2
def ypF (td ty tv:TE):TS:=λD σ H=>tv σ H λv H1=>td σ H1 λx H2=>ty σ H2 λy H3=>∃ a H4,x=.ref a/\DPut H3 a y v H4/\D.nx σ H4
section
variable {X:Cx} {o i e value:Expr} {pos pos' tpos:Pos} {td ty tv:TE}
theorem yjV (hu:X.A.units+1 < cLine)(ho:PE X o td)(hi:PE X i ty)(hs:yva i):PE X (.Subscript o i pos) (ypm td ty):=by
 intro pins s σ H Q I h
 refine ypO PySem.F.slot_dict_getitem.lookup hs (thn (ho pins s σ H _ I h) λu s1 ⟨x,H1,I1,rx,q1⟩=>thn (hi pins s1 σ H1 _ I1 q1) λiv s2 zq=>?_)
 obtain⟨y,H2,I2,ry,a,v,ex,g,q2⟩:=zq
 subst ex
 obtain rfl:u=Value.ref a:=rx
 exact⟨yhx I2 g,ykd hu I2 g ry λw' s3 I3 rw'=>⟨v,H2,I3,rw',q2⟩⟩
theorem yqb (hu:X.A.units+1 < cLine)(hi:PE X i ty)(ho:PE X o td):PC X .In i o (ysV ty td):=by
 intro pins s σ H Q I h
 refine thn (hi pins s σ H _ I h) λiv s1 ⟨y,H1,I1,ry,q1⟩=>thn (ho pins s1 σ H1 _ I1 q1) λu s2 zq=>?_
 obtain⟨x,H2,I2,rx,a,ov,ex,g,q2⟩:=zq
 subst ex
 obtain rfl:u=Value.ref a:=rx
 exact yvj hu I2 g ry λs3 I3=>⟨.bl ov.isSome,H2,I3,rfl,q2⟩
theorem yht (hu:X.A.units+1 < cLine)(ho:PE X o td)(hi:PE X i ty)(hv:PE X value tv)(hs:swapsWith value (some (.Subscript o i pos')) pos.line X.env=pure false) :
  PS X (.Assign [.Subscript o i pos'] value pos) (ypF td ty tv):=by
 intro pins s σ H D I h
 refine wpAny_Assign_Subscript (thn (hv pins s σ H _ I h) λr s1 ⟨v,H1,I1,rv,q1⟩=>thn (ho pins s1 σ H1 _ I1 q1) λu s2 ⟨x,H2,I2,rx,q2⟩=>thn (hi pins s2 σ H2 _ I2 q2) λiv s3 zq=>?_) hs
 obtain⟨y,H3,I3,ry,a,H4,ex,g,q3⟩:=zq
 subst ex
 obtain rfl:u=Value.ref a:=rx
 exact ylv hu I3 g ry rv λs4 I4=>⟨σ,H4,I4,q3⟩
end
def ydM:List (TE×TE)->St->Hp->(List (V×V)->Hp->Prop)->Prop
 | [],_,H,Q=>Q [] H
 | (tk,tv) :: r,σ,H,Q=>tk σ H λx H1=>tv σ H1 λy H2=>ydM r σ H2 λps H3=>Q ((x,y) :: ps) H3
abbrev VV:List (V×V)->List (Value×Value)->Prop:=Paired λp q=>RelV p.1 q.1/\RelV p.2 q.2
def PPs (X:Cx)(pos:Pos)(keys:List (Option Expr))(values:List Expr)(trs:List (TE×TE)):Prop :=
 ∀ (pins:List (Addr×Obj)) (s:Shared) (σ:St) (H:Hp) (Q:List (V×V)->Hp->Prop),Inv X pins σ H s->ydM trs σ H Q ->
  wpAny (model X.prog X.w) X.A (evalPairs (pairTrees keys values X.env pos)) (λvs s'=>∃ ps H',Inv X pins σ H' s'/\VV ps vs/\Q ps H') X.xe s
theorem yfq {X:Cx}{pos:Pos}:PPs X pos [] [] []:=λpins s σ H Q I h=>pairTrees_nil_walk ⟨[],H,I,.nil,h⟩
theorem ybc {X:Cx}{pos:Pos}{k v:Expr}{ks:List (Option Expr)}{vs:List Expr}{tk tv:TE}{trs:List (TE×TE)}(hk:PE X k tk)(hv:PE X v tv)(hr:PPs X pos ks vs trs) :
  PPs X pos (some k :: ks) (v :: vs) ((tk,tv) :: trs):=λpins s σ H Q I h =>
 pairTrees_cons_walk (thn (hk pins s σ H _ I h) λu s1 ⟨x,H1,I1,rx,q1⟩=>thn (hv pins s1 σ H1 _ I1 q1) λw2 s2 ⟨y,H2,I2,ry,q2⟩ =>
  thn (hr pins s2 σ H2 _ I2 q2) λws s3 ⟨ps,H3,I3,rel,q3⟩=>⟨(x,y) :: ps,H3,I3,.cons ⟨rx,ry⟩ rel,q3⟩)
noncomputable def yb7 (kvs more:List (Key×V)):List (Key×V):=more.foldl (λacc kv=>ydY acc kv.1 kv.2) kvs
theorem KV.merge:∀ {more:List (Key×V)} {rs:List (Key×Value)} {kvs:List (Key×V)} {vs:List (Key×Value)},KV more rs->KV kvs vs->KV (yb7 kvs more) (merged vs rs):=by
 intro more rs kvs vs r
 unfold KV at r
 induction r generalizing kvs vs with
 | nil=>intro q;exact q
 | @cons p q ps qs h t ih =>
  intro r0
  have e:KV (ydY kvs p.1 p.2) (stored vs q.1 q.2):=by
   have:=r0.put p.1 h.2
   rw[← h.1];exact this
  exact ih e
theorem ycy:∀ (more kvs:List (Key×V)),(yb7 kvs more).length<=kvs.length+more.length
 | [],kvs=>by show kvs.length<=kvs.length+0;omega
 | p :: r,kvs=>by
  have h1:=ycy r (ydY kvs p.1 p.2)
  have h2:=yc9 kvs p.1 p.2
  show(yb7 (ydY kvs p.1 p.2) r).length<=_
  rw[qC];omega
theorem yeW {P:Program}{w:World}:∀ {kvs:List (Key×V)} {ws:List (Value×Value)},VV (kvs.map λkv=>(kV kv.1,kv.2)) ws->∃ rs,Carries (ya7 P w) ws rs/\KV kvs rs
 | [],_,r=>by rw[List.map_nil] at r;cases r;exact⟨[],True.intro,.nil⟩
 | p :: kvs,_,r=>by
  rw[List.map_cons] at r
  cases r with
  | @cons a b as bs h t =>
   obtain⟨rs,c,q⟩:=yeW (P:=P) (w:=w) t
   obtain⟨b1,b2⟩:=b
   exact⟨(p.1,b2) :: rs,⟨yi8 h.1,rfl,c⟩,.cons ⟨rfl,h.2⟩ q⟩
def ym7 (trs:List (TE×TE)):TE:=fun σ H Q=>∀ p,H p=none->ydM trs σ (upd H p (.dK [])) λps H2=>H2 p=some (.dK [])/\∃ kvs:List (Key×V),ps=kvs.map (λkv=>(kV kv.1,kv.2))/\kvs.length<=15/\Q (.ref p) (upd H2 p (.dK (yb7 [] kvs)))
theorem yfG {X:Cx}{pos:Pos}{keys:List (Option Expr)}{values:List Expr}{trs:List (TE×TE)}(h:PPs X pos keys values trs)(hall:keys.all (·.isSome)=true)(hl:keys.length=values.length)(h0:keys≠[])
  (h15:keys.length<=15):PE X (.Dict keys values pos) (ym7 trs):=by
 intro pins s σ H Q I q
 have hn:=I.hok.fresh (qR s.heap.objs.size)
 have I1:=I.laid (a:=s.heap.objs.size) (o:=.dK []) (h':=s.heap.push { cls:=.type "dict",data:=.dict #[] }) (t':=s.toks) (λ_ _ q=>Heap.get?_push_of_some _ q) (qR _) (yiv s.heap I.big)
 refine wpAny_Dict_walk (knd:=ya7 X.prog X.w) hall hl h0 h15 (thn (h pins _ σ _ _ I1 (q _ hn)) λws s2 zq=>?_)
 obtain⟨ps,H2,I2,rel,e,kvs,ep,lk,q2⟩:=zq
 subst ep
 obtain⟨rs,c,rk⟩:=yeW (P:=X.prog) (w:=X.w) rel
 obtain⟨z,hd,vs0,r0,dd⟩:=yli I2.hok e
 cases r0
 refine⟨rs,c,dd,λh' dd' hs=>⟨.ref s.heap.objs.size,_,?_,rfl,q2⟩⟩
 have hz:(yb7 [] kvs).length<=sizeLine:=by
  have h1:=ycy kvs []
  rw[List.length_nil] at h1
  rw[sizeLine_eq];omega
 have he:∃ q,h'.get? s.heap.objs.size=some q:=let ⟨q,_,_,hq,_⟩:=dd';⟨q,hq⟩
 exact yfM I2 (by rw[e];exact True.intro) hs he (yjG hz hd (rk.merge .nil) dd')
structure M1 (X:Cx) (o:Expr) (m:Str) (apos:Pos) (e:Expr) (cpos:Pos):Prop where
 base:attributeBase o m X.env (eval o X.env)=eval o X.env
 few:((backTo cpos (starEach [e] X.env)).all (λx=>!x.1)&&(backToKw cpos (keywordEach [] X.env)).all (λx=>x.1.isSome)
  && decide (([e]:List Expr).length+([]:List Keyword).length+(if ([]:List Keyword).isEmpty then 0 else 1) < 30))=true
 line:(apos.endLine==cpos.line)=true
 trees:backTo cpos (starEach [e] X.env)=[(false,eval e X.env)]
structure M2 (X:Cx) (o:Expr) (m:Str) (apos:Pos) (e f:Expr) (cpos:Pos):Prop where
 base:attributeBase o m X.env (eval o X.env)=eval o X.env
 few:((backTo cpos (starEach [e,f] X.env)).all (λx=>!x.1)&&(backToKw cpos (keywordEach [] X.env)).all (λx=>x.1.isSome)
  && decide (([e,f]:List Expr).length+([]:List Keyword).length+(if ([]:List Keyword).isEmpty then 0 else 1) < 30))=true
 line:(apos.endLine==cpos.line)=true
 trees:backTo cpos (starEach [e,f] X.env)=[(false,eval e X.env),(false,eval f X.env)]
def IsD (H:Hp)(a:Addr):Prop:=(∃ kvs,Rd H a (.dK kvs))∨∃ kvs,Rd H a (.dT kvs)
theorem ynC {X:Cx}{pins:List (Addr×Obj)}{σ:St}{H:Hp}{s:Shared}{a:Addr}(I:Inv X pins σ H s)(d:IsD H a) :
  s.TypeIs (.ref a) "dict" /\ (∀ b,Value.ref a=.ref b->∃ ob,s.heap.get? b=some ob/\ob.dict=none)/\(a==sysModules)=false:=by
 rcases d with ⟨kvs,e⟩ | ⟨kvs,e⟩
 ·obtain⟨_,hd,vs,_,dd⟩:=yiR I.hok e
  refine⟨dd.typeIs,λb q=>?_,hd⟩
  cases q
  obtain⟨ob,_,_,h1,h2,_⟩:=dd
  exact⟨ob,h1,h2.2.1⟩
 ·obtain⟨_,hd,xs,_,dd⟩:=yjk I.hok e
  refine⟨dd.typeIs,λb q=>?_,hd⟩
  cases q
  obtain⟨ob,_,_,h1,h2,_⟩:=dd
  exact⟨ob,h1,h2.2.1⟩
section
variable {X:Cx} {pins:List (Addr×Obj)} {σ:St} {H:Hp} {s:Shared} {a:Addr} {y d:V} {u r:Value} {o:Option V} {A:Around} {E:Value->Shared->Prop}
theorem yqf {Q:Value->Shared->Prop}(hu:A.units+1 < cLine)(I:Inv X pins σ H s)(g:DGet H a y o)(ry:RelV y u)(rd:RelV d r)(h:∀ w' s',Inv X pins σ H s'->RelV (o.getD d) w'->Q w' s') :
  wpAny (model X.prog X.w) A (call (.builtin "dict.get") [.ref a,u,r]) Q E s:=by
 rcases g with ⟨kvs,k,e,ey,l⟩ | ⟨kvs,k,b,e,ey,eb,l⟩
 ·subst ey
  obtain⟨z,hd,vs,rel,dd⟩:=yiR I.hok e
  refine call_meetsIn PySem.F.slot_dict_get dd.typeIs PySem.F.entry_dict_get (PySem.F.args_dict_get_3 _ _ _) (meets_dict_get_default (ya7 X.prog X.w) a (yi8 ry) hd r) ⟨_,dd.mapOf,h _ _ (I.tok _) ?_⟩
  rw[l]
  exact(rel.val k).getD rd
 ·subst ey
  cases (show u=Value.ref b from ry)
  obtain⟨z,hd,xs,rel,dd⟩:=yjk I.hok e
  refine call_meetsIn PySem.F.slot_dict_get dd.typeIs PySem.F.entry_dict_get (PySem.F.args_dict_get_3 _ _ _) (meetsH_dict_get_default (tupleKind (ya7 X.prog X.w)) a b hd r) ⟨tupleKind_room_in1 hu,k,xs,yhi I.hok eb,dd,h _ _ (I.tok _) ?_⟩
  rw[l]
  exact(rel.val k).getD rd
end
def yj3 (td ty tx:TE):TE:=fun σ H Q=>td σ H λx H1=>∃ a,x=.ref a/\IsD H1 a/\ty σ H1 λy H2=>tx σ H2 λz H3=>∃ o,DGet H3 a y o/\Q (o.getD z) H3
section
variable {X:Cx} {o e f:Expr} {apos cpos:Pos} {td ty tx:TE}
theorem yh6 (hu:X.A.units+1 < cLine)(ho:PE X o td)(he:PE X e ty)(hf:PE X f tx)(m:M2 X o "get" apos e f cpos):PE X (.Call (.Attribute o "get" apos) [e,f] [] cpos) (yj3 td ty tx):=by
 intro pins s σ H Q I h
 refine wpAny_Call_method m.base m.few m.line PySem.F.plainAttrs_dict PySem.F.slot_dict_get PySem.F.type_dict_get (thn (ho pins s σ H _ I h) λu s1 zq=>?_)
 obtain⟨x,H1,I1,rx,a,ex,d,q1⟩:=zq
 subst ex
 obtain rfl:u=Value.ref a:=rx
 obtain⟨t1,t2,_⟩:=ynC I1 d
 refine⟨t1,t2,?_⟩
 rw[m.trees]
 refine Calls.callWith_builtin rfl (Calls.evalArgs_plain (Calls.spliced_cons (thn (he pins s1 σ H1 _ I1 q1) λiv s2 ⟨y,H2,I2,ry,q2⟩ =>
  Calls.spliced_cons (thn (hf pins s2 σ H2 _ I2 q2) λfv s3 ⟨z,H3,I3,rz,ov,g,q3⟩=>Calls.spliced_nil ?_))))
 exact yqf hu I3 g ry rz λw' s4 I4 rw'=>⟨_,H3,I4,rw',q3⟩
end
section
variable {prog:Program} {w:World} {A:Around} {E:Value->Shared->Prop} {s:Shared}
end
set_option maxHeartbeats 200000 in
set_option maxHeartbeats 200000 in
section
variable {X:Cx}
set_option maxHeartbeats 400000 in
end
section
variable {X:Cx} {C:Addr->V->Int->Hp->Prop} {e ke:Expr} {te tk:TE} {p pos kp rp bp:Pos} {jb:Nat}
end
end L2
namespace L2
open PySem PySem.Spec PyProof.Rows PySem.SeqAt
open AutoSeq1 (wpAny_loadPart')
open MeetsSeq MeetsSeq2 MeetsSeq3
end L2
namespace L2
open PySem PySem.Spec PyProof.Rows
section
variable {prog:Program} {w:World} {A:Around} {E:Value->Shared->Prop} {s:Shared}
def yp1 (A:Around)(s:Shared)(y x:Value)(b:Bool):Prop:=∀ (prog:Program) (w:World) (E:Value->Shared->Prop) (Q:Value->Shared->Prop),Q (.bool b) s->wpAny (model prog w) A (richCompare .Lt y x) Q E s
end
section
variable {X:Cx} {pins l1 l2:List (Addr×Obj)} {σ:St} {H:Hp} {s:Shared} {h':Heap} {a:Addr} {o o':Obj}
end
structure yvh (X:Cx) (σ:St) (A:Around) (f:Value) (vs:List Value) (H:Hp) (KV:Nat->V->Hp->Prop) (lt:Nat->Nat->Bool):Prop where
 call:∀ (i:Nat) (v:Value),vs[i]?=some v->∀ (pins:List (Addr×Obj)) (H1:Hp) (s:Shared),Same H H1->Inv X pins σ H1 s ->
  wpAny (model X.prog X.w) A (PySem.call f [v]) (λr s'=>∃ k H2,Same H1 H2/\Inv X pins σ H2 s'/\RelV k r/\KV i k H2) (λ_ _=>False) s
 same:∀ i k H1 H2,KV i k H1->Same H1 H2->KV i k H2
 cmp:∀ (i j:Nat) (k k':V) (r r':Value) (pins:List (Addr×Obj)) (H1:Hp) (s:Shared),KV i k H1->KV j k' H1->RelV k r->RelV k' r'->Inv X pins σ H1 s->yp1 A s r r' (lt i j)
section
variable {X:Cx} {pins:List (Addr×Obj)} {σ:St} {H:Hp} {A:Around} {B J l q:Addr} {vs:List Value} {KV:Nat->V->Hp->Prop} {lt:Nat->Nat->Bool} {R:Result->Shared->Prop}
structure yvM (X:Cx) (pins:List (Addr×Obj)) (σ:St) (H:Hp) (A:Around) (B J l q:Addr) (vs:List Value) (KV:Nat->V->Hp->Prop) (lt:Nat->Nat->Bool):Prop where
 M:yvh X σ A.in1 (.ref q) vs H KV lt
 hh:A.in1.handled=none
 hl:∀ (pins:List (Addr×Obj)) (H1:Hp) (s:Shared),Same H H1->Inv X pins σ H1 s->s.heap.IsList l vs.toArray
 ne:B≠J
 fB:∀ H1,Same H H1->H1 B=none->yfT X pins H1 B
 fJ:∀ H1,Same H H1->H1 J=none->yfT X pins H1 J
end
section
variable {X:Cx} {pins:List (Addr×Obj)} {σ:St} {H:Hp} {s:Shared} {A:Around} {E:Value->Shared->Prop} {l q:Addr} {vs:List Value} {KV:Nat->V->Hp->Prop} {lt:Nat->Nat->Bool} {Q:Value->Shared->Prop}
end
end L2
namespace L2
open PySem PySem.Spec PyProof.Rows PySem.SeqAt
section
variable {X:Cx} {pins:List (Addr×Obj)} {σ:St} {H:Hp} {s:Shared} {A:Around}
end
end L2
namespace L2
open PySem PySem.Spec PyProof.Rows
section
variable {σ:St} {H:Hp} {Q:VK} {D:yeZ} {ta tb tc te:TE} {r:R2} {v x y:V} {i:Nat} {K:qF}
theorem yj6 (e:σ[i]?=some (some v))(q:Q v H):yjr i σ H Q:=⟨v,e,q⟩
theorem i_c (q:Q v H):tC v σ H Q:=q
theorem yqG (q:ta σ H λx H1=>tb σ H1 λy H2=>r x y H2 Q):tOp r ta tb σ H Q:=q
theorem yvA {r:V->Hp->VK->Prop}(q:ta σ H λx H1=>r x H1 Q):tUn r ta σ H Q:=q
theorem yuy {g:Int->Int->V}{a b:Int}(q:Q (g a b) H):rI0 g (.int a) (.int b) H Q:=⟨a,b,rfl,rfl,q⟩
theorem i_I {C:Int->Int->Prop}{g:Int->Int->V}{a b:Int}(c:C a b)(q:Q (g a b) H):rI C g (.int a) (.int b) H Q:=⟨a,b,rfl,rfl,c,q⟩
theorem i_U {g:Int->V}{a:Int}(q:Q (g a) H):rU g (.int a) H Q:=⟨a,rfl,q⟩
theorem yur {a b:Int}(q:Q (.bl (decide (a=b))) H):rEq (.int a) (.int b) H Q:=⟨rfl,by rw[show decide (V.int a=V.int b)=decide (a=b) by rw[Bool.eq_iff_iff];simp];exact q⟩
theorem ybV {tr:TA}{Q:List V->Hp->Prop}(q:ta σ H λx H1=>tr σ H1 λxs H2=>Q (x :: xs) H2):ycO ta tr σ H Q:=q
theorem ydu {Q:List V->Hp->Prop}(q:Q [] H):ylc σ H Q:=q
theorem ypU {sp:Sp}{E:XK}{t:TA}(q:t σ H λvs H1=>sp (vs++[]) H1 Q E):yhH sp [] E t σ H Q:=q
theorem yvy {r:List V->Hp->VK->Prop}{t:TA}(q:t σ H λvs H1=>r vs H1 Q):tCB r t σ H Q:=q
theorem ycn {t u:TS}(q:t { D with nx:=u D } σ H):yt7 t u D σ H:=q
theorem ykI (q:D.nx σ H):yoh D σ H:=q
theorem yjJ {g:TG}(q:te σ H λx H1=>g x σ H1 D.nx):ylK te g D σ H:=q
theorem yaT {N:St->Hp->Prop}(q:N (σ.set i (some v)) H):ybt i v σ H N:=q
theorem yrT (q:te σ H D.rt):ys0 te D σ H:=q
theorem yri (q:te σ H λ_ H1=>D.nx σ H1):yjo te D σ H:=q
theorem ys1 {c:TT}{t u:TS}(q:c σ H λb H1=>if b=true then t D σ H1 else u D σ H1):yo3 c t u D σ H:=q
theorem yvz {c:TT}(q:c σ H λb H1=>if b=true then ta σ H1 Q else tb σ H1 Q):tIf c ta tb σ H Q:=q
theorem yqN {R:Bool->Hp->Prop}(q:te σ H λx H'=>∃ k,x=.bl k/\R k H'):ylS te σ H R:=q
theorem yvk {R:Bool->Hp->Prop}(q:te σ H λx H'=>∃ k,x=.bl k/\R k H'):tB te σ H R:=q
theorem ybr {b:Bool}{R:Bool->Prop}(q:R b):∃ k,V.bl b=V.bl k/\R k:=⟨b,rfl,q⟩
theorem yti {t u:TT}{R:Bool->Hp->Prop}(q:t σ H λc H1=>if c=true then u σ H1 R else R false H1):ysX t u σ H R:=q
theorem yve {t u:TT}{R:Bool->Hp->Prop}(q:t σ H λc H1=>if c=true then R true H1 else u σ H1 R):tOr t u σ H R:=q
theorem yuA {t:TT}{R:Bool->Hp->Prop}(q:t σ H λc H1=>R (!c) H1):ytO t σ H R:=q
theorem yra (q:ta σ H λx H1=>∃ c,x=.bl c/\if c=true then tb σ H1 Q else Q (.bl false) H1):ypj ta tb σ H Q:=q
theorem ybq {p:Addr}{xs:List V}{k:Int}(s:SqL K H p xs)(a:atI xs k=some v)(q:Q v H):ynN K (.ref p) (.int k) H Q:=⟨p,xs,k,v,rfl,rfl,s,a,q⟩
theorem yd8 {p:Addr}{xs:List V}{k:Int}(s:SqT K H p xs)(a:atI xs k=some v)(q:Q v H):ylD K (.ref p) (.int k) H Q:=⟨p,xs,k,v,rfl,rfl,s,a,q⟩
theorem yc3 {R:Bool->Hp->Prop}(q:R true H):ygl σ H R:=q
theorem ypk {p:Addr}{a b:V}{m n:Nat}{N:St->Hp->Prop}(s:SqT K H p [a,b])(q:N ((σ.set m (some a)).set n (some b)) H):yn1 K 2 (yda (ybt m) (yda (ybt n) ynm)) (.ref p) σ H N:=⟨p,_,rfl,s,rfl,a,_,rfl,b,_,rfl,rfl,q⟩
theorem i_T {A B:Prop}(q:A):if true=true then A else B:=by rw[if_pos rfl];exact q
theorem i_F {A B:Prop}(q:B):if false=true then A else B:=by rw[if_neg (by simp)];exact q
theorem yo9 {t:TA}(q:t σ H λxs H1=>xs.length<=sizeLine/\∀ p,H1 p=none->Q (.ref p) (upd H1 p (.lst xs))):ysJ t σ H Q:=q
theorem yst {t:TA}(q:t σ H λxs H1=>xs.length<=sizeLine/\∀ p,H1 p=none->Q (.ref p) (upd H1 p (.tup xs))):yrB t σ H Q:=q
theorem ypM {l:Addr}{xs:List V}(h:H l=some (.lst xs))(n:xs.length < sizeLine)(q:Q .non (upd H l (.lst (xs++[y])))):yhy (.ref l) [y] H Q:=⟨l,xs,y,rfl,rfl,h,n,q⟩
theorem i_d {p:Prop}[Decidable p]{A B:Prop}(h1:p->A)(h2:¬ p->B):if decide p=true then A else B:=by
 by_cases z:p
 ·rw[if_pos (decide_eq_true z)];exact h1 z
 ·rw[if_neg (by rw[decide_eq_false z];simp)];exact h2 z
end
end L2
namespace L2
open PySem
section
variable {prog:Program} {w:World} {A:Around} {E:Value->Shared->Prop} {s:Shared}
theorem yfk {it t:Addr}{i:Nat}{items:Array Value}{x:Value}{Q:Value->Shared->Prop}(hit:s.heap.IsTupleIter it t i)(ht:s.heap.IsTuple t items)(hx:items[i]?=some x)
  (hQ:∀ h',h'.IsTupleIter it t (i+1)->Heap.SameBut it s.heap h'->Q x { s with heap:=h' }):wpAny (model prog w) A (Builtin.SmallTypes.nextOf (.ref it)) Q E s:=by
 have ty:=hit.typeIs
 obtain⟨⟨c,dc,dt,sl⟩,ho,hc,hd⟩:=hit
 obtain⟨⟨c',dc',dt',sl'⟩,ho',hc',n,hd'⟩:=ht
 dsimp only at hc hd hc' hd'
 subst hc hd hc' hd'
 unfold Builtin.SmallTypes.nextOf
 refine wpAny_bind (wpAny_callSpecial?_slot (name:=Str.ofString "__next__") ty F.slot_tuple_iterator_next (wpAny_call_entry F.slot_tuple_iterator_next ty F.entry_tuple_iterator_next ?_ (F.args_tuple_iterator_next_1 _)))
 wp_walk
 rw[Int.toNat_natCast,hx]
 wp_walk
 refine⟨x,rfl,wpAny_pure (hQ _ ?_ (Heap.SameBut.update ..))⟩
 exact⟨_,Heap.get?_update_self _ ho rfl,rfl,rfl⟩
theorem ygG {it t:Addr}{i:Nat}{items:Array Value}{Q:Value->Shared->Prop}(hh:A.handled=none)(hit:s.heap.IsTupleIter it t i)(ht:s.heap.IsTuple t items)(hx:items[i]?=none)
  (hE:∀ h' e,Heap.ExtBut it s.heap h'->(∃ o,h'.get? e=some o/\o.cls=.type "StopIteration")->E (.ref e) { s with heap:=h' }):wpAny (model prog w) A (Builtin.SmallTypes.nextOf (.ref it)) Q E s:=by
 have ty:=hit.typeIs
 obtain⟨⟨c,dc,dt,sl⟩,ho,hc,hd⟩:=hit
 obtain⟨⟨c',dc',dt',sl'⟩,ho',hc',n,hd'⟩:=ht
 dsimp only at hc hd hc' hd'
 subst hc hd hc' hd'
 have hh':A.in1.handled=none:=hh
 unfold Builtin.SmallTypes.nextOf
 refine wpAny_bind (wpAny_callSpecial?_slot (name:=Str.ofString "__next__") ty F.slot_tuple_iterator_next (wpAny_call_entry F.slot_tuple_iterator_next ty F.entry_tuple_iterator_next ?_ (F.args_tuple_iterator_next_1 _)))
 wp_walk
 rw[Int.toNat_natCast,hx]
 wp_walk
 unfold raiseNew
 wp_walk
 exact hE _ _ (((Heap.SameBut.update ..).extBut.push _).push _) ⟨_,Heap.get?_push_size _ rfl,rfl⟩
theorem yek (hh:A.handled=none)(it t:Addr)(ne:t≠it)(items:Array Value):Draws prog w A it [it,t] items.size (λi v=>items[i]?=some v) (λi h=>h.IsTupleIter it t i/\h.IsTuple t items) where
 live:=λ_ _ ⟨⟨o,e,_⟩,_⟩=>⟨o,e⟩
 frame:=λ_ _ _ ⟨⟨o,e,r⟩,⟨p,f,q⟩⟩ k=>⟨⟨o,k _ (by simp) _ e,r⟩,⟨p,k _ (by simp) _ f,q⟩⟩
 item:=λi s Q E hi ⟨a,b⟩ hQ=>yfk a b (Array.getElem?_eq_getElem hi) λh' e k=>hQ _ h' s.toks (Array.getElem?_eq_getElem hi) ⟨e,b.extBut k.extBut ne⟩ k
 done:=λs Q E ⟨a,b⟩ hE=>ygG hh a b (Array.getElem?_eq_none (qR _)) hE
def yte (prog:Program)(w:World)(A:Around)(it:Addr)(Q:Value->Shared->Prop)(E:Value->Shared->Prop)(s:Shared):Prop:=wpAny (model prog w) A (Builtin.SmallTypes.nextOf (.ref it)) Q E s
theorem yni {it:Addr}{Q:Value->Shared->Prop}(h:yte prog w A it Q E s):wpAny (model prog w) A (Builtin.SmallTypes.nextOf (.ref it)) Q E s:=h
structure yh5 (z TO i1 i2:Addr) (f1 f2:List Addr):Prop where
 z1:z∉f1
 z2:z∉f2
 o1:TO∉f1
 o2:TO∉f2
 a2:i1∉f2
 b1:i2∉f1
 oz:TO≠z
 az:i1≠z
 bz:i2≠z
 oa:TO≠i1
 ob:TO≠i2
theorem yls {z TI TO i1 i2:Addr}{f1 f2:List Addr}{n1 n2 k:Nat}{P1 P2:Nat->Value->Prop}{S1 S2:Nat->Heap->Prop}{a b:Value}{Q:Value->Shared->Prop}(D1:Draws prog w A i1 f1 n1 P1 S1)(D2:Draws prog w A i2 f2 n2 P2 S2)(F:yh5 z TO i1 i2 f1 f2)
  (hz:IsZip s.heap z TI TO .none) (hi:IsPair s.heap TI (.ref i1) (.ref i2)) (ho:IsPair s.heap TO a b) (h1:S1 k s.heap) (h2:S2 k s.heap) (k1:k < n1) (k2:k < n2)
  (hQ:∀ x y h' tk,P1 k x->P2 k y->IsZip h' z TI TO (rawInt s.heap.objs.size)->IsPair h' TO x y->S1 (k+1) h'->S2 (k+1) h'->IsPair h' s.heap.objs.size x y ->
   (∀ c o,c≠z->c≠TO->c≠i1->c≠i2->s.heap.get? c=some o->h'.get? c=some o)->Q (.ref s.heap.objs.size) { s with heap:=h',toks:=tk }) :
  wpAny (model prog w) A (Builtin.«zip.__next__» ⟨[.ref z],[]⟩) (λfin s'=>∃ v,fin=.done (.ret v)/\Q v s') E s:=by
 unfold Builtin.«zip.__next__»
 wp_walk using yni,wpAny_onRaise
 have u1:Heap.SameBut z s.heap (s.heap.update z (Obj.mapFields λx=>x.setIfInBounds 0 Value.ellipsis)):=Heap.SameBut.update ..
 have v1:IsZip (s.heap.update z (Obj.mapFields λx=>x.setIfInBounds 0 Value.ellipsis)) z TI TO .ellipsis:=Heap.get?_update_self _ hz rfl
 generalize s.heap.update z (Obj.mapFields λx=>x.setIfInBounds 0 Value.ellipsis)=g1 at u1 v1 ⊢
 refine D1.item k _ _ _ k1 (D1.frame _ _ _ h1 λc hc o e=>(u1.2 c λq=>F.z1 (q▸hc)).trans e) λx g2 tk2 px st1 u2=>?_
 have u2:Heap.SameBut i1 g1 g2:=u2
 have ho2:IsPair g2 TO a b:=(u2.2 _ F.oa).trans ((u1.2 _ F.oz).trans ho)
 wp_walk using yni,wpAny_onRaise
 have u3:Heap.SameBut TO g2 (g2.update TO (Obj.mapSeq λy=>y.setIfInBounds 0 x)):=Heap.SameBut.update ..
 have v3:IsPair (g2.update TO (Obj.mapSeq λy=>y.setIfInBounds 0 x)) TO x b:=Heap.get?_update_self _ ho2 rfl
 generalize g2.update TO (Obj.mapSeq λy=>y.setIfInBounds 0 x)=g3 at u3 v3 ⊢
 refine D2.item k _ _ _ k2 (D2.frame _ _ _ h2 λc hc o e=>(u3.2 c λq=>F.o2 (q▸hc)).trans ((u2.2 c λq=>F.a2 (q▸hc)).trans ((u1.2 c λq=>F.z2 (q▸hc)).trans e))) λy g4 tk4 py st2 u4=>?_
 have u4:Heap.SameBut i2 g3 g4:=u4
 have v4:IsPair g4 TO x b:=(u4.2 _ F.ob).trans v3
 have w4:IsZip g4 z TI TO .ellipsis:=(u4.2 _ F.bz.symm).trans ((u3.2 _ F.oz.symm).trans ((u2.2 _ F.az.symm).trans v1))
 have w5:IsZip (g4.update TO (Obj.mapSeq λv=>v.setIfInBounds (0+1) y)) z TI TO .ellipsis:=Heap.get?_update_of_ne _ F.oz w4
 have v5:IsPair (g4.update TO (Obj.mapSeq λv=>v.setIfInBounds (0+1) y)) TO x y:=Heap.get?_update_self _ v4 rfl
 have u5:Heap.SameBut TO g4 (g4.update TO (Obj.mapSeq λv=>v.setIfInBounds (0+1) y)):=Heap.SameBut.update ..
 wp_walk using yni,wpAny_onRaise
 generalize g4.update TO (Obj.mapSeq λv=>v.setIfInBounds (0+1) y)=g5 at w5 v5 u5 ⊢
 have sz:g5.objs.size=s.heap.objs.size:=by rw[u5.1,u4.1,u3.1,u2.1,u1.1]
 have zl:s.heap.objs.size≠z:=Nat.ne_of_gt (Heap.lt_size hz)
 rw[sz]
 have g6:IsPair (g5.push { cls:=Value.type "tuple",data:=Data.seq #[x,y] }) s.heap.objs.size x y:=by rw[← sz];exact Heap.get?_push_size _ rfl
 have g7:IsZip (g5.push { cls:=Value.type "tuple",data:=Data.seq #[x,y] }) z TI TO .ellipsis:=Heap.get?_push_of_some _ w5
 have up:∀ c o,c≠z->g5.get? c=some o->(((g5.push { cls:=Value.type "tuple",data:=Data.seq #[x,y] }).update z (Obj.mapFields λv=>v.setIfInBounds 0 (rawInt s.heap.objs.size))).update z (Obj.mapFields λv=>v.setIfInBounds 1 (Value.bool false))).get? c=some o:=λc o n e =>
  Heap.get?_update_of_ne _ n.symm (Heap.get?_update_of_ne _ n.symm (Heap.get?_push_of_some _ e))
 refine⟨_,rfl,hQ x y _ tk4 px py (Heap.get?_update_self _ (Heap.get?_update_self _ g7 rfl) rfl) (up _ _ F.oz v5) (D1.frame _ _ _ st1 λc hc o e=>up c o (λq=>F.z1 (q▸hc)) ?_) (D2.frame _ _ _ st2 λc hc o e=>up c o (λq=>F.z2 (q▸hc)) ?_) (Heap.get?_update_of_ne _ zl.symm (Heap.get?_update_of_ne _ zl.symm g6)) λc o n1 n2 n3 n4 e=>up c o n1 ?_⟩
 ·exact(u5.2 c λq=>F.o1 (q▸hc)).trans ((u4.2 c λq=>F.b1 (q▸hc)).trans ((u3.2 c λq=>F.o1 (q▸hc)).trans e))
 ·exact(u5.2 c λq=>F.o2 (q▸hc)).trans e
 ·exact(u5.2 c n2).trans ((u4.2 c n4).trans ((u3.2 c n2).trans ((u2.2 c n3).trans ((u1.2 c n1).trans e))))
theorem ynd {z TI TO i1 i2:Addr}{f1:List Addr}{n1:Nat}{P1:Nat->Value->Prop}{S1:Nat->Heap->Prop}{a b:Value}{Q:Fin->Shared->Prop}(D1:Draws prog w A i1 f1 n1 P1 S1)(z1:z∉f1)(az:i1≠z)
  (hz:IsZip s.heap z TI TO .none) (hi:IsPair s.heap TI (.ref i1) (.ref i2)) (ho:IsPair s.heap TO a b) (h1:S1 n1 s.heap)
  (hE:∀ h' e,(∀ c o,c≠z->c≠i1->s.heap.get? c=some o->h'.get? c=some o)->(∃ o,h'.get? e=some o/\o.cls=.type "StopIteration")->E (.ref e) { s with heap:=h' }) :
  wpAny (model prog w) A (Builtin.«zip.__next__» ⟨[.ref z],[]⟩) Q E s:=by
 unfold Builtin.«zip.__next__»
 wp_walk using yni,wpAny_onRaise
 have u1:Heap.SameBut z s.heap (s.heap.update z (Obj.mapFields λx=>x.setIfInBounds 0 Value.ellipsis)):=Heap.SameBut.update ..
 have v1:IsZip (s.heap.update z (Obj.mapFields λx=>x.setIfInBounds 0 Value.ellipsis)) z TI TO .ellipsis:=Heap.get?_update_self _ hz rfl
 generalize s.heap.update z (Obj.mapFields λx=>x.setIfInBounds 0 Value.ellipsis)=g1 at u1 v1 ⊢
 refine D1.done _ _ _ (D1.frame _ _ _ h1 λc hc o e=>(u1.2 c λq=>z1 (q▸hc)).trans e) λg2 e u2 he=>?_
 have u2:Heap.ExtBut i1 g1 g2:=u2
 have v2:IsZip g2 z TI TO .ellipsis:=u2 _ _ az.symm v1
 wp_walk
 obtain⟨o,eo,co⟩:=he
 have ez:e≠z:=λq=>by rw[q,v2] at eo;cases eo;simp at co
 exact hE _ _ (λc o n1 n2 q=>Heap.get?_update_of_ne _ n1.symm (u2 _ _ n2 ((u1.2 _ n1).trans q))) ⟨o,Heap.get?_update_of_ne _ ez.symm eo,co⟩
end
end L2
namespace L2
open PySem
section
variable {prog:Program} {w:World} {A:Around} {E:Value->Shared->Prop} {s:Shared}
theorem ycE {z TI TO i1 i2:Addr}{f1 f2:List Addr}{n1 n2 k:Nat}{P1 P2:Nat->Value->Prop}{S1 S2:Nat->Heap->Prop}{a b:Value}{Q:Option Value->Shared->Prop}(D1:Draws prog w A.in1 i1 f1 n1 P1 S1)(D2:Draws prog w A.in1 i2 f2 n2 P2 S2)(F:yh5 z TO i1 i2 f1 f2)
  (hz:IsZip s.heap z TI TO .none) (hi:IsPair s.heap TI (.ref i1) (.ref i2)) (ho:IsPair s.heap TO a b) (h1:S1 k s.heap) (h2:S2 k s.heap) (k1:k < n1) (k2:k < n2)
  (hQ:∀ x y h' tk,P1 k x->P2 k y->IsZip h' z TI TO (rawInt s.heap.objs.size)->IsPair h' TO x y->S1 (k+1) h'->S2 (k+1) h'->IsPair h' s.heap.objs.size x y ->
   (∀ c o,c≠z->c≠TO->c≠i1->c≠i2->s.heap.get? c=some o->h'.get? c=some o)->Q (some (.ref s.heap.objs.size)) { s with heap:=h',toks:=tk }) :
  wpAny (model prog w) A (pyNext (.ref z)) Q E s:=by
 have ty:s.TypeIs (.ref z) "zip":= ⟨_,hz,rfl⟩
 unfold pyNext
 refine wpAny_bind (wpAny_attempt (wpAny_callSpecial?_slot (name:=Str.ofString "__next__") ty PySem.F.slot_zip_next (wpAny_call_entry PySem.F.slot_zip_next ty PySem.F.entry_zip_next ?_ (PySem.F.args_zip_next_1 _))))
 exact yls D1 D2 F hz hi ho h1 h2 k1 k2 λx y h' tk p1 p2 a1 a2 a3 a4 a5 a6=>wpAny_pure (hQ x y h' tk p1 p2 a1 a2 a3 a4 a5 a6)
theorem ycV {z TI TO i1 i2:Addr}{f1:List Addr}{n1:Nat}{P1:Nat->Value->Prop}{S1:Nat->Heap->Prop}{a b:Value}{Q:Option Value->Shared->Prop}(D1:Draws prog w A.in1 i1 f1 n1 P1 S1)(z1:z∉f1)(az:i1≠z)
  (hz:IsZip s.heap z TI TO .none) (hi:IsPair s.heap TI (.ref i1) (.ref i2)) (ho:IsPair s.heap TO a b) (h1:S1 n1 s.heap)
  (hQ:∀ h',(∀ c o,c≠z->c≠i1->s.heap.get? c=some o->h'.get? c=some o)->Q none { s with heap:=h' }):wpAny (model prog w) A (pyNext (.ref z)) Q E s:=by
 have ty:s.TypeIs (.ref z) "zip":= ⟨_,hz,rfl⟩
 unfold pyNext
 refine wpAny_bind (wpAny_attempt (wpAny_callSpecial?_slot (name:=Str.ofString "__next__") ty PySem.F.slot_zip_next (wpAny_call_entry PySem.F.slot_zip_next ty PySem.F.entry_zip_next ?_ (PySem.F.args_zip_next_1 _))))
 exact ynd D1 z1 az hz hi ho h1 λh' e k ⟨o,eo,co⟩=>wpAny_bind (wpAny_isInstance (T := "StopIteration") (b:=true) ⟨o,eo,co⟩ isSubtype_stop (wpAny_pure (hQ h' k)))
end
theorem yp9 (h:Heap)(o0 o1 o2 o3 o4:Obj)(f0:o0.isFreed=false)(f1:o1.isFreed=false)(f2:o2.isFreed=false)(f3:o3.isFreed=false)(f4:o4.isFreed=false) :
  (((((h.push o0).push o1).push o2).push o3).push o4).get? h.objs.size=some o0/\(((((h.push o0).push o1).push o2).push o3).push o4).get? (h.objs.size+1)=some o1/\(((((h.push o0).push o1).push o2).push o3).push o4).get? (h.objs.size+2)=some o2 /\
  (((((h.push o0).push o1).push o2).push o3).push o4).get? (h.objs.size+3)=some o3/\(((((h.push o0).push o1).push o2).push o3).push o4).get? (h.objs.size+4)=some o4/\∀ c o,h.get? c=some o->(((((h.push o0).push o1).push o2).push o3).push o4).get? c=some o:=by
 have z1:(h.push o0).objs.size=h.objs.size+1:=Heap.size_push ..
 have z2:((h.push o0).push o1).objs.size=h.objs.size+2:=(Heap.size_push ..).trans (by rw[z1])
 have z3:(((h.push o0).push o1).push o2).objs.size=h.objs.size+3:=(Heap.size_push ..).trans (by rw[z2])
 have z4:((((h.push o0).push o1).push o2).push o3).objs.size=h.objs.size+4:=(Heap.size_push ..).trans (by rw[z3])
 have up:∀ {g:Heap} {c:Addr} {u v:Obj},g.get? c=some u->(g.push v).get? c=some u:=λe=>Heap.get?_push_of_some _ e
 refine⟨up (up (up (up (Heap.get?_push_size _ f0)))),?_,?_,?_,?_,λc o e=>up (up (up (up (up e))))⟩
 ·rw[← z1];exact up (up (up (Heap.get?_push_size _ f1)))
 ·rw[← z2];exact up (up (Heap.get?_push_size _ f2))
 ·rw[← z3];exact up (Heap.get?_push_size _ f3)
 ·rw[← z4];exact Heap.get?_push_size _ f4
theorem yje (l1 l2:Addr)(xs ys:Array Value):Meets (Builtin.«zip.__new__» ⟨[.type "zip",.ref l1,.ref l2],[]⟩) (λ_ R s=>s.heap.IsTuple l1 xs/\s.heap.IsTuple l2 ys /\
  ∀ h',IsZip h' (s.heap.objs.size+4) (s.heap.objs.size+2) (s.heap.objs.size+3) .none->IsPair h' (s.heap.objs.size+2) (.ref s.heap.objs.size) (.ref (s.heap.objs.size+1))->IsPair h' (s.heap.objs.size+3) .none .none ->
   h'.IsTupleIter s.heap.objs.size l1 0->h'.IsTupleIter (s.heap.objs.size+1) l2 0->(∀ c o,s.heap.get? c=some o->h'.get? c=some o)->R (.ok (.ret (.ref (s.heap.objs.size+4)))) { s with heap:=h' }) :=
 .of_wp λprog w A R s h=>by
  obtain⟨hp,g,d,tk,os⟩:=s
  obtain⟨t1,t2,h⟩:=h
  have sub:=sub_zip
  have p1:Heap.IsTuple (Shared.heap ⟨hp,g,d,tk,os⟩) l1 xs:=t1
  have p2:Heap.IsTuple (Shared.heap ⟨hp.push { cls:=.type "tuple_iterator",data:=.fields #[.ref l1,.int 0 0] },g,d,tk,os⟩) l2 ys:=Heap.IsTuple.push t2 _
  wp_walk using wpAny_pyIter_tuple p1,wpAny_pyIter_tuple p2
  obtain⟨q0,q1,q2,q3,q4,q5⟩:=yp9 hp { cls:=.type "tuple_iterator",data:=.fields #[.ref l1,.int 0 0] } { cls:=.type "tuple_iterator",data:=.fields #[.ref l2,.int 0 0] } { cls:=.type "tuple",data:=.seq #[.ref hp.objs.size,.ref (hp.objs.size+1)] } { cls:=.type "tuple",data:=.seq #[.none,.none] } { cls:=.type "zip",data:=.fields #[.none,.bool false,.bool false,.ref (hp.objs.size+2),.ref (hp.objs.size+3)] } rfl rfl rfl rfl rfl
  have fin:=h _ q4 q2 q3 ⟨_,q0,rfl,rfl⟩ ⟨_,q1,rfl,rfl⟩ q5
  simp only[Heap.size_push]
  exact⟨_,rfl,fin⟩
theorem yk0 {prog:Program}{w:World}{A:Around}{E:Value->Shared->Prop}{s:Shared}{l1 l2:Addr}{xs ys:Array Value}{Q:Value->Shared->Prop}(t1:s.heap.IsTuple l1 xs)(t2:s.heap.IsTuple l2 ys)
  (h:∀ h',IsZip h' (s.heap.objs.size+4) (s.heap.objs.size+2) (s.heap.objs.size+3) .none->IsPair h' (s.heap.objs.size+2) (.ref s.heap.objs.size) (.ref (s.heap.objs.size+1))->IsPair h' (s.heap.objs.size+3) .none .none ->
   h'.IsTupleIter s.heap.objs.size l1 0->h'.IsTupleIter (s.heap.objs.size+1) l2 0->(∀ c o,s.heap.get? c=some o->h'.get? c=some o)->Q (.ref (s.heap.objs.size+4)) { s with heap:=h' }) :
  wpAny (model prog w) A (call (.type "zip") [.ref l1,.ref l2]) Q E s:=by
 refine callType_new PySem.F.called_zip (by decide) (PySem.F.typeCall_zip_2 _ _) (PySem.F.newCall_zip_2 _ _) (λo=>PySem.F.args_object_init_3 o _ _) PySem.F.entry_zip_new (yje l1 l2 xs ys) ⟨t1,t2,λh' a1 a2 a3 a4 a5 a6=>?_⟩
 exact⟨⟨_,a1,rfl⟩,h h' a1 a2 a3 a4 a5 a6⟩
end L2
namespace L2
open PySem PySem.Spec PyProof.Rows
section
variable {X:Cx}
def ytb (K:qF)(a b:Addr):It :=
 ⟨λi H=>∃ xs ys x y,SqT K H a xs/\SqT K H b ys/\xs[i]?=some x/\ys[i]?=some y,λi H x H'=>∃ p v u,x=.ref p/\H p=none/\H'=upd H p (.tup [v,u])/\∀ xs ys,SqT K H a xs->SqT K H b ys->xs[i]?=some v/\ys[i]?=some u,
  λi H=>∃ xs,SqT K H a xs/\xs.length=i⟩
def ynq (z TI TO i1 i2 a b:Addr)(i:Nat)(h:Heap):Prop:=IsZip h z TI TO .none/\IsPair h TI (.ref i1) (.ref i2)/\(∃ u v,IsPair h TO u v)/\h.IsTupleIter i1 a i/\h.IsTupleIter i2 b i/\a≠TO/\b≠TO
theorem yea {h:Heap}{a:Addr}{xs:Array Value}(p:IsTup h a xs):h.IsTuple a xs:=p
theorem yoT {h:Heap}{z TI TO i1 i2 a b:Addr}{i:Nat}{xs ys:Array Value}(F:ypA z TI TO i1 i2)(st:ynq z TI TO i1 i2 a b i h)(ha:h.IsTuple a xs)(hb:h.IsTuple b ys):yh5 z TO i1 i2 [i1,a] [i2,b]/\a≠i1/\b≠i2:=by
 obtain⟨s1,s2,⟨u,v,s3⟩,⟨o4,s4,c4,_⟩,⟨o5,s5,c5,_⟩,n1,n2⟩:=st
 obtain⟨oa,ga,ca,_⟩:=ha
 obtain⟨ob,gb,cb,_⟩:=hb
 have az:a≠z:=ybs ga s1 (by rw[ca];show Value.type "tuple" ≠ .type "zip";decide)
 have bz:b≠z:=ybs gb s1 (by rw[cb];show Value.type "tuple" ≠ .type "zip";decide)
 have a1:a≠i1:=ybs ga s4 (by rw[ca,c4];decide)
 have a2:a≠i2:=ybs ga s5 (by rw[ca,c5];decide)
 have b1:b≠i1:=ybs gb s4 (by rw[cb,c4];decide)
 have b2:b≠i2:=ybs gb s5 (by rw[cb,c5];decide)
 have off:∀ {x y c:Addr},c≠x->c≠y->c∉[x,y]:=λp q m=>by
  simp only[List.mem_cons,qk,or_false] at m
  exact m.elim p q
 exact⟨⟨off F.a3.symm az.symm,off F.a4.symm bz.symm,off F.a8 n1.symm,off F.a9 n2.symm,off F.a0 b1.symm,off F.a0.symm a2.symm,F.a2,F.a3,F.a4,F.a8,F.a9⟩,a1,b2⟩
theorem ylG {P:Program}{w:World}{K:qF}{elts:List Expr}{x1}{tp:Pos}{z TI TO i1 i2 a b:Addr}(F:ypA z TI TO i1 i2):ylQ P w K (.Tuple elts x1 tp) (ytb K a b) [z,TI,TO,i1,i2] z (ynq z TI TO i1 i2 a b) where
 mem:=by simp
 obj:=λi h st c hc=>by
  obtain⟨s1,s2,⟨u,v,s3⟩,⟨o4,s4,_,d4⟩,⟨o5,s5,_,d5⟩,_⟩:=st
  simp only[List.mem_cons,qk,or_false] at hc
  rcases hc with rfl | rfl | rfl | rfl | rfl
  ·exact⟨_,s1,λv=>nofun⟩
  ·exact⟨_,s2,λv=>nofun⟩
  ·exact⟨_,s3,λv=>nofun⟩
  ·exact⟨_,s4,λv e=>by rw[d4] at e;cases e⟩
  ·exact⟨_,s5,λv e=>by rw[d5] at e;cases e⟩
 keep:=λi h h' st k=>by
  obtain⟨s1,s2,⟨u,v,s3⟩,s4,s5,n⟩:=st
  exact⟨k _ (by simp) _ s1,k _ (by simp) _ s2,⟨u,v,k _ (by simp) _ s3⟩,s4.at λo e=>k _ (by simp) o e,s5.at λo e=>k _ (by simp) o e,n⟩
 item:=by
  intro X hP hw hK hc i pins s σ H E I hf st hg
  subst hP hw hK
  obtain⟨xs,ys,x,y,hx,hy,ex,ey⟩:=hg
  obtain⟨itx,rx,px,_⟩:=I.tuple hx
  obtain⟨ity,ry,py,_⟩:=I.tuple hy
  obtain⟨u,eu,ru⟩:=rx.get ex
  obtain⟨v,ev,rv⟩:=ry.get ey
  obtain⟨O,na,nb⟩:=yoT F st (yea px) (yea py)
  obtain⟨s1,s2,⟨p,q,s3⟩,s4,s5,no⟩:=st
  have hd:X.A.in1.handled=none:=I.ok.hd hc
  have li:i < itx.toArray.size:=by have:=(qE eu).1;simpa using this
  have lj:i < ity.toArray.size:=by have:=(qE ev).1;simpa using this
  refine ycE (yek hd i1 a na itx.toArray) (yek hd i2 b nb ity.toArray) O s1 s2 s3 ⟨s4,(yea px)⟩ ⟨s5,(yea py)⟩ li lj λu' v' h1 tk e1 e2 b1 b2 b3 b4 b5 kp=>?_
  have e1:itx[i]?=some u':=by simpa using e1
  have e2:ity[i]?=some v':=by simpa using e2
  rw[eu] at e1
  rw[ev] at e2
  cases e1
  cases e2
  refine⟨_,rfl,wpAny_letOwnedTupleGo_zip b1 λh2 c1 sb=>?_⟩
  have sb:Heap.SameBut z h1 h2:=sb
  have zl:s.heap.objs.size≠z:=Nat.ne_of_gt (Heap.lt_size s1)
  have fr:H s.heap.objs.size=none:=I.hok.fresh (qR _)
  have k2:∀ c o,c∉[z,TI,TO,i1,i2]->s.heap.get? c=some o->h2.get? c=some o:=λc o n e=>by
   simp only[List.mem_cons,qk,or_false,not_or] at n
   exact(sb.2 c n.1).trans (kp c o n.1 n.2.2.1 n.2.2.2.1 n.2.2.2.2 e)
  have T2:IsPair h2 TI (.ref i1) (.ref i2):=(sb.2 _ F.a1).trans (kp _ _ F.a1 F.a5 F.a6 F.a7 s2)
  refine⟨.ref s.heap.objs.size,_,I.tupBut (t':=tk) hf k2 (vs:=[x,y]) (its:=[u,v]) (by show 2<=sizeLine;decide) (.cons ru (.cons rv .nil)) ⟨_,(sb.2 _ zl).trans b5,rfl,_,rfl⟩,rfl,⟨_,x,y,rfl,fr,rfl,λxs' ys' hx' hy'=>by rw[I.tuple_inj hx' hx,I.tuple_inj hy' hy];exact⟨ex,ey⟩⟩,
   ⟨c1,T2,⟨_,_,(sb.2 _ F.a2).trans b2⟩,b3.1.extBut sb.extBut F.a3,b4.1.extBut sb.extBut F.a4,no⟩,λc hcm=>?_⟩
  have nb:c≠s.heap.objs.size:=by
   obtain⟨o4,g4,_⟩:=s4
   obtain⟨o5,g5,_⟩:=s5
   simp only[List.mem_cons,qk,or_false] at hcm
   rcases hcm with rfl | rfl | rfl | rfl | rfl
   ·exact zl.symm
   ·exact Nat.ne_of_lt (Heap.lt_size s2)
   ·exact Nat.ne_of_lt (Heap.lt_size s3)
   ·exact Nat.ne_of_lt (Heap.lt_size g4)
   ·exact Nat.ne_of_lt (Heap.lt_size g5)
  rw[yas nb]
  exact(hf c hcm).1
 done:=by
  intro X hP hw hK hc i pins s σ H E I hf st hg
  subst hP hw hK
  obtain⟨xs,hx,he⟩:=hg
  obtain⟨itx,rx,px,_⟩:=I.tuple hx
  have hd:X.A.in1.handled=none:=I.ok.hd hc
  obtain⟨s1,s2,⟨p,q,s3⟩,s4,s5,no⟩:=st
  have na:a≠i1:=by
   obtain⟨o,e,c,_⟩:=(yea px)
   obtain⟨o4,e4,c4,_⟩:=id s4
   exact ybs e e4 (by rw[c,c4];decide)
  have az:a≠z:=by
   obtain⟨o,e,c,_⟩:=(yea px)
   exact ybs e s1 (by rw[c];show Value.type "tuple" ≠ .type "zip";decide)
  have en:itx.toArray.size=i:=by rw[← he,rx.length];simp
  refine ycV (yek hd i1 a na itx.toArray) (λm=>?_) F.a3 s1 s2 s3 ⟨by rw[en];exact s4,(yea px)⟩ λh1 kp=>⟨rfl,?_⟩
  ·simp only[List.mem_cons,qk,or_false] at m
   exact m.elim (λe=>F.a3 e.symm) λe=>az e.symm
  have off:∀ b u,H b=some u->b∉[z,TI,TO,i1,i2]:=λb u h m=>by rw[(hf b m).1] at h;cases h
  have k2:∀ c o,c∉[z,TI,TO,i1,i2]->s.heap.get? c=some o->h1.get? c=some o:=λc o n e=>by
   simp only[List.mem_cons,qk,or_false,not_or] at n
   exact kp c o n.1 n.2.2.2.1 e
  exact I.step (g':=s.gens) (d':=s.drawn) (t':=s.toks) (ch:=[z,TI,TO,i1,i2]) (λb hb=>⟨(hf b hb).2.2.2.1,(hf b hb).2.1,(hf b hb).2.2.2.2⟩) (λb o _ _ n e _=>k2 b o n e) (λb o _ _ n e _=>⟨o.slots,k2 b o n e⟩) (λ_ _ _ _ n=>n)
   (λb o n e=>⟨o,k2 b o n e⟩) (λ_ _ h=>h) (λ_ _ _ h=>h) (λ_ ps h=>⟨#[],by rw[h];simp⟩) (λm hm=>hm.at λo e=>k2 _ o (λn=>(hf _ n).2.1 rfl) e) (λb u h=>(I.hok b u h).stay (λc v hc q=>k2 c v (hc.elim (λe=>e▸off b u h) λe=>off c _ e) q) (λ_ h=>h) λ_ _ h=>h) I.bare
 self:=λ_ _ _ _ _ st h=>wpAny_pyIter_zip st.1 h
def yrD (K:qF)(ta:TA):TI:=fun σ H R=>ta σ H λvs H1=>∃ a b,vs=[.ref a,.ref b]/\(((∃ xs,SqL K H1 a xs)/\(∃ ys,SqL K H1 b ys)/\R (Itz K a b) H1)∨((∃ xs,SqT K H1 a xs)/\(∃ ys,SqT K H1 b ys)/\R (ytb K a b) H1))
theorem yow {elts:List Expr}{x1}{tp:Pos}{a b:Expr}{ta:TA}{p pos:Pos}(hg:Gl X "zip")(hm:X.mg "zip"=none)(ha:PA X [a,b] ta)(hs:starEach [a,b] X.env=[(false,eval a X.env),(false,eval b X.env)]:=by rfl)(hs2:starEach [b] X.env=[(false,eval b X.env)]:=by rfl) :
  PI X (.Tuple elts x1 tp) (.Call (.Name "zip" p) [a,b] [] pos) (yrD X.K ta):=by
 intro pins s σ H R I h
 refine Call_ (ydH I hg hm yfP (PyProof.Rows.callWith_type1 (thn (ha pos pins s σ H _ I h) λus s1 zq=>?_) (by rw[hs,hs2]) (by rw[hs2];rfl)))
 obtain⟨vs,H1,I1,r1,q1⟩:=zq
 obtain⟨la,lb,e,q⟩:=q1
 subst e
 obtain⟨u,v,rfl,ru,rv⟩:=yfX r1
 cases ru
 cases rv
 have lt:∀ n,yfT X pins H1 (s1.heap.objs.size+n):=λn=>I1.fpOk (Nat.le_add_right _ _) (I1.hok.fresh (Nat.le_add_right _ _))
 have ne:∀ {n m:Nat},n≠m->s1.heap.objs.size+n≠s1.heap.objs.size+m:=λh e=>h (Nat.add_left_cancel e)
 have five:ypA (s1.heap.objs.size+4) (s1.heap.objs.size+2) (s1.heap.objs.size+3) (s1.heap.objs.size+0) (s1.heap.objs.size+1):=⟨ne (by decide),ne (by decide),ne (by decide),ne (by decide),ne (by decide),ne (by decide),ne (by decide),ne (by decide),ne (by decide),ne (by decide)⟩
 have fp:∀ c∈[s1.heap.objs.size+4,s1.heap.objs.size+2,s1.heap.objs.size+3,s1.heap.objs.size+0,s1.heap.objs.size+1],yfT X pins H1 c:=λc hc=>by
  simp only[List.mem_cons,qk,or_false] at hc
  rcases hc with rfl | rfl | rfl | rfl | rfl<;>exact lt _
 rcases q with ⟨⟨xs,hx⟩,⟨ys,hy⟩,q⟩ | ⟨⟨xs,hx⟩,⟨ys,hy⟩,q⟩
 ·obtain⟨itx,rx,px,_⟩:=I1.list hx
  obtain⟨ity,ry,py,_⟩:=I1.list hy
  exact call_zip_2 px.isList py.isList λh' b1 b2 b3 b4 b5 sz kp=>wpAny_pyIter_zip b1 ⟨_,[s1.heap.objs.size+4,s1.heap.objs.size+2,s1.heap.objs.size+3,s1.heap.objs.size+0,s1.heap.objs.size+1],_,_,H1,rfl,I1.kept (t':=s1.toks) kp,yiu five,⟨b1,b2,⟨_,_,b3⟩,b4,b5⟩,fp,q⟩
 ·obtain⟨itx,rx,px,_⟩:=I1.tuple hx
  obtain⟨ity,ry,py,_⟩:=I1.tuple hy
  have old:∀ {c:Addr} {o:Obj},s1.heap.get? c=some o->c≠s1.heap.objs.size+3:=λe=>Nat.ne_of_lt (Nat.lt_of_lt_of_le (Heap.lt_size e) (Nat.le_add_right _ _))
  obtain⟨oa,ea,_⟩:=(yea px)
  obtain⟨ob,eb,_⟩:=(yea py)
  exact yk0 (yea px) (yea py) λh' b1 b2 b3 b4 b5 kp=>wpAny_pyIter_zip b1 ⟨_,[s1.heap.objs.size+4,s1.heap.objs.size+2,s1.heap.objs.size+3,s1.heap.objs.size+0,s1.heap.objs.size+1],_,_,H1,rfl,I1.kept (t':=s1.toks) kp,ylG five,⟨b1,b2,⟨_,_,b3⟩,b4,b5,old ea,old eb⟩,fp,q⟩
theorem yjF {K:qF}{a b D:Addr}{xs ys:List V}{g:TG}{tc:TT}{te:TE}{Fin:Hp->Prop}{σ:St}{H:Hp}(len:xs.length=ys.length)(Pv:Nat->St->Hp->Prop)(h0:Pv 0 σ H)(hl:∀ i σ H,Pv i σ H->SqT K H a xs/\SqT K H b ys)
  (hs:∀ i x y σ H p,xs[i]?=some x->ys[i]?=some y->Pv i σ H->H p=none->g (.ref p) σ (upd H p (.tup [x,y])) fun σ2 H2=>tc σ2 H2 λb H3=>if b=true then te σ2 H3 λy H4=>∃ ys,H4 D=some (.lst ys)/\ys.length < sizeLine/\Pv (i+1) σ2 (upd H4 D (.lst (ys++[y]))) else Pv (i+1) σ2 H3)
  (hd:∀ σ H,Pv xs.length σ H->Fin H):∃ W:Nat->Nat->St->Hp->Prop,(∃ m,W 0 m σ H)/\ydd (ytb K a b) g tc te D Fin W:=by
 refine⟨λi m σ H=>m+i=xs.length/\Pv i σ H,⟨xs.length,rfl,h0⟩,?_⟩
 rintro i m σ H ⟨em,p⟩
 obtain⟨q1,q2⟩:=hl i σ H p
 cases m with
 | zero =>
  have e:i=xs.length:=by omega
  subst e
  exact .inl ⟨⟨xs,q1,rfl⟩,hd σ H p⟩
 | succ m =>
  have l1:i < xs.length:=by omega
  have l2:i < ys.length:=by omega
  refine .inr ⟨⟨xs,ys,xs[i],ys[i],q1,q2,qG l1,qG l2⟩,Pv (i+1),fun σ' H' p'=>⟨m,by omega,by omega,p'⟩,λx H' y=>?_⟩
  obtain⟨c,v,u,e1,e2,e3,y⟩:=y
  subst e1 e3
  obtain⟨y1,y2⟩:=y xs ys q1 q2
  exact hs i v u σ H c y1 y2 p e2
end
def yp7 (J:It)(g:TG)(tb:TS)(D:yeZ)(σ:St)(H:Hp):Prop:=ylq (λ_ H R=>R J H) g tb D σ H
def yoL (J:It)(cap:List (Option Nat))(g:TG)(tc:TT)(te:TE)(σ:St)(H:Hp)(Q:VK):Prop:=yiT (λ_ H R=>R J H) cap g tc te σ H Q
section
variable {K:qF} {σ:St} {H:Hp} {Q:VK} {ta:TA} {te to ti:TE} {g:TG} {tb:TS} {D:yeZ} {cap:List (Option Nat)} {tc:TT}
theorem ytg (q:ta σ H λvs H1=>∃ j:Int,vs=[.int j]/\-(2 ^ 62)<=j/\j < 2 ^ 62/\yp7 (Itr 0 j.toNat) g tb D σ H1):ylq (ylV ta) g tb D σ H:=q
theorem ysr (q:te σ H λx H1=>∃ a,x=.ref a/\(∃ xs,SqL K H1 a xs)/\yp7 (Itl K a) g tb D σ H1):ylq (yms K te) g tb D σ H:=q
theorem ysQ (q:te σ H λx H1=>∃ a,x=.ref a/\(∃ xs,SqT K H1 a xs)/\yp7 (Itt K a) g tb D σ H1):ylq (ysN K te) g tb D σ H:=q
theorem ytn (q:to σ H λx H1=>∃ a,x=.ref a/\(∃ xs,SqL K H1 a xs)/\yoL (Itl K a) cap g tc te σ H1 Q):yiT (yms K to) cap g tc te σ H Q:=q
theorem ysR (q:to σ H λx H1=>∃ a,x=.ref a/\(∃ xs,SqT K H1 a xs)/\yoL (Itt K a) cap g tc te σ H1 Q):yiT (ysN K to) cap g tc te σ H Q:=q
theorem ytc (q:ta σ H λvs H1=>∃ j:Int,vs=[.int j]/\-(2 ^ 62)<=j/\j < 2 ^ 62/\yoL (Itr 0 j.toNat) cap g tc te σ H1 Q):yiT (ylV ta) cap g tc te σ H Q:=q
theorem yqg {i:Nat}(q:te σ H λx H1=>D.nx (σ.set i (some x)) H1):yh8 i te D σ H:=q
theorem yvl {T:String}{r:V->List V->Hp->VK->Prop}(q:to σ H λx H1=>tyV K T x H1/\ta σ H1 λxs H2=>r x xs H2 Q):tBM K T r to ta σ H Q:=q
theorem yvt {r:V->Option Int->Option Int->Hp->VK->Prop}{tl th:TO}(q:te σ H λx H1=>tl σ H1 λl H2=>th σ H2 λu H3=>r x l u H3 Q):tSl r te tl th σ H Q:=q
theorem yhY {C:Addr}{sp:Sp}{E:XK}(q:ta σ H λvs H1=>∀ x dx,H1 x=none->H1 dx=none->dx≠x->sp (.ref x :: (vs++[])) (upd (upd H1 dx (.own x)) x (.ins C dx [])) (λv H2=>v=.non/\Q (.ref x) H2) E):you C sp [] E ta σ H Q:=q
theorem yro {ι:Type}{C:ι->Addr}{m:Str}{sp:ι->Sp}{E:XK}(q:te σ H λx H1=>∃ i a dx fs,x=.ref a/\H1 a=some (.ins (C i) dx fs)/\fs.lookup m=none/\sp i [x] H1 Q E):ylw C m sp E te σ H Q:=q
theorem yvw (q:to σ H λx H1=>ti σ H1 λy H2=>∃ a v,x=.ref a/\DGet H2 a y (some v)/\Q v H2):ypm to ti σ H Q:=q
theorem ylE {g:Int->Int->V}{a b:Int}(h:(-(2 ^ 62)<=a/\a<=2 ^ 62)∨(-(2 ^ 62)<=b/\b<=2 ^ 62))(q:Q (g a b) H):rI IntMulOk g (.int a) (.int b) H Q:=⟨a,b,rfl,rfl,CMul.ok (h.imp (λz=>⟨by omega,by omega⟩) λz=>⟨by omega,by omega⟩),q⟩
end
section
variable {X:Cx} {CX:CXT} {E:XK} {k i:Nat} {x:Str} {p pos:Pos} {e:Expr} {es:List Expr} {t:TA}
end
section
variable {X:Cx}
noncomputable def Its (z:Str):It:=⟨λi _=>i < z.cps.size,λi H x H'=>H'=H/\∃ c,z.cps.toList[i]?=some c/\x=.str ⟨#[c]⟩,λi _=>z.cps.size<=i⟩
theorem ymV {P:Program}{w:World}{K:qF}{tg:Expr}(z:Str)(t:Tok)(it:Addr):ylQ P w K tg (Its z) [it] it (λi h=>h.IsStrIter it (strIterType z) z t i) where
 mem:=by simp
 obj:=λi h st b hb=>by
  have e:b=it:=by simpa using hb
  subst e
  obtain⟨o,e,c,d⟩:=st
  exact⟨o,e,λv z=>by rw[d] at z;cases z⟩
 keep:=λi h h' st k=>by
  obtain⟨o,e,r⟩:=st
  exact⟨o,k it (by simp) o e,r⟩
 item:=by
  intro X hP hw hK hc i pins s σ H E I hf st hg
  subst hP hw hK
  obtain⟨f0,f1,f2,f3,f4,f5⟩:=hf it (by simp)
  have hi:i < z.cps.size:=hg
  have fin:∀ h',h'.IsStrIter it (strIterType z) z t (i+1)->Heap.SameBut it s.heap h'->∃ u,some (Value.str ⟨#[z.cps[i]]⟩ s.toks)=some u /\
    wpAny (model X.prog X.w) X.A (letOwnedTupleGo tg (.ref it) u) (λ_ s2=>∃ x H',Inv X pins σ H' s2/\RelV x u/\(Its z).yld i H x H'/\s2.heap.IsStrIter it (strIterType z) z t (i+1)/\∀ b∈[it],H' b=none) E { s with heap:=h',toks:=s.toks+1 }:=λh' st' sb=>by
   have I1:Inv X pins σ H { s with heap:=h',toks:=s.toks+1 }:=I.turned (t':=s.toks+1) (λb o hb e=>(sb.2 b hb).trans e) f0 f1 f3 f4 f5
   obtain⟨o,e,c,d⟩:=id st'
   refine⟨_,rfl,ymC (s:={ s with heap:=h',toks:=s.toks+1 }) e c d (by unfold strIterType;split<;>decide) ⟨.str ⟨#[z.cps[i]]⟩,H,I1,⟨_,rfl⟩,⟨rfl,z.cps[i],by simp[hi],rfl⟩,st',λb hb=>(hf b hb).1⟩⟩
  cases ha:z.cps.all (· < 128)
  ·have e:strIterType z="str_iterator":= by simp[strIterType,ha]
   rw[e] at st
   exact wpAny_pyNext_wide_item st (c:=z.cps[i]) (by simp[hi]) λh' a b=>fin h' (by rw[e];exact a) b
  ·have e:strIterType z="str_ascii_iterator":= by simp[strIterType,ha]
   rw[e] at st
   exact wpAny_pyNext_ascii_item st (c:=z.cps[i]) (by simp[hi]) λh' a b=>fin h' (by rw[e];exact a) b
 done:=by
  intro X hP hw hK hc i pins s σ H E I hf st hg
  subst hP hw hK
  obtain⟨f0,f1,f2,f3,f4,f5⟩:=hf it (by simp)
  have hi:z.cps.size<=i:=hg
  cases ha:z.cps.all (· < 128)
  ·have e:strIterType z="str_iterator":= by simp[strIterType,ha]
   rw[e] at st
   exact wpAny_pyNext_wide_end (I.ok.hd hc) st (by simp[hi]) λh' eb=>⟨rfl,I.turned (t':=s.toks) (λb o hb e=>eb b o hb e) f0 f1 f3 f4 f5⟩
  ·have e:strIterType z="str_ascii_iterator":= by simp[strIterType,ha]
   rw[e] at st
   exact wpAny_pyNext_ascii_end (I.ok.hd hc) st (by simp[hi]) λh' eb=>⟨rfl,I.turned (t':=s.toks) (λb o hb e=>eb b o hb e) f0 f1 f3 f4 f5⟩
 self:=λ_ _ _ _ _ st h=>by
  cases ha:z.cps.all (· < 128)
  ·have e:strIterType z="str_iterator":= by simp[strIterType,ha]
   rw[e] at st
   exact wpAny_pyIter_striter_wide st h
  ·have e:strIterType z="str_ascii_iterator":= by simp[strIterType,ha]
   rw[e] at st
   exact wpAny_pyIter_striter_ascii st h
def yu6 (tl:TE):TI:=fun σ H R=>tl σ H λx H1=>∃ z,x=.str z/\R (Its z) H1
theorem yeP {tg l:Expr}{tl:TE}(hl:PE X l tl):PI X tg l (yu6 tl):=by
 intro pins s σ H R I h
 refine thn (hl pins s σ H _ I h) λv s1 zq=>?_
 obtain⟨x,H1,I1,r1,q1⟩:=zq
 obtain⟨z,e,q⟩:=q1
 subst e
 obtain⟨t,rfl⟩:=r1
 refine wpAny_pyIter_strU ?_
 refine⟨s1.heap.objs.size,[s1.heap.objs.size],_,_,H1,rfl,I1.kept (t':=s1.toks) λb o e=>Heap.get?_push_of_some _ e,ymV z t _,⟨_,Heap.get?_push_size _ rfl,rfl,rfl⟩,λb hb=>?_,q⟩
 have e:b=s1.heap.objs.size:=by simpa using hb
 subst e
 exact I1.fpOk (qR _) (I1.hok.fresh (qR _))
theorem ydU {z:Str}{D:Addr}{g:TG}{tc:TT}{te:TE}{Fin:Hp->Prop}{σ:St}{H:Hp}(Pv:Nat->St->Hp->Prop)(h0:Pv 0 σ H)
  (hs:∀ i c σ H,z.cps.toList[i]?=some c->Pv i σ H->g (.str ⟨#[c]⟩) σ H fun σ2 H2=>tc σ2 H2 λb H3=>if b=true then te σ2 H3 λy H4=>∃ ys,H4 D=some (.lst ys)/\ys.length < sizeLine/\Pv (i+1) σ2 (upd H4 D (.lst (ys++[y]))) else Pv (i+1) σ2 H3)
  (hd:∀ σ H,Pv z.cps.size σ H->Fin H):∃ W:Nat->Nat->St->Hp->Prop,(∃ m,W 0 m σ H)/\ydd (Its z) g tc te D Fin W:=by
 refine⟨λi m σ H=>m=z.cps.size - i/\i<=z.cps.size/\Pv i σ H,⟨z.cps.size,by simp,Nat.zero_le _,h0⟩,?_⟩
 rintro i m σ H ⟨rfl,hi,p⟩
 by_cases hlt:i < z.cps.size
 ·refine .inr ⟨hlt,Pv (i+1),fun σ' H' p'=>⟨z.cps.size - (i+1),by omega,rfl,hlt,p'⟩,λx H' y=>?_⟩
  obtain⟨e,c,hc,e2⟩:=y
  subst e e2
  exact hs i c σ _ hc p
 ·have e:i=z.cps.size:=by omega
  subst e
  exact .inl ⟨qR _,hd σ H p⟩
theorem ydN:∀ {ts:List Str} {us:List Value},Vals (ts.map V.str) us->∃ l:List (Str×Tok),us=strValues l/\l.map (·.1)=ts
 | [],_,.nil=>⟨[],rfl,rfl⟩
 | x :: ts,_,.cons ⟨t,e⟩ r=>by
  subst e
  obtain⟨l,e1,e2⟩:=ydN r
  exact⟨(x,t) :: l,by rw[e1];rfl,by rw[List.map_cons,e2]⟩
def ymd (K:qF):V->List V->Hp->VK->Prop:=λx vs H Q=>∃ (a:Str) (p:Addr) (ts:List Str),x=.str a/\vs=[.ref p]/\SqL K H p (ts.map V.str)/\JoinOk a ts=true/\Q (.str (Txt.join a ts)) H
theorem ypc:MtR X "str.join" (ymd X.K):=by
 intro pins s σ H x vs v us Q I rx rv h
 obtain⟨a,p,ts,rfl,rfl,hq,hj,q⟩:=h
 obtain⟨t,rfl⟩:=rx
 obtain⟨u,rfl,ru⟩:=rv.one
 cases ru
 obtain⟨its,rvs,pl,hz⟩:=I.list hq
 obtain⟨l,rfl,e2⟩:=ydN rvs
 exact SC.join pl.isList e2 hj λt' k=>⟨.str _,H,I.tok _,⟨_,rfl⟩,q⟩
end
end L2
namespace TX
open PySem PySem.Builtin PySem.Builtin.Str PySem.StrLaws
noncomputable def one (c:Nat):Str:=⟨#[c]⟩
def yc4 (c:Nat):Nat->List Nat->List Nat
 | _,[]=>[]
 | k,a :: l=>if a=c then k :: yc4 c (k+1) l else yc4 c (k+1) l
noncomputable def yan (c:Nat):List Nat->List (List Nat)
 | []=>[[]]
 | a :: l=>if a=c then [] :: yan c l else match yan c l with
  | []=>[[a]]
  | h :: t=>(a :: h) :: t
theorem ygW {x:Str}{pre L:List Nat}{a c:Nat}(h:x.cps.toList=pre++a :: L):subAt x (one c) pre.length=decide (a=c):=by
 unfold subAt one
 have e:x.cps.extract pre.length (pre.length+1)=#[a]:=by
  apply Array.toList_inj.mp
  rw[Array.toList_extract,List.extract_eq_take_drop,h]
  simp
 show(x.cps.extract pre.length (pre.length+1)==#[c])=_
 rw[e]
 by_cases q:a=c
 ·subst q;simp
 ·rw[decide_eq_false q]
  exact beq_eq_false_iff_ne.mpr λz=>q (by simpa using z)
theorem yin (x:Str)(c limit:Nat):∀ (L pre:List Nat) (arr:Array Nat) (free:Nat),x.cps.toList=pre++L->free<=pre.length ->
  (forIn (List.range' pre.length (L.length+1)) (arr,free) (occBody x (one c) x.length limit)).run.fst.toList=arr.toList++(yc4 c pre.length L).take (limit - arr.size)
 | [],pre,arr,free,h,hf=>by
  have hl:x.length=pre.length:=by
   have:=congrArg List.length h
   simpa [Str.length] using this
  rw[List.length_nil,List.range'_succ,List.forIn_cons]
  unfold occBody
  have:¬ (((arr,free).fst.size < limit/\(arr,free).snd<=pre.length)/\pre.length+(one c).length<=x.length):=λz=>by
   have:=z.2
   rw[hl] at this
   simp[one,Str.length] at this
   omega
  rw[if_neg λz=>this z.1]
  simp[yc4]
 | a :: L,pre,arr,free,h,hf=>by
  have hl:x.length=pre.length+L.length+1:=by
   have:=congrArg List.length h
   simp[Str.length] at this
   show x.cps.size=_
   omega
  have h2:x.cps.toList=(pre++[a])++L:=by rw[h];simp
  have l2:(pre++[a]).length=pre.length+1:=by simp
  rw[qC,List.range'_succ,List.forIn_cons]
  unfold occBody
  rw[ygW h]
  have ol:(one c).length=1:=rfl
  by_cases q:a=c
  ·by_cases z:arr.size < limit
   ·rw[if_pos ⟨⟨⟨z,hf⟩,by rw[ol];omega⟩,by simp[q]⟩]
    have ih:=yin x c limit L (pre++[a]) (arr.push pre.length) (pre.length+1) h2 (by omega)
    rw[l2] at ih
    refine ih.trans ?_
    rw[yc4,if_pos q]
    have e:limit - arr.size=(limit - (arr.push pre.length).size)+1:=by rw[Array.size_push];omega
    rw[e,List.take_succ_cons]
    simp
   ·rw[if_neg λw=>z w.1.1.1]
    have ih:=yin x c limit L (pre++[a]) arr free h2 (by omega)
    rw[l2] at ih
    refine ih.trans ?_
    have e:limit - arr.size=0:=by omega
    rw[e]
    simp
  ·rw[if_neg λw=>q (by simpa using w.2)]
   have ih:=yin x c limit L (pre++[a]) arr free h2 (by omega)
   rw[l2] at ih
   refine ih.trans ?_
   rw[yc4,if_neg q]
theorem ye5 (x:Str)(c limit:Nat):occurrences x (one c) 0 x.length limit=(yc4 c 0 x.cps.toList).take limit:=by
 rw[occ_eq]
 have h:=yin x c limit x.cps.toList [] #[] 0 rfl (qR _)
 have e:x.cps.toList.length+1=x.length+1 - 0:=by simp[Str.length]
 rw[e] at h
 simpa using h
theorem yiB (c:Nat):∀ (k:Nat) (L:List Nat),(yc4 c k L).length<=L.length
 | _,[]=>qR _
 | k,a :: L=>by
  have:=yiB c (k+1) L
  rw[yc4]
  split<;>simp<;>omega
theorem yoq (x:Str)(c:Nat):occurrences x (one c) 0 x.length (x.length+1)=yc4 c 0 x.cps.toList:=by
 rw[ye5,List.take_of_length_le]
 have:=yiB c 0 x.cps.toList
 have e:x.cps.toList.length=x.length:=by simp[Str.length]
 omega
theorem posF_mem {c:Nat}:∀ {k:Nat} {L:List Nat},(yc4 c k L=[])↔c∉L
 | _,[]=>by simp[yc4]
 | k,a :: L=>by
  rw[yc4]
  split
  ·rename_i h;simp[h]
  ·rename_i h
   rw[posF_mem]
   simp[h]
   intro _ z
   exact h z.symm
theorem ya9 (c:Nat):∀ L:List Nat,yan c L≠[]
 | []=>by simp[yan]
 | a :: L=>by
  rw[yan]
  split
  ·simp
  ·split<;>simp
theorem yfv (c:Nat):∀ (L pre:List Nat) (st:Nat),st<=pre.length ->
  (((st :: (yc4 c pre.length L).map (·+1)).zip (yc4 c pre.length L++[(pre++L).length])).map λp=>((pre++L).drop p.1).take (p.2 - p.1)) =
   match yan c L with
   | []=>[]
   | h :: t=>(pre.drop st++h) :: t
 | [],pre,st,hs=>by
  simp[yc4,yan]
  exact List.take_of_length_le (by simp)
 | a :: L,pre,st,hs=>by
  have ea:pre++a :: L=(pre++[a])++L:=by simp
  have el:(pre++[a]).length=pre.length+1:=by simp
  rw[yc4,yan]
  by_cases q:a=c
  ·rw[if_pos q,if_pos q]
   have ih:=yfv c L (pre++[a]) (pre.length+1) (by omega)
   rw[el] at ih
   rw[List.map_cons,List.cons_append,List.zip_cons_cons,List.map_cons,ea,ih]
   have e1:((pre++[a]++L).drop st).take (pre.length - st)=pre.drop st++[]:=by
    rw[List.append_assoc,List.drop_append_of_le_length hs,List.take_append_of_le_length (by simp),List.take_of_length_le (by simp),List.append_nil]
   rw[e1]
   cases h:yan c L with
   | nil=>exact absurd h (ya9 c L)
   | cons p t =>
    have:(pre++[a]).drop (pre.length+1)=[]:=by simp
    simp only[this,List.nil_append]
  ·rw[if_neg q,if_neg q]
   have ih:=yfv c L (pre++[a]) st (by omega)
   rw[el] at ih
   rw[ea,ih]
   cases h:yan c L with
   | nil=>exact absurd h (ya9 c L)
   | cons p t =>
    simp only
    rw[List.drop_append_of_le_length hs,List.append_assoc]
    rfl
theorem ymK (x:Str)(c:Nat):(partsBetween x (yc4 c 0 x.cps.toList) 1).map (λp=>p.cps.toList)=yan c x.cps.toList:=by
 have h:=yfv c x.cps.toList [] 0 (qR _)
 unfold partsBetween strSub
 rw[List.map_map]
 have e:x.length=x.cps.toList.length:=by simp[Str.length]
 rw[e]
 simp only[List.nil_append,List.length_nil,List.drop_nil] at h
 have e2:(match yan c x.cps.toList with | []=>[] | h :: t=>h :: t)=yan c x.cps.toList:=by
  cases yan c x.cps.toList<;>rfl
 rw[e2] at h
 rw[← h]
 apply List.map_congr_left
 rintro⟨i,j⟩ _
 show(x.cps.extract i j).toList=_
 rw[Array.toList_extract,List.extract_eq_take_drop]
end TX
namespace TX
open PySem PySem.Builtin PySem.Builtin.Str PySem.StrLaws PySem.NumText
theorem yce {a b:Str}(h:a.cps.toList=b.cps.toList):a=b:=by
 cases a;cases b
 simp at h
 subst h
 rfl
noncomputable def ofL (l:List Nat):Str:=⟨l.toArray⟩
theorem yax (l:List Nat):(ofL l).cps.toList=l:=rfl
theorem ycL (x:Str):ofL x.cps.toList=x:=yce (yax _)
theorem yop (x:Str):1<=Builtin.Str.strKind x:=by
 unfold Builtin.Str.strKind
 split
 ·exact qR _
 ·split<;>decide
theorem ym6 {c:Nat}(h:c < 256):Builtin.Str.strKind (one c)=1:=by
 unfold Builtin.Str.strKind one
 rw[if_pos (by simp[h])]
theorem ydZ (x:Str){c:Nat}(hc:c < 256):Txt.split x (one c)=(yan c x.cps.toList).map ofL:=by
 have key:(partsBetween x (yc4 c 0 x.cps.toList) 1)=(yan c x.cps.toList).map ofL:=by
  rw[← ymK,List.map_map]
  conv=>lhs;rw[← List.map_id (partsBetween x (yc4 c 0 x.cps.toList) 1)]
  apply List.map_congr_left
  intro p _
  exact(ycL p).symm
 unfold Txt.split
 have ol:(one c).length=1:=rfl
 have nil_case:yc4 c 0 x.cps.toList=[]->(yan c x.cps.toList).map ofL=[x]:=λh=>by
  rw[← key,h]
  show[strSub x 0 x.length]=[x]
  unfold strSub
  congr 1
  refine yce ?_
  show(x.cps.extract 0 x.cps.size).toList=_
  simp
 by_cases h0:x.length < 1
 ·rw[if_pos (by rw[ol];simp[h0])]
  refine(nil_case ?_).symm
  have:x.cps.toList=[]:=by
   have:x.cps.size=0:=by unfold Str.length at h0;omega
   simpa using this
  rw[this];rfl
 ·have k1:=yop x
  rw[if_neg (by rw[ol,ym6 hc];simp;omega),yoq,ol]
  split
  ·rename_i h
   refine(nil_case ?_).symm
   cases e:yc4 c 0 x.cps.toList with
   | nil=>rfl
   | cons a b=>rw[e] at h;cases h
  ·exact key
theorem yhU (x:Str)(c:Nat):Txt.find x (one c)=match yc4 c 0 x.cps.toList with | i :: _=>(i:Int) | []=>-1:=by
 unfold Txt.find
 rw[ye5]
 cases yc4 c 0 x.cps.toList<;>rfl
theorem yh0 (x:Str)(c:Nat):(!(occurrences x (one c) 0 x.length 1).isEmpty)=decide (c∈x.cps.toList):=by
 rw[ye5]
 by_cases h:c∈x.cps.toList
 ·rw[decide_eq_true h]
  have:yc4 c 0 x.cps.toList≠[]:=λe=>posF_mem.mp e h
  cases e:yc4 c 0 x.cps.toList with
  | nil=>exact absurd e this
  | cons a b=>rfl
 ·rw[decide_eq_false h,posF_mem.mpr h]
  rfl
noncomputable def isF (c:Nat):Bool:=decide (48<=c)&&decide (c<=57)
theorem yko:("0123456789" : Str).cps.toList=[48,49,50,51,52,53,54,55,56,57]:=by decide +kernel
theorem yqv (c:Nat):(decide (c∈("0123456789" : Str).cps.toList))=isF c:=by
 rw[yko]
 rcases Nat.lt_or_ge c 58 with h | h
 ·have a:∀ c∈List.range 58,decide (c∈[48,49,50,51,52,53,54,55,56,57])=isF c:=by decide +kernel
  exact a c (List.mem_range.mpr h)
 ·have a:∀ c∈[48,49,50,51,52,53,54,55,56,57],c < 58:=by decide
  rw[decide_eq_false λz=>absurd (a c z) (Nat.not_lt.mpr h)]
  unfold isF
  rw[decide_eq_false (show ¬ c<=57 by omega),Bool.and_false]
theorem allDig {cs:List Nat}:cs.all isF=true↔AllDigits cs:=by
 rw[List.all_eq_true]
 constructor
 ·intro h c hc
  have:=h c hc
  unfold isF at this
  simpa using this
 ·intro h c hc
  have:=h c hc
  unfold isF
  simpa using this
noncomputable def ybN (f:List Nat):Bool:=decide (1<=f.length)&&decide (f.length<=4)&&f.all isF&&(decide (f=[48])||!decide (f.head?=some 48))
noncomputable def ya6 (cs:List Nat):Option Int:=if cs=[45,48] then none else
 if cs.head?=some 45 then (if ybN cs.tail=true then some (-(digitsVal cs.tail:Nat)) else none)
 else if ybN cs=true then some (digitsVal cs:Nat) else none
end TX
namespace TX
open PySem PySem.Builtin PySem.Builtin.Str PySem.NumText
def yeC (m:Nat):List Nat:=(Nat.toDigits 10 m).map Char.toNat
theorem yvD:∀ d:Nat,d < 10->(Nat.digitChar d).toNat=48+d:=by decide
theorem yeB {m:Nat}(h:m < 10):yeC m=[48+m]:=by
 unfold yeC
 rw[Nat.toDigits_of_lt_base h]
 show[(Nat.digitChar m).toNat]=_
 rw[yvD m h]
theorem yhC {m:Nat}(h:10<=m):yeC m=yeC (m / 10)++[48+m%10]:=by
 have hm:m%10 < 10:=Nat.mod_lt m (by decide)
 have t:Nat.toDigits 10 (m / 10)++Nat.toDigits 10 (m%10)=Nat.toDigits 10 (10*(m / 10)+m%10):=Nat.toDigits_append_toDigits (by decide) (by omega) hm
 rw[Nat.div_add_mod] at t
 have:=yeB hm
 unfold yeC at this ⊢
 rw[← t,qP,this]
theorem yhp (cs:List Nat)(c:Nat):digitsVal (cs++[c])=digitsVal cs*10+(c - 48):=by
 unfold digitsVal
 rw[List.foldl_append]
 rfl
structure yvK (m:Nat) (cs:List Nat):Prop where
 all:AllDigits cs
 ne:cs≠[]
 hd:1<=m->cs.head?≠some 48
 val:digitsVal cs=m
theorem ydz (m:Nat):yvK m (yeC m):=by
 induction m using Nat.strongRecOn with
 | _ m ih =>
  by_cases h:m < 10
  ·rw[yeB h]
   refine⟨λc hc=>?_,by simp,λq e=>?_,?_⟩
   ·have:c=48+m:=by simpa using hc
    omega
   ·have:48+m=48:=by simpa using e
    omega
   ·show 0*10+(48+m - 48)=m
    omega
  ·rw[yhC (by omega)]
   have i:=ih (m / 10) (by omega)
   have hm:m%10 < 10:=Nat.mod_lt m (by decide)
   refine⟨λc hc=>?_,by simp,λq e=>?_,?_⟩
   ·rcases List.mem_append.mp hc with z | z
    ·exact i.all c z
    ·have:c=48+m%10:=by simpa using z
     omega
   ·cases hh:yeC (m / 10) with
    | nil=>exact i.ne hh
    | cons a b =>
     rw[hh] at e
     refine i.hd (by omega) ?_
     rw[hh]
     exact e
   ·rw[yhp,i.val]
    omega
theorem yd1:∀ (k m:Nat),m < 10 ^ (k+1)->(yeC m).length<=k+1
 | 0,m,h=>by rw[yeB (by simpa using h)];simp
 | k+1,m,h=>by
  by_cases q:m < 10
  ·rw[yeB q];simp
  ·rw[yhC (by omega)]
   have:=yd1 k (m / 10) (by
    rw[Nat.pow_succ] at h
    exact Nat.div_lt_of_lt_mul (by rw[Nat.mul_comm];exact h))
   simp
   omega
theorem yom {m c:Nat}(h:isF c=false):yc4 c 0 (yeC m)=[]:=by
 rw[posF_mem]
 intro z
 have:=allDig.mpr (ydz m).all
 rw[List.all_eq_true] at this
 rw[this c z] at h
 cases h
theorem ymD {m:Nat}(h1:m<=9999):ybN (yeC m)=true:=by
 have d:=ydz m
 have l1:=yd1 3 m (by omega)
 have l0:1<=(yeC m).length:=by
  cases e:yeC m with
  | nil=>exact absurd e d.ne
  | cons a b=>simp
 unfold ybN
 rw[allDig.mpr d.all]
 simp only[Bool.and_eq_true,decide_eq_true_eq,Bool.or_eq_true,Bool.not_eq_true',decide_eq_false_iff_not]
 refine⟨⟨⟨l0,by omega⟩,trivial⟩,?_⟩
 by_cases q:m=0
 ·subst q;exact .inl rfl
 ·exact .inr (d.hd (by omega))
end TX
namespace L2
open PySem PySem.Spec PyProof.Rows
section
variable {X:Cx}
def yjQ:V->List V->Hp->VK->Prop:=λx vs H Q=>∃ a b,x=.str a/\vs=[.str b]/\(b.length==0)=false/\a.length+2<=sizeLine/\∀ p,H p=none->Q (.ref p) (upd H p (.lst ((Txt.split a b).map V.str)))
theorem ygN:∀ (k:Nat) (ts:List Str),Vals (ts.map V.str) (strsFrom k ts)
 | _,[]=>.nil
 | k,x :: r=>.cons ⟨_,rfl⟩ (ygN (k+1) r)
theorem yg5 (x:Str)(l:List Nat)(n:Nat):(Builtin.Str.partsBetween x l n).length=l.length+1:=by
 unfold Builtin.Str.partsBetween
 simp
theorem ymA:MtR X "str.split" yjQ:=by
 intro pins s σ H x vs v us Q I rx rv h
 obtain⟨a,b,rfl,rfl,hy,hz,q⟩:=h
 obtain⟨t,rfl⟩:=rx
 obtain⟨u,rfl,ru⟩:=rv.one
 obtain⟨t',rfl⟩:=ru
 have ol:=StrLaws.occ_length_le_len a b 0 a.length (a.length+1)
 have one:∀ tk,Txt.split a b=[a]->EP X pins σ Q (.ref s.heap.objs.size) { s with heap:=s.heap.push { cls:=.type "list",data:=.seq [Value.str a t].toArray },toks:=tk }:=λtk e=>by
  have qq:=q s.heap.objs.size I.fresh
  rw[e] at qq
  exact⟨.ref _,_,I.lnew (t':=tk) (ys:=[.str a]) (its:=[Value.str a t]) (.cons ⟨_,rfl⟩ .nil) (by show 1<=sizeLine;decide),rfl,qq⟩
 cases h1:(decide (a.length < b.length)||decide (Builtin.Str.strKind a < Builtin.Str.strKind b))
 ·cases hf:(Builtin.Str.occurrences a b 0 a.length (a.length+1)).isEmpty
  ·refine call_meets F.slot_str_split (typeIs_str _ _ _) F.entry_str_split (F.args_str_split_2 _ _) (meets_str_split_sep a b t t' h1 hy hf (by omega) (by rw[yg5];omega)) ?_
   have e:Txt.split a b=Builtin.Str.partsBetween a (Builtin.Str.occurrences a b 0 a.length (a.length+1)) b.length:=(if_neg (ne_true_of_eq_false h1)).trans (if_neg (ne_true_of_eq_false hf))
   have qq:=q s.heap.objs.size I.fresh
   rw[e] at qq
   exact⟨.ref _,_,I.lnew (ys:=(Builtin.Str.partsBetween a (Builtin.Str.occurrences a b 0 a.length (a.length+1)) b.length).map V.str) (ygN _ _) (by rw[qM,yg5];omega),rfl,qq⟩
  ·exact call_meets F.slot_str_split (typeIs_str _ _ _) F.entry_str_split (F.args_str_split_2 _ _) (meets_str_split_not_found a b t t' h1 hy hf) (one s.toks ((if_neg (ne_true_of_eq_false h1)).trans (if_pos hf)))
 ·exact call_meets F.slot_str_split (typeIs_str _ _ _) F.entry_str_split (F.args_str_split_2 _ _) (meets_str_split_cannot_occur a b t t' h1) (one s.toks (if_pos h1))
def ypW:V->List V->Hp->VK->Prop:=λx vs H Q=>∃ a b,x=.str a/\vs=[.str b]/\(b.length==0)=false/\a.length<=sizeLine/\∀ p,H p=none->Q (.ref p) (upd H p (.tup [.str (Txt.partition a b).1,.str (Txt.partition a b).2.1,.str (Txt.partition a b).2.2]))
theorem Inv.tnew {pins:List (Addr×Obj)}{σ:St}{H:Hp}{s:Shared}{ys:List V}{its:List Value}{t':Nat}(I:Inv X pins σ H s)(hv:Vals ys its)(hz:ys.length<=sizeLine) :
  Inv X pins σ (upd H s.heap.objs.size (.tup ys)) { s with heap:=s.heap.push { cls:=.type "tuple",data:=.seq its.toArray },toks:=t' } :=
 I.laid (t':=t') (λb u e=>Heap.get?_push_of_some _ e) (qR _) ⟨hz,its,hv,_,Heap.get?_push_size _ rfl,rfl,_,rfl⟩
theorem ydO:MtR X "str.partition" ypW:=by
 intro pins s σ H x vs v us Q I rx rv h
 obtain⟨a,b,rfl,rfl,hy,hz,q⟩:=h
 obtain⟨t,rfl⟩:=rx
 obtain⟨u,rfl,ru⟩:=rv.one
 obtain⟨t',rfl⟩:=ru
 have qq:=q s.heap.objs.size I.fresh
 refine call_meets F.slot_str_partition (typeIs_str _ _ _) F.entry_str_partition (F.args_str_partition_2 _ _) (meets_str_partition a b t t' hy hz) ?_
 unfold Txt.partition at qq
 revert qq
 cases Builtin.Str.occurrences a b 0 a.length 1 with
 | nil=>intro qq;exact⟨.ref _,_,I.tnew (ys:=[.str a,.str Str.empty,.str Str.empty]) (.cons ⟨_,rfl⟩ (.cons ⟨_,rfl⟩ (.cons ⟨_,rfl⟩ .nil))) (by show 3<=sizeLine;decide),rfl,qq⟩
 | cons i r=>intro qq;exact⟨.ref _,_,I.tnew (ys:=[.str (Builtin.Str.strSub a 0 i),.str b,.str (Builtin.Str.strSub a (i+b.length) a.length)]) (.cons ⟨_,rfl⟩ (.cons ⟨_,rfl⟩ (.cons ⟨_,rfl⟩ .nil))) (by show 3<=sizeLine;decide),rfl,qq⟩
theorem yen:ybF X (.type "int") (λxs H Q=>∃ z n,xs=[.str z]/\z.length<=640/\PySem.intText? z=some n/\Q (.int n) H):=by
 intro pins s σ H xs us Q I r h
 obtain⟨z,n,rfl,hl,hn,q⟩:=h
 obtain⟨u,rfl,ru⟩:=ydG r
 obtain⟨t,rfl⟩:=ru
 exact PySem.W.KIN.call_text hn hl ⟨.int n,H,I.tok _,⟨_,rfl⟩,q⟩
end
end L2
namespace L2
open PySem PySem.W PyProof.Rows
section
variable {c:Nat->Nat->Bool} {n:Nat}
structure yrw (c:Nat->Nat->Bool) (n:Nat):Prop where
 irr:∀ i,i < n->c i i=false
 tr:∀ i j k,i < n->j < n->k < n->c i j=true->c j k=true->c i k=true
 tot:∀ i j,i < n->j < n->c i j=false->c j i=false->i=j
noncomputable def G (p:Array Nat)(k:Nat):Nat:=p.getD k 0
structure yvs (n:Nat) (p:Array Nat):Prop where
 size:p.size=n
 perm:p.toList.Perm (List.range n)
def Up (c:Nat->Nat->Bool)(p:Array Nat)(k:Nat):Prop:=∀ a b,a<=b->b < k->c (G p b) (G p a)=false
end
end L2
namespace L2
open PySem PySem.Spec PySem.W PyProof.Rows
section
variable {X:Cx} {pins:List (Addr×Obj)} {σ:St} {H:Hp} {s:Shared} {A:Around} {E:Value->Shared->Prop} {a kS:Addr} {vs ks:List Value} {e e1 n:Nat} {f:Value}
structure yvN (X:Cx) (A:Around) (ks:List Value) (c:Nat->Nat->Bool) (n:Nat) (s:Shared):Prop where
 ord:yrw c n
 kind:2<=n->∃ κ,(∀ (Q:SortKind->Shared->Prop) (E:Value->Shared->Prop),Q κ s->wpAny (model X.prog X.w) A (keyKind' ks.toArray) Q E s)/\∀ i j C,i < n->j < n->C (c i j) s->kas_ask X.prog X.w A κ ks i j C s
structure yvG (c:Nat->Nat->Bool) (n:Nat) (p:Array Nat):Prop where
 shuf:yvs n p
 up:Up c p n
end
end L2
namespace L2
open PySem PySem.Spec PySem.W PyProof.Rows
section
variable {X:Cx} {pins:List (Addr×Obj)} {σ:St} {H:Hp} {s:Shared} {A:Around} {E:Value->Shared->Prop} {a kS:Addr} {vs:List Value} {e1 n:Nat} {f:Value}
end
end L2
namespace L2
open PySem PySem.Spec PySem.W PyProof.Rows
section
variable {X:Cx} {pins l:List (Addr×Obj)} {σ:St} {H:Hp} {s:Shared} {A:Around} {E:Value->Shared->Prop}
end
end L2
namespace L2
open PySem PySem.Spec PySem.W PyProof.Rows
section
variable {X:Cx} {pins:List (Addr×Obj)} {σ:St} {H:Hp} {s:Shared} {A:Around} {E:Value->Shared->Prop}
end
end L2
namespace L2
open PySem PySem.Spec PySem.W PyProof.Rows
section
variable {X:Cx}
end
end L2
namespace L2
open PySem PySem.Spec PyProof.Rows
section
variable {X:Cx}
def ysE:V->List V->Hp->VK->Prop:=λx vs H Q=>∃ a b,x=.str a/\vs=[.str b]/\Q (.bl (PySem.Txt.endswith a b)) H
theorem ypD:MtR X "str.endswith" ysE:=by
 intro pins s σ H x vs v us Q I rx rv h
 obtain⟨a,b,rfl,rfl,q⟩:=h
 obtain⟨t,rfl⟩:=rx
 obtain⟨u,rfl,ru⟩:=rv.one
 obtain⟨t',rfl⟩:=ru
 exact SC.endswith ⟨.bl _,H,I,rfl,q⟩
def ynF:V->List V->Hp->VK->Prop:=λx vs H Q=>∃ a b,x=.str a/\vs=[.str b]/\a.length<=sizeLine/\Q (.str (PySem.Txt.rstripChars a b)) H
theorem ymL:MtR X "str.rstrip" ynF:=by
 intro pins s σ H x vs v us Q I rx rv h
 obtain⟨a,b,rfl,rfl,hl,q⟩:=h
 obtain⟨t,rfl⟩:=rx
 obtain⟨u,rfl,ru⟩:=rv.one
 obtain⟨t',rfl⟩:=ru
 exact SCL.rstripChars (λt'' k _=>⟨.str _,H,I.tok _,⟨_,rfl⟩,q⟩) hl
def ykJ:V->List V->Hp->VK->Prop:=λx vs H Q=>∃ a b i rest,x=.str a/\vs=[.str b]/\Builtin.Str.occurrences a b 0 a.length 1=i :: rest/\Q (.int (i:Nat)) H
theorem ylH:MtR X "str.index" ykJ:=by
 intro pins s σ H x vs v us Q I rx rv h
 obtain⟨a,b,i,rest,rfl,rfl,ho,q⟩:=h
 obtain⟨t,rfl⟩:=rx
 obtain⟨u,rfl,ru⟩:=rv.one
 obtain⟨t',rfl⟩:=ru
 exact SC.index ho ⟨.int _,H,I.tok _,⟨_,rfl⟩,q⟩
end
structure Mk0 (K:qF) (C:Addr):Prop where
 makes:PySem.W.makesIn K C=true
 init:PySem.W.findIn K (.ref C) "__init__"=some (some (.builtin "object.__init__"))
 kp:PySem.W.keepIn K (.ref C)=true
noncomputable def ysI (C:Addr):TE:=λ_ H Q=>∀ x dx,H x=none->H dx=none->dx≠x->Q (.ref x) (upd (upd H dx (.own x)) x (.ins C dx []))
section
variable {X:Cx} {C:Addr} {x:Str} {p pos:Pos}
theorem yn9 {pins:List (Addr×Obj)}{σ:St}{H:Hp}{s:Shared}{Q:VK}(M:Mk0 X.K C)(I:Inv X pins σ H s)(h:ysI C σ H Q):wpAny (model X.prog X.w) X.A (call (.ref C) []) (EP X pins σ Q) X.xe s:=by
 have J:=Inv.made (C:=C) I
 have q:=h _ _ (I.hok.fresh (Nat.le_succ s.heap.objs.size)) (I.hok.fresh (qR s.heap.objs.size)) (Nat.ne_of_lt (Nat.lt_succ_self _))
 have g:((s.heap.push PySem.W.emptyDict).push (PySem.W.instObj C s.heap.objs.size)).get? (s.heap.objs.size+1)=some (PySem.W.instObj C s.heap.objs.size):=by heap_get
 have t:PySem.W.Looks (model X.prog X.w) _ (typeOf (.ref (s.heap.objs.size+1))) (.ref C):=(PySem.W.Looks.ld g).andThen .now
 have z:PySem.W.Looks (model X.prog X.w) _ (isInstance (.ref (s.heap.objs.size+1)) (.type "object")) true:=t.andThen (PySem.W.makes_of J.kIn M.makes).top
 refine wpAny_call (ykp I.kIn M.makes M.init (λv=>.of_pure (PySem.W.oi_bind v)) (codeAny_call_builtin PySem.W.oi_plain PySem.W.entry_oi (PySem.W.check_slot PySem.W.oi_kind PySem.W.oi_split z (PySem.W.oi_args _) ?_)))
 exact PySem.W.oi_run (.ref (s.heap.objs.size+1))▸wpAny_pure ⟨rfl,.ref _,_,J,rfl,q⟩
theorem yc5 (M:Mk0 X.K C)(hg:Gl X x)(hm:X.mg x=some (.ref C))(hdb:(x==("__debug__" : Str))=false:=by decide):PE X (.Call (.Name x p) [] [] pos) (ysI C):=by
 intro pins s σ H Q I h
 refine wpAny_Call_Name_kw (yeq I hg hm ?_ hdb)
 exact PySem.W.callWith_K0 I.kIn M.kp (yn9 M I h)
end
theorem KV.at {kvs:List (Key×V)}{vs:List (Key×Value)}(r:KV kvs vs):∀ {i:Nat} {k:Key} {v:V},kvs[i]?=some (k,v)->∃ u,vs[i]?=some (k,u)/\RelV v u:=by
 unfold KV at r
 induction r with
 | nil=>intro i k v e;cases e
 | @cons p q ps qs h t ih =>
  intro i k v e
  cases i with
  | zero=>cases e;exact⟨q.2,congrArg some (Prod.ext h.1.symm rfl),h.2⟩
  | succ i=>exact ih e
theorem ypP {P:Program}{w:World}{k:Key}{u:Value}(e:(ya7 P w).is k u=true):RelV (kV k) u:=by
 rcases yba e with ⟨i,t,rfl,rfl⟩ | ⟨x,t,rfl,rfl⟩
 ·exact⟨t,rfl⟩
 ·exact⟨t,rfl⟩
theorem Inv.freeze {X:Cx}{pins:List (Addr×Obj)}{σ:St}{H:Hp}{s:Shared}{d:Addr}{o:Obj}{kvs:List (Key×V)}(I:Inv X pins σ H s)(e:H d=some (.dK kvs))(g:s.heap.get? d=some o):Inv X pins σ (upd H d (.frz o (.dK kvs))) s:=by
 have ne:∀ {b:Addr} {u:HO},H b=some u->u≠.dK kvs->b≠d:=λh n z=>n (by rw[z,e] at h;exact(Option.some.inj h).symm)
 refine I.un (t':=s.toks) ⟨λb o q n _ _=>q,λb o q n _ _=>⟨o.slots,q⟩,λb o q n _=>?_,λb o q _=>⟨o,q⟩,λb xs q=>?_,λb o u q=>?_,λb ps q=>⟨#[],?_⟩⟩ λb u q=>?_
 ·rw[yas λz=>by rw[z,e] at n;cases n];exact n
 ·rw[yas (ne q (by simp))];exact q
 ·rw[yas (ne q (by simp))];exact q
 ·rw[yas (ne q (by simp)),q];simp
 ·have st:∀ {b:Addr} {u:HO},H b=some u->ObjOk X.prog X.w (upd H d (.frz o (.dK kvs))) s.heap b u:=λ{b u} q=>(I.hok b u q).stay (λ_ _ _ z=>z) (λc z=>by rw[yas (ne z (by simp))];exact z) λc xs z=>by rw[yas (ne z (by simp))];exact z
  by_cases h:b=d
  ·subst h
   rw[yac] at q
   cases q
   exact⟨g,st e⟩
  ·rw[yas h] at q
   exact st q
noncomputable def Iti (d:Addr)(o:Obj)(kvs:List (Key×V)):It :=
 ⟨λi H=>H d=some (.frz o (.dK kvs))/\i < kvs.length,λi H x H'=>∃ p k v,x=.ref p/\H p=none/\H'=upd H p (.tup [kV k,v])/\kvs[i]?=some (k,v),λi H=>H d=some (.frz o (.dK kvs))/\kvs.length<=i⟩
theorem ynJ {P:Program}{w:World}{H:Hp}{h:Heap}{d:Addr}{o:Obj}{kvs:List (Key×V)}{es:Array DictEntry}{ep:Nat}(ok:HOk P w H h)(e:H d=some (.frz o (.dK kvs)))(ho:o.data=.dict es ep):∃ vs,KV kvs vs/\h.DictAt (ya7 P w) d vs ep/\vs.length=kvs.length:=by
 obtain⟨g,_,_,vs,r,o',es',ep',g',c,dt,rest⟩:=ok d _ e
 rw[g] at g'
 cases g'
 rw[ho] at dt
 cases dt
 exact⟨vs,r,⟨o,es,g,c,ho,rest⟩,r.length.symm⟩
theorem yjj {P:Program}{w:World}{K:qF}{elts:List Expr}{x1}{tp:Pos}(d it:Addr)(o:Obj)(kvs:List (Key×V))(es:Array DictEntry)(ep:Nat)(ho:o.data=.dict es ep) :
  ylQ P w K (.Tuple elts x1 tp) (Iti d o kvs) [it] it (λi h=>∃ ok ov,IsItemIter h it d i kvs.length ep ok ov) where
 mem:=by simp
 obj:=λi h ⟨ok,ov,st⟩ b hb=>by
  cases List.mem_singleton.mp hb
  exact⟨_,st,λv z=>by cases z⟩
 keep:=λi h h' ⟨ok,ov,st⟩ k=>⟨ok,ov,k it (by simp) _ st⟩
 item:=by
  intro X hP hw hK hc i pins s σ H E I hf ⟨ok,ov,st⟩ ⟨hd,hi⟩
  subst hP hw hK
  obtain⟨f0,f1,f2,f3,f4,f5⟩:=hf it (by simp)
  obtain⟨vs,r,da,el⟩:=ynJ I.hok hd ho
  obtain⟨⟨k,v⟩,hx⟩:∃ kv,kvs[i]?=some kv:=⟨kvs[i],qG hi⟩
  obtain⟨u,hu,ru⟩:=r.at hx
  have hit:it < s.heap.objs.size:=Heap.lt_size st
  rw[← el] at st
  refine wpAny_pyNext_items_item st da hu λkey h' hk heo ht' hz' hk'=>?_
  refine⟨.ref s.heap.objs.size,rfl,wpAny_letOwnedTupleGo_items heo λh2 he2 sb2=>?_⟩
  have sb2:Heap.SameBut it h' h2:=sb2
  have fr:H s.heap.objs.size=none:=I.hok.fresh (qR _)
  have kp:∀ b o,b≠it->s.heap.get? b=some o->h2.get? b=some o:=λb o h1 h4=>(sb2.2 b h1).trans (hk' b o h1 h4)
  have kq:∀ b o,b∉[it]->s.heap.get? b=some o->h2.get? b=some o:=λb o hn=>kp b o λz=>hn (by simp[z])
  have tne:∀ b u,H b=some u->b≠it:=λb u hb=>yak hb f0
  have ltp:∀ {b:Addr} {o:Obj},s.heap.get? b=some o->b≠s.heap.objs.size:=λh=>Nat.ne_of_lt (Heap.lt_size h)
  refine⟨.ref s.heap.objs.size,upd H s.heap.objs.size (.tup [kV k,v]),?_,rfl,⟨_,k,v,rfl,fr,rfl,hx⟩,⟨key,u,by rw[← el];exact he2⟩,λb hb=>?_⟩
  ·refine Inv.step (s:=s) (h':=h2) (g':=s.gens) (d':=s.drawn) (t':=s.toks) (ch:=[it]) I (λb hb=>?_) (λb o _ _ hcn he _=>kq b o hcn he) (λb o _ _ hcn he _=>⟨o.slots,kq b o hcn he⟩) (λb o _ he hn=>by rw[yas (ltp he)];exact hn) (λb o hcn he=>⟨o,kq b o hcn he⟩)
    (λb ys hb=>by rw[yas (yak hb fr)];exact hb) (λb o ys hb=>by rw[yas (yak hb fr)];exact hb) (λb ps hb=>⟨#[],by rw[yas (yak hb fr),hb];simp⟩) (λm ⟨o,es,ep,ho,r⟩=>⟨o,es,ep,kp _ o (Ne.symm f1) ho,r⟩) (λb ob hb=>?_) I.bare
   ·cases List.mem_singleton.mp hb
    exact⟨f3,f1,f4,f5⟩
   ·by_cases hbp:b=s.heap.objs.size
    ·subst hbp
     rw[yac] at hb
     cases hb
     exact⟨by show 2<=sizeLine;decide,[key,u],.cons (ypP hk) (.cons ru .nil),_,(sb2.2 _ (Nat.ne_of_gt hit)).trans ht',rfl,_,rfl⟩
    ·rw[yas hbp] at hb
     refine(I.hok b ob hb).stay (λc v hcv q=>?_) (λc hc'=>by rw[yas (yak hc' fr)];exact hc') λc ys hc'=>by rw[yas (yak hc' fr)];exact hc'
     rcases hcv with z | z
     ·rw[z] at q ⊢
      exact kp b v (tne b ob hb) q
     ·exact kp c v (tne c _ z) q
  ·cases List.mem_singleton.mp hb
   rw[yas (Nat.ne_of_lt hit)]
   exact f0
 done:=by
  intro X hP hw hK hc i pins s σ H E I hf ⟨ok,ov,st⟩ ⟨hd,hi⟩
  subst hP hw hK
  obtain⟨f0,f1,f2,f3,f4,f5⟩:=hf it (by simp)
  obtain⟨vs,r,da,el⟩:=ynJ I.hok hd ho
  rw[← el] at st
  exact wpAny_pyNext_items_end (I.ok.hd hc) st da (by rw[List.getElem?_eq_none_iff];omega) λh' eb=>⟨rfl,I.turned (t':=s.toks) (λb o hb e=>eb b o hb e) f0 f1 f3 f4 f5⟩
 self:=λ_ _ _ _ _ ⟨ok,ov,st⟩ h=>PySem.W.kcp_self st h
structure M0 (X:Cx) (o:Expr) (m:Str) (apos:Pos) (cpos:Pos):Prop where
 base:attributeBase o m X.env (eval o X.env)=eval o X.env
 few:((backTo cpos (starEach [] X.env)).all (λx=>!x.1)&&(backToKw cpos (keywordEach [] X.env)).all (λx=>x.1.isSome)
  && decide (([]:List Expr).length+([]:List Keyword).length+(if ([]:List Keyword).isEmpty then 0 else 1) < 30))=true
 line:(apos.endLine==cpos.line)=true
 trees:backTo cpos (starEach [] X.env)=[]
section
variable {X:Cx}
def ynP (td:TE):TI:=fun σ H R=>td σ H λx H1=>∃ d kvs,x=.ref d/\H1 d=some (.dK kvs)/\∀ o,R (Iti d o kvs) (upd H1 d (.frz o (.dK kvs)))
theorem ymQ {elts:List Expr}{x1}{tp:Pos}{e:Expr}{td:TE}{apos pos:Pos}(he:PE X e td)(m:M0 X e "items" apos pos):PI X (.Tuple elts x1 tp) (.Call (.Attribute e "items" apos) [] [] pos) (ynP td):=by
 intro pins s σ H R I h
 refine wpAny_Call_method m.base m.few m.line PySem.F.plainAttrs_dict PySem.F.slot_dict_items PySem.F.type_dict_items (thn (he pins s σ H _ I h) λu s1 zq=>?_)
 obtain⟨x,H1,I1,rx,d,kvs,ex,hd,q1⟩:=zq
 subst ex
 obtain rfl:u=Value.ref d:=rx
 obtain⟨t1,t2,t3⟩:=ynC I1 (.inl ⟨kvs,.inl hd⟩)
 refine⟨t1,t2,?_⟩
 rw[m.trees]
 obtain⟨_,_,vs,r,o,es,ep,g,c,dt,rest⟩:=yli I1.hok hd
 refine Calls.callWith_builtin rfl (PySem.evalArgs_none ?_)
 refine call_meetsIn PySem.F.slot_dict_items t1 PySem.F.entry_dict_items (PySem.F.args_dict_items_1 _) (meets_dict_items (ya7 X.prog X.w) d t3) ⟨⟨vs,o,es,ep,g,c,dt,rest⟩,?_⟩
 have k1:∀ b ob,s1.heap.get? b=some ob->(s1.heap.push { cls:=.type "dict_items",data:=.fields #[.ref d] }).get? b=some ob:=λb ob e=>Heap.get?_push_of_some _ e
 have I2:=I1.kept (t':=s1.toks) k1
 refine wpAny_pyIter_items (knd:=ya7 X.prog X.w) (d:=d) (kvs:=vs) (ep:=ep) ⟨_,Heap.get?_push_size _ rfl,rfl,rfl⟩ ⟨o,es,k1 _ _ g,c,dt,rest⟩ ?_
 have k2:∀ b ob,(s1.heap.push { cls:=.type "dict_items",data:=.fields #[.ref d] }).get? b=some ob->((s1.heap.push { cls:=.type "dict_items",data:=.fields #[.ref d] }).push { cls:=.type "dict_itemiterator",data:=.fields #[.none,.bool false,.ref d,.int 0 0,.int vs.length 0,.int ep 0,.none,.none] }).get? b=some ob:=λb ob e=>Heap.get?_push_of_some _ e
 have I3:=(I2.kept (t':=s1.toks) k2).freeze hd (k2 _ _ (k1 _ _ g))
 have nd:(s1.heap.push { cls:=.type "dict_items",data:=.fields #[.ref d] }).objs.size≠d:=Nat.ne_of_gt (Heap.lt_size (k1 _ _ g))
 refine⟨_,[(s1.heap.push { cls:=.type "dict_items",data:=.fields #[.ref d] }).objs.size],_,_,_,rfl,I3,yjj d _ o kvs es ep dt,⟨.none,.none,?_⟩,λb hb=>?_,q1 o⟩
 ·show Heap.get? _ _=_
  rw[r.length]
  exact Heap.get?_push_size _ rfl
 ·cases List.mem_singleton.mp hb
  exact I2.fpOk (qR _) (by rw[yas nd];exact I2.hok.fresh (qR _))
theorem ykr {d:Addr}{o:Obj}{kvs:List (Key×V)}{g:TG}{tb:TS}{D:yeZ}{σ:St}{H:Hp}(Pv:Nat->St->Hp->Prop)(h0:Pv 0 σ H)(hl:∀ i σ H,Pv i σ H->H d=some (.frz o (.dK kvs)))
  (hs:∀ i k v p σ H,kvs[i]?=some (k,v)->Pv i σ H->H p=none->g (.ref p) σ (upd H p (.tup [kV k,v])) fun σ2 H2=>tb { D with nx:=Pv (i+1),ct:=Pv (i+1),bk:=D.nx } σ2 H2) (hd:∀ σ H,Pv kvs.length σ H->D.nx σ H) :
  ∃ W:Nat->Nat->St->Hp->Prop,(∃ m,W 0 m σ H)/\∀ i m σ H,W i m σ H ->
   ((Iti d o kvs).stop i H/\D.nx σ H)∨((Iti d o kvs).go i H/\∃ N:St->Hp->Prop,(∀ σ' H',N σ' H'->∃ m',m' < m/\W (i+1) m' σ' H')/\∀ x H',(Iti d o kvs).yld i H x H'->g x σ H' fun σ2 H2=>tb { D with nx:=N,ct:=N,bk:=D.nx } σ2 H2):=by
 refine⟨λi m σ H=>m=kvs.length - i/\i<=kvs.length/\Pv i σ H,⟨kvs.length,by simp,Nat.zero_le _,h0⟩,?_⟩
 rintro i m σ H ⟨rfl,hi,p⟩
 by_cases c:i < kvs.length
 ·refine .inr ⟨⟨hl i σ H p,c⟩,Pv (i+1),fun σ' H' p'=>⟨kvs.length - (i+1),by omega,rfl,c,p'⟩,λx H' y=>?_⟩
  obtain⟨a,k,v,rfl,ha,rfl,hx⟩:=y
  exact hs i k v a σ H hx p ha
 ·have e:i=kvs.length:=by omega
  subst e
  exact .inl ⟨⟨hl _ σ H p,qR _⟩,hd σ H p⟩
def yuX:V->List V->Hp->VK->Prop:=λx vs H Q=>∃ d e kvs more,x=.ref d/\vs=[.ref e]/\d≠e/\H d=some (.dK kvs)/\H e=some (.dK more)/\kvs.length+more.length<=sizeLine/\Q .non (upd H d (.dK (yb7 kvs more)))
theorem ykH:MtR X "dict.update" yuX:=by
 intro pins s σ H x vs v us Q I rx rv h
 obtain⟨d,e,kvs,more,rfl,rfl,ne,hd,he,hz,q⟩:=h
 cases rx
 obtain⟨u,rfl,ru⟩:=rv.one
 cases ru
 obtain⟨z1,s1,vs,r,dd⟩:=yli I.hok hd
 obtain⟨z2,s2,ws,r2,de⟩:=yli I.hok he
 refine call_meetsIn PySem.F.slot_dict_update dd.typeIs PySem.F.entry_dict_update (PySem.F.args_dict_update_2 _ _) (meets_dict_update (ya7 X.prog X.w) d e ne s2) ⟨vs,ws,dd,de,by rw[← r.length,← r2.length];exact hz,λh' d1 d2 hs=>?_⟩
 have ex:∃ q,h'.get? d=some q:=let ⟨q,_,_,hq,_⟩:=d1;⟨q,hq⟩
 exact⟨.non,_,yfM (t':=s.toks) I (by rw[hd];exact True.intro) hs ex (yjG (Nat.le_trans (ycy _ _) hz) s1 (r2.merge r) d1),rfl,q⟩
end
theorem yiS (l:Addr)(xs:Array Value)(x:Str)(t:Tok)(ha:x.cps.all (· < 128)=true):Meets (Builtin.«zip.__new__» ⟨[.type "zip",.ref l,.str x t],[]⟩) (λ_ R s=>s.heap.IsList l xs /\
  ∀ h',IsZip h' (s.heap.objs.size+4) (s.heap.objs.size+2) (s.heap.objs.size+3) .none->IsPair h' (s.heap.objs.size+2) (.ref s.heap.objs.size) (.ref (s.heap.objs.size+1))->IsPair h' (s.heap.objs.size+3) .none .none ->
   h'.IsListIter s.heap.objs.size l 0->h'.IsStrIter (s.heap.objs.size+1) "str_ascii_iterator" x t 0->(∀ c o,s.heap.get? c=some o->h'.get? c=some o)->R (.ok (.ret (.ref (s.heap.objs.size+4)))) { s with heap:=h' }) :=
 .of_wp λprog w A R s h=>by
  obtain⟨hp,g,d,tk,os⟩:=s
  obtain⟨t1,h⟩:=h
  have sub:=sub_zip
  have p1:Heap.IsList (Shared.heap ⟨hp,g,d,tk,os⟩) l xs:=t1
  wp_walk using wpAny_pyIter_list p1,wpAny_pyIter_ascii ha
  obtain⟨q0,q1,q2,q3,q4,q5⟩:=yp9 hp { cls:=.type "list_iterator",data:=.fields #[.ref l,.int 0 0] } { cls:=.type "str_ascii_iterator",data:=.fields #[.str x t,.int 0 0] } { cls:=.type "tuple",data:=.seq #[.ref hp.objs.size,.ref (hp.objs.size+1)] } { cls:=.type "tuple",data:=.seq #[.none,.none] } { cls:=.type "zip",data:=.fields #[.none,.bool false,.bool false,.ref (hp.objs.size+2),.ref (hp.objs.size+3)] } rfl rfl rfl rfl rfl
  have fin:=h _ q4 q2 q3 ⟨_,q0,rfl,rfl⟩ ⟨_,q1,rfl,rfl⟩ q5
  simp only[Heap.size_push]
  exact⟨_,rfl,fin⟩
section
variable {X:Cx}
def ypS (K:qF)(a:Addr)(z:Str):It :=
 ⟨λi H=>∃ xs x c,SqL K H a xs/\xs[i]?=some x/\z.cps[i]?=some c,λi H x H'=>∃ p v c,x=.ref p/\H p=none/\H'=upd H p (.tup [v,.str ⟨#[c]⟩])/\z.cps[i]?=some c/\∀ xs,SqL K H a xs->xs[i]?=some v,
  λi H=>∃ xs,SqL K H a xs/\xs.length=i⟩
noncomputable def ynM (z TI TO i1 i2 a:Addr)(x:Str)(t:Tok)(i:Nat)(h:Heap):Prop:=IsZip h z TI TO .none/\IsPair h TI (.ref i1) (.ref i2)/\(∃ u v,IsPair h TO u v)/\h.IsListIter i1 a i/\h.IsStrIter i2 "str_ascii_iterator" x t i
theorem ym4 {h:Heap}{z TI TO i1 i2 a:Addr}{i:Nat}{xs:Array Value}{x:Str}{t:Tok}(F:ypA z TI TO i1 i2)(st:ynM z TI TO i1 i2 a x t i h)(ha:h.IsList a xs):yh5 z TO i1 i2 [i1,a] [i2]/\a≠i1:=by
 obtain⟨s1,s2,⟨u,v,s3⟩,⟨o4,s4,c4,_⟩,⟨o5,s5,c5,_⟩⟩:=st
 obtain⟨oa,ga,ca,_⟩:=ha
 have az:a≠z:=ybs ga s1 (by rw[ca];show Value.type "list" ≠ .type "zip";decide)
 have ao:a≠TO:=ybs ga s3 (by rw[ca];show Value.type "list" ≠ .type "tuple";decide)
 have a1:a≠i1:=ybs ga s4 (by rw[ca,c4];decide)
 have a2:a≠i2:=ybs ga s5 (by rw[ca,c5];decide)
 have off:∀ {x y c:Addr},c≠x->c≠y->c∉[x,y]:=λp q m=>by
  simp only[List.mem_cons,qk,or_false] at m
  exact m.elim p q
 have one:∀ {x c:Addr},c≠x->c∉[x]:=λp m=>p (List.mem_singleton.mp m)
 exact⟨⟨off F.a3.symm az.symm,one F.a4.symm,off F.a8 ao.symm,one F.a9,one F.a0,off F.a0.symm a2.symm,F.a2,F.a3,F.a4,F.a8,F.a9⟩,a1⟩
theorem yjH {P:Program}{w:World}{K:qF}{elts:List Expr}{x1}{tp:Pos}{z TI TO i1 i2 a:Addr}{txt:Str}{t:Tok}(F:ypA z TI TO i1 i2):ylQ P w K (.Tuple elts x1 tp) (ypS K a txt) [z,TI,TO,i1,i2] z (ynM z TI TO i1 i2 a txt t) where
 mem:=by simp
 obj:=λi h st c hc=>by
  obtain⟨s1,s2,⟨u,v,s3⟩,⟨o4,s4,_,d4⟩,⟨o5,s5,_,d5⟩⟩:=st
  simp only[List.mem_cons,qk,or_false] at hc
  rcases hc with rfl | rfl | rfl | rfl | rfl
  ·exact⟨_,s1,λv=>nofun⟩
  ·exact⟨_,s2,λv=>nofun⟩
  ·exact⟨_,s3,λv=>nofun⟩
  ·exact⟨_,s4,λv e=>by rw[d4] at e;cases e⟩
  ·exact⟨_,s5,λv e=>by rw[d5] at e;cases e⟩
 keep:=λi h h' st k=>by
  obtain⟨s1,s2,⟨u,v,s3⟩,s4,⟨o5,e5,r5⟩⟩:=st
  exact⟨k _ (by simp) _ s1,k _ (by simp) _ s2,⟨u,v,k _ (by simp) _ s3⟩,s4.at λo e=>k _ (by simp) o e,⟨o5,k _ (by simp) _ e5,r5⟩⟩
 item:=by
  intro X hP hw hK hc i pins s σ H E I hf st hg
  subst hP hw hK
  obtain⟨xs,x,c,hx,ex,ey⟩:=hg
  obtain⟨itx,rx,px,_⟩:=I.list hx
  obtain⟨u,eu,ru⟩:=rx.get ex
  obtain⟨O,na⟩:=ym4 F st px.isList
  obtain⟨s1,s2,⟨p,q,s3⟩,s4,s5⟩:=st
  have hd:X.A.in1.handled=none:=I.ok.hd hc
  have li:i < itx.toArray.size:=by have:=(qE eu).1;simpa using this
  have lj:i < txt.cps.size:=(Array.getElem?_eq_some_iff.mp ey).1
  refine ycE (Draws.list hd i1 a na itx.toArray) (Draws.strAscii hd i2 txt t) O s1 s2 s3 ⟨s4,px.isList⟩ s5 li lj λu' v' h1 tk e1 e2 b1 b2 b3 b4 b5 kp=>?_
  have e1:itx[i]?=some u':=by simpa using e1
  obtain⟨c',tv,e2,rfl⟩:=e2
  rw[eu] at e1
  rw[ey] at e2
  cases e1
  cases e2
  refine⟨_,rfl,wpAny_letOwnedTupleGo_zip b1 λh2 c1 sb=>?_⟩
  have sb:Heap.SameBut z h1 h2:=sb
  have zl:s.heap.objs.size≠z:=Nat.ne_of_gt (Heap.lt_size s1)
  have fr:H s.heap.objs.size=none:=I.hok.fresh (qR _)
  have k2:∀ c o,c∉[z,TI,TO,i1,i2]->s.heap.get? c=some o->h2.get? c=some o:=λc o n e=>by
   simp only[List.mem_cons,qk,or_false,not_or] at n
   exact(sb.2 c n.1).trans (kp c o n.1 n.2.2.1 n.2.2.2.1 n.2.2.2.2 e)
  have T2:IsPair h2 TI (.ref i1) (.ref i2):=(sb.2 _ F.a1).trans (kp _ _ F.a1 F.a5 F.a6 F.a7 s2)
  refine⟨.ref s.heap.objs.size,_,I.tupBut (t':=tk) hf k2 (vs:=[x,.str ⟨#[c]⟩]) (its:=[u,.str ⟨#[c]⟩ tv]) (by show 2<=sizeLine;decide) (.cons ru (.cons ⟨_,rfl⟩ .nil)) ⟨_,(sb.2 _ zl).trans b5,rfl,_,rfl⟩,rfl,⟨_,x,c,rfl,fr,rfl,ey,λxs' hx'=>by rw[I.list_inj hx' hx];exact ex⟩,
   ⟨c1,T2,⟨_,_,(sb.2 _ F.a2).trans b2⟩,b3.1.extBut sb.extBut F.a3,b4.extBut sb.extBut F.a4⟩,λc hcm=>?_⟩
  have nb:c≠s.heap.objs.size:=by
   obtain⟨o4,g4,_⟩:=s4
   obtain⟨o5,g5,_⟩:=s5
   simp only[List.mem_cons,qk,or_false] at hcm
   rcases hcm with rfl | rfl | rfl | rfl | rfl
   ·exact zl.symm
   ·exact Nat.ne_of_lt (Heap.lt_size s2)
   ·exact Nat.ne_of_lt (Heap.lt_size s3)
   ·exact Nat.ne_of_lt (Heap.lt_size g4)
   ·exact Nat.ne_of_lt (Heap.lt_size g5)
  rw[yas nb]
  exact(hf c hcm).1
 done:=by
  intro X hP hw hK hc i pins s σ H E I hf st hg
  subst hP hw hK
  obtain⟨xs,hx,he⟩:=hg
  obtain⟨itx,rx,px,_⟩:=I.list hx
  have hd:X.A.in1.handled=none:=I.ok.hd hc
  obtain⟨s1,s2,⟨p,q,s3⟩,s4,s5⟩:=st
  have na:a≠i1:=by
   obtain⟨o,e,c,_⟩:=px.isList
   obtain⟨o4,e4,c4,_⟩:=id s4
   exact ybs e e4 (by rw[c,c4];decide)
  have az:a≠z:=by
   obtain⟨o,e,c,_⟩:=px.isList
   exact ybs e s1 (by rw[c];show Value.type "list" ≠ .type "zip";decide)
  have en:itx.toArray.size=i:=by rw[← he,rx.length];simp
  refine ycV (Draws.list hd i1 a na itx.toArray) (λm=>?_) F.a3 s1 s2 s3 ⟨by rw[en];exact s4,px.isList⟩ λh1 kp=>⟨rfl,?_⟩
  ·simp only[List.mem_cons,qk,or_false] at m
   exact m.elim (λe=>F.a3 e.symm) λe=>az e.symm
  have off:∀ b u,H b=some u->b∉[z,TI,TO,i1,i2]:=λb u h m=>by rw[(hf b m).1] at h;cases h
  have k2:∀ c o,c∉[z,TI,TO,i1,i2]->s.heap.get? c=some o->h1.get? c=some o:=λc o n e=>by
   simp only[List.mem_cons,qk,or_false,not_or] at n
   exact kp c o n.1 n.2.2.2.1 e
  exact I.step (g':=s.gens) (d':=s.drawn) (t':=s.toks) (ch:=[z,TI,TO,i1,i2]) (λb hb=>⟨(hf b hb).2.2.2.1,(hf b hb).2.1,(hf b hb).2.2.2.2⟩) (λb o _ _ n e _=>k2 b o n e) (λb o _ _ n e _=>⟨o.slots,k2 b o n e⟩) (λ_ _ _ _ n=>n)
   (λb o n e=>⟨o,k2 b o n e⟩) (λ_ _ h=>h) (λ_ _ _ h=>h) (λ_ ps h=>⟨#[],by rw[h];simp⟩) (λm hm=>hm.at λo e=>k2 _ o (λn=>(hf _ n).2.1 rfl) e) (λb u h=>(I.hok b u h).stay (λc v hc q=>k2 c v (hc.elim (λe=>e▸off b u h) λe=>off c _ e) q) (λ_ h=>h) λ_ _ h=>h) I.bare
 self:=λ_ _ _ _ _ st h=>wpAny_pyIter_zip st.1 h
def yoY (K:qF)(ta:TA):TI:=fun σ H R=>ta σ H λvs H1=>∃ a z,vs=[.ref a,.str z]/\z.cps.all (· < 128)=true/\(∃ xs,SqL K H1 a xs)/\R (ypS K a z) H1
theorem yoH {elts:List Expr}{x1}{tp:Pos}{a b:Expr}{ta:TA}{p pos:Pos}(hg:Gl X "zip")(hm:X.mg "zip"=none)(ha:PA X [a,b] ta)(hs:starEach [a,b] X.env=[(false,eval a X.env),(false,eval b X.env)]:=by rfl)(hs2:starEach [b] X.env=[(false,eval b X.env)]:=by rfl) :
  PI X (.Tuple elts x1 tp) (.Call (.Name "zip" p) [a,b] [] pos) (yoY X.K ta):=by
 intro pins s σ H R I h
 refine Call_ (ydH I hg hm yfP (PyProof.Rows.callWith_type1 (thn (ha pos pins s σ H _ I h) λus s1 zq=>?_) (by rw[hs,hs2]) (by rw[hs2];rfl)))
 obtain⟨vs,H1,I1,r1,q1⟩:=zq
 obtain⟨la,z,e,hz,⟨xs,hx⟩,q⟩:=q1
 subst e
 obtain⟨u,v,rfl,ru,rv⟩:=yfX r1
 cases ru
 obtain⟨t,rfl⟩:=rv
 have lt:∀ n,yfT X pins H1 (s1.heap.objs.size+n):=λn=>I1.fpOk (Nat.le_add_right _ _) (I1.hok.fresh (Nat.le_add_right _ _))
 have ne:∀ {n m:Nat},n≠m->s1.heap.objs.size+n≠s1.heap.objs.size+m:=λh e=>h (Nat.add_left_cancel e)
 obtain⟨itx,rx,px,_⟩:=I1.list hx
 refine callType_new PySem.F.called_zip (by decide) (PySem.F.typeCall_zip_2 _ _) (PySem.F.newCall_zip_2 _ _) (λo=>PySem.F.args_object_init_3 o _ _) PySem.F.entry_zip_new (yiS la itx.toArray z t hz) ⟨px.isList,λh' b1 b2 b3 b4 b5 kp=>⟨⟨_,b1,rfl⟩,?_⟩⟩
 refine wpAny_pyIter_zip b1 ⟨_,[s1.heap.objs.size+4,s1.heap.objs.size+2,s1.heap.objs.size+3,s1.heap.objs.size+0,s1.heap.objs.size+1],_,_,H1,rfl,I1.kept (t':=s1.toks) kp,yjH ⟨ne (by decide),ne (by decide),ne (by decide),ne (by decide),ne (by decide),ne (by decide),ne (by decide),ne (by decide),ne (by decide),ne (by decide)⟩,⟨b1,b2,⟨_,_,b3⟩,b4,b5⟩,λc hc=>?_,q⟩
 simp only[List.mem_cons,qk,or_false] at hc
 rcases hc with rfl | rfl | rfl | rfl | rfl<;>exact lt _
theorem ymb {K:qF}{a:Addr}{z:Str}{xs:List V}{g:TG}{tb:TS}{D:yeZ}{σ:St}{H:Hp}(len:xs.length=z.cps.size)(Pv:Nat->St->Hp->Prop)(h0:Pv 0 σ H)(hl:∀ i σ H,Pv i σ H->SqL K H a xs)
  (hs:∀ i v c p σ H,xs[i]?=some v->z.cps[i]?=some c->Pv i σ H->H p=none->g (.ref p) σ (upd H p (.tup [v,.str ⟨#[c]⟩])) fun σ2 H2=>tb { D with nx:=Pv (i+1),ct:=Pv (i+1),bk:=D.nx } σ2 H2) (hd:∀ σ H,Pv xs.length σ H->D.nx σ H) :
  ∃ W:Nat->Nat->St->Hp->Prop,(∃ m,W 0 m σ H)/\∀ i m σ H,W i m σ H ->
   ((ypS K a z).stop i H/\D.nx σ H)∨((ypS K a z).go i H/\∃ N:St->Hp->Prop,(∀ σ' H',N σ' H'->∃ m',m' < m/\W (i+1) m' σ' H')/\∀ x H',(ypS K a z).yld i H x H'->g x σ H' fun σ2 H2=>tb { D with nx:=N,ct:=N,bk:=D.nx } σ2 H2):=by
 refine⟨λi m σ H=>m=xs.length - i/\i<=xs.length/\Pv i σ H,⟨xs.length,by simp,Nat.zero_le _,h0⟩,?_⟩
 rintro i m σ H ⟨rfl,hi,p⟩
 by_cases c:i < xs.length
 ·refine .inr ⟨⟨xs,xs[i],z.cps[i]'(len▸c),hl i σ H p,qG c,Array.getElem?_eq_getElem _⟩,Pv (i+1),fun σ' H' p'=>⟨xs.length - (i+1),by omega,rfl,c,p'⟩,λx H' y=>?_⟩
  obtain⟨b,v,ch,rfl,hb,rfl,hc,hv⟩:=y
  exact hs i v ch b σ H (hv xs (hl i σ H p)) hc p hb
 ·have e:i=xs.length:=by omega
  subst e
  exact .inl ⟨⟨xs,hl _ σ H p,rfl⟩,hd σ H p⟩
end
theorem tup_mul:fillsNumberSlot (.type "tuple") "mul"=pure false/\seqRepeat? (.type "tuple")=pure (some (.builtin "tuple.__mul__")):=by
 have m:=PySem.seqSlot_of (name := "__mul__") PySem.F.slot_tuple_mul.lookup (by decide +kernel)
 have r:=PySem.seqSlot_of (name := "__rmul__") PySem.F.slot_tuple_rmul.lookup (by decide +kernel)
 refine⟨PySem.fillsNumberSlot_seq PySem.F.slot_tuple_mul.lookup (by decide +kernel) PySem.F.slot_tuple_rmul.lookup (by decide +kernel),?_⟩
 show(seqSlot? _ _ >>= λ_=>seqSlot? _ _ >>= λ_=>_)=_
 rw[m,r]
 rfl
theorem ymy (a:Int)(t:Tok)(l:Addr)(items:Array Value) :
  Meets (Builtin.«int.__rmul__» ⟨[.int a t,.ref l],[]⟩) (λ_ R s=>s.heap.IsTuple l items/\R (.ok (.ret Value.notImplemented)) s) :=
 .of_wp λprog w A R s ⟨⟨⟨c,dc,dt,sl⟩,hl,hc,n,hd⟩,h⟩=>by
  obtain⟨hp,g,d,tk,os⟩:=s
  dsimp only at hc hd
  subst hc hd
  wp_walk
  exact⟨_,rfl,h⟩
theorem yl8 (l:Addr)(v:Value)(u:Tok) :
  Meets (Builtin.«tuple.__mul__» ⟨[.ref l,.int 8 u],[]⟩) (λ_ R s=>s.heap.IsTuple l #[v]/\R (.ok (.ret (.ref s.heap.objs.size))) { s with heap:=s.heap.push { cls:=.type "tuple",data:=.seq #[v,v,v,v,v,v,v,v] } }) :=
 .of_wp λprog w A R s ⟨⟨⟨c,dc,dt,sl⟩,hl,hc,n,hd⟩,h⟩=>by
  obtain⟨hp,g,d,tk,os⟩:=s
  dsimp only at hc hd
  subst hc hd
  wp_walk
  exact⟨_,rfl,h⟩
section
variable {X:Cx}
def ypH:R2:=λx y H Q=>∃ a v,x=.ref a/\y=.int 8/\H a=some (.tup [v])/\∀ p,H p=none->Q (.ref p) (upd H p (.tup [v,v,v,v,v,v,v,v]))
theorem yor:OpR X (binaryOp .Mult) ypH:=by
 intro pins s σ H x y v u Q I rx ry h
 obtain⟨a,z,rfl,rfl,ha,q⟩:=h
 cases rx
 obtain⟨t,rfl⟩:=ry
 obtain⟨its,r,p,_⟩:=I.tuple (.inl (.inl ha))
 obtain⟨z',rfl,rz⟩:=ydG r
 have ti:s.heap.IsTuple a #[z']:=p
 have ty:s.TypeIs (.ref a) "tuple":= ti.typeIs
 refine wpAny_binaryOp_repeat_ref (by decide) ty (λs'=>typeIs_int s' 8 t) tup_mul.1 PySem.F.fills_int_mul PySem.F.slot_int_rmul tup_mul.2 PySem.F.slot_int_index.lookup
  (call_meets PySem.F.slot_int_rmul (typeIs_int s 8 t) PySem.F.entry_int_rmul (PySem.F.args_int_rmul_2 _ _) (ymy 8 t a #[z']) ⟨ti,rfl,ty,call_meets PySem.F.slot_tuple_mul ty PySem.F.entry_tuple_mul (PySem.F.args_tuple_mul_2 _ _) (yl8 a z' t) ⟨ti,?_⟩⟩)
 exact⟨.ref _,_,I.tnew (t':=s.toks) (ys:=[z,z,z,z,z,z,z,z]) (its:=[z',z',z',z',z',z',z',z']) (.cons rz (.cons rz (.cons rz (.cons rz (.cons rz (.cons rz (.cons rz (.cons rz .nil)))))))) (by show 8<=sizeLine;decide),rfl,q _ I.fresh⟩
end
end L2
namespace L2
open PySem PySem.Spec PySem.W PyProof.Rows
noncomputable def isNone:V->Bool
 | .non=>true
 | _=>false
def yk7:Value->Bool
 | .none=>true
 | _=>false
def yu1 (K:qF):R2:=λx y H Q=>∃ p xs,x=.non/\y=.ref p/\SqL K H p xs/\(∀ z∈xs,z=.non∨∃ a u,z=.ref a/\Rep K H z u/\dep u<=60/\eqT u (.vl .non)=false)/\Q (.bl (xs.any isNone)) H
section
variable {X:Cx}
theorem yf7 {pins:List (Addr×Obj)}{σ:St}{H:Hp}{s:Shared}(I:Inv X pins σ H s)(hu:X.A.units+64 < cLine):∀ {xs:List V} {us:List Value},Vals xs us->(∀ z∈xs,z=.non∨∃ a u,z=.ref a/\Rep X.K H z u/\dep u<=60/\eqT u (.vl .non)=false) ->
  (∀ u∈us,SeqAt.EqAt X.A.in1 s u .none (yk7 u))/\us.any yk7=xs.any isNone
 | _,_,.nil,_=>⟨λu hu=>(by cases hu),rfl⟩
 | y :: xs,u :: us,.cons r tl,f=>by
  obtain⟨ih,ia⟩:=yf7 I hu tl λz hz=>f z (by simp[hz])
  have rn:Rep X.K H .non (.vl .non):=by rw[Rep];exact⟨rfl,rfl⟩
  have dn:dep (.vl .non)<=60:=by simp[dep]
  have hb:X.A.units+1+60 < cLine:=by omega
  rcases f y (by simp) with rfl | ⟨a,t,rfl,rt,dt,e⟩
  ·cases r
   refine⟨λv hv=>?_,?_⟩
   ·rcases List.mem_cons.mp hv with rfl | hv
    ·exact(yiG I 60 X.A.in1 (.vl .non) (.vl .non) .non .non _ _ dn dn rn rn rfl rfl hb).1
    ·exact ih v hv
   ·rw[List.any_cons,List.any_cons];rfl
  ·cases r
   refine⟨λv hv=>?_,?_⟩
   ·rcases List.mem_cons.mp hv with rfl | hv
    ·have:=(yiG I 60 X.A.in1 t (.vl .non) (.ref a) .non _ .none dt dn rt rn rfl rfl hb).1
     rw[e] at this
     exact this
    ·exact ih v hv
   ·rw[List.any_cons,List.any_cons,ia];rfl
theorem yr1 (hu:X.A.units+64 < cLine):OpR X (compareOp .In) (yu1 X.K):=by
 rintro pins s σ H x y v u Q I rx ry ⟨p,xs,rfl,rfl,hq,f,q⟩
 cases rx
 cases ry
 obtain⟨its,r,pl,hz⟩:=I.list hq
 obtain⟨a,b⟩:=yf7 I hu r f
 refine SeqAt.in_listAt yk7 pl.isList (λw hw=>a w (by simpa using hw)) ⟨.bl _,H,I,rfl,?_⟩
 rw[show its.toArray.any yk7=its.any yk7 by simp,b]
 exact q
end
end L2
namespace L2
open PySem PySem.Spec PyProof.Rows
section
variable {X:Cx}
end
end L2
namespace K2
open PySem PySem.Builtin PySem.Builtin.Str PySem.NumText TX
end K2
namespace K2
open PySem PySem.NumText TX
structure yvb (g t b p:Int):Prop where
 p1:1<=p
 gt:g=p*t
 gb:96=p*b
 b1:1<=b
 b2:b<=96
 t0:0<=t
 tg:t<=g
end K2
namespace K2
open PySem PySem.Builtin PySem.Builtin.Str PySem.NumText TX
theorem ykY {α:Type}{l:List α}{i:Nat}{c:α}(h:l[i]?=some c):l.take (i+1)=l.take i++[c]:=by
 rw[List.take_succ,h]
 rfl
end K2
namespace K3
open PySem L2 PyProof.Rows
noncomputable def c0 (w:Str):Str:=Txt.slice w none (some 1)
noncomputable def cl (w:Str):Str:=Txt.slice w (some ((w.length:Int) - 1)) none
noncomputable def mid (w:Str):Str:=Txt.slice w (some 1) (some ((w.length:Int) - 1))
def ydQ (w:Str):Int:=Txt.find "cdefgab" (c0 w)
def ymg (w:Str):Int:=Txt.find "012345678" (cl w)
theorem yaE (w:Str):w.cps.toList.length=w.length:=by simp[Str.length]
theorem yhq {α:Type}:∀ {l:List α},l≠[]->∃ ys c,l=ys++[c]
 | [x],_=>⟨[],x,rfl⟩
 | x :: y :: r,_=>by
  obtain⟨ys,c,e⟩:=yhq (l:=y :: r) (by simp)
  exact⟨x :: ys,c,by rw[e];rfl⟩
 | [],h=>absurd rfl h
theorem yqB {w:Str}(h:2<=(w.length:Int)):∃ c,atI w.cps.toList 0=some c/\(⟨#[c]⟩:Str)=c0 w:=by
 have hl:=yaE w
 have q:=eq_of_beq (slice_closes_to (x:=w) (j:=1) ⟨by omega,by omega⟩)
 unfold c0
 rw[q]
 generalize w.cps.toList=l at hl
 match l,hl with
 | [],hl=>simp at hl;omega
 | x :: r,hl=>exact⟨x,yav (xs:=x :: r) (j:=0) rfl,rfl⟩
theorem yqz {w:Str}(h:2<=(w.length:Int)):∃ c,atI w.cps.toList (-1)=some c/\(⟨#[c]⟩:Str)=cl w:=by
 have hl:=yaE w
 unfold cl
 rw[slice_from_eq (b:=(w.length:Int)) (by omega) (by omega) rfl]
 have e4:((w.length:Int) - ((w.length:Int) - 1)).toNat=1:=by omega
 rw[e4]
 generalize w.cps.toList=l at hl
 have hn:l≠[]:=by intro e;rw[e] at hl;simp at hl;omega
 obtain⟨ys,c,e⟩:=yhq hn
 subst e
 refine⟨c,ymo ys c,?_⟩
 have e3:((w.length:Int) - 1).toNat=ys.length:=by
  rw[qA,qS] at hl
  omega
 rw[e3]
 simp
theorem yjI {w:Str}(h:2<=(w.length:Int)):Txt.slice w (some 1) (some (-1))=mid w:=by
 unfold mid Txt.slice
 rw[StrLaws.sliceIdx_neg_hi (some 1) (j:=-1) w.length (by omega) (by omega)]
 have:(-1:Int)+(w.length:Int)=(w.length:Int) - 1:=by omega
 rw[this]
end K3
namespace TX
open PySem PySem.Builtin PySem.Builtin.Str
theorem ylz (x y:List Nat):Txt.endswith (ofL x) (ofL y)=decide (y <:+ x):=by
 unfold Txt.endswith Builtin.Str.subAt
 have lx:(ofL x).length=x.length:=rfl
 have ly:(ofL y).length=y.length:=rfl
 rw[lx,ly,Nat.zero_add]
 by_cases h:y.length<=x.length
 ·rw[decide_eq_true h,Bool.true_and]
  have e:((ofL x).cps.extract (x.length - y.length) (x.length - y.length+y.length)==(ofL y).cps)=decide (x.drop (x.length - y.length)=y):=by
   have e1:(ofL x).cps.extract (x.length - y.length) (x.length - y.length+y.length)=(x.drop (x.length - y.length)).toArray:=by
    show x.toArray.extract _ _=_
    rw[List.extract_toArray,List.extract_eq_drop_take,Nat.add_sub_cancel_left,List.take_of_length_le (by rw[List.length_drop];omega)]
   rw[e1]
   show((x.drop (x.length - y.length)).toArray==y.toArray)=_
   rw[Bool.eq_iff_iff]
   simp
  rw[e]
  congr 1
  rw[List.suffix_iff_eq_drop]
  exact propext ⟨Eq.symm,Eq.symm⟩
 ·rw[decide_eq_false h,Bool.false_and,decide_eq_false λz=>h z.length_le]
noncomputable def ya4 (l:List Nat):List Nat:=l.take (l.length - (l.reverse.takeWhile (·==46)).length)
theorem yhB (l:List Nat):Txt.rstripChars (ofL l) (one 46)=ofL (ya4 l):=by
 unfold Txt.rstripChars Txt.stripBy stripSame stripped stripHi stripLo ya4
 have e:(one 46).cps.contains=λc=>(c==46):=by
  funext c
  show(#[46]:Array Nat).contains c=_
  rw[Bool.eq_iff_iff]
  simp
 simp only[e,if_true,if_false,Bool.false_eq_true,List.drop_zero,yax]
 have lx:(ofL l).length=l.length:=rfl
 rw[lx]
 generalize (List.takeWhile (λx=>x==46) l.reverse).length=n
 by_cases h:(0==0&&l.length - n==l.length)=true
 ·rw[if_pos h]
  have:l.length - n=l.length:=by simpa using h
  rw[this,List.take_length]
 ·rw[if_neg h]
  show(⟨l.toArray.extract 0 (l.length - n)⟩:Str)=⟨(l.take (l.length - n)).toArray⟩
  rw[List.extract_toArray,List.extract_eq_drop_take]
  simp
theorem ykR (l:List Nat){a b:Nat}(hab:a<=b)(hb:b<=l.length):Txt.slice (ofL l) (some (a:Int)) (some (b:Int))=ofL ((l.drop a).take (b - a)):=StrLaws.sliceText_nat (ofL l) hab hb
theorem ydF (l:List Nat){a:Nat}(h:a<=l.length):Txt.slice (ofL l) (some (a:Int)) none=ofL (l.drop a):=by
 have e:Txt.slice (ofL l) (some (a:Int)) none=Txt.slice (ofL l) (some (a:Int)) (some (l.length:Int)):=by
  unfold Txt.slice
  rw[StrLaws.sliceIdx_none_hi]
  rfl
 rw[e,ykR l h (qR _),List.take_of_length_le (by rw[List.length_drop];omega)]
theorem yhP (l:List Nat){b:Nat}(h:b<=l.length):Txt.slice (ofL l) none (some (b:Int))=ofL (l.take b):=by
 have e:Txt.slice (ofL l) none (some (b:Int))=Txt.slice (ofL l) (some ((0:Nat):Int)) (some (b:Int)):=by
  unfold Txt.slice
  rw[StrLaws.sliceIdx_none_lo]
  rfl
 rw[e,ykR l (Nat.zero_le _) h,List.drop_zero,Nat.sub_zero]
theorem yoG (l:List Nat):Txt.slice (ofL l) none (some (-1))=ofL l.dropLast:=by
 cases l with
 | nil=>decide +kernel
 | cons a r =>
  have e:Txt.slice (ofL (a :: r)) none (some (-1))=Txt.slice (ofL (a :: r)) none (some (((r.length:Nat)):Int)):=by
   unfold Txt.slice
   have lx:(ofL (a :: r)).length=r.length+1:=rfl
   rw[lx,StrLaws.sliceIdx_neg_hi none (j:=-1) (r.length+1) (by omega) (by omega),show(-1:Int)+((r.length+1:Nat):Int)=(r.length:Nat) by omega]
  rw[e,yhP _ (by simp),List.dropLast_eq_take]
  rfl
end TX
namespace KS
open PySem L2
theorem yal:bootBuiltins "isinstance"=some (.builtin "isinstance"):=by decide +kernel
theorem ydo:bootBuiltins "all"=some (.builtin "all"):=by decide +kernel
theorem ymZ:bootBuiltins "min"=some (.builtin "min"):=by decide +kernel
theorem yhX:bootBuiltins "sum"=some (.builtin "sum"):=by decide +kernel
theorem ybO:bootBuiltins "int"=some (.type "int"):=by decide +kernel
theorem ydg:bootBuiltins "bool"=some (.type "bool"):=by decide +kernel
theorem ybg:bootBuiltins "tuple"=some (.type "tuple"):=by decide +kernel
theorem ybd:bootBuiltins "list"=some (.type "list"):=by decide +kernel
theorem ybb:bootBuiltins "str"=some (.type "str"):=by decide +kernel
def yuW (i:Nat):Stmt:=PySem.Challenge.pw_barwright_k14_signs_as_words.main.body.getD i (.Pass ⟨0,0,0,0⟩)
def ytE:Stmt->List Stmt
 | .ClassDef _ _ _ body _ _ _ _ _ _ _=>body
 | _=>[]
noncomputable def top (i:Nat):Stmt:=cond (Nat.ble 1000 i) ((ytE (yuW (i / 1000 - 1))).getD (i%1000) (.Pass ⟨0,0,0,0⟩)) (yuW i)
def ygA (K:qF)(S:Addr)(cs:List Addr):Bool:=cs.zipIdx.all λc=>PySem.W.kitOne K (.ref c.1) (.ref S)==some true&&cs.zipIdx.all λd=>PySem.W.kitOne K (.ref c.1) (.ref d.1)==some (c.2==d.2)
set_option genInjectivity false in
structure Ad where
 (f_zaG f_zav f_zaJ f_zaA f_zT f_zO f_zan f_zP f_zaB f_zaN f_zaO f_zaD f_zag f_zay f_zY f_zU f_zH f_zak f_zaz f_zA f_zG f_zq f_zau f_zE f_zN f_zm f_zai f_zu f_zD f_zo f_zV f_zr f_zB f_zd f_zC f_zh f_zb f_zn f_zc f_zab f_zw f_zaF f_zS f_zj f_zL f_zk f_zW f_zx f_zal f_zy f_zat f_zz f_zao f_zar f_zac f_zaH f_zM f_zt f_zaC f_zaE f_zaL f_zax f_zaK f_zah f_zI f_zZ f_zQ f_zas f_zad f_zaf f_zam f_zaq f_zaa f_zX f_zg f_zF f_za f_zi f_zp f_ze f_zJ f_zf f_zap f_zR f_zaw f_zK f_zae f_zaj f_zaQ Uh Ui Uj Uk Ul Um Uo Uq Ur Us Ut Uu Uv Uw Ux:Addr)
 (d_zaG d_zav d_zaJ d_zaA d_zT d_zO d_zan d_zP d_zaB d_zaN d_zaO d_zaD d_zag d_zay d_zY d_zU d_zH d_zak d_zaz d_zA d_zG d_zq d_zau d_zE d_zN d_zm d_zai d_zu d_zD d_zo d_zV d_zr d_zB d_zd d_zC d_zh d_zb d_zn d_zc d_zab d_zw d_zaF d_zS d_zj d_zL d_zk d_zW d_zx d_zal d_zy d_zat d_zz d_zao d_zar d_zac d_zaH d_zM d_zt d_zaC d_zaE d_zaL d_zax d_zaK d_zah d_zI d_zZ d_zQ d_zas d_zad d_zaf d_zam d_zaq d_zaa d_zX d_zg d_zF d_za d_zi d_zp d_ze d_zJ d_zf d_zap d_zR d_zaw d_zK d_zae d_zaj d_zaQ:FuncData)
structure FM (K:qF) (mg:Str->Option Value) (n:Str) (m:Nat) (ps:List Str) (f:Addr) (d:FuncData):Prop where
 F:Fun K n n (top m) f d
 B:Binds K d ps []
 M:mg n=some (.ref f)
structure FN (K:qF) (n q:Str) (m:Nat) (ps:List Str) (f:Addr) (d:FuncData):Prop where
 F:Fun K n q (top m) f d
 B:Binds K d ps []
structure Txt (K:qF) (mg:Str->Option Value) (t:Ad):Prop where
 QJ:mg "Sign"=some (.ref t.Uk)
 Qh:mg "Note"=some (.ref t.Ul)
 JW:mg "Pause"=some (.ref t.Um)
 JX:mg "Whole"=some (.ref t.Uo)
 JF:mg "KeySign"=some (.ref t.Uq)
 Jw:mg "MetreSign"=some (.ref t.Ur)
 JY:mg "Begin"=some (.ref t.Us)
 Qt:mg "End"=some (.ref t.Ut)
 JB:mg "Ending"=some (.ref t.Uu)
 JZ:mg "Close"=some (.ref t.Uv)
 Qi:mg "Fine"=some (.ref t.Uw)
 Qj:mg "Back"=some (.ref t.Ux)
 Qu:Mk K t.Ul t.f_zq
 Ql:Mk K t.Um t.f_zm
 Qm:Mk K t.Uo t.f_zo
 JU:Mk K t.Uq t.f_zd
 JJ:Mk K t.Ur t.f_zb
 Qn:Mk0 K t.Us
 QH:Mk0 K t.Ut
 JN:Mk K t.Uu t.f_zj
 Qo:Mk0 K t.Uv
 Qv:Mk0 K t.Uw
 Qw:Mk0 K t.Ux
 QP:ycw K t.Ul "told" t.f_zau
 QQ:ycw K t.Um "told" t.f_zai
 QY:ycw K t.Uo "told" t.f_zV
 QZ:ycw K t.Uq "told" t.f_zC
 Ra:ycw K t.Ur "told" t.f_zn
 QR:ycw K t.Us "told" t.f_zab
 QS:ycw K t.Ut "told" t.f_zaF
 Rb:ycw K t.Uu "told" t.f_zL
 Rc:ycw K t.Uv "told" t.f_zW
 QT:ycw K t.Uw "told" t.f_zal
 QU:ycw K t.Ux "told" t.f_zat
 Re:ycw K t.Ul "written" t.f_zE
 Rf:ycw K t.Um "written" t.f_zu
 Rg:ycw K t.Uo "written" t.f_zr
 Rh:ycw K t.Uq "written" t.f_zh
 Ri:ycw K t.Ur "written" t.f_zc
 Rj:ycw K t.Us "written" t.f_zw
 Rk:ycw K t.Ut "written" t.f_zS
 Rl:ycw K t.Uu "written" t.f_zk
 Rm:ycw K t.Uv "written" t.f_zx
 Rn:ycw K t.Uw "written" t.f_zy
 Ro:ycw K t.Ux "written" t.f_zz
 Rp:ycw K t.Ul "grains" t.f_zN
 Rq:ycw K t.Um "grains" t.f_zD
 Rr:ycw K t.Uo "grains" t.f_zB
 JG:ycw K t.Uq "grains" t.f_zG
 JA:ycw K t.Ur "grains" t.f_zG
 JO:ycw K t.Us "grains" t.f_zG
 Qa:ycw K t.Ut "grains" t.f_zG
 JM:ycw K t.Uu "grains" t.f_zG
 JP:ycw K t.Uv "grains" t.f_zG
 JS:ycw K t.Uw "grains" t.f_zG
 JT:ycw K t.Ux "grains" t.f_zG
 RE:FM K mg "is_whole" 5 ["thing"] t.f_zaG t.d_zaG
 RF:FM K mg "is_among" 6 ["thing","least","most"] t.f_zav t.d_zav
 RG:FM K mg "do_rise" 7 ["numbers"] t.f_zaJ t.d_zaJ
 RH:FM K mg "has_only" 8 ["text","signs"] t.f_zaA t.d_zaA
 zT:FM K mg "is_syllable" 9 ["thing"] t.f_zT t.d_zT
 zO:FM K mg "are_figures" 10 ["text"] t.f_zO t.d_zO
 RI:FM K mg "number_of" 11 ["word"] t.f_zan t.d_zan
 zP:FM K mg "number_text" 12 ["number"] t.f_zP t.d_zP
 RJ:FM K mg "parts_of" 16 ["word"] t.f_zaB t.d_zaB
 RK:FM K mg "is_key" 19 ["thing"] t.f_zaN t.d_zaN
 RL:FM K mg "key_of" 20 ["word"] t.f_zaO t.d_zaO
 Rs:FM K mg "is_metre" 30 ["thing"] t.f_zaD t.d_zaD
 RM:FM K mg "are_groups" 31 ["thing","top"] t.f_zag t.d_zag
 RN:FM K mg "metre_of" 32 ["word"] t.f_zay t.d_zay
 zY:FM K mg "numbers_of" 33 ["text","between"] t.f_zY t.d_zY
 zU:FM K mg "metre_text" 34 ["metre"] t.f_zU t.d_zU
 zH:FM K mg "unit_grains" 35 ["bottom"] t.f_zH t.d_zH
 Rt:FM K mg "_law_draw" 64 ["_law_script","_law_tape","_law_size"] t.f_zak t.d_zak
 RO:FM K mg "is_piece" 24 ["thing"] t.f_zaz t.d_zaz
 zA:FM K mg "piece_grains" 25 ["piece"] t.f_zA t.d_zA
 zG:FN K "grains" "Sign.grains" 41002 ["self"] t.f_zG t.d_zG
 zq:FN K "__init__" "Note.__init__" 42000 ["self","heads","piece","is_tied","is_beamed","word","opens","closes"] t.f_zq t.d_zq
 Ru:FN K "told" "Note.told" 42001 ["self"] t.f_zau t.d_zau
 zE:FN K "written" "Note.written" 42002 ["self"] t.f_zE t.d_zE
 zN:FN K "grains" "Note.grains" 42003 ["self"] t.f_zN t.d_zN
 zm:FN K "__init__" "Pause.__init__" 43000 ["self","piece"] t.f_zm t.d_zm
 Rv:FN K "told" "Pause.told" 43001 ["self"] t.f_zai t.d_zai
 zu:FN K "written" "Pause.written" 43002 ["self"] t.f_zu t.d_zu
 zD:FN K "grains" "Pause.grains" 43003 ["self"] t.f_zD t.d_zD
 zo:FN K "__init__" "Whole.__init__" 44000 ["self","length"] t.f_zo t.d_zo
 zV:FN K "told" "Whole.told" 44001 ["self"] t.f_zV t.d_zV
 zr:FN K "written" "Whole.written" 44002 ["self"] t.f_zr t.d_zr
 zB:FN K "grains" "Whole.grains" 44003 ["self"] t.f_zB t.d_zB
 zd:FN K "__init__" "KeySign.__init__" 45000 ["self","key"] t.f_zd t.d_zd
 zC:FN K "told" "KeySign.told" 45001 ["self"] t.f_zC t.d_zC
 zh:FN K "written" "KeySign.written" 45002 ["self"] t.f_zh t.d_zh
 zb:FN K "__init__" "MetreSign.__init__" 46000 ["self","metre"] t.f_zb t.d_zb
 zn:FN K "told" "MetreSign.told" 46001 ["self"] t.f_zn t.d_zn
 zc:FN K "written" "MetreSign.written" 46002 ["self"] t.f_zc t.d_zc
 Rw:FN K "told" "Begin.told" 47000 ["self"] t.f_zab t.d_zab
 zw:FN K "written" "Begin.written" 47001 ["self"] t.f_zw t.d_zw
 Rx:FN K "told" "End.told" 48000 ["self"] t.f_zaF t.d_zaF
 zS:FN K "written" "End.written" 48001 ["self"] t.f_zS t.d_zS
 zj:FN K "__init__" "Ending.__init__" 49000 ["self","number"] t.f_zj t.d_zj
 zL:FN K "told" "Ending.told" 49001 ["self"] t.f_zL t.d_zL
 zk:FN K "written" "Ending.written" 49002 ["self"] t.f_zk t.d_zk
 zW:FN K "told" "Close.told" 50000 ["self"] t.f_zW t.d_zW
 zx:FN K "written" "Close.written" 50001 ["self"] t.f_zx t.d_zx
 Ry:FN K "told" "Fine.told" 51000 ["self"] t.f_zal t.d_zal
 zy:FN K "written" "Fine.written" 51001 ["self"] t.f_zy t.d_zy
 Rz:FN K "told" "Back.told" 52000 ["self"] t.f_zat t.d_zat
 zz:FN K "written" "Back.written" 52001 ["self"] t.f_zz t.d_zz
 RP:FM K mg "head_text" 52 ["head"] t.f_zao t.d_zao
 RQ:FM K mg "head_line" 53 ["head"] t.f_zar t.d_zar
 RS:FM K mg "piece_text" 54 ["piece"] t.f_zac t.d_zac
 RT:FM K mg "sign_of" 55 ["word","length"] t.f_zaH t.d_zaH
 zM:FM K mg "key_sign_of" 56 ["text"] t.f_zM t.d_zM
 zt:FM K mg "metre_sign_of" 57 ["text"] t.f_zt t.d_zt
 RU:FM K mg "pause_of" 58 ["text"] t.f_zaC t.d_zaC
 RA:FM K mg "piece_of" 59 ["text"] t.f_zaE t.d_zaE
 RV:FM K mg "note_of" 60 ["word"] t.f_zaL t.d_zaL
 RB:FM K mg "heads_of" 61 ["text"] t.f_zax t.d_zax
 RW:FM K mg "head_of" 62 ["word"] t.f_zaK t.d_zaK
 RC:FM K mg "_law_alike" 65 ["_law_found","_law_due"] t.f_zah t.d_zah
 zI:FM K mg "_law_longer" 66 ["_law_told_here"] t.f_zI t.d_zI
 zZ:FM K mg "_law_piece" 67 ["_law_script","_law_tape"] t.f_zZ t.d_zZ
 zQ:FM K mg "_law_grains" 68 ["_law_piece_here"] t.f_zQ t.d_zQ
 RX:FM K mg "_law_word" 69 ["_law_script","_law_tape"] t.f_zas t.d_zas
 RY:FM K mg "_law_heads" 70 ["_law_script","_law_tape"] t.f_zad t.d_zad
 RZ:FM K mg "_law_metre" 71 ["_law_script","_law_tape"] t.f_zaf t.d_zaf
 Ua:FM K mg "_law_told" 72 ["_law_script","_law_tape"] t.f_zam t.d_zam
 Ub:FM K mg "_law_made" 73 ["_law_told_here","_law_heads_here"] t.f_zaq t.d_zaq
 Uc:FM K mg "_law_plain" 74 ["_law_kind"] t.f_zaa t.d_zaa
 zX:FM K mg "_law_is_of" 75 ["_law_sign","_law_kind"] t.f_zX t.d_zX
 zg:FM K mg "_law_piece_word" 76 ["_law_piece_here"] t.f_zg t.d_zg
 zF:FM K mg "_law_written" 77 ["_law_told_here"] t.f_zF t.d_zF
 za:FM K mg "_law_pieces_by_words" 78 [] t.f_za t.d_za
 zi:FM K mg "_law_read_heads" 79 ["_law_word_here"] t.f_zi t.d_zi
 zp:FM K mg "_law_read_note" 80 ["_law_word_here"] t.f_zp t.d_zp
 ze:FM K mg "_law_is_syllable" 81 ["_law_word_here"] t.f_ze t.d_ze
 zJ:FM K mg "_law_number" 82 ["_law_word_here"] t.f_zJ t.d_zJ
 zf:FM K mg "_law_read_metre" 83 ["_law_word_here"] t.f_zf t.d_zf
 Ud:FM K mg "_law_read" 84 ["_law_word_here","_law_length"] t.f_zap t.d_zap
 zR:FM K mg "_law_spoilt" 85 ["_law_script","_law_tape","_law_word_here"] t.f_zR t.d_zR
 Ue:FM K mg "_law_odd" 86 ["_law_script","_law_tape"] t.f_zaw t.d_zaw
 zK:FM K mg "_law_fields" 87 ["_law_sign","_law_kind"] t.f_zK t.d_zK
 Uf:FM K mg "_law_reads" 88 ["_law_word_here","_law_length"] t.f_zae t.d_zae
 Ug:FM K mg "_law_time" 89 ["_law_told_here"] t.f_zaj t.d_zaj
 RD:FM K mg "law" 90 ["_law_script"] t.f_zaQ t.d_zaQ
 Qe:mg "all"=none
 Qb:mg "bool"=none
 Jx:mg "int"=none
 Ja:mg "isinstance"=none
 Jc:mg "len"=none
 Jl:mg "list"=none
 QV:mg "min"=none
 Jr:mg "range"=none
 Jq:mg "str"=none
 QI:mg "sum"=none
 Jh:mg "tuple"=none
 Qx:mg "zip"=none
 Qp:∃ k,mg "FIGURES"=some (.str "0123456789" k)
 JH:∃ k,mg "SYLLABLE_SIGNS"=some (.str "abcdefghijklmnopqrstuvwxyzABCDEFGHIJKLMNOPQRSTUVWXYZ-" k)
 JQ:∃ k,mg "MOST_FIGURES"=some (.int (4) k)
 Jv:∃ k,mg "MOST_SYLLABLE_SIGNS"=some (.int (12) k)
 JV:∃ k,mg "LETTERS"=some (.str "cdefgab" k)
 JI:∃ k,mg "OCTAVE_FIGURES"=some (.str "012345678" k)
 JC:∃ k,mg "MOST_SIGNS"=some (.int (7) k)
 Qf:∃ k,mg "GRAINS"=some (.int (96) k)
 JK:mg "MOST_DOTS"=some (.ref t.Uh)
 JL:DctIn K t.Uh [(1,2),(2,2),(4,2),(8,2),(16,1),(32,0)]
 Qk:∃ k,mg "MOST_TOP"=some (.int (12) k)
 Qq:mg "BOTTOMS"=some (.ref t.Ui)
 Qr:TupIn K t.Ui [.int 2,.int 4,.int 8]
 JD:∃ k,mg "MOST_BAR_GRAINS"=some (.int (192) k)
 Qz:mg "MARKS"=some (.ref t.Uj)
 QA:TupIn K t.Uj [.str "",.str "=",.str "+",.str "++",.str "-",.str "--"]
 Qc:∃ k,mg "MOST_HEADS"=some (.int (4) k)
 JR:∃ k,mg "SIGNS_BEHIND"=some (.str "~_()" k)
 Jb:Cls K t.Ul
 QK:ClsObj K t.Ul
 Js:NoAttr K t.Ul "heads"
 Ji:NoAttr K t.Ul "piece"
 Jj:NoAttr K t.Ul "is_tied"
 Je:NoAttr K t.Ul "is_beamed"
 Jo:NoAttr K t.Ul "word"
 Jt:NoAttr K t.Ul "opens"
 Jm:NoAttr K t.Ul "closes"
 Jz:Cls K t.Um
 QB:ClsObj K t.Um
 Jf:NoAttr K t.Um "piece"
 JE:Cls K t.Uo
 QC:ClsObj K t.Uo
 Jk:NoAttr K t.Uo "length"
 Ju:Cls K t.Uq
 Qs:ClsObj K t.Uq
 Jn:NoAttr K t.Uq "key"
 Jp:Cls K t.Ur
 Qg:ClsObj K t.Ur
 Jd:NoAttr K t.Ur "metre"
 QD:Cls K t.Us
 QE:ClsObj K t.Us
 QW:Cls K t.Ut
 QX:ClsObj K t.Ut
 Jy:Cls K t.Uu
 Qy:ClsObj K t.Uu
 Jg:NoAttr K t.Uu "number"
 QF:Cls K t.Uv
 QG:ClsObj K t.Uv
 QL:Cls K t.Uw
 QM:ClsObj K t.Uw
 QN:Cls K t.Ux
 QO:ClsObj K t.Ux
 I_:ygA K t.Uk [t.Ul,t.Um,t.Uo,t.Uq,t.Ur,t.Us,t.Ut,t.Uu,t.Uv,t.Uw,t.Ux]=true
theorem pcl {X:Cx}{k n m:Nat}{f:Addr}{fd:FuncData}{ps:List Str}{sp:Sp}{x:Str}{e:Expr}{es:List Expr}{t:TA}{p pos:Pos}(F:FnOk X.prog X.w X.K X.mg X.base CX0 k f fd ps sp)(hr:Room n X.A)(M:FM X.K X.mg x m ps f fd)(ha:PA X (e :: es) t)(le:k<=n:=by first | decide | omega)(hg:Gl X x:=by rfl)(hdb:(x==("__debug__" : Str))=false:=by decide)
  (he:starEach (e :: es) X.env=(false,eval e X.env) :: starEach es X.env:=by rfl) (hpl:(backTo pos (starEach es X.env)).any (·.1)=false:=by rfl):PE X (.Call (.Name x p) (e :: es) [] pos) (yhH sp [] E0 t):=yo1 F (hr.mono le) hg M.M M.F.kp M.B .nil ybW ha hdb he hpl
theorem scm {N P:List Str}{sc:Scope}(a:sc.kind=.function:=by rfl)(b:sc.isCoroutine=false:=by rfl)(c:sc.isGenerator=false:=by rfl)(d:N.Nodup:=by decide +kernel)(e:N.take P.length=P:=by rfl)(f:∀ x∈P,sc.names.lookup x=some .local∨sc.names.lookup x=some .cell:=by decide +kernel)(g:∀ y∈sc.names,y.2≠.free:=by decide +kernel):yao N P sc:=⟨a,b,c,d,e,f,g⟩
theorem yp2:yao ["thing"] ["thing"] (yai (top 5)):=scm
theorem ysp:yao ["thing","least","most"] ["thing","least","most"] (yai (top 6)):=scm
theorem yr6:yao ["numbers"] ["numbers"] (yai (top 7)):=scm
theorem yrn:yao ["text","signs"] ["text","signs"] (yai (top 8)):=scm
theorem yt6:yao ["thing"] ["thing"] (yai (top 9)):=scm
theorem yuc:yao ["text"] ["text"] (yai (top 10)):=scm
theorem sc_zan:yao ["word","figures"] ["word"] (yai (top 11)):=scm
theorem ytT:yao ["number"] ["number"] (yai (top 12)):=scm
theorem sc_zaB:yao ["word","step","octave"] ["word"] (yai (top 16)):=scm
theorem yqs:yao ["thing"] ["thing"] (yai (top 19)):=scm
theorem sc_zaO:yao ["word","key"] ["word"] (yai (top 20)):=scm
theorem sc_zaD:yao ["thing","top","bottom"] ["thing"] (yai (top 30)):=scm
theorem yqa:yao ["thing","top"] ["thing","top"] (yai (top 31)):=scm
theorem sc_zay:yao ["word","halves","fraction","groups","metre"] ["word"] (yai (top 32)):=scm
theorem sc_zY:yao ["text","between","numbers"] ["text","between"] (yai (top 33)):=scm
theorem sc_zU:yao ["metre","fraction"] ["metre"] (yai (top 34)):=scm
theorem yty:yao ["bottom"] ["bottom"] (yai (top 35)):=scm
theorem sc_zak:yao ["_law_script","_law_tape","_law_size","_law_cell","_law_number_here"] ["_law_script","_law_tape","_law_size"] (yai (top 64)):=scm
theorem yqS:yao ["thing"] ["thing"] (yai (top 24)):=scm
theorem sc_zA:yao ["piece","more","grains","dot"] ["piece"] (yai (top 25)):=scm
theorem yt9:yao ["self"] ["self"] (yai (top 41002)):=scm
theorem ytz:yao ["self","heads","piece","is_tied","is_beamed","word","opens","closes"] ["self","heads","piece","is_tied","is_beamed","word","opens","closes"] (yai (top 42000)):=scm
theorem yr8:yao ["self"] ["self"] (yai (top 42001)):=scm
theorem sc_zE:yao ["self","heads","tied","joined","begins","ends","syllable"] ["self"] (yai (top 42002)):=scm
theorem ysZ:yao ["self"] ["self"] (yai (top 42003)):=scm
theorem ytW:yao ["self","piece"] ["self","piece"] (yai (top 43000)):=scm
theorem ysx:yao ["self"] ["self"] (yai (top 43001)):=scm
theorem ytt:yao ["self"] ["self"] (yai (top 43002)):=scm
theorem ytX:yao ["self"] ["self"] (yai (top 43003)):=scm
theorem yut:yao ["self","length"] ["self","length"] (yai (top 44000)):=scm
theorem yud:yao ["self"] ["self"] (yai (top 44001)):=scm
theorem ytv:yao ["self"] ["self"] (yai (top 44002)):=scm
theorem yuq:yao ["self"] ["self"] (yai (top 44003)):=scm
theorem ytN:yao ["self","key"] ["self","key"] (yai (top 45000)):=scm
theorem ytZ:yao ["self"] ["self"] (yai (top 45001)):=scm
theorem ysP:yao ["self"] ["self"] (yai (top 45002)):=scm
theorem yuJ:yao ["self","metre"] ["self","metre"] (yai (top 46000)):=scm
theorem yt8:yao ["self"] ["self"] (yai (top 46001)):=scm
theorem ytG:yao ["self"] ["self"] (yai (top 46002)):=scm
theorem yqM:yao ["self"] ["self"] (yai (top 47000)):=scm
theorem yt2:yao ["self"] ["self"] (yai (top 47001)):=scm
theorem ysB:yao ["self"] ["self"] (yai (top 48000)):=scm
theorem yuz:yao ["self"] ["self"] (yai (top 48001)):=scm
theorem yuk:yao ["self","number"] ["self","number"] (yai (top 49000)):=scm
theorem yt3:yao ["self"] ["self"] (yai (top 49001)):=scm
theorem yul:yao ["self"] ["self"] (yai (top 49002)):=scm
theorem yue:yao ["self"] ["self"] (yai (top 50000)):=scm
theorem ytU:yao ["self"] ["self"] (yai (top 50001)):=scm
theorem yrt:yao ["self"] ["self"] (yai (top 51000)):=scm
theorem ytd:yao ["self"] ["self"] (yai (top 51001)):=scm
theorem yrj:yao ["self"] ["self"] (yai (top 52000)):=scm
theorem ysS:yao ["self"] ["self"] (yai (top 52001)):=scm
theorem yqI:yao ["head"] ["head"] (yai (top 52)):=scm
theorem ysw:yao ["head"] ["head"] (yai (top 53)):=scm
theorem yqx:yao ["piece"] ["piece"] (yai (top 54)):=scm
theorem sc_zaH:yao ["word","length","sign"] ["word","length"] (yai (top 55)):=scm
theorem sc_zM:yao ["text","key"] ["text"] (yai (top 56)):=scm
theorem sc_zt:yao ["text","metre"] ["text"] (yai (top 57)):=scm
theorem sc_zaC:yao ["text","piece"] ["text"] (yai (top 58)):=scm
theorem sc_zaE:yao ["text","is_three","plain","value","piece"] ["text"] (yai (top 59)):=scm
theorem sc_zaL:yao ["word","halves","heads","behind","syllable","signs","piece"] ["word"] (yai (top 60)):=scm
theorem sc_zax:yao ["text","heads"] ["text"] (yai (top 61)):=scm
theorem sc_zaK:yao ["word","parts"] ["word"] (yai (top 62)):=scm
theorem ysF:yao ["_law_found","_law_due"] ["_law_found","_law_due"] (yai (top 65)):=scm
theorem sc_zI:yao ["_law_told_here","_law_one"] ["_law_told_here"] (yai (top 66)):=scm
theorem sc_zZ:yao ["_law_script","_law_tape","_law_value","_law_dots"] ["_law_script","_law_tape"] (yai (top 67)):=scm
theorem sc_zQ:yao ["_law_piece_here","_law_whole"] ["_law_piece_here"] (yai (top 68)):=scm
theorem sc_zas:yao ["_law_script","_law_tape","_law_some","_law_letters"] ["_law_script","_law_tape"] (yai (top 69)):=scm
theorem sc_zad:yao ["_law_script","_law_tape","_law_place","_law_found","_law_k"] ["_law_script","_law_tape"] (yai (top 70)):=scm
theorem sc_zaf:yao ["_law_script","_law_tape","_law_some"] ["_law_script","_law_tape"] (yai (top 71)):=scm
theorem sc_zam:yao ["_law_script","_law_tape","_law_kind","_law_flags","_law_word_here","_law_begin","_law_some"] ["_law_script","_law_tape"] (yai (top 72)):=scm
theorem sc_zaq:yao ["_law_told_here","_law_heads_here","_law_kind"] ["_law_told_here","_law_heads_here"] (yai (top 73)):=scm
theorem ysb:yao ["_law_kind"] ["_law_kind"] (yai (top 74)):=scm
theorem sc_zX:yao ["_law_sign","_law_kind","_law_found","_law_some"] ["_law_sign","_law_kind"] (yai (top 75)):=scm
theorem yuD:yao ["_law_piece_here"] ["_law_piece_here"] (yai (top 76)):=scm
theorem sc_zF:yao ["_law_told_here","_law_kind","_law_word_here","_law_is_so","_law_sign","_law_top","_law_bottom","_law_groups","_law_tail"] ["_law_told_here"] (yai (top 77)):=scm
theorem sc_za:yao ["_law_found","_law_value","_law_dots","_law_is_three"] [] (yai (top 78)):=scm
theorem sc_zi:yao ["_law_word_here","_law_found","_law_one","_law_places","_law_rises"] ["_law_word_here"] (yai (top 79)):=scm
theorem sc_zp:yao ["_law_word_here","_law_halves","_law_heads_here","_law_ends","_law_size","_law_piece_here","_law_tail","_law_flags"] ["_law_word_here"] (yai (top 80)):=scm
theorem sc_ze:yao ["_law_word_here","_law_letters"] ["_law_word_here"] (yai (top 81)):=scm
theorem yuj:yao ["_law_word_here"] ["_law_word_here"] (yai (top 82)):=scm
theorem sc_zf:yao ["_law_word_here","_law_halves","_law_ends","_law_top","_law_groups"] ["_law_word_here"] (yai (top 83)):=scm
theorem sc_zap:yao ["_law_word_here","_law_length","_law_some","_law_key","_law_text","_law_piece_here"] ["_law_word_here","_law_length"] (yai (top 84)):=scm
theorem sc_zR:yao ["_law_script","_law_tape","_law_word_here","_law_signs","_law_turn","_law_at","_law_sign","_law_way","_law_put"] ["_law_script","_law_tape","_law_word_here"] (yai (top 85)):=scm
theorem sc_zaw:yao ["_law_script","_law_tape","_law_octave","_law_some"] ["_law_script","_law_tape"] (yai (top 86)):=scm
theorem sc_zK:yao ["_law_sign","_law_kind","_law_flags"] ["_law_sign","_law_kind"] (yai (top 87)):=scm
theorem sc_zae:yao ["_law_word_here","_law_length","_law_found","_law_due"] ["_law_word_here","_law_length"] (yai (top 88)):=scm
theorem yqE:yao ["_law_told_here"] ["_law_told_here"] (yai (top 89)):=scm
theorem sc_zaQ:yao ["_law_script","_law_tape","_law_due","_law_heads_here","_law_sign","_law_wanted","_law_length","_law_held","_law_word_here","_law_odd_here"] ["_law_script"] (yai (top 90)):=scm
abbrev OF {K:qF}{mg:Str->Option Value}{n:Str}{m:Nat}{ps:List Str}{f:Addr}{d:FuncData}(P:Program)(w:World)(base:Heap)(_:FM K mg n m ps f d)(k:Nat)(sp:Sp):Prop:=FnOk P w K mg base CX0 k f d ps sp
abbrev ON {K:qF}{n q:Str}{m:Nat}{ps:List Str}{f:Addr}{d:FuncData}(P:Program)(w:World)(mg:Str->Option Value)(base:Heap)(_:FN K n q m ps f d)(k:Nat)(sp:Sp):Prop:=FnOk P w K mg base CX0 k f d ps sp
theorem pcm {X:Cx}{k n m:Nat}{f:Addr}{fd:FuncData}{ps:List Str}{sp:Sp}{x:Str}{e:Expr}{es:List Expr}{t:TA}{p pos:Pos}{M:FM X.K X.mg x m ps f fd}(F:OF X.prog X.w X.base M k sp)(hr:Room n X.A)(ha:PA X (e :: es) t)(le:k<=n:=by first | decide | omega)(hg:Gl X x:=by rfl)(hdb:(x==("__debug__" : Str))=false:=by decide)
  (he:starEach (e :: es) X.env=(false,eval e X.env) :: starEach es X.env:=by rfl) (hpl:(backTo pos (starEach es X.env)).any (·.1)=false:=by rfl):PE X (.Call (.Name x p) (e :: es) [] pos) (yhH sp [] E0 t):=pcl F hr M ha le hg hdb he hpl
theorem ybh {K:qF}{H:Hp}{Q:VK}{p:Addr}{xs:List V}{v:V}(j:Nat)(s:SqT K H p xs)(q:Q v H)(a:xs[j]?=some v:=by rfl):ylD K (.ref p) (.int (j:Int)) H Q:=yd8 s (yav a) q
theorem ynZ {K:qF}{H:Hp}{Q:VK}{p:Addr}{xs:List V}{v:V}(j:Nat)(s:SqL K H p xs)(q:Q v H)(a:xs[j]?=some v:=by rfl):ynN K (.ref p) (.int (j:Int)) H Q:=ybq s (yav a) q
theorem ybA {n:Nat}{A:Prop}(q:A)(h:n.ble 999=true:=by rfl):n<=sizeLine/\A:=⟨Nat.le_of_lt (yaD (Nat.le_succ_of_le (Nat.le_of_ble_eq_true h))),q⟩
theorem hrm {k n:Nat}{A:Around}(h:Room n A)(le:k<=n:=by first | decide | omega):Room k A:=h.mono le
section
variable {X:Cx} {a e:Expr} {ta te:TE} {i:Int} {j:Nat} {p q pos pos':Pos} {x:Str} {es:List Expr} {t:TA}
theorem xT (h:PE X a ta):PE X (a.Subscript (.Constant (.int i) j p) q) (tOp (ylD X.K) ta (tC (.int i))):=ya5 ycJ h yah (λ_ _=>rfl)
theorem xL (h:PE X a ta):PE X (a.Subscript (.Constant (.int i) j p) q) (tOp (ynN X.K) ta (tC (.int i))):=ya5 ya1 h yah (λ_ _=>rfl)
theorem pst (n:Nat)(hN:X.N.Nodup)(he:PE X e te)(hi:X.N[n]?=some x:=by rfl)(hx:Loc X.env.scope x:=by exact Or.inl rfl)(hs:swapsWith e (some (.Name x pos')) pos.line X.env=pure false:=by rfl)(hf:X.fn x=true∨X.env.scope.names.lookup x=some .local:=by first | exact .inl rfl | exact .inr rfl | assumption):PS X (.Assign [.Name x pos'] e pos) (ylK te (ybt n)):=ycR hN hi hx he hs hf
theorem pgs (n:Nat)(hN:X.N.Nodup)(hi:X.N[n]?=some x:=by rfl)(hx:Loc X.env.scope x:=by exact Or.inl rfl)(hf:X.fn x=true∨X.env.scope.names.lookup x=some .local:=by first | exact .inl rfl | exact .inr rfl | assumption):PG X (.Name x pos) (ybt n):=ydy hN hi hx hf
theorem pgb (n:Nat)(hi:X.N[n]?=some x:=by rfl)(hN:X.N.Nodup:=by dsimp only[cxB];decide)(hx:Loc X.env.scope x:=by exact Or.inl rfl)(hf:X.fn x=true∨X.env.scope.names.lookup x=some .local:=by first | exact .inl rfl | exact .inr rfl | assumption):PG X (.Name x pos) (ybt n):=ydy hN hi hx hf
abbrev pln (Z:X.mg "len"=none)(ha:PA X (e :: es) t)(he:starEach (e :: es) X.env=(false,eval e X.env) :: starEach es X.env:=by rfl)(hl:((backTo pos (starEach es X.env)).any λx=>x.fst)=false:=by rfl)(hg:Gl X "len":= by rfl):=yar (p:=p) (pos:=pos) ygM hg Z PySem.boot_len ha (by decide) (by decide) he hl
end
noncomputable abbrev ycq {X:Cx}{o e:Expr}{es:List Expr}{to:TE}{t:TA}{apos cpos:Pos}:=@yex X o e es to t _ apos cpos _ _ _ F.plainAttrs_str F.slot_str_startswith F.type_str_startswith yjM
abbrev yb0 {X:Cx}{o e:Expr}{es:List Expr}{to:TE}{t:TA}{apos cpos:Pos}:=@yex X o e es to t _ apos cpos _ _ _ F.plainAttrs_str F.slot_str_split F.type_str_split ymA
abbrev yck {X:Cx}{o e:Expr}{es:List Expr}{to:TE}{t:TA}{apos cpos:Pos}:=@yex X o e es to t _ apos cpos _ _ _ F.plainAttrs_str F.slot_str_join F.type_str_join ypc
noncomputable abbrev yiC {X:Cx}{o e:Expr}{es:List Expr}{to:TE}{t:TA}{apos cpos:Pos}:=@yex X o e es to t _ apos cpos _ _ _ F.plainAttrs_str F.slot_str_find F.type_str_find yo4
abbrev yiE {X:Cx}{o e:Expr}{es:List Expr}{to:TE}{t:TA}{apos cpos:Pos}:=@yex X o e es to t _ apos cpos _ _ _ F.plainAttrs_str F.slot_str_endswith F.type_str_endswith ypD
abbrev yjN {X:Cx}{o e:Expr}{es:List Expr}{to:TE}{t:TA}{apos cpos:Pos}:=@yex X o e es to t _ apos cpos _ _ _ F.plainAttrs_str F.slot_str_rstrip F.type_str_rstrip ymL
abbrev yb9 {X:Cx}{o e:Expr}{es:List Expr}{to:TE}{t:TA}{apos cpos:Pos}:=@yex X o e es to t _ apos cpos _ _ _ F.plainAttrs_list F.slot_list_append F.type_list_append yhj
abbrev ydf {X:Cx}{o e:Expr}{es:List Expr}{to:TE}{t:TA}{apos cpos:Pos}:=@yex X o e es to t _ apos cpos _ _ _ F.plainAttrs_str F.slot_str_partition F.type_str_partition ydO
abbrev ye1 {X:Cx}{o e:Expr}{es:List Expr}{to:TE}{t:TA}{apos cpos:Pos}:=@yex X o e es to t _ apos cpos _ _ _ F.plainAttrs_str F.slot_str_index F.type_str_index ylH
abbrev yi1 {X:Cx}{o e:Expr}{es:List Expr}{to:TE}{t:TA}{apos cpos:Pos}:=@yex X o e es to t _ apos cpos _ _ _ F.plainAttrs_dict F.slot_dict_update F.type_dict_update ykH
end KS
namespace KS
open PySem L2
seal PE PS PSs PT PW PA PG PGs PI ypR
local macro_rules | `(tactic| walk_at "rd") => `(tactic| simp only [ys0, ypj, yu9, ysg, ysX, tOr, ytO, tIf, yo3, ylS, tB, tCB, ycO, ylc, yjr, tC, tOp, tUn, yiw, yhH, tSl, yl2, yfp, yrB, ysJ, tBM, yt7, yoh, ylK, ybt, ynm, yda, yn1, yuY, yjo, rI, rI0, rU, rEq, rNe, yt4, yqC, yjY, ytL, ynN, ylD, yu8, ysM, yun, yta, yqJ, rIn, yhy, yry, ysO, yrA, yms, ysN, ylV, yoK, yu6, yjQ, ypW, ymd, ykh, yrS, ynr, ynw, yvd, ynV, yuU, ypm, yj3, ypF, ys6, ylw, you, yu1, yqp, yuO, yuS, ysI, ysE, ynF, ykJ, yuX, ypH, ynP, yoY, ym7, ydM, yrD, ytK, yhn, ysV, yuT, ipI, ys9, ypE, yl9, ypt, ymG, yjX, yo0, yng, ypo, yir, ygB, L2.start, List.map_cons, List.map_nil, List.length_cons, List.length_nil, List.replicate, List.cons_append, List.nil_append, List.append_nil, List.getElem?_cons_zero, List.getElem?_cons_succ, List.set_cons_zero, List.set_cons_succ, Nat.reduceAdd, Nat.reduceSub, Option.some.injEq, List.cons.injEq, and_true, true_and, exists_eq_left', exists_eq_left, exists_eq_right, exists_eq_right', V.ty.injEq, V.int.injEq, V.bl.injEq, V.str.injEq, V.ref.injEq, and_assoc, exists_and_left, reduceCtorEq, false_and, and_false, exists_false, or_false, false_or, Bool.not_eq_true', Bool.false_eq_true, if_false, if_true, Bool.not_true, Bool.not_false, decide_eq_true_eq, decide_eq_false_iff_not, Bool.or_eq_true, Bool.and_eq_true, Int.reduceLT, Int.reduceNeg])
local macro_rules | `(tactic| left) => `(tactic| repeat (first | (with_reducible first | refine ycn ?_ | refine yjJ ?_ | refine yqG ?_ | refine i_c ?_ | refine yuy ?_ | refine ys1 ?_ | refine yqN ?_ | refine ybr ?_ | refine yti ?_ | refine yuA ?_ | refine yaT ?_ | refine ybV ?_ | refine ydu ?_ | refine ypU ?_ | refine yvy ?_ | refine yvk ?_ | refine yur ?_ | refine yrT ?_ | refine ykI ?_ | refine yvA ?_ | refine i_U ?_ | refine yve ?_ | refine yra ?_ | refine i_notV ?_ | refine yvz ?_ | refine yri ?_ | refine yc3 ?_ | refine i_T ?_ | refine i_F ?_ | refine yo9 ?_ | refine yuH ?_ | refine ytg ?_ | refine ysr ?_ | refine ysQ ?_ | refine i_enm ?_ | refine ytn ?_ | refine ysR ?_ | refine ytc ?_ | refine yqg ?_ | refine yvl ?_ | refine i_bm0 ?_ | refine i_sub ?_ | refine yvt ?_ | refine i_ip ?_ | refine yhY ?_ | refine yro ?_ | refine yvw ?_ | refine ysl ?_ | refine ylE (.inl (by decide)) ?_ | refine ylE (.inr (by decide)) ?_ | refine i_aug (by with_unfolding_all rfl) ?_ | refine i_I (by decide) ?_ | refine ysf (by decide) ?_ | refine yst ?_ | refine yj6 (by with_unfolding_all rfl) ?_ | refine i_orV ?_ | refine i_m1 ?_) | dsimp only))
set_option hygiene false in
local macro_rules | `(tactic| o_head ($a, $b)) => `(tactic| (refine ($a).ok $b (fun vs H Q E h => ?_) (fun _ _ _ _ H vs Q E hr h => ?_); (· first | (obtain ⟨rfl, _⟩ := h; rfl) | (obtain ⟨_, rfl, _⟩ := h; rfl) | (obtain ⟨_, _, rfl, _⟩ := h; rfl) | (obtain ⟨_, _, _, rfl, _⟩ := h; rfl) | (obtain ⟨_, _, _, _, rfl, _⟩ := h; rfl) | (obtain ⟨_, _, _, _, _, rfl, _⟩ := h; rfl)); have hu := yhO hr))
local macro_rules | `(tactic| right) => `(tactic| (left; refine ⟨rfl, ybr ?_⟩; first | rw [if_pos (by decide +kernel)] | rw [if_neg (by decide +kernel)]))
local macro_rules | `(tactic| ac_rfl) => `(tactic| decide +kernel)
section
variable {P:Program} {w:World} {K:qF} {mg:Str->Option Value} {base:Heap} {t:Ad} (T:Txt K mg t)
theorem ybI {n:Nat}(h:n<=1000):n<=sizeLine:=Nat.le_of_lt (yaD h)
theorem ybn {H H':Hp}{D:Addr}{o:HO}(hD:H D=none)(sm:Same H H'):Same H (upd H' D o):=λb u hb=>by
 rw[yas (yak hb hD)]
 exact sm _ _ hb
inductive Th where
 | im (v:V) | ls (ts:List Th) | tp (ts:List Th) | dk
noncomputable def imV:V->Bool
 | .non=>true
 | .bl _=>true
 | .int _=>true
 | .str _=>true
 | _=>false
mutual
def Is (H:Hp):V->Th->Prop
 | x,.im v=>x=v/\imV v=true
 | x,.ls ts=>∃ a xs,x=.ref a/\H a=some (.lst xs)/\Iss H xs ts
 | x,.tp ts=>∃ a xs,x=.ref a/\H a=some (.tup xs)/\Iss H xs ts
 | x,.dk=>∃ a kvs,x=.ref a/\H a=some (.dK kvs)
def Iss (H:Hp):List V->List Th->Prop
 | xs,[]=>xs=[]
 | xs,t :: ts=>∃ x r,xs=x :: r/\Is H x t/\Iss H r ts
end
mutual
theorem Is.same {H H':Hp}(s:Same H H'):∀ {v:V} {t:Th},Is H v t->Is H' v t
 | v,.im w,h=>by rw[Is] at h ⊢;exact h
 | v,.ls ts,h=>by
  rw[Is] at h ⊢
  obtain⟨a,xs,e,q,r⟩:=h
  exact⟨a,xs,e,s _ _ q,Iss.same s r⟩
 | v,.tp ts,h=>by
  rw[Is] at h ⊢
  obtain⟨a,xs,e,q,r⟩:=h
  exact⟨a,xs,e,s _ _ q,Iss.same s r⟩
 | v,.dk,h=>by
  rw[Is] at h ⊢
  obtain⟨a,xs,e,q⟩:=h
  exact⟨a,xs,e,s _ _ q⟩
theorem Iss.same {H H':Hp}(s:Same H H'):∀ {xs:List V} {ts:List Th},Iss H xs ts->Iss H' xs ts
 | xs,[],h=>by rw[Iss] at h ⊢;exact h
 | xs,t :: ts,h=>by
  rw[Iss] at h ⊢
  obtain⟨x,r,e,q,z⟩:=h
  exact⟨x,r,e,Is.same s q,Iss.same s z⟩
end
theorem Iss.len {H:Hp}:∀ {xs:List V} {ts:List Th},Iss H xs ts->xs.length=ts.length
 | xs,[],h=>by rw[Iss] at h;rw[h];rfl
 | xs,t :: ts,h=>by
  rw[Iss] at h
  obtain⟨x,r,rfl,q,z⟩:=h
  rw[qC,qC,Iss.len z]
theorem Iss.app {H:Hp}:∀ {xs ys:List V} {ts us:List Th},Iss H xs ts->Iss H ys us->Iss H (xs++ys) (ts++us)
 | xs,ys,[],us,h,g=>by rw[Iss] at h;rw[h];exact g
 | xs,ys,t :: ts,us,h,g=>by
  rw[Iss] at h
  obtain⟨x,r,rfl,q,z⟩:=h
  rw[List.cons_append,List.cons_append,Iss]
  exact⟨x,_,rfl,q,Iss.app z g⟩
theorem Iss.at' {H:Hp}:∀ {xs:List V} {ts:List Th} (j:Nat) (h:Iss H xs ts) (hj:j < ts.length),∃ x,xs[j]?=some x/\Is H x ts[j]
 | xs,t :: ts,0,h,_=>by
  rw[Iss] at h
  obtain⟨x,r,rfl,q,z⟩:=h
  exact⟨x,rfl,q⟩
 | xs,t :: ts,j+1,h,hj=>by
  rw[Iss] at h
  obtain⟨x,r,rfl,q,z⟩:=h
  obtain⟨y,e,i⟩:=Iss.at' j z (by simpa using hj)
  exact⟨y,by rw[List.getElem?_cons_succ];exact e,by rw[List.getElem_cons_succ];exact i⟩
noncomputable def kT:Th->Knd
 | .im .non=>.non
 | .im (.bl _)=>.bl
 | .im (.int _)=>.int
 | .im (.str _)=>.str
 | .im _=>.non
 | .ls _=>.lst
 | .tp _=>.tup
 | .dk=>.dct
theorem Is.knd {H:Hp}{x:V}{tr:Th}(h:Is H x tr):KndOf H x (kT tr):=by
 cases tr with
 | im v =>
  rw[Is] at h
  obtain⟨rfl,h⟩:=h
  cases x<;>first | exact .non | exact .bl _ | exact .int _ | exact .str _ | cases h
 | ls ts=>rw[Is] at h;obtain⟨a,xs,rfl,e,_⟩:=h;exact .lst e
 | tp ts=>rw[Is] at h;obtain⟨a,xs,rfl,e,_⟩:=h;exact .tup e
 | dk=>rw[Is] at h;obtain⟨a,xs,rfl,e⟩:=h;exact .dct e
noncomputable def nT (i:Int):Th:=.im (.int i)
theorem Iss.ints {H:Hp}:∀ {ns:List Int} {xs:List V},Iss H xs (ns.map nT)->xs=ns.map V.int
 | [],xs,h=>by rw[List.map_nil,Iss] at h;rw[h];rfl
 | n :: ns,xs,h=>by
  rw[List.map_cons,Iss] at h
  obtain⟨x,r,rfl,i,z⟩:=h
  rw[nT,Is] at i
  rw[i.1,Iss.ints z]
  rfl
theorem yuQ {v:V}:dep (.vl v)<=60:=by simp[dep]
theorem yil (xs:List V)(k:Nat)(h:k<=xs.length):yjy xs (some (k:Int)) none=xs.drop k:=by
 unfold yjy
 rw[HT.sIx_none,HT.sIx_nat,Nat.min_eq_left h]
 exact List.take_of_length_le (by rw[List.length_drop];exact qR _)
theorem Iss.take {H:Hp}:∀ {xs:List V} {ts:List Th} (k:Nat),Iss H xs ts->Iss H (xs.take k) (ts.take k)
 | xs,ts,0,_=>by rw[List.take_zero,List.take_zero,Iss]
 | xs,[],k+1,h=>by rw[Iss] at h;rw[h,List.take_nil,List.take_nil,Iss]
 | xs,t :: ts,k+1,h=>by
  rw[Iss] at h
  obtain⟨x,r,rfl,i,z⟩:=h
  rw[List.take_succ_cons,List.take_succ_cons,Iss]
  exact⟨x,_,rfl,i,Iss.take k z⟩
theorem Iss.drop {H:Hp}:∀ {xs:List V} {ts:List Th} (k:Nat),Iss H xs ts->Iss H (xs.drop k) (ts.drop k)
 | xs,ts,0,h=>by rw[List.drop_zero,List.drop_zero];exact h
 | xs,[],k+1,h=>by rw[Iss] at h;rw[h,List.drop_nil,List.drop_nil,Iss]
 | xs,t :: ts,k+1,h=>by
  rw[Iss] at h
  obtain⟨x,r,rfl,i,z⟩:=h
  rw[List.drop_succ_cons,List.drop_succ_cons]
  exact Iss.drop k z
noncomputable def rm (H:Hp)(c:Addr):Hp:=λb=>if b=c then none else H b
noncomputable def fr (H H':Hp):Hp:=λb=>if H b=none then H' b else none
theorem ybQ {H:Hp}{b c:Addr}(h:b≠c):rm H c b=H b:=by unfold rm;rw[if_neg h]
theorem ykc {H:Hp}{c:Addr}:rm H c c=none:=by unfold rm;rw[if_pos rfl]
theorem yb6 {H:Hp}{b c:Addr}{u:HO}(h:rm H c b=some u):b≠c/\H b=some u:=by
 by_cases z:b=c
 ·rw[z,ykc] at h;cases h
 ·exact⟨z,by rw[ybQ z] at h;exact h⟩
theorem ycz {H H':Hp}{b:Addr}(h:H b=none):fr H H' b=H' b:=by unfold fr;rw[if_pos h]
theorem yb4 {H H':Hp}{b:Addr}{u:HO}(h:fr H H' b=some u):H b=none/\H' b=some u:=by
 by_cases z:H b=none
 ·exact⟨z,by rw[ycz z] at h;exact h⟩
 ·unfold fr at h;rw[if_neg z] at h;cases h
theorem yep (H:Hp)(c:Addr):Same (rm H c) H:=λb u h=>(yb6 h).2
theorem yhv (H H':Hp):Same (fr H H') H':=λb u h=>(yb4 h).2
theorem ydA {H H1 H2:Hp}(s:Same H1 H2):Same (fr H H1) (fr H H2):=λb u h=>by
 obtain⟨n,e⟩:=yb4 h
 rw[ycz n]
 exact s _ _ e
theorem yof {H H1 H2:Hp}(s:Same H H1):Same (fr H1 H2) (fr H H2):=λb u h=>by
 obtain⟨n,e⟩:=yb4 h
 rw[ycz (s.free n)]
 exact e
theorem yhN {H H':Hp}{c:Addr}(s:∀ b u,b≠c->H b=some u->H' b=some u):Same (rm H c) (rm H' c):=λb u h=>by
 obtain⟨n,e⟩:=yb6 h
 rw[ybQ n]
 exact s b u n e
theorem yc1 (H:Hp):∀ ns:List Int,Iss H (ns.map V.int) (ns.map nT)
 | []=>by rw[List.map_nil,List.map_nil,Iss]
 | n :: ns=>by
  rw[List.map_cons,List.map_cons,Iss]
  exact⟨_,_,rfl,by rw[nT,Is];exact⟨rfl,rfl⟩,yc1 H ns⟩
theorem ylx {H:Hp}{v:V}(h:imV v=true):Is H v (.im v):=by rw[Is];exact⟨rfl,h⟩
theorem yfS (H:Hp)(i:Int):Is H (.int i) (nT i):=ylx rfl
theorem yaz (H:Hp):Iss H [] []:=by rw[Iss]
theorem yaj {H:Hp}{x:V}{xs:List V}{tr:Th}{ts:List Th}(a:Is H x tr)(b:Iss H xs ts):Iss H (x :: xs) (tr :: ts):=by rw[Iss];exact⟨x,xs,rfl,a,b⟩
theorem yeG {H:Hp}{a:Addr}{xs:List V}{ts:List Th}(e:H a=some (.lst xs))(h:Iss H xs ts):Is H (.ref a) (.ls ts):=by rw[Is];exact⟨a,xs,rfl,e,h⟩
theorem ya3 {H:Hp}{a:Addr}{xs:List V}{ts:List Th}(e:H a=some (.tup xs))(h:Iss H xs ts):Is H (.ref a) (.tp ts):=by rw[Is];exact⟨a,xs,rfl,e,h⟩
theorem ynu {H H4:Hp}{D:Addr}{o:HO}:Same (rm (fr H H4) D) (rm (fr H (upd H4 D o)) D):=λb u h=>by
 obtain⟨n,e⟩:=yb6 h
 obtain⟨n2,e2⟩:=yb4 e
 rw[ybQ n,ycz n2,yas n]
 exact e2
def yiK (k i:Nat):Stmt:=(ybT (top k)).getD i (.Pass ⟨0,0,0,0⟩)
def Tr (X:Cx)(st:Stmt)(Pre Post:St->Hp->Prop):Prop:=∃ t,PS X st t/\∀ D σ H,Pre σ H->(∀ σ' H',Post σ' H'->D.nx σ' H')->t D σ H
def TrR (X:Cx)(st:Stmt)(Pre:St->Hp->Prop)(R:VK):Prop:=∃ t,PS X st t/\∀ D σ H,Pre σ H->(∀ v H',R v H'->D.rt v H')->t D σ H
def TrB (X:Cx)(st:Stmt)(Pre Post:St->Hp->Prop)(R:VK):Prop:=∃ t,PS X st t/\∀ D σ H,Pre σ H->(∀ σ' H',Post σ' H'->D.nx σ' H')->(∀ v H',R v H'->D.rt v H')->t D σ H
section
variable {C:St->Hp->Prop}
end
theorem SameT.trans {c:Addr}{H H1 H2:Hp}(a:SameT c H H1)(b:SameT c H1 H2):SameT c H H2:=λd u n e=>b d u n (a d u n e)
theorem ye0 {c:Addr}{H H1:Hp}{o:HO}(a:SameT c H H1):SameT c H (upd H1 c o):=λd u n e=>by rw[yas n];exact a d u n e
theorem ydm {c f:Addr}{H H1:Hp}{o:HO}(a:SameT c H H1)(hf:H f=none):SameT c H (upd H1 f o):=λd u n e=>by rw[yas (yak e hf)];exact a d u n e
noncomputable def ynv (c:Int):Prop:=Builtin.Int.intBits c<=2 ^ 20
theorem ylZ {c d:Int}{n:Nat}(hn:40<=n)(h:Builtin.Int.intBits c<=n)(hd:d.natAbs<=2 ^ 40):Builtin.Int.intBits (c+d)<=n+1:=by
 rw[PySem.intBits_le_iff]
 have b0:=PySem.intBits_le_iff.mp h
 have e:(2:Nat) ^ (n+1)=2 ^ n+2 ^ n:=by rw[Nat.pow_succ];omega
 have s1:(2:Nat) ^ 40<=2 ^ n:=Nat.pow_le_pow_right (by decide) hn
 rw[e]
 generalize (2:Nat) ^ n=B at *
 omega
theorem ypa {n:Nat}{a:Int}(h:Builtin.Int.intBits a<=n)(hn:n+n<=2097200):IntMulOk a a:=by
 unfold IntMulOk
 have z:Builtin.Int.intTooBig (Builtin.Int.intBits a+Builtin.Int.intBits a)=false:=by
  unfold Builtin.Int.intTooBig bitsLine
  exact decide_eq_false (by omega)
 rw[z]
 simp
theorem yoR {tp p:Addr}{H H':Hp}{o:HO}(s:SameT tp H H')(ht:H' tp=some o)(hp:H' p=none):H p=none:=by
 cases e:H p with
 | none=>rfl
 | some u =>
  have n:p≠tp:=λz=>by rw[z,ht] at hp;cases hp
  rw[s p u n e] at hp
  cases hp
theorem yvr {tp:Addr}{H H' H'':Hp}{o:HO}(ht:H tp=some o)(s:SameT tp H' H''):Same (fr H H') (fr H H''):=λb u h=>by
 obtain⟨n,e⟩:=yb4 h
 rw[ycz n]
 exact s b u (λz=>by rw[z,ht] at n;cases n) e
def yhQ:Sp:=λ_ _ _ _=>False
theorem never {k:Nat}{f:Addr}{fd:FuncData}{qs:List Str}:FnOk P w K mg base CX0 k f fd qs yhQ:=⟨λ_ _ _ _ h=>h.elim,λ_ _ _ _ _ _ _ _ _ _ _ _ _ h=>h.elim⟩
theorem h1 {n:Nat}(h:n+64 < cLine):n+1 < cLine:=Nat.lt_of_le_of_lt (by omega) h
def Tape (H:Hp)(tp:Addr)(N:Nat):Prop:=∃ n:Nat,n<=N/\H tp=some (.lst [.int n])
def Src (K:qF)(a tp:Addr)(ns:List Int)(H:Hp):Prop:=∃ Hs,SqL K Hs a (ns.map V.int)/\Hs tp=none/\Same Hs H
theorem Src.sq {a tp:Addr}{ns:List Int}{H:Hp}(h:Src K a tp ns H):SqL K H a (ns.map V.int):=by
 obtain⟨Hs,h1,_,s⟩:=h
 exact s.seq h1
theorem Src.sameT {a tp:Addr}{ns:List Int}{H H':Hp}(h:Src K a tp ns H)(s:SameT tp H H'):Src K a tp ns H':=by
 obtain⟨Hs,h1,h2,sm⟩:=h
 exact⟨Hs,h1,h2,λb u e=>s b u (yak e h2) (sm b u e)⟩
theorem Tape.same {tp:Addr}{N:Nat}{H H':Hp}(h:Tape H tp N)(s:Same H H'):Tape H' tp N:=by
 obtain⟨n,l,e⟩:=h
 exact⟨n,l,s _ _ e⟩
theorem Tape.up {tp:Addr}{N M:Nat}{H:Hp}(h:Tape H tp N)(l:N<=M):Tape H tp M:=by
 obtain⟨n,l',e⟩:=h
 exact⟨n,by omega,e⟩
theorem yi4 {tp:Addr}{H:Hp}{o:HO}:SameT tp H (upd H tp o):=ye0 λb u _ e=>e
def yqW (ns:List Int):Prop:=∀ v∈ns,ynv v
theorem ynt {H:Hp}:∀ {xs:List V} {ts:List Th},xs.length=ts.length->(∀ (j:Nat) (u:Th),ts[j]?=some u->∃ x,xs[j]?=some x/\Is H x u)->Iss H xs ts
 | [],[],_,_=>yaz H
 | x :: xs,t :: ts,hl,h=>by
  obtain⟨y,e,i⟩:=h 0 t rfl
  cases e
  refine yaj i (ynt (by simpa using hl) λj u hj=>?_)
  obtain⟨z,e,i⟩:=h (j+1) u (by rw[List.getElem?_cons_succ];exact hj)
  exact⟨z,by rw[List.getElem?_cons_succ] at e;exact e,i⟩
 | [],_ :: _,hl,_=>nomatch hl
 | _ :: _,[],hl,_=>nomatch hl
noncomputable def nw (Hs H H':Hp):Hp:=λb=>if H b=none then H' b else Hs b
theorem ybx {Hs H H':Hp}{b:Addr}(h:H b=none):nw Hs H H' b=H' b:=by unfold nw;rw[if_pos h]
theorem ycM {Hs H H':Hp}{b:Addr}{u:HO}(h:H b=some u):nw Hs H H' b=Hs b:=by unfold nw;rw[if_neg (by rw[h];simp)]
theorem yrl {Hs H H':Hp}(a:Same Hs H)(b:Same H H'):Same (nw Hs H H') H':=λc u e=>by
 cases h:H c with
 | none=>rw[ybx h] at e;exact e
 | some v=>rw[ycM h] at e;exact b _ _ (a _ _ e)
theorem yfy {Hs H H':Hp}(a:Same Hs H):Same Hs (nw Hs H H'):=λc u e=>by rw[ycM (a _ _ e)];exact e
def Al {α:Type}(S:V->α->Prop)(xs:List V)(us:List α):Prop:=xs.length=us.length/\∀ i (h:i < us.length),∃ x,xs[i]?=some x/\S x us[i]
section
variable {α β:Type}
theorem Al.nil {S:V->α->Prop}:Al S [] []:=⟨rfl,λ_ h=>nomatch h⟩
theorem Al.imp {S S':V->α->Prop}{xs:List V}{us:List α}(h:Al S xs us)(k:∀ x u,u∈us->S x u->S' x u):Al S' xs us :=
 ⟨h.1,λi hi=>let ⟨x,e,s⟩:=h.2 i hi;⟨x,e,k _ _ (List.getElem_mem hi) s⟩⟩
theorem Al.snoc {S:V->α->Prop}{xs:List V}{us:List α}{x:V}{u:α}(h:Al S xs us)(s:S x u):Al S (xs++[x]) (us++[u]):=by
 refine⟨by rw[qA,qA,h.1];rfl,λi hi=>?_⟩
 rw[qA,qS] at hi
 by_cases e:i < us.length
 ·obtain⟨y,e1,e2⟩:=h.2 i e
  exact⟨y,by rw[List.getElem?_append_left (by rw[h.1];exact e)];exact e1,by rw[List.getElem_append_left e];exact e2⟩
 ·have:i=us.length:=by omega
  subst this
  refine⟨x,by rw[List.getElem?_append_right (by rw[h.1];exact qR _),h.1];simp,by simpa using s⟩
theorem yec {H:Hp}{f:α->Th}:∀ {xs:List V} {us:List α},Iss H xs (us.map f)->Al (λx u=>Is H x (f u)) xs us:=λ{xs us} h =>
 ⟨by rw[h.len,qM],λi hi=>by
  obtain⟨x,e,s⟩:=h.at' i (by rw[qM];exact hi)
  rw[List.getElem_map] at s
  exact⟨x,e,s⟩⟩
theorem yqY {H:Hp}{f:α->Th}{xs:List V}{us:List α}(h:Al (λx u=>Is H x (f u)) xs us):Iss H xs (us.map f):=by
 refine ynt (by rw[qM,h.1]) λj u e=>?_
 rw[qm] at e
 have hj:j < us.length:=by
  cases z:us[j]? with
  | none=>rw[z] at e;cases e
  | some v=>exact(qE z).1
 rw[qG hj] at e
 obtain⟨x,e1,s⟩:=h.2 j hj
 cases e
 exact⟨x,e1,s⟩
def yoC (R:Hp->V->α->Prop):Prop:=∀ {H H':Hp} {x:V} {u:α},Same H H'->R H x u->R H' x u
theorem ypf {K:qF}{a D:Addr}{xs:List V}{us:List α}{te:TE}{Fin:Hp->Prop}{o:Option V}{r:St}{H Hs:Hp}{R:Hp->V->α->Prop}{S:Hp->V->β->Prop}(hR:yoC R)(hS:yoC S)(f:α->β)
  (sH:Same Hs H) (ha:H a=some (.lst xs)) (al:Al (R Hs) xs us) (hD:H D=none) (hz:us.length<=900)
  (hte:∀ x u (H' Hs':Hp) (Q':VK),u∈us->Same Hs Hs'->Same H H'->Same Hs' H'->R Hs' x u->(∀ y H'',Same H' H''->S (nw Hs' H' H'') y (f u)->Q' y H'')->te (some x :: r) H' Q')
  (fin:∀ ys H',Same H H'->H' D=some (.lst ys)->Al (S (nw Hs H (rm H' D))) ys (us.map f)->Fin H') :
  ∃ W:Nat->Nat->St->Hp->Prop,(∃ m,W 0 m (o :: r) (upd H D (.lst [])))/\ydd (Itl K a) (ybt 0) ygl te D Fin W:=by
 refine ye2 (xs:=xs) (λi σ' H'=>(∃ o,σ'=o :: r)/\Same H H'/\∃ ys,H' D=some (.lst ys)/\Al (S (nw Hs H (rm H' D))) ys ((us.take i).map f)) ⟨⟨_,rfl⟩,yae hD _,[],yac,Al.nil⟩ (λ_ _ _ _ h=>SqL.of (h.2.1 _ _ ha)) ?_ ?_
 ·rintro i x σ' H' N hN hx ⟨⟨o,rfl⟩,sm,ys,hd,as⟩
  have hi:i < us.length:=by have:=(qE hx).1;rw[al.1] at this;exact this
  obtain⟨x',e,rx⟩:=al.2 i hi
  rw[hx] at e
  cases e
  refine yaT (yc3 (i_T ?_))
  have s1:Same Hs (nw Hs H (rm H' D)):=yfy sH
  have s2:Same (nw Hs H (rm H' D)) H':=λc u e=>by
   cases h:H c with
   | none=>rw[ybx h] at e;exact(yb6 e).2
   | some v=>rw[ycM h] at e;exact sm _ _ (sH _ _ e)
  refine hte x us[i] H' _ _ (List.getElem_mem hi) s1 sm s2 (hR s1 rx) λy H2 t2 sy=>⟨ys,t2 _ _ hd,?_,hN _ _ ⟨⟨_,rfl⟩,ybn hD (sm.trans t2),_,yac,?_⟩⟩
  ·rw[as.1,qM,qT]
   exact yaD (by omega)
  ·have up:Same (nw (nw Hs H (rm H' D)) H' H2) (nw Hs H (rm (upd H2 D (.lst (ys++[y]))) D)):=λc u e=>by
    have key:∀ {u},H2 c=some u->c≠D->H c=none->nw Hs H (rm (upd H2 D (.lst (ys++[y]))) D) c=some u:=λe n h=>by rw[ybx h,ybQ n,yas n];exact e
    cases h1:H' c with
    | none =>
     rw[ybx h1] at e
     exact key e (λz=>by rw[z,hd] at h1;cases h1) (sm.free h1)
    | some v =>
     rw[ycM h1] at e
     cases h:H c with
     | none =>
      rw[ybx h] at e
      obtain⟨n,e⟩:=yb6 e
      exact key (t2 _ _ e) n h
     | some w=>rw[ycM h] at e ⊢;exact e
   rw[List.take_succ_eq_append_getElem hi,qP]
   refine Al.snoc (as.imp λ_ _ _ z=>hS ?_ z) (hS up sy)
   exact λc u e=>up c u (yfy s2 _ _ e)
 ·rintro σ' H' ⟨_,sm,ys,hd,as⟩
  rw[al.1,List.take_length] at as
  exact fin ys H' sm hd as
end
def yki (te:TE)(tr:Th):Prop:=∀ σ H Q,(∀ x H',Same H H'->Is (fr H H') x tr->Q x H')->te σ H Q
def ykV (ta:TA)(ts:List Th):Prop:=∀ σ H Q,(∀ xs H',Same H H'->Iss (fr H H') xs ts->Q xs H')->ta σ H Q
theorem yrk {v:V}(h:imV v=true):yki (tC v) (.im v):=fun σ H Q q=>q v H (Same.refl H) (ylx h)
theorem ysv:ykV ylc []:=fun σ H Q q=>q _ _ (Same.refl H) (yaz _)
theorem yrL {ta:TE}{tr:TA}{t:Th}{ts:List Th}(a:yki ta t)(b:ykV tr ts):ykV (ycO ta tr) (t :: ts):=fun σ H Q q =>
 a σ H _ λx H1 s1 i1=>b σ H1 _ λxs H2 s2 i2=>q _ _ (s1.trans s2) (yaj (i1.same (ydA s2)) (i2.same (yof s1)))
theorem ypT {H H1:Hp}{p:Addr}{o:HO}(hp:H1 p=none):Same (fr H H1) (fr H (upd H1 p o)):=ydA (yae hp o)
theorem ytA {tr:TA}{ts:List Th}(a:ykV tr ts)(h:ts.length<=1000):yki (yrB tr) (.tp ts):=fun σ H Q q=>a σ H _ λxs H1 s1 i1 =>
 ⟨ybI (by rw[i1.len];exact h),λp hp=>q _ _ (s1.trans (yae hp _)) (ya3 (by rw[ycz (s1.free hp)];exact yac) (i1.same (ypT hp)))⟩
theorem ypQ {tr:TA}{ts:List Th}(a:ykV tr ts)(h:ts.length<=1000):yki (ysJ tr) (.ls ts):=fun σ H Q q=>a σ H _ λxs H1 s1 i1 =>
 ⟨ybI (by rw[i1.len];exact h),λp hp=>q _ _ (s1.trans (yae hp _)) (yeG (by rw[ycz (s1.free hp)];exact yac) (i1.same (ypT hp)))⟩
theorem ypV {v:V}(h:imV v=true):eqT (.vl v) (.vl v)=true:=by
 cases v with
 | non=>simp[eqT,eqV]
 | bl b=>cases b<;>simp[eqT,eqV]
 | int i=>simp[eqT,eqV]
 | str x=>simp[eqT,eqV]
 | _=>cases h
theorem yju {K:qF}{H:Hp}{v:V}(h:imV v=true):Rep K H v (.vl v):=by
 rw[Rep]
 refine⟨rfl,?_⟩
 cases v<;>first | rfl | cases h
theorem ykL {x:V}{n:String}{k:Knd}{H:Hp}{Q:VK}(h:KndOf H x k)(q:Q (.bl (k.isA n)) H)(hn:ydi n:=by unfold ydi;decide):yt4 [x,.ty n] H Q:=⟨x,n,k,rfl,hn,h,q⟩
theorem yo6 {a b c:Int}{ta tb tc:TE}{σ:St}{H:Hp}{Q:VK}(ha:∀ Q':VK,Q' (.int a) H->ta σ H Q')(hb:∀ Q':VK,Q' (.int b) H->tb σ H Q')(hc:∀ Q':VK,Q' (.int c) H->tc σ H Q')(q:Q (.bl (decide (a<=b/\b<=c))) H) :
  yiw (rI0 λi j=>V.bl (decide (i<=j))) (rI0 λi j=>V.bl (decide (i<=j))) ta tb tc σ H Q:=by
 refine ha _ (hb _ (yuy (ybr ?_)))
 by_cases h:a<=b
 ·rw[if_pos (by simpa using h)]
  refine hc _ (yuy ?_)
  rw[show decide (b<=c)=decide (a<=b/\b<=c) by simp[h]]
  exact q
 ·rw[if_neg (by simpa using h)]
  rw[show decide (a<=b/\b<=c)=false by simp[h]] at q
  exact q
section
variable {α:Type}
theorem ycZ {a D:Addr}{xs:List V}{us:List α}{te:TE}{Fin:Hp->Prop}{o:Option V}{r:St}{H:Hp}{R:V->α->Prop}(f:α->V)(ha:H a=some (.lst xs))(al:Al R xs us)(hD:H D=none)(hz:us.length<=900)
  (hte:∀ x u (H':Hp) (Q':VK),u∈us->Same H H'->R x u->(∀ H'',Same H' H''->Q' (f u) H'')->te (some x :: r) H' Q') (fin:∀ H',Same H H'->H' D=some (.lst (us.map f))->Fin H') :
  ∃ W:Nat->Nat->St->Hp->Prop,(∃ m,W 0 m (o :: r) (upd H D (.lst [])))/\ydd (Itl K a) (ybt 0) ygl te D Fin W:=by
 refine ye2 (xs:=xs) (λi σ' H'=>(∃ o,σ'=o :: r)/\Same H H'/\H' D=some (.lst ((us.take i).map f))) ⟨⟨_,rfl⟩,yae hD _,yac⟩ (λ_ _ _ _ h=>SqL.of (h.2.1 _ _ ha)) ?_ ?_
 ·rintro i x σ' H' N hN hx ⟨⟨o,rfl⟩,sm,hd⟩
  have hi:i < us.length:=by have:=(qE hx).1;rw[al.1] at this;exact this
  obtain⟨x',e,rx⟩:=al.2 i hi
  rw[hx] at e
  cases e
  refine yaT (yc3 (i_T (hte x us[i] H' _ (List.getElem_mem hi) sm rx λH2 t2=>⟨_,t2 _ _ hd,?_,hN _ _ ⟨⟨_,rfl⟩,ybn hD (sm.trans t2),?_⟩⟩)))
  ·rw[qM,qT]
   exact yaD (by omega)
  ·rw[yac,List.take_succ_eq_append_getElem hi,qP]
   rfl
 ·rintro σ' H' ⟨_,sm,hd⟩
  rw[al.1,List.take_length] at hd
  exact fin H' sm hd
theorem ykw {a D:Addr}{xs:List V}{us:List α}{te:TE}{Fin:Hp->Prop}{o:Option V}{r:St}{H:Hp}{R:V->α->Prop}(f:α->V)(ha:H a=some (.tup xs))(al:Al R xs us)(hD:H D=none)(hz:us.length<=900)
  (hte:∀ x u (H':Hp) (Q':VK),u∈us->Same H H'->R x u->(∀ H'',Same H' H''->Q' (f u) H'')->te (some x :: r) H' Q') (fin:∀ H',Same H H'->H' D=some (.lst (us.map f))->Fin H') :
  ∃ W:Nat->Nat->St->Hp->Prop,(∃ m,W 0 m (o :: r) (upd H D (.lst [])))/\ydd (Itt K a) (ybt 0) ygl te D Fin W:=by
 refine yfL (xs:=xs) (λi σ' H'=>(∃ o,σ'=o :: r)/\Same H H'/\H' D=some (.lst ((us.take i).map f))) ⟨⟨_,rfl⟩,yae hD _,yac⟩ (λ_ _ _ _ h=>SqT.of (h.2.1 _ _ ha)) ?_ ?_
 ·rintro i x σ' H' hx ⟨⟨o,rfl⟩,sm,hd⟩
  have hi:i < us.length:=by have:=(qE hx).1;rw[al.1] at this;exact this
  obtain⟨x',e,rx⟩:=al.2 i hi
  rw[hx] at e
  cases e
  refine yaT (yc3 (i_T (hte x us[i] H' _ (List.getElem_mem hi) sm rx λH2 t2=>⟨_,t2 _ _ hd,?_,⟨_,rfl⟩,ybn hD (sm.trans t2),?_⟩)))
  ·rw[qM,qT]
   exact yaD (by omega)
  ·rw[yac,List.take_succ_eq_append_getElem hi,qP]
   rfl
 ·rintro σ' H' ⟨_,sm,hd⟩
  rw[al.1,List.take_length] at hd
  exact fin H' sm hd
theorem yrv {f:α->V}(us:List α):Al (λx u=>x=f u) (us.map f) us:=⟨qM _,λi h=>⟨_,by rw[qm,qG h];rfl,rfl⟩⟩
end
mutual
def yeJ:Th->L2.Tr
 | .im v=>.vl v
 | .ls ts=>.ls (toTrs ts)
 | .tp ts=>.tp (toTrs ts)
 | .dk=>.vl .non
def toTrs:List Th->List L2.Tr
 | []=>[]
 | t :: ts=>yeJ t :: toTrs ts
end
mutual
def ydT:Th->Bool
 | .im v=>imV v
 | .ls ts=>cleans ts
 | .tp ts=>cleans ts
 | .dk=>false
def cleans:List Th->Bool
 | []=>true
 | t :: ts=>ydT t&&cleans ts
end
mutual
theorem Is.rep {H:Hp}:∀ {x:V} {tr:Th},ydT tr=true->Is H x tr->Rep K H x (yeJ tr)
 | x,.im v,c,h=>by
  rw[Is] at h
  rw[h.1,yeJ]
  exact yju h.2
 | x,.ls ts,c,h=>by
  rw[Is] at h
  obtain⟨a,xs,e,q,r⟩:=h
  rw[yeJ,Rep]
  exact⟨a,xs,e,SqL.of q,Iss.rep (by rw[ydT] at c;exact c) r⟩
 | x,.tp ts,c,h=>by
  rw[Is] at h
  obtain⟨a,xs,e,q,r⟩:=h
  rw[yeJ,Rep]
  exact⟨a,xs,e,SqT.of q,Iss.rep (by rw[ydT] at c;exact c) r⟩
 | x,.dk,c,_=>by rw[ydT] at c;cases c
theorem Iss.rep {H:Hp}:∀ {xs:List V} {ts:List Th},cleans ts=true->Iss H xs ts->Reps K H xs (toTrs ts)
 | xs,[],_,h=>by rw[Iss] at h;rw[toTrs,Reps];exact h
 | xs,t :: ts,c,h=>by
  rw[Iss] at h
  obtain⟨x,r,e,q,z⟩:=h
  rw[cleans,Bool.and_eq_true] at c
  rw[toTrs,Reps]
  exact⟨x,r,e,Is.rep c.1 q,Iss.rep c.2 z⟩
end
mutual
theorem ykD:∀ {tr:Th},ydT tr=true->eqT (yeJ tr) (yeJ tr)=true
 | .im v,c=>by rw[yeJ];rw[ydT] at c;exact ypV c
 | .ls ts,c=>by rw[yeJ];rw[ydT] at c;exact eqs_self c
 | .tp ts,c=>by rw[yeJ];rw[ydT] at c;exact eqs_self c
 | .dk,c=>by rw[ydT] at c;cases c
theorem eqs_self:∀ {ts:List Th},cleans ts=true->eqTs (toTrs ts) (toTrs ts)=true
 | [],_=>rfl
 | t :: ts,c=>by
  rw[cleans,Bool.and_eq_true] at c
  rw[toTrs]
  show(eqT (yeJ t) (yeJ t)&&eqTs (toTrs ts) (toTrs ts))=true
  rw[ykD c.1,eqs_self c.2]
  rfl
end
noncomputable def dpT (tr:Th):Nat:=dep (yeJ tr)
def yn5 (ts:List Th):Nat:=deps (toTrs ts)
theorem yd7:∀ {ts:List Th},(∀ u∈ts,ydT u=true)->cleans ts=true
 | [],_=>rfl
 | t :: ts,h=>by rw[cleans,h t (by simp),yd7 λu hu=>h u (by simp[hu])];rfl
theorem yk2 {k:Nat}:∀ {ts:List Th},(∀ u∈ts,dpT u<=k)->yn5 ts<=k
 | [],_=>Nat.zero_le _
 | t :: ts,h=>by
  show max (dpT t) (yn5 ts)<=k
  have a:=h t (by simp)
  have b:=yk2 (ts:=ts) λu hu=>h u (by simp[hu])
  omega
theorem yt5 {ts:List Th}{k:Nat}(h:yn5 ts<=k):dpT (.ls ts)<=k+1:=by show deps (toTrs ts)+1<=k+1;exact Nat.succ_le_succ h
theorem ysi {ts:List Th}{k:Nat}(h:yn5 ts<=k):dpT (.tp ts)<=k+1:=by show deps (toTrs ts)+1<=k+1;exact Nat.succ_le_succ h
theorem yiY {v:V}{k:Nat}:dpT (.im v)<=k:=by show dep (.vl v)<=k;rw[dep];exact Nat.zero_le _
theorem yp4 {k:Nat}:yn5 []<=k:=Nat.zero_le _
theorem yhR {t:Th}{ts:List Th}{k:Nat}(a:dpT t<=k)(b:yn5 ts<=k):yn5 (t :: ts)<=k:=by show max (dpT t) (yn5 ts)<=k;omega
def OkE (tr:Th):Prop:=ydT tr=true/\dpT tr<=60
theorem yrr {H:Hp}{x y:V}{tr tr':Th}{Q:VK}(a:OkE tr)(b:OkE tr')(ix:Is H x tr)(iy:Is H y tr')(q:Q (.bl (eqT (yeJ tr) (yeJ tr'))) H):ysM K x y H Q:=⟨_,_,ix.rep a.1,iy.rep b.1,a.2,b.2,q⟩
theorem ysU {H:Hp}{x y:V}{tr tr':Th}{Q:VK}(a:OkE tr)(b:OkE tr')(ix:Is H x tr)(iy:Is H y tr')(q:Q (.bl (!eqT (yeJ tr) (yeJ tr'))) H):yun K x y H Q:=⟨_,_,ix.rep a.1,iy.rep b.1,a.2,b.2,q⟩
theorem yui {H:Hp}{x y:V}{tr:Th}{Q:VK}(a:OkE tr)(ix:Is H x tr)(iy:Is H y tr)(q:Q (.bl true) H):ysM K x y H Q:=yrr a a ix iy (by rw[ykD a.1];exact q)
open TX K2 K3
theorem yrN {α:Type}{xs:List α}{i:Int}(h0:0<=i)(h1:i < xs.length):atI xs i=some (xs[i.toNat]'(by omega)):=by
 have e:i=((i.toNat:Nat):Int):=by omega
 have:=yav (xs:=xs) (j:=i.toNat) (v:=xs[i.toNat]'(by omega)) (qG (by omega))
 rw[← e] at this
 exact this
theorem yb1 (a b:Str):(a++b).length=a.length+b.length:=by
 show(a.cps++b.cps).size=a.cps.size+b.cps.size
 rw[Array.size_append]
theorem yle (w:Str)(l u:Option Int):(Txt.slice w l u).length<=w.length:=Txt.slice_le w l u
theorem yaE (w:Str):w.cps.toList.length=w.length:=by simp[Str.length]
theorem ygb {f:List Nat}(h:ybN f=true):PySem.NumText.AllDigits f/\f≠[]:=by
 unfold ybN at h
 simp only[Bool.and_eq_true,decide_eq_true_eq] at h
 refine⟨allDig.mp h.1.2,λe=>?_⟩
 have:=h.1.1.1
 rw[e] at this
 simp at this
theorem ykf (x:Str):(x="-0")↔x.cps.toList=[45,48]:=by
 constructor
 ·rintro rfl;decide +kernel
 ·intro h
  refine yce ?_
  rw[h]
  decide +kernel
theorem yo8 {x:Str}{r:List Nat}(h:x.cps.toList=45 :: r):(Txt.slice x (some 1) none).cps.toList=r:=by
 have hl:x.length=r.length+1:=by rw[← yaE,h];rfl
 rw[PyProof.Rows.slice_from_eq (b:=(x.length:Int)) (by decide) (by omega) rfl,h]
 show((45 :: r).drop 1).take ((x.length:Int) - 1).toNat=r
 rw[List.drop_one,List.tail_cons,List.take_of_length_le (by omega)]
theorem ylW {i:Int}(h:0<=i):Str.ofString (toString i)=ofL (yeC i.toNat):=by
 obtain⟨m,rfl⟩:=Int.eq_ofNat_of_zero_le h
 refine yce ?_
 rw[PySem.W.KIN.signs_num]
 rfl
theorem ydc (x:Str)(c:Nat):Txt.startswith x (one c)=decide (x.cps.toList.head?=some c):=by
 unfold Txt.startswith
 cases h:x.cps.toList with
 | nil =>
  have:x.length=0:=by rw[← yaE,h];rfl
  have o1:(one c).length=1:=rfl
  rw[this,o1]
  rfl
 | cons a r =>
  have hl:x.length=r.length+1:=by rw[← yaE,h];rfl
  have:Builtin.Str.subAt x (one c) 0=decide (a=c):=ygW (x:=x) (pre:=[]) (L:=r) (a:=a) (c:=c) h
  have o1:(one c).length=1:=rfl
  rw[o1]
  show(decide (0+1<=x.length)&&Builtin.Str.subAt x (one c) 0)=_
  rw[this,decide_eq_true (by omega)]
  simp
theorem yj9 (x:Str):(x="0")↔x.cps.toList=[48]:=by
 constructor
 ·rintro rfl;decide +kernel
 ·intro h
  refine yce ?_
  rw[h]
  decide +kernel
def ylm:Sp:=λvs H Q _=>∃ x y:Str,vs=[.str x,.str y]/\x.length<=1000/\∀ H',Same H H'->Q (.bl (x.cps.toList.all λc=>decide (c∈y.cps.toList))) H'
theorem ynL:OF P w base T.RH 1 ylm:=by
 refine T.RH.F.ok yrn (λvs H Q E h=>?_) (λ_ _ _ s' H vs Q E hr h=>?_)
 ·obtain⟨x,y,rfl,_⟩:=h;rfl
 obtain⟨x,y,rfl,hx,q⟩:=h
 have hl:=yaE x
 refine⟨_,(yag (yam (yar (ydn rfl) rfl T.Qe ydo (yaa (ybo (yaR (NB:=["sign","signs"]) (cap:=[none,some 1]) rfl) rfl (yeP (pv 0)) (λ_ _ _ _=>pgb 0) (λ_ _ _ _=>yaZ) (λ_ _ _ _=>(yaS ybZ (pv 0) (pv 1) rfl))) yab)))),?_⟩
 refine⟨_,rfl,x,rfl,λD hD=>ydU (z:=x) (λi σ H'=>(∃ o,σ=[o,some (.str y)])/\Same H H'/\H' D=some (.lst (((x.cps.toList.take i).map λc=>decide (c∈y.cps.toList)).map V.bl)))
  ⟨⟨_,rfl⟩,yae hD _,yac⟩ ?_ ?_⟩
 ·rintro i c σ H' hc ⟨⟨o,rfl⟩,sm,hd⟩
  have hi:i < x.cps.toList.length:=(qE hc).1
  refine⟨_,rfl,_,rfl,_,_,rfl,rfl,_,hd,?_,⟨_,rfl⟩,ybn hD sm,?_⟩
  ·rw[qM,qM,qT]
   exact yaD (by omega)
  ·rw[yac,ykY hc,qP,qP]
   show some (HO.lst (_++[V.bl (!(Builtin.Str.occurrences y (one c) 0 (Str.length y) 1).isEmpty)]))=_
   rw[yh0]
   rfl
 ·rintro σ H' ⟨_,sm,hd⟩
  refine⟨_,(x.cps.toList.map λc=>decide (c∈y.cps.toList)),rfl,SqL.of ?_,?_⟩
  ·rw[hd,List.take_of_length_le (by rw[hl];exact qR _)]
  ·have e:(x.cps.toList.map λc=>decide (c∈y.cps.toList)).all id=x.cps.toList.all λc=>decide (c∈y.cps.toList):=by rw[List.all_map];rfl
   rw[e]
   exact q _ sm
def yne:Sp:=λvs H Q _=>∃ x:Str,vs=[.str x]/\x.length<=1000/\∀ H',Same H H'->Q (.bl (ybN x.cps.toList)) H'
theorem yuE:OF P w base T.zO 2 yne:=by
 refine T.zO.F.ok yuc (λvs H Q E h=>?_) (λ_ _ _ s' H vs Q E hr h=>?_)
 ·obtain⟨x,rfl,_⟩:=h;rfl
 obtain⟨x,rfl,hx,q⟩:=h
 have hl:=yaE x
 refine⟨_,(yad (yaI (PW.pt (ybE (ybf (ymq yfr yfr yah (pln T.Jc (yaa (pv 0) yab)) (yfo rfl T.JQ))) (ybp (ybf (yaG (pcm (ynL T) hr (yaa (pv 0) (yaa (yi9 rfl T.Qp) yab)))))))) (yag (yam ycK)) yau) (yag (yam (yrX (yaS ya2 (pv 0) yaf (yat _)) (ycD (yno (ycq (pv 0) (yaa yaf yab)))))))),?_⟩
 walk_at "rd"
 have hB:∀ b H1,Same H H1->ybN x.cps.toList=b->Q (.bl b) H1:=λb H1 sm e=>by rw[← e];exact q _ sm
 have e0:("0" : Str)=one 48:=by ac_rfl
 refine⟨ybI hx,yjb (λc1=>yjb (λc2=>?_) (λc2=>?_)) (λc1=>?_)⟩
 ·refine hB _ _ (Same.refl H) ?_
  unfold ybN
  rw[decide_eq_false (p:=x.cps.toList.length<=4) (by omega)]
  simp
 ·refine⟨x,_,rfl,hx,λH1 sm=>⟨_,rfl,?_⟩⟩
  have ef:(x.cps.toList.all λc=>decide (c∈(Str.ofString "0123456789").cps.toList))=x.cps.toList.all isF:=by
   congr 1
   funext c
   exact yqv c
  rw[ef]
  have d1:decide (1<=x.cps.toList.length)=true:=decide_eq_true (by omega)
  have d2:decide (x.cps.toList.length<=4)=true:=decide_eq_true (by omega)
  cases hf:x.cps.toList.all isF with
  | false =>
   rw[if_pos rfl]
   refine hB _ _ sm ?_
   unfold ybN
   rw[hf]
   simp
  | true =>
   rw[if_neg (by decide)]
   refine yjb (λz=>?_) (λz=>⟨rfl,?_⟩)
   ·refine hB _ _ sm ?_
    unfold ybN
    rw[d1,d2,hf,decide_eq_true ((yj9 x).mp z)]
    rfl
   ·refine hB _ _ sm ?_
    unfold ybN
    rw[d1,d2,hf,decide_eq_false (λe=>z ((yj9 x).mpr e))]
    show _=!Txt.startswith x ("0" : Str)
    rw[e0,ydc]
    rfl
 ·refine hB _ _ (Same.refl H) ?_
  unfold ybN
  rw[decide_eq_false (p:=1<=x.cps.toList.length) (by omega)]
  simp
def yhg:Option Int->V
 | none=>.non
 | some n=>.int n
def yo7:Sp:=λvs H Q _=>∃ x k,vs=[x]/\KndOf H x k/\(k≠.str->Q .non H)/\∀ w:Str,x=.str w->w.length<=600/\∀ H',Same H H'->Q (yhg (ya6 w.cps.toList)) H'
theorem yj8:OF P w base T.RI 3 yo7:=by
 refine T.RI.F.ok sc_zan (λvs H Q E h=>?_) (λ_ _ _ s' H vs Q E hr h=>?_)
 ·obtain⟨x,k,rfl,_⟩:=h;rfl
 obtain⟨x,k,rfl,hk,qn,qs⟩:=h
 refine⟨_,(yad (yaI (ybf (yaG (yar ya0 rfl T.Ja yal (yaa (pv 0) (yaa (ybG rfl T.Jq ybb) yab))))) (yag (yam yaK)) yau) (yad (yaI (yap ya2 (pv 0) yaf (yat _)) (yag (yam yaK)) yau) (yad (pst 1 sc_zan.nd (yaJ (yaG (ycq (pv 0) (yaa yaf yab))) (yaW ybX (pv 0) (yaX yah) ybB) (pv 0))) (yag (yam (yaJ (yaG (pcm (yuE T) hr (yaa (pv 1) yab))) (yaC yen rfl T.Jx ybO (yaa (pv 0) yab)) yaK)))))),?_⟩
 walk_at "rd"
 refine⟨k,hk,?_⟩
 cases hk with
 | str w =>
  obtain⟨hw,q⟩:=qs w rfl
  have e45:("-" : Str)=one 45:=by ac_rfl
  have qq:∀ o H1,Same H H1->ya6 w.cps.toList=o->Q (yhg o) H1:=λo H1 sm e=>by rw[← e];exact q _ sm
  rw[if_neg (by simp)]
  refine⟨rfl,yjb (λz=>?_) (λz=>?_)⟩
  ·refine qq none _ (Same.refl H) ?_
   unfold ya6
   rw[if_pos ((ykf w).mp (V.str.inj z))]
  have z':¬ w.cps.toList=[45,48]:=λe=>z (congrArg V.str ((ykf w).mpr e))
  refine⟨rfl,w,rfl,?_⟩
  show if Txt.startswith w ("-" : Str)=true then _ else _
  rw[e45,ydc]
  refine yjb (λc=>?_) (λc=>?_)
  ·have c:=of_decide_eq_true c
   obtain⟨r,hr0⟩:∃ r,w.cps.toList=45 :: r:=by
    cases e:w.cps.toList with
    | nil=>rw[e] at c;cases c
    | cons a r=>rw[e] at c;cases c;exact⟨r,rfl⟩
   have te:=yo8 hr0
   refine⟨w,rfl,ybI (by omega),_,rfl,Nat.le_trans (yle _ _ _) (by omega),λH1 sm=>⟨_,rfl,?_⟩⟩
   rw[te]
   refine yjb (λd=>?_) (λd=>?_)
   ·obtain⟨f1,f2⟩:=ygb d
    refine⟨w,rfl,by omega,_,intText_neg hr0 f1 f2 (by omega),qq (some _) H1 sm ?_⟩
    unfold ya6
    rw[if_neg z',hr0,if_pos (show(45 :: r).head?=some 45 from rfl)]
    show(if ybN r=true then some (-((PySem.NumText.digitsVal r:Nat):Int)) else none)=_
    rw[if_pos d]
   ·refine qq none H1 sm ?_
    unfold ya6
    rw[if_neg z',hr0,if_pos (show(45 :: r).head?=some 45 from rfl)]
    show(if ybN r=true then some (-((PySem.NumText.digitsVal r:Nat):Int)) else none)=_
    rw[if_neg d]
  ·have c:¬ w.cps.toList.head?=some 45:=λe=>c (decide_eq_true e)
   refine⟨w,rfl,by omega,λH1 sm=>⟨_,rfl,?_⟩⟩
   refine yjb (λd=>?_) (λd=>?_)
   ·obtain⟨f1,f2⟩:=ygb d
    refine⟨w,rfl,by omega,_,intText_digits f1 f2 (by omega),qq (some _) H1 sm ?_⟩
    unfold ya6
    rw[if_neg z',if_neg c,if_pos d]
   ·refine qq none H1 sm ?_
    unfold ya6
    rw[if_neg z',if_neg c,if_neg d]
 | _=>exact qn (by simp)
def yon:Sp:=λvs H Q _=>∃ x k,vs=[x]/\KndOf H x k/\Q (.bl (decide (k=.int))) H
theorem yks:OF P w base T.RE 1 yon:=by
 refine T.RE.F.ok yp2 (λvs H Q E h=>?_) (λ_ _ _ s H vs Q E hr h=>?_)
 ·obtain⟨x,k,rfl,_⟩:=h;rfl
 obtain⟨x,k,rfl,hk,q⟩:=h
 refine⟨_,(yag (yam (ycQ (yar ya0 rfl T.Ja yal (yaa (pv 0) (yaa (ybG rfl T.Jx ybO) yab))) (ycD (yno (yar ya0 rfl T.Ja yal (yaa (pv 0) (yaa (ybG rfl T.Qb ydg) yab)))))))),?_⟩
 walk_at "rd"
 refine⟨k,hk,?_⟩
 cases k<;>simp only[reduceCtorEq,or_self,or_true,true_or,if_true,if_false]<;>first | exact q | exact⟨_,hk,q⟩
def ypl:Sp:=λvs H Q _=>∃ x k lo hi,vs=[x,.int lo,.int hi]/\KndOf H x k/\Q (.bl (ybL x lo hi)) H
theorem yij:OF P w base T.RF 2 ypl:=by
 refine T.RF.F.ok ysp (λvs H Q E h=>?_) (λ_ _ _ s H vs Q E hr h=>?_)
 ·obtain⟨x,k,lo,hi,rfl,_⟩:=h;rfl
 obtain⟨x,k,lo,hi,rfl,hk,q⟩:=h
 refine⟨_,(yag (yam (ycQ (pcm (yks T) hr (yaa (pv 0) yab)) (ycD (yfe yfr yfr (pv 1) (pv 0) (pv 2)))))),?_⟩
 walk_at "rd"
 refine⟨x,k,rfl,hk,_,rfl,?_⟩
 cases hk with
 | int i =>
  walk_at "rd"
  refine yjb (λz=>?_) (λz=>?_)
  ·have e:ybL (.int i) lo hi=decide (i<=hi):=by simp[ybL,z]
   rw[e] at q
   exact q
  ·have e:ybL (.int i) lo hi=false:=by simp[ybL,z]
   rw[e] at q
   exact q
 | _=>walk_at "rd";exact q
noncomputable def sylT:Str := "abcdefghijklmnopqrstuvwxyzABCDEFGHIJKLMNOPQRSTUVWXYZ-"
noncomputable def ycH (x:Str):Bool:=decide (1<=x.length)&&(decide (x.length<=12)&&x.cps.toList.all λc=>decide (c∈sylT.cps.toList))
noncomputable def ya8 (i:Int):List Nat:=if i < 0 then 45 :: yeC i.natAbs else yeC i.natAbs
def ylA:Sp:=λvs H Q _=>∃ i,vs=[.int i]/\-9999<=i/\i<=9999/\Q (.str (ofL (ya8 i))) H
theorem ybJ (i:Int):Str.ofString (toString i)=ofL (ya8 i):=by
 unfold ya8
 by_cases h:i < 0
 ·rw[if_pos h]
  obtain⟨m,rfl⟩:∃ m:Nat,i=-((m+1:Nat):Int):=⟨i.natAbs - 1,by omega⟩
  refine yce ?_
  have e1:(-((m+1:Nat):Int)).natAbs=m+1:=by omega
  rw[e1,yax]
  show(Str.ofString (toString (Int.negSucc m))).cps.toList=_
  rw[PyProof.Rows.signs_ofString]
  show("-" ++ Nat.repr (m+1)).toList.map Char.toNat=_
  rw[String.toList_append,qP,Nat.toList_repr]
  rfl
 ·rw[if_neg h,ylW (by omega)]
  have:i.toNat=i.natAbs:=by omega
  rw[this]
theorem yhK:OF P w base T.zP 1 ylA:=by
 refine T.zP.F.ok ytT (λvs H Q E h=>?_) (λ_ _ _ s' H vs Q E hr h=>?_)
 ·obtain⟨i,rfl,_⟩:=h;rfl
 obtain⟨i,rfl,h0,h1,q⟩:=h
 refine⟨_,(yag (yam (yaC yaU rfl T.Jq ybb (yaa (pv 0) yab)))),?_⟩
 walk_at "rd"
 refine⟨?_,?_⟩
 ·by_cases e:i.natAbs=0
  ·rw[e];decide
  ·rw[Nat.log2_lt e]
   have:(2:Nat) ^ 14<=2 ^ 1920:=Nat.pow_le_pow_right (by decide) (by decide)
   have e14:(2:Nat) ^ 14=16384:=by decide
   omega
 ·rw[ybJ]
  exact q
open TX K2 K3
def ytu:Sp:=λvs H Q _=>∃ x k,vs=[x]/\KndOf H x k/\(k≠.str->Q (.bl false) H)/\∀ w:Str,x=.str w->w.length<=1000/\∀ H',Same H H'->Q (.bl (ycH w)) H'
theorem yt0:OF P w base T.zT 2 ytu:=by
 refine T.zT.F.ok yt6 (λvs H Q E h=>?_) (λ_ _ _ s' H vs Q E hr h=>?_)
 ·obtain⟨x,k,rfl,_⟩:=h;rfl
 obtain⟨x,k,rfl,hk,qn,qs⟩:=h
 refine⟨_,(yad (yaI (ybf (yaG (yar ya0 rfl T.Ja yal (yaa (pv 0) (yaa (ybG rfl T.Jq ybb) yab))))) (yag (yam ycK)) yau) (yag (yam (ycQ (yfe yfr yfr yah (pln T.Jc (yaa (pv 0) yab)) (yfo rfl T.Jv)) (ycD (pcm (ynL T) hr (yaa (pv 0) (yaa (yi9 rfl T.JH) yab)))))))),?_⟩
 walk_at "rd"
 refine⟨k,hk,?_⟩
 cases hk with
 | str w =>
  obtain⟨hw,q⟩:=qs w rfl
  have qq:∀ b H1,Same H H1->ycH w=b->Q (.bl b) H1:=λb H1 sm e=>by rw[← e];exact q _ sm
  rw[if_neg (by simp)]
  refine⟨w,rfl,ybI hw,yjb (λc1=>yjb (λc2=>⟨w,_,rfl,hw,λH1 sm=>qq _ _ sm ?_⟩) (λc2=>qq _ _ (Same.refl H) ?_)) (λc1=>qq _ _ (Same.refl H) ?_)⟩
  ·unfold ycH
   rw[decide_eq_true (p:=1<=w.length) (by omega),decide_eq_true (p:=w.length<=12) (by omega)]
   rfl
  ·unfold ycH
   rw[decide_eq_false (p:=w.length<=12) (by omega)]
   simp
  ·unfold ycH
   rw[decide_eq_false (p:=1<=w.length) (by omega)]
   simp
 | _=>exact qn (by simp)
open TX K2 K3
theorem ypg (H:Hp)(i:Int):Own H (.int i) (.vl (.int i)):=by
 rw[Own]
 exact⟨rfl,rfl⟩
theorem ylh (H:Hp):Owns H [] []:=by rw[Owns]
theorem yi2 {H:Hp}{x:V}{r:List V}{t:L2.Tr}{ts:List L2.Tr}(h:Own H x t)(hs:Owns H r ts):Owns H (x :: r) (t :: ts):=by
 rw[Owns]
 exact⟨x,r,rfl,h,hs⟩
noncomputable def ydb (gs:List Int):List L2.Tr:=gs.map λg=>.vl (.int g)
theorem yeS (H:Hp):∀ gs:List Int,Owns H (gs.map V.int) (ydb gs)
 | []=>ylh H
 | g :: gs=>yi2 (ypg H g) (yeS H gs)
theorem ydk {H:Hp}{p:Addr}{gs:List Int}(h:H p=some (.tup (gs.map V.int))):Own H (.ref p) (.tp (ydb gs)):=by
 rw[Own]
 exact⟨p,_,rfl,h,yeS H gs⟩
theorem yeV:∀ gs:List Int,deps (ydb gs)=0
 | []=>rfl
 | g :: gs=>by
  show max (dep (.vl (.int g))) (deps (ydb gs))=0
  rw[yeV gs]
  rfl
theorem ydt (gs:List Int):dep (.tp (ydb gs))<=60:=by rw[dep,yeV];decide
theorem yfb:∀ gs hs:List Int,eqTs (ydb gs) (ydb hs)=decide (gs=hs)
 | [],[]=>rfl
 | [],_ :: _=>by simp[ydb,eqTs]
 | _ :: _,[]=>by simp[ydb,eqTs]
 | g :: gs,h :: hs=>by
  show(eqT (.vl (.int g)) (.vl (.int h))&&eqTs (ydb gs) (ydb hs))=_
  rw[yfb gs hs,eqT]
  by_cases e:g=h
  ·subst e;simp[eqV]
  ·simp[eqV,e]
def ysq:Sp:=λvs H Q _=>∃ b:Int,vs=[.int b]/\0 < b/\b<=1000/\Q (.int (96 / b)) H
theorem yuh:OF P w base T.zH 1 ysq:=by
 refine T.zH.F.ok yty (λvs H Q E h=>?_) (λ_ _ _ s' H vs Q E hr h=>?_)
 ·obtain⟨b,rfl,_⟩:=h;rfl
 obtain⟨b,rfl,hb,hb2,q⟩:=h
 refine⟨_,(yag (yam (yay yb2 (yfo rfl T.Qf) (pv 0)))),?_⟩
 walk_at "rd"
 exact⟨⟨hb,by omega⟩,q⟩
structure MetreAt (H:Hp) (p g:Addr) (top bot:Int) (gs:List Int):Prop where
 at':H p=some (.tup [.int top,.int bot,.ref g])
 gr:H g=some (.tup (gs.map V.int))
theorem MetreAt.same {H H':Hp}{p g:Addr}{top bot:Int}{gs:List Int}(m:MetreAt H p g top bot gs)(e:Same H H'):MetreAt H' p g top bot gs:=⟨e _ _ m.at',e _ _ m.gr⟩
open TX K2 K3
def yqX (ys:List V):Int:=(ys.map λy=>match y with | .int i=>i | _=>0).sum
def yb3 (H:Hp)(w:V)(tp:Int):Bool:=match w with
 | .ref g=>match H g with
  | some (.tup ys)=>ys.all (λy=>ybL y 1 tp)&&(ys.isEmpty||decide (yqX ys=tp))
  | _=>false
 | _=>false
theorem yh1 {tp:Int}:∀ {ys:List V},ys.all (λy=>ybL y 1 tp)=true->∃ gs:List Int,ys=gs.map V.int/\∀ g∈gs,1<=g/\g<=tp
 | [],_=>⟨[],rfl,by simp⟩
 | y :: ys,h=>by
  rw[List.all_cons,Bool.and_eq_true] at h
  obtain⟨gs,rfl,hg⟩:=yh1 h.2
  cases y with
  | int i =>
   have h1:(decide (1<=i)&&decide (i<=tp))=true:=h.1
   simp at h1
   exact⟨i :: gs,rfl,λg hm=>by rcases List.mem_cons.mp hm with rfl | hm;exact h1;exact hg g hm⟩
  | _=>exact absurd h.1 (by simp[ybL])
theorem ygR (gs:List Int):yqX (gs.map V.int)=gs.sum:=by
 unfold yqX
 rw[List.map_map]
 have e:((λy:V=>match y with | .int i=>i | _=>0) ∘ V.int)=id:=rfl
 rw[e,List.map_id]
def yn0 (H:Hp)(w:V):Prop:=∀ g ys,w=.ref g->H g=some (.tup ys)->(∀ y∈ys,∃ ky,KndOf H y ky)/\ys.length<=100
noncomputable def ymt:Sp:=λvs H Q _=>∃ w tp k,vs=[w,.int tp]/\KndOf H w k/\yn0 H w/\(1<=tp/\tp<=12)/\∀ H',Same H H'->Q (.bl (yb3 H w tp)) H'
theorem yqF:OF P w base T.RM 3 ymt:=by
 refine T.RM.F.ok yqa (λvs H Q E h=>?_) (λ_ _ _ s' H vs Q E hr h=>?_)
 ·obtain⟨w,tp,k,rfl,_⟩:=h;rfl
 have hu:=yhO hr
 obtain⟨w,tp,k,rfl,hk,hy,ht,q⟩:=h
 refine⟨_,(yad (yaI (ybf (yaG (yar ya0 rfl T.Ja yal (yaa (pv 0) (yaa (ybG rfl T.Jh ybg) yab))))) (yag (yam ycK)) yau) (yad (yaI (ybf (yaG (yar (ydn rfl) rfl T.Qe ydo (yaa (ybo (yaR (NB:=["group","top"]) (cap:=[none,some 1]) rfl) rfl (ydK (pv 0)) (λ_ _ _ _=>pgb 0) (λ_ _ _ _=>yaZ) (λ_ _ _ _=>(pcm (yij T) hr (yaa (pv 0) (yaa yah (yaa (pv 1) yab)))))) yab)))) (yag (yam ycK)) yau) (yag (yam (yrX (yaS (yg1 hu) (pv 0) (yaw yab) (yat _)) (ycD (yaS ya2 (yar (ykK rfl) rfl T.QI yhX (yaa (pv 0) yab)) (pv 1) (yat _)))))))),?_⟩
 walk_at "rd"
 refine⟨k,hk,?_⟩
 have no:k≠.tup->Q (.bl false) H:=λhn=>by
  have e:yb3 H w tp=false:=by
   cases hk with
   | tup e=>exact absurd rfl hn
   | lst e=>unfold yb3;dsimp only;rw[e]
   | dct e=>unfold yb3;dsimp only;rw[e]
   | _=>rfl
  rw[e] at q
  exact q H (Same.refl H)
 by_cases hn:k=.tup
 ·subst hn
  rw[if_neg (by simp)]
  cases hk with
  | @tup g ys e =>
   obtain⟨hky,hlen⟩:=hy g ys rfl e
   have eg:yb3 H (.ref g) tp=(ys.all (λy=>ybL y 1 tp)&&(ys.isEmpty||decide (yqX ys=tp))):=by unfold yb3;dsimp only;rw[e]
   refine⟨_,rfl,g,rfl,⟨_,SqT.of e⟩,λD hD=>yfL (xs:=ys) (λj σ H'=>(∃ o,σ=[o,some (.int tp)])/\Same H H'/\H' D=some (.lst (((ys.take j).map λy=>ybL y 1 tp).map V.bl))) ⟨⟨_,rfl⟩,yae hD _,yac⟩ (λj σ H' _ h=>SqT.of (h.2.1 _ _ e)) ?_ ?_⟩
   ·rintro j y σ H' hx ⟨⟨o,rfl⟩,sm,hd⟩
    have hj:j < ys.length:=(qE hx).1
    obtain⟨ky,hky'⟩:=hky y (List.mem_of_getElem? hx)
    refine⟨_,rfl,_,rfl,y,ky,1,tp,rfl,hky'.same sm,_,hd,?_,⟨_,rfl⟩,ybn hD sm,?_⟩
    ·rw[qM,qM,qT]
     exact yaD (by omega)
    ·have e2:ys.take (j+1)=ys.take j++[y]:=by rw[List.take_add_one,hx];rfl
     rw[yac,e2,qP,qP]
     rfl
   ·rintro σ H' ⟨_,sm,hd⟩
    rw[List.take_length] at hd
    refine⟨D,rfl,_,SqL.of hd,?_⟩
    have ea:(ys.map λy=>ybL y 1 tp).all id=ys.all λy=>ybL y 1 tp:=by rw[List.all_map];rfl
    rw[ea]
    cases hall:ys.all λy=>ybL y 1 tp with
    | false =>
     rw[if_pos rfl]
     have:=q H' sm
     rw[eg,hall] at this
     exact this
    | true =>
     rw[if_neg (by simp)]
     obtain⟨gs,rfl,hgs⟩:=yh1 hall
     refine ybA λp2 g2=>?_
     have n2:=yae g2 (HO.tup [])
     refine⟨_,((ydk (sm _ _ e)).same n2).rep,_,(ydk (gs:=[]) yac).rep,ydt _,ydt _,?_⟩
     have em:eqT (.tp (ydb gs)) (.tp (ydb []))=decide (gs=[]):=by rw[eqT,yfb]
     have qq:=q _ (sm.trans n2)
     rw[eg,hall,Bool.true_and,ygR] at qq
     by_cases hg:gs=[]
     ·rw[if_pos (by rw[em];simp[hg])]
      subst hg
      exact qq
     ·rw[if_neg (by rw[em];simp[hg])]
      rw[qM] at hlen
      refine⟨g,rfl,gs,SqT.of (n2 _ _ (sm _ _ e)),λn hn=>by have:=hgs n hn;omega,by omega,?_⟩
      have:(gs.map V.int).isEmpty=false:=by simp[hg]
      rw[this,Bool.false_or] at qq
      exact qq
 ·rw[if_pos (by simp[hn])]
  exact no hn
def yia (H:Hp)(u v w:V):Bool:=match u,v with
 | .int tp,.int bt=>decide (1<=tp)&&decide (tp<=12)&&(decide (bt=2)||decide (bt=4)||decide (bt=8))&&decide (tp*(96 / bt)<=192)&&yb3 H w tp
 | _,_=>false
def ygJ (H:Hp):List V->Bool
 | [u,v,w]=>yia H u v w
 | _=>false
def yeO (H:Hp)(x:V):Bool:=match x with
 | .ref a=>match H a with
  | some (.tup xs)=>ygJ H xs
  | _=>false
 | _=>false
def ynA (H:Hp)(x:V):Prop:=(∃ k,KndOf H x k)/\∀ a xs,x=.ref a->H a=some (.tup xs)->∀ y∈xs,(∃ k,KndOf H y k)/\yn0 H y
def ygQ:Sp:=λvs H Q _=>∃ x,vs=[x]/\ynA H x/\∀ H',Same H H'->Q (.bl (yeO H x)) H'
theorem yjp {a b:Int}{H:Hp}{Q:VK}(q:Q (.bl (!decide (a=b))) H):rNe (.int a) (.int b) H Q:=⟨rfl,by rw[show decide (V.int a=V.int b)=decide (a=b) by rw[Bool.eq_iff_iff];simp];exact q⟩
theorem yrE:OF P w base T.Rs 4 ygQ:=by
 refine T.Rs.F.ok sc_zaD (λvs H Q E h=>?_) (λ_ _ _ s' H vs Q E hr h=>?_)
 ·obtain⟨x,rfl,_⟩:=h;rfl
 obtain⟨x,rfl,⟨⟨k,hk⟩,hy⟩,q⟩:=h
 have hu:=yhO hr
 have q0:=q H (Same.refl H)
 refine⟨_,(yad (yaI (PW.pt (ybE (ybf (yaG (yar ya0 rfl T.Ja yal (yaa (pv 0) (yaa (ybG rfl T.Jh ybg) yab))))) (ybp (yap yeI (yar yaL rfl T.Jc PySem.boot_len (yaa (pv 0) yab)) yah (yat _))))) (yag (yam ycK)) yau) (yad (pst 1 sc_zaD.nd (xT (pv 0))) (yad (pst 2 sc_zaD.nd (xT (pv 0))) (yad (yaI (PW.pt (ybE (ybf (yaG (pcm (yij T) hr (yaa (pv 1) (yaa yah (yaa (yfo rfl T.Qk) yab)))))) (ybE (ybf (yaG (pcm (yks T) hr (yaa (pv 2) yab)))) (ybp (yap ycj (pv 2) (ymE rfl T.Qq) rfl))))) (yag (yam ycK)) yau) (yag (yam (ycQ (yaS yfr (yay yb5 (pv 1) (pcm (yuh T) hr (yaa (pv 2) yab))) (yfo rfl T.JD) (yat _)) (ycD (pcm (yqF T) hr (yaa (xT (pv 0)) (yaa (pv 1) yab))))))))))),?_⟩
 left
 refine ykL hk ?_
 cases hk with
 | @tup a xs e =>
  have hy:=hy a xs rfl e
  have em:yeO H (.ref a)=ygJ H xs:=by show(match H a with | some (.tup xs)=>ygJ H xs | _=>false)=_;rw[e]
  rw[em] at q0
  refine ybr (i_F ?_)
  left
  refine⟨a,_,rfl,.inr (SqT.of e),?_⟩
  left
  refine yjp (ybr ?_)
  match xs,hy,e,q0,em with
  | [b,c,d],hy,e,q0,em =>
   obtain⟨⟨kb,hb⟩,_⟩:=hy b (by simp)
   obtain⟨⟨kc,hc⟩,_⟩:=hy c (by simp)
   obtain⟨⟨kd,hd⟩,hdi⟩:=hy d (by simp)
   have ql:∀ H',Same H H'->Q (.bl (yia H b c d)) H':=λH' sm=>by have:=q H' sm;rw[em] at this;exact this
   have fl:yia H b c d=false->Q (.bl false) H:=λz=>by have:=ql H (Same.refl H);rw[z] at this;exact this
   refine i_F ?_
   left
   refine yd8 (SqT.of e) (yav (j:=0) rfl) ?_
   left
   refine yd8 (SqT.of e) (yav (j:=1) rfl) ?_
   left
   refine⟨b,kb,1,12,rfl,hb,ybr ?_⟩
   cases b with
   | int tp =>
    rw[show ybL (.int tp) 1 12=(decide (1<=tp)&&decide (tp<=12)) from rfl]
    cases z1:(decide (1<=tp)&&decide (tp<=12)) with
    | false =>
     refine i_T (fl ?_)
     cases c with
     | int bt =>
      show(decide (1<=tp)&&decide (tp<=12)&&_&&_&&_)=false
      rw[z1]
      rfl
     | _=>rfl
    | true =>
     have z1':=z1
     rw[Bool.and_eq_true,decide_eq_true_eq,decide_eq_true_eq] at z1
     refine i_F ?_
     left
     refine⟨c,kc,rfl,hc,ybr ?_⟩
     cases hc with
     | int bt =>
      refine i_F ?_
      left
      refine⟨_,_,rfl,.inr (T.Qr.sq H),rfl,rfl,ybr ?_⟩
      have hin:inV (V.int bt) [V.int 2,V.int 4,V.int 8]=(decide (bt=2)||decide (bt=4)||decide (bt=8)):=by
       by_cases h2:bt=2
       ·rw[h2];rfl
       by_cases h4:bt=4
       ·rw[h4];rfl
       by_cases h8:bt=8
       ·rw[h8];rfl
       rw[decide_eq_false h2,decide_eq_false h4,decide_eq_false h8]
       simp[inV,eqV]
       exact⟨Ne.symm h2,Ne.symm h4,Ne.symm h8⟩
      have m3:yia H (.int tp) (.int bt) d=(inV (V.int bt) [V.int 2,V.int 4,V.int 8]&&decide (tp*(96 / bt)<=192)&&yb3 H d tp):=by
       show(decide (1<=tp)&&decide (tp<=12)&&(decide (bt=2)||decide (bt=4)||decide (bt=8))&&decide (tp*(96 / bt)<=192)&&yb3 H d tp)=_
       rw[z1',hin]
       rfl
      rw[m3] at ql fl
      rw[if_pos rfl]
      cases hb2:inV (V.int bt) [V.int 2,V.int 4,V.int 8] with
      | false =>
       rw[hb2] at fl
       exact i_T (fl rfl)
      | true =>
       rw[hb2,Bool.true_and] at ql
       have hbt:bt=2∨bt=4∨bt=8:=by rw[hb2] at hin;simpa [or_assoc] using hin.symm
       refine i_F ?_
       left
       refine⟨bt,rfl,by omega,by omega,ylE (.inl ⟨by omega,by omega⟩) ?_⟩
       left
       refine i_d (λz=>?_) λz=>?_
       ·rw[decide_eq_true z,Bool.true_and] at ql
        left
        refine yd8 (SqT.of e) (yav (j:=2) rfl) ?_
        left
        exact⟨d,tp,kd,rfl,hd,hdi,z1,ql⟩
       ·rw[decide_eq_false z,Bool.false_and] at ql
        exact ql H (Same.refl H)
     | _=>exact i_T (fl rfl)
   | _ =>
    refine i_T (fl ?_)
    cases c<;>rfl
  | [],hy,e,q0,em=>exact i_T q0
  | [_],hy,e,q0,em=>exact i_T q0
  | [_,_],hy,e,q0,em=>exact i_T q0
  | _ :: _ :: _ :: _ :: r,hy,e,q0,em =>
   rw[decide_eq_false (by simp only[qC];omega)]
   exact i_T q0
 | @lst a xs e =>
  have em:yeO H (.ref a)=false:=by show(match H a with | some (.tup xs)=>ygJ H xs | _=>false)=_;rw[e]
  rw[em] at q0
  exact ybr (i_T q0)
 | @dct a xs e =>
  have em:yeO H (.ref a)=false:=by show(match H a with | some (.tup xs)=>ygJ H xs | _=>false)=_;rw[e]
  rw[em] at q0
  exact ybr (i_T q0)
 | _=>exact ybr (i_T q0)
open TX K2 K3
noncomputable def yaH (c:Nat):List Nat->List Nat×Bool×List Nat
 | []=>([],false,[])
 | a :: l=>if a=c then ([],true,l) else (a :: (yaH c l).1,(yaH c l).2.1,(yaH c l).2.2)
theorem yhW (c:Nat):∀ (l:List Nat) (k:Nat),(yc4 c k l=[]/\yaH c l=(l,false,[]))∨∃ i r,yc4 c k l=(k+i) :: r/\yaH c l=(l.take i,true,l.drop (i+1))
 | [],k=>.inl ⟨rfl,rfl⟩
 | a :: l,k=>by
  by_cases h:a=c
  ·exact .inr ⟨0,_,by rw[yc4,if_pos h];rfl,by rw[yaH,if_pos h];rfl⟩
  ·rcases yhW c l (k+1) with ⟨h1,h2⟩ | ⟨i,r,h1,h2⟩
   ·exact .inl ⟨by rw[yc4,if_neg h];exact h1,by rw[yaH,if_neg h,h2]⟩
   ·exact .inr ⟨i+1,r,by rw[yc4,if_neg h,h1];congr 1;omega,by rw[yaH,if_neg h,h2];rfl⟩
theorem ymF (x:Str)(i:Nat):Builtin.Str.strSub x 0 i=ofL (x.cps.toList.take i):=by
 refine yce ?_
 show(x.cps.extract 0 i).toList=x.cps.toList.take i
 rw[Array.toList_extract,List.extract_eq_take_drop]
 simp
theorem ylX (x:Str)(i:Nat):Builtin.Str.strSub x i x.length=ofL (x.cps.toList.drop i):=by
 refine yce ?_
 show(x.cps.extract i x.length).toList=x.cps.toList.drop i
 rw[Array.toList_extract,List.extract_eq_take_drop]
 rw[List.take_of_length_le]
 rw[List.length_drop,yaE]
 exact qR _
theorem ypx (x:Str)(c:Nat):Txt.partition x (one c)=(ofL (yaH c x.cps.toList).1,(if (yaH c x.cps.toList).2.1=true then one c else Str.empty),ofL (yaH c x.cps.toList).2.2):=by
 unfold Txt.partition
 rw[ye5]
 rcases yhW c x.cps.toList 0 with ⟨h1,h2⟩ | ⟨i,r,h1,h2⟩
 ·rw[h1,h2]
  show(x,Str.empty,Str.empty)=_
  rw[ycL]
  rfl
 ·rw[h1,h2]
  show(Builtin.Str.strSub x 0 (0+i),one c,Builtin.Str.strSub x (0+i+1) x.length)=_
  rw[Nat.zero_add,ymF,ylX]
  rfl
def yeh:List (Option Int)->Option (List Int)
 | []=>some []
 | none :: _=>none
 | some i :: r=>(yeh r).map (i :: ·)
noncomputable def ybi (c:Nat)(l:List Nat):Option (List Int):=yeh ((yan c l).map ya6)
theorem seqO_none:∀ {os:List (Option Int)},yeh os=none↔none∈os
 | []=>by simp[yeh]
 | none :: r=>by simp[yeh]
 | some i :: r=>by
  rw[yeh]
  have:=seqO_none (os:=r)
  cases h:yeh r with
  | none=>rw[h] at this;simp[this.mp rfl]
  | some l=>rw[h] at this;simp at this ⊢;exact this
theorem ygy:∀ {os:List (Option Int)} {l:List Int},yeh os=some l->os.map yhg=l.map V.int
 | [],_,h=>by cases h;rfl
 | none :: _,_,h=>by cases h
 | some i :: r,l,h=>by
  rw[yeh] at h
  cases e:yeh r with
  | none=>rw[e] at h;cases h
  | some m=>rw[e] at h;cases h;rw[List.map_cons,List.map_cons,ygy e];rfl
theorem ykB:∀ os:List (Option Int),inV .non (os.map yhg)=decide (none∈os)
 | []=>rfl
 | none :: r=>by simp[inV,yhg,eqV]
 | some i :: r=>by
  have ih:(r.map yhg).any (λy=>eqV y V.non)=decide (none∈r):=by have:=ykB r;rw[inV] at this;exact this
  rw[List.map_cons,inV,List.any_cons,ih]
  simp[yhg,eqV]
theorem ymN (os:List (Option Int)):(os.map yhg).all ycp=true:=by
 rw[List.all_map,List.all_eq_true]
 intro o _
 cases o<;>rfl
def Sep (b:Str)(c:Nat):Prop:=(b="/" /\ c=47)∨(b="+" /\ c=43)
theorem Sep.one {b:Str}{c:Nat}(h:Sep b c):b=one c/\c < 256:=by
 rcases h with ⟨rfl,rfl⟩ | ⟨rfl,rfl⟩
 ·exact⟨by ac_rfl,by decide⟩
 ·exact⟨by ac_rfl,by decide⟩
theorem ybK (c:Nat):∀ l:List Nat,(yan c l).length<=l.length+1
 | []=>by simp[yan]
 | a :: l=>by
  have ih:=ybK c l
  rw[yan]
  split
  ·simp;omega
  ·split
   ·simp
   ·rename_i h;rw[h] at ih;simp at ih ⊢;omega
theorem ybR (c:Nat):∀ (l:List Nat) (p:List Nat),p∈yan c l->p.length<=l.length
 | [],p,h=>by simp[yan] at h;subst h;simp
 | a :: l,p,h=>by
  have ih:=ybR c l
  rw[yan] at h
  split at h
  ·rcases List.mem_cons.mp h with rfl | h
   ·simp
   ·have:=ih p h;simp;omega
  ·split at h
   ·simp at h;subst h;simp
   ·rename_i h0 t0 e
    rcases List.mem_cons.mp h with rfl | h
    ·have:=ih h0 (by rw[e];simp);simp;omega
    ·have:=ih p (by rw[e];simp[h]);simp;omega
def yiO:Sp:=λvs H Q _=>∃ (w b:Str) (c:Nat),vs=[.str w,.str b]/\Sep b c/\w.length<=500 /\
 (ybi c w.cps.toList=none->∀ H',Same H H'->Q .non H')/\(∀ l,ybi c w.cps.toList=some l->∀ p H',Same H H'->H' p=some (.lst (l.map V.int))->Q (.ref p) H')
theorem ysy:OF P w base T.zY 4 yiO:=by
 refine T.zY.F.ok sc_zY (λvs H Q E h=>?_) (λ_ _ _ s' H vs Q E hr h=>?_)
 ·obtain⟨w,b,c,rfl,_⟩:=h;rfl
 obtain⟨w,b,c,rfl,hs,hw,q1,q2⟩:=h
 obtain⟨hb,hc⟩:=hs.one
 refine⟨_,(yad (yb8 (i:=2) sc_zY.nd rfl (Or.inl rfl) (yaR (NB:=["part"]) (cap:=[none]) rfl) rfl (ycf (yb0 (pv 0) (yaa (pv 1) yab))) (λ_ _ _ _=>pgb 0) (λ_ _ _ _=>yaZ) (λ_ _ _ _=>(pcm (yj8 T) hr (yaa (pv 0) yab)))) (yag (yam (yaJ (yap yjz yaK (pv 2) rfl) yaK (pv 2))))),?_⟩
 have sp:=ydZ w hc
 rw[← hb] at sp
 refine⟨_,rfl,rfl,_,rfl,w,b,rfl,rfl,by rw[hb];rfl,ybI (by omega),λp1 g1=>?_⟩
 rw[sp]
 refine⟨p1,rfl,⟨_,SqL.of yac⟩,λD hD=>ygS (xs:=((yan c w.cps.toList).map ofL).map V.str) (λj σ H'=>σ.length=1/\Same (upd H p1 (.lst (((yan c w.cps.toList).map ofL).map V.str))) H'/\H' D=some (.lst ((((yan c w.cps.toList).take j).map ya6).map yhg))) ⟨rfl,yae hD _,yac⟩ (λj σ H' _ h=>SqL.of (h.2.1 _ _ yac)) ?_ ?_⟩
 ·rintro j x σ H' hx ⟨hσ,sm,hd⟩
  have hj:j < (yan c w.cps.toList).length:=by
   have:=(qE hx).1
   simpa using this
  obtain rfl:V.str (ofL (yan c w.cps.toList)[j])=x:=by
   rw[qm,qm,qG hj] at hx
   exact Option.some.inj hx
  have hl:=ybR c w.cps.toList _ (List.getElem_mem hj)
  rw[yaE] at hl
  have hz:=ybK c w.cps.toList
  rw[yaE] at hz
  match σ,hσ with
  | [o],_ =>
   refine⟨_,rfl,_,_,rfl,.str _,λz=>absurd rfl z,λw' e=>?_⟩
   cases e
   refine⟨by show(yan c w.cps.toList)[j].length<=600;omega,λH2 s2=>⟨_,s2 _ _ hd,?_,rfl,ybn hD (sm.trans s2),?_⟩⟩
   ·rw[qM,qM,qT]
    exact yaD (by omega)
   ·have e2:(yan c w.cps.toList).take (j+1)=(yan c w.cps.toList).take j++[(yan c w.cps.toList)[j]]:=by rw[List.take_add_one,qG hj];rfl
    rw[yac,e2,qP,qP]
    rfl
 ·rintro σ H' ⟨_,sm,hd⟩
  have e0:(List.take (List.map V.str (List.map ofL (yan c w.cps.toList))).length (yan c w.cps.toList))=yan c w.cps.toList:=by rw[qM,qM,List.take_length]
  rw[e0] at hd
  have sm0:=(yae g1 (HO.lst (((yan c w.cps.toList).map ofL).map V.str))).trans sm
  walk_at "rd"
  refine⟨_,.inl (SqL.of hd),rfl,ymN _,?_⟩
  rw[ykB]
  cases hq:ybi c w.cps.toList with
  | none =>
   have:=seqO_none.mp hq
   rw[if_pos (by simpa using this)]
   exact q1 hq _ sm0
  | some l =>
   have:¬ none∈(yan c w.cps.toList).map ya6:=λz=>by rw[ybi,seqO_none.mpr z] at hq;cases hq
   rw[if_neg (by simpa using this)]
   rw[ygy hq] at hd
   exact q2 l hq D _ sm0 hd
open TX K2 K3
def yji (a b:Int)(gs:List Int):Bool:=decide (1<=a)&&decide (a<=12)&&(decide (b=2)||decide (b=4)||decide (b=8))&&decide (a*(96 / b)<=192)&&(gs.all (λg=>decide (1<=g)&&decide (g<=a))&&(gs.isEmpty||decide (gs.sum=a)))
theorem ylY {H:Hp}{p g:Addr}{a b:Int}{gs:List Int}(m:MetreAt H p g a b gs):yeO H (.ref p)=yji a b gs:=by
 unfold yeO
 dsimp only
 rw[m.at']
 show(decide (1<=a)&&decide (a<=12)&&(decide (b=2)||decide (b=4)||decide (b=8))&&decide (a*(96 / b)<=192)&&yb3 H (.ref g) a)=_
 have:yb3 H (.ref g) a=(gs.all (λg=>decide (1<=g)&&decide (g<=a))&&(gs.isEmpty||decide (gs.sum=a))):=by
  unfold yb3
  dsimp only
  rw[m.gr]
  show((gs.map V.int).all (λy=>ybL y 1 a)&&((gs.map V.int).isEmpty||decide (yqX (gs.map V.int)=a)))=_
  rw[ygR,List.all_map]
  have:(gs.map V.int).isEmpty=gs.isEmpty:=by cases gs<;>rfl
  rw[this]
  rfl
 rw[this]
 rfl
theorem yho {H:Hp}{p g:Addr}{a b:Int}{gs:List Int}(m:MetreAt H p g a b gs)(hl:gs.length<=100):ynA H (.ref p):=by
 refine⟨⟨_,.tup m.at'⟩,λq xs e h y hy=>?_⟩
 cases e
 rw[m.at'] at h
 cases h
 simp at hy
 rcases hy with rfl | rfl | rfl
 ·exact⟨⟨_,.int _⟩,λg ys e=>by cases e⟩
 ·exact⟨⟨_,.int _⟩,λg ys e=>by cases e⟩
 ·refine⟨⟨_,.tup m.gr⟩,λg' ys e h=>?_⟩
  cases e
  rw[m.gr] at h
  cases h
  refine⟨λy hy=>?_,by rw[qM];exact hl⟩
  obtain⟨i,_,rfl⟩:=List.mem_map.mp hy
  exact⟨_,.int _⟩
def ybu (l:List Nat):Option (Int×Int×List Int):=match ybi 47 (yaH 58 l).1,(if (yaH 58 l).2.1=true then ybi 43 (yaH 58 l).2.2 else some []) with
 | some [a,b],some gs=>if yji a b gs=true then some (a,b,gs) else none
 | _,_=>none
theorem ydj:∀ {os:List (Option Int)} {l:List Int},yeh os=some l->l.length=os.length
 | [],_,h=>by cases h;rfl
 | none :: _,_,h=>by cases h
 | some i :: r,l,h=>by
  rw[yeh] at h
  cases e:yeh r with
  | none=>rw[e] at h;cases h
  | some m=>rw[e] at h;cases h;rw[qC,qC,ydj e]
theorem yh4 {c:Nat}{l:List Nat}{m:List Int}(h:ybi c l=some m):m.length<=l.length+1:=by
 have:=ydj h
 rw[qM] at this
 have:=ybK c l
 omega
theorem ycA (c:Nat):∀ l:List Nat,(yaH c l).1.length<=l.length/\(yaH c l).2.2.length<=l.length
 | []=>⟨qR _,qR _⟩
 | a :: l=>by
  have ih:=ycA c l
  rw[yaH]
  split
  ·exact⟨by simp,by simp⟩
  ·refine⟨?_,?_⟩
   ·show(a :: (yaH c l).1).length<=_
    simp;exact ih.1
   ·show(yaH c l).2.2.length<=_
    simp;omega
def yk8:Sp:=λvs H Q _=>∃ x k,vs=[x]/\KndOf H x k/\(k≠.str->Q .non H)/\∀ w:Str,x=.str w->w.length<=90/\(ybu w.cps.toList=none->∀ H',Same H H'->Q .non H')/\(∀ a b gs,ybu w.cps.toList=some (a,b,gs)->∀ p g H',Same H H'->MetreAt H' p g a b gs->Q (.ref p) H')
def OptL (H:Hp)(v:V)(o:Option (List Int)):Prop:=(o=none/\v=.non)∨∃ l p,o=some l/\v=.ref p/\H p=some (.lst (l.map V.int))
theorem OptL.same {H H':Hp}{v:V}{o:Option (List Int)}(x:OptL H v o)(e:Same H H'):OptL H' v o:=by
 rcases x with x | ⟨l,p,h1,h2,h3⟩
 ·exact .inl x
 ·exact .inr ⟨l,p,h1,h2,e _ _ h3⟩
theorem ykk {w b:Str}{c:Nat}{H:Hp}{Q:VK}{E:XK}(hs:Sep b c)(hw:w.length<=500)(q:∀ v H',Same H H'->OptL H' v (ybi c w.cps.toList)->Q v H'):yiO [.str w,.str b] H Q E :=
 ⟨w,b,c,rfl,hs,hw,λe H' sm=>q _ H' sm (.inl ⟨e,rfl⟩),λl e p H' sm h=>q _ H' sm (.inr ⟨l,p,e,rfl,h⟩)⟩
noncomputable def frM (w:Str):Option (List Int):=ybi 47 (yaH 58 w.cps.toList).1
noncomputable def gr (w:Str):Option (List Int):=if (yaH 58 w.cps.toList).2.1=true then ybi 43 (yaH 58 w.cps.toList).2.2 else some []
theorem yma (w:Str):ybu w.cps.toList=(match frM w,gr w with | some [a,b],some gs=>if yji a b gs=true then some (a,b,gs) else none | _,_=>none):=rfl
theorem yuM {w:Str}(h:frM w=none):ybu w.cps.toList=none:=by rw[yma,h]
theorem ytM {w:Str}(h:gr w=none):ybu w.cps.toList=none:=by
 rw[yma,h]
 split
 ·rename_i z;cases z
 ·rfl
theorem yuI {w:Str}{l:List Int}(h:frM w=some l)(hl:l.length≠2):ybu w.cps.toList=none:=by
 rw[yma,h]
 split
 ·rename_i z _;cases z;exact absurd rfl hl
 ·rfl
theorem yvC {w:Str}{a b:Int}{gs:List Int}(h:frM w=some [a,b])(hg:gr w=some gs):ybu w.cps.toList=if yji a b gs=true then some (a,b,gs) else none:=by rw[yma,h,hg]
theorem yrC {w:Str}{gs:List Int}(h:gr w=some gs):gs.length<=w.length+1:=by
 unfold gr at h
 split at h
 ·have:=yh4 h
  have:=ycA 58 w.cps.toList
  rw[yaE] at this
  omega
 ·cases h;simp
def M1 (w:Str)(Hs:Hp):St->Hp->Prop:=fun σ H=>σ=[some (.str w),none,none,none,none]/\Same Hs H
def M2 (w:Str)(Hs:Hp):St->Hp->Prop:=fun σ H=>∃ p1,σ=[some (.str w),some (.ref p1),none,none,none]/\Same Hs H/\H p1=some (.tup [.str (ofL (yaH 58 w.cps.toList).1),.str (if (yaH 58 w.cps.toList).2.1=true then one 58 else Str.empty),.str (ofL (yaH 58 w.cps.toList).2.2)])
def M3 (w:Str)(Hs:Hp):St->Hp->Prop:=fun σ H=>∃ p1 v,σ=[some (.str w),some (.ref p1),some v,none,none]/\Same Hs H/\H p1=some (.tup [.str (ofL (yaH 58 w.cps.toList).1),.str (if (yaH 58 w.cps.toList).2.1=true then one 58 else Str.empty),.str (ofL (yaH 58 w.cps.toList).2.2)])/\OptL H v (frM w)
def M4 (w:Str)(Hs:Hp):St->Hp->Prop:=fun σ H=>∃ x1 v u,σ=[some (.str w),x1,some v,some u,none]/\Same Hs H/\OptL H v (frM w)/\OptL H u (gr w)
def M5 (w:Str)(Hs:Hp):St->Hp->Prop:=fun σ H=>∃ x1 p q a b gs,σ=[some (.str w),x1,some (.ref p),some (.ref q),none]/\Same Hs H/\H p=some (.lst [.int a,.int b])/\frM w=some [a,b]/\gr w=some gs/\H q=some (.lst (gs.map V.int))
def M6 (w:Str)(Hs:Hp):St->Hp->Prop:=fun σ H=>∃ x1 x2 x3 p g a b gs,σ=[some (.str w),x1,x2,x3,some (.ref p)]/\Same Hs H/\frM w=some [a,b]/\gr w=some gs/\MetreAt H p g a b gs
section
variable {cdv:Value} {A:Around} {outer:List Env} {s0:Shared} {H0:Hp} {E:XK} {w:Str} {Hs:Hp} {w0:World}
theorem yvu (T:Txt K mg t)(hr:Room 4 (A.deeper (PyProof.Rows.envOfC "metre_of" (yai (top 32)) s0.heap.objs.size t.f_zay cdv)))(hw:w.length<=90):Tr ((yjc CX0 P w0 K mg base ["word","halves","fraction","groups","metre"] "metre_of" (yai (top 32)) t.f_zay cdv A outer s0 H0 E).nox) (yiK 32 1) (M1 w Hs) (M2 w Hs):=by
 refine⟨_,(ycR (i:=1) sc_zay.nd rfl (Or.inl rfl) (yex F.plainAttrs_str F.slot_str_partition F.type_str_partition ydO (pv 0) (yaa yaf yab))),λD σ H pre nx=>?_⟩
 obtain⟨rfl,sm⟩:=pre
 have e58:(Str.ofString ":")=one 58:=by ac_rfl
 have pe:=ypx w 58
 rw[← e58] at pe
 walk_at "rd"
 refine⟨rfl,by ac_rfl,ybI (by omega),λp1 g1=>?_⟩
 rw[pe]
 exact nx _ _ ⟨p1,rfl,sm.trans (yae g1 _),by rw[yac,e58]⟩
theorem yvJ (T:Txt K mg t)(G_zY:FnOk P w0 K mg base CX0 4 t.f_zY t.d_zY ["text","between"] yiO)(hr:Room 4 (A.deeper (PyProof.Rows.envOfC "metre_of" (yai (top 32)) s0.heap.objs.size t.f_zay cdv)))(hw:w.length<=90):Tr ((yjc CX0 P w0 K mg base ["word","halves","fraction","groups","metre"] "metre_of" (yai (top 32)) t.f_zay cdv A outer s0 H0 E).nox) (yiK 32 2) (M2 w Hs) (M3 w Hs):=by
 refine⟨_,(ycR (i:=2) sc_zay.nd rfl (Or.inl rfl) (pcl G_zY hr T.zY (yaa (ya5 ycJ (pv 1) yah (λ_ _=>rfl)) (yaa yaf yab)))),λD σ H pre nx=>?_⟩
 obtain⟨p1,rfl,sm,h1⟩:=pre
 have pl:=ycA 58 w.cps.toList
 rw[yaE] at pl
 walk_at "rd"
 exact⟨_,SqT.of h1,_,rfl,ykk (.inl ⟨rfl,rfl⟩) (by show(yaH 58 w.cps.toList).1.length<=500;omega) λv H' s2 ov=>nx _ _ ⟨p1,v,rfl,sm.trans s2,s2 _ _ h1,ov⟩⟩
theorem yvf (T:Txt K mg t)(G_zY:FnOk P w0 K mg base CX0 4 t.f_zY t.d_zY ["text","between"] yiO)(hr:Room 4 (A.deeper (PyProof.Rows.envOfC "metre_of" (yai (top 32)) s0.heap.objs.size t.f_zay cdv)))(hw:w.length<=90):Tr ((yjc CX0 P w0 K mg base ["word","halves","fraction","groups","metre"] "metre_of" (yai (top 32)) t.f_zay cdv A outer s0 H0 E).nox) (yiK 32 3) (M3 w Hs) (M4 w Hs):=by
 refine⟨_,(ycR (i:=3) sc_zay.nd rfl (Or.inl rfl) (yaJ (yap ya2 (ya5 ycJ (pv 1) yah (λ_ _=>rfl)) yaf (yat _)) (yaN yab) (pcl G_zY hr T.zY (yaa (ya5 ycJ (pv 1) yah (λ_ _=>rfl)) (yaa yaf yab))))),λD σ H pre nx=>?_⟩
 obtain⟨p1,v,rfl,sm,h1,ov⟩:=pre
 have pl:=ycA 58 w.cps.toList
 rw[yaE] at pl
 walk_at "rd"
 refine⟨_,SqT.of h1,_,rfl,rfl,?_⟩
 by_cases hf:(yaH 58 w.cps.toList).2.1=true
 ·rw[if_neg (by rw[if_pos hf];intro z;exact absurd (V.str.inj z) (by ac_rfl))]
  refine⟨_,SqT.of h1,_,rfl,ykk (.inr ⟨rfl,rfl⟩) (by show(yaH 58 w.cps.toList).2.2.length<=500;omega) λu H' s2 ou=>nx _ _ ⟨_,v,u,rfl,sm.trans s2,ov.same s2,?_⟩⟩
  unfold gr
  rw[if_pos hf]
  exact ou
 ·rw[if_pos (by rw[if_neg hf];rfl)]
  refine⟨Nat.zero_le _,λp2 g2=>nx _ _ ⟨_,v,.ref p2,rfl,sm.trans (yae g2 _),ov.same (yae g2 _),.inr ⟨[],p2,?_,rfl,yac⟩⟩⟩
  unfold gr
  rw[if_neg hf]
theorem yvx (T:Txt K mg t)(hr:Room 4 (A.deeper (PyProof.Rows.envOfC "metre_of" (yai (top 32)) s0.heap.objs.size t.f_zay cdv)))(hw:w.length<=90):TrB ((yjc CX0 P w0 K mg base ["word","halves","fraction","groups","metre"] "metre_of" (yai (top 32)) t.f_zay cdv A outer s0 H0 E).nox) (yiK 32 4) (M4 w Hs) (M5 w Hs) (λv H'=>v=.non/\Same Hs H'/\ybu w.cps.toList=none):=by
 refine⟨_,(yaI (PW.pt (ybE (yap ycu (pv 2) yaK (yat _)) (ybE (yap ycu (pv 3) yaK (yat _)) (ybp (yap yeI (yar yaL rfl T.Jc PySem.boot_len (yaa (pv 2) yab)) yah (yat _)))))) (yag (yam yaK)) yau),λD σ H pre nx rt=>?_⟩
 obtain⟨x1,v,u,rfl,sm,ov,ou⟩:=pre
 walk_at "rd"
 rcases ov with ⟨e1,rfl⟩ | ⟨l,p,e1,rfl,hp⟩
 ·rw[if_pos rfl]
  exact rt _ _ ⟨rfl,sm,yuM e1⟩
 ·rw[if_neg (by simp)]
  rcases ou with ⟨e2,rfl⟩ | ⟨gs,q,e2,rfl,hq⟩
  ·rw[if_pos rfl]
   exact rt _ _ ⟨rfl,sm,ytM e2⟩
  ·rw[if_neg (by simp)]
   refine⟨p,rfl,_,.inl (SqL.of hp),?_⟩
   rw[qM]
   by_cases hl:l.length=2
   ·rw[if_neg (by simp[hl])]
    match l,hl,hp,e1 with
    | [a,b],_,hp,e1=>exact nx _ _ ⟨_,p,q,a,b,gs,rfl,sm,hp,e1,e2,hq⟩
   ·rw[if_pos (by omega)]
    exact rt _ _ ⟨rfl,sm,yuI e1 hl⟩
theorem yvv (T:Txt K mg t)(hr:Room 4 (A.deeper (PyProof.Rows.envOfC "metre_of" (yai (top 32)) s0.heap.objs.size t.f_zay cdv)))(hw:w.length<=90):Tr ((yjc CX0 P w0 K mg base ["word","halves","fraction","groups","metre"] "metre_of" (yai (top 32)) t.f_zay cdv A outer s0 H0 E).nox) (yiK 32 5) (M5 w Hs) (M6 w Hs):=by
 refine⟨_,(ycR (i:=4) sc_zay.nd rfl (Or.inl rfl) (yaw (yaa (ya5 ya1 (pv 2) yah (λ_ _=>rfl)) (yaa (ya5 ya1 (pv 2) yah (λ_ _=>rfl)) (yaa (yaC ydl rfl T.Jh ybg (yaa (pv 3) yab)) yab))))),λD σ H pre nx=>?_⟩
 obtain⟨x1,p,q,a,b,gs,rfl,sm,hp,ef,eg,hq⟩:=pre
 walk_at "rd"
 exact⟨_,SqL.of hp,_,rfl,_,SqL.of hp,_,rfl,_,.inl ⟨SqL.of hq,λg gg=>⟨by decide,λpm gm=>nx _ _ ⟨_,_,_,pm,g,a,b,gs,rfl,sm.trans ((yae gg _).trans (yae gm _)),ef,eg,⟨yac,(yae gm _) _ _ yac⟩⟩⟩⟩⟩
theorem yvI (T:Txt K mg t)(G_zaD:FnOk P w0 K mg base CX0 4 t.f_zaD t.d_zaD ["thing"] ygQ)(hr:Room 4 (A.deeper (PyProof.Rows.envOfC "metre_of" (yai (top 32)) s0.heap.objs.size t.f_zay cdv)))(hw:w.length<=90):TrR ((yjc CX0 P w0 K mg base ["word","halves","fraction","groups","metre"] "metre_of" (yai (top 32)) t.f_zay cdv A outer s0 H0 E).nox) (yiK 32 6) (M6 w Hs) (λv H'=>Same Hs H'/\((ybu w.cps.toList=none/\v=.non)∨∃ a b gs p g,ybu w.cps.toList=some (a,b,gs)/\v=.ref p/\MetreAt H' p g a b gs)):=by
 refine⟨_,(yam (yaJ (yaG (pcl G_zaD hr T.Rs (yaa (pv 4) yab))) (pv 4) yaK)),λD σ H pre rt=>?_⟩
 obtain⟨x1,x2,x3,p,g,a,b,gs,rfl,sm,ef,eg,hm⟩:=pre
 walk_at "rd"
 have gl:=yrC eg
 refine⟨.ref p,rfl,yho hm (by omega),λH' s2=>⟨_,rfl,?_⟩⟩
 rw[ylY hm]
 have ms:=yvC ef eg
 cases hg:yji a b gs with
 | true =>
  rw[if_pos rfl]
  rw[hg,if_pos rfl] at ms
  exact rt _ _ ⟨sm.trans s2,.inr ⟨a,b,gs,p,g,ms,rfl,hm.same s2⟩⟩
 | false =>
  rw[if_neg (by simp)]
  rw[hg,if_neg (by simp)] at ms
  exact rt _ _ ⟨sm.trans s2,.inl ⟨ms,rfl⟩⟩
theorem yvp (T:Txt K mg t):∃ t0,PS ((yjc CX0 P w0 K mg base ["word","halves","fraction","groups","metre"] "metre_of" (yai (top 32)) t.f_zay cdv A outer s0 H0 E).nox) (yiK 32 0) t0/\∀ D x k H,KndOf H x k->((k=.str->D.nx [some x,none,none,none,none] H)/\(k≠.str->D.rt .non H))->t0 D [some x,none,none,none,none] H:=by
 refine⟨_,(yaI (ybf (yaG (yar ya0 rfl T.Ja yal (yaa (pv 0) (yaa (ybG rfl T.Jq ybb) yab))))) (yag (yam yaK)) yau),λD x k H hk q=>?_⟩
 walk_at "rd"
 refine⟨k,hk,?_⟩
 by_cases h:k=.str
 ·rw[if_neg (by simp[h])]
  exact q.1 h
 ·rw[if_pos (by simp[h])]
  exact q.2 h
end
theorem ylp:ybT (top 32)=[yiK 32 0,yiK 32 1,yiK 32 2,yiK 32 3,yiK 32 4,yiK 32 5,yiK 32 6]:=by rfl
theorem yrG:OF P w base T.RN 5 yk8:=by
 refine T.RN.F.ok sc_zay (λvs H Q E h=>?_) (λcdv A outer s0 H vs Q E hr h=>?_)
 ·obtain⟨x,k,rfl,_⟩:=h;rfl
 obtain⟨x,k,rfl,hk,qn,qs⟩:=h
 obtain⟨t0,p0,r0⟩:=yvp (P:=P) (w0:=w) (base:=base) T (cdv:=cdv) (A:=A) (outer:=outer) (s0:=s0) (H0:=H) (E:=E)
 by_cases hks:k=.str
 ·subst hks
  cases hk with
  | str wd =>
   obtain⟨hw,q1,q2⟩:=qs wd rfl
   obtain⟨t1,p1,r1⟩:=yvu (P:=P) (w0:=w) (base:=base) T hr (outer:=outer) (H0:=H) (E:=E) (w:=wd) (Hs:=H) hw
   obtain⟨t2,p2,r2⟩:=yvJ T (ysy T) hr (outer:=outer) (H0:=H) (E:=E) (w:=wd) (Hs:=H) hw
   obtain⟨t3,p3,r3⟩:=yvf T (ysy T) hr (outer:=outer) (H0:=H) (E:=E) (w:=wd) (Hs:=H) hw
   obtain⟨t4,p4,r4⟩:=yvx (P:=P) (w0:=w) (base:=base) T hr (outer:=outer) (H0:=H) (E:=E) (w:=wd) (Hs:=H) hw
   obtain⟨t5,p5,r5⟩:=yvv (P:=P) (w0:=w) (base:=base) T hr (outer:=outer) (H0:=H) (E:=E) (w:=wd) (Hs:=H) hw
   obtain⟨t6,p6,r6⟩:=yvI T (yrE T) hr (outer:=outer) (H0:=H) (E:=E) (w:=wd) (Hs:=H) hw
   rw[ylp]
   refine⟨_,(yad p0 (yad p1 (yad p2 (yad p3 (yad p4 (yad p5 (yag p6))))))),?_⟩
   refine r0 _ _ _ _ (.str wd) ⟨λ_=>r1 _ _ _ ⟨rfl,Same.refl H⟩ (fun σ2 H2 i2=>r2 _ _ _ i2 (fun σ3 H3 i3=>r3 _ _ _ i3 (fun σ4 H4 i4=>r4 _ _ _ i4 (fun σ5 H5 i5=>r5 _ _ _ i5 (fun σ6 H6 i6=>r6 _ _ _ i6 (λv H9 e=>?_))) (λv H9 e=>?_)))),λz=>absurd rfl z⟩
   ·obtain⟨sm,⟨e,rfl⟩ | ⟨a,b,gs,p,g,e,rfl,hm⟩⟩:=e
    ·exact q1 e _ sm
    ·exact q2 a b gs e p g _ sm hm
   ·obtain⟨rfl,sm,e⟩:=e
    exact q1 e _ sm
 ·rw[ylp]
  refine⟨_,(yad p0 yjw),?_⟩
  exact r0 _ _ _ _ hk ⟨λz=>absurd z hks,λz=>qn z⟩
open TX K2 K3
noncomputable def tM (tp bt:Int)(gs:List Int):Str:=if gs=[] then ofL (ya8 tp) ++ "/" ++ ofL (ya8 bt) else ofL (ya8 tp) ++ "/" ++ ofL (ya8 bt) ++ ":" ++ Txt.join "+" (gs.map λg=>ofL (ya8 g))
def Sm (i:Int):Prop:=0<=i/\i<=9999
theorem ym2 {i:Int}(h:Sm i):ya8 i=yeC i.natAbs:=by
 unfold ya8
 rw[if_neg (by have:=h.1;omega)]
theorem ycP {i:Int}(h:Sm i):(ofL (ya8 i)).length<=4:=by
 show(ya8 i).length<=4
 rw[ym2 h]
 exact yd1 3 _ (by have:=h.1;have:=h.2;omega)
theorem ybY {i:Int}(h:Sm i):i.natAbs.log2 < 1920:=by
 by_cases e:i.natAbs=0
 ·rw[e];decide
 ·rw[Nat.log2_lt e]
  have:(2:Nat) ^ 14<=2 ^ 1920:=Nat.pow_le_pow_right (by decide) (by decide)
  have e14:(2:Nat) ^ 14=16384:=by decide
  have h1:=h.1
  have h2:=h.2
  generalize (2:Nat) ^ 1920=B at *
  omega
theorem yhc:∀ (ts:List Str) (a:Nat),(∀ t∈ts,t.length<=4)->ts.foldl (λn t=>n+t.length+(Str.ofString "+").length) a<=a+5*ts.length
 | [],a,_=>by simp
 | t :: ts,a,h=>by
  have h1:=h t (by simp)
  have ih:=yhc ts (a+t.length+(Str.ofString "+").length) λu hu=>h u (by simp[hu])
  have e1:(Str.ofString "+").length=1:=by ac_rfl
  rw[List.foldl_cons,qC]
  omega
theorem yh2 {gs:List Int}(hg:∀ g∈gs,Sm g):∀ t∈gs.map (λg=>ofL (ya8 g)),t.length<=4:=by
 intro t ht
 obtain⟨g,hm,rfl⟩:=List.mem_map.mp ht
 exact ycP (hg g hm)
theorem yoj {gs:List Int}(hg:∀ g∈gs,Sm g)(hl:gs.length<=100):JoinOk (Str.ofString "+") (gs.map λg=>ofL (ya8 g))=true:=by
 unfold JoinOk
 have h:=yhc (gs.map λg=>ofL (ya8 g)) 0 (yh2 hg)
 rw[qM] at h
 have e:(gs.map λg=>ofL (ya8 g)).toArray.foldl (λn t=>n+t.length+(Str.ofString "+").length) 0=(gs.map λg=>ofL (ya8 g)).foldl (λn t=>n+t.length+(Str.ofString "+").length) 0:=by rw[List.foldl_toArray]
 rw[e]
 unfold Builtin.Str.tooLong
 rw[decide_eq_false (Nat.not_lt_of_le (ybI (by omega)))]
 rfl
theorem yio {gs:List Int}(hg:∀ g∈gs,Sm g)(hl:gs.length<=100):(Txt.join (Str.ofString "+") (gs.map λg=>ofL (ya8 g))).length<=600:=by
 show(Builtin.Str.glued (Str.ofString "+") (gs.map λg=>ofL (ya8 g))).length<=600
 rw[PySem.StrLaws.glued_eq_join]
 have h:=PySem.StrLaws.join_length_le (Str.ofString "+") (gs.map λg=>ofL (ya8 g))
 have e1:(Str.ofString "+").length=1:=by ac_rfl
 have:∀ ts:List Str,(∀ t∈ts,t.length<=4)->(ts.map (·.length)).sum<=4*ts.length:=by
  intro ts
  induction ts with
  | nil=>intro _;simp
  | cons t r ih =>
   intro hh
   have h1:=hh t (by simp)
   have h2:=ih λu hu=>hh u (by simp[hu])
   rw[List.map_cons,List.sum_cons,qC]
   omega
 have h2:=this _ (yh2 hg)
 rw[e1,qM] at h
 rw[qM] at h2
 omega
def ypL:Sp:=λvs H Q _=>∃ p g tp bt gs,vs=[.ref p]/\MetreAt H p g tp bt gs/\Sm tp/\Sm bt/\(∀ g∈gs,Sm g)/\gs.length<=100/\∀ H',Same H H'->Q (.str (tM tp bt gs)) H'
theorem ytp:OF P w base T.zU 2 ypL:=by
 refine T.zU.F.ok sc_zU (λvs H Q E h=>?_) (λ_ _ _ s' H vs Q E hr h=>?_)
 ·obtain⟨p,g,tp,bt,gs,rfl,_⟩:=h;rfl
 have hu:=yhO hr
 obtain⟨p,g,tp,bt,gs,rfl,hm,h1,h2,h3,h4,q⟩:=h
 refine⟨_,(yad (pst 1 sc_zU.nd (yay yaq (yay yaq (pcm (yhK T) hr (yaa (xT (pv 0)) yab)) yaf) (pcm (yhK T) hr (yaa (xT (pv 0)) yab)))) (yad (yaI (yap (yg1 hu) (xT (pv 0)) (yaw yab) (yat _)) (yag (yam (pv 1))) yau) (yag (yam (yay yaq (yay yaq (pv 1) yaf) (yck yaf (yaa (ybo (yaR (NB:=["group"]) (cap:=[none]) rfl) rfl (ydK (xT (pv 0))) (λ_ _ _ _=>pgb 0) (λ_ _ _ _=>yaZ) (λ_ _ _ _=>(pcm (yhK T) hr (yaa (pv 0) yab)))) yab))))))),?_⟩
 walk_at "rd"
 have hq:=SqT.of (K:=K) hm.at'
 have l1:=ycP h1
 have l2:=ycP h2
 have s1:(Str.ofString "/").length=1:=by ac_rfl
 have s2:(Str.ofString ":").length=1:=by ac_rfl
 refine⟨_,hq,_,rfl,tp,rfl,by have:=h1.1;omega,h1.2,_,rfl,ybI (by omega),_,hq,_,rfl,bt,rfl,by have:=h2.1;omega,h2.2,_,rfl,ybI (by rw[yb1];omega),_,hq,_,rfl,Nat.zero_le _,λp1 g1=>?_⟩
 have n1:=yae g1 (HO.tup [])
 refine⟨_,((ydk hm.gr).same n1).rep,_,(ydk (gs:=[]) yac).rep,ydt _,ydt _,?_⟩
 have em:eqT (.tp (ydb gs)) (.tp (ydb []))=decide (gs=[]):=by rw[eqT,yfb]
 by_cases hg:gs=[]
 ·rw[if_pos (by rw[em];simp[hg])]
  have:=q _ n1
  rw[tM,if_pos hg] at this
  exact this
 ·rw[if_neg (by rw[em];simp[hg])]
  refine⟨ybI (by rw[yb1,yb1];omega),rfl,?_⟩
  have qq:=λH' (e:Same H H')=>q H' e
  simp only[tM,if_neg hg] at qq
  refine⟨_,rfl,p,_,_,_,rfl,rfl,SqT.of (n1 _ _ hm.at'),rfl,g,rfl,⟨_,SqT.of (n1 _ _ hm.gr)⟩,λD hD=>yfL (xs:=gs.map V.int) (λj σ H'=>σ.length=1/\Same (upd H p1 (.tup [])) H'/\H' D=some (.lst (((gs.take j).map λg=>ofL (ya8 g)).map V.str))) ⟨rfl,yae hD _,yac⟩ (λj σ H' _ h=>SqT.of (h.2.1 _ _ (n1 _ _ hm.gr))) ?_ ?_⟩
  ·rintro j x σ H' hx ⟨hσ,sm,hd⟩
   have hj:j < gs.length:=by
    have:=(qE hx).1
    simpa using this
   obtain rfl:V.int gs[j]=x:=by
    rw[qm,qG hj] at hx
    exact Option.some.inj hx
   have hs:=h3 _ (List.getElem_mem hj)
   match σ,hσ with
   | [o],_ =>
    refine⟨_,rfl,_,rfl,by have:=hs.1;omega,hs.2,_,hd,?_,rfl,ybn hD sm,?_⟩
    ·rw[qM,qM,qT]
     exact yaD (by omega)
    ·have e2:gs.take (j+1)=gs.take j++[gs[j]]:=by rw[List.take_add_one,qG hj];rfl
     rw[yac,e2,qP,qP]
     rfl
  ·rintro σ H' ⟨_,sm,hd⟩
   have e0:gs.take (gs.map V.int).length=gs:=by rw[qM,List.take_length]
   rw[e0] at hd
   exact⟨D,rfl,_,SqL.of hd,yoj h3 h4,ybI (by rw[yb1,yb1,yb1];have:=yio h3 h4;omega),qq _ (n1.trans sm)⟩
open TX K2 K3
def ydp (w:Str):Option (Int×Int):=if (w.length:Int) < 2 then none else if ydQ w < 0 then none else if ymg w < 0 then none else some (ydQ w,ymg w)
def ykx:Sp:=λvs H Q _=>∃ x k,vs=[x]/\KndOf H x k/\(k≠.str->Q .non H) /\
 ∀ w:Str,x=.str w->w.length<=1000/\(ydp w=none->Q .non H)/\∀ a c,ydp w=some (a,c)->∀ p,H p=none->Q (.ref p) (upd H p (.tup [.int a,.str (mid w),.int c]))
theorem ysd:OF P w base T.RJ 1 ykx:=by
 refine T.RJ.F.ok sc_zaB (λvs H Q E h=>?_) (λ_ _ _ s H vs Q E hr h=>?_)
 ·obtain⟨x,k,rfl,_⟩:=h;rfl
 obtain⟨x,k,rfl,hk,qn,qs⟩:=h
 refine⟨_,(yad (yaI (PW.pt (ybE (ybf (yaG (yar ya0 rfl T.Ja yal (yaa (pv 0) (yaa (ybG rfl T.Jq ybb) yab))))) (ybp (yap yfO (pln T.Jc (yaa (pv 0) yab)) yah (yat _))))) (yag (yam yaK)) yau) (yad (pst 1 sc_zaB.nd (yiC (yi9 rfl T.JV) (yaa (ya5 ycN (pv 0) yah (λ_ _=>rfl)) yab))) (yad (pst 2 sc_zaB.nd (yiC (yi9 rfl T.JI) (yaa (ya5 ycN (pv 0) (ye9 ydh yah) (λ_ _=>rfl)) yab))) (yad (yaI (PW.pt (ybE (yap yfO (pv 1) yah (yat _)) (ybp (yap yfO (pv 2) yah (yat _))))) (yag (yam yaK)) yau) (yag (yam (yaw (yaa (pv 1) (yaa (yaW ybX (pv 0) (yaX yah) (yaX (ye9 ydh yah))) (yaa (pv 2) yab)))))))))),?_⟩
 walk_at "rd"
 refine⟨k,hk,?_⟩
 cases hk with
 | str w =>
  obtain⟨hw,q0,q1⟩:=qs w rfl
  walk_at "rd"
  simp only[not_true_eq_false,if_false]
  refine⟨ybI hw,yjb (λz=>q0 (by unfold ydp;rw[if_pos z])) (λz=>?_)⟩
  have z':2<=(w.length:Int):=by omega
  obtain⟨c,hc,ec⟩:=yqB z'
  obtain⟨d,hd,ed⟩:=yqz z'
  refine⟨rfl,ybI hw,c,hc,rfl,ybI hw,d,hd,?_⟩
  rw[ec,ed]
  refine yjb (λy=>q0 (by unfold ydp;rw[if_neg z,if_pos (show ydQ w < 0 from y)])) (λy=>?_)
  refine yjb (λx=>q0 (by unfold ydp;rw[if_neg z,if_neg (show ¬ ydQ w < 0 from y),if_pos (show ymg w < 0 from x)])) (λx=>?_)
  have rw1:ydp w=some (ydQ w,ymg w):=by
   unfold ydp;rw[if_neg z,if_neg (show ¬ ydQ w < 0 from y),if_neg (show ¬ ymg w < 0 from x)]
  refine⟨ybI hw,by decide,?_⟩
  rw[yjI z']
  exact q1 _ _ rw1
 | _=>exact qn (by simp)
open TX K2 K3
def dots:List (Int×Int):=[(1,2),(2,2),(4,2),(8,2),(16,1),(32,0)]
noncomputable def isB:V->Bool
 | .bl _=>true
 | _=>false
def yhs (a b:V):Bool:=match a with
 | .int i=>match dLk dots i with
  | some m=>ybL b 0 m
  | none=>false
 | _=>false
def ygw:List V->Bool
 | [a,b,c]=>isB c&&yhs a b
 | _=>false
noncomputable def yj5 (H:Hp)(x:V):Bool:=match x with
 | .ref a=>match H a with
  | some (.tup xs)=>ygw xs
  | _=>false
 | _=>false
def ylk:Sp:=λvs H Q _=>∃ x k,vs=[x]/\KndOf H x k/\(∀ a xs,x=.ref a->H a=some (.tup xs)->∀ y∈xs,∃ ky,KndOf H y ky)/\Q (.bl (yj5 H x)) H
theorem yr2:OF P w base T.RO 3 ylk:=by
 refine T.RO.F.ok yqS (λvs H Q E h=>?_) (λ_ _ _ s H vs Q E hr h=>?_)
 ·obtain⟨x,k,rfl,_⟩:=h;rfl
 obtain⟨x,k,rfl,hk,hy,q⟩:=h
 have hu:=yhO hr
 refine⟨_,(yad (yaI (PW.pt (ybE (ybf (yaG (yar ya0 rfl T.Ja yal (yaa (pv 0) (yaa (ybG rfl T.Jh ybg) yab))))) (ybE (yap yeI (yar yaL rfl T.Jc PySem.boot_len (yaa (pv 0) yab)) yah (yat _)) (ybp (ybf (yaG (yar ya0 rfl T.Ja yal (yaa (xT (pv 0)) (yaa (ybG rfl T.Qb ydg) yab))))))))) (yag (yam ycK)) yau) (yad (yaI (PW.pt (ybE (ybf (yaG (pcm (yks T) hr (yaa (xT (pv 0)) yab)))) (ybp (yap yg4 (xT (pv 0)) (ymE rfl T.JK) rfl)))) (yag (yam ycK)) yau) (yag (yam (pcm (yij T) hr (yaa (xT (pv 0)) (yaa yah (yaa (ya5 yp6 (ymE rfl T.JK) (xT (pv 0)) (λ_ _=>rfl)) yab)))))))),?_⟩
 left
 refine ykL hk ?_
 cases hk with
 | @tup a xs e =>
  have hy:=hy a xs rfl e
  have q:Q (.bl (ygw xs)) H:=by
   have e':yj5 H (.ref a)=ygw xs:=by show(match H a with | some (.tup xs)=>ygw xs | _=>false)=_;rw[e]
   rw[e'] at q
   exact q
  refine ybr (i_F ?_)
  left
  refine⟨a,_,rfl,.inr (SqT.of e),?_⟩
  left
  refine yjp (ybr ?_)
  match xs,hy,e,q with
  | [b,c,d],hy,e,q =>
   obtain⟨kb,hb⟩:=hy b (by simp)
   obtain⟨kc,hc⟩:=hy c (by simp)
   obtain⟨kd,hd⟩:=hy d (by simp)
   refine i_F ?_
   left
   refine yd8 (SqT.of e) (yav (j:=2) rfl) ?_
   left
   refine ykL hd (ybr ?_)
   rw[show ygw [b,c,d]=(isB d&&yhs b c) from rfl] at q
   cases hd with
   | bl z =>
    have q:Q (.bl (yhs b c)) H:=q
    refine i_F ?_
    left
    refine yd8 (SqT.of e) (yav (j:=0) rfl) ?_
    left
    refine⟨b,kb,rfl,hb,ybr ?_⟩
    cases hb with
    | int i =>
     refine i_F ?_
     left
     refine yd8 (SqT.of e) (yav (j:=0) rfl) ?_
     left
     refine⟨i,_,dots,rfl,rfl,T.JL,?_⟩
     rw[show yhs (.int i) c=(match dLk dots i with | some m=>ybL c 0 m | none=>false) from rfl] at q
     left
     rw[if_pos rfl]
     cases dl:dLk dots i with
     | none =>
      rw[dl] at q
      exact i_T q
     | some m =>
      rw[dl] at q
      refine i_F ?_
      left
      refine yd8 (SqT.of e) (yav (j:=1) rfl) ?_
      left
      refine yd8 (SqT.of e) (yav (j:=0) rfl) ?_
      left
      refine⟨_,dots,i,m,rfl,rfl,T.JL,dl,?_⟩
      left
      exact⟨c,kc,0,m,rfl,hc,q⟩
    | _=>exact i_T q
   | _=>exact i_T q
  | [],hy,e,q=>exact i_T q
  | [_],hy,e,q=>exact i_T q
  | [_,_],hy,e,q=>exact i_T q
  | _ :: _ :: _ :: _ :: r,hy,e,q =>
   rw[decide_eq_false (by simp only[qC];omega)]
   exact i_T q
 | @lst a xs e =>
  have e':yj5 H (.ref a)=false:=by show(match H a with | some (.tup xs)=>ygw xs | _=>false)=_;rw[e]
  rw[e'] at q
  exact ybr (i_T q)
 | @dct a xs e =>
  have e':yj5 H (.ref a)=false:=by show(match H a with | some (.tup xs)=>ygw xs | _=>false)=_;rw[e]
  rw[e'] at q
  exact ybr (i_T q)
 | _=>exact ybr (i_T q)
open TX K2 K3
def ybS (c:Nat):List (List Nat)->List Nat
 | []=>[]
 | [w]=>w
 | w :: v :: ws=>w++c :: ybS c (v :: ws)
theorem ygf {c:Nat}:∀ (a b:List Nat),c∉a->yan c (a++c :: b)=a :: yan c b
 | [],b,_=>by simp[yan]
 | x :: a,b,h=>by
  have hx:x≠c:=λe=>h (by simp[e])
  have ih:=ygf a b (λz=>h (List.mem_cons_of_mem _ z))
  rw[List.cons_append,yan,if_neg hx,ih]
theorem ygV {c:Nat}:∀ (a:List Nat),c∉a->yan c a=[a]
 | [],_=>by simp[yan]
 | x :: a,h=>by
  have hx:x≠c:=λe=>h (by simp[e])
  have ih:=ygV a (λz=>h (List.mem_cons_of_mem _ z))
  rw[yan,if_neg hx,ih]
theorem yik (c:Nat):∀ (ws:List (List Nat)) (acc:Array Nat),((ws.map ofL).foldl (λacc p=>acc++(one c).cps++p.cps) acc).toList=acc.toList++(ws.map λw=>c :: w).flatten
 | [],acc=>by simp
 | w :: ws,acc=>by
  rw[List.map_cons,List.foldl_cons,yik c ws]
  simp[one,ofL]
theorem yeX (c:Nat):∀ (w:List Nat) (ws:List (List Nat)),ybS c (w :: ws)=w++(ws.map λw=>c :: w).flatten
 | w,[]=>by simp[ybS]
 | w,v :: ws=>by rw[ybS,yeX c v ws];simp
theorem ygZ (c:Nat)(ws:List (List Nat)):PySem.Txt.join (one c) (ws.map ofL)=ofL (ybS c ws):=by
 cases ws with
 | nil=>rfl
 | cons w ws =>
  apply yce
  show((ws.map ofL).foldl (λacc p=>acc++(one c).cps++p.cps) (ofL w).cps).toList=_
  rw[yik,yeX,yax]
  rfl
theorem yaB (l:List Nat):(ofL l).length=l.length:=by rw[← yaE,yax]
theorem ofS {l:List Nat}(h:l.length<=1000):(ofL l).length<=sizeLine:=by rw[yaB];exact ybI h
theorem ymu {c:Nat}{ws:List (List Nat)}(h:(ws.map List.length).sum+ws.length<=100000):JoinOk (one c) (ws.map ofL)=true:=by
 have f:∀ (ws:List (List Nat)) (k:Nat),(ws.map ofL).foldl (λx1 x2=>x1+x2.length+(one c).length) k=k+(ws.map List.length).sum+ws.length:=λws=>by
  induction ws with
  | nil=>intro k;simp
  | cons w ws ih =>
   intro k
   rw[List.map_cons,List.foldl_cons,ih,List.map_cons,List.sum_cons,qC,yaB]
   show k+w.length+1+_+_=_
   omega
 unfold JoinOk Builtin.Str.tooLong
 rw[List.foldl_toArray,f,decide_eq_false (by have:=(by decide:(100000:Nat)<=sizeLine);omega)]
 rfl
noncomputable def tV (w:List Nat):V:=.str (ofL w)
theorem yaO (a b:List Nat):V.str (ofL a++ofL b)=tV (a++b):=by
 unfold tV
 congr 1
 apply yce
 show((ofL a).cps++(ofL b).cps).toList=_
 rw[Array.toList_append,yax,yax,yax]
theorem ybe {x y:V}{a b:List Nat}{Q:Str->Str->Prop}(hx:x=tV a)(hy:y=tV b)(h:a.length+b.length<=90000)(q:Q (ofL a) (ofL b)):∃ i j,x=V.str i/\y=V.str j/\i.length+j.length<=sizeLine/\Q i j :=
 ⟨_,_,hx,hy,by rw[yaB,yaB];exact Nat.le_trans h (by decide),q⟩
theorem lit {s:Str}{w:List Nat}(h:s=ofL w):V.str s=tV w:=by rw[h];rfl
theorem yiD {s:Str}{H:Hp}{Q:VK}{p:Addr}(c:Nat)(ws:List (List Nat))(hs:s=one c)(e:H p=some (.lst (ws.map tV)))(l:(ws.map List.length).sum+ws.length<=100000)(q:Q (tV (ybS c ws)) H):ymd K (.str s) [.ref p] H Q:=by
 subst hs
 refine⟨one c,p,ws.map ofL,rfl,rfl,?_,ymu l,?_⟩
 ·rw[List.map_map];exact SqL.of e
 ·rw[ygZ];exact q
theorem yhe {k:Nat}:∀ {ws:List (List Nat)},(∀ w∈ws,w.length<=k)->(ws.map List.length).sum<=k*ws.length
 | [],_=>Nat.zero_le _
 | w :: ws,h=>by
  have:=h w (by simp)
  have:=yhe (ws:=ws) λv hv=>h v (by simp[hv])
  rw[List.map_cons,List.sum_cons,qC,Nat.mul_succ]
  omega
open TX K2 K3
noncomputable def ylJ (cs:List Nat):Option Int:=(ya6 cs).filter λn=>decide (-7<=n)&&decide (n<=7)
def yoV:Sp:=λvs H Q _=>∃ x k,vs=[x]/\KndOf H x k/\Q (.bl (ybL x (-7) 7)) H
theorem yqt:OF P w base T.RK 3 yoV:=by
 o_head (T.RK.F,yqs)
 obtain⟨x,k,rfl,hk,q⟩:=h
 refine⟨_,(yag (yam (pcm (yij T) hr (yaa (pv 0) (yaa (ye9 ydh (yfo rfl T.JC)) (yaa (yfo rfl T.JC) yab)))))),?_⟩
 left
 exact⟨x,k,-7,7,rfl,hk,q⟩
def ypb:Sp:=λvs H Q _=>∃ w:Str,vs=[.str w]/\w.length<=600/\∀ H',Same H H'->Q (yhg (ylJ w.cps.toList)) H'
theorem yrM:OF P w base T.RL 4 ypb:=by
 o_head (T.RL.F,sc_zaO)
 obtain⟨w',rfl,hw,q⟩:=h
 refine⟨_,(yad (pst 1 sc_zaO.nd (pcm (yj8 T) hr (yaa (pv 0) yab))) (yag (yam (yaJ (yaG (pcm (yqt T) hr (yaa (pv 1) yab))) (pv 1) yaK)))),?_⟩
 left
 refine⟨_,.str,rfl,.str _,λz=>absurd rfl z,λw e=>?_⟩
 cases e
 refine⟨hw,λH1 s1=>?_⟩
 have qq:=q H1 s1
 unfold ylJ at qq
 cases e:ya6 w'.cps.toList with
 | none =>
  rw[e] at qq
  left
  exact⟨_,.non,rfl,.non,false,rfl,qq⟩
 | some n =>
  rw[e,Option.filter_some] at qq
  left
  refine⟨_,.int,rfl,.int n,?_⟩
  left
  show if (decide (-7<=n)&&decide (n<=7))=true then _ else _
  by_cases z:(decide (-7<=n)&&decide (n<=7))=true
  ·rw[if_pos z] at qq ⊢
   exact⟨_,rfl,qq⟩
  ·rw[if_neg z] at qq ⊢
   exact qq
structure Hd where
 mr:List Nat
 st:Int
 oc:Int
structure Pc where
 v:Int
 d:Nat
 th:Bool
noncomputable def sT (z:List Nat):Th:=.im (tV z)
noncomputable def bT (b:Bool):Th:=.im (.bl b)
noncomputable def hdT (h:Hd):Th:=.tp [sT h.mr,nT h.st,nT h.oc]
noncomputable def pcT (p:Pc):Th:=.tp [nT p.v,nT p.d,bT p.th]
theorem ycB {H:Hp}(z:List Nat):Is H (tV z) (sT z):=ylx rfl
theorem yeE {H:Hp}(z:Bool):Is H (.bl z) (bT z):=ylx rfl
theorem Is.three {H:Hp}{x:V}{a b c:V}(h:Is H x (.tp [.im a,.im b,.im c])):∃ p,x=.ref p/\H p=some (.tup [a,b,c]):=by
 rw[Is] at h
 obtain⟨p,ys,rfl,e,is⟩:=h
 rw[Iss] at is
 obtain⟨y0,r0,rfl,i0,is⟩:=is
 rw[Iss] at is
 obtain⟨y1,r1,rfl,i1,is⟩:=is
 rw[Iss] at is
 obtain⟨y2,r2,rfl,i2,is⟩:=is
 rw[Iss] at is
 rw[Is] at i0 i1 i2
 rw[is,i0.1,i1.1,i2.1] at e
 exact⟨p,rfl,e⟩
theorem ypn {H:Hp}{a:Addr}{h:Hd}(e:H a=some (.tup [tV h.mr,.int h.st,.int h.oc])):Is H (.ref a) (hdT h):=ya3 e (yaj (ycB _) (yaj (yfS H _) (yaj (yfS H _) (yaz H))))
theorem yiP {H:Hp}{a:Addr}{p:Pc}(e:H a=some (.tup [.int p.v,.int p.d,.bl p.th])):Is H (.ref a) (pcT p):=ya3 e (yaj (yfS H _) (yaj (yfS H _) (yaj (yeE _) (yaz H))))
def yjx (h:Hd):Prop:=(0<=h.st/\h.st<=6)/\(0<=h.oc/\h.oc<=8)/\h.mr.length<=2
noncomputable def yci (h:Hd):Int:=7*h.oc+h.st
def yqk:Sp:=λvs H Q _=>∃ (x:V) (h:Hd),vs=[x]/\Is H x (hdT h)/\Q (.int (yci h)) H
theorem ypY:OF P w base T.RQ 1 yqk:=by
 o_head (T.RQ.F,ysw)
 obtain⟨x,hd,rfl,ix,q⟩:=h
 obtain⟨p,rfl,e⟩:=Is.three ix
 refine⟨_,(yag (yam (yay ybv (yay yb5 yah (xT (pv 0))) (xT (pv 0))))),?_⟩
 left
 refine ybh 2 (SqT.of e) ?_
 left
 refine ybh 1 (SqT.of e) ?_
 left
 exact q
open TX K2 K3
def yn2 (s:Int):Nat:=[99,100,101,102,103,97,98].getD s.toNat 0
theorem ynp {s:Int}(h0:0<=s)(h1:s<=6):atI ("cdefgab" : Str).cps.toList s=some (yn2 s):=by
 have:s=0∨s=1∨s=2∨s=3∨s=4∨s=5∨s=6:=by omega
 rcases this with rfl | rfl | rfl | rfl | rfl | rfl | rfl<;>decide +kernel
noncomputable def hdW (h:Hd):List Nat:=yn2 h.st :: (h.mr++ya8 h.oc)
def yoW:Sp:=λvs H Q _=>∃ (x:V) (h:Hd),vs=[x]/\Is H x (hdT h)/\yjx h/\Q (tV (hdW h)) H
theorem ybl {i:Int}(h:-9999<=i/\i<=9999):(ya8 i).length<=5:=by
 unfold ya8
 have:=yd1 3 i.natAbs (by omega)
 split
 ·rw[qC];omega
 ·omega
theorem yqy:OF P w base T.RP 2 yoW:=by
 o_head (T.RP.F,yqI)
 obtain⟨x,h,rfl,ix,g,q⟩:=h
 obtain⟨p,rfl,e⟩:=Is.three ix
 refine⟨_,(yag (yam (yay yaq (yay yaq (ya5 ycN (yi9 rfl T.JV) (xT (pv 0)) (λ_ _=>rfl)) (xT (pv 0))) (pcm (yhK T) hr (yaa (xT (pv 0)) yab))))),?_⟩
 left
 refine ybh 1 (SqT.of e) ?_
 refine⟨_,_,_,rfl,rfl,by ac_rfl,ynp g.1.1 g.1.2,?_⟩
 left
 refine ybh 0 (SqT.of e) ?_
 have l2:=ybl (i:=h.oc) ⟨by have:=g.2.1.1;omega,by have:=g.2.1.2;omega⟩
 have l3:=g.2.2
 refine ybe (a:=[yn2 h.st]) (b:=h.mr) rfl rfl (by rw[qS];omega) ?_
 rw[yaO]
 left
 refine ybh 2 (SqT.of e) ?_
 left
 refine⟨h.oc,rfl,by have:=g.2.1.1;omega,by have:=g.2.1.2;omega,?_⟩
 refine ybe (a:=[yn2 h.st]++h.mr) (b:=ya8 h.oc) rfl rfl (by rw[qA,qS];omega) ?_
 rw[yaO,List.append_assoc]
 exact q
def ytl (p:Pc):Prop:=(1<=p.v/\p.v<=32)/\p.d<=2
noncomputable def pcW (p:Pc):List Nat:=ya8 p.v++List.replicate p.d 46++(if p.th=true then [39] else [])
def ynk:Sp:=λvs H Q _=>∃ (x:V) (p:Pc),vs=[x]/\Is H x (pcT p)/\ytl p/\Q (tV (pcW p)) H
theorem ynS:OF P w base T.RS 2 ynk:=by
 o_head (T.RS.F,yqx)
 obtain⟨x,p,rfl,ix,g,q⟩:=h
 obtain⟨a,rfl,e⟩:=Is.three ix
 refine⟨_,(yag (yam (yay yaq (yay yaq (pcm (yhK T) hr (yaa (xT (pv 0)) yab)) (yay ype yaf (xT (pv 0)))) (yaJ (yaG (xT (pv 0))) yaf yaf)))),?_⟩
 have l1:=ybl (i:=p.v) ⟨by have:=g.1.1;omega,by have:=g.1.2;omega⟩
 have l2:=g.2
 left
 refine ybh 0 (SqT.of e) ?_
 left
 refine⟨p.v,rfl,by have:=g.1.1;omega,by have:=g.1.2;omega,?_⟩
 left
 refine ybh 1 (SqT.of e) ?_
 have em:Txt.mul (Str.ofString ".") (p.d:Int)=ofL (List.replicate p.d 46)/\MulOk (Str.ofString ".") (p.d:Int):=by
  have:p.d=0∨p.d=1∨p.d=2:=by omega
  rcases this with z | z | z<;>rw[z]<;>exact⟨by ac_rfl,by unfold MulOk;decide +kernel⟩
 refine⟨_,_,rfl,rfl,em.2,?_⟩
 rw[em.1]
 refine ybe (a:=ya8 p.v) (b:=List.replicate p.d 46) rfl rfl (by rw[List.length_replicate];omega) ?_
 rw[yaO]
 left
 refine ybh 2 (SqT.of e) ?_
 left
 unfold pcW at q
 have l3:(ya8 p.v++List.replicate p.d 46).length<=100:=by rw[qA,List.length_replicate];omega
 cases z:p.th with
 | true =>
  rw[z] at q
  left
  exact ybe (b:=[39]) rfl rfl (by rw[qS];omega) (by rw[yaO];exact q)
 | false =>
  rw[z] at q
  left
  exact ybe (b:=[]) rfl rfl (by rw[List.length_nil];omega) (by rw[yaO];exact q)
open TX K2 K3
def yaF (cs:List Nat):List Nat:=if [39] <:+ cs then cs.dropLast else cs
noncomputable def ybm (cs:List Nat):Option Pc:=(ya6 (ya4 (yaF cs))).bind λv=>(dLk dots v).bind λm=>if ((yaF cs).length:Int) - ((ya4 (yaF cs)).length:Int)<=m then some ⟨v,(yaF cs).length - (ya4 (yaF cs)).length,decide ([39] <:+ cs)⟩ else none
theorem ymk (cs:List Nat):(yaF cs).length<=cs.length:=by
 unfold yaF
 split
 ·rw[List.length_dropLast];omega
 ·exact qR _
theorem yfV (cs:List Nat):(ya4 cs).length<=cs.length:=by unfold ya4;rw[qT];omega
def ygx:Sp:=λvs H Q _=>∃ cs,vs=[tV cs]/\cs.length<=600/\(ybm cs=none->∀ H',Same H H'->Q .non H')/\∀ p,ybm cs=some p->∀ a H',Same H H'->H a=none->H' a=some (.tup [.int p.v,.int p.d,.bl p.th])->Q (.ref a) H'
theorem ynn:OF P w base T.RA 4 ygx:=by
 o_head (T.RA.F,sc_zaE)
 obtain⟨cs,rfl,hw,q0,q1⟩:=h
 refine⟨_,(yad (pst 1 sc_zaE.nd (yiE (pv 0) (yaa yaf yab))) (yad (pst 2 sc_zaE.nd (yaJ (yaG (pv 1)) (yaW ybX (pv 0) ybB (yaX (ye9 ydh yah))) (pv 0))) (yad (pst 3 sc_zaE.nd (yjN (pv 2) (yaa yaf yab))) (yad (pst 4 sc_zaE.nd (yaw (yaa (pcm (yj8 T) hr (yaa (pv 3) yab)) (yaa (yay yiy (pln T.Jc (yaa (pv 2) yab)) (pln T.Jc (yaa (pv 3) yab))) (yaa (pv 1) yab))))) (yag (yam (yaJ (yaG (pcm (yr2 T) hr (yaa (pv 4) yab))) (pv 4) yaK))))))),?_⟩
 left
 refine⟨rfl,?_⟩
 left
 refine⟨_,_,rfl,rfl,?_⟩
 rw[show Str.ofString "'"=ofL [39] by ac_rfl,ylz]
 left
 have l1:=ymk cs
 have l2:=yfV (yaF cs)
 have mid:∀ Q':VK,Q' (tV (yaF cs)) H->(if decide ([39] <:+ cs)=true then tSl ytL (yjr 0) yfp (yl2 (tUn (rU λi=>V.int (-i)) (tC (V.int 1)))) [some (tV cs),some (.bl (decide ([39] <:+ cs))),none,none,none] H Q' else yjr 0 [some (tV cs),some (.bl (decide ([39] <:+ cs))),none,none,none] H Q'):=λQ' q=>by
  by_cases z:[39] <:+ cs
  ·rw[if_pos (by simpa using z)]
   rw[yaF,if_pos z,tV,← yoG] at q
   left
   exact⟨1,rfl,_,rfl,_,rfl,ybI (by rw[yaB];omega),q⟩
  ·rw[if_neg (by simpa using z)]
   rw[yaF,if_neg z] at q
   exact⟨_,rfl,q⟩
 refine mid _ ?_
 left
 refine⟨rfl,?_⟩
 left
 refine⟨_,_,rfl,rfl,ybI (by rw[yaB];omega),?_⟩
 rw[show Str.ofString "."=one 46 by ac_rfl,yhB]
 left
 refine⟨_,.str,rfl,.str _,λz=>absurd rfl z,λw e=>?_⟩
 cases e
 refine⟨by rw[yaB];omega,λH1 s1=>?_⟩
 rw[yax]
 left
 refine⟨_,rfl,ybI (by rw[yaB];omega),?_⟩
 left
 refine⟨_,rfl,ybI (by rw[yaB];omega),?_⟩
 rw[yaB,yaB]
 left
 refine ybA λp hp=>?_
 have s2:=s1.trans (yae hp (.tup [yhg (ya6 (ya4 (yaF cs))),V.int (((yaF cs).length:Int) - ((ya4 (yaF cs)).length:Int)),V.bl (decide ([39] <:+ cs))]))
 have e2:upd H1 p (.tup [yhg (ya6 (ya4 (yaF cs))),V.int (((yaF cs).length:Int) - ((ya4 (yaF cs)).length:Int)),V.bl (decide ([39] <:+ cs))]) p=_:=yac
 have h0:H p=none:=by
  cases z:H p with
  | none=>rfl
  | some u=>rw[s1 _ _ z] at hp;cases hp
 generalize upd H1 p _=H2 at s2 e2 ⊢
 left
 refine⟨_,_,rfl,.tup e2,λa xs ea ex y hy=>?_,?_⟩
 ·cases ea
  rw[e2] at ex
  cases ex
  simp only[List.mem_cons,qk,or_false] at hy
  rcases hy with rfl | rfl | rfl
  ·cases ya6 (ya4 (yaF cs)) with
   | none=>exact⟨_,.non⟩
   | some v=>exact⟨_,.int v⟩
  ·exact⟨_,.int _⟩
  ·exact⟨_,.bl _⟩
 ·have ev:yj5 H2 (.ref p)=yhs (yhg (ya6 (ya4 (yaF cs)))) (.int (((yaF cs).length:Int) - ((ya4 (yaF cs)).length:Int))):=by
   show(match H2 p with | some (.tup xs)=>ygw xs | _=>false)=_
   rw[e2]
   rfl
  rw[ev]
  unfold ybm at q0 q1
  cases en:ya6 (ya4 (yaF cs)) with
  | none =>
   rw[en] at q0
   exact⟨false,rfl,q0 rfl _ s2⟩
  | some v =>
   rw[en] at q0 q1 e2
   cases dl:dLk dots v with
   | none =>
    have:yhs (yhg (some v)) (.int (((yaF cs).length:Int) - ((ya4 (yaF cs)).length:Int)))=false:=by show(match dLk dots v with | some m=>_ | none=>false)=_;rw[dl]
    rw[this]
    refine⟨false,rfl,q0 ?_ _ s2⟩
    show(dLk dots v).bind _=none
    rw[dl]
    rfl
   | some m =>
    have:yhs (yhg (some v)) (.int (((yaF cs).length:Int) - ((ya4 (yaF cs)).length:Int)))=decide (((yaF cs).length:Int) - ((ya4 (yaF cs)).length:Int)<=m):=by
     show(match dLk dots v with | some m=>ybL _ 0 m | none=>false)=_
     rw[dl]
     show(decide ((0:Int)<=_)&&decide (_<=m))=_
     rw[decide_eq_true (by omega),Bool.true_and]
    rw[this]
    have q0':(if ((yaF cs).length:Int) - ((ya4 (yaF cs)).length:Int)<=m then some (⟨v,(yaF cs).length - (ya4 (yaF cs)).length,decide ([39] <:+ cs)⟩:Pc) else none)=none->∀ H',Same H H'->Q .non H':=λz=>q0 (by show(dLk dots v).bind _=none;rw[dl];exact z)
    have q1':∀ p,(if ((yaF cs).length:Int) - ((ya4 (yaF cs)).length:Int)<=m then some (⟨v,(yaF cs).length - (ya4 (yaF cs)).length,decide ([39] <:+ cs)⟩:Pc) else none)=some p->∀ a H',Same H H'->H a=none->H' a=some (.tup [.int p.v,.int p.d,.bl p.th])->Q (.ref a) H':=λp z=>q1 p (by show(dLk dots v).bind _=some p;rw[dl];exact z)
    refine⟨_,rfl,?_⟩
    by_cases z:((yaF cs).length:Int) - ((ya4 (yaF cs)).length:Int)<=m
    ·rw[if_pos (by simpa using z)]
     rw[if_pos z] at q1'
     refine⟨_,rfl,q1' _ rfl p _ s2 h0 ?_⟩
     rw[e2]
     show _=some (HO.tup [V.int v,V.int (((yaF cs).length - (ya4 (yaF cs)).length:Nat):Int),_])
     rw[Int.ofNat_sub l2]
     rfl
    ·rw[if_neg (by simpa using z)]
     rw[if_neg z] at q0'
     exact q0' rfl _ s2
open TX K2 K3
noncomputable def marksL:List (List Nat):=[[],[61],[43],[43,43],[45],[45,45]]
noncomputable def yhl (cs:List Nat):List Nat:=(mid (ofL cs)).cps.toList
noncomputable def ybD (cs:List Nat):Option Hd:=(ydp (ofL cs)).bind λq=>if yhl cs∈marksL then some ⟨yhl cs,q.1,q.2⟩ else none
theorem yfc {H H1:Hp}{p:Addr}(s:Same H H1)(h:H1 p=none):H p=none:=by
 cases z:H p with
 | none=>rfl
 | some u=>rw[s _ _ z] at h;cases h
theorem yhJ (x:Str)(l:List Nat):eqV (.str (ofL l)) (.str x)=decide (x.cps.toList=l):=by
 show(ofL l==x)=_
 rw[Bool.eq_iff_iff]
 simp only[beq_iff_eq,decide_eq_true_eq]
 exact⟨λh=>by rw[← h];rfl,λh=>by rw[← h];exact ycL x⟩
theorem ykn (x:Str)(ls:List (List Nat)):inV (.str x) (ls.map tV)=decide (x.cps.toList∈ls):=by
 unfold inV
 rw[Bool.eq_iff_iff]
 simp only[List.any_map,List.any_eq_true,Function.comp,decide_eq_true_eq]
 constructor
 ·rintro⟨l,hl,e⟩
  have e2:=yhJ x l
  unfold tV at e
  rw[e2] at e
  rw[of_decide_eq_true e]
  exact hl
 ·intro h
  exact⟨_,h,by unfold tV;rw[yhJ];simp⟩
theorem yiI (cs:List Nat):inV (.str (mid (ofL cs))) [.str "",.str "=",.str "+",.str "++",.str "-",.str "--"]=decide (yhl cs∈marksL):=ykn (mid (ofL cs)) marksL
def ym3:Sp:=λvs H Q _=>∃ cs,vs=[tV cs]/\cs.length<=600/\(ybD cs=none->∀ H',Same H H'->Q .non H')/\∀ h,ybD cs=some h->∀ a H',Same H H'->H a=none->H' a=some (.tup [tV h.mr,.int h.st,.int h.oc])->Q (.ref a) H'
theorem yrh:OF P w base T.RW 2 ym3:=by
 o_head (T.RW.F,sc_zaK)
 obtain⟨cs,rfl,hw,q0,q1⟩:=h
 refine⟨_,(yad (pst 1 sc_zaK.nd (pcm (ysd T) hr (yaa (pv 0) yab))) (yad (yaI (PW.pt (ybE (yap ycu (pv 1) yaK (yat _)) (ybp (yap ycj (xT (pv 1)) (ymE rfl T.Qz) rfl)))) (yag (yam yaK)) yau) (yag (yam (yaw (yaa (xT (pv 1)) (yaa (xT (pv 1)) (yaa (xT (pv 1)) yab)))))))),?_⟩
 left
 refine⟨_,.str,rfl,.str _,λz=>absurd rfl z,λw e=>?_⟩
 cases e
 refine⟨by rw[yaB];omega,λz=>?_,λa c z p hp=>?_⟩
 ·left
  refine⟨rfl,?_⟩
  left
  exact q0 (by unfold ybD;rw[z];rfl) H (Same.refl H)
 ·have s1:=yae hp (.tup [.int a,.str (mid (ofL cs)),.int c])
  have e1:upd H p (.tup [.int a,.str (mid (ofL cs)),.int c]) p=_:=yac
  generalize upd H p _=H1 at s1 e1 ⊢
  left
  refine⟨rfl,?_⟩
  left
  rw[decide_eq_false (by simp),if_neg (by simp)]
  left
  refine ybh 1 (SqT.of e1) ?_
  left
  refine⟨_,_,rfl,.inr (T.QA.sq _),rfl,rfl,?_⟩
  rw[yiI]
  left
  unfold ybD at q0 q1
  rw[z] at q0 q1
  have z0:yhl cs∉marksL->_:=λy=>q0 (if_neg y) _ s1
  have z1:yhl cs∈marksL->_:=λy=>q1 _ (if_pos y)
  by_cases y:yhl cs∈marksL
  ·rw[decide_eq_true y,if_neg (by simp)]
   left
   refine ybh 1 (SqT.of e1) ?_
   left
   refine ybh 0 (SqT.of e1) ?_
   left
   refine ybh 2 (SqT.of e1) ?_
   left
   refine ybA λp2 hp2=>?_
   refine z1 y p2 _ (s1.trans (yae hp2 _)) (yfc s1 hp2) ?_
   rw[yac]
   unfold tV yhl
   rw[ycL]
  ·rw[decide_eq_false y,if_pos (by simp)]
   left
   exact z0 y
open TX K2 K3
def yeg (ns:List Int):Bool:=(List.range (ns.length - 1)).all λi=>decide (ns.getD i 0 < ns.getD (i+1) 0)
theorem yq6 {a b D:Addr}{xs ys:List V}{te:TE}{Fin:Hp->Prop}{H:Hp}{o1 o2:Option V}(f:Nat->Bool)(ha:H a=some (.lst xs))(hb:H b=some (.lst ys))(hD:H D=none)(hz:xs.length<=900)
  (ht:∀ (i:Nat) (x y:V) (H':Hp) (Q:VK),xs[i]?=some x->ys[i]?=some y->Same H H'->(∀ H'',Same H' H''->Q (.bl (f i)) H'')->te [some x,some y] H' Q)
  (fin:∀ H',Same H H'->H' D=some (.lst (((List.range (min xs.length ys.length)).map f).map V.bl))->Fin H') :
  ∃ W:Nat->Nat->St->Hp->Prop,(∃ m,W 0 m [o1,o2] (upd H D (.lst [])))/\ydd (Itz K a b) (yn1 K 2 (yda (ybt 0) (yda (ybt 1) ynm))) ygl te D Fin W:=by
 refine yhV (xs:=xs) (ys:=ys) (λi σ H'=>(∃ o1 o2,σ=[o1,o2])/\Same H H'/\(i<=xs.length/\i<=ys.length)/\H' D=some (.lst (((List.range i).map f).map V.bl))) ⟨⟨_,_,rfl⟩,yae hD _,⟨Nat.zero_le _,Nat.zero_le _⟩,yac⟩ (λi σ H' h=>⟨SqL.of (h.2.1 _ _ ha),SqL.of (h.2.1 _ _ hb)⟩) ?_ ?_
 ·rintro i u v σ H' c hx hy ⟨⟨o1,o2,rfl⟩,sj,hi,hF'⟩ hc
  have s3:=yae hc (.tup [u,v])
  have l1:=(qE hx).1
  have l2:=(qE hy).1
  refine ypk (SqT.of yac) (yc3 (i_T ?_))
  refine ht i u v _ _ hx hy (sj.trans s3) λH4 s4=>⟨_,s4 _ _ (s3 _ _ hF'),?_,⟨_,_,rfl⟩,ybn hD ((sj.trans s3).trans s4),⟨l1,l2⟩,?_⟩
  ·rw[qM,qM,List.length_range]
   exact yaD (by omega)
  ·rw[yac,List.range_succ,qP,qP]
   rfl
 ·rintro i σ H' hi ⟨⟨o1,o2,rfl⟩,sj,hj,hF'⟩
  refine fin _ sj ?_
  rw[show min xs.length ys.length=i by omega]
  exact hF'
theorem ynT {H:Hp}{D:Addr}{bs:List Bool}{Q:VK}(h:H D=some (.lst (bs.map V.bl)))(q:Q (.bl (bs.all id)) H):yta K [.ref D] H Q:=⟨D,bs,rfl,SqL.of h,q⟩
def ysn:Sp:=λvs H Q _=>∃ (a:Addr) (ns:List Int),vs=[.ref a]/\H a=some (.lst (ns.map V.int))/\ns.length<=700/\∀ H',Same H H'->Q (.bl (yeg ns)) H'
theorem yr4:OF P w base T.RG 1 ysn:=by
 o_head (T.RG.F,yr6)
 obtain⟨a,ns,rfl,ea,le,q⟩:=h
 have hu:=yhO hr
 refine⟨_,(yag (yam (yar (ydn rfl) rfl T.Qe ydo (yaa (ybo (yaR (NB:=["one","other"]) (cap:=[none,none]) rfl) rfl (yso rfl T.Qx (yaa (pv 0) (yaa (yaW ypJ (pv 0) (yaX yah) ybB) yab))) (λ_ _ _ _=>by exact(show PG _ _ (yn1 K 2 (yda (ybt 0) (yda (ybt 1) ynm))) from ygm (n:=2) rfl (ybH (ydy (i:=0) (show List.Nodup (["one","other"]:List Str) by decide) rfl (Or.inl rfl)) (ybH (ydy (i:=1) (show List.Nodup (["one","other"]:List Str) by decide) rfl (Or.inl rfl)) yem)))) (λ_ _ _ _=>yaZ) (λ_ _ _ _=>(yaS yfO (pv 0) (pv 1) (yat _)))) yab)))),?_⟩
 left
 refine⟨_,rfl,_,rfl,1,rfl,a,_,rfl,SqL.of ea,λp hp=>?_⟩
 have s1:=yae hp (.lst (yjy (ns.map V.int) (some 1) none))
 have ec:yjy (ns.map V.int) (some 1) none=(ns.drop 1).map V.int:=by
  cases ns with
  | nil=>rfl
  | cons n r=>rw[List.map_drop];exact yil _ 1 (by simp)
 rw[ec] at s1 ⊢
 refine⟨a,p,rfl,⟨_,SqL.of (s1 _ _ ea)⟩,⟨_,SqL.of yac⟩,λD hD=>yq6 (λi=>decide (ns.getD i 0 < ns.getD (i+1) 0)) (s1 _ _ ea) yac hD (by rw[qM];omega) (λi x y H' Q' hx hy sm q'=>?_) λH' s2 hd=>?_⟩
 ·rw[qm] at hx hy
  rw[List.getElem?_drop,Nat.add_comm] at hy
  cases ex:ns[i]? with
  | none=>rw[ex] at hx;cases hx
  | some u =>
   cases ey:ns[i+1]? with
   | none=>rw[ey] at hy;cases hy
   | some v =>
    rw[ex] at hx
    rw[ey] at hy
    cases hx
    cases hy
    left
    have:=q' _ (Same.refl _)
    rw[List.getD_eq_getElem?_getD,List.getD_eq_getElem?_getD,ex,ey] at this
    exact this
 ·refine ynT hd ?_
  have:=q _ (s1.trans s2)
  unfold yeg at this
  rw[List.all_map,qM,qM,List.length_drop,show min ns.length (ns.length - 1)=ns.length - 1 by omega]
  exact this
open TX K2 K3
def OHd (H:Hp)(x:V)(o:Option Hd):Prop:=(o=none/\x=.non)∨∃ h,o=some h/\Is H x (hdT h)
theorem ygn:yoC OHd:=λs h=>h.imp id λ⟨z,e,i⟩=>⟨z,e,i.same s⟩
noncomputable def ybk (cs:List Nat):Option (List Hd):=if 4 < (yan 44 cs).length then none else if ((yan 44 cs).map ybD).any Option.isNone=true then none else
 if yeg ((((yan 44 cs).map ybD).filterMap id).map yci)=true then some (((yan 44 cs).map ybD).filterMap id) else none
noncomputable def hsT (hs:List Hd):Th:=.ls (hs.map hdT)
def yf1:Sp:=λvs H Q _=>∃ cs,vs=[tV cs]/\cs.length<=90/\(ybk cs=none->∀ H',Same H H'->Q .non H')/\∀ hs,ybk cs=some hs->∀ x H',Same H H'->Is H' x (hsT hs)->Q x H'
theorem yhu {α:Type}:∀ {os:List (Option α)},os.any Option.isNone=false->os=(os.filterMap id).map some
 | [],_=>rfl
 | none :: os,h=>by rw[List.any_cons] at h;exact absurd h (by simp)
 | some a :: os,h=>by
  rw[List.any_cons] at h
  have ih:=yhu (os:=os) (by simpa using h)
  rw[List.filterMap_cons_some (show id (some a)=some a from rfl),List.map_cons,← ih]
theorem yot {H:Hp}{ys:List V}{hs:List Hd}(h:Al (OHd H) ys (hs.map some)):Al (λx h=>Is H x (hdT h)) ys hs:=⟨by rw[h.1,qM],λi hi=>by
 obtain⟨x,e,o⟩:=h.2 i (by rw[qM];exact hi)
 rw[List.getElem_map] at o
 rcases o with ⟨z,_⟩ | ⟨k,z,i⟩
 ·cases z
 ·cases z;exact⟨x,e,i⟩⟩
theorem yre {H:Hp}{ys:List V}{os:List (Option Hd)}(h:Al (OHd H) ys os):ys.any isNone=os.any Option.isNone:=by
 have key:∀ (ys:List V) (os:List (Option Hd)),Al (OHd H) ys os->ys.any isNone=os.any Option.isNone:=by
  intro ys
  induction ys with
  | nil=>intro os h;rw[List.length_eq_zero_iff.mp h.1.symm];rfl
  | cons y ys ih =>
   intro os h
   match os,h with
   | [],h=>exact absurd h.1 (by simp)
   | o :: os,h =>
    have h0:=h.2 0 (by simp)
    obtain⟨x,e,z⟩:=h0
    cases e
    rw[List.any_cons,List.any_cons,ih os ⟨by have:=h.1;simpa using this,λi hi=>h.2 (i+1) (by simpa using hi)⟩]
    rcases z with ⟨z,rfl⟩ | ⟨k,z,i⟩
    ·rw[show o=none from z];rfl
    ·rw[show o=some k from z]
     obtain⟨p,rfl,_⟩:=Is.three i
     rfl
 exact key ys os h
theorem yqZ {H:Hp}{ys:List V}{os:List (Option Hd)}(h:Al (OHd H) ys os):∀ y∈ys,∃ o,OHd H y o:=λy hy=>by
 obtain⟨i,hi,rfl⟩:=List.getElem_of_mem hy
 obtain⟨x,e,o⟩:=h.2 i (by rw[← h.1];exact hi)
 rw[qG hi] at e
 cases e
 exact⟨_,o⟩
theorem yr5:OF P w base T.RB 3 yf1:=by
 o_head (T.RB.F,sc_zax)
 obtain⟨cs,rfl,hw,q0,q1⟩:=h
 refine⟨_,(yad (yb8 (i:=1) sc_zax.nd rfl (Or.inl rfl) (yaR (NB:=["word"]) (cap:=[none]) rfl) rfl (ycf (yb0 (pv 0) (yaa yaf yab))) (λ_ _ _ _=>pgb 0) (λ_ _ _ _=>yaZ) (λ_ _ _ _=>(pcm (yrh T) hr (yaa (pv 0) yab)))) (yad (yaI (PW.pt (ybE (yap yiQ (yar yaL rfl T.Jc PySem.boot_len (yaa (pv 1) yab)) (yfo rfl T.Qc) (yat _)) (ybE (yap (yr1 hu) yaK (pv 1) rfl) (ybp (ybf (yaG (pcm (yr4 T) hr (yaa (ybo (yaR (NB:=["head"]) (cap:=[none]) rfl) rfl (ycf (pv 1)) (λ_ _ _ _=>pgb 0) (λ_ _ _ _=>yaZ) (λ_ _ _ _=>(pcm (ypY T) hr (yaa (pv 0) yab)))) yab)))))))) (yag (yam yaK)) yau) (yag (yam (pv 1))))),?_⟩
 left
 refine⟨rfl,?_⟩
 left
 have ln:=ybK 44 cs
 have lw:=ybR 44 cs
 refine⟨_,_,rfl,rfl,by ac_rfl,by rw[yaB];exact ybI (by omega),λp hp=>?_⟩
 have es:(Txt.split (ofL cs) (Str.ofString ",")).map V.str=(yan 44 cs).map tV:=by
  rw[show Str.ofString ","=one 44 by ac_rfl,ydZ _ (by decide),yax,List.map_map]
  rfl
 rw[es]
 have s1:=yae hp (.lst ((yan 44 cs).map tV))
 have e1:upd H p (.lst ((yan 44 cs).map tV)) p=_:=yac
 generalize upd H p _=H1 at s1 e1 ⊢
 refine⟨p,rfl,⟨_,SqL.of e1⟩,λD hD=>ypf (R:=λ_ x u=>x=tV u) (S:=OHd) (λ_ h=>h) ygn ybD (Same.refl H1) e1 (yrv _) hD (by omega) ?_ ?_⟩
 ·rintro x u H2 Hs2 Q2 hm t1 t2 t3 rfl k
  left
  have:=lw u hm
  refine⟨u,rfl,by omega,λz H3 s3=>k _ _ s3 (.inl ⟨z,rfl⟩),λh z a H3 s3 ha e3=>k _ _ s3 (.inr ⟨h,z,?_⟩)⟩
  exact ypn (by rw[ybx ha];exact e3)
 ·rintro ys H2 s2 hd al
  left
  have up:Same (nw H1 H1 (rm H2 D)) H2:=λc u e=>by
   cases z:H1 c with
   | none=>rw[ybx z] at e;exact(yb6 e).2
   | some v=>rw[ycM z] at e;exact s2 _ _ e
  have al2:Al (OHd H2) ys ((yan 44 cs).map ybD):=al.imp λx u _ z=>ygn up z
  have ly:ys.length=(yan 44 cs).length:=by rw[al.1,qM]
  refine⟨D,ys,rfl,.inl (SqL.of hd),?_⟩
  left
  refine i_d (λh=>?_) λh=>?_
  ·left
   exact q0 (by unfold ybk;rw[if_pos (by omega)]) _ (s1.trans s2)
  ·left
   refine⟨D,ys,rfl,rfl,SqL.of hd,λz hz=>?_,?_⟩
   ·obtain⟨o,oz⟩:=yqZ al2 z hz
    rcases oz with ⟨_,rfl⟩ | ⟨hh,_,iz⟩
    ·exact .inl rfl
    ·obtain⟨a,rfl,_⟩:=Is.three iz
     exact .inr ⟨a,_,rfl,Is.rep rfl iz,(show dpT (hdT hh)<=60 from ysi (k:=59) (yhR yiY (yhR yiY (yhR yiY yp4)))),rfl⟩
   ·rw[yre al2]
    unfold ybk at q0 q1
    rw[if_neg (by omega)] at q0 q1
    cases an:((yan 44 cs).map ybD).any Option.isNone with
    | true =>
     rw[an] at q0
     left
     exact q0 rfl _ (s1.trans s2)
    | false =>
     rw[an] at q0 q1
     left
     have eo:=yhu an
     generalize ((yan 44 cs).map ybD).filterMap id=hs at *
     rw[eo] at al2
     have al3:=yot al2
     have lh:hs.length<=91:=by rw[← al3.1];omega
     refine⟨D,rfl,⟨_,SqL.of hd⟩,λD2 hD2=>ycZ (R:=λx h=>Is H2 x (hdT h)) (λh=>V.int (yci h)) hd al3 hD2 (by omega) ?_ ?_⟩
     ·rintro x u H3 Q3 hm s3 rx k
      left
      exact⟨x,u,rfl,rx.same s3,k _ (Same.refl _)⟩
     ·rintro H3 s3 hd3
      left
      refine⟨D2,hs.map yci,rfl,by rw[List.map_map];exact hd3,by rw[qM];omega,λH4 s4=>⟨_,rfl,?_⟩⟩
      have s5:=(s1.trans s2).trans (s3.trans s4)
      cases rz:yeg (hs.map yci) with
      | false =>
       rw[rz] at q0
       left
       exact q0 rfl _ s5
      | true =>
       rw[rz] at q1
       left
       rw[if_neg (by simp)]
       left
       refine q1 _ rfl _ _ s5 ?_
       exact yeG (s4 _ _ (s3 _ _ hd)) ((yqY al3).same (s3.trans s4))
open TX K2 K3
inductive ypC where
 | be | en | cl | fi | ba
inductive Tl where
 | note (hs:List Hd) (p:Pc) (ti be:Bool) (wd:List Nat) (op cl:Bool)
 | pause (p:Pc)
 | whole (n:Int)
 | key (k:Int)
 | metre (a b:Int) (gs:List Int)
 | ending (n:Int)
 | bare (i:ypC)
inductive SK where
 | n | p | w | k | m | e
 | b (i:ypC)
noncomputable def yc8:Tl->SK
 | .note ..=>.n
 | .pause _=>.p
 | .whole _=>.w
 | .key _=>.k
 | .metre ..=>.m
 | .ending _=>.e
 | .bare i=>.b i
noncomputable def txt (s:String):List Nat:=(Str.ofString s).cps.toList
def yoz:ypC->List Nat
 | .be=>txt "begin"
 | .en=>txt "end"
 | .cl=>txt "close"
 | .fi=>txt "fine"
 | .ba=>txt "back"
def ys2:ypC->List Nat
 | .be=>txt "|:"
 | .en=>txt ":|"
 | .cl=>txt "]"
 | .fi=>txt "fine"
 | .ba=>txt "back"
noncomputable def mtT (a b:Int)(gs:List Int):Th:=.tp [nT a,nT b,.tp (gs.map nT)]
noncomputable def tlT:Tl->Th
 | .note hs p ti be wd op cl=>.tp [sT (txt "note"),hsT hs,pcT p,bT ti,bT be,sT wd,bT op,bT cl]
 | .pause p=>.tp [sT (txt "pause"),pcT p]
 | .whole n=>.tp [sT (txt "whole"),nT n]
 | .key k=>.tp [sT (txt "key"),nT k]
 | .metre a b gs=>.tp [sT (txt "metre"),mtT a b gs]
 | .ending n=>.tp [sT (txt "ending"),nT n]
 | .bare i=>.tp [sT (yoz i)]
noncomputable def gC (t:Ad):SK->Addr
 | .n=>t.Ul
 | .p=>t.Um
 | .w=>t.Uo
 | .k=>t.Uq
 | .m=>t.Ur
 | .e=>t.Uu
 | .b .be=>t.Us
 | .b .en=>t.Ut
 | .b .cl=>t.Uv
 | .b .fi=>t.Uw
 | .b .ba=>t.Ux
theorem ycS (T:Txt K mg t):∀ i,Cls K (gC t i)
 | .n=>T.Jb
 | .p=>T.Jz
 | .w=>T.JE
 | .k=>T.Ju
 | .m=>T.Jp
 | .e=>T.Jy
 | .b .be=>T.QD
 | .b .en=>T.QW
 | .b .cl=>T.QF
 | .b .fi=>T.QL
 | .b .ba=>T.QN
noncomputable def nFs (l:Addr)(z:V)(ti be:Bool)(wd:List Nat)(op cl:Bool):List (Str×V):=[("heads",.ref l),("piece",z),("is_tied",.bl ti),("is_beamed",.bl be),("word",tV wd),("opens",.bl op),("closes",.bl cl)]
def Fs (H:Hp)(fs:List (Str×V)):Tl->Prop
 | .note hs p ti be wd op cl=>∃ l z,fs=nFs l z ti be wd op cl/\Is H (.ref l) (hsT hs)/\Is H z (pcT p)
 | .pause p=>∃ z:V,fs=[(("piece" : Str),z)]/\Is H z (pcT p)
 | .whole n=>∃ z:V,fs=[(("length" : Str),z)]/\Is H z (nT n)
 | .key k=>∃ z:V,fs=[(("key" : Str),z)]/\Is H z (nT k)
 | .metre a b gs=>∃ z:V,fs=[(("metre" : Str),z)]/\Is H z (mtT a b gs)
 | .ending n=>∃ z:V,fs=[(("number" : Str),z)]/\Is H z (nT n)
 | .bare _=>fs=[]
def Sg (t:Ad)(H:Hp)(x:V)(tl:Tl):Prop:=∃ a dx fs,x=.ref a/\H a=some (.ins (gC t (yc8 tl)) dx fs)/\Fs H fs tl
theorem Fs.same {H H':Hp}{fs:List (Str×V)}{tl:Tl}(s:Same H H')(h:Fs H fs tl):Fs H' fs tl:=by
 cases tl with
 | note hs p ti be wd op cl=>obtain⟨l,z,e,i1,i2⟩:=h;exact⟨l,z,e,i1.same s,i2.same s⟩
 | bare i=>exact h
 | pause p=>obtain⟨z,e,i⟩:=h;exact⟨z,e,i.same s⟩
 | whole p=>obtain⟨z,e,i⟩:=h;exact⟨z,e,i.same s⟩
 | key p=>obtain⟨z,e,i⟩:=h;exact⟨z,e,i.same s⟩
 | metre a b gs=>obtain⟨z,e,i⟩:=h;exact⟨z,e,i.same s⟩
 | ending p=>obtain⟨z,e,i⟩:=h;exact⟨z,e,i.same s⟩
theorem Sg.same {H H':Hp}{x:V}{tl:Tl}(s:Same H H')(h:Sg t H x tl):Sg t H' x tl:=by
 obtain⟨a,dx,fs,e,ea,f⟩:=h
 exact⟨a,dx,fs,e,s _ _ ea,f.same s⟩
theorem ydw {H:Hp}{a:Addr}{o o':HO}:upd (upd H a o) a o'=upd H a o':=by
 funext b
 by_cases e:b=a
 ·rw[e,yac,yac]
 ·rw[yas e,yas e,yas e]
def yoE (t:Ad):Sp:=λvs H Q _=>∃ (a dx l:Addr) (xs:List V) (z:V) (ti be:Bool) (wd:List Nat) (op cl:Bool),vs=[.ref a,.ref l,z,.bl ti,.bl be,tV wd,.bl op,.bl cl]/\H a=some (.ins t.Ul dx [])/\H l=some (.lst xs) /\
 ∀ l',H l'=none->Q .non (upd (upd H l' (.lst xs)) a (.ins t.Ul dx (nFs l' z ti be wd op cl)))
theorem yrZ:ON P w mg base T.zq 1 (yoE t):=by
 refine T.zq.F.ok ytz (λvs H Q E h=>?_) (λ_ _ _ s H vs Q E hr h=>?_)
 ·obtain⟨_,_,_,_,_,_,_,_,_,_,rfl,_⟩:=h;rfl
 have hu:=yhO hr
 obtain⟨a,dx,l,xs,z,ti,be,wd,op,cl,rfl,ea,el,q⟩:=h
 refine⟨_,(yad (ycC (pv 0) (yaC ycI rfl T.Jl ybd (yaa (pv 1) yab)) rfl) (yad (ycC (pv 0) (pv 2) rfl) (yad (ycC (pv 0) (pv 3) rfl) (yad (ycC (pv 0) (pv 4) rfl) (yad (ycC (pv 0) (pv 5) rfl) (yad (ycC (pv 0) (pv 6) rfl) (yag (ycC (pv 0) (pv 7) rfl)))))))),?_⟩
 left
 refine⟨l,xs,rfl,.inl (SqL.of el),λl' hl'=>?_⟩
 have n1:a≠l':=yak ea hl'
 have ea1:upd H l' (.lst xs) a=some (.ins t.Ul dx []):=by rw[yas n1];exact ea
 have fin:=q l' hl'
 generalize upd H l' (.lst xs)=H1 at ea1 fin ⊢
 refine yj6 rfl ⟨a,_,dx,_,rfl,ea1,T.Jb,T.Js,by decide,?_⟩
 left
 refine⟨a,_,dx,_,rfl,yac,T.Jb,T.Ji,by show 1 < 1000;decide,?_⟩
 left
 refine⟨a,_,dx,_,rfl,yac,T.Jb,T.Jj,by show 2 < 1000;decide,?_⟩
 left
 refine⟨a,_,dx,_,rfl,yac,T.Jb,T.Je,by show 3 < 1000;decide,?_⟩
 left
 refine⟨a,_,dx,_,rfl,yac,T.Jb,T.Jo,by show 4 < 1000;decide,?_⟩
 left
 refine⟨a,_,dx,_,rfl,yac,T.Jb,T.Jt,by show 5 < 1000;decide,?_⟩
 left
 refine⟨a,_,dx,_,rfl,yac,T.Jb,T.Jm,by show 6 < 1000;decide,?_⟩
 show Q .non _
 rw[ydw,ydw,ydw,ydw,ydw,ydw]
 exact fin
def ygD (C:Addr)(f:Str):Sp:=λvs H Q _=>∃ (a dx:Addr) (z:V),vs=[.ref a,z]/\H a=some (.ins C dx [])/\Q .non (upd H a (.ins C dx [(f,z)]))
theorem yrY:ON P w mg base T.zm 1 (ygD t.Um "piece"):=by
 o_head (T.zm.F,ytW)
 obtain⟨a,dx,z,rfl,ea,q⟩:=h
 refine⟨_,(yag (ycC (pv 0) (pv 1) rfl)),?_⟩
 left
 exact⟨a,_,dx,_,rfl,ea,T.Jz,T.Jf,by decide,q⟩
theorem yrf:ON P w mg base T.zo 1 (ygD t.Uo "length"):=by
 o_head (T.zo.F,yut)
 obtain⟨a,dx,z,rfl,ea,q⟩:=h
 refine⟨_,(yag (ycC (pv 0) (pv 1) rfl)),?_⟩
 left
 exact⟨a,_,dx,_,rfl,ea,T.JE,T.Jk,by decide,q⟩
theorem yrx:ON P w mg base T.zd 1 (ygD t.Uq "key"):=by
 o_head (T.zd.F,ytN)
 obtain⟨a,dx,z,rfl,ea,q⟩:=h
 refine⟨_,(yag (ycC (pv 0) (pv 1) rfl)),?_⟩
 left
 exact⟨a,_,dx,_,rfl,ea,T.Ju,T.Jn,by decide,q⟩
theorem yq9:ON P w mg base T.zb 1 (ygD t.Ur "metre"):=by
 o_head (T.zb.F,yuJ)
 obtain⟨a,dx,z,rfl,ea,q⟩:=h
 refine⟨_,(yag (ycC (pv 0) (pv 1) rfl)),?_⟩
 left
 exact⟨a,_,dx,_,rfl,ea,T.Jp,T.Jd,by decide,q⟩
theorem yoQ:ON P w mg base T.zj 1 (ygD t.Uu "number"):=by
 o_head (T.zj.F,yuk)
 obtain⟨a,dx,z,rfl,ea,q⟩:=h
 refine⟨_,(yag (ycC (pv 0) (pv 1) rfl)),?_⟩
 left
 exact⟨a,_,dx,_,rfl,ea,T.Jy,T.Jg,by decide,q⟩
def ymm:V->Knd
 | .non=>.non
 | .bl _=>.bl
 | .int _=>.int
 | _=>.str
theorem yf2 {H:Hp}{v:V}(h:imV v=true):KndOf H v (ymm v):=by
 cases v with
 | non=>exact .non
 | bl b=>exact .bl b
 | int i=>exact .int i
 | str x=>exact .str x
 | _=>cases h
theorem yhh {v:V}(h:imV v=true):ymm v≠.tup/\ymm v≠.lst/\ymm v≠.dct:=by
 cases v<;>first | exact⟨nofun,nofun,nofun⟩ | cases h
def yvB:Sp:=λvs H Q _=>∃ x,vs=[x]/\imV x=true/\∀ H',Same H H'->Q .non H'
theorem yfI:OF P w base T.zI 1 yvB:=by
 have G_zI:FnOk P w K mg base CX0 0 t.f_zI t.d_zI ["_law_told_here"] yhQ:=never
 refine T.zI.F.ok sc_zI (λvs H Q E h=>?_) (λ_ _ _ s H vs Q E hr h=>?_)
 ·obtain⟨x,rfl,_⟩:=h;rfl
 obtain⟨x,rfl,im,q⟩:=h
 have hu:=yhO hr
 refine⟨_,(yad (yaI (yaG (yar ycs rfl T.Ja yal (yaa (pv 0) (yaa (yaw (yaa (ybG rfl T.Jh ybg) (yaa (ybG rfl T.Jl ybd) yab))) yab)))) (yag (ycd PassesOwn.never rfl (ydK (pv 0)) (pgs 1 sc_zI.nd) (yag (ych (pcl G_zI hr T.zI (yaa (pv 1) yab)))))) yau) (yag (yaI (yaG (yar ya0 rfl T.Ja yal (yaa (pv 0) (yaa (ybG rfl T.Jl ybd) yab)))) (yag (ych (yb9 (pv 0) (yaa yaf yab)))) yau))),?_⟩
 walk_at "rd"
 have pl:=yhh im
 refine⟨by decide,λp hp=>⟨yac,ymm x,yf2 im,pl.2.2,?_⟩⟩
 rw[if_neg (λz=>z.elim pl.1 pl.2.1)]
 refine⟨ymm x,yf2 im,?_⟩
 rw[if_neg pl.2.1]
 exact q _ (yae hp _)
def yn8 (sp:Sp):Sp:=λvs H Q _=>∃ (a:Addr) (xs:List V) (J:Nat->Hp->Prop),vs=[.ref a]/\H a=some (.tup xs)/\(∀ H',Same H H'->J 0 H')/\(∀ i H',J i H'->H' a=some (.tup xs))/\(∀ i x H' (Q':VK),xs[i]?=some x->J i H'->(∀ v H'',J (i+1) H''->Q' v H'')->sp [x] H' Q' E0)/\∀ H',J xs.length H'->Q .non H'
theorem yft {j:Nat}{sp:Sp}(T:Txt K mg t)(G_zI:FnOk P w K mg base CX0 j t.f_zI t.d_zI ["_law_told_here"] sp):FnOk P w K mg base CX0 (j+1) t.f_zI t.d_zI ["_law_told_here"] (yn8 sp):=by
 refine T.zI.F.ok sc_zI (λvs H Q E h=>?_) (λ_ _ _ s H vs Q E hr h=>?_)
 ·obtain⟨a,xs,J,rfl,_⟩:=h;rfl
 obtain⟨a,xs,J,rfl,ha,j0,jt,js,q⟩:=h
 have hu:=yhO hr
 refine⟨_,(yad (yaI (yaG (yar ycs rfl T.Ja yal (yaa (pv 0) (yaa (yaw (yaa (ybG rfl T.Jh ybg) (yaa (ybG rfl T.Jl ybd) yab))) yab)))) (yag (ycd PassesOwn.never rfl (ydK (pv 0)) (pgs 1 sc_zI.nd) (yag (ych (pcl G_zI hr T.zI (yaa (pv 1) yab)))))) yau) (yag (yaI (yaG (yar ya0 rfl T.Ja yal (yaa (pv 0) (yaa (ybG rfl T.Jl ybd) yab)))) (yag (ych (yb9 (pv 0) (yaa yaf yab)))) yau))),?_⟩
 walk_at "rd"
 refine⟨by decide,λp hp=>⟨yac,.tup,.tup (yae hp _ _ _ ha),nofun,?_⟩⟩
 rw[if_pos (.inl rfl)]
 refine⟨_,rfl,a,rfl,⟨_,SqT.of (yae hp _ _ _ ha)⟩,ye8 (xs:=xs) (λi σ H'=>(∃ o,σ=[some (.ref a),o])/\J i H') ⟨⟨_,rfl⟩,j0 _ (yae hp _)⟩ (λi σ H' _ h=>SqT.of (jt i H' h.2)) ?_ ?_⟩
 ·rintro i x σ H' hx ⟨⟨o,rfl⟩,ji⟩
  walk_at "rd"
  exact js i x H' _ hx ji λv H'' j'=>⟨⟨_,rfl⟩,j'⟩
 ·rintro σ H' ⟨⟨o,rfl⟩,ji⟩
  walk_at "rd"
  refine⟨.tup,.tup (jt _ _ ji),?_⟩
  rw[if_neg nofun]
  exact q _ ji
def yoi (sp:Sp):Sp:=λvs H Q _=>∃ (a:Addr) (xs:List V) (J:Nat->Hp->Prop),vs=[.ref a]/\H a=some (.lst xs)/\(∀ H',Same H H'->J 0 H')/\(∀ i H',J i H'->H' a=some (.lst xs))/\(∀ i x H' (Q':VK),xs[i]?=some x->J i H'->(∀ v H'',J (i+1) H''->Q' v H'')->sp [x] H' Q' E0)/\xs.length<=900/\∀ H',J xs.length H'->Q .non (upd H' a (.lst (xs++[.str "more"])))
theorem ymp {j:Nat}{sp:Sp}(T:Txt K mg t)(G_zI:FnOk P w K mg base CX0 j t.f_zI t.d_zI ["_law_told_here"] sp):FnOk P w K mg base CX0 (j+1) t.f_zI t.d_zI ["_law_told_here"] (yoi sp):=by
 refine T.zI.F.ok sc_zI (λvs H Q E h=>?_) (λ_ _ _ s H vs Q E hr h=>?_)
 ·obtain⟨a,xs,J,rfl,_⟩:=h;rfl
 obtain⟨a,xs,J,rfl,ha,j0,jt,js,l9,q⟩:=h
 have hu:=yhO hr
 refine⟨_,(yad (yaI (yaG (yar ycs rfl T.Ja yal (yaa (pv 0) (yaa (yaw (yaa (ybG rfl T.Jh ybg) (yaa (ybG rfl T.Jl ybd) yab))) yab)))) (yag (ycd PassesOwn.never rfl (ycf (pv 0)) (pgs 1 sc_zI.nd) (yag (ych (pcl G_zI hr T.zI (yaa (pv 1) yab)))))) yau) (yag (yaI (yaG (yar ya0 rfl T.Ja yal (yaa (pv 0) (yaa (ybG rfl T.Jl ybd) yab)))) (yag (ych (yb9 (pv 0) (yaa yaf yab)))) yau))),?_⟩
 walk_at "rd"
 refine⟨by decide,λp hp=>⟨yac,.lst,.lst (yae hp _ _ _ ha),nofun,?_⟩⟩
 rw[if_pos (.inr rfl)]
 refine⟨_,rfl,a,rfl,⟨_,SqL.of (yae hp _ _ _ ha)⟩,yiN (xs:=xs) (λi σ H'=>(∃ o,σ=[some (.ref a),o])/\J i H') ⟨⟨_,rfl⟩,j0 _ (yae hp _)⟩ (λi σ H' _ h=>SqL.of (jt i H' h.2)) ?_ ?_⟩
 ·rintro i x σ H' hx ⟨⟨o,rfl⟩,ji⟩
  walk_at "rd"
  exact js i x H' _ hx ji λv H'' j'=>⟨⟨_,rfl⟩,j'⟩
 ·rintro σ H' ⟨⟨o,rfl⟩,ji⟩
  walk_at "rd"
  refine⟨.lst,.lst (jt _ _ ji),?_⟩
  rw[if_pos rfl]
  exact⟨.inl ⟨rfl,_,SqL.of (jt _ _ ji)⟩,xs,jt _ _ ji,yaD (by omega),q _ ji⟩
def yuN (sp sp':Sp):Sp:=λvs H Q E=>sp vs H Q E∨sp' vs H Q E
theorem ymn {j:Nat}{f:Addr}{fd:FuncData}{qs:List Str}{sp sp':Sp}(a:FnOk P w K mg base CX0 j f fd qs sp)(b:FnOk P w K mg base CX0 j f fd qs sp'):FnOk P w K mg base CX0 j f fd qs (yuN sp sp') :=
 ⟨λvs H Q E h=>h.elim (a.len vs H Q E) (b.len vs H Q E),λA outer s H args us vs Q E hr he hb hv h=>h.elim (a.run A outer s H args us vs Q E hr he hb hv) (b.run A outer s H args us vs Q E hr he hb hv)⟩
def Pl (H:Hp)(z:V):Prop:=imV z=true∨∃ b xs,z=.ref b/\H b=some (.tup xs)/\∀ y∈xs,imV y=true
theorem Pl.same {H H':Hp}{z:V}(s:∀ b xs,H b=some (.tup xs)->H' b=some (.tup xs))(h:Pl H z):Pl H' z :=
 h.imp (λh=>h) λ⟨b,xs,e,x,i⟩=>⟨b,xs,e,s _ _ x,i⟩
def yvo:Sp:=λvs H Q _=>∃ z,vs=[z]/\Pl H z/\∀ H',Same H H'->Q .non H'
theorem ymT:OF P w base T.zI 2 yvo:=by
 have g0:=yfI (P:=P) (w:=w) (base:=base) T
 refine(ymn (g0.mono (by decide)) (yft T g0)).imp λvs H Q E h=>?_
 obtain⟨z,rfl,pl,q⟩:=h
 rcases pl with im | ⟨b,xs,rfl,e,im⟩
 ·exact .inl ⟨z,rfl,im,q⟩
 ·exact .inr ⟨b,xs,λ_ H'=>Same H H',rfl,e,λH' s=>s,λ_ H' s=>s _ _ e,λi x H' Q' hx s k=>⟨x,rfl,im x (List.mem_of_getElem? hx),λH'' s'=>k _ _ (s.trans s')⟩,λH' s=>q H' s⟩
def ysH:Sp:=λvs H Q _=>∃ (l:Addr) (zs:List V),vs=[.ref l]/\H l=some (.lst zs)/\zs.length<=800/\(∀ z∈zs,Pl H z)/\∀ H',SameT l H H'->H' l=some (.lst (zs++[.str "more"]))->Q .non H'
theorem yjW:OF P w base T.zI 3 ysH:=by
 refine(ymp T (ymT (P:=P) (w:=w) (base:=base) T)).imp λvs H Q E h=>?_
 obtain⟨l,zs,rfl,e,len,pl,q⟩:=h
 refine⟨l,zs,λ_ H'=>Same H H',rfl,e,λH' s=>s,λ_ H' s=>s _ _ e,λi x H' Q' hx s k=>⟨x,rfl,(pl x (List.mem_of_getElem? hx)).same λb xs y=>s _ _ y,λH'' s'=>k _ _ (s.trans s')⟩,by omega,λH' s=>q _ (ye0 (Same.t s)) yac⟩
def AlR (sp:Sp)(tr:Th):Prop:=(∃ v,tr=.im v)∨∃ ts,(tr=.ls ts∨tr=.tp ts)/\ts.length<=500/\∀ u∈ts,∀ (x y:V) (H:Hp) (Q:VK),Is H x u->Is H y u->(∀ H',Same H H'->Q (.bl true) H')->sp [x,y] H Q E0
def yq1 (sp:Sp):Sp:=λvs H Q _=>∃ x y tr,vs=[x,y]/\AlR sp tr/\Is H x tr/\Is H y tr/\∀ H',Same H H'->Q (.bl true) H'
theorem ykb (n:Nat):(List.replicate n true).all id=true:=by simp
theorem yiH {j:Nat}{sp:Sp}(T:Txt K mg t)(G_zah:FnOk P w K mg base CX0 j t.f_zah t.d_zah ["_law_found","_law_due"] sp):FnOk P w K mg base CX0 (j+1) t.f_zah t.d_zah ["_law_found","_law_due"] (yq1 sp):=by
 refine T.RC.F.ok ysF (λvs H Q E h=>?_) (λ_ _ _ s H vs Q E hr h=>?_)
 ·obtain⟨x,y,tr,rfl,_⟩:=h;rfl
 obtain⟨x,y,tr,rfl,al,ix,iy,q⟩:=h
 have hu:=yhO hr
 refine⟨_,(yad (yaI (yaG (yar ycs rfl T.Ja yal (yaa (pv 1) (yaa (yaw (yaa (ybG rfl T.Jh ybg) (yaa (ybG rfl T.Jl ybd) yab))) yab)))) (yad (yaI (PW.pt (ybE (yap yeI (yar ya0 rfl T.Ja yal (yaa (pv 0) (yaa (ybG rfl T.Jl ybd) yab))) (yar ya0 rfl T.Ja yal (yaa (pv 1) (yaa (ybG rfl T.Jl ybd) yab))) (yat _)) (ybp (ybf (yaG (yar ycs rfl T.Ja yal (yaa (pv 0) (yaa (yaw (yaa (ybG rfl T.Jh ybg) (yaa (ybG rfl T.Jl ybd) yab))) yab)))))))) (yag (yam ycK)) yau) (yag (yam (ycQ (yaS ya2 (yar yh7 rfl T.Jc PySem.boot_len (yaa (pv 0) yab)) (yar yh7 rfl T.Jc PySem.boot_len (yaa (pv 1) yab)) (yat _)) (ycD (yar (ydn rfl) rfl T.Qe ydo (yaa (ybo (yaR (NB:=["_law_one","_law_other"]) (cap:=[none,none]) rfl) rfl (yow rfl T.Qx (yaa (pv 0) (yaa (pv 1) yab))) (λ_ _ _ _=>by exact(show PG _ _ (yn1 K 2 (yda (ybt 0) (yda (ybt 1) ynm))) from ygm (n:=2) rfl (ybH (ydy (i:=0) (show List.Nodup (["_law_one","_law_other"]:List Str) by decide) rfl (Or.inl rfl)) (ybH (ydy (i:=1) (show List.Nodup (["_law_one","_law_other"]:List Str) by decide) rfl (Or.inl rfl)) yem)))) (λ_ _ _ _=>yaZ) (λ_ _ _ _=>(pcl G_zah hr T.RC (yaa (pv 0) (yaa (pv 1) yab))))) yab))))))) yau) (yag (yam (ycQ (yaS ya2 (yar ya0 rfl T.Ja yal (yaa (pv 0) (yaa (ybG rfl T.Qb ydg) yab))) (yar ya0 rfl T.Ja yal (yaa (pv 1) (yaa (ybG rfl T.Qb ydg) yab))) (yat _)) (ycD (yaS (yg1 hu) (pv 0) (pv 1) (yat _))))))),?_⟩
 walk_at "rd"
 rcases al with ⟨v,rfl⟩ | ⟨ts,al,len,low⟩
 ·rw[Is] at ix iy
  obtain⟨rfl,im⟩:=ix
  obtain⟨rfl,_⟩:=iy
  have pl:=yhh im
  refine⟨by decide,λp hp=>⟨yac,ymm y,yf2 im,pl.2.2,?_⟩⟩
  rw[if_neg (λz=>z.elim pl.1 pl.2.1)]
  refine⟨ymm y,yf2 im,ymm y,yf2 im,?_⟩
  rw[if_pos rfl]
  refine⟨.vl y,yju im,.vl y,yju im,yuQ,yuQ,?_⟩
  rw[ypV im]
  exact q _ (yae hp _)
 ·obtain⟨a,b,xs,ys,rfl,rfl,isx,isy,lk,hab⟩:∃ (a b:Addr) (xs ys:List V),x=.ref a/\y=.ref b/\Iss H xs ts/\Iss H ys ts/\(kT tr=.tup∨kT tr=.lst)/\((H a=some (.lst xs)/\H b=some (.lst ys))∨(H a=some (.tup xs)/\H b=some (.tup ys))):=by
   rcases al with rfl | rfl
   ·rw[Is] at ix iy
    obtain⟨a,xs,rfl,ea,ia⟩:=ix
    obtain⟨b,ys,rfl,eb,ib⟩:=iy
    exact⟨a,b,xs,ys,rfl,rfl,ia,ib,.inr rfl,.inl ⟨ea,eb⟩⟩
   ·rw[Is] at ix iy
    obtain⟨a,xs,rfl,ea,ia⟩:=ix
    obtain⟨b,ys,rfl,eb,ib⟩:=iy
    exact⟨a,b,xs,ys,rfl,rfl,ia,ib,.inl rfl,.inr ⟨ea,eb⟩⟩
  have nd:kT tr≠.dct:=λz=>by
   rcases lk with e | e
   ·rw[e] at z;cases z
   ·rw[e] at z;cases z
  refine⟨by decide,λp hp=>?_⟩
  have s1:=yae hp (.tup [V.ty "tuple",V.ty "list"])
  refine⟨yac,kT tr,(iy.same s1).knd,nd,?_⟩
  rw[if_pos lk]
  refine⟨_,(ix.same s1).knd,_,(iy.same s1).knd,?_⟩
  rw[if_neg (λz=>z rfl)]
  refine⟨by decide,λp1 h1=>?_⟩
  have s2:=s1.trans (yae h1 (.tup [V.ty "tuple",V.ty "list"]))
  refine⟨yac,_,(ix.same s2).knd,nd,?_⟩
  rw[if_neg (by rcases lk with e | e<;>rw[e]<;>decide)]
  generalize upd (upd H p (.tup [V.ty "tuple",V.ty "list"])) p1 (.tup [V.ty "tuple",V.ty "list"])=H2 at s2 ⊢
  have lx:=isx.len
  have ly:=isy.len
  have turn:∀ (F:Addr) (i:Nat) (u v:V) (H':Hp) (c:Addr),H2 F=none->xs[i]?=some u->ys[i]?=some v->Same H2 H'->H' F=some (.lst ((List.replicate i true).map V.bl))->H' c=none->∀ o1 o2:Option V,
    yn1 K 2 (yda (ybt 0) (yda (ybt 1) ynm)) (.ref c) [o1,o2] (upd H' c (.tup [u,v])) fun σ2 H2'=>ygl σ2 H2' λb H3=>if b=true then yhH sp [] E0 (ycO (yjr 0) (ycO (yjr 1) ylc)) σ2 H3 λy H4=>∃ ys,H4 F=some (.lst ys)/\ys.length < sizeLine/\(∃ o1 o2,σ2=[o1,o2])/\Same H2 (upd H4 F (.lst (ys++[y])))/\upd H4 F (.lst (ys++[y])) F=some (.lst ((List.replicate (i+1) true).map V.bl)) else (∃ o1 o2,σ2=[o1,o2])/\Same H2 H3/\H3 F=some (.lst ((List.replicate (i+1) true).map V.bl)):=by
   intro F i u v H' c hF hx hy sj hF' hc o1 o2
   have hi:i < ts.length:=by have:=(qE hx).1;omega
   obtain⟨u',eu,iu⟩:=isx.at' i hi
   obtain⟨v',ev,iv⟩:=isy.at' i hi
   rw[hx] at eu
   rw[hy] at ev
   cases eu
   cases ev
   have s3:=yae hc (.tup [u,v])
   have s23:=(s2.trans sj).trans s3
   walk_at "rd"
   refine⟨_,SqT.of yac,rfl,_,_,rfl,_,_,rfl,rfl,?_⟩
   simp only[ygl,if_true]
   refine low ts[i] (List.getElem_mem hi) u v _ _ (iu.same s23) (iv.same s23) λH4 s4=>⟨_,s4 _ _ (s3 _ _ hF'),?_,⟨_,rfl⟩,ybn hF ((sj.trans s3).trans s4),?_⟩
   ·rw[qM,List.length_replicate]
    exact yaD (by omega)
   ·rw[yac,List.map_replicate,← List.replicate_succ',List.replicate_succ]
  rcases hab with ⟨ea,eb⟩ | ⟨ea,eb⟩
  ·have ea2:=s2 _ _ ea
   have eb2:=s2 _ _ eb
   refine⟨_,.inl ⟨_,SqL.of ea2,rfl⟩,_,.inl ⟨_,SqL.of eb2,rfl⟩,?_⟩
   rw[if_pos (by rw[lx,ly])]
   refine⟨_,rfl,_,rfl,a,b,rfl,.inl ⟨⟨_,SqL.of ea2⟩,⟨_,SqL.of eb2⟩,λF hF=>yhV (xs:=xs) (ys:=ys) (λi σ H'=>(∃ o1 o2,σ=[o1,o2])/\Same H2 H'/\H' F=some (.lst ((List.replicate i true).map V.bl))) ⟨⟨_,_,rfl⟩,yae hF _,yac⟩ (λi σ H' h=>⟨SqL.of (h.2.1 _ _ ea2),SqL.of (h.2.1 _ _ eb2)⟩) ?_ ?_⟩⟩
   ·rintro i u v σ H' c hx hy ⟨⟨o1,o2,rfl⟩,sj,hF'⟩ hc
    exact turn F i u v H' c hF hx hy sj hF' hc o1 o2
   ·rintro i σ H' hi ⟨⟨o1,o2,rfl⟩,sj,hF'⟩
    refine⟨F,rfl,_,SqL.of hF',?_⟩
    rw[ykb]
    exact q _ (s2.trans sj)
  ·have ea2:=s2 _ _ ea
   have eb2:=s2 _ _ eb
   refine⟨_,.inr ⟨_,SqT.of ea2,rfl⟩,_,.inr ⟨_,SqT.of eb2,rfl⟩,?_⟩
   rw[if_pos (by rw[lx,ly])]
   refine⟨_,rfl,_,rfl,a,b,rfl,.inr ⟨⟨_,SqT.of ea2⟩,⟨_,SqT.of eb2⟩,λF hF=>yjF (xs:=xs) (ys:=ys) (by rw[lx,ly]) (λi σ H'=>(∃ o1 o2,σ=[o1,o2])/\Same H2 H'/\H' F=some (.lst ((List.replicate i true).map V.bl))) ⟨⟨_,_,rfl⟩,yae hF _,yac⟩ (λi σ H' h=>⟨SqT.of (h.2.1 _ _ ea2),SqT.of (h.2.1 _ _ eb2)⟩) ?_ ?_⟩⟩
   ·rintro i u v σ H' c hx hy ⟨⟨o1,o2,rfl⟩,sj,hF'⟩ hc
    exact turn F i u v H' c hF hx hy sj hF' hc o1 o2
   ·rintro σ H' ⟨⟨o1,o2,rfl⟩,sj,hF'⟩
    refine⟨F,rfl,_,SqL.of hF',?_⟩
    rw[ykb]
    exact q _ (s2.trans sj)
def OkT:Nat->Th->Prop
 | 0,tr=>∃ v,tr=.im v
 | k+1,tr=>(∃ v,tr=.im v)∨∃ ts,(tr=.ls ts∨tr=.tp ts)/\ts.length<=500/\∀ u∈ts,OkT k u
def yqQ (k:Nat):Sp:=λvs H Q _=>∃ x y tr,vs=[x,y]/\OkT k tr/\Is H x tr/\Is H y tr/\∀ H',Same H H'->Q (.bl true) H'
theorem ynW (T:Txt K mg t):∀ k:Nat,FnOk P w K mg base CX0 (k+1) t.f_zah t.d_zah ["_law_found","_law_due"] (yqQ k)
 | 0=>by
  refine(yiH T (j:=0) (sp:=yhQ) never).imp λvs H Q E h=>?_
  obtain⟨x,y,tr,rfl,ok,ix,iy,q⟩:=h
  exact⟨x,y,tr,rfl,.inl ok,ix,iy,q⟩
 | k+1=>by
  refine(yiH T (ynW T k)).imp λvs H Q E h=>?_
  obtain⟨x,y,tr,rfl,ok,ix,iy,q⟩:=h
  refine⟨x,y,tr,rfl,ok.imp id λ⟨ts,e,l,g⟩=>⟨ts,e,l,λu hu x y H Q ix iy q=>?_⟩,ix,iy,q⟩
  exact⟨x,y,u,rfl,g u hu,ix,iy,q⟩
theorem yf6:OF P w base T.RC 6 (yqQ 4):=(ynW T 4).mono (by decide)
open TX K2 K3
noncomputable def pcs:List Pc:=[((1:Int),2),(2,2),(4,2),(8,2),(16,1),(32,0)].flatMap λq=>(List.range (q.2+1)).flatMap λd=>[⟨q.1,d,false⟩,⟨q.1,d,true⟩]
noncomputable def mo (v:Int):Nat->Int
 | 0=>96 / v
 | j+1=>mo v j / 2
noncomputable def grn (v:Int):Nat->Int
 | 0=>96 / v
 | j+1=>grn v j+mo v (j+1)
noncomputable def pg (p:Pc):Int:=if p.th=true then grn p.v p.d*2 / 3 else grn p.v p.d
theorem yeU:∀ p∈pcs,(1<=p.v/\p.v<=32)/\p.d<=2:=by decide
theorem yrp:∀ p∈pcs,(0<=grn p.v p.d/\grn p.v p.d<=1000)/\(0<=pg p/\pg p<=1000):=by decide
def yky:Sp:=λvs H Q _=>∃ x p,vs=[x]/\p∈pcs/\Is H x (pcT p)/\Q (.int (pg p)) H
theorem yrP:OF P w base T.zA 1 yky:=by
 refine T.zA.F.ok sc_zA (λvs H Q E h=>?_) (λ_ _ _ s' H vs Q E hr h=>?_)
 ·obtain⟨x,p,rfl,_⟩:=h;rfl
 have hu:=yhO hr
 obtain⟨x,⟨v,d,th⟩,rfl,hp,ix,q⟩:=h
 obtain⟨⟨h0,h1⟩,h2⟩:=yeU _ hp
 have hg:=(yrp _ hp).1
 obtain⟨p,rfl,e⟩:=Is.three ix
 dsimp only at h0 h1 h2 e
 refine⟨_,(yad (pst 1 sc_zA.nd (yay yb2 (yfo rfl T.Qf) (xT (pv 0)))) (yad (pst 2 sc_zA.nd (pv 1)) (yad (ycd PassesOwn.never rfl (ycb rfl T.Jr (yaa (xT (pv 0)) yab)) (pgs 3 sc_zA.nd) (yad (pst 1 sc_zA.nd (yay yb2 (pv 1) yah)) (yag (ypZ (i:=2) sc_zA.nd rfl (Or.inl rfl) (pv 1) ysk)))) (yag (yam (yaJ (yaG (xT (pv 0))) (yay yb2 (yay yb5 (pv 2) yah) yah) (pv 2))))))),?_⟩
 walk_at "rd"
 have hq:=SqT.of (K:=K) e
 refine⟨_,hq,_,rfl,v,rfl,⟨by omega,by omega⟩,?_⟩
 refine⟨_,rfl,p,_,_,_,rfl,rfl,hq,rfl,_,rfl,by omega,by omega,yg2 (lo:=0) (n:=((d:Nat):Int).toNat) (λj σ H'=>(∃ x3,σ=[some (.ref p),some (.int (mo v j)),some (.int (grn v j)),x3])/\H'=H) ⟨⟨none,rfl⟩,rfl⟩ ?_ ?_⟩
 ·rintro j σ H' hj ⟨⟨x3,rfl⟩,rfl⟩
  walk_at "rd"
  exact⟨⟨by decide,by decide⟩,rfl,rfl⟩
 ·rintro σ H' ⟨⟨x3,rfl⟩,rfl⟩
  walk_at "rd"
  refine⟨_,hq,_,rfl,th,rfl,?_⟩
  rw[Int.toNat_natCast]
  unfold pg at q
  dsimp only at q hg
  cases th with
  | true =>
   rw[if_pos rfl]
   exact⟨CMul.ok (.inr ⟨by decide,by decide⟩),⟨by decide,by decide⟩,q⟩
  | false =>
   rw[if_neg (by decide)]
   exact q
def ys3:Tl->Prop
 | .note _ p _ _ _ _ _=>p∈pcs
 | .pause p=>p∈pcs
 | _=>True
noncomputable def tg:Tl->Int
 | .note _ p _ _ _ _ _=>pg p
 | .pause p=>pg p
 | .whole n=>n
 | _=>0
def yr3 (t:Ad):SK->Addr
 | .n=>t.f_zau
 | .p=>t.f_zai
 | .w=>t.f_zV
 | .k=>t.f_zC
 | .m=>t.f_zn
 | .e=>t.f_zL
 | .b .be=>t.f_zab
 | .b .en=>t.f_zaF
 | .b .cl=>t.f_zW
 | .b .fi=>t.f_zal
 | .b .ba=>t.f_zat
def yrU (t:Ad):SK->FuncData
 | .n=>t.d_zau
 | .p=>t.d_zai
 | .w=>t.d_zV
 | .k=>t.d_zC
 | .m=>t.d_zn
 | .e=>t.d_zL
 | .b .be=>t.d_zab
 | .b .en=>t.d_zaF
 | .b .cl=>t.d_zW
 | .b .fi=>t.d_zal
 | .b .ba=>t.d_zat
theorem yel (T:Txt K mg t):∀ i,ycw K (gC t i) "told" (yr3 t i)
 | .n=>T.QP
 | .p=>T.QQ
 | .w=>T.QY
 | .k=>T.QZ
 | .m=>T.Ra
 | .e=>T.Rb
 | .b .be=>T.QR
 | .b .en=>T.QS
 | .b .cl=>T.Rc
 | .b .fi=>T.QT
 | .b .ba=>T.QU
theorem yes (T:Txt K mg t):∀ i,Binds K (yrU t i) ["self"] []
 | .n=>T.Ru.B
 | .p=>T.Rv.B
 | .w=>T.zV.B
 | .k=>T.zC.B
 | .m=>T.zn.B
 | .e=>T.zL.B
 | .b .be=>T.Rw.B
 | .b .en=>T.Rx.B
 | .b .cl=>T.zW.B
 | .b .fi=>T.Ry.B
 | .b .ba=>T.Rz.B
def ykz (t:Ad):SK->Addr
 | .n=>t.f_zN
 | .p=>t.f_zD
 | .w=>t.f_zB
 | .k=>t.f_zG
 | .m=>t.f_zG
 | .e=>t.f_zG
 | .b .be=>t.f_zG
 | .b .en=>t.f_zG
 | .b .cl=>t.f_zG
 | .b .fi=>t.f_zG
 | .b .ba=>t.f_zG
def yk6 (t:Ad):SK->FuncData
 | .n=>t.d_zN
 | .p=>t.d_zD
 | .w=>t.d_zB
 | .k=>t.d_zG
 | .m=>t.d_zG
 | .e=>t.d_zG
 | .b .be=>t.d_zG
 | .b .en=>t.d_zG
 | .b .cl=>t.d_zG
 | .b .fi=>t.d_zG
 | .b .ba=>t.d_zG
theorem ygF (T:Txt K mg t):∀ i,ycw K (gC t i) "grains" (ykz t i)
 | .n=>T.Rp
 | .p=>T.Rq
 | .w=>T.Rr
 | .k=>T.JG
 | .m=>T.JA
 | .e=>T.JM
 | .b .be=>T.JO
 | .b .en=>T.Qa
 | .b .cl=>T.JP
 | .b .fi=>T.JS
 | .b .ba=>T.JT
theorem ygo (T:Txt K mg t):∀ i,Binds K (yk6 t i) ["self"] []
 | .n=>T.zN.B
 | .p=>T.zD.B
 | .w=>T.zB.B
 | .k=>T.zG.B
 | .m=>T.zG.B
 | .e=>T.zG.B
 | .b .be=>T.zG.B
 | .b .en=>T.zG.B
 | .b .cl=>T.zG.B
 | .b .fi=>T.zG.B
 | .b .ba=>T.zG.B
def yrV (t:Ad)(i:SK):Sp:=λvs H Q _=>∃ x tl,vs=[x]/\yc8 tl=i/\ys3 tl/\Sg t H x tl/\Q (.int (tg tl)) H
theorem yf3 {i:SK}(hi:i≠.n/\i≠.p/\i≠.w):ON P w mg base T.zG 2 (yrV t i):=by
 o_head (T.zG.F,yt9)
 obtain⟨x,tl,rfl,rfl,g,sg',q⟩:=h
 refine⟨_,(yag (yam yah)),?_⟩
 left
 cases tl with
 | note=>exact absurd rfl hi.1
 | pause p=>exact absurd rfl hi.2.1
 | whole n=>exact absurd rfl hi.2.2
 | _=>exact q
theorem yus:ON P w mg base T.zN 2 (yrV t .n):=by
 o_head (T.zN.F,ysZ)
 obtain⟨x,tl,rfl,hk,g,sg',q⟩:=h
 cases tl with
 | note hs p ti be wd op cl =>
  obtain⟨y,dx,fs,rfl,ea,f⟩:=sg'
  obtain⟨l,z,rfl,i1,i2⟩:=f
  refine⟨_,(yag (yam (pcm (yrP T) hr (yaa (yaQ (pv 0) rfl) yab)))),?_⟩
  left
  refine⟨y,_,dx,_,_,rfl,ea,T.Jb,T.Ji,rfl,?_⟩
  left
  exact⟨z,p,rfl,g,i2,q⟩
 | _=>cases hk
theorem yum:ON P w mg base T.zD 2 (yrV t .p):=by
 o_head (T.zD.F,ytX)
 obtain⟨x,tl,rfl,hk,g,sg',q⟩:=h
 cases tl with
 | pause p =>
  obtain⟨y,dx,fs,rfl,ea,f⟩:=sg'
  obtain⟨z,rfl,i2⟩:=f
  refine⟨_,(yag (yam (pcm (yrP T) hr (yaa (yaQ (pv 0) rfl) yab)))),?_⟩
  left
  refine⟨y,_,dx,_,_,rfl,ea,T.Jz,T.Jf,rfl,?_⟩
  left
  exact⟨z,p,rfl,g,i2,q⟩
 | _=>cases hk
theorem Is.n {H:Hp}{z:V}{n:Int}(h:Is H z (nT n)):z=.int n:=by rw[nT,Is] at h;exact h.1
theorem yuC:ON P w mg base T.zB 2 (yrV t .w):=by
 o_head (T.zB.F,yuq)
 obtain⟨x,tl,rfl,hk,g,sg',q⟩:=h
 cases tl with
 | whole n =>
  obtain⟨y,dx,fs,rfl,ea,f⟩:=sg'
  obtain⟨z,rfl,i2⟩:=f
  refine⟨_,(yag (yam (yaQ (pv 0) rfl))),?_⟩
  left
  refine⟨y,_,dx,_,_,rfl,ea,T.JE,T.Jk,rfl,?_⟩
  rw[i2.n]
  exact q
 | _=>cases hk
theorem ynR (T:Txt K mg t):∀ i,FnOk P w K mg base CX0 2 (ykz t i) (yk6 t i) ["self"] (yrV t i)
 | .n=>yus T
 | .p=>yum T
 | .w=>yuC T
 | .k=>yf3 T ⟨nofun,nofun,nofun⟩
 | .m=>yf3 T ⟨nofun,nofun,nofun⟩
 | .e=>yf3 T ⟨nofun,nofun,nofun⟩
 | .b .be=>yf3 T ⟨nofun,nofun,nofun⟩
 | .b .en=>yf3 T ⟨nofun,nofun,nofun⟩
 | .b .cl=>yf3 T ⟨nofun,nofun,nofun⟩
 | .b .fi=>yf3 T ⟨nofun,nofun,nofun⟩
 | .b .ba=>yf3 T ⟨nofun,nofun,nofun⟩
open TX K2 K3
def Told (H H':Hp)(y:V):Tl->Prop
 | .note hs p ti be wd op cl=>∃ b l z xs,y=.ref b/\H' b=some (.tup [tV (txt "note"),.ref l,z,.bl ti,.bl be,tV wd,.bl op,.bl cl])/\H l=none/\H' l=some (.lst xs)/\Iss H xs (hs.map hdT)/\Is H z (pcT p)
 | tl=>Is H' y (tlT tl)
theorem Told.is {H H':Hp}{y:V}{tl:Tl}(s:Same H H')(h:Told H H' y tl):Is H' y (tlT tl):=by
 cases tl with
 | note hs p ti be wd op cl =>
  obtain⟨b,l,z,xs,rfl,eb,_,el,i1,i2⟩:=h
  exact ya3 eb (yaj (ycB _) (yaj (yeG el (i1.same s)) (yaj (i2.same s) (yaj (yeE _) (yaj (yeE _) (yaj (ycB _) (yaj (yeE _) (yaj (yeE _) (yaz _)))))))))
 | _=>exact h
def ycF (t:Ad)(i:SK):Sp:=λvs H Q _=>∃ x tl,vs=[x]/\yc8 tl=i/\Sg t H x tl/\∀ y H',Same H H'->Told H H' y tl->Q y H'
theorem yqu:ON P w mg base T.Ru 1 (ycF t .n):=by
 o_head (T.Ru.F,yr8)
 obtain⟨x,tl,rfl,hk,sg',q⟩:=h
 cases tl with
 | note hs p ti be wd op cl =>
  obtain⟨y,dx,fs,rfl,ea,f⟩:=sg'
  obtain⟨l,z,rfl,i1,i2⟩:=f
  obtain⟨xs,el,is⟩:∃ xs,H l=some (.lst xs)/\Iss H xs (hs.map hdT):=by
   rw[hsT,Is] at i1
   obtain⟨a,xs,e,el,is⟩:=i1
   cases e
   exact⟨xs,el,is⟩
  refine⟨_,(yag (yam (yaw (yaa yaf (yaa (yaC ycI rfl T.Jl ybd (yaa (yaQ (pv 0) rfl) yab)) (yaa (yaQ (pv 0) rfl) (yaa (yaQ (pv 0) rfl) (yaa (yaQ (pv 0) rfl) (yaa (yaQ (pv 0) rfl) (yaa (yaQ (pv 0) rfl) (yaa (yaQ (pv 0) rfl) yab))))))))))),?_⟩
  left
  refine⟨y,_,dx,_,_,rfl,ea,T.Jb,T.Js,rfl,?_⟩
  left
  refine⟨l,xs,rfl,.inl (SqL.of el),λl' hl'=>?_⟩
  have s1:=yae hl' (.lst xs)
  have e1:upd H l' (.lst xs) l'=_:=yac
  generalize upd H l' (.lst xs)=H1 at s1 e1 ⊢
  have ea1:=s1 _ _ ea
  left
  refine⟨y,_,dx,_,_,rfl,ea1,T.Jb,T.Ji,rfl,?_⟩
  left
  refine⟨y,_,dx,_,_,rfl,ea1,T.Jb,T.Jj,rfl,?_⟩
  left
  refine⟨y,_,dx,_,_,rfl,ea1,T.Jb,T.Je,rfl,?_⟩
  left
  refine⟨y,_,dx,_,_,rfl,ea1,T.Jb,T.Jo,rfl,?_⟩
  left
  refine⟨y,_,dx,_,_,rfl,ea1,T.Jb,T.Jt,rfl,?_⟩
  left
  refine⟨y,_,dx,_,_,rfl,ea1,T.Jb,T.Jm,rfl,?_⟩
  left
  refine ybA λb hb=>?_
  have s2:=yae hb (.tup [tV (txt "note"),.ref l',z,.bl ti,.bl be,tV wd,.bl op,.bl cl])
  exact q _ _ (s1.trans s2) ⟨b,l',z,xs,rfl,yac,hl',s2 _ _ e1,is,i2⟩
 | _=>cases hk
theorem yrc:ON P w mg base T.Rv 1 (ycF t .p):=by
 o_head (T.Rv.F,ysx)
 obtain⟨x,tl,rfl,hk,sg',q⟩:=h
 cases tl with
 | pause p =>
  obtain⟨y,dx,fs,rfl,ea,z,rfl,iz⟩:=sg'
  refine⟨_,(yag (yam (yaw (yaa yaf (yaa (yaQ (pv 0) rfl) yab))))),?_⟩
  left
  refine⟨y,_,dx,_,_,rfl,ea,T.Jz,T.Jf,rfl,?_⟩
  left
  refine ybA λb hb=>?_
  have s1:=yae hb (.tup [tV (txt "pause"),z])
  exact q _ _ s1 (ya3 yac (yaj (ycB _) (yaj (iz.same s1) (yaz _))))
 | _=>cases hk
theorem ytV:ON P w mg base T.zV 1 (ycF t .w):=by
 o_head (T.zV.F,yud)
 obtain⟨x,tl,rfl,hk,sg',q⟩:=h
 cases tl with
 | whole n =>
  obtain⟨y,dx,fs,rfl,ea,z,rfl,iz⟩:=sg'
  refine⟨_,(yag (yam (yaw (yaa yaf (yaa (yaQ (pv 0) rfl) yab))))),?_⟩
  left
  refine⟨y,_,dx,_,_,rfl,ea,T.JE,T.Jk,rfl,?_⟩
  left
  refine ybA λb hb=>?_
  have s1:=yae hb (.tup [tV (txt "whole"),z])
  exact q _ _ s1 (ya3 yac (yaj (ycB _) (yaj (iz.same s1) (yaz _))))
 | _=>cases hk
theorem ys7:ON P w mg base T.zC 1 (ycF t .k):=by
 o_head (T.zC.F,ytZ)
 obtain⟨x,tl,rfl,hk,sg',q⟩:=h
 cases tl with
 | key k =>
  obtain⟨y,dx,fs,rfl,ea,z,rfl,iz⟩:=sg'
  refine⟨_,(yag (yam (yaw (yaa yaf (yaa (yaQ (pv 0) rfl) yab))))),?_⟩
  left
  refine⟨y,_,dx,_,_,rfl,ea,T.Ju,T.Jn,rfl,?_⟩
  left
  refine ybA λb hb=>?_
  have s1:=yae hb (.tup [tV (txt "key"),z])
  exact q _ _ s1 (ya3 yac (yaj (ycB _) (yaj (iz.same s1) (yaz _))))
 | _=>cases hk
theorem yuu:ON P w mg base T.zn 1 (ycF t .m):=by
 o_head (T.zn.F,yt8)
 obtain⟨x,tl,rfl,hk,sg',q⟩:=h
 cases tl with
 | metre a b gs =>
  obtain⟨y,dx,fs,rfl,ea,z,rfl,iz⟩:=sg'
  refine⟨_,(yag (yam (yaw (yaa yaf (yaa (yaQ (pv 0) rfl) yab))))),?_⟩
  left
  refine⟨y,_,dx,_,_,rfl,ea,T.Jp,T.Jd,rfl,?_⟩
  left
  refine ybA λb hb=>?_
  have s1:=yae hb (.tup [tV (txt "metre"),z])
  exact q _ _ s1 (ya3 yac (yaj (ycB _) (yaj (iz.same s1) (yaz _))))
 | _=>cases hk
theorem yuK:ON P w mg base T.zL 1 (ycF t .e):=by
 o_head (T.zL.F,yt3)
 obtain⟨x,tl,rfl,hk,sg',q⟩:=h
 cases tl with
 | ending n =>
  obtain⟨y,dx,fs,rfl,ea,z,rfl,iz⟩:=sg'
  refine⟨_,(yag (yam (yaw (yaa yaf (yaa (yaQ (pv 0) rfl) yab))))),?_⟩
  left
  refine⟨y,_,dx,_,_,rfl,ea,T.Jy,T.Jg,rfl,?_⟩
  left
  refine ybA λb hb=>?_
  have s1:=yae hb (.tup [tV (txt "ending"),z])
  exact q _ _ s1 (ya3 yac (yaj (ycB _) (yaj (iz.same s1) (yaz _))))
 | _=>cases hk
theorem yqK:ON P w mg base T.Rw 1 (ycF t (.b .be)):=by
 o_head (T.Rw.F,yqM)
 obtain⟨x,tl,rfl,hk,sg',q⟩:=h
 cases tl with
 | bare i =>
  cases hk
  refine⟨_,(yag (yam (yaw (yaa yaf yab)))),?_⟩
  left
  exact⟨by show 1<=sizeLine;decide,λb hb=>q _ _ (yae hb _) (ya3 yac (yaj (ycB _) (yaz _)))⟩
 | _=>cases hk
theorem yq4:ON P w mg base T.Rx 1 (ycF t (.b .en)):=by
 o_head (T.Rx.F,ysB)
 obtain⟨x,tl,rfl,hk,sg',q⟩:=h
 cases tl with
 | bare i =>
  cases hk
  refine⟨_,(yag (yam (yaw (yaa yaf yab)))),?_⟩
  left
  exact⟨by show 1<=sizeLine;decide,λb hb=>q _ _ (yae hb _) (ya3 yac (yaj (ycB _) (yaz _)))⟩
 | _=>cases hk
theorem yuv:ON P w mg base T.zW 1 (ycF t (.b .cl)):=by
 o_head (T.zW.F,yue)
 obtain⟨x,tl,rfl,hk,sg',q⟩:=h
 cases tl with
 | bare i =>
  cases hk
  refine⟨_,(yag (yam (yaw (yaa yaf yab)))),?_⟩
  left
  exact⟨by show 1<=sizeLine;decide,λb hb=>q _ _ (yae hb _) (ya3 yac (yaj (ycB _) (yaz _)))⟩
 | _=>cases hk
theorem yq0:ON P w mg base T.Ry 1 (ycF t (.b .fi)):=by
 o_head (T.Ry.F,yrt)
 obtain⟨x,tl,rfl,hk,sg',q⟩:=h
 cases tl with
 | bare i =>
  cases hk
  refine⟨_,(yag (yam (yaw (yaa yaf yab)))),?_⟩
  left
  exact⟨by show 1<=sizeLine;decide,λb hb=>q _ _ (yae hb _) (ya3 yac (yaj (ycB _) (yaz _)))⟩
 | _=>cases hk
theorem yqd:ON P w mg base T.Rz 1 (ycF t (.b .ba)):=by
 o_head (T.Rz.F,yrj)
 obtain⟨x,tl,rfl,hk,sg',q⟩:=h
 cases tl with
 | bare i =>
  cases hk
  refine⟨_,(yag (yam (yaw (yaa yaf yab)))),?_⟩
  left
  exact⟨by show 1<=sizeLine;decide,λb hb=>q _ _ (yae hb _) (ya3 yac (yaj (ycB _) (yaz _)))⟩
 | _=>cases hk
theorem yga (T:Txt K mg t):∀ i,FnOk P w K mg base CX0 1 (yr3 t i) (yrU t i) ["self"] (ycF t i)
 | .n=>yqu T
 | .p=>yrc T
 | .w=>ytV T
 | .k=>ys7 T
 | .m=>yuu T
 | .e=>yuK T
 | .b .be=>yqK T
 | .b .en=>yq4 T
 | .b .cl=>yuv T
 | .b .fi=>yq0 T
 | .b .ba=>yqd T
theorem Sg.at {H:Hp}{x:V}{tl:Tl}(h:Sg t H x tl):∃ (a dx:Addr) (fs:List (Str×V)),x=.ref a/\H a=some (.ins (gC t (yc8 tl)) dx fs)/\fs.lookup (Str.ofString "told")=none/\fs.lookup (Str.ofString "written")=none/\fs.lookup (Str.ofString "grains")=none:=by
 obtain⟨a,dx,fs,e,ea,f⟩:=h
 refine⟨a,dx,fs,e,ea,?_⟩
 cases tl with
 | note hs p ti be wd op cl=>obtain⟨l,z,rfl,_⟩:=f;exact⟨rfl,rfl,rfl⟩
 | bare i=>cases f;exact⟨rfl,rfl,rfl⟩
 | _=>obtain⟨z,rfl,_⟩:=f;exact⟨rfl,rfl,rfl⟩
open TX K2 K3
noncomputable def opt (b:Bool)(a:List Nat):List Nat:=if b=true then a else []
def yfQ (wd:List Nat):List Nat:=if wd=[] then [] else 58 :: wd
noncomputable def wrW:Tl->List Nat
 | .note hs p ti be wd op cl=>ybS 44 (hs.map hdW)++[47]++pcW p++opt ti [126]++opt be [95]++opt op [40]++opt cl [41]++yfQ wd
 | .pause p=>txt "r/" ++ pcW p
 | .whole _=>txt "R"
 | .key k=>txt "k" ++ ya8 k
 | .metre a b gs=>txt "m" ++ (tM a b gs).cps.toList
 | .ending n=>txt "[" ++ ya8 n
 | .bare i=>ys2 i
def TlG:Tl->Prop
 | .note hs p _ _ wd _ _=>(hs.length<=4/\∀ h∈hs,yjx h)/\p∈pcs/\wd.length<=40
 | .pause p=>p∈pcs
 | .key k=>-9999<=k/\k<=9999
 | .metre a b gs=>Sm a/\Sm b/\(∀ g∈gs,Sm g)/\gs.length<=100
 | .ending k=>-9999<=k/\k<=9999
 | _=>True
theorem TlG.ok {tl:Tl}(h:TlG tl):ys3 tl:=by
 cases tl with
 | note hs p ti be wd op cl=>exact h.2.1
 | pause p=>exact h
 | _=>trivial
def yjs (t:Ad)(i:SK):Sp:=λvs H Q _=>∃ x tl,vs=[x]/\yc8 tl=i/\TlG tl/\Sg t H x tl/\∀ H',Same H H'->Q (tV (wrW tl)) H'
theorem yc6 {p:Pc}(h:p∈pcs):(pcW p).length<=10:=by
 obtain⟨⟨h0,h1⟩,h2⟩:=yeU _ h
 have:=ybl (i:=p.v) ⟨by omega,by omega⟩
 unfold pcW
 rw[qA,qA,List.length_replicate]
 split<;>simp only[qC,List.length_nil]<;>omega
theorem yqc {H:Hp}{z:V}{a b:Int}{gs:List Int}(h:Is H z (mtT a b gs)):∃ p g,z=.ref p/\MetreAt H p g a b gs:=by
 unfold mtT at h
 rw[Is] at h
 obtain⟨p,ys,rfl,e,is⟩:=h
 rw[Iss] at is
 obtain⟨y0,r0,rfl,i0,is⟩:=is
 rw[Iss] at is
 obtain⟨y1,r1,rfl,i1,is⟩:=is
 rw[Iss] at is
 obtain⟨y2,r2,rfl,i2,is⟩:=is
 rw[Iss] at is
 rw[Is] at i2
 obtain⟨g,zs,rfl,eg,ig⟩:=i2
 rw[is,i0.n,i1.n] at e
 rw[ig.ints] at eg
 exact⟨p,g,rfl,⟨e,eg⟩⟩
def yix (t:Ad):SK->Addr
 | .n=>t.f_zE
 | .p=>t.f_zu
 | .w=>t.f_zr
 | .k=>t.f_zh
 | .m=>t.f_zc
 | .e=>t.f_zk
 | .b .be=>t.f_zw
 | .b .en=>t.f_zS
 | .b .cl=>t.f_zx
 | .b .fi=>t.f_zy
 | .b .ba=>t.f_zz
def yib (t:Ad):SK->FuncData
 | .n=>t.d_zE
 | .p=>t.d_zu
 | .w=>t.d_zr
 | .k=>t.d_zh
 | .m=>t.d_zc
 | .e=>t.d_zk
 | .b .be=>t.d_zw
 | .b .en=>t.d_zS
 | .b .cl=>t.d_zx
 | .b .fi=>t.d_zy
 | .b .ba=>t.d_zz
theorem ydB (T:Txt K mg t):∀ i,ycw K (gC t i) "written" (yix t i)
 | .n=>T.Re
 | .p=>T.Rf
 | .w=>T.Rg
 | .k=>T.Rh
 | .m=>T.Ri
 | .e=>T.Rl
 | .b .be=>T.Rj
 | .b .en=>T.Rk
 | .b .cl=>T.Rm
 | .b .fi=>T.Rn
 | .b .ba=>T.Ro
theorem ydE (T:Txt K mg t):∀ i,Binds K (yib t i) ["self"] []
 | .n=>T.zE.B
 | .p=>T.zu.B
 | .w=>T.zr.B
 | .k=>T.zh.B
 | .m=>T.zc.B
 | .e=>T.zk.B
 | .b .be=>T.zw.B
 | .b .en=>T.zS.B
 | .b .cl=>T.zx.B
 | .b .fi=>T.zy.B
 | .b .ba=>T.zz.B
theorem yuo:ON P w mg base T.zu 3 (yjs t .p):=by
 o_head (T.zu.F,ytt)
 obtain⟨x,tl,rfl,hk,g,sg',q⟩:=h
 cases tl with
 | pause p =>
  obtain⟨y,dx,fs,rfl,ea,z,rfl,iz⟩:=sg'
  refine⟨_,(yag (yam (yay yaq yaf (pcm (ynS T) hr (yaa (yaQ (pv 0) rfl) yab))))),?_⟩
  left
  refine⟨y,_,dx,_,_,rfl,ea,T.Jz,T.Jf,rfl,?_⟩
  left
  refine⟨z,p,rfl,iz,yeU _ g,?_⟩
  exact ybe (a:=txt "r/") rfl rfl (by have:=yc6 g;rw[show(txt "r/").length=2 by ac_rfl];omega) (by rw[yaO];exact q H (Same.refl H))
 | _=>cases hk
theorem ysT:ON P w mg base T.zh 3 (yjs t .k):=by
 o_head (T.zh.F,ysP)
 obtain⟨x,tl,rfl,hk,g,sg',q⟩:=h
 cases tl with
 | key k =>
  obtain⟨y,dx,fs,rfl,ea,z,rfl,iz⟩:=sg'
  refine⟨_,(yag (yam (yay yaq yaf (pcm (yhK T) hr (yaa (yaQ (pv 0) rfl) yab))))),?_⟩
  left
  refine⟨y,_,dx,_,_,rfl,ea,T.Ju,T.Jn,rfl,?_⟩
  left
  rw[iz.n]
  refine⟨k,rfl,g.1,g.2,?_⟩
  exact ybe (a:=txt "k") rfl rfl (by have:=ybl g;rw[show(txt "k").length=1 by ac_rfl];omega) (by rw[yaO];exact q H (Same.refl H))
 | _=>cases hk
theorem yrJ {a b:Int}{gs:List Int}(h1:Sm a)(h2:Sm b)(h3:∀ g∈gs,Sm g)(h4:gs.length<=100):(tM a b gs).length<=700:=by
 have l1:=ycP h1
 have l2:=ycP h2
 have l3:=yio h3 h4
 have s1:(Str.ofString "/").length=1:=by ac_rfl
 have s2:(Str.ofString ":").length=1:=by ac_rfl
 unfold tM
 split
 ·rw[yb1,yb1];show _+(Str.ofString "/").length+_<=700;omega
 ·rw[yb1,yb1,yb1,yb1];show _+(Str.ofString "/").length+_+(Str.ofString ":").length+(Txt.join (Str.ofString "+") _).length<=700;omega
theorem yuB:ON P w mg base T.zc 3 (yjs t .m):=by
 o_head (T.zc.F,ytG)
 obtain⟨x,tl,rfl,hk,g,sg',q⟩:=h
 cases tl with
 | metre a b gs =>
  obtain⟨y,dx,fs,rfl,ea,z,rfl,iz⟩:=sg'
  refine⟨_,(yag (yam (yay yaq yaf (pcm (ytp T) hr (yaa (yaQ (pv 0) rfl) yab))))),?_⟩
  left
  refine⟨y,_,dx,_,_,rfl,ea,T.Jp,T.Jd,rfl,?_⟩
  left
  obtain⟨p',g',rfl,hm⟩:=yqc iz
  refine⟨p',g',a,b,gs,rfl,hm,g.1,g.2.1,g.2.2.1,g.2.2.2,λH1 s1=>?_⟩
  refine ybe (a:=txt "m") (b:=(tM a b gs).cps.toList) rfl (by unfold tV;rw[ycL]) ?_ (by rw[yaO];exact q H1 s1)
  rw[show(txt "m").length=1 by ac_rfl,yaE]
  have:=yrJ g.1 g.2.1 g.2.2.1 g.2.2.2
  omega
 | _=>cases hk
theorem yuG:ON P w mg base T.zk 3 (yjs t .e):=by
 o_head (T.zk.F,yul)
 obtain⟨x,tl,rfl,hk,g,sg',q⟩:=h
 cases tl with
 | ending n =>
  obtain⟨y,dx,fs,rfl,ea,z,rfl,iz⟩:=sg'
  refine⟨_,(yag (yam (yay yaq yaf (pcm (yhK T) hr (yaa (yaQ (pv 0) rfl) yab))))),?_⟩
  left
  refine⟨y,_,dx,_,_,rfl,ea,T.Jy,T.Jg,rfl,?_⟩
  left
  rw[iz.n]
  refine⟨n,rfl,g.1,g.2,?_⟩
  exact ybe (a:=txt "[") rfl rfl (by have:=ybl g;rw[show(txt "[").length=1 by ac_rfl];omega) (by rw[yaO];exact q H (Same.refl H))
 | _=>cases hk
theorem ysY:ON P w mg base T.zr 3 (yjs t (.w)):=by
 o_head (T.zr.F,ytv)
 obtain⟨x,tl,rfl,hk,g,sg',q⟩:=h
 cases tl with
 | whole i =>
  cases hk
  refine⟨_,(yag (yam yaf)),?_⟩
  left
  exact q H (Same.refl H)
 | _=>cases hk
theorem yub:ON P w mg base T.zw 3 (yjs t (.b .be)):=by
 o_head (T.zw.F,yt2)
 obtain⟨x,tl,rfl,hk,g,sg',q⟩:=h
 cases tl with
 | bare i =>
  cases hk
  refine⟨_,(yag (yam yaf)),?_⟩
  left
  exact q H (Same.refl H)
 | _=>cases hk
theorem ys5:ON P w mg base T.zS 3 (yjs t (.b .en)):=by
 o_head (T.zS.F,yuz)
 obtain⟨x,tl,rfl,hk,g,sg',q⟩:=h
 cases tl with
 | bare i =>
  cases hk
  refine⟨_,(yag (yam yaf)),?_⟩
  left
  exact q H (Same.refl H)
 | _=>cases hk
theorem ytH:ON P w mg base T.zx 3 (yjs t (.b .cl)):=by
 o_head (T.zx.F,ytU)
 obtain⟨x,tl,rfl,hk,g,sg',q⟩:=h
 cases tl with
 | bare i =>
  cases hk
  refine⟨_,(yag (yam yaf)),?_⟩
  left
  exact q H (Same.refl H)
 | _=>cases hk
theorem ysW:ON P w mg base T.zy 3 (yjs t (.b .fi)):=by
 o_head (T.zy.F,ytd)
 obtain⟨x,tl,rfl,hk,g,sg',q⟩:=h
 cases tl with
 | bare i =>
  cases hk
  refine⟨_,(yag (yam yaf)),?_⟩
  left
  exact q H (Same.refl H)
 | _=>cases hk
theorem ys8:ON P w mg base T.zz 3 (yjs t (.b .ba)):=by
 o_head (T.zz.F,ysS)
 obtain⟨x,tl,rfl,hk,g,sg',q⟩:=h
 cases tl with
 | bare i =>
  cases hk
  refine⟨_,(yag (yam yaf)),?_⟩
  left
  exact q H (Same.refl H)
 | _=>cases hk
open TX K2 K3
theorem yme {b:Bool}{x y:Str}{a:List Nat}{σ:St}{H:Hp}{Q:VK}(hx:x=ofL a)(hy:y=ofL [])(q:Q (tV (opt b a)) H):if b=true then tC (.str x) σ H Q else tC (.str y) σ H Q:=by
 subst hx hy
 cases b with
 | true=>exact q
 | false=>exact q
theorem yaV (b:Bool)(a:List Nat):(opt b a).length<=a.length:=by unfold opt;split<;>simp
theorem yhM {h:Hd}(g:yjx h):(hdW h).length<=8:=by
 have:=ybl (i:=h.oc) ⟨by have:=g.2.1.1;omega,by have:=g.2.1.2;omega⟩
 have:=g.2.2
 unfold hdW
 rw[qC,qA]
 omega
theorem yct (c:Nat):∀ {ws:List (List Nat)},(∀ w∈ws,w.length<=8)->(ybS c ws).length<=9*ws.length
 | [],_=>Nat.zero_le _
 | [w],h=>by have:=h w (by simp);show w.length<=9*1;omega
 | w :: v :: ws,h=>by
  have:=h w (by simp)
  have ih:=yct c (ws:=v :: ws) λu hu=>h u (by simp[hu])
  rw[ybS,qA,qC]
  rw[qC (a:=w)]
  omega
theorem ygk {te:TS}{D:yeZ}{σ:St}{H:Hp}(P:St->Hp->Prop)(h1:∀ nx':St->Hp->Prop,(∀ σ H,P σ H->nx' σ H)->te { D with nx:=nx' } σ H)(h2:∀ σ H,P σ H->D.nx σ H):te D σ H:=h1 D.nx h2
theorem ytD:ON P w mg base T.zE 3 (yjs t .n):=by
 o_head (T.zE.F,sc_zE)
 obtain⟨x,tl,rfl,hk,g,sg',q⟩:=h
 cases tl with
 | note hs p ti be wd op cl =>
  obtain⟨y,dx,fs,rfl,ea,l,z,rfl,i1,i2⟩:=sg'
  obtain⟨⟨g1,g2⟩,gp,gw⟩:=g
  obtain⟨xs,el,is⟩:∃ xs,H l=some (.lst xs)/\Iss H xs (hs.map hdT):=by
   rw[hsT,Is] at i1
   obtain⟨a,xs,e,el,is⟩:=i1
   cases e
   exact⟨xs,el,is⟩
  refine⟨_,(yad (pst 1 sc_zE.nd (yck yaf (yaa (ybo (yaR (NB:=["head"]) (cap:=[none]) rfl) rfl (ycf (yaQ (pv 0) rfl)) (λ_ _ _ _=>pgb 0) (λ_ _ _ _=>yaZ) (λ_ _ _ _=>(pcm (yqy T) hr (yaa (pv 0) yab)))) yab))) (yad (pst 2 sc_zE.nd (yaJ (yaG (yaQ (pv 0) rfl)) yaf yaf)) (yad (pst 3 sc_zE.nd (yaJ (yaG (yaQ (pv 0) rfl)) yaf yaf)) (yad (pst 4 sc_zE.nd (yaJ (yaG (yaQ (pv 0) rfl)) yaf yaf)) (yad (pst 5 sc_zE.nd (yaJ (yaG (yaQ (pv 0) rfl)) yaf yaf)) (yad (pst 6 sc_zE.nd (yaJ (yap ya2 (yaQ (pv 0) rfl) yaf (yat _)) yaf (yay yaq yaf (yaQ (pv 0) rfl)))) (yag (yam (yay yaq (yay yaq (yay yaq (yay yaq (yay yaq (yay yaq (yay yaq (pv 1) yaf) (pcm (ynS T) hr (yaa (yaQ (pv 0) rfl) yab))) (pv 2)) (pv 3)) (pv 4)) (pv 5)) (pv 6)))))))))),?_⟩
  left
  refine⟨rfl,?_⟩
  left
  refine⟨y,_,dx,_,_,rfl,ea,T.Jb,T.Js,rfl,?_⟩
  refine⟨l,rfl,⟨_,SqL.of el⟩,λD hD=>ycZ (R:=λx h=>Is H x (hdT h)) (λh=>tV (hdW h)) el (yec is) hD (by omega) ?_ ?_⟩
  ·rintro x u H2 Q2 hm s2 rx k
   left
   exact⟨x,u,rfl,rx.same s2,g2 u hm,k _ (Same.refl _)⟩
  ·rintro H1 s1 hd
   left
   have lw:∀ w∈hs.map hdW,w.length<=8:=λw hw=>by
    obtain⟨h,hh,rfl⟩:=List.mem_map.mp hw
    exact yhM (g2 h hh)
   have lj:=yct 44 lw
   rw[qM] at lj
   refine yiD 44 (hs.map hdW) (by ac_rfl) (by rw[List.map_map];exact hd) (by have:=yhe lw;rw[qM] at this ⊢;omega) ?_
   have ea1:=s1 _ _ ea
   have qq:=q H1 s1
   left
   refine⟨y,_,dx,_,_,rfl,ea1,T.Jb,T.Jj,rfl,?_⟩
   left
   refine yme (a:=[126]) (by ac_rfl) (by ac_rfl) ?_
   left
   refine⟨y,_,dx,_,_,rfl,ea1,T.Jb,T.Je,rfl,?_⟩
   left
   refine yme (a:=[95]) (by ac_rfl) (by ac_rfl) ?_
   left
   refine⟨y,_,dx,_,_,rfl,ea1,T.Jb,T.Jt,rfl,?_⟩
   left
   refine yme (a:=[40]) (by ac_rfl) (by ac_rfl) ?_
   left
   refine⟨y,_,dx,_,_,rfl,ea1,T.Jb,T.Jm,rfl,?_⟩
   left
   refine yme (a:=[41]) (by ac_rfl) (by ac_rfl) ?_
   have ls:(yfQ wd).length<=41:=by unfold yfQ;split<;>simp only[qC,List.length_nil]<;>omega
   refine yaT (ycn (ygk (te:=ylK _ _) (fun σ H'=>σ=[some (.ref y),some (tV (ybS 44 (hs.map hdW))),some (tV (opt ti [126])),some (tV (opt be [95])),some (tV (opt op [40])),some (tV (opt cl [41])),some (tV (yfQ wd))]/\H'=H1) (λnx' hN=>?_) ?_))
   ·left
    refine⟨y,_,dx,_,_,rfl,ea1,T.Jb,T.Jo,rfl,?_⟩
    left
    refine⟨rfl,ybr ?_⟩
    by_cases e:wd=[]
    ·rw[decide_eq_true (show tV wd=V.str (Str.ofString "") by rw[e];decide +kernel),if_pos rfl,show V.str (Str.ofString "")=tV (yfQ wd) by rw[yfQ,if_pos e];decide +kernel]
     left
     exact hN _ _ ⟨rfl,rfl⟩
    ·have ne:¬ tV wd=V.str (Str.ofString ""):=λh=>e (by have:=congrArg (λv=>match v with | V.str z=>z.cps.toList | _=>[]) h;exact this)
     rw[decide_eq_false ne,if_neg (by simp)]
     left
     refine⟨y,_,dx,_,_,rfl,ea1,T.Jb,T.Jo,rfl,?_⟩
     refine ybe (a:=[58]) (b:=wd) (lit (by ac_rfl)) rfl (by rw[qS];omega) ?_
     rw[yaO,show[58]++wd=yfQ wd by rw[yfQ,if_neg e];rfl]
     left
     exact hN _ _ ⟨rfl,rfl⟩
   ·rintro σ H' ⟨rfl,rfl⟩
    left
    refine ybe (a:=ybS 44 (hs.map hdW)) (b:=[47]) rfl (lit (by ac_rfl)) (by rw[qS];omega) ?_
    rw[yaO]
    left
    refine⟨y,_,dx,_,_,rfl,ea1,T.Jb,T.Ji,rfl,?_⟩
    left
    refine⟨z,p,rfl,i2.same s1,yeU _ gp,?_⟩
    have lp:=yc6 gp
    refine ybe (b:=pcW p) rfl rfl (by rw[qA,qS];omega) ?_
    rw[yaO]
    left
    refine ybe (b:=opt ti [126]) rfl rfl (by have:=yaV ti [126];simp only[qA,qS] at *;omega) ?_
    rw[yaO]
    left
    refine ybe (b:=opt be [95]) rfl rfl (by have:=yaV ti [126];have:=yaV be [95];simp only[qA,qS] at *;omega) ?_
    rw[yaO]
    left
    refine ybe (b:=opt op [40]) rfl rfl (by have:=yaV ti [126];have:=yaV be [95];have:=yaV op [40];simp only[qA,qS] at *;omega) ?_
    rw[yaO]
    left
    refine ybe (b:=opt cl [41]) rfl rfl (by have:=yaV ti [126];have:=yaV be [95];have:=yaV op [40];have:=yaV cl [41];simp only[qA,qS] at *;omega) ?_
    rw[yaO]
    left
    refine ybe (b:=yfQ wd) rfl rfl (by have:=yaV ti [126];have:=yaV be [95];have:=yaV op [40];have:=yaV cl [41];simp only[qA,qS] at *;omega) ?_
    rw[yaO]
    exact qq
 | _=>cases hk
theorem yk9 (T:Txt K mg t):∀ i,FnOk P w K mg base CX0 3 (yix t i) (yib t i) ["self"] (yjs t i)
 | .n=>ytD T
 | .p=>yuo T
 | .w=>ysY T
 | .k=>ysT T
 | .m=>yuB T
 | .e=>yuG T
 | .b .be=>yub T
 | .b .en=>ys5 T
 | .b .cl=>ytH T
 | .b .fi=>ysW T
 | .b .ba=>ys8 T
open TX K2 K3
def yit (t:Ad)(f:List Nat->Option Tl):Sp:=λvs H Q _=>∃ cs,vs=[tV cs]/\cs.length<=90/\(f cs=none->∀ H',Same H H'->Q .non H')/\∀ tl,f cs=some tl->∀ x H',Same H H'->Sg t H' x tl->Q x H'
def ynH (cs:List Nat):Option Tl:=(ylJ cs).map Tl.key
def ycT (cs:List Nat):Option Tl:=(ybu cs).map λm=>Tl.metre m.1 m.2.1 m.2.2
def ydP (cs:List Nat):Option Tl:=(ybm cs).map Tl.pause
theorem ybM {H:Hp}{x dx:Addr}{o o':HO}(hx:H x=none)(hd:H dx=none):Same H (upd (upd (upd H dx (.own x)) x o) x o'):=λb u e=>by
 rw[yas (yak e hx),yas (yak e hx),yas (yak e hd)]
 exact e
theorem yrH {H:Hp}{p g:Addr}{a b:Int}{gs:List Int}(h:MetreAt H p g a b gs):Is H (.ref p) (mtT a b gs):=ya3 h.at' (yaj (yfS H _) (yaj (yfS H _) (yaj (ya3 h.gr (yc1 H gs)) (yaz H))))
theorem ytw:OF P w base T.zM 5 (yit t ynH):=by
 o_head (T.zM.F,sc_zM)
 obtain⟨cs,rfl,hw,q0,q1⟩:=h
 refine⟨_,(yad (pst 1 sc_zM.nd (pcm (yrM T) hr (yaa (pv 0) yab))) (yag (yam (yaJ (yap ycu (pv 1) yaK (yat _)) yaK (ybP T.JU (yrx T) (hrm hr) rfl T.JF T.zd.B .nil ybW (yaa (pv 1) yab)))))),?_⟩
 left
 refine⟨_,rfl,by rw[yaB];omega,λH1 s1=>?_⟩
 rw[yax]
 unfold ynH at q0 q1
 cases e:ylJ cs with
 | none =>
  rw[e] at q0
  left
  exact⟨rfl,_,rfl,q0 rfl _ s1⟩
 | some k =>
  rw[e] at q1
  left
  refine⟨rfl,ybr ?_⟩
  rw[decide_eq_false (by simp[yhg]),if_neg (by simp)]
  left
  intro x dx hx hd ne
  refine⟨x,dx,_,rfl,yac,rfl,?_⟩
  have sm:=ybM (o:=.ins t.Uq dx []) (o':=.ins t.Uq dx [("key",yhg (some k))]) hx hd
  exact q1 _ rfl _ _ (s1.trans sm) ⟨x,dx,_,rfl,yac,_,rfl,yfS _ _⟩
theorem yug:OF P w base T.zt 6 (yit t ycT):=by
 o_head (T.zt.F,sc_zt)
 obtain⟨cs,rfl,hw,q0,q1⟩:=h
 refine⟨_,(yad (pst 1 sc_zt.nd (pcm (yrG T) hr (yaa (pv 0) yab))) (yag (yam (yaJ (yap ycu (pv 1) yaK (yat _)) yaK (ybP T.JJ (yq9 T) (hrm hr) rfl T.Jw T.zb.B .nil ybW (yaa (pv 1) yab)))))),?_⟩
 left
 refine⟨_,.str,rfl,.str _,λz=>absurd rfl z,λw e=>?_⟩
 cases e
 unfold ycT at q0 q1
 refine⟨by rw[yaB];exact hw,λe H1 s1=>?_,λa b gs e p g H1 s1 hm=>?_⟩
 ·rw[yax] at e
  rw[e] at q0
  left
  exact⟨rfl,_,rfl,q0 rfl _ s1⟩
 ·rw[yax] at e
  rw[e] at q1
  left
  refine⟨rfl,ybr ?_⟩
  rw[decide_eq_false (by simp),if_neg (by simp)]
  left
  intro x dx hx hd ne
  refine⟨x,dx,_,rfl,yac,rfl,?_⟩
  have sm:=ybM (o:=.ins t.Ur dx []) (o':=.ins t.Ur dx [("metre",.ref p)]) hx hd
  exact q1 _ rfl _ _ (s1.trans sm) ⟨x,dx,_,rfl,yac,_,rfl,(yrH hm).same sm⟩
theorem ysj:OF P w base T.RU 5 (yit t ydP):=by
 o_head (T.RU.F,sc_zaC)
 obtain⟨cs,rfl,hw,q0,q1⟩:=h
 refine⟨_,(yad (pst 1 sc_zaC.nd (pcm (ynn T) hr (yaa (pv 0) yab))) (yag (yam (yaJ (yap ycu (pv 1) yaK (yat _)) yaK (ybP T.Ql (yrY T) (hrm hr) rfl T.JW T.zm.B .nil ybW (yaa (pv 1) yab)))))),?_⟩
 left
 unfold ydP at q0 q1
 refine⟨cs,rfl,by omega,λe H1 s1=>?_,λp e a H1 s1 ha ea=>?_⟩
 ·rw[e] at q0
  left
  exact⟨rfl,_,rfl,q0 rfl _ s1⟩
 ·rw[e] at q1
  left
  refine⟨rfl,ybr ?_⟩
  rw[decide_eq_false (by simp),if_neg (by simp)]
  left
  intro x dx hx hd ne
  refine⟨x,dx,_,rfl,yac,rfl,?_⟩
  have sm:=ybM (o:=.ins t.Um dx []) (o':=.ins t.Um dx [("piece",.ref a)]) hx hd
  exact q1 _ rfl _ _ (s1.trans sm) ⟨x,dx,_,rfl,yac,_,rfl,(yiP ea).same sm⟩
open TX K2 K3
theorem yp5:∀ (ws:List (List Nat)) (acc:Array Nat),((ws.map ofL).foldl (λacc p=>acc++(ofL []).cps++p.cps) acc).toList=acc.toList++ws.flatten
 | [],acc=>by simp
 | w :: ws,acc=>by
  rw[List.map_cons,List.foldl_cons,yp5 ws]
  simp[ofL]
theorem ytY (ws:List (List Nat)):PySem.Txt.join (ofL []) (ws.map ofL)=ofL ws.flatten:=by
 cases ws with
 | nil=>rfl
 | cons w ws =>
  apply yce
  show((ws.map ofL).foldl (λacc p=>acc++(ofL []).cps++p.cps) (ofL w).cps).toList=_
  rw[yp5,yax,List.flatten_cons]
  rfl
theorem ymi {ws:List (List Nat)}(h:(ws.map List.length).sum<=100000):JoinOk (ofL []) (ws.map ofL)=true:=by
 have f:∀ (ws:List (List Nat)) (k:Nat),(ws.map ofL).foldl (λx1 x2=>x1+x2.length+(ofL []).length) k=k+(ws.map List.length).sum:=λws=>by
  induction ws with
  | nil=>intro k;simp
  | cons w ws ih =>
   intro k
   rw[List.map_cons,List.foldl_cons,ih,List.map_cons,List.sum_cons,yaB]
   show k+w.length+0+_=_
   omega
 unfold JoinOk Builtin.Str.tooLong
 rw[List.foldl_toArray,f,decide_eq_false (by have:=(by decide:(100000:Nat)<=sizeLine);omega)]
 rfl
theorem yhL {s:Str}{H:Hp}{Q:VK}{p:Addr}(ws:List (List Nat))(hs:s=ofL [])(e:H p=some (.lst (ws.map tV)))(l:(ws.map List.length).sum<=100000)(q:Q (tV ws.flatten) H):ymd K (.str s) [.ref p] H Q:=by
 subst hs
 refine⟨ofL [],p,ws.map ofL,rfl,rfl,?_,ymi l,?_⟩
 ·rw[List.map_map];exact SqL.of e
 ·rw[ytY];exact q
theorem ydX:∀ l:List Nat,(l.map λc=>[c]).flatten=l
 | []=>rfl
 | c :: l=>by rw[List.map_cons,List.flatten_cons,ydX l];rfl
theorem yfC:∀ l:List Nat,((l.map λc=>[c]).map List.length).sum=l.length
 | []=>rfl
 | c :: l=>by rw[List.map_cons,List.map_cons,List.sum_cons,yfC l];simp only[qC,List.length_nil];omega
theorem yej {z:Str}{D:Addr}{tc:TT}{te:TE}{Fin:Hp->Prop}{o:Option V}{r:St}{H:Hp}(f:Nat->Bool)(hD:H D=none)(hz:z.cps.size<=900)
  (hc:∀ c (H':Hp) (Q:Bool->Hp->Prop),Same H H'->Q (f c) H'->tc (some (tV [c]) :: r) H' Q) (he:∀ c (H':Hp) (Q:VK),Q (tV [c]) H'->te (some (tV [c]) :: r) H' Q)
  (fin:∀ H',Same H H'->H' D=some (.lst (((z.cps.toList.filter f).map λc=>[c]).map tV))->Fin H') :
  ∃ W:Nat->Nat->St->Hp->Prop,(∃ m,W 0 m (o :: r) (upd H D (.lst [])))/\ydd (Its z) (ybt 0) tc te D Fin W:=by
 refine ydU (z:=z) (λi σ H'=>(∃ o,σ=o :: r)/\Same H H'/\H' D=some (.lst ((((z.cps.toList.take i).filter f).map λc=>[c]).map tV))) ⟨⟨_,rfl⟩,yae hD _,yac⟩ ?_ ?_
 ·rintro i c σ H' hx ⟨⟨o,rfl⟩,sm,hd⟩
  have hi:=(qE hx).1
  have et:z.cps.toList.take (i+1)=z.cps.toList.take i++[c]:=by rw[List.take_succ_eq_append_getElem hi,(qE hx).2]
  refine yaT ?_
  refine hc c H' _ sm ?_
  cases e:f c with
  | true =>
   rw[if_pos rfl]
   refine he c H' _ ⟨_,hd,?_,⟨_,rfl⟩,ybn hD sm,?_⟩
   ·rw[qM,qM]
    have:=List.length_filter_le f (z.cps.toList.take i)
    rw[qT] at this
    have:z.cps.toList.length=z.cps.size:=by simp
    exact yaD (by omega)
   ·rw[yac,et,List.filter_append,List.filter_cons_of_pos e,qP,qP]
    rfl
  | false =>
   rw[if_neg (by simp)]
   refine⟨⟨_,rfl⟩,sm,?_⟩
   rw[hd,et,List.filter_append,List.filter_cons_of_neg (by simp[e])]
   simp
 ·rintro σ H' ⟨_,sm,hd⟩
  rw[show z.cps.size=z.cps.toList.length by simp,List.take_length] at hd
  exact fin H' sm hd
noncomputable def sgL (l:List Nat):List Nat:=[126,95,40,41].filter λc=>decide (c∈l)
theorem ygi:∀ (s l:List Nat),s.Nodup->(∀ x∈s,x∈l)->s.length<=l.length
 | [],l,_,_=>Nat.zero_le _
 | x :: s,l,n,h=>by
  rw[List.nodup_cons] at n
  have hx:=h x (by simp)
  have ih:=ygi s (l.erase x) n.2 λy hy=>(List.mem_erase_of_ne (λe:y=x=>n.1 (by rw[← e];exact hy))).mpr (h y (by simp[hy]))
  rw[List.length_erase_of_mem hx] at ih
  have:=List.length_pos_of_mem hx
  rw[qC]
  omega
theorem ypq (l:List Nat):(sgL l).length<=l.length:=ygi _ _ (List.Pairwise.filter _ (by decide:([126,95,40,41]:List Nat).Nodup)) λx hx=>by
 have:=(List.mem_filter.mp hx).2
 simpa using this
theorem ynl (l:List Nat):(sgL l).length<=4:=List.length_filter_le _ _
theorem ydC (l:List Nat)(c:Nat):(!(Builtin.Str.occurrences (ofL l) (ofL [c]) 0 (ofL l).length 1).isEmpty)=decide (c∈l):=yh0 (ofL l) c
open TX K2 K3
def HsV (H:Hp)(x:V)(o:Option (List Hd)):Prop:=(o=none/\x=.non)∨∃ hs,o=some hs/\Is H x (hsT hs)
theorem HsV.same {H H':Hp}{x:V}{o:Option (List Hd)}(s:Same H H')(h:HsV H x o):HsV H' x o:=h.imp id λ⟨hs,e,i⟩=>⟨hs,e,i.same s⟩
def ynb:Sp:=λvs H Q _=>∃ cs,vs=[tV cs]/\cs.length<=90/\∀ x H',Same H H'->HsV H' x (ybk cs)->Q x H'
theorem yr0 {fa:Addr}{fd:FuncData}{k:Nat}{ps:List Str}(G:FnOk P w K mg base CX0 k fa fd ps yf1):FnOk P w K mg base CX0 k fa fd ps ynb:=G.imp λvs H Q E h=>by
 obtain⟨cs,rfl,l,q⟩:=h
 exact⟨cs,rfl,l,λe H' s=>q _ _ s (.inl ⟨e,rfl⟩),λhs e x H' s i=>q _ _ s (.inr ⟨hs,e,i⟩)⟩
def PcV (H:Hp)(x:V)(o:Option Pc):Prop:=(o=none/\x=.non)∨∃ p,o=some p/\Is H x (pcT p)
def ymz:Sp:=λvs H Q _=>∃ cs,vs=[tV cs]/\cs.length<=600/\∀ x H',Same H H'->PcV H' x (ybm cs)->Q x H'
theorem yqD {fa:Addr}{fd:FuncData}{k:Nat}{ps:List Str}(G:FnOk P w K mg base CX0 k fa fd ps ygx):FnOk P w K mg base CX0 k fa fd ps ymz:=G.imp λvs H Q E h=>by
 obtain⟨cs,rfl,l,q⟩:=h
 exact⟨cs,rfl,l,λe H' s=>q _ _ s (.inl ⟨e,rfl⟩),λp e a H' s _ i=>q _ _ s (.inr ⟨p,e,yiP i⟩)⟩
def yg0 (cs:List Nat):List Nat:=(yaH 47 cs).1
noncomputable def yaP (cs:List Nat):List Nat×Bool×List Nat:=yaH 58 (yaH 47 cs).2.2
def yc7 (cs:List Nat):Option Tl:=(ybk (yg0 cs)).bind λhs=>if ((yaP cs).2.1&&!ycH (ofL (yaP cs).2.2))=true then none else
 (ybm ((yaP cs).1.take ((yaP cs).1.length - (sgL (yaP cs).1).length))).bind λp=>if sgL (yaP cs).1 <:+ (yaP cs).1 then some (.note hs p (decide (126∈sgL (yaP cs).1)) (decide (95∈sgL (yaP cs).1)) (yaP cs).2.2 (decide (40∈sgL (yaP cs).1)) (decide (41∈sgL (yaP cs).1))) else none
theorem yjt {σ:St}{H:Hp}{Q:Option Int->Hp->Prop}(q:Q none H):yfp σ H Q:=q
theorem ybC {te:TE}{σ:St}{H:Hp}{Q:Option Int->Hp->Prop}(q:te σ H λx H1=>∃ i,x=.int i/\Q (some i) H1):yl2 te σ H Q:=q
theorem yql:OF P w base T.RV 5 (yit t yc7):=by
 o_head (T.RV.F,sc_zaL)
 obtain⟨cs,rfl,hw,q0,q1⟩:=h
 refine⟨_,(yad (pst 1 sc_zaL.nd (ydf (pv 0) (yaa yaf yab))) (yad (pst 2 sc_zaL.nd (pcl (yr0 (yr5 T)) hr T.RB (yaa (xT (pv 1)) yab))) (yad (ycR (i:=3) sc_zaL.nd rfl (Or.inr rfl) (ydf (xT (pv 1)) (yaa yaf yab))) (yad (pst 4 sc_zaL.nd (xT (pv 3))) (yad (yaI (PW.pt (ybE (yap ycu (pv 2) yaK (yat _)) (ybp (PW.pt (yfW (yap ya2 (xT (pv 3)) yaf (yat _)) (yet (ybf (yaG (pcm (yt0 T) hr (yaa (pv 4) yab)))))))))) (yag (yam yaK)) yau) (yad (pst 5 sc_zaL.nd (yck yaf (yaa (ybo (yaR (NB:=["sign","behind"]) (cap:=[none,some 3]) rfl) rfl (yeP (yi9 rfl T.JR)) (λ_ _ _ _=>pgb 0) (λ_ _ _ _=>(ydW (yap ybZ (pv 0) (ya5 (show IxR _ (ylD K) from ycJ) (pv 1) yah (λ_ _=>rfl)) rfl))) (λ_ _ _ _=>(pv 0))) yab))) (yad (pst 6 sc_zaL.nd (pcl (yqD (ynn T)) hr T.RA (yaa (yaW ybX (xT (pv 3)) ybB (yaX (yay yiy (pln T.Jc (yaa (xT (pv 3)) yab)) (pln T.Jc (yaa (pv 5) yab))))) yab))) (yad (yaI (PW.pt (ybE (yap ycu (pv 6) yaK (yat _)) (ybp (ybf (yaG (yiE (xT (pv 3)) (yaa (pv 5) yab))))))) (yag (yam yaK)) yau) (yag (yam (ybP T.Qu (yrZ T) (hrm hr) rfl T.Qh T.zq.B .nil ybW (yaa (pv 2) (yaa (pv 6) (yaa (yaS ybZ yaf (pv 5) rfl) (yaa (yaS ybZ yaf (pv 5) rfl) (yaa (pv 4) (yaa (yaS ybZ yaf (pv 5) rfl) (yaa (yaS ybZ yaf (pv 5) rfl) yab)))))))))))))))))),?_⟩
 left
 refine⟨rfl,?_⟩
 left
 refine⟨_,_,rfl,rfl,by ac_rfl,by rw[yaB];exact ybI (by omega),λp1 hp1=>?_⟩
 rw[show Str.ofString "/"=one 47 by ac_rfl,ypx,yax]
 have l1:=ycA 47 cs
 have l2:=ycA 58 (yaH 47 cs).2.2
 have s1:=yae hp1 (.tup [.str (ofL (yaH 47 cs).1),.str (if (yaH 47 cs).2.1=true then one 47 else Str.empty),.str (ofL (yaH 47 cs).2.2)])
 have e1:upd H p1 (.tup [.str (ofL (yaH 47 cs).1),.str (if (yaH 47 cs).2.1=true then one 47 else Str.empty),.str (ofL (yaH 47 cs).2.2)]) p1=_:=yac
 generalize upd H p1 _=H1 at s1 e1 ⊢
 left
 refine ybh 0 (SqT.of e1) ?_
 left
 refine⟨(yaH 47 cs).1,rfl,by omega,λhv H2 s2 hh=>?_⟩
 left
 refine ybh 2 (SqT.of (s2 _ _ e1)) ?_
 left
 refine⟨rfl,?_⟩
 left
 refine⟨_,_,rfl,rfl,by ac_rfl,by rw[yaB];exact ybI (by omega),λp2 hp2=>?_⟩
 rw[show Str.ofString ":"=one 58 by ac_rfl,ypx,yax]
 have s3:=yae hp2 (.tup [.str (ofL (yaP cs).1),.str (if (yaP cs).2.1=true then one 58 else Str.empty),.str (ofL (yaP cs).2.2)])
 have e3:upd H2 p2 (.tup [.str (ofL (yaP cs).1),.str (if (yaP cs).2.1=true then one 58 else Str.empty),.str (ofL (yaP cs).2.2)]) p2=_:=yac
 show ybt _ _ _ (upd H2 p2 (.tup [.str (ofL (yaP cs).1),.str (if (yaP cs).2.1=true then one 58 else Str.empty),.str (ofL (yaP cs).2.2)])) _
 generalize upd H2 p2 _=H3 at s3 e3 ⊢
 have l3:(yaP cs).1.length<=90/\(yaP cs).2.2.length<=90:=⟨by unfold yaP;omega,by unfold yaP;omega⟩
 have h3:=hh.same s3
 have s03:=(s1.trans s2).trans s3
 left
 refine ybh 2 (SqT.of e3) ?_
 have nN:ybk (yg0 cs)=none->Q .non H3:=λz=>q0 (by unfold yc7;rw[z];rfl) _ s03
 refine yaT (ycn (ygk (te:=yo3 _ _ _) (fun σ H4=>σ=[some (tV cs),some (.ref p1),some hv,some (.ref p2),some (tV (yaP cs).2.2),none,none]/\Same H3 H4/\((yaP cs).2.1&&!ycH (ofL (yaP cs).2.2))=false/\∃ hs,ybk (yg0 cs)=some hs/\Is H3 hv (hsT hs)) (λnx' hN=>?_) ?_))
 ·left
  rcases h3 with ⟨z,rfl⟩ | ⟨hs,z,ih⟩
  ·exact⟨rfl,_,rfl,nN z⟩
  ·have z:ybk (yg0 cs)=some hs:=z
   have nv:hv≠.non:=λe=>by
    rw[e,hsT,Is] at ih
    obtain⟨a,xs,e',_⟩:=ih
    cases e'
   refine⟨rfl,ybr ?_⟩
   rw[decide_eq_false nv,if_neg (by simp)]
   left
   refine ybh 1 (SqT.of e3) ?_
   left
   have bad:((yaP cs).2.1&&!ycH (ofL (yaP cs).2.2))=true->∀ H4,Same H3 H4->Q .non H4:=λy H4 s4=>q0 (by unfold yc7;rw[z];exact if_pos y) _ (s03.trans s4)
   cases c:(yaP cs).2.1 with
   | false =>
    rw[c] at bad
    refine⟨rfl,ybr ?_⟩
    rw[decide_eq_false (by ac_rfl),if_neg (by simp)]
    left
    exact hN _ _ ⟨rfl,Same.refl _,by rw[c];rfl,hs,z,ih⟩
   | true =>
    rw[c] at bad
    refine⟨rfl,ybr ?_⟩
    rw[decide_eq_true (by ac_rfl),if_pos rfl]
    left
    refine⟨_,.str,rfl,.str _,λz=>absurd rfl z,λw e=>?_⟩
    cases e
    refine⟨by rw[yaB];omega,λH4 s4=>ybr ?_⟩
    cases y:ycH (ofL (yaP cs).2.2) with
    | false =>
     rw[y] at bad
     left
     exact bad rfl _ s4
    | true =>
     left
     rw[if_neg (by simp)]
     left
     exact hN _ _ ⟨rfl,s4,by rw[c,y];rfl,hs,z,ih⟩
 ·rintro σ H4 ⟨rfl,s4,cg,hs,z,ih⟩
  have e4:=s4 _ _ e3
  left
  refine⟨rfl,?_⟩
  refine ybV ⟨_,rfl,λD hD=>yej (λc=>decide (c∈(yaP cs).1)) hD (by ac_rfl) (λc H5 Q5 s5 k=>?_) (λc H5 Q5 k=>⟨_,rfl,k⟩) λH5 s5 hd=>?_⟩
  ·left
   refine ybh 0 (SqT.of (s5 _ _ e4)) ?_
   refine⟨_,_,rfl,rfl,?_⟩
   rw[ydC]
   exact ybr k
  ·have eg:(Str.ofString "~_()").cps.toList.filter (λc=>decide (c∈(yaP cs).1))=sgL (yaP cs).1:=by
    unfold sgL
    rw[show(Str.ofString "~_()").cps.toList=[126,95,40,41] by ac_rfl]
   rw[eg] at hd
   have e5:=s5 _ _ e4
   left
   have g4:=ynl (yaP cs).1
   have gl:=ypq (yaP cs).1
   refine yhL _ (by ac_rfl) hd (by rw[yfC];omega) ?_
   rw[ydX]
   left
   refine ybh 0 (SqT.of e5) ?_
   left
   refine yjt (ybC ?_)
   left
   refine ybh 0 (SqT.of e5) ?_
   left
   refine⟨_,rfl,ofS (by omega),?_⟩
   left
   refine⟨_,rfl,ofS (by omega),?_⟩
   rw[yaB,yaB]
   left
   refine⟨_,rfl,_,rfl,ofS (by omega),?_⟩
   rw[show((yaP cs).1.length:Int) - ((sgL (yaP cs).1).length:Int)=(((yaP cs).1.length - (sgL (yaP cs).1).length:Nat):Int) by omega,yhP _ (by omega)]
   left
   refine⟨_,rfl,by rw[qT];omega,λpv H6 s6 hp=>?_⟩
   have s06:=((s03.trans s4).trans s5).trans s6
   have e6:=s6 _ _ e5
   left
   unfold yc7 at q0 q1
   rw[z] at q0 q1
   have cg':¬ ((yaP cs).2.1&&!ycH (ofL (yaP cs).2.2))=true:=by rw[cg];simp
   rcases hp with ⟨y,rfl⟩ | ⟨p,y,ip⟩
   ·refine⟨rfl,_,rfl,?_⟩
    exact q0 ((if_neg cg').trans (by rw[y];rfl)) _ s06
   ·have nv:pv≠.non:=λe=>by
     obtain⟨a,rfl,_⟩:=Is.three ip
     cases e
    refine⟨rfl,ybr ?_⟩
    rw[decide_eq_false nv,if_neg (by simp)]
    left
    refine ybh 0 (SqT.of e6) ?_
    refine⟨rfl,?_⟩
    left
    refine⟨_,_,rfl,rfl,?_⟩
    rw[ylz]
    left
    by_cases v:sgL (yaP cs).1 <:+ (yaP cs).1
    ·rw[decide_eq_true v,if_neg (by simp)]
     have ih':=ih
     rw[hsT,Is] at ih'
     obtain⟨l,xs,rfl,el,_⟩:=ih'
     left
     refine⟨_,_,rfl,rfl,?_⟩
     rw[show Str.ofString "~"=ofL [126] by ac_rfl,ydC]
     left
     refine⟨_,_,rfl,rfl,?_⟩
     rw[show Str.ofString "_"=ofL [95] by ac_rfl,ydC]
     left
     refine⟨_,_,rfl,rfl,?_⟩
     rw[show Str.ofString "("=ofL [40] by ac_rfl,ydC]
     left
     refine⟨_,_,rfl,rfl,?_⟩
     rw[show Str.ofString ")"=ofL [41] by ac_rfl,ydC]
     left
     intro x dx hx hd ne
     have s46:=(s4.trans s5).trans s6
     have up:Same H6 (upd (upd H6 dx (.own x)) x (.ins t.Ul dx [])):=λb u e=>by
      rw[yas (yak e hx),yas (yak e hd)]
      exact e
     refine⟨x,dx,l,xs,pv,_,_,_,_,_,rfl,yac,up _ _ (s46 _ _ el),λl' hl'=>⟨rfl,?_⟩⟩
     have nl:l'≠x:=λe=>by rw[e,yac] at hl';cases hl'
     have fin:∀ b u,H6 b=some u->upd (upd (upd (upd H6 dx (.own x)) x (.ins t.Ul dx [])) l' (.lst xs)) x (.ins t.Ul dx (nFs l' pv (decide (126∈sgL (yaP cs).1)) (decide (95∈sgL (yaP cs).1)) (yaP cs).2.2 (decide (40∈sgL (yaP cs).1)) (decide (41∈sgL (yaP cs).1)))) b=some u:=λb u e=>by
      rw[yas (yak e hx),yas (yak (up _ _ e) hl')]
      exact up _ _ e
     refine q1 (.note hs p (decide (126∈sgL (yaP cs).1)) (decide (95∈sgL (yaP cs).1)) (yaP cs).2.2 (decide (40∈sgL (yaP cs).1)) (decide (41∈sgL (yaP cs).1))) ((if_neg cg').trans (by rw[y];exact if_pos v)) _ _ (s06.trans fin) ⟨x,dx,_,rfl,yac,l',pv,rfl,?_,ip.same fin⟩
     have ih6:=(ih.same s46).same fin
     rw[hsT,Is] at ih6
     obtain⟨l2,xs2,e2,el2,is2⟩:=ih6
     cases e2
     have ex:xs2=xs:=by
      have:=fin _ _ (s46 _ _ el)
      rw[this] at el2
      cases el2
      rfl
     subst ex
     exact yeG (by rw[yas nl,yac]) is2
    ·rw[decide_eq_false v,if_pos (by rfl)]
     left
     exact q0 ((if_neg cg').trans (by rw[y];exact if_neg v)) _ s06
open TX K2 K3
theorem ydx (T:Txt K mg t):∀ i,Cls K (gC t i):=ycS T
theorem yg7 (T:Txt K mg t):∀ i,Cls K (gC t i):=ycS T
def ycx (n:Int):List Tl:=[.whole n,.bare .be,.bare .en,.ending 1,.ending 2,.bare .cl,.bare .fi,.bare .ba]
def ydD (n:Int)(cs:List Nat):Option Tl:=match (ycx n).find? λtl=>decide (wrW tl=cs) with
 | some tl=>some tl
 | none=>if cs.head?=some 107 then ynH (cs.drop 1) else if cs.head?=some 109 then ycT (cs.drop 1) else if [114,47] <+: cs then ydP (cs.drop 2) else yc7 cs
def ylU (t:Ad):Sp:=λvs H Q _=>∃ x k n,vs=[x,.int n]/\KndOf H x k/\(k≠.str->Q .non H)/\∀ w:Str,x=.str w->w.length<=90/\(ydD n w.cps.toList=none->∀ H',Same H H'->Q .non H')/\∀ tl,ydD n w.cps.toList=some tl->∀ x H',Same H H'->Sg t H' x tl->Q x H'
theorem ykA {H:Hp}{x dx:Addr}{tl:Tl}{fs:List (Str×V)}(hx:H x=none)(hd:H dx=none)(f:∀ H',Fs H' fs tl):∃ H',H'=upd (upd (upd H dx (.own x)) x (.ins (gC t (yc8 tl)) dx [])) x (.ins (gC t (yc8 tl)) dx fs)/\Same H H'/\Sg t H' (.ref x) tl:=⟨_,rfl,ybM hx hd,x,dx,fs,rfl,yac,f _⟩
theorem yer {H:Hp}{x dx:Addr}{i:ypC}(hx:H x=none)(hd:H dx=none):∃ H',H'=upd (upd H dx (.own x)) x (.ins (gC t (.b i)) dx [])/\Same H H'/\Sg t H' (.ref x) (.bare i):=⟨_,rfl,λb u e=>by rw[yas (yak e hx),yas (yak e hd)];exact e,x,dx,[],rfl,yac,rfl⟩
theorem yoy (x:List Nat)(y:List Nat):Txt.startswith (ofL x) (ofL y)=decide (y <+: x):=by
 unfold Txt.startswith Builtin.Str.subAt
 have lx:(ofL x).length=x.length:=rfl
 have ly:(ofL y).length=y.length:=rfl
 rw[lx,ly,Nat.zero_add]
 by_cases h:y.length<=x.length
 ·rw[decide_eq_true h,Bool.true_and]
  have e1:(ofL x).cps.extract 0 y.length=(x.take y.length).toArray:=by
   show x.toArray.extract _ _=_
   rw[List.extract_toArray,List.extract_eq_drop_take]
   simp
  rw[e1]
  show((x.take y.length).toArray==y.toArray)=_
  rw[Bool.eq_iff_iff,decide_eq_true_eq,List.prefix_iff_eq_take]
  simp only[beq_iff_eq]
  exact⟨λe=>by have:=congrArg Array.toList e;exact this.symm,λe=>by rw[← e]⟩
 ·rw[decide_eq_false h,Bool.false_and,decide_eq_false λz=>h z.length_le]
theorem ygc {a b:List Nat}(h:tV a=tV b):a=b:=by
 have:=congrArg (λv=>match v with | V.str z=>z.cps.toList | _=>[]) h
 exact this
theorem ygK {α:Type}{p:α->Bool}:∀ {l:List α} {i:Nat} (hi:i < l.length),(l.take i).find? p=none->p l[i]=true->l.find? p=some l[i]
 | a :: l,0,_,_,h=>List.find?_cons_of_pos h
 | a :: l,i+1,hi,n,h=>by
  rw[List.take_succ_cons,List.find?_cons] at n
  cases e:p a with
  | true=>rw[e] at n;cases n
  | false =>
   rw[e] at n
   rw[List.find?_cons_of_neg (by rw[e];simp)]
   exact ygK (l:=l) (by simpa using hi) n h
theorem yll:OF P w base T.RT 7 (ylU t):=by
 o_head (T.RT.F,sc_zaH)
 obtain⟨x,k,n,rfl,hk,qn,qs⟩:=h
 refine⟨_,(yad (yaI (ybf (yaG (yar ya0 rfl T.Ja yal (yaa (pv 0) (yaa (ybG rfl T.Jq ybb) yab))))) (yag (yam yaK)) yau) (yad (ycd PassesOwn.never rfl (ycf (yaN (yaa (ybP T.Qm (yrf T) (hrm hr) rfl T.JX T.zo.B .nil ybW (yaa (pv 1) yab)) (yaa (yc5 T.Qn rfl T.JY) (yaa (yc5 T.QH rfl T.Qt) (yaa (ybP T.JN (yoQ T) (hrm hr) rfl T.JB T.zj.B .nil ybW (yaa yah yab)) (yaa (ybP T.JN (yoQ T) (hrm hr) rfl T.JB T.zj.B .nil ybW (yaa yah yab)) (yaa (yc5 T.Qo rfl T.JZ) (yaa (yc5 T.Qv rfl T.Qi) (yaa (yc5 T.Qw rfl T.Qj) yab)))))))))) (pgs 2 sc_zaH.nd) (yag (yaI (yap ya2 (ybU (pv 2) (ydx T) (ydB T) (yk9 T) (hrm hr) (ydE T) ybW) (pv 0) (yat _)) (yag (yam (pv 2))) yau))) (yad (yaI (yaG (ycq (pv 0) (yaa yaf yab))) (yag (yam (pcm (ytw T) hr (yaa (yaW ybX (pv 0) (yaX yah) ybB) yab)))) yau) (yad (yaI (yaG (ycq (pv 0) (yaa yaf yab))) (yag (yam (pcm (yug T) hr (yaa (yaW ybX (pv 0) (yaX yah) ybB) yab)))) yau) (yad (yaI (yaG (ycq (pv 0) (yaa yaf yab))) (yag (yam (pcm (ysj T) hr (yaa (yaW ybX (pv 0) (yaX yah) ybB) yab)))) yau) (yag (yam (pcm (yql T) hr (yaa (pv 0) yab))))))))),?_⟩
 left
 refine ykL hk (ybr ?_)
 cases hk with
 | str w' =>
  obtain⟨hw,q0,q1⟩:=qs w' rfl
  obtain⟨cs,rfl⟩:∃ cs,w'=ofL cs:=⟨_,(ycL w').symm⟩
  rw[yax] at q0 q1
  rw[yaB] at hw
  rw[if_neg (by decide)]
  refine ykI ?_
  dsimp only
  refine ycn (ygk (te:=ylq _ _ _) (fun σ H'=>(∃ o,σ=[some (tV cs),some (.int n),o])/\Same H H'/\(ycx n).find? (λtl=>decide (wrW tl=cs))=none) (λnx' hN=>?_) ?_)
  ·refine ysr (yo9 (ybV ?_))
   refine yhY (ybV (yj6 rfl (ydu ?_)))
   intro x1 d1 hx1 hd1 _
   refine⟨x1,d1,_,rfl,yac,rfl,?_⟩
   obtain⟨H1,eH1,s1,g1⟩:=ykA (t:=t) (tl:=.whole n) (fs:=[("length",.int n)]) hx1 hd1 λH'=>⟨_,rfl,yfS _ _⟩
   show ycO _ _ _ (upd (upd (upd H d1 (.own x1)) x1 (.ins (gC t (yc8 (.whole n))) d1 [])) x1 (.ins (gC t (yc8 (.whole n))) d1 [("length",.int n)])) _
   rw[← eH1]
   refine ybV ?_
   intro x2 d2 hx2 hd2 _
   obtain⟨H2,eH2,s2,g2⟩:=yer (t:=t) (i:=.be) hx2 hd2
   show ycO _ _ _ (upd (upd H1 d2 (.own x2)) x2 (.ins (gC t (.b .be)) d2 [])) _
   rw[← eH2]
   refine ybV ?_
   intro x3 d3 hx3 hd3 _
   obtain⟨H3,eH3,s3,g3⟩:=yer (t:=t) (i:=.en) hx3 hd3
   show ycO _ _ _ (upd (upd H2 d3 (.own x3)) x3 (.ins (gC t (.b .en)) d3 [])) _
   rw[← eH3]
   refine ybV ?_
   refine yhY (ybV (i_c (ydu ?_)))
   intro x4 d4 hx4 hd4 _
   refine⟨x4,d4,_,rfl,yac,rfl,?_⟩
   obtain⟨H4,eH4,s4,g4⟩:=ykA (t:=t) (tl:=.ending 1) (fs:=[("number",.int 1)]) hx4 hd4 λH'=>⟨_,rfl,yfS _ _⟩
   show ycO _ _ _ (upd (upd (upd H3 d4 (.own x4)) x4 (.ins (gC t (yc8 (.ending 1))) d4 [])) x4 (.ins (gC t (yc8 (.ending 1))) d4 [("number",.int 1)])) _
   rw[← eH4]
   refine ybV ?_
   refine yhY (ybV (i_c (ydu ?_)))
   intro x5 d5 hx5 hd5 _
   refine⟨x5,d5,_,rfl,yac,rfl,?_⟩
   obtain⟨H5,eH5,s5,g5⟩:=ykA (t:=t) (tl:=.ending 2) (fs:=[("number",.int 2)]) hx5 hd5 λH'=>⟨_,rfl,yfS _ _⟩
   show ycO _ _ _ (upd (upd (upd H4 d5 (.own x5)) x5 (.ins (gC t (yc8 (.ending 2))) d5 [])) x5 (.ins (gC t (yc8 (.ending 2))) d5 [("number",.int 2)])) _
   rw[← eH5]
   refine ybV ?_
   intro x6 d6 hx6 hd6 _
   obtain⟨H6,eH6,s6,g6⟩:=yer (t:=t) (i:=.cl) hx6 hd6
   show ycO _ _ _ (upd (upd H5 d6 (.own x6)) x6 (.ins (gC t (.b .cl)) d6 [])) _
   rw[← eH6]
   refine ybV ?_
   intro x7 d7 hx7 hd7 _
   obtain⟨H7,eH7,s7,g7⟩:=yer (t:=t) (i:=.fi) hx7 hd7
   show ycO _ _ _ (upd (upd H6 d7 (.own x7)) x7 (.ins (gC t (.b .fi)) d7 [])) _
   rw[← eH7]
   refine ybV ?_
   intro x8 d8 hx8 hd8 _
   obtain⟨H8,eH8,s8,g8⟩:=yer (t:=t) (i:=.ba) hx8 hd8
   show ylc _ (upd (upd H7 d8 (.own x8)) x8 (.ins (gC t (.b .ba)) d8 [])) _
   rw[← eH8]
   refine ydu ?_
   have al:Al (λx tl=>Sg t H8 x tl) [V.ref x1,V.ref x2,V.ref x3,V.ref x4,V.ref x5,V.ref x6,V.ref x7,V.ref x8] (ycx n):=⟨rfl,λi hi=>match i,hi with
    | 0,_=>⟨_,rfl,(Sg.same s8 (Sg.same s7 (Sg.same s6 (Sg.same s5 (Sg.same s4 (Sg.same s3 (Sg.same s2 g1)))))))⟩
    | 1,_=>⟨_,rfl,(Sg.same s8 (Sg.same s7 (Sg.same s6 (Sg.same s5 (Sg.same s4 (Sg.same s3 g2))))))⟩
    | 2,_=>⟨_,rfl,(Sg.same s8 (Sg.same s7 (Sg.same s6 (Sg.same s5 (Sg.same s4 g3)))))⟩
    | 3,_=>⟨_,rfl,(Sg.same s8 (Sg.same s7 (Sg.same s6 (Sg.same s5 g4))))⟩
    | 4,_=>⟨_,rfl,(Sg.same s8 (Sg.same s7 (Sg.same s6 g5)))⟩
    | 5,_=>⟨_,rfl,(Sg.same s8 (Sg.same s7 g6))⟩
    | 6,_=>⟨_,rfl,(Sg.same s8 g7)⟩
    | 7,_=>⟨_,rfl,g8⟩
    | i+8,hi=>absurd hi (by show ¬ i+8 < 8;omega)⟩
   have gd:∀ tl∈ycx n,TlG tl:=λtl h=>by
    simp only[ycx,List.mem_cons,qk,or_false] at h
    rcases h with rfl | rfl | rfl | rfl | rfl | rfl | rfl | rfl<;>first | trivial | exact⟨by decide,by decide⟩
   have s08:Same H H8:=s1.trans (s2.trans (s3.trans (s4.trans (s5.trans (s6.trans (s7.trans s8))))))
   refine⟨by show 8<=sizeLine;decide,λp hp=>⟨p,rfl,⟨_,SqL.of yac⟩,?_⟩⟩
   have s9:=yae hp (.lst [V.ref x1,V.ref x2,V.ref x3,V.ref x4,V.ref x5,V.ref x6,V.ref x7,V.ref x8])
   have e9:upd H8 p (.lst [V.ref x1,V.ref x2,V.ref x3,V.ref x4,V.ref x5,V.ref x6,V.ref x7,V.ref x8]) p=_:=yac
   generalize upd H8 p _=H9 at s9 e9 ⊢
   refine ygE (xs:=[V.ref x1,V.ref x2,V.ref x3,V.ref x4,V.ref x5,V.ref x6,V.ref x7,V.ref x8]) (λi σ H'=>(∃ o,σ=[some (tV cs),some (.int n),o])/\Same H9 H'/\((ycx n).take i).find? (λtl=>decide (wrW tl=cs))=none) ⟨⟨_,rfl⟩,Same.refl _,rfl⟩ (λi σ H' _ h=>SqL.of (h.2.1 _ _ e9)) ?_ ?_
   ·rintro i x σ H' N hN' hx ⟨⟨o,rfl⟩,sm,no⟩
    have hi:i < (ycx n).length:=(qE hx).1
    obtain⟨x',e,sg⟩:=al.2 i hi
    rw[hx] at e
    cases e
    have sg':=(sg.same s9).same sm
    obtain⟨a,dx,fs,rfl,ea,_,lw,_⟩:=sg'.at
    have et:(ycx n).take (i+1)=(ycx n).take i++[(ycx n)[i]]:=List.take_succ_eq_append_getElem hi
    refine yaT ?_
    left
    refine⟨_,a,dx,fs,rfl,ea,lw,_,_,rfl,rfl,gd _ (List.getElem_mem hi),sg',λH2 s2'=>?_⟩
    left
    refine⟨rfl,ybr ?_⟩
    by_cases c:wrW (ycx n)[i]=cs
    ·rw[decide_eq_true (by rw[c]),if_pos rfl]
     left
     refine q1 (ycx n)[i] ?_ _ _ ((s08.trans s9).trans (sm.trans s2')) (sg'.same s2')
     unfold ydD
     rw[ygK (p:=λtl=>decide (wrW tl=cs)) hi no (by simpa using c)]
    ·rw[decide_eq_false (λz=>c (ygc z)),if_neg (by simp)]
     left
     refine hN' _ _ ⟨⟨_,rfl⟩,sm.trans s2',?_⟩
     rw[et,List.find?_append,no]
     simp[c]
   ·rintro σ H' ⟨⟨o,rfl⟩,sm,no⟩
    exact hN _ _ ⟨⟨_,rfl⟩,(s08.trans s9).trans sm,no⟩
  ·rintro σ H' ⟨⟨o,rfl⟩,sm,no⟩
   have e:ydD n cs=if cs.head?=some 107 then ynH (cs.drop 1) else if cs.head?=some 109 then ycT (cs.drop 1) else if [114,47] <+: cs then ydP (cs.drop 2) else yc7 cs:=by
    unfold ydD
    rw[no]
   rw[e] at q0 q1
   have ld:∀ k,(cs.drop k).length<=90:=λk=>by rw[List.length_drop];omega
   have l1:∀ c,cs.head?=some c->1<=cs.length:=λc z=>by cases cs with | nil=>cases z | cons _ _=>simp
   left
   refine⟨rfl,?_⟩
   left
   refine⟨_,_,rfl,rfl,?_⟩
   rw[show Str.ofString "k"=one 107 by ac_rfl,ydc,yax]
   left
   by_cases c1:cs.head?=some 107
   ·rw[if_pos c1] at q0 q1
    rw[decide_eq_true c1,if_pos rfl]
    left
    refine ybC (i_c ⟨1,rfl,yjt ⟨_,rfl,ofS (by omega),?_⟩⟩)
    rw[show(1:Int)=((1:Nat):Int) from rfl,ydF _ (l1 _ c1)]
    left
    exact⟨_,rfl,ld 1,λz H2 s2=>q0 z _ (sm.trans s2),λtl z x H2 s2 g=>q1 tl z _ _ (sm.trans s2) g⟩
   rw[if_neg c1] at q0 q1
   rw[decide_eq_false c1,if_neg (by simp)]
   left
   refine⟨rfl,?_⟩
   left
   refine⟨_,_,rfl,rfl,?_⟩
   rw[show Str.ofString "m"=one 109 by ac_rfl,ydc,yax]
   left
   by_cases c2:cs.head?=some 109
   ·rw[if_pos c2] at q0 q1
    rw[decide_eq_true c2,if_pos rfl]
    left
    refine ybC (i_c ⟨1,rfl,yjt ⟨_,rfl,ofS (by omega),?_⟩⟩)
    rw[show(1:Int)=((1:Nat):Int) from rfl,ydF _ (l1 _ c2)]
    left
    exact⟨_,rfl,ld 1,λz H2 s2=>q0 z _ (sm.trans s2),λtl z x H2 s2 g=>q1 tl z _ _ (sm.trans s2) g⟩
   rw[if_neg c2] at q0 q1
   rw[decide_eq_false c2,if_neg (by simp)]
   left
   refine⟨rfl,?_⟩
   left
   refine⟨_,_,rfl,rfl,?_⟩
   rw[show Str.ofString "r/"=ofL [114,47] by ac_rfl,yoy]
   left
   by_cases c3:[114,47] <+: cs
   ·rw[if_pos c3] at q0 q1
    rw[decide_eq_true c3,if_pos rfl]
    left
    refine ybC (i_c ⟨2,rfl,yjt ⟨_,rfl,ofS (by omega),?_⟩⟩)
    rw[show(2:Int)=((2:Nat):Int) from rfl,ydF _ (a:=2) c3.length_le]
    left
    exact⟨_,rfl,ld 2,λz H2 s2=>q0 z _ (sm.trans s2),λtl z x H2 s2 g=>q1 tl z _ _ (sm.trans s2) g⟩
   rw[if_neg c3] at q0 q1
   rw[decide_eq_false c3,if_neg (by simp)]
   left
   exact⟨_,rfl,hw,λz H2 s2=>q0 z _ (sm.trans s2),λtl z x H2 s2 g=>q1 tl z _ _ (sm.trans s2) g⟩
 | _=>exact qn (by simp)
open TX K2 K3
structure Dr (K:qF) (a tp:Addr) (ns:List Int) (H:Hp) (N:Nat):Prop where
 src:Src K a tp ns H
 sm:yqW ns
 tape:Tape H tp N
section
variable {a tp:Addr} {ns:List Int} {H H':Hp} {N M:Nat}
theorem Same.tt {c:Addr}(s:Same H H'):SameT c H H':=λb u _ e=>s b u e
theorem Dr.same (d:Dr K a tp ns H N)(s:Same H H'):Dr K a tp ns H' N:=⟨d.src.sameT (Same.tt s),d.sm,d.tape.same s⟩
theorem Dr.up (d:Dr K a tp ns H N)(l:N<=M):Dr K a tp ns H M:=⟨d.src,d.sm,d.tape.up l⟩
theorem Dr.some (d:Dr K a tp ns H N):∃ u,H tp=some u:=by obtain⟨n,_,e⟩:=d.tape;exact⟨_,e⟩
theorem Dr.free (d:Dr K a tp ns H' N)(s:SameT tp H H'){p:Addr}(hp:H' p=none):H p=none:=by obtain⟨u,e⟩:=d.some;exact yoR s e hp
theorem Dr.fr (d:Dr K a tp ns H N){H'':Hp}(s:SameT tp H' H''):Same (KS.fr H H') (KS.fr H H''):=by obtain⟨u,e⟩:=d.some;exact yvr e s
theorem ycY (d:Dr K a tp ns H' N)(s:SameT tp H H'){H'':Hp}:Same (KS.fr H' H'') (KS.fr H H''):=λb u h=>by
 obtain⟨n,e⟩:=yb4 h
 rw[ycz (d.free s n)]
 exact e
end
theorem ygd {c:Int}{m:Nat}(h:ynv c)(hm:m<=200000):IntMulOk (c+7919*(m:Int)+13) (c+7919*(m:Int)+13):=by
 have b1:=ylZ (c:=c) (d:=7919*(m:Int)+13) (n:=2 ^ 20) (by decide) h (by omega)
 rw[show c+(7919*(m:Int)+13)=c+7919*(m:Int)+13 by omega] at b1
 exact ypa b1 (by decide)
def ypr (K:qF):Sp:=λvs H Q _=>∃ (a tp:Addr) (ns:List Int) (N:Nat) (size:Int),vs=[.ref a,.ref tp,.int size]/\Src K a tp ns H/\yqW ns/\Tape H tp N/\N<=100000/\0 < size/\∀ (v:Int) (H':Hp),0<=v->v < size->SameT tp H H'->Tape H' tp (N+1)->Q (.int v) H'
theorem ymr:OF P w base T.Rt 1 (ypr K):=by
 refine T.Rt.F.ok sc_zak (λvs H Q E h=>?_) (λ_ _ _ s H vs Q E hr h=>?_)
 ·obtain⟨a,tp,ns,N,size,rfl,_⟩:=h;rfl
 obtain⟨a,tp,ns,N,size,rfl,sc,sm,⟨n,nl,ht⟩,hN,hs,q⟩:=h
 have hu:=yhO hr
 refine⟨_,(yad (ynx (yay ybv (xL (pv 1)) yah) (yrs (pv 1) yah ym1)) (yad (pst 3 sc_zak.nd yah) (yad (yaI (yap (ymv hu) (pv 0) (yaN yab) (yat _)) (yag (pst 3 sc_zak.nd (ya5 ya1 (pv 0) (yay yeR (xL (pv 1)) (yar yaL rfl T.Jc PySem.boot_len (yaa (pv 0) yab))) (λ_ _=>rfl)))) yau) (yad (pst 4 sc_zak.nd (yay ybv (yay ybv (pv 3) (yay yb5 yah (xL (pv 1)))) yah)) (yag (yam (yay yeR (yay yb2 (yay yeR (yay yb5 (yay yeR (yay yb5 (pv 4) (pv 4)) yah) yah) yah) yah) (pv 2)))))))),?_⟩
 walk_at "rd"
 refine⟨_,SqL.of ht,_,yav (j:=0) rfl,_,rfl,_,ht,0,rfl,Nat.zero_le _,λp hp=>?_⟩
 have e1:(([V.int (n:Int)]:List V).set 0 (V.int ((n:Int)+1)))=[V.int ((n+1:Nat):Int)]:=by rw[Int.natCast_add];rfl
 rw[e1] at hp ⊢
 have s1:SameT tp H (upd H tp (.lst [V.int ((n+1:Nat):Int)])):=yi4
 have s2:=SameT.trans s1 (Same.tt (yae hp (.lst [])))
 have t2:upd (upd H tp (.lst [V.int ((n+1:Nat):Int)])) p (.lst []) tp=some (.lst [V.int ((n+1:Nat):Int)]):=yae hp _ _ _ yac
 have p2:upd (upd H tp (.lst [V.int ((n+1:Nat):Int)])) p (.lst []) p=some (.lst []):=yac
 generalize upd (upd H tp (.lst [V.int ((n+1:Nat):Int)])) p (.lst [])=H2 at s2 t2 p2 ⊢
 have sq:=(sc.sameT s2).sq
 have fin:∀ z:Int,0<=z%998244353 / 11%size/\z%998244353 / 11%size < size:=λz=>⟨Int.emod_nonneg _ (Int.ne_of_gt hs),Int.emod_lt_of_pos _ hs⟩
 have tp2:Tape H2 tp (N+1):=⟨n+1,by omega,t2⟩
 refine⟨_,sq,SqL.of p2,?_⟩
 cases ns with
 | nil =>
  have b0:=ygd (c:=0) (m:=n+1) (Nat.le_trans (by decide:Builtin.Int.intBits 0<=1) Nat.one_le_two_pow) (by omega)
  refine⟨_,SqL.of t2,_,yav (j:=0) rfl,_,rfl,CMul.ok (.inl ⟨by decide,by decide⟩),b0,CMul.ok (.inr ⟨by decide,by decide⟩),⟨by decide,by decide⟩,hs,q _ _ (fin _).1 (fin _).2 s2 tp2⟩
 | cons v0 vr =>
  have lp:0 < (((v0 :: vr).map V.int).length:Int):=by rw[qM,qC];omega
  have m0:=Int.emod_nonneg (((n+1:Nat):Int)) (Int.ne_of_gt lp)
  have m1:=Int.emod_lt_of_pos (((n+1:Nat):Int)) lp
  have hj:((((n+1:Nat):Int))%(((v0 :: vr).map V.int).length:Int)).toNat < (v0 :: vr).length:=by rw[← qM (f:=V.int)];omega
  have bc:=ygd (m:=n+1) (sm _ (List.getElem_mem hj)) (by omega)
  refine⟨_,SqL.of t2,_,yav (j:=0) rfl,_,.inl sq,_,rfl,lp,_,sq,.int (v0 :: vr)[((((n+1:Nat):Int))%(((v0 :: vr).map V.int).length:Int)).toNat],?_,_,SqL.of t2,_,yav (j:=0) rfl,_,rfl,CMul.ok (.inl ⟨by decide,by decide⟩),_,rfl,bc,CMul.ok (.inr ⟨by decide,by decide⟩),⟨by decide,by decide⟩,hs,q _ _ (fin _).1 (fin _).2 s2 tp2⟩
  have z:=yav (xs:=(v0 :: vr).map V.int) (j:=((((n+1:Nat):Int))%(((v0 :: vr).map V.int).length:Int)).toNat) (v:=.int (v0 :: vr)[((((n+1:Nat):Int))%(((v0 :: vr).map V.int).length:Int)).toNat]) (by rw[qm,qG hj];rfl)
  rw[Int.toNat_of_nonneg m0] at z
  exact z
def yq2 (K:qF):Sp:=λvs H Q _=>∃ (a tp:Addr) (ns:List Int) (N:Nat) (size:Int),vs=[.ref a,.ref tp,.int size]/\Dr K a tp ns H N/\N<=100000/\0 < size/\∀ (v:Int) (H':Hp),0<=v->v < size->SameT tp H H'->Dr K a tp ns H' (N+1)->Q (.int v) H'
theorem ybj:OF P w base T.Rt 1 (yq2 K):=(ymr T).imp λvs H Q E h=>by
 obtain⟨a,tp,ns,N,size,rfl,d,hN,hs,q⟩:=h
 exact⟨a,tp,ns,N,size,rfl,d.src,d.sm,d.tape,hN,hs,λv H' h0 h1 s t=>q v H' h0 h1 s ⟨d.src.sameT s,d.sm,t⟩⟩
open TX K2 K3
def yoB (x:Int):Int:=if 8 < x then (if 16 < x then 0 else 1) else 2
theorem yru {v:Int}(h0:0<=v)(h6:v < 6):∃ x∈[(1:Int),2,4,8,16,32],atI [V.int 1,V.int 2,V.int 4,V.int 8,V.int 16,V.int 32] v=some (.int x):=by
 have h:v=0∨v=1∨v=2∨v=3∨v=4∨v=5:=by omega
 rcases h with rfl | rfl | rfl | rfl | rfl | rfl
 ·exact⟨1,by decide,rfl⟩
 ·exact⟨2,by decide,rfl⟩
 ·exact⟨4,by decide,rfl⟩
 ·exact⟨8,by decide,rfl⟩
 ·exact⟨16,by decide,rfl⟩
 ·exact⟨32,by decide,rfl⟩
theorem ymc {x:Int}(h:x∈[(1:Int),2,4,8,16,32]):atI [V.int 2,V.int 1,V.int 0] ((if 8 < x then 1 else 0)+if 16 < x then 1 else 0)=some (.int (yoB x)):=by
 simp only[List.mem_cons,qk,or_false] at h
 rcases h with rfl | rfl | rfl | rfl | rfl | rfl<;>rfl
theorem yq5 {x d:Int}(b:Bool)(h:x∈[(1:Int),2,4,8,16,32])(d0:0<=d)(d3:d < 3):∃ e:Nat,(if yoB x < d then yoB x else d)=(e:Int)/\(⟨x,e,b⟩:Pc)∈pcs:=by
 have a:∀ x∈[(1:Int),2,4,8,16,32],∀ d∈[(0:Int),1,2],∀ b:Bool,pcs.any (λp=>decide ((if yoB x < d then yoB x else d)=(p.d:Int)/\p.v=x/\p.th=b))=true:=by decide +kernel
 have z:d=0∨d=1∨d=2:=by omega
 obtain⟨⟨u,v,w⟩,m,z⟩:=List.any_eq_true.mp (a x h d (by simpa using z) b)
 obtain⟨e,rfl,rfl⟩:=of_decide_eq_true z
 exact⟨_,e,m⟩
def ynh (K:qF):Sp:=λvs H Q _=>∃ (a tp:Addr) (ns:List Int) (N:Nat),vs=[.ref a,.ref tp]/\Dr K a tp ns H N/\N<=90000/\∀ (x:V) (H':Hp) (p:Pc),SameT tp H H'->Dr K a tp ns H' (N+3)->p∈pcs->Is (fr H H') x (pcT p)->Q x H'
theorem yr7:OF P w base T.zZ 2 (ynh K):=by
 refine T.zZ.F.ok sc_zZ (λvs H Q E h=>?_) (λ_ _ _ s H vs Q E hr h=>?_)
 ·obtain⟨a,tp,ns,N,rfl,_⟩:=h;rfl
 obtain⟨a,tp,ns,N,rfl,dr,hN,q⟩:=h
 have hu:=yhO hr
 refine⟨_,(yad (pst 2 sc_zZ.nd (ya5 ya1 (yaN (yaa yah (yaa yah (yaa yah (yaa yah (yaa yah (yaa yah yab))))))) (pcm (ybj T) hr (yaa (pv 0) (yaa (pv 1) (yaa yah yab)))) (λ_ _=>rfl))) (yad (pst 3 sc_zZ.nd (pcm (ybj T) hr (yaa (pv 0) (yaa (pv 1) (yaa yah yab))))) (yag (yam (yaw (yaa (pv 2) (yaa (yar (ykq rfl) rfl T.QV ymZ (yaa (pv 3) (yaa (ya5 ya1 (yaN (yaa yah (yaa yah (yaa yah yab)))) (yay ybv (yaC ycc rfl T.Jx ybO (yaa (yaS yiQ (pv 2) yah (yat _)) yab)) (yaC ycc rfl T.Jx ybO (yaa (yaS yiQ (pv 2) yah (yat _)) yab))) (λ_ _=>rfl)) yab))) (yaa (yaS ya2 (pcm (ybj T) hr (yaa (pv 0) (yaa (pv 1) (yaa yah yab)))) yah (yat _)) yab)))))))),?_⟩
 walk_at "rd"
 refine⟨by decide,λp1 h1=>?_⟩
 have s1:=yae h1 (.lst [V.int 1,V.int 2,V.int 4,V.int 8,V.int 16,V.int 32])
 obtain⟨u0,e0⟩:=dr.some
 have n1:p1≠tp:=(yak e0 h1).symm
 refine⟨a,tp,ns,N,6,rfl,dr.same s1,by omega,by decide,λv H2 v0 v6 st2 t2=>?_⟩
 obtain⟨x,hx,ex⟩:=yru v0 v6
 refine⟨_,v,rfl,SqL.of (st2 _ _ n1 yac),.int x,ex,a,tp,ns,N+1,3,rfl,t2,by omega,by decide,λd H3 d0 d3 st3 t3=>⟨by decide,λp3 h3=>?_⟩⟩
 have s3:=yae h3 (.lst [V.int 2,V.int 1,V.int 0])
 have stA:SameT tp H H3:=SameT.trans (Same.t s1) (SameT.trans st2 st3)
 refine⟨x,rfl,x,rfl,_,SqL.of yac,.int (yoB x),ymc hx,d,rfl,yoB x,rfl,a,tp,ns,N+2,3,rfl,t3.same s3,by omega,by decide,λv4 H4 _ _ st4 t4=>⟨rfl,by decide,λp5 h5=>?_⟩⟩
 have stB:=SameT.trans stA (SameT.trans (Same.t s3) st4)
 obtain⟨e,ee,ip⟩:=yq5 (decide (v4=0)) hx d0 d3
 have hf:H p5=none:=t4.free stB h5
 refine q _ _ ⟨x,e,decide (v4=0)⟩ (SameT.trans stB (Same.t (yae h5 _))) (t4.same (yae h5 _)) ip (yiP ?_)
 rw[ycz hf,yac,ee,show decide (V.int v4=V.int 0)=decide (v4=0) by simp]
noncomputable def lg3 (p:Pc):Int:=[96 / p.v,96 / p.v*3 / 2,96 / p.v*7 / 4].getD p.d 0
theorem yuw:∀ p∈pcs,(if p.th=true then lg3 p*2 / 3 else lg3 p)=pg p/\p.v≠0:=by decide
def ykU:Sp:=λvs H Q _=>∃ x p,vs=[x]/\p∈pcs/\Is H x (pcT p)/\∀ H',Same H H'->Q (.int (pg p)) H'
theorem yuF:OF P w base T.zQ 1 ykU:=by
 refine T.zQ.F.ok sc_zQ (λvs H Q E h=>?_) (λ_ _ _ s' H vs Q E hr h=>?_)
 ·obtain⟨x,p,rfl,_⟩:=h;rfl
 have hu:=yhO hr
 obtain⟨x,⟨v,d,th⟩,rfl,hp,ix,q⟩:=h
 obtain⟨⟨h0,h1⟩,h2⟩:=yeU _ hp
 have eg:=(yuw _ hp).1
 obtain⟨p,rfl,e⟩:=Is.three ix
 dsimp only at h0 h1 h2 e eg
 refine⟨_,(yad (pst 1 sc_zQ.nd (yay yb2 yah (xT (pv 0)))) (yad (pst 1 sc_zQ.nd (ya5 ya1 (yaN (yaa (pv 1) (yaa (yay yb2 (yay yb5 (pv 1) yah) yah) (yaa (yay yb2 (yay yb5 (pv 1) yah) yah) yab)))) (xT (pv 0)) (λ_ _=>rfl))) (yag (yam (yaJ (yaG (xT (pv 0))) (yay yb2 (yay yb5 (pv 1) yah) yah) (pv 1)))))),?_⟩
 walk_at "rd"
 have hq:=SqT.of (K:=K) e
 refine⟨_,hq,_,rfl,v,rfl,⟨by omega,by omega⟩,CMul.ok (.inr ⟨by decide,by decide⟩),⟨by decide,by decide⟩,CMul.ok (.inr ⟨by decide,by decide⟩),⟨by decide,by decide⟩,by decide,λl hl=>?_⟩
 have s1:=yae hl (.lst [V.int (96 / v),V.int (96 / v*3 / 2),V.int (96 / v*7 / 4)])
 refine⟨_,SqT.of (s1 _ _ e),_,yav (j:=1) rfl,_,_,rfl,SqL.of yac,.int (lg3 ⟨v,d,th⟩),?_,_,SqT.of (s1 _ _ e),_,yav (j:=2) rfl,th,rfl,?_⟩
 ·refine yav (j:=d) ?_
  have:d=0∨d=1∨d=2:=by omega
  rcases this with rfl | rfl | rfl<;>rfl
 ·cases th with
  | true =>
   rw[if_pos rfl] at eg ⊢
   exact⟨_,rfl,CMul.ok (.inr ⟨by decide,by decide⟩),⟨by decide,by decide⟩,by rw[eg];exact q _ s1⟩
  | false =>
   rw[if_neg (by decide)] at eg ⊢
   rw[eg]
   exact q _ s1
open TX K2 K3
theorem ykP {L:List Int}{v:Int}(v0:0<=v)(v1:v < L.length):atI (L.map V.int) v=some (.int (L[v.toNat]'(by omega))):=by
 have:=yav (xs:=L.map V.int) (j:=v.toNat) (v:=.int (L[v.toNat]'(by omega))) (by rw[qm,qG (by omega)];rfl)
 rwa [Int.toNat_of_nonneg v0] at this
theorem Dr.ne {a tp p:Addr}{ns:List Int}{H:Hp}{N:Nat}(d:Dr K a tp ns H N)(hp:H p=none):p≠tp:=λe=>by
 obtain⟨u,et⟩:=d.some
 rw[e,et] at hp
 cases hp
theorem Dr.put {a tp D:Addr}{ns:List Int}{H H':Hp}{N M:Nat}{o:HO}(d:Dr K a tp ns H N)(hD:H D=none)(s:SameT tp H H')(d':Dr K a tp ns H' M):Dr K a tp ns (upd H' D o) M:=by
 refine⟨d.src.sameT (ydm s hD),d.sm,?_⟩
 obtain⟨n,l,e⟩:=d'.tape
 exact⟨n,l,by rw[yas (d.ne hD).symm];exact e⟩
def AccT {α:Type}(f:α->Th)(tp:Addr)(H0 H:Hp)(D:Addr)(us:List α):Prop:=SameT tp H0 H/\∃ ks,H D=some (.lst ks)/\Iss (rm (fr H0 H) D) ks (us.map f)
section
variable {α:Type} {f:α->Th} {a tp D:Addr} {ns:List Int} {N:Nat} {H0 H H':Hp} {us:List α}
theorem AccT.nil (hD:H0 D=none):AccT f tp H0 (upd H0 D (.lst [])) D []:=⟨Same.tt (yae hD _),[],yac,yaz _⟩
theorem AccT.tt (d:Dr K a tp ns H0 N)(hD:H0 D=none)(h:AccT f tp H0 H D us)(s:SameT tp H H'):AccT f tp H0 H' D us:=by
 obtain⟨sm,ks,hd,is⟩:=h
 exact⟨SameT.trans sm s,ks,s _ _ (d.ne hD) hd,is.same (yhN λb u _ e=>d.fr s b u e)⟩
theorem AccT.new (d:Dr K a tp ns H N)(h:AccT f tp H0 H D us):Same (fr H H') (rm (fr H0 H') D):=λb u e=>by
 obtain⟨sm,ks,hd,_⟩:=h
 obtain⟨n,e⟩:=yb4 e
 rw[ybQ (λz=>by rw[z,hd] at n;cases n),ycz (d.free sm n)]
 exact e
theorem AccT.put (d:Dr K a tp ns H0 N)(hD:H0 D=none)(h:AccT f tp H0 H D us){y:V}{u:α}(iy:Is (rm (fr H0 H) D) y (f u)):∃ ks,H D=some (.lst ks)/\ks.length=us.length/\AccT f tp H0 (upd H D (.lst (ks++[y]))) D (us++[u]):=by
 obtain⟨sm,ks,hd,is⟩:=h
 refine⟨ks,hd,by rw[is.len,qM],ydm sm hD,_,yac,?_⟩
 rw[qP]
 exact(is.same ynu).app (yaj (iy.same ynu) (yaz _))
theorem AccT.fin (hD:H0 D=none)(h:AccT f tp H0 H D us):Is (fr H0 H) (.ref D) (.ls (us.map f)):=by
 obtain⟨sm,ks,hd,is⟩:=h
 exact yeG (by rw[ycz hD];exact hd) (is.same (yep _ _))
end
noncomputable def someW:List (List Nat):=[txt "la",txt "Ve-",txt "-",txt "o",txt "fine",txt "k",txt "R",txt "Zzzzzzzzzzzz",txt "back",txt "a-b"]
theorem yl1:∀ w∈someW,ycH (ofL w)=true:=by ac_rfl
theorem ypy:∀ i,i < 53->∃ c,sylT.cps.toList[i]?=some c/\c∈sylT.cps.toList:=λi h=>by
 have l:sylT.cps.toList.length=53:=by ac_rfl
 exact⟨_,qG (by omega),List.getElem_mem _⟩
theorem yr9 {cs:List Nat}(h1:1<=cs.length)(h12:cs.length<=12)(h:∀ c∈cs,c∈sylT.cps.toList):ycH (ofL cs)=true:=by
 unfold ycH
 rw[yaB,yax,decide_eq_true h1,decide_eq_true h12,Bool.true_and,Bool.true_and]
 exact List.all_eq_true.mpr λc hc=>by simpa using h c hc
def ypp (K:qF):Sp:=λvs H Q _=>∃ (a tp:Addr) (ns:List Int) (N:Nat),vs=[.ref a,.ref tp]/\Dr K a tp ns H N/\N<=90000/\∀ (wd:List Nat) (H':Hp),ycH (ofL wd)=true->SameT tp H H'->Dr K a tp ns H' (N+20)->Q (tV wd) H'
theorem yrz:OF P w base T.RX 2 (ypp K):=by
 o_head (T.RX.F,sc_zas)
 obtain⟨a,tp,ns,N,rfl,dr,hN,q⟩:=h
 refine⟨_,(yad (pst 2 sc_zas.nd (yaN (yaa yaf (yaa yaf (yaa yaf (yaa yaf (yaa yaf (yaa yaf (yaa yaf (yaa yaf (yaa yaf (yaa yaf yab)))))))))))) (yad (ycR (i:=3) sc_zas.nd rfl (Or.inr rfl) yaf) (yad (yaI (yap ya2 (pcm (ybj T) hr (yaa (pv 0) (yaa (pv 1) (yaa yah yab)))) yah (yat _)) (yag (yam (ya5 ya1 (pv 2) (pcm (ybj T) hr (yaa (pv 0) (yaa (pv 1) (yaa yah yab)))) (λ_ _=>rfl)))) yau) (yag (yam (yck yaf (yaa (ybo (yaR (NB:=["_law_k","_law_letters","_law_script","_law_tape"]) (cap:=[none,some 3,some 0,some 1]) rfl) rfl (ycb rfl T.Jr (yaa (yay ybv yah (pcm (ybj T) hr (yaa (pv 0) (yaa (pv 1) (yaa yah yab))))) yab)) (λ_ _ _ _=>pgb 0) (λ_ _ _ _=>yaZ) (λ_ _ _ _=>(ya5 ycN (pv 1) (pcm (ybj T) hr (yaa (pv 2) (yaa (pv 3) (yaa yah yab)))) (λ_ _=>rfl)))) yab))))))),?_⟩
 refine ycn (yjJ ?_)
 refine(show yki _ (.ls (someW.map sT)) from ?_) _ _ _ λx H1 s1 i1=>?_
 ·refine ypQ ?_ (by decide)
  repeat (first | exact ysv | refine yrL ?_ ?_ | exact yrk rfl)
 rw[Is] at i1
 obtain⟨p1,xs,rfl,e1,is1⟩:=i1
 obtain⟨f1,e1⟩:=yb4 e1
 refine yaT ?_
 left
 refine⟨a,tp,ns,N,3,rfl,dr.same s1,by omega,by decide,λv H2 v0 v1 s2 d2=>?_⟩
 have st2:=SameT.trans (Same.tt s1) s2
 have n1:p1≠tp:=dr.ne f1
 left
 refine i_d (λc=>?_) λc=>?_
 ·left
  refine⟨a,tp,ns,N+1,10,rfl,d2,by omega,by decide,λu H3 u0 u1 s3 d3=>?_⟩
  obtain⟨y,ey,iy⟩:=is1.at' u.toNat (by rw[qM];show u.toNat < 10;omega)
  have ea:=yav ey
  rw[Int.toNat_of_nonneg u0] at ea
  refine ybq (SqL.of (s3 _ _ n1 (s2 _ _ n1 e1))) ea ?_
  rw[List.getElem_map,sT,Is] at iy
  rw[iy.1]
  exact q _ _ (yl1 _ (List.getElem_mem _)) (SameT.trans st2 s3) (d3.up (by omega))
 ·left
  refine⟨rfl,?_⟩
  left
  refine⟨a,tp,ns,N+1,12,rfl,d2,by omega,by decide,λu H3 u0 u1 s3 d3=>?_⟩
  left
  refine⟨1+u,rfl,by omega,by omega,λD hD=>yc2 (λi σ' H'=>(∃ o,σ'=[o,some (.str sylT),some (.ref a),some (.ref tp)])/\SameT tp H3 H'/\Dr K a tp ns H' (N+2+i)/\∃ cs:List Nat,cs.length=i/\(∀ c∈cs,c∈sylT.cps.toList)/\H' D=some (.lst ((cs.map λc=>[c]).map tV))) ⟨⟨_,rfl⟩,Same.tt (yae hD _),d3.same (yae hD _),[],rfl,nofun,yac⟩ ?_ ?_⟩
  ·rintro i σ' H' hi ⟨⟨o,rfl⟩,sm,dd,cs,lc,gc,hd⟩
   refine yaT (yc3 (i_T ?_))
   left
   refine⟨a,tp,ns,_,53,rfl,dd,by omega,by decide,λz H4 z0 z1 s4 d4=>?_⟩
   obtain⟨c,ec,ic⟩:=ypy z.toNat (by omega)
   have hD4:=s4 _ _ (d3.ne hD) hd
   refine⟨sylT,z,c,rfl,rfl,by ac_rfl,by have:=yav ec;rwa [Int.toNat_of_nonneg z0] at this,_,hD4,?_,⟨_,rfl⟩,?_,?_,cs++[c],by rw[qA,lc];rfl,?_,?_⟩
   ·rw[qM,qM]
    exact yaD (by omega)
   ·exact ydm (SameT.trans sm s4) hD
   ·exact d3.put hD (SameT.trans sm s4) d4
   ·intro y hy
    rcases List.mem_append.mp hy with hy | hy
    ·exact gc y hy
    ·rw[List.mem_singleton.mp hy];exact ic
   ·rw[yac,qP,qP]
    rfl
  ·rintro σ' H' ⟨⟨o,rfl⟩,sm,dd,cs,lc,gc,hd⟩
   left
   refine yhL _ (by ac_rfl) hd (by rw[yfC];omega) ?_
   rw[ydX]
   exact q _ _ (yr9 (by omega) (by omega) gc) (SameT.trans st2 (SameT.trans s3 sm)) (dd.up (by omega))
open TX K2 K3
def HdOk (h:Hd):Prop:=h.mr∈marksL/\(0<=h.st/\h.st<=6)/\(0<=h.oc/\h.oc<=8)
theorem HdOk.good {h:Hd}(g:HdOk h):yjx h:=⟨g.2.1,g.2.2,by
 have:∀ m∈marksL,m.length<=2:=by decide
 exact this _ g.1⟩
def Rises (hs:List Hd):Prop:=∀ i (h:i+1 < hs.length),yci hs[i] < yci hs[i+1]
def ynO (hs:List Hd):Prop:=1<=hs.length/\hs.length<=4/\(∀ h∈hs,HdOk h)/\Rises hs
theorem Rises.b {hs:List Hd}(r:Rises hs):yeg (hs.map yci)=true:=by
 unfold yeg
 rw[List.all_eq_true]
 intro i hi
 rw[List.mem_range,qM] at hi
 have:=r i (by omega)
 rw[List.getD_eq_getElem?_getD,List.getD_eq_getElem?_getD,qm,qm,qG (by omega),qG (by omega)]
 simpa using this
def ync (K:qF):Sp:=λvs H Q _=>∃ (a tp:Addr) (ns:List Int) (N:Nat),vs=[.ref a,.ref tp]/\Dr K a tp ns H N/\N<=90000/\∀ (y:V) (hs:List Hd) (H':Hp),ynO hs->SameT tp H H'->Dr K a tp ns H' (N+10)->Is (fr H H') y (hsT hs)->Q y H'
theorem ypv {v:Int}(h0:0<=v)(h6:v < 6):∃ m∈marksL,atI (marksL.map tV) v=some (tV m):=by
 have l:(marksL.map tV).length=6:=by decide
 refine⟨marksL[v.toNat]'(by show v.toNat < 6;omega),List.getElem_mem _,?_⟩
 have:=yav (xs:=marksL.map tV) (j:=v.toNat) (v:=tV (marksL[v.toNat]'(by show v.toNat < 6;omega))) (by rw[qm,qG (by show v.toNat < 6;omega)];rfl)
 rwa [Int.toNat_of_nonneg h0] at this
theorem yq8:OF P w base T.RY 2 (ync K):=by
 o_head (T.RY.F,sc_zad)
 obtain⟨a,tp,ns,N,rfl,dr0,hN,q⟩:=h
 refine⟨_,(yad (pst 2 sc_zad.nd (pcm (ybj T) hr (yaa (pv 0) (yaa (pv 1) (yaa yah yab))))) (yad (pst 3 sc_zad.nd (yaN yab)) (yad (ycd PassesOwn.never rfl (ycb rfl T.Jr (yaa (ya5 ya1 (yaN (yaa yah (yaa yah (yaa yah (yaa yah (yaa yah yab)))))) (pcm (ybj T) hr (yaa (pv 0) (yaa (pv 1) (yaa yah yab)))) (λ_ _=>rfl)) yab)) (pgs 4 sc_zad.nd) (yad (ych (yb9 (pv 3) (yaa (yaw (yaa (ya5 ya1 (yaN (yaa yaf (yaa yaf (yaa yaf (yaa yaf (yaa yaf (yaa yaf yab))))))) (pcm (ybj T) hr (yaa (pv 0) (yaa (pv 1) (yaa yah yab)))) (λ_ _=>rfl)) (yaa (yay yeR (pv 2) yah) (yaa (yay yb2 (pv 2) yah) yab)))) yab))) (yag (pst 2 sc_zad.nd (yay ybv (yay ybv (pv 2) yah) (pcm (ybj T) hr (yaa (pv 0) (yaa (pv 1) (yaa yah yab))))))))) (yag (yam (pv 3)))))),?_⟩
 left
 refine⟨a,tp,ns,N,45,rfl,dr0,by omega,by decide,λv H0 v0 v1 s0 dr=>?_⟩
 left
 refine ybA λD hD=>?_
 left
 refine ybA λp hp=>?_
 left
 have s1:=yae hD (.lst [])
 have s3:=yae hp (.lst ([1,1,2,3,4].map V.int))
 refine⟨a,tp,ns,N+1,5,rfl,(dr.same s1).same s3,by omega,by decide,λu H2 u0 u1 s4 d4=>?_⟩
 refine ybq (SqL.of (s4 _ _ ((dr.same s1).ne hp) yac)) (ykP (L:=[1,1,2,3,4]) u0 (by show u < 5;exact u1)) ?_
 have g:∀ x∈([1,1,2,3,4]:List Int),1<=x/\x<=4:=by decide
 have gx:=g _ (List.getElem_mem (by show u.toNat < 5;omega:u.toNat < ([1,1,2,3,4]:List Int).length))
 generalize ([1,1,2,3,4]:List Int)[u.toNat]'_=n at gx ⊢
 left
 have acc0:AccT hdT tp H0 H2 D []:=AccT.tt dr hD (AccT.nil hD) (SameT.trans (Same.tt s3) s4)
 refine⟨n,rfl,by omega,by omega,yc0 (λi σ H'=>(∃ (x:Int) (o:Option V),σ=[some (.ref a),some (.ref tp),some (.int x),some (.ref D),o]/\v+i<=x/\x<=v+6*i/\∃ hs:List Hd,hs.length=i/\(∀ h∈hs,HdOk h)/\Rises hs/\(∀ h∈hs,yci h < x)/\AccT hdT tp H0 H' D hs)/\Dr K a tp ns H' (N+2+2*i)) ?_ ?_ ?_⟩
 ·exact⟨⟨_,_,rfl,by omega,by omega,[],rfl,by simp,λi h=>absurd h (by simp),by simp,acc0⟩,d4⟩
 ·rintro i σ H' N' hN' hi ⟨⟨x,o,rfl,x1,x2,hs,lp,gp,ri,up,acc⟩,dd⟩
  obtain⟨_,ks,hd,_⟩:=id acc
  left
  refine⟨.inl ⟨rfl,_,SqL.of hd⟩,?_⟩
  left
  refine ybA λpm hpm=>?_
  have sm:=yae hpm (.lst (marksL.map tV))
  left
  refine⟨a,tp,ns,_,6,rfl,dd.same sm,by omega,by decide,λl H3 l0 l1 s5' d5=>?_⟩
  obtain⟨m,hm,em⟩:=ypv l0 l1
  refine ybq (SqL.of (s5' _ _ (dd.ne hpm) yac)) em ?_
  have s5:=SameT.trans (Same.tt sm) s5'
  have acc3:=AccT.tt dr hD acc s5
  left
  refine ybA λp hp=>?_
  have s6:=yae hp (.tup [tV m,.int (x%7),.int (x / 7)])
  have ip:Is (fr H3 (upd H3 p (.tup [tV m,.int (x%7),.int (x / 7)]))) (.ref p) (hdT ⟨m,x%7,x / 7⟩):=ypn (by rw[ycz hp];exact yac)
  have acc4:=AccT.tt dr hD acc3 (Same.tt s6)
  obtain⟨ks',hd',lk,acc5⟩:=acc4.put dr hD (ip.same (AccT.new d5 acc3))
  have dd5:=dr.put (o:=.lst (ks'++[.ref p])) hD acc4.1 (d5.same s6)
  generalize upd H3 p (.tup [tV m,.int (x%7),.int (x / 7)])=H4 at hd' acc5 dd5 ⊢
  left
  refine ypM hd' (yaD (by omega)) ?_
  left
  refine⟨a,tp,ns,_,6,rfl,dd5,by omega,by decide,λm' H5 m0 m1 s7 d7=>?_⟩
  left
  have ex:yci ⟨m,x%7,x / 7⟩=x:=by show 7*(x / 7)+x%7=x;omega
  have lp1:(hs++[(⟨m,x%7,x / 7⟩:Hd)]).length=i+1:=by rw[qA,lp];rfl
  refine hN' _ _ ⟨⟨_,_,rfl,by omega,by omega,_,lp1,?_,?_,?_,AccT.tt dr hD acc5 s7⟩,d7.up (by omega)⟩
  ·intro z hz
   rcases List.mem_append.mp hz with hz | hz
   ·exact gp z hz
   ·rw[List.mem_singleton.mp hz]
    exact⟨hm,⟨by show 0<=x%7;omega,by show x%7<=6;omega⟩,by show 0<=x / 7;omega,by show x / 7<=8;omega⟩
  ·intro j hj
   rw[qA,qS] at hj
   by_cases e:j+1 < hs.length
   ·rw[List.getElem_append_left (by omega),List.getElem_append_left e]
    exact ri j e
   ·have e2:j+1=hs.length:=by omega
    rw[List.getElem_append_left (by omega),List.getElem_append_right (by omega)]
    simp only[e2,Nat.sub_self,List.getElem_singleton]
    rw[ex]
    exact up _ (List.getElem_mem _)
  ·intro z hz
   rcases List.mem_append.mp hz with hz | hz
   ·have:=up z hz;omega
   ·rw[List.mem_singleton.mp hz,ex];omega
 ·rintro σ H' ⟨⟨x,o,rfl,x1,x2,hs,lp,gp,ri,up,acc⟩,dd⟩
  left
  exact q _ hs _ ⟨by omega,by omega,gp,ri⟩ (SameT.trans s0 acc.1) (dd.up (by omega)) ((acc.fin hD).same (ycY dr s0))
open TX K2 K3
noncomputable def metresL:List (Int×Int×List Int):=[(4,4,[]),(3,2,[]),(7,8,[3,2,2]),(12,8,[]),(1,8,[1]),(5,4,[2,3]),(8,4,[1,1,1,1,1,1,1,1])]
noncomputable def mtL (m:Int×Int×List Int):Th:=mtT m.1 m.2.1 m.2.2
theorem yth:yki (tOp ypH (yrB (ycO (tC (.int 1)) ylc)) (tC (.int 8))) (.tp [nT 1,nT 1,nT 1,nT 1,nT 1,nT 1,nT 1,nT 1]):=fun σ H Q q=>by
 refine yqG (yst (ybV (i_c (ydu ⟨by show 1<=sizeLine;decide,λp hp=>?_⟩))))
 refine i_c ⟨p,.int 1,rfl,rfl,yac,λb hb=>?_⟩
 have s1:=yae hp (.tup [V.int 1])
 have s2:=yae hb (.tup [V.int 1,V.int 1,V.int 1,V.int 1,V.int 1,V.int 1,V.int 1,V.int 1])
 exact q _ _ (s1.trans s2) (ya3 (by rw[ycz (yfc s1 hb),yac];rfl) (yc1 _ [1,1,1,1,1,1,1,1]))
def ym8 (K:qF):Sp:=λvs H Q _=>∃ (a tp:Addr) (ns:List Int) (N:Nat),vs=[.ref a,.ref tp]/\Dr K a tp ns H N/\N<=90000/\∀ (y:V) (m:Int×Int×List Int) (H':Hp),m∈metresL->SameT tp H H'->Dr K a tp ns H' (N+1)->Is (fr H H') y (mtL m)->Q y H'
theorem yqL:OF P w base T.RZ 2 (ym8 K):=by
 o_head (T.RZ.F,sc_zaf)
 obtain⟨a,tp,ns,N,rfl,dr,hN,q⟩:=h
 refine⟨_,(yad (pst 2 sc_zaf.nd (yaN (yaa (yaw (yaa yah (yaa yah (yaa (yaw yab) yab)))) (yaa (yaw (yaa yah (yaa yah (yaa (yaw yab) yab)))) (yaa (yaw (yaa yah (yaa yah (yaa (yaw (yaa yah (yaa yah (yaa yah yab)))) yab)))) (yaa (yaw (yaa yah (yaa yah (yaa (yaw yab) yab)))) (yaa (yaw (yaa yah (yaa yah (yaa (yaw (yaa yah yab)) yab)))) (yaa (yaw (yaa yah (yaa yah (yaa (yaw (yaa yah (yaa yah yab))) yab)))) (yaa (yaw (yaa yah (yaa yah (yaa (yay yor (yaw (yaa yah yab)) yah) yab)))) yab))))))))) (yag (yam (ya5 ya1 (pv 2) (pcm (ybj T) hr (yaa (pv 0) (yaa (pv 1) (yaa yah yab)))) (λ_ _=>rfl))))),?_⟩
 refine ycn (yjJ ?_)
 refine(show yki _ (.ls (metresL.map mtL)) from ?_) _ _ _ λx H1 s1 i1=>?_
 ·refine ypQ ?_ (by decide)
  repeat (first | exact ysv | refine yrL ?_ ?_ | exact yth | refine ytA ?_ (by decide) | exact yrk rfl)
 rw[Is] at i1
 obtain⟨p,xs,rfl,e1,is1⟩:=i1
 obtain⟨f1,e1⟩:=yb4 e1
 refine yaT ?_
 left
 refine⟨a,tp,ns,N,7,rfl,dr.same s1,by omega,by decide,λv H2 v0 v1 s2 d2=>?_⟩
 obtain⟨y,ey,iy⟩:=is1.at' v.toNat (by rw[qM];show v.toNat < 7;omega)
 rw[List.getElem_map] at iy
 have ea:=yav ey
 rw[Int.toNat_of_nonneg v0] at ea
 exact ybq (SqL.of (s2 _ _ (dr.ne f1) e1)) ea (q y _ H2 (List.getElem_mem _) (SameT.trans (Same.tt s1) s2) d2 (iy.same (dr.fr s2)))
def DTl:Tl->Prop
 | .note hs p _ _ wd _ _=>ynO hs/\p∈pcs/\(wd=[]∨ycH (ofL wd)=true)
 | .pause p=>p∈pcs
 | .whole n=>12<=n/\n<=192
 | .key k=>-7<=k/\k<=7
 | .metre a b gs=>(a,b,gs)∈metresL
 | .ending n=>n=1∨n=2
 | .bare _=>True
theorem yfa {wd:List Nat}(h:wd=[]∨ycH (ofL wd)=true):wd.length<=12:=by
 rcases h with rfl | h
 ·exact Nat.zero_le _
 ·unfold ycH at h
  rw[yaB] at h
  simp only[Bool.and_eq_true,decide_eq_true_eq] at h
  exact h.2.1
theorem ygU:∀ m∈metresL,Sm m.1/\Sm m.2.1/\(∀ g∈m.2.2,Sm g)/\m.2.2.length<=100:=by unfold Sm;decide
theorem DTl.g {tl:Tl}(h:DTl tl):TlG tl:=by
 cases tl with
 | note hs p ti be wd op cl=>exact⟨⟨h.1.2.1,λx hx=>(h.1.2.2.1 x hx).good⟩,h.2.1,by have:=yfa h.2.2;omega⟩
 | pause p=>exact h
 | whole n=>trivial
 | key k=>exact⟨by have:=h.1;omega,by have:=h.2;omega⟩
 | metre a b gs=>exact ygU _ h
 | ending n=>rcases h with h | h<;>exact⟨by omega,by omega⟩
 | bare i=>trivial
def yog (K:qF):Sp:=λvs H Q _=>∃ (a tp:Addr) (ns:List Int) (N:Nat),vs=[.ref a,.ref tp]/\Dr K a tp ns H N/\N<=80000/\∀ (y:V) (tl:Tl) (H':Hp),DTl tl->SameT tp H H'->Dr K a tp ns H' (N+60)->Is (fr H H') y (tlT tl)->Q y H'
theorem yqj:OF P w base T.Ua 3 (yog K):=by
 o_head (T.Ua.F,sc_zam)
 obtain⟨a,tp,ns,N,rfl,dr,hN,q⟩:=h
 refine⟨_,(yad (pst 2 sc_zam.nd (pcm (ybj T) hr (yaa (pv 0) (yaa (pv 1) (yaa yah yab))))) (yad (yaI (yap yfO (pv 2) yah (yat _)) (yad (yb8 (i:=3) sc_zam.nd rfl (Or.inl rfl) (yaR (NB:=["_law_k","_law_script","_law_tape"]) (cap:=[none,some 0,some 1]) rfl) rfl (ycb rfl T.Jr (yaa yah yab)) (λ_ _ _ _=>pgb 0) (λ_ _ _ _=>yaZ) (λ_ _ _ _=>(yaS ya2 (pcm (ybj T) hr (yaa (pv 1) (yaa (pv 2) (yaa yah yab)))) yah (yat _)))) (yad (pst 4 sc_zam.nd (yaJ (yap ya2 (pcm (ybj T) hr (yaa (pv 0) (yaa (pv 1) (yaa yah yab)))) yah (yat _)) yaf (pcm (yrz T) hr (yaa (pv 0) (yaa (pv 1) yab))))) (yad (pst 5 sc_zam.nd (yaw (yaa yaf (yaa (pcm (yq8 T) hr (yaa (pv 0) (yaa (pv 1) yab))) (yaa (pcm (yr7 T) hr (yaa (pv 0) (yaa (pv 1) yab))) yab))))) (yag (yam (yay ykg (pv 5) (yaw (yaa (xL (pv 3)) (yaa (xL (pv 3)) (yaa (pv 4) (yaa (xL (pv 3)) (yaa (xL (pv 3)) yab)))))))))))) yau) (yad (pst 6 sc_zam.nd (yaN (yaa (yaw (yaa yaf (yaa (pcm (yr7 T) hr (yaa (pv 0) (yaa (pv 1) yab))) yab))) (yaa (yaw (yaa yaf (yaa (yay yb5 yah (yay ybv yah (pcm (ybj T) hr (yaa (pv 0) (yaa (pv 1) (yaa yah yab)))))) yab))) yab)))) (yad (pst 6 sc_zam.nd (yay ydr (pv 6) (yaN (yaa (yaw (yaa yaf (yaa (yay yiy (pcm (ybj T) hr (yaa (pv 0) (yaa (pv 1) (yaa yah yab)))) yah) yab))) (yaa (yaw (yaa yaf (yaa (pcm (yqL T) hr (yaa (pv 0) (yaa (pv 1) yab))) yab))) yab))))) (yag (yam (ya5 ya1 (yay ydr (pv 6) (yaN (yaa (yaw (yaa yaf yab)) (yaa (yaw (yaa yaf yab)) (yaa (yaw (yaa yaf (yaa yah yab))) (yaa (yaw (yaa yaf (yaa yah yab))) (yaa (yaw (yaa yaf yab)) (yaa (yaw (yaa yaf yab)) (yaa (yaw (yaa yaf yab)) yab))))))))) (yay yeR (pv 2) yah) (λ_ _=>rfl)))))))),?_⟩
 left
 refine⟨a,tp,ns,N,17,rfl,dr,by omega,by decide,λkd H1 k0 k1 s1 d1=>?_⟩
 left
 refine i_d (λc=>?_) λc=>?_
 ·left
  refine⟨4,rfl,by decide,by decide,λF hF=>yc2 (λi σ' H'=>(∃ o,σ'=[o,some (.ref a),some (.ref tp)])/\SameT tp H1 H'/\Dr K a tp ns H' (N+1+i)/\∃ bs:List Bool,bs.length=i/\H' F=some (.lst (bs.map V.bl))) ⟨⟨_,rfl⟩,Same.tt (yae hF _),d1.same (yae hF _),[],rfl,yac⟩ ?_ ?_⟩
  ·rintro i σ' H' hi ⟨⟨o,rfl⟩,sm,dd,bs,lb,hd⟩
   refine yaT (yc3 (i_T ?_))
   left
   have hi:i < 4:=hi
   refine⟨a,tp,ns,_,2,rfl,dd,by omega,by decide,λu H3 u0 u1 s3 d3=>?_⟩
   left
   refine⟨_,s3 _ _ (d1.ne hF) hd,?_,⟨_,rfl⟩,ydm (SameT.trans sm s3) hF,d1.put hF (SameT.trans sm s3) d3,bs++[decide (u=0)],by rw[qA,lb];rfl,?_⟩
   ·rw[qM]
    exact yaD (by omega)
   ·rw[yac,qP]
    rfl
  ·rintro σ' H2 ⟨⟨o,rfl⟩,sm,dd,bs,lb,hd⟩
   match bs,lb with
   | [b0,b1,b2,b3],_ =>
    have nF:F≠tp:=d1.ne hF
    refine ycn (ygk (te:=ylK _ _) (fun σ H4=>∃ wd,σ=[some (.ref a),some (.ref tp),some (.int kd),some (.ref F),some (tV wd),none,none]/\(wd=[]∨ycH (ofL wd)=true)/\SameT tp H2 H4/\Dr K a tp ns H4 (N+30)) (λnx' hN'=>?_) ?_)
    ·left
     refine⟨a,tp,ns,_,2,rfl,dd,by show N+1+4<=_;omega,by decide,λu H3 u0 u1 s3 d3=>?_⟩
     left
     refine i_d (λc=>?_) λc=>?_
     ·left
      exact hN' _ _ ⟨[],rfl,.inl rfl,s3,d3.up (by show N+1+4+1<=_;omega)⟩
     ·left
      refine⟨a,tp,ns,_,rfl,d3,by show N+1+4+1<=_;omega,λwd H4 hw s4 d4=>?_⟩
      left
      exact hN' _ _ ⟨wd,rfl,.inr hw,SameT.trans s3 s4,d4.up (by show N+1+4+1+20<=_;omega)⟩
    ·rintro σ H4 ⟨wd,rfl,hw,s4,d4⟩
     have hd4:=s4 _ _ nF hd
     left
     refine⟨a,tp,ns,_,rfl,d4,by omega,λhx hs H5 gh s5 d5 ih=>?_⟩
     left
     refine⟨a,tp,ns,_,rfl,d5,by omega,λpx H6 p s6 d6 hp ip=>?_⟩
     left
     refine ybA λB hB=>?_
     have s7:=yae hB (.tup [tV (txt "note"),hx,px])
     have e7:upd H6 B (.tup [tV (txt "note"),hx,px]) B=_:=yac
     show ybt _ _ _ (upd H6 B (.tup [tV (txt "note"),hx,px])) _
     generalize upd H6 B _=H7 at s7 e7 ⊢
     have hd7:=s7 _ _ (s6 _ _ nF (s5 _ _ nF hd4))
     left
     refine ynZ 0 (SqL.of hd7) ?_
     left
     refine ynZ 1 (SqL.of hd7) ?_
     left
     refine ynZ 2 (SqL.of hd7) ?_
     left
     refine ynZ 3 (SqL.of hd7) ?_
     left
     refine ybA λB2 hB2=>?_
     have s8:=yae hB2 (.tup [.bl b0,.bl b1,tV wd,.bl b2,.bl b3])
     have e8:upd H7 B2 (.tup [.bl b0,.bl b1,tV wd,.bl b2,.bl b3]) B2=_:=yac
     generalize upd H7 B2 _=H8 at s8 e8 ⊢
     refine⟨B,B2,_,_,rfl,rfl,SqT.of (s8 _ _ e7),SqT.of e8,by simp,by show 8<=sizeLine;decide,λz=>absurd z (by simp),λ_ C hC=>?_⟩
     have s9:=yae hC (.tup ([tV (txt "note"),hx,px]++[.bl b0,.bl b1,tV wd,.bl b2,.bl b3]))
     have e9:upd H8 C (.tup ([tV (txt "note"),hx,px]++[.bl b0,.bl b1,tV wd,.bl b2,.bl b3])) C=_:=yac
     have s69:=s7.trans (s8.trans s9)
     have d9:=d6.same s69
     have hC':=hC
     generalize upd H8 C _=H9 at s9 e9 s69 d9 ⊢
     have t4:SameT tp H H4:=SameT.trans s1 (SameT.trans sm s4)
     have t5:=SameT.trans t4 s5
     have fC:H C=none:=(d6.same (s7.trans s8)).free (SameT.trans t5 (SameT.trans s6 (Same.tt (s7.trans s8)))) hC
     have u1:Same (fr H4 H5) (fr H H9):=λb u e=>ycY d4 t4 b u (d4.fr (SameT.trans s6 (Same.tt s69)) b u e)
     have u2:Same (fr H5 H6) (fr H H9):=λb u e=>ycY d5 t5 b u (ydA s69 b u e)
     refine q _ (.note hs p b0 b1 wd b2 b3) _ ⟨gh,hp,hw⟩ (SameT.trans t5 (SameT.trans s6 (Same.tt s69))) (d9.up (by omega)) ?_
     exact ya3 (by rw[ycz fC];exact e9) (yaj (ycB _) (yaj (ih.same u1) (yaj (ip.same u2) (yaj (yeE _) (yaj (yeE _) (yaj (ycB _) (yaj (yeE _) (yaj (yeE _) (yaz _)))))))))
 ·left
  refine⟨a,tp,ns,_,rfl,d1,by omega,λpx H2 p s2 d2 hp ip=>?_⟩
  left
  refine ybA λA1 hA1=>?_
  have sA:=yae hA1 (.tup [tV (txt "pause"),px])
  have eA:upd H2 A1 (.tup [tV (txt "pause"),px]) A1=_:=yac
  show ycO _ _ _ (upd H2 A1 (.tup [tV (txt "pause"),px])) _
  generalize upd H2 A1 _=H3 at sA eA ⊢
  have t3:=SameT.trans s1 (SameT.trans s2 (Same.tt sA))
  have fA:H A1=none:=d2.free (SameT.trans s1 s2) hA1
  have i1:Is (fr H H3) (.ref A1) (tlT (.pause p)):=ya3 (by rw[ycz fA];exact eA) (yaj (ycB _) (yaj (ip.same λb u e=>ycY d1 s1 b u (ydA sA b u e)) (yaz _)))
  left
  refine⟨a,tp,ns,_,16,rfl,d2.same sA,by omega,by decide,λwv H4 w0 w1 s4 d4=>?_⟩
  left
  refine ybA λA2 hA2=>?_
  have sB:=yae hA2 (.tup [tV (txt "whole"),.int (12*(1+wv))])
  have eB:upd H4 A2 (.tup [tV (txt "whole"),.int (12*(1+wv))]) A2=_:=yac
  show ylc _ (upd H4 A2 (.tup [tV (txt "whole"),.int (12*(1+wv))])) _
  generalize upd H4 A2 _=H5 at sB eB ⊢
  have t4:=SameT.trans t3 s4
  have t5:=SameT.trans t4 (Same.tt sB)
  have fB:H A2=none:=d4.free t4 hA2
  have i2:Is (fr H H5) (.ref A2) (tlT (.whole (12*(1+wv)))):=ya3 (by rw[ycz fB];exact eB) (yaj (ycB _) (yaj (yfS _ _) (yaz _)))
  have j1:=i1.same (dr.fr (SameT.trans s4 (Same.tt sB)))
  refine ydu ⟨by show 2<=sizeLine;decide,λL1 hL1=>?_⟩
  have sC:=yae hL1 (.lst [.ref A1,.ref A2])
  have eC:upd H5 L1 (.lst [.ref A1,.ref A2]) L1=_:=yac
  have d5:=d4.same sB
  have nL1:L1≠tp:=d5.ne hL1
  generalize upd H5 L1 _=H6 at sC eC ⊢
  have d6:=d5.same sC
  have t6:=SameT.trans t5 (Same.tt sC)
  left
  refine⟨a,tp,ns,_,15,rfl,d6,by omega,by decide,λkv H7 k0' k1' s7 d7=>?_⟩
  left
  refine ybA λA3 hA3=>?_
  have sD:=yae hA3 (.tup [tV (txt "key"),.int (kv - 7)])
  have eD:upd H7 A3 (.tup [tV (txt "key"),.int (kv - 7)]) A3=_:=yac
  show ycO _ _ _ (upd H7 A3 (.tup [tV (txt "key"),.int (kv - 7)])) _
  generalize upd H7 A3 _=H8 at sD eD ⊢
  have t7:=SameT.trans t6 s7
  have t8:=SameT.trans t7 (Same.tt sD)
  have fD:H A3=none:=d7.free t7 hA3
  have i3:Is (fr H H8) (.ref A3) (tlT (.key (kv - 7))):=ya3 (by rw[ycz fD];exact eD) (yaj (ycB _) (yaj (yfS _ _) (yaz _)))
  have d8:=d7.same sD
  left
  refine⟨a,tp,ns,_,rfl,d8,by omega,λmx m H9 hm s9 d9 im=>?_⟩
  left
  refine ybA λA4 hA4=>?_
  have sE:=yae hA4 (.tup [tV (txt "metre"),mx])
  have eE:upd H9 A4 (.tup [tV (txt "metre"),mx]) A4=_:=yac
  show ylc _ (upd H9 A4 (.tup [tV (txt "metre"),mx])) _
  generalize upd H9 A4 _=HA at sE eE ⊢
  have t9:=SameT.trans t8 s9
  have tA:=SameT.trans t9 (Same.tt sE)
  have fE:H A4=none:=d9.free t9 hA4
  have i4:Is (fr H HA) (.ref A4) (tlT (.metre m.1 m.2.1 m.2.2)):=ya3 (by rw[ycz fE];exact eE) (yaj (ycB _) (yaj (im.same λb u e=>ycY d8 t8 b u (ydA sE b u e)) (yaz _)))
  have dA:=d9.same sE
  refine ydu ⟨by show 2<=sizeLine;decide,λL2 hL2=>?_⟩
  have sF:=yae hL2 (.lst [.ref A3,.ref A4])
  have eF:upd HA L2 (.lst [.ref A3,.ref A4]) L2=_:=yac
  generalize upd HA L2 _=HB at sF eF ⊢
  have eC':=sF _ _ (sE _ _ (s9 _ _ nL1 (sD _ _ (s7 _ _ nL1 eC))))
  refine⟨L1,L2,_,_,rfl,rfl,eC',eF,by show 4<=sizeLine;decide,λL3 hL3=>?_⟩
  have sG:=yae hL3 (.lst ([.ref A1,.ref A2]++[.ref A3,.ref A4]))
  have eG:upd HB L3 (.lst ([.ref A1,.ref A2]++[.ref A3,.ref A4])) L3=_:=yac
  generalize upd HB L3 _=HC at sG eG ⊢
  have sFG:=sF.trans sG
  have tC:=SameT.trans tA (Same.tt sFG)
  have dC:=dA.same sFG
  have four:Iss (fr H HC) ([.ref A1,.ref A2]++[.ref A3,.ref A4]) ([.pause p,.whole (12*(1+wv)),.key (kv - 7),.metre m.1 m.2.1 m.2.2].map tlT) :=
   yaj (j1.same (dr.fr (SameT.trans (Same.tt sC) (SameT.trans s7 (SameT.trans (Same.tt sD) (SameT.trans s9 (Same.tt (sE.trans sFG)))))))) (yaj (i2.same (dr.fr (SameT.trans (Same.tt sC) (SameT.trans s7 (SameT.trans (Same.tt sD) (SameT.trans s9 (Same.tt (sE.trans sFG)))))))) (yaj (i3.same (dr.fr (SameT.trans s9 (Same.tt (sE.trans sFG))))) (yaj (i4.same (dr.fr (Same.tt sFG))) (yaz _))))
  refine yaT (yrT (yqG (yqG (yj6 rfl ?_))))
  refine(show yki _ (.ls ([Tl.bare .be,.bare .en,.ending 1,.ending 2,.bare .cl,.bare .fi,.bare .ba].map tlT)) from ?_) _ _ _ λz HD sH iH=>?_
  ·refine ypQ ?_ (by decide)
   repeat (first | exact ysv | refine yrL ?_ ?_ | refine ytA ?_ (by decide) | exact yrk rfl)
  rw[Is] at iH
  obtain⟨L4,zs,rfl,e4,is4⟩:=iH
  obtain⟨f4,e4⟩:=yb4 e4
  have l7:zs.length=7:=is4.len
  refine⟨L3,L4,_,zs,rfl,rfl,sH _ _ eG,e4,by rw[l7];show 11<=sizeLine;decide,λL5 hL5=>?_⟩
  have sI:=yae hL5 (.lst ([.ref A1,.ref A2]++[.ref A3,.ref A4]++zs))
  have eI:upd HD L5 (.lst ([.ref A1,.ref A2]++[.ref A3,.ref A4]++zs)) L5=_:=yac
  generalize upd HD L5 _=HE at sI eI ⊢
  have all:Iss (fr H HE) ([.ref A1,.ref A2]++[.ref A3,.ref A4]++zs) ([Tl.pause p,.whole (12*(1+wv)),.key (kv - 7),.metre m.1 m.2.1 m.2.2,.bare .be,.bare .en,.ending 1,.ending 2,.bare .cl,.bare .fi,.bare .ba].map tlT) :=
   Iss.app (ts:=[.pause p,.whole (12*(1+wv)),.key (kv - 7),.metre m.1 m.2.1 m.2.2].map tlT) (four.same (dr.fr (Same.tt (sH.trans sI)))) (is4.same λb u e=>ycY dC tC b u (ydA sI b u e))
  left
  have good:∀ tl∈[Tl.pause p,.whole (12*(1+wv)),.key (kv - 7),.metre m.1 m.2.1 m.2.2,.bare .be,.bare .en,.ending 1,.ending 2,.bare .cl,.bare .fi,.bare .ba],DTl tl:=λtl h=>by
   simp only[List.mem_cons,qk,or_false] at h
   rcases h with rfl | rfl | rfl | rfl | rfl | rfl | rfl | rfl | rfl | rfl | rfl
   ·exact hp
   ·exact⟨by omega,by omega⟩
   ·exact⟨by omega,by omega⟩
   ·exact hm
   ·trivial
   ·trivial
   ·exact .inl rfl
   ·exact .inr rfl
   ·trivial
   ·trivial
   ·trivial
  have r0:=Int.emod_nonneg kd (show(11:Int)≠0 by decide)
  have r1:=Int.emod_lt_of_pos kd (show(0:Int) < 11 by decide)
  obtain⟨y,ey,iy⟩:=all.at' (kd%11).toNat (by rw[qM];show(kd%11).toNat < 11;omega)
  rw[List.getElem_map] at iy
  have ea:=yav ey
  rw[Int.toNat_of_nonneg r0] at ea
  exact ybq (SqL.of eI) ea (q y _ HE (good _ (List.getElem_mem _)) (SameT.trans tC (Same.tt (sH.trans sI))) ((dC.same (sH.trans sI)).up (by omega)) iy)
open TX K2 K3
def yl0 (t:Ad):Sp:=λvs H Q _=>∃ (i:ypC) (Hs:Hp),vs=[tV (yoz i)]/\Same Hs H/\∀ x H',Same H H'->Sg t (nw Hs H H') x (.bare i)->Q x H'
theorem ypz {H Hs:Hp}{x dx:Addr}{i:ypC}(hx:H x=none):Sg t (nw Hs H (upd (upd H dx (.own x)) x (.ins (gC t (.b i)) dx []))) (.ref x) (.bare i):=⟨x,dx,[],rfl,by rw[ybx hx];exact yac,rfl⟩
theorem yf8 {H:Hp}{x dx:Addr}{o:HO}(hx:H x=none)(hd:H dx=none):Same H (upd (upd H dx (.own x)) x o):=λb u e=>by rw[yas (yak e hx),yas (yak e hd)];exact e
theorem yrb:OF P w base T.Uc 1 (yl0 t):=by
 o_head (T.Uc.F,ysb)
 obtain⟨i,Hs,rfl,sH,q⟩:=h
 refine⟨_,(yad (yaI (yap ya2 (pv 0) yaf (yat _)) (yag (yam (yc5 T.Qn rfl T.JY))) yau) (yad (yaI (yap ya2 (pv 0) yaf (yat _)) (yag (yam (yc5 T.QH rfl T.Qt))) yau) (yad (yaI (yap ya2 (pv 0) yaf (yat _)) (yag (yam (yc5 T.Qo rfl T.JZ))) yau) (yag (yam (yaJ (yap ya2 (pv 0) yaf (yat _)) (yc5 T.Qv rfl T.Qi) (yc5 T.Qw rfl T.Qj))))))),?_⟩
 have fin:∀ (C:Addr) (σ:St),C=gC t (.b i)->ysI C σ H Q:=λC σ e x dx hx hd _=>by
  subst e
  exact q _ _ (yf8 hx hd) (ypz hx)
 cases i
 all_goals
  repeat (first
   | exact fin _ _ rfl
   | (left;refine⟨rfl,ybr ?_⟩;first | rw[if_pos (by ac_rfl)] | rw[if_neg (by ac_rfl)])
   | (left;exact fin _ _ rfl))
def yqT (t:Ad):Sp:=λvs H Q _=>∃ (y hx:V) (tl:Tl) (Hs:Hp),vs=[y,hx]/\Same Hs H/\Is Hs y (tlT tl)/\(∀ hs p ti be wd op cl,tl=.note hs p ti be wd op cl->∃ l xs,hx=.ref l/\H l=some (.lst xs)/\Iss Hs xs (hs.map hdT))/\∀ x H',Same H H'->Sg t (nw Hs H H') x tl->Q x H'
theorem Is.two {H:Hp}{y:V}{n:List Nat}{tr:Th}(h:Is H y (.tp [sT n,tr])):∃ b z,y=.ref b/\H b=some (.tup [tV n,z])/\Is H z tr:=by
 rw[Is] at h
 obtain⟨p,ys,rfl,e,is⟩:=h
 rw[Iss] at is
 obtain⟨y0,r0,rfl,i0,is⟩:=is
 rw[Iss] at is
 obtain⟨y1,r1,rfl,i1,is⟩:=is
 rw[Iss] at is
 rw[sT,Is] at i0
 rw[is,i0.1] at e
 exact⟨p,y1,rfl,e,i1⟩
theorem Is.ones {H:Hp}{y:V}{n:List Nat}(h:Is H y (.tp [sT n])):∃ b,y=.ref b/\H b=some (.tup [tV n]):=by
 rw[Is] at h
 obtain⟨p,ys,rfl,e,is⟩:=h
 rw[Iss] at is
 obtain⟨y0,r0,rfl,i0,is⟩:=is
 rw[Iss] at is
 rw[sT,Is] at i0
 rw[is,i0.1] at e
 exact⟨p,rfl,e⟩
theorem Is.eight {H:Hp}{y:V}{hs:List Hd}{p:Pc}{ti be:Bool}{wd:List Nat}{op cl:Bool}(h:Is H y (tlT (.note hs p ti be wd op cl))):∃ b l z xs,y=.ref b/\H b=some (.tup [tV (txt "note"),.ref l,z,.bl ti,.bl be,tV wd,.bl op,.bl cl])/\H l=some (.lst xs)/\Iss H xs (hs.map hdT)/\Is H z (pcT p):=by
 rw[tlT,Is] at h
 obtain⟨b,ys,rfl,e,is⟩:=h
 rw[Iss] at is
 obtain⟨y0,r0,rfl,i0,is⟩:=is
 rw[Iss] at is
 obtain⟨y1,r1,rfl,i1,is⟩:=is
 rw[Iss] at is
 obtain⟨y2,r2,rfl,i2,is⟩:=is
 rw[Iss] at is
 obtain⟨y3,r3,rfl,i3,is⟩:=is
 rw[Iss] at is
 obtain⟨y4,r4,rfl,i4,is⟩:=is
 rw[Iss] at is
 obtain⟨y5,r5,rfl,i5,is⟩:=is
 rw[Iss] at is
 obtain⟨y6,r6,rfl,i6,is⟩:=is
 rw[Iss] at is
 obtain⟨y7,r7,rfl,i7,is⟩:=is
 rw[Iss] at is
 rw[sT,Is] at i0 i5
 rw[bT,Is] at i3 i4 i6 i7
 rw[hsT,Is] at i1
 obtain⟨l,xs,rfl,el,il⟩:=i1
 rw[is,i0.1,i3.1,i4.1,i5.1,i6.1,i7.1] at e
 exact⟨b,l,y2,xs,rfl,e,el,il,i2⟩
theorem yqA:OF P w base T.Ub 3 (yqT t):=by
 o_head (T.Ub.F,sc_zaq)
 obtain⟨y,hx,tl,Hs,rfl,sH,iy,hn,q⟩:=h
 refine⟨_,(yad (pst 2 sc_zaq.nd (xT (pv 0))) (yad (yaI (yap ya2 (pv 2) yaf (yat _)) (yag (yam (ybP T.Qu (yrZ T) (hrm hr) rfl T.Qh T.zq.B .nil ybW (yaa (pv 1) (yaa (xT (pv 0)) (yaa (xT (pv 0)) (yaa (xT (pv 0)) (yaa (xT (pv 0)) (yaa (xT (pv 0)) (yaa (xT (pv 0)) yab)))))))))) yau) (yad (yaI (yap ya2 (pv 2) yaf (yat _)) (yag (yam (ybP T.Ql (yrY T) (hrm hr) rfl T.JW T.zm.B .nil ybW (yaa (xT (pv 0)) yab)))) yau) (yad (yaI (yap ya2 (pv 2) yaf (yat _)) (yag (yam (ybP T.Qm (yrf T) (hrm hr) rfl T.JX T.zo.B .nil ybW (yaa (xT (pv 0)) yab)))) yau) (yad (yaI (yap ya2 (pv 2) yaf (yat _)) (yag (yam (ybP T.JU (yrx T) (hrm hr) rfl T.JF T.zd.B .nil ybW (yaa (xT (pv 0)) yab)))) yau) (yad (yaI (yap ya2 (pv 2) yaf (yat _)) (yag (yam (ybP T.JJ (yq9 T) (hrm hr) rfl T.Jw T.zb.B .nil ybW (yaa (xT (pv 0)) yab)))) yau) (yad (yaI (yap ya2 (pv 2) yaf (yat _)) (yag (yam (ybP T.JN (yoQ T) (hrm hr) rfl T.JB T.zj.B .nil ybW (yaa (xT (pv 0)) yab)))) yau) (yag (yam (pcm (yrb T) hr (yaa (pv 2) yab))))))))))),?_⟩
 cases tl with
 | note hs p ti be wd op cl =>
  obtain⟨l,xs,rfl,el,il⟩:=hn _ _ _ _ _ _ _ rfl
  obtain⟨b,l0,z,xs0,rfl,eb,_,_,iz⟩:=Is.eight iy
  have hq:=SqT.of (K:=K) (sH _ _ eb)
  left
  refine ybh 0 hq ?_
  right
  left
  refine ybh 2 hq ?_
  left
  refine ybh 3 hq ?_
  left
  refine ybh 4 hq ?_
  left
  refine ybh 5 hq ?_
  left
  refine ybh 6 hq ?_
  left
  refine ybh 7 hq ?_
  left
  intro x dx hx hd _
  have up:Same H (upd (upd H dx (.own x)) x (.ins t.Ul dx [])):=yf8 hx hd
  refine⟨x,dx,l,xs,z,_,_,_,_,_,rfl,yac,up _ _ el,λl' hl'=>⟨rfl,?_⟩⟩
  have nl:l'≠x:=λe=>by rw[e,yac] at hl';cases hl'
  have fl:H l'=none:=yfc up hl'
  have fin:∀ b u,H b=some u->upd (upd (upd (upd H dx (.own x)) x (.ins t.Ul dx [])) l' (.lst xs)) x (.ins t.Ul dx (nFs l' z ti be wd op cl)) b=some u:=λb u e=>by
   rw[yas (yak e hx),yas (yak e fl)]
   exact up _ _ e
  have ni:=yfy (H':=upd (upd (upd (upd H dx (.own x)) x (.ins t.Ul dx [])) l' (.lst xs)) x (.ins t.Ul dx (nFs l' z ti be wd op cl))) sH
  exact q _ _ fin ⟨x,dx,_,rfl,by rw[ybx hx];exact yac,l',z,rfl,yeG (by rw[ybx fl,yas nl,yac]) (il.same ni),iz.same ni⟩
 | pause p =>
  obtain⟨b,z,rfl,eb,iz⟩:=Is.two iy
  have hq:=SqT.of (K:=K) (sH _ _ eb)
  left
  refine ybh 0 hq ?_
  right
  right
  left
  refine ybh 1 hq ?_
  left
  intro x dx hx hd _
  refine⟨x,dx,_,rfl,yac,rfl,?_⟩
  exact q _ _ (ybM hx hd) ⟨x,dx,_,rfl,by rw[ybx hx];exact yac,z,rfl,iz.same (yfy sH)⟩
 | whole n =>
  obtain⟨b,z,rfl,eb,iz⟩:=Is.two iy
  have hq:=SqT.of (K:=K) (sH _ _ eb)
  left
  refine ybh 0 hq ?_
  right
  right
  right
  left
  refine ybh 1 hq ?_
  left
  intro x dx hx hd _
  refine⟨x,dx,_,rfl,yac,rfl,?_⟩
  exact q _ _ (ybM hx hd) ⟨x,dx,_,rfl,by rw[ybx hx];exact yac,z,rfl,iz.same (yfy sH)⟩
 | key k =>
  obtain⟨b,z,rfl,eb,iz⟩:=Is.two iy
  have hq:=SqT.of (K:=K) (sH _ _ eb)
  left
  refine ybh 0 hq ?_
  right
  right
  right
  right
  left
  refine ybh 1 hq ?_
  left
  intro x dx hx hd _
  refine⟨x,dx,_,rfl,yac,rfl,?_⟩
  exact q _ _ (ybM hx hd) ⟨x,dx,_,rfl,by rw[ybx hx];exact yac,z,rfl,iz.same (yfy sH)⟩
 | metre a b gs =>
  obtain⟨b,z,rfl,eb,iz⟩:=Is.two iy
  have hq:=SqT.of (K:=K) (sH _ _ eb)
  left
  refine ybh 0 hq ?_
  right
  right
  right
  right
  right
  left
  refine ybh 1 hq ?_
  left
  intro x dx hx hd _
  refine⟨x,dx,_,rfl,yac,rfl,?_⟩
  exact q _ _ (ybM hx hd) ⟨x,dx,_,rfl,by rw[ybx hx];exact yac,z,rfl,iz.same (yfy sH)⟩
 | ending n =>
  obtain⟨b,z,rfl,eb,iz⟩:=Is.two iy
  have hq:=SqT.of (K:=K) (sH _ _ eb)
  left
  refine ybh 0 hq ?_
  right
  right
  right
  right
  right
  right
  left
  refine ybh 1 hq ?_
  left
  intro x dx hx hd _
  refine⟨x,dx,_,rfl,yac,rfl,?_⟩
  exact q _ _ (ybM hx hd) ⟨x,dx,_,rfl,by rw[ybx hx];exact yac,z,rfl,iz.same (yfy sH)⟩
 | bare i =>
  obtain⟨b,rfl,eb⟩:=Is.ones iy
  have hq:=SqT.of (K:=K) (sH _ _ eb)
  left
  refine ybh 0 hq ?_
  cases i
  all_goals
   repeat right
   left
   exact⟨_,Hs,rfl,sH,q⟩
open TX K2 K3
noncomputable def nmW:Tl->List Nat
 | .note ..=>txt "note"
 | .pause _=>txt "pause"
 | .whole _=>txt "whole"
 | .key _=>txt "key"
 | .metre ..=>txt "metre"
 | .ending _=>txt "ending"
 | .bare i=>yoz i
noncomputable def yfU:Tl->List Th
 | .note hs p ti be wd op cl=>[hsT hs,pcT p,bT ti,bT be,sT wd,bT op,bT cl]
 | .pause p=>[pcT p]
 | .whole n=>[nT n]
 | .key k=>[nT k]
 | .metre a b gs=>[mtT a b gs]
 | .ending n=>[nT n]
 | .bare _=>[]
theorem yic (tl:Tl):tlT tl=.tp (sT (nmW tl) :: yfU tl):=by cases tl<;>rfl
theorem ydv {H:Hp}{y:V}{tl:Tl}(h:Is H y (tlT tl)):∃ b xs,y=.ref b/\H b=some (.tup (tV (nmW tl) :: xs))/\Iss H xs (yfU tl):=by
 rw[yic,Is] at h
 obtain⟨b,ys,rfl,e,is⟩:=h
 rw[Iss] at is
 obtain⟨y0,r0,rfl,i0,is⟩:=is
 rw[sT,Is] at i0
 rw[i0.1] at e
 exact⟨b,r0,rfl,e,is⟩
noncomputable def isN:Tl->Bool
 | .note ..=>true
 | _=>false
noncomputable def isP:Tl->Bool
 | .pause _=>true
 | _=>false
noncomputable def isW:Tl->Bool
 | .whole _=>true
 | _=>false
theorem ysL (tl:Tl):decide (tV (nmW tl)=V.str (Str.ofString "note"))=isN tl:=by
 cases tl with
 | bare i=>cases i<;>rfl
 | _=>rfl
theorem yuf (tl:Tl):decide (tV (nmW tl)=V.str (Str.ofString "pause"))=isP tl:=by
 cases tl with
 | bare i=>cases i<;>rfl
 | _=>rfl
theorem ytS (tl:Tl):decide (tV (nmW tl)=V.str (Str.ofString "whole"))=isW tl:=by
 cases tl with
 | bare i=>cases i<;>rfl
 | _=>rfl
def yrQ:Sp:=λvs H Q _=>∃ y tl,vs=[y]/\Is H y (tlT tl)/\ys3 tl/\∀ H',Same H H'->Q (.int (tg tl)) H'
theorem yrF:OF P w base T.Ug 2 yrQ:=by
 o_head (T.Ug.F,yqE)
 obtain⟨y,tl,rfl,iy,ok,q⟩:=h
 refine⟨_,(yad (yaI (PW.pt (ybE (yap ya2 (xT (pv 0)) yaf (yat _)) (ybp (yap ya2 (xT (pv 0)) yaf (yat _))))) (yag (yam (pcm (yuF T) hr (yaa (ya5 ycJ (pv 0) (yay ybv yah (yaC ycc rfl T.Jx ybO (yaa (yaS ya2 (xT (pv 0)) yaf (yat _)) yab))) (λ_ _=>rfl)) yab)))) yau) (yag (yam (yaJ (yap ya2 (xT (pv 0)) yaf (yat _)) (xT (pv 0)) yah)))),?_⟩
 obtain⟨b,xs,rfl,eb,is⟩:=ydv iy
 have hq:=SqT.of (K:=K) eb
 left
 refine ybh 0 hq ?_
 left
 refine⟨rfl,ybr ?_⟩
 rw[ysL]
 cases tl with
 | note hs p ti be wd op cl =>
  rw[yfU,Iss] at is
  obtain⟨y1,r1,rfl,i1,is⟩:=is
  rw[Iss] at is
  obtain⟨y2,r2,rfl,i2,is⟩:=is
  refine i_T ?_
  left
  refine ybh 0 hq ?_
  refine⟨rfl,?_⟩
  rw[ysL]
  left
  refine .inr ⟨true,rfl,?_⟩
  left
  refine ybh 2 hq ?_
  left
  exact⟨_,p,rfl,ok,i2,λH' s=>q H' s⟩
 | pause p =>
  rw[yfU,Iss] at is
  obtain⟨y1,r1,rfl,i1,is⟩:=is
  refine i_F ?_
  left
  refine ybh 0 hq ?_
  left
  refine⟨rfl,ybr ?_⟩
  rw[yuf]
  refine i_T ?_
  left
  refine ybh 0 hq ?_
  refine⟨rfl,?_⟩
  rw[ysL]
  left
  refine .inr ⟨false,rfl,?_⟩
  left
  refine ybh 1 hq ?_
  left
  exact⟨_,p,rfl,ok,i1,λH' s=>q H' s⟩
 | whole n =>
  rw[yfU,Iss] at is
  obtain⟨y1,r1,rfl,i1,is⟩:=is
  rw[i1.n] at hq
  refine i_F ?_
  left
  refine ybh 0 hq ?_
  left
  refine⟨rfl,ybr ?_⟩
  rw[yuf]
  refine i_F ?_
  left
  refine ybh 0 hq ?_
  left
  refine⟨rfl,ybr ?_⟩
  rw[ytS]
  refine i_T ?_
  left
  exact yd8 hq (yav (j:=1) rfl) (q H (Same.refl H))
 | _ =>
  refine i_F ?_
  left
  refine ybh 0 hq ?_
  left
  refine⟨rfl,ybr ?_⟩
  rw[yuf]
  refine i_F ?_
  left
  refine ybh 0 hq ?_
  left
  refine⟨rfl,ybr ?_⟩
  rw[ytS]
  refine i_F ?_
  left
  exact q H (Same.refl H)
open TX K2 K3
noncomputable def kls (t:Ad):List Addr:=[t.Ul,t.Um,t.Uo,t.Uq,t.Ur,t.Us,t.Ut,t.Uu,t.Uv,t.Uw,t.Ux]
noncomputable def ixK:SK->Nat
 | .n=>0
 | .p=>1
 | .w=>2
 | .k=>3
 | .m=>4
 | .b .be=>5
 | .b .en=>6
 | .e=>7
 | .b .cl=>8
 | .b .fi=>9
 | .b .ba=>10
theorem yoM (T:Txt K mg t):∀ i,ClsObj K (gC t i)
 | .n=>T.QK
 | .p=>T.QB
 | .w=>T.QC
 | .k=>T.Qs
 | .m=>T.Qg
 | .b .be=>T.QE
 | .b .en=>T.QX
 | .e=>T.Qy
 | .b .cl=>T.QG
 | .b .fi=>T.QM
 | .b .ba=>T.QO
theorem ynY (t:Ad):∀ i,(kls t)[ixK i]?=some (gC t i)
 | .n=>rfl
 | .p=>rfl
 | .w=>rfl
 | .k=>rfl
 | .m=>rfl
 | .b .be=>rfl
 | .b .en=>rfl
 | .e=>rfl
 | .b .cl=>rfl
 | .b .fi=>rfl
 | .b .ba=>rfl
theorem ypX (T:Txt K mg t)(i:SK){j:Nat}{c:Addr}(hj:(kls t)[j]?=some c):PySem.W.kitOne K (.ref (gC t i)) (.ref c)=some (ixK i==j):=by
 have h:ygA K t.Uk (kls t)=true:=T.I_
 unfold ygA at h
 have a:=List.all_eq_true.mp h (gC t i,ixK i) (List.mem_zipIdx_iff_getElem?.mpr (ynY t i))
 rw[Bool.and_eq_true] at a
 have b:=List.all_eq_true.mp a.2 (c,j) (List.mem_zipIdx_iff_getElem?.mpr hj)
 exact eq_of_beq b
theorem ymJ (T:Txt K mg t)(i:SK):PySem.W.kitOne K (.ref (gC t i)) (.ref t.Uk)=some true:=by
 have h:ygA K t.Uk (kls t)=true:=T.I_
 unfold ygA at h
 have a:=List.all_eq_true.mp h (gC t i,ixK i) (List.mem_zipIdx_iff_getElem?.mpr (ynY t i))
 rw[Bool.and_eq_true] at a
 exact eq_of_beq a.1
theorem yqr {H:Hp}{x:V}{c:Addr}{ty:Value}{b:Bool}{Q:VK}(h:ye3 K H x ty)(k:PySem.W.kitOne K ty (.ref c)=some b)(q:Q (.bl b) H):yhn K [x,.ref c] H Q:=⟨x,c,ty,b,rfl,h,k,q⟩
theorem Sg.ty (T:Txt K mg t){H:Hp}{x:V}{tl:Tl}(h:Sg t H x tl):ye3 K H x (.ref (gC t (yc8 tl))):=by
 obtain⟨a,dx,fs,rfl,ea,_⟩:=h
 exact(yoM T _).ty (ycS T _) ea
noncomputable def cB (i:SK)(j:Nat):V:=.bl (ixK i==j)
noncomputable def cA (i:SK):List V:=[cB i 0,cB i 1,cB i 2,cB i 3]
noncomputable def cC (i:SK):List V:=[cB i 4,cB i 5,cB i 6]
noncomputable def cE (i:SK):List V:=[cB i 7,cB i 8,cB i 9,cB i 10]
theorem yd5 (T:Txt K mg t){H:Hp}{x:V}{c:Addr}{i:SK}{Q:VK}(h:ye3 K H x (.ref (gC t i)))(j:Nat)(hj:(kls t)[j]?=some c)(q:Q (cB i j) H):yhn K [x,.ref c] H Q:=yqr h (ypX T i hj) q
noncomputable def kindsW:List (List Nat):=[txt "note",txt "pause",txt "whole",txt "key",txt "metre",txt "begin",txt "end",txt "ending",txt "close",txt "fine",txt "back"]
def ylP (i:SK):List Bool:=(List.range 11).map λj=>ixK i==j
theorem yl6 (tl:Tl):kindsW.map (λw=>decide (w=nmW tl))=ylP (yc8 tl):=by
 cases tl with
 | bare i=>cases i<;>decide +kernel
 | note=>show kindsW.map (λw=>decide (w=txt "note"))=ylP .n;decide +kernel
 | pause=>show kindsW.map (λw=>decide (w=txt "pause"))=ylP .p;decide +kernel
 | whole=>show kindsW.map (λw=>decide (w=txt "whole"))=ylP .w;decide +kernel
 | key=>show kindsW.map (λw=>decide (w=txt "key"))=ylP .k;decide +kernel
 | metre=>show kindsW.map (λw=>decide (w=txt "metre"))=ylP .m;decide +kernel
 | ending=>show kindsW.map (λw=>decide (w=txt "ending"))=ylP .e;decide +kernel
def yse (t:Ad):Sp:=λvs H Q _=>∃ x tl,vs=[x,tV (nmW tl)]/\Sg t H x tl/\∀ H',Same H H'->Q (.bl true) H'
theorem yhI (H:Hp):∀ bs:List Bool,Iss H (bs.map V.bl) (bs.map bT)
 | []=>yaz H
 | b :: bs=>yaj (yeE b) (yhI H bs)
theorem ysD:OF P w base T.zX 1 (yse t):=by
 o_head (T.zX.F,sc_zX)
 obtain⟨x,tl,rfl,sg,q⟩:=h
 refine⟨_,(yad (pst 2 sc_zX.nd (yaN (yaa (yar (show ybF _ _ (yhn K) from ybw) rfl T.Ja yal (yaa (pv 0) (yaa (yby (v:=.ref t.Ul) rfl T.Qh rfl) yab))) (yaa (yar (show ybF _ _ (yhn K) from ybw) rfl T.Ja yal (yaa (pv 0) (yaa (yby (v:=.ref t.Um) rfl T.JW rfl) yab))) (yaa (yar (show ybF _ _ (yhn K) from ybw) rfl T.Ja yal (yaa (pv 0) (yaa (yby (v:=.ref t.Uo) rfl T.JX rfl) yab))) (yaa (yar (show ybF _ _ (yhn K) from ybw) rfl T.Ja yal (yaa (pv 0) (yaa (yby (v:=.ref t.Uq) rfl T.JF rfl) yab))) yab)))))) (yad (pst 2 sc_zX.nd (yay ydr (pv 2) (yaN (yaa (yar (show ybF _ _ (yhn K) from ybw) rfl T.Ja yal (yaa (pv 0) (yaa (yby (v:=.ref t.Ur) rfl T.Jw rfl) yab))) (yaa (yar (show ybF _ _ (yhn K) from ybw) rfl T.Ja yal (yaa (pv 0) (yaa (yby (v:=.ref t.Us) rfl T.JY rfl) yab))) (yaa (yar (show ybF _ _ (yhn K) from ybw) rfl T.Ja yal (yaa (pv 0) (yaa (yby (v:=.ref t.Ut) rfl T.Qt rfl) yab))) yab)))))) (yad (pst 2 sc_zX.nd (yay ydr (pv 2) (yaN (yaa (yar (show ybF _ _ (yhn K) from ybw) rfl T.Ja yal (yaa (pv 0) (yaa (yby (v:=.ref t.Uu) rfl T.JB rfl) yab))) (yaa (yar (show ybF _ _ (yhn K) from ybw) rfl T.Ja yal (yaa (pv 0) (yaa (yby (v:=.ref t.Uv) rfl T.JZ rfl) yab))) (yaa (yar (show ybF _ _ (yhn K) from ybw) rfl T.Ja yal (yaa (pv 0) (yaa (yby (v:=.ref t.Uw) rfl T.Qi rfl) yab))) (yaa (yar (show ybF _ _ (yhn K) from ybw) rfl T.Ja yal (yaa (pv 0) (yaa (yby (v:=.ref t.Ux) rfl T.Qj rfl) yab))) yab))))))) (yad (pst 3 sc_zX.nd (yaN (yaa yaf (yaa yaf (yaa yaf (yaa yaf (yaa yaf (yaa yaf (yaa yaf (yaa yaf (yaa yaf (yaa yaf (yaa yaf yab))))))))))))) (yag (yam (ycQ (yar (show ybF _ _ (yhn K) from ybw) rfl T.Ja yal (yaa (pv 0) (yaa (yby (v:=.ref t.Uk) rfl T.QJ rfl) yab))) (ycD (yaS (yg1 hu) (pv 2) (ybo (yaR (NB:=["_law_one","_law_kind"]) (cap:=[none,some 1]) rfl) rfl (ycf (pv 3)) (λ_ _ _ _=>pgb 0) (λ_ _ _ _=>yaZ) (λ_ _ _ _=>(yaS ya2 (pv 0) (pv 1) (yat _)))) (yat _)))))))))),?_⟩
 have ty:∀ {H'},Same H H'->ye3 K H' x (.ref (gC t (yc8 tl))):=λs=>(sg.same s).ty T
 generalize hi:yc8 tl=i at ty
 left
 refine yd5 T (ty (Same.refl H)) 0 rfl ?_
 left
 refine yd5 T (ty (Same.refl H)) 1 rfl ?_
 left
 refine yd5 T (ty (Same.refl H)) 2 rfl ?_
 left
 refine yd5 T (ty (Same.refl H)) 3 rfl ?_
 left
 refine ybA λp1 h1=>?_
 have s1:=yae h1 (.lst (cA i))
 have e1:upd H p1 (.lst (cA i)) p1=_:=yac
 show ybt _ _ _ (upd H p1 (.lst (cA i))) _
 generalize upd H p1 _=H1 at s1 e1 ⊢
 left
 refine yd5 T (ty s1) 4 rfl ?_
 left
 refine yd5 T (ty s1) 5 rfl ?_
 left
 refine yd5 T (ty s1) 6 rfl ?_
 left
 refine ybA λp2 h2=>?_
 have s2:=yae h2 (.lst (cC i))
 have e2:upd H1 p2 (.lst (cC i)) p2=_:=yac
 show ysO _ _ (upd H1 p2 (.lst (cC i))) _
 generalize upd H1 p2 _=H2 at s2 e2 ⊢
 refine⟨p1,p2,_,_,rfl,rfl,s2 _ _ e1,e2,by show 7<=sizeLine;decide,λp3 h3=>?_⟩
 have s3:=yae h3 (.lst (cA i++cC i))
 have e3:upd H2 p3 (.lst (cA i++cC i)) p3=_:=yac
 generalize upd H2 p3 _=H3 at s3 e3 ⊢
 have s03:=s1.trans (s2.trans s3)
 left
 refine yd5 T (ty s03) 7 rfl ?_
 left
 refine yd5 T (ty s03) 8 rfl ?_
 left
 refine yd5 T (ty s03) 9 rfl ?_
 left
 refine yd5 T (ty s03) 10 rfl ?_
 left
 refine ybA λp4 h4=>?_
 have s4:=yae h4 (.lst (cE i))
 have e4:upd H3 p4 (.lst (cE i)) p4=_:=yac
 show ysO _ _ (upd H3 p4 (.lst (cE i))) _
 generalize upd H3 p4 _=H4 at s4 e4 ⊢
 refine⟨p3,p4,_,_,rfl,rfl,s4 _ _ e3,e4,by show 11<=sizeLine;decide,λp5 h5=>?_⟩
 have s5:=yae h5 (.lst (cA i++cC i++cE i))
 have e5:upd H4 p5 (.lst (cA i++cC i++cE i)) p5=_:=yac
 generalize upd H4 p5 _=H5 at s5 e5 ⊢
 have s05:=s03.trans (s4.trans s5)
 refine yaT (ycn (yjJ ?_))
 refine(show yki _ (.ls (kindsW.map sT)) from ?_) _ _ _ λz H6 s6 i6=>?_
 ·refine ypQ ?_ (by decide)
  repeat (first | exact ysv | refine yrL ?_ ?_ | exact yrk rfl)
 rw[Is] at i6
 obtain⟨p6,zs,rfl,e6,is6⟩:=i6
 obtain⟨_,e6⟩:=yb4 e6
 have is6:=is6.same (yhv _ _)
 have s06:=s05.trans s6
 refine yaT ?_
 left
 refine yqr (ty s06) (ymJ T _) ?_
 left
 refine⟨p6,rfl,⟨_,SqL.of e6⟩,λD hD=>ycZ (R:=λx w=>Is H6 x (sT w)) (λw=>V.bl (decide (w=nmW tl))) e6 (yec is6) hD (by decide) ?_ ?_⟩
 ·rintro y w H7 Q7 hm s7 iy k
  rw[sT,Is] at iy
  rw[iy.1]
  left
  refine⟨rfl,?_⟩
  have:=k H7 (Same.refl _)
  rw[show decide (tV w=tV (nmW tl))=decide (w=nmW tl) by rw[decide_eq_decide];exact⟨ygc,λe=>by rw[e]⟩]
  exact this
 ·rintro H7 s7 hd
  have hm:kindsW.map (λw=>V.bl (decide (w=nmW tl)))=(ylP (yc8 tl)).map V.bl:=by
   rw[← yl6,List.map_map]
   rfl
  rw[hm,hi] at hd
  have okb:OkE (.ls ((ylP i).map bT)):=⟨yd7 λu hu=>by obtain⟨b,_,rfl⟩:=List.mem_map.mp hu;rfl,yt5 (k:=59) (yk2 λu hu=>by obtain⟨b,_,rfl⟩:=List.mem_map.mp hu;exact yiY)⟩
  refine yui okb (yeG (s7 _ _ (s6 _ _ e5)) (yhI _ (ylP i))) (yeG hd (yhI _ _)) ?_
  exact q _ (s06.trans s7)
open TX K2 K3
def yl7 (t:Ad):Sp:=λvs H Q _=>∃ x tl,vs=[x,tV (nmW tl)]/\Sg t H x tl/\∀ y H',Same H H'->Is H' y (.tp (yfU tl))->Q y H'
theorem ysc:OF P w base T.zK 1 (yl7 t):=by
 o_head (T.zK.F,sc_zK)
 obtain⟨x,tl,rfl,sg,q⟩:=h
 refine⟨_,(yad (yaI (yap ya2 (pv 1) yaf (yat _)) (yad (pst 2 sc_zK.nd (yaw (yaa (yaQ (pv 0) rfl) (yaa (yaQ (pv 0) rfl) (yaa (yaQ (pv 0) rfl) (yaa (yaQ (pv 0) rfl) (yaa (yaQ (pv 0) rfl) yab))))))) (yag (yam (yay ykg (yaw (yaa (yaQ (pv 0) rfl) (yaa (yaQ (pv 0) rfl) yab))) (pv 2))))) yau) (yad (yaI (yap ya2 (pv 1) yaf (yat _)) (yag (yam (yaw (yaa (yaQ (pv 0) rfl) yab)))) yau) (yad (yaI (yap ya2 (pv 1) yaf (yat _)) (yag (yam (yaw (yaa (yaQ (pv 0) rfl) yab)))) yau) (yad (yaI (yap ya2 (pv 1) yaf (yat _)) (yag (yam (yaw (yaa (yaQ (pv 0) rfl) yab)))) yau) (yad (yaI (yap ya2 (pv 1) yaf (yat _)) (yag (yam (yaw (yaa (yaQ (pv 0) rfl) yab)))) yau) (yag (yam (yaJ (yap ya2 (pv 1) yaf (yat _)) (yaw (yaa (yaQ (pv 0) rfl) yab)) (yaw yab))))))))),?_⟩
 obtain⟨y,dx,fs,rfl,ea,f⟩:=sg
 cases tl with
 | note hs p ti be wd op cl =>
  obtain⟨l,z,rfl,i1,i2⟩:=f
  rw[show nmW (.note hs p ti be wd op cl)=txt "note" from rfl]
  right
  left
  refine⟨y,_,dx,_,_,rfl,ea,T.Jb,T.Jj,rfl,?_⟩
  left
  refine⟨y,_,dx,_,_,rfl,ea,T.Jb,T.Je,rfl,?_⟩
  left
  refine⟨y,_,dx,_,_,rfl,ea,T.Jb,T.Jo,rfl,?_⟩
  left
  refine⟨y,_,dx,_,_,rfl,ea,T.Jb,T.Jt,rfl,?_⟩
  left
  refine⟨y,_,dx,_,_,rfl,ea,T.Jb,T.Jm,rfl,?_⟩
  left
  refine ybA λp1 h1=>?_
  have s1:=yae h1 (.tup [.bl ti,.bl be,tV wd,.bl op,.bl cl])
  have e1:upd H p1 (.tup [.bl ti,.bl be,tV wd,.bl op,.bl cl]) p1=_:=yac
  show ybt _ _ _ (upd H p1 (.tup [.bl ti,.bl be,tV wd,.bl op,.bl cl])) _
  generalize upd H p1 _=H1 at s1 e1 ⊢
  have ea1:=s1 _ _ ea
  left
  refine⟨y,_,dx,_,_,rfl,ea1,T.Jb,T.Js,rfl,?_⟩
  left
  refine⟨y,_,dx,_,_,rfl,ea1,T.Jb,T.Ji,rfl,?_⟩
  left
  refine ybA λp2 h2=>?_
  have s2:=yae h2 (.tup [.ref l,z])
  have e2:upd H1 p2 (.tup [.ref l,z]) p2=_:=yac
  generalize upd H1 p2 _=H2 at s2 e2 ⊢
  left
  refine⟨p2,p1,_,_,rfl,rfl,SqT.of e2,SqT.of (s2 _ _ e1),by simp,by show 7<=sizeLine;decide,λz=>absurd z (by simp),λ_ C hC=>?_⟩
  have s3:=yae hC (.tup ([.ref l,z]++[.bl ti,.bl be,tV wd,.bl op,.bl cl]))
  have sa:=s1.trans (s2.trans s3)
  exact q _ _ sa (ya3 yac (yaj (i1.same sa) (yaj (i2.same sa) (yaj (yeE _) (yaj (yeE _) (yaj (ycB _) (yaj (yeE _) (yaj (yeE _) (yaz _)))))))))
 | pause p =>
  obtain⟨z,rfl,iz⟩:=f
  rw[show nmW (.pause p)=txt "pause" from rfl]
  right
  right
  left
  refine⟨y,_,dx,_,_,rfl,ea,T.Jz,T.Jf,rfl,?_⟩
  left
  refine ybA λb hb=>?_
  have s1:=yae hb (.tup [z])
  exact q _ _ s1 (ya3 yac (yaj (iz.same s1) (yaz _)))
 | whole n =>
  obtain⟨z,rfl,iz⟩:=f
  rw[show nmW (.whole n)=txt "whole" from rfl]
  right
  right
  right
  left
  refine⟨y,_,dx,_,_,rfl,ea,T.JE,T.Jk,rfl,?_⟩
  left
  refine ybA λb hb=>?_
  have s1:=yae hb (.tup [z])
  exact q _ _ s1 (ya3 yac (yaj (iz.same s1) (yaz _)))
 | key k =>
  obtain⟨z,rfl,iz⟩:=f
  rw[show nmW (.key k)=txt "key" from rfl]
  right
  right
  right
  right
  left
  refine⟨y,_,dx,_,_,rfl,ea,T.Ju,T.Jn,rfl,?_⟩
  left
  refine ybA λb hb=>?_
  have s1:=yae hb (.tup [z])
  exact q _ _ s1 (ya3 yac (yaj (iz.same s1) (yaz _)))
 | metre a b gs =>
  obtain⟨z,rfl,iz⟩:=f
  rw[show nmW (.metre a b gs)=txt "metre" from rfl]
  right
  right
  right
  right
  right
  left
  refine⟨y,_,dx,_,_,rfl,ea,T.Jp,T.Jd,rfl,?_⟩
  left
  refine ybA λb hb=>?_
  have s1:=yae hb (.tup [z])
  exact q _ _ s1 (ya3 yac (yaj (iz.same s1) (yaz _)))
 | ending n =>
  obtain⟨z,rfl,iz⟩:=f
  rw[show nmW (.ending n)=txt "ending" from rfl]
  right
  right
  right
  right
  right
  right
  left
  refine⟨y,_,dx,_,_,rfl,ea,T.Jy,T.Jg,rfl,?_⟩
  left
  refine ybA λb hb=>?_
  have s1:=yae hb (.tup [z])
  exact q _ _ s1 (ya3 yac (yaj (iz.same s1) (yaz _)))
 | bare i =>
  cases i
  all_goals
   repeat right
   left
   exact⟨Nat.zero_le _,λb hb=>q _ _ (yae hb _) (ya3 yac (yaz _))⟩
def ymx:Sp:=λvs H Q _=>∃ (x:V) (p:Pc),vs=[x]/\Is H x (pcT p)/\p∈pcs/\∀ H',Same H H'->Q (tV (pcW p)) H'
theorem yob:OF P w base T.zg 1 ymx:=by
 o_head (T.zg.F,yuD)
 obtain⟨x,p,rfl,ix,hp,q⟩:=h
 obtain⟨a,rfl,e⟩:=Is.three ix
 refine⟨_,(yag (yam (yay yaq (yay yaq (yaC yaU rfl T.Jq ybb (yaa (xT (pv 0)) yab)) (ya5 ya1 (yaN (yaa yaf (yaa yaf (yaa yaf yab)))) (xT (pv 0)) (λ_ _=>rfl))) (ya5 ya1 (yaN (yaa yaf (yaa yaf yab))) (yaC ycc rfl T.Jx ybO (yaa (xT (pv 0)) yab)) (λ_ _=>rfl))))),?_⟩
 left
 refine ybh 0 (SqT.of e) ?_
 left
 obtain⟨⟨v0,v1⟩,d2⟩:=yeU _ hp
 have l1:=ybl (i:=p.v) ⟨by omega,by omega⟩
 refine⟨p.v,rfl,ybY ⟨by omega,by omega⟩,?_⟩
 rw[ybJ]
 left
 refine ybA λp1 h1=>?_
 have s1:=yae h1 (.lst [tV [],tV [46],tV [46,46]])
 have e1:upd H p1 (.lst [tV [],tV [46],tV [46,46]]) p1=_:=yac
 rw[show[V.str (Str.ofString ""),V.str (Str.ofString "."),V.str (Str.ofString "..")]=[tV [],tV [46],tV [46,46]] by ac_rfl]
 generalize upd H p1 _=H1 at s1 e1 ⊢
 left
 refine ybh 1 (SqT.of (s1 _ _ e)) ?_
 refine ybq (SqL.of e1) (v:=tV (List.replicate p.d 46)) (yav (j:=p.d) ?_) ?_
 ·have:p.d=0∨p.d=1∨p.d=2:=by omega
  rcases this with z | z | z<;>rw[z]<;>rfl
 refine ybe (a:=ya8 p.v) (b:=List.replicate p.d 46) rfl rfl (by rw[List.length_replicate];omega) ?_
 rw[yaO]
 left
 refine ybA λp2 h2=>?_
 have s2:=yae h2 (.lst [tV [],tV [39]])
 have e2:upd H1 p2 (.lst [tV [],tV [39]]) p2=_:=yac
 rw[show[V.str (Str.ofString ""),V.str (Str.ofString "'")]=[tV [],tV [39]] by ac_rfl]
 generalize upd H1 p2 _=H2 at s2 e2 ⊢
 left
 refine ybh 2 (SqT.of (s2 _ _ (s1 _ _ e))) ?_
 left
 refine .inr ⟨p.th,rfl,?_⟩
 refine ybq (SqL.of e2) (v:=tV (if p.th=true then [39] else [])) ?_ ?_
 ·cases p.th with
  | true=>exact yav (j:=1) rfl
  | false=>exact yav (j:=0) rfl
 refine ybe (b:=if p.th=true then [39] else []) rfl rfl ?_ ?_
 ·rw[qA,List.length_replicate]
  split<;>simp only[qC,List.length_nil]<;>omega
 ·rw[yaO]
  exact q _ (s1.trans s2)
open TX K2 K3
def yqP:Sp:=λvs H Q _=>∃ cs,vs=[tV cs]/\cs.length<=90/\∀ H',Same H H'->Q (.bl (ycH (ofL cs))) H'
theorem ytR:OF P w base T.ze 1 yqP:=by
 o_head (T.ze.F,sc_ze)
 obtain⟨cs,rfl,hw,q⟩:=h
 refine⟨_,(yad (ycR (i:=1) sc_ze.nd rfl (Or.inr rfl) yaf) (yag (yam (ycQ (yfe yfr yfr yah (pln T.Jc (yaa (pv 0) yab)) yah) (ycD (yaS (yiA hu) (ybo (yaR (NB:=["_law_sign","_law_letters"]) (cap:=[none,some 1]) rfl) rfl (yeP (pv 0)) (λ_ _ _ _=>pgb 0) (λ_ _ _ _=>(ydW (yap ycl (pv 0) (pv 1) rfl))) (λ_ _ _ _=>(pv 0))) (yaN yab) (yat _))))))),?_⟩
 left
 have es:ycH (ofL cs)=(decide ((1:Int)<=(cs.length:Int)/\(cs.length:Int)<=12)&&cs.all λc=>decide (c∈sylT.cps.toList)):=by
  unfold ycH
  rw[yaB,yax,← Bool.and_assoc]
  congr 1
  rw[Bool.eq_iff_iff]
  simp only[Bool.and_eq_true,decide_eq_true_eq]
  omega
 refine yo6 (a:=1) (b:=(cs.length:Int)) (c:=12) (λQ' q'=>q') (λQ' q'=>?_) (λQ' q'=>q') ?_
 ·left
  refine⟨_,rfl,ofS (by omega),?_⟩
  rw[yaB]
  exact q'
 rw[es] at q
 by_cases c:(1:Int)<=(cs.length:Int)/\(cs.length:Int)<=12
 ·rw[decide_eq_true c]
  rw[decide_eq_true c,Bool.true_and] at q
  left
  refine⟨_,rfl,_,rfl,λD hD=>yej (λc=>!decide (c∈sylT.cps.toList)) hD (by rw[show(ofL cs).cps.size=cs.length by simp[ofL]];omega) (λc H5 Q5 s5 k=>?_) (λc H5 Q5 k=>⟨_,rfl,k⟩) λH5 s5 hd=>?_⟩
  ·left
   refine⟨_,_,rfl,rfl,?_⟩
   have e:(!(Builtin.Str.occurrences sylT (ofL [c]) 0 sylT.length 1).isEmpty)=decide (c∈sylT.cps.toList):=yh0 sylT c
   show ∃ k,V.bl (!(!(Builtin.Str.occurrences sylT (ofL [c]) 0 sylT.length 1).isEmpty))=V.bl k/\Q5 k H5
   rw[e]
   exact⟨_,rfl,k⟩
  ·left
   refine ybA λp hp=>?_
   have s6:=yae hp (.lst [])
   refine⟨D,p,_,rfl,rfl,SqL.of (s6 _ _ hd),SqL.of yac,?_⟩
   have e:((((ofL cs).cps.toList.filter λc=>!decide (c∈sylT.cps.toList)).map λc=>[c]).map tV).isEmpty=cs.all λc=>decide (c∈sylT.cps.toList):=by
    rw[yax,Bool.eq_iff_iff,List.isEmpty_iff,List.map_eq_nil_iff,List.map_eq_nil_iff,List.filter_eq_nil_iff,List.all_eq_true]
    simp
   rw[e]
   exact q _ (s5.trans s6)
 ·rw[decide_eq_false c]
  rw[decide_eq_false c,Bool.false_and] at q
  left
  exact q H (Same.refl H)
def yjB:Sp:=λvs H Q _=>∃ cs,vs=[tV cs]/\∀ D H',Same H H'->H D=none->H' D=some (.lst (((List.range 12).filter λi=>decide (ya8 (i+1:Nat)=cs)).map λi=>V.int ((i+1:Nat):Int)))->Q (.ref D) H'
theorem yod:OF P w base T.zJ 1 yjB:=by
 o_head (T.zJ.F,yuj)
 obtain⟨cs,rfl,q⟩:=h
 refine⟨_,(yag (yam (ybo (yaR (NB:=["_law_number_here","_law_word_here"]) (cap:=[none,some 0]) rfl) rfl (yha rfl T.Jr (yaa yah (yaa yah yab))) (λ_ _ _ _=>pgb 0) (λ_ _ _ _=>(ydW (yap ya2 (yaC yaU rfl T.Jq ybb (yaa (pv 0) yab)) (pv 1) (yat _)))) (λ_ _ _ _=>(pv 0))))),?_⟩
 left
 refine⟨1,13,rfl,by decide,λD hD=>yc2 (lo:=1) (n:=12) (λi σ H'=>(∃ o,σ=[o,some (tV cs)])/\Same H H'/\H' D=some (.lst (((List.range i).filter λi=>decide (ya8 (i+1:Nat)=cs)).map λi=>V.int ((i+1:Nat):Int)))) ⟨⟨_,rfl⟩,yae hD _,yac⟩ ?_ ?_⟩
 ·rintro i σ H' hi ⟨⟨o,rfl⟩,sm,hd⟩
  have hi:i < 12:=hi
  refine yaT ?_
  left
  refine⟨_,rfl,ybY ⟨by omega,by omega⟩,?_⟩
  rw[ybJ,show(1:Int)+(i:Int)=((i+1:Nat):Int) by omega]
  left
  refine⟨rfl,ybr ?_⟩
  by_cases c:ya8 (i+1:Nat)=cs
  ·rw[decide_eq_true (show V.str (ofL (ya8 (i+1:Nat)))=tV cs by rw[c];rfl),if_pos rfl]
   refine⟨_,rfl,_,hd,?_,⟨_,rfl⟩,ybn hD sm,?_⟩
   ·rw[qM]
    have:=List.length_filter_le (λi=>decide (ya8 (i+1:Nat)=cs)) (List.range i)
    rw[List.length_range] at this
    exact yaD (by omega)
   ·rw[yac,List.range_succ,List.filter_append,List.filter_cons_of_pos (by simpa using c),qP]
    rfl
  ·rw[decide_eq_false (λz:V.str (ofL (ya8 (i+1:Nat)))=tV cs=>c (ygc z)),if_neg (by simp)]
   refine⟨⟨_,rfl⟩,sm,?_⟩
   rw[hd,List.range_succ,List.filter_append,List.filter_cons_of_neg (by simpa using c)]
   simp
 ·rintro σ H' ⟨_,sm,hd⟩
  exact q D _ sm hD hd
open TX K2 K3
theorem ymX {α:Type}{p:List α->Prop}(h0:p [])(h1:∀ ss s,p ss->p (ss++[s]))(l:List α):p l:=by
 have:∀ m:List α,p m.reverse:=λm=>by
  induction m with
  | nil=>exact h0
  | cons a m ih=>rw[List.reverse_cons];exact h1 _ _ ih
 have:=this l.reverse
 rwa [List.reverse_reverse] at this
theorem yhp (g:List Nat)(c:Nat):PySem.NumText.digitsVal (g++[c])=PySem.NumText.digitsVal g*10+(c - 48):=by
 unfold PySem.NumText.digitsVal
 rw[List.foldl_append]
 rfl
theorem ytI:∀ f:List Nat,f≠[]->(∀ c∈f,48<=c/\c<=57)->f.head?≠some 48->yeC (PySem.NumText.digitsVal f)=f/\1<=PySem.NumText.digitsVal f:=by
 refine ymX (λh=>absurd rfl h) λg c ih _ hd hh=>?_
 have hc:=hd c (by simp)
 rw[yhp]
 by_cases e:g=[]
 ·subst e
  have:c≠48:=λz=>hh (by rw[z];rfl)
  show yeC (0*10+(c - 48))=[c]/\1<=0*10+(c - 48)
  rw[yeB (by omega)]
  exact⟨by congr 1;omega,by omega⟩
 ·have h2:g.head?≠some 48:=λz=>hh (by rw[List.head?_append,z];rfl)
  obtain⟨i1,i2⟩:=ih e (λd hd'=>hd d (by simp[hd'])) h2
  rw[yhC (by omega),show(PySem.NumText.digitsVal g*10+(c - 48)) / 10=PySem.NumText.digitsVal g by omega,show(PySem.NumText.digitsVal g*10+(c - 48))%10=c - 48 by omega,i1]
  exact⟨by congr 2;omega,by omega⟩
theorem yhd {f:List Nat}(h:ybN f=true):yeC (PySem.NumText.digitsVal f)=f:=by
 unfold ybN at h
 simp only[Bool.and_eq_true,Bool.or_eq_true,decide_eq_true_eq,Bool.not_eq_true',decide_eq_false_iff_not] at h
 obtain⟨⟨⟨h1,_⟩,h3⟩,h4⟩:=h
 rcases h4 with rfl | h4
 ·decide +kernel
 ·refine(ytI f (λz=>by rw[z] at h1;simp at h1) (λc hc=>?_) h4).1
  have:=List.all_eq_true.mp h3 c hc
  unfold isF at this
  simpa using this
theorem yco {cs:List Nat}{n:Int}(h:ya6 cs=some n):cs=ya8 n:=by
 unfold ya6 at h
 by_cases h0:cs=[45,48]
 ·rw[if_pos h0] at h;cases h
 rw[if_neg h0] at h
 by_cases h1:cs.head?=some 45
 ·rw[if_pos h1] at h
  by_cases h2:ybN cs.tail=true
  ·rw[if_pos h2] at h
   cases h
   have fc:=yhd h2
   have ec:cs=45 :: cs.tail:=by cases cs with | nil=>cases h1 | cons a r=>cases h1;rfl
   have pos:PySem.NumText.digitsVal cs.tail≠0:=λz=>by
    rw[z] at fc
    exact h0 (by rw[ec,← fc];decide +kernel)
   unfold ya8
   rw[if_pos (by omega),Int.natAbs_neg,Int.natAbs_natCast,fc]
   exact ec
  ·rw[if_neg h2] at h;cases h
 ·rw[if_neg h1] at h
  by_cases h2:ybN cs=true
  ·rw[if_pos h2] at h
   cases h
   unfold ya8
   rw[if_neg (by omega),Int.natAbs_natCast,yhd h2]
  ·rw[if_neg h2] at h;cases h
theorem yl3 (l:List Nat):l=ya4 l++List.replicate (l.length - (ya4 l).length) 46:=by
 have key:∀ m:List Nat,m=List.replicate (m.takeWhile (·==46)).length 46++m.drop (m.takeWhile (·==46)).length:=λm=>by
  induction m with
  | nil=>rfl
  | cons a m ih =>
   by_cases e:(a==46)=true
   ·rw[List.takeWhile_cons_of_pos (p:=λx=>x==46) e,qC,List.replicate_succ,List.drop_succ_cons,List.cons_append,← ih,eq_of_beq e]
   ·rw[List.takeWhile_cons_of_neg (p:=λx=>x==46) e]
    rfl
 have k:=key l.reverse
 have hn:(l.reverse.takeWhile (·==46)).length<=l.length:=by
  have:=congrArg List.length k
  rw[qA,List.length_replicate,List.length_reverse] at this
  omega
 unfold ya4
 generalize (l.reverse.takeWhile (·==46)).length=n at k hn
 have k2:=congrArg List.reverse k
 rw[List.reverse_reverse,List.reverse_append,List.reverse_replicate,List.drop_reverse,List.reverse_reverse] at k2
 rw[qT,show l.length - min (l.length - n) l.length=n by omega]
 exact k2
theorem yeb:∀ p∈pcs,ybm (pcW p)=some p:=by
 have key:∀ p∈pcs,(ybm (pcW p)).map (λq=>(q.v,q.d,q.th))=some (p.v,p.d,p.th):=by ac_rfl
 intro p hp
 have:=key p hp
 cases e:ybm (pcW p) with
 | none=>rw[e] at this;cases this
 | some q =>
  rw[e] at this
  simp only[Option.map_some,Option.some.injEq,Prod.mk.injEq] at this
  obtain⟨a,b,c⟩:=this
  cases q
  cases p
  simp only at a b c
  rw[a,b,c]
theorem yps {v m:Int}(h:dLk dots v=some m){d:Nat}(hd:(d:Int)<=m)(b:Bool):(⟨v,d,b⟩:Pc)∈pcs:=by
 unfold dLk at h
 cases e:dots.find? λq=>decide (q.1=v) with
 | none=>rw[e] at h;cases h
 | some q =>
  rw[e] at h
  cases h
  have mq:=List.mem_of_find?_eq_some e
  have eq:=of_decide_eq_true (List.find?_some (p:=λq:Int×Int=>decide (q.1=v)) e)
  subst eq
  have a:∀ q∈dots,∀ b:Bool,∀ d∈List.range (q.2.toNat+1),pcs.any (λp=>decide (p.v=q.1/\p.d=d/\p.th=b))=true:=by decide +kernel
  obtain⟨⟨x,y,z⟩,m,o⟩:=List.any_eq_true.mp (a q mq b d (List.mem_range.mpr (by have:(d:Int)<=q.2:=hd;omega)))
  obtain⟨rfl,rfl,rfl⟩:=of_decide_eq_true o
  exact m
theorem yca {cs:List Nat}{p:Pc}(h:ybm cs=some p):p∈pcs/\cs=pcW p:=by
 unfold ybm at h
 cases en:ya6 (ya4 (yaF cs)) with
 | none=>rw[en] at h;cases h
 | some v =>
  rw[en] at h
  cases dl:dLk dots v with
  | none =>
   have h:(dLk dots v).bind _=some p:=h
   rw[dl] at h
   cases h
  | some m =>
   have h:(dLk dots v).bind _=some p:=h
   rw[dl] at h
   have h:(if ((yaF cs).length:Int) - ((ya4 (yaF cs)).length:Int)<=m then some (⟨v,(yaF cs).length - (ya4 (yaF cs)).length,decide ([39] <:+ cs)⟩:Pc) else none)=some p:=h
   by_cases z:((yaF cs).length:Int) - ((ya4 (yaF cs)).length:Int)<=m
   ·rw[if_pos z] at h
    cases h
    have l2:=yfV (yaF cs)
    refine⟨yps dl (by rw[Int.ofNat_sub l2];exact z) _,?_⟩
    have e1:=yco en
    have e2:=yl3 (yaF cs)
    unfold pcW
    dsimp only
    rw[← e1,← e2]
    unfold yaF
    by_cases y:[39] <:+ cs
    ·rw[if_pos y,decide_eq_true y,if_pos rfl]
     obtain⟨r,rfl⟩:=y
     rw[List.dropLast_concat]
    ·rw[if_neg y,decide_eq_false y,if_neg (by simp),List.append_nil]
   ·rw[if_neg z] at h
    cases h
open TX K2 K3
def yi5 (c:Nat):Bool:=decide (c∈[126,95,40,41])
noncomputable def yaM (b:List Nat):Nat:=(b.takeWhile λc=>!yi5 c).length
noncomputable def yhk (hs:List Hd)(b sy:List Nat):Option Tl:=(ybm (b.take (yaM b))).bind λp=>if b.drop (yaM b)=sgL (b.drop (yaM b)) then some (.note hs p (decide (126∈b.drop (yaM b))) (decide (95∈b.drop (yaM b))) sy (decide (40∈b.drop (yaM b))) (decide (41∈b.drop (yaM b)))) else none
def ynz (hs:List Hd)(b sy:List Nat):Option Tl:=(ybm (b.take (b.length - (sgL b).length))).bind λp=>if sgL b <:+ b then some (.note hs p (decide (126∈sgL b)) (decide (95∈sgL b)) sy (decide (40∈sgL b)) (decide (41∈sgL b))) else none
theorem ynI:∀ p∈pcs,∀ c∈pcW p,c=46∨c=39∨(48<=c/\c<=57):=by ac_rfl
theorem ysh (b:List Nat):b.take (yaM b)=b.takeWhile λc=>!yi5 c:=by
 unfold yaM
 exact(List.prefix_iff_eq_take.mp (List.takeWhile_prefix _)).symm
theorem yt1 {b:List Nat}{c:Nat}(h:c∈b.take (yaM b)):yi5 c=false:=by
 rw[ysh] at h
 have:=List.all_eq_true.mp (List.all_takeWhile (p:=λc=>!yi5 c) (l:=b)) c h
 simpa using this
theorem yp3 {l:List Nat}{c:Nat}(h:c∈sgL l):yi5 c=true/\c∈l:=by
 unfold sgL at h
 obtain⟨a,b⟩:=List.mem_filter.mp h
 exact⟨by unfold yi5;exact decide_eq_true a,by simpa using b⟩
theorem yoZ (b:List Nat):sgL b=sgL (b.drop (yaM b)):=by
 unfold sgL
 refine List.filter_congr λc hc=>?_
 have e:c∈b↔c∈b.drop (yaM b):=by
  constructor
  ·intro h
   rw[← List.take_append_drop (yaM b) b] at h
   rcases List.mem_append.mp h with h | h
   ·have:=yt1 h
    unfold yi5 at this
    exact absurd hc (by simpa using this)
   ·exact h
  ·exact λh=>List.mem_of_mem_drop h
 rw[decide_eq_decide]
 exact e
theorem ynB {p:Nat->Bool}:∀ {t u:List Nat},(∀ c∈t,p c=true)->(∀ c∈u,p c=false)->(t++u).takeWhile p=t
 | [],[],_,_=>rfl
 | [],c :: u,_,h=>by rw[List.nil_append,List.takeWhile_cons_of_neg (by rw[h c (by simp)];simp)]
 | c :: t,u,h,g=>by rw[List.cons_append,List.takeWhile_cons_of_pos (h c (by simp)),ynB (λd hd=>h d (by simp[hd])) g]
theorem ylo (hs:List Hd)(b sy:List Nat):ynz hs b sy=yhk hs b sy:=by
 unfold ynz yhk
 have eb:=List.take_append_drop (yaM b) b
 have et:=yoZ b
 by_cases c:b.drop (yaM b)=sgL (b.drop (yaM b))
 ·rw[← et] at c
  have hb:b=b.take (yaM b)++sgL b:=by rw[← c];exact eb.symm
  have suf:sgL b <:+ b:=⟨b.take (yaM b),hb.symm⟩
  have ln:b.length - (sgL b).length=yaM b:=by
   have h1:(b.drop (yaM b)).length=(sgL b).length:=by rw[c]
   rw[List.length_drop] at h1
   have h2:yaM b<=b.length:=by unfold yaM;exact(List.takeWhile_prefix _).length_le
   omega
  rw[ln,et,← et,c]
  simp only[if_pos suf,if_true]
 ·have nL:(ybm (b.take (yaM b))).bind (λp=>if b.drop (yaM b)=sgL (b.drop (yaM b)) then some (Tl.note hs p (decide (126∈b.drop (yaM b))) (decide (95∈b.drop (yaM b))) sy (decide (40∈b.drop (yaM b))) (decide (41∈b.drop (yaM b)))) else none)=none:=by
   cases ybm (b.take (yaM b)) with
   | none=>rfl
   | some p=>exact if_neg c
  rw[nL]
  cases e:ybm (b.take (b.length - (sgL b).length)) with
  | none=>rfl
  | some p =>
   refine if_neg λsuf=>c ?_
   obtain⟨t,ht⟩:=suf
   have lt:b.take (b.length - (sgL b).length)=t:=by
    have lb:=congrArg List.length ht
    rw[qA] at lb
    rw[show b.length - (sgL b).length=t.length by omega]
    conv=>lhs;rw[← ht]
    rw[List.take_left]
   rw[lt] at e
   obtain⟨hp,et'⟩:=yca e
   have tw:b.takeWhile (λc=>!yi5 c)=t:=by
    conv=>lhs;rw[← ht]
    refine ynB (λd hd=>?_) λd hd=>by rw[(yp3 hd).1];rfl
    rw[et'] at hd
    have:=ynI p hp d hd
    unfold yi5
    simp only[Bool.not_eq_true',decide_eq_false_iff_not,List.mem_cons,qk,or_false]
    omega
   have tn:yaM b=t.length:=by unfold yaM;rw[tw]
   have dr:b.drop (yaM b)=sgL b:=by
    rw[tn]
    conv=>lhs;rw[← ht]
    rw[List.drop_left]
   rw[dr,← dr,← et]
   exact dr
open TX K2 K3
theorem ygz {c:Nat}:∀ {l:List Nat},c∉l->yaH c l=(l,false,[])
 | [],_=>rfl
 | a :: l,h=>by
  have ha:a≠c:=λz=>h (by simp[z])
  rw[yaH,if_neg ha,ygz (λz=>h (by simp[z]))]
theorem ygq {c:Nat}:∀ {x:List Nat} (l:List Nat),c∉x->yaH c (x++c :: l)=(x,true,l)
 | [],l,_=>by rw[List.nil_append,yaH,if_pos rfl]
 | a :: x,l,h=>by
  have ha:a≠c:=λz=>h (by simp[z])
  rw[List.cons_append,yaH,if_neg ha,ygq l (λz=>h (by simp[z]))]
theorem yjv {m c:Nat}(h:isF c=false):c∉yeC m:=posF_mem.mp (yom h)
theorem ylI {n:Int}(h0:-9999<=n)(h1:n<=9999):ya6 (ya8 n)=some n:=by
 have a:=ymD (m:=n.natAbs) (by omega)
 have f:=ydz n.natAbs
 unfold ya8
 by_cases c:n < 0
 ·rw[if_pos c]
  unfold ya6
  rw[if_neg λz=>?_,if_pos (show(45 :: yeC n.natAbs).head?=some 45 from rfl),List.tail_cons,a,if_pos rfl,f.val]
  ·congr 1;omega
  ·simp at z
   refine f.hd (by omega) ?_
   rw[z];rfl
 ·rw[if_neg c]
  have h45:(yeC n.natAbs).head?≠some 45:=λz=>by
   cases e:yeC n.natAbs with
   | nil=>exact f.ne e
   | cons d r =>
    rw[e] at z
    simp at z
    have:=f.all
    rw[e,z] at this
    have:=this.head
    omega
  unfold ya6
  rw[if_neg λz=>h45 (by rw[z];rfl),if_neg h45,a,if_pos rfl,f.val]
  congr 1;omega
theorem yiM {c:Nat}:∀ {l:List Nat},c∈l->∃ h r,l=h++c :: r/\c∉h
 | a :: l,m=>by
  by_cases e:a=c
  ·subst e;exact⟨[],l,rfl,by simp⟩
  ·rcases List.mem_cons.mp m with z | z
   ·exact absurd z.symm e
   ·obtain⟨h,r,rfl,n⟩:=yiM z
    exact⟨a :: h,r,rfl,λy=>by
     rcases List.mem_cons.mp y with y | y
     ·exact e y.symm
     ·exact n y⟩
theorem ydJ (c:Nat)(l:List Nat):(c∉l/\yaH c l=(l,false,[])/\yan c l=[l])∨∃ h r,l=h++c :: r/\c∉h/\yaH c l=(h,true,r)/\yan c l=h :: yan c r:=by
 by_cases e:c∈l
 ·obtain⟨h,r,rfl,hn⟩:=yiM e
  exact .inr ⟨h,r,rfl,hn,ygq r hn,ygf h r hn⟩
 ·exact .inl ⟨e,ygz e,ygV l e⟩
def yei (cs:List Nat):Option Tl:=match yan 47 cs with
 | [h,r]=>(ybk h).bind λhs=>match yan 58 r with
  | [b]=>yhk hs b []
  | [b,sy]=>if ycH (ofL sy)=true then yhk hs b sy else none
  | _=>none
 | _=>none
theorem yny {l:List Nat}{c:Nat}(hc:c∉sylT.cps.toList)(h:c∈l):ycH (ofL l)=false:=by
 unfold ycH
 rw[yax]
 have:(l.all λc=>decide (c∈sylT.cps.toList))=false:=by
  rw[List.all_eq_false]
  exact⟨c,h,by simpa using hc⟩
 rw[this,Bool.and_false,Bool.and_false]
theorem yj0 {hs:List Hd}{b sy:List Nat}(h:47∈b):ynz hs b sy=none:=by
 rw[ylo]
 unfold yhk
 cases e:ybm (b.take (yaM b)) with
 | none=>rfl
 | some p =>
  refine if_neg λz=>?_
  obtain⟨hp,ep⟩:=yca e
  rw[← List.take_append_drop (yaM b) b] at h
  rcases List.mem_append.mp h with h | h
  ·rw[ep] at h
   have:=ynI p hp _ h
   omega
  ·rw[z] at h
   have:=(yp3 h).1
   revert this
   decide
theorem ymf (hs:List Hd):ynz hs [] []=none:=by
 unfold ynz
 rw[show ybm (([]:List Nat).take (([]:List Nat).length - (sgL []).length))=none by ac_rfl]
 rfl
theorem yhD (cs:List Nat):yc7 cs=yei cs:=by
 have eS:yc7 cs=(ybk (yg0 cs)).bind λhs=>if ((yaP cs).2.1&&!ycH (ofL (yaP cs).2.2))=true then none else ynz hs (yaP cs).1 (yaP cs).2.2:=rfl
 rw[eS]
 unfold yei yg0 yaP
 rcases ydJ 47 cs with ⟨_,e1,e2⟩ | ⟨h,r,_,_,e1,e2⟩
 ·rw[e1,e2]
  cases ybk cs with
  | none=>rfl
  | some hs=>exact ymf hs
 ·rw[e1,e2]
  dsimp only
  rcases ydJ 47 r with ⟨n3,_,e3⟩ | ⟨h3,r3,e4,_,_,e3⟩
  ·rw[e3]
   dsimp only
   cases ybk h with
   | none=>rfl
   | some hs =>
    show(if ((yaH 58 r).2.1&&!ycH (ofL (yaH 58 r).2.2))=true then none else ynz hs (yaH 58 r).1 (yaH 58 r).2.2)=match yan 58 r with | [b]=>yhk hs b [] | [b,sy]=>if ycH (ofL sy)=true then yhk hs b sy else none | _=>none
    rcases ydJ 58 r with ⟨_,e5,e6⟩ | ⟨b,sy,_,_,e5,e6⟩
    ·rw[e5,e6]
     exact ylo hs r []
    ·rw[e5,e6]
     dsimp only
     rcases ydJ 58 sy with ⟨_,_,e7⟩ | ⟨b7,r7,e8,_,_,e7⟩
     ·rw[e7]
      dsimp only
      cases ycH (ofL sy) with
      | true=>exact ylo hs b sy
      | false=>rfl
     ·rw[e7]
      have:ycH (ofL sy)=false:=yny (by ac_rfl) (show 58∈sy by rw[e8];simp)
      rw[this]
      obtain⟨a,q,eq⟩:∃ a q,yan 58 r7=a :: q:=by
       cases z:yan 58 r7 with
       | nil=>exact absurd z (ya9 _ _)
       | cons a q=>exact⟨a,q,rfl⟩
      rw[eq]
      rfl
  ·rw[e3]
   obtain⟨a,q,eq⟩:∃ a q,yan 47 r3=a :: q:=by
    cases z:yan 47 r3 with
    | nil=>exact absurd z (ya9 _ _)
    | cons a q=>exact⟨a,q,rfl⟩
   rw[eq]
   dsimp only
   cases ybk h with
   | none=>rfl
   | some hs =>
    show(if ((yaH 58 r).2.1&&!ycH (ofL (yaH 58 r).2.2))=true then none else ynz hs (yaH 58 r).1 (yaH 58 r).2.2)=none
    have m:47∈r:=by rw[e4];simp
    rcases ydJ 58 r with ⟨_,e5,_⟩ | ⟨b,sy,e6,_,e5,_⟩
    ·rw[e5]
     exact yj0 m
    ·rw[e5]
     dsimp only
     rw[e6] at m
     rcases List.mem_append.mp m with m | m
     ·rw[yj0 m]
      split<;>rfl
     ·have:ycH (ofL sy)=false:=yny (by ac_rfl) (show 47∈sy by simpa using m)
      rw[this]
      rfl
open TX K2 K3
theorem yeY {cs w:List Nat}(m:w∈yan 44 cs)(e:ybD w=none):ybk cs=none:=by
 unfold ybk
 split
 ·rfl
 ·have:((yan 44 cs).map ybD).any Option.isNone=true:=List.any_eq_true.mpr ⟨none,List.mem_map.mpr ⟨w,m,e⟩,rfl⟩
  rw[if_pos this]
def ymj:Sp:=λvs H Q _=>∃ cs,vs=[tV cs]/\cs.length<=90/\∀ x H',Same H H'->HsV H' x (ybk cs)->Q x H'
theorem ytC:OF P w base T.zi 1 ymj:=by
 o_head (T.zi.F,sc_zi)
 obtain⟨cs,rfl,hw,q⟩:=h
 refine⟨_,(yad (pst 1 sc_zi.nd (yaN yab)) (yad (ycd PassesOwn.never rfl (ycf (yb0 (pv 0) (yaa yaf yab))) (pgs 2 sc_zi.nd) (yad (yaI (PW.pt (ybE (yap yfO (pln T.Jc (yaa (pv 2) yab)) yah (yat _)) (ybE (yap ycl (ya5 ycN (pv 2) yah (λ_ _=>rfl)) yaf rfl) (ybp (yap ycl (ya5 ycN (pv 2) (ye9 ydh yah) (λ_ _=>rfl)) yaf rfl))))) (yag (yam yaK)) yau) (yad (yaI (yap ycj (yaW ybX (pv 2) (yaX yah) (yaX (ye9 ydh yah))) (yaw (yaa yaf (yaa yaf (yaa yaf (yaa yaf (yaa yaf (yaa yaf yab))))))) rfl) (yag (yam yaK)) yau) (yag (ych (yb9 (pv 1) (yaa (yaw (yaa (yaW ybX (pv 2) (yaX yah) (yaX (ye9 ydh yah))) (yaa (ye1 yaf (yaa (ya5 ycN (pv 2) yah (λ_ _=>rfl)) yab)) (yaa (ye1 yaf (yaa (ya5 ycN (pv 2) (ye9 ydh yah) (λ_ _=>rfl)) yab)) yab)))) yab))))))) (yad (ycR (i:=3) sc_zi.nd rfl (Or.inr rfl) (ybo (yaR (NB:=["_law_head"]) (cap:=[none]) rfl) rfl (ycf (pv 1)) (λ_ _ _ _=>pgb 0) (λ_ _ _ _=>yaZ) (λ_ _ _ _=>(yay ybv (yay yb5 yah (ya5 (show IxR _ (ylD K) from ycJ) (pv 0) yah (λ_ _=>rfl))) (ya5 (show IxR _ (ylD K) from ycJ) (pv 0) yah (λ_ _=>rfl)))))) (yad (yb8 (i:=4) sc_zi.nd rfl (Or.inl rfl) (yaR (NB:=["_law_k","_law_places"]) (cap:=[none,some 3]) rfl) rfl (ycb rfl T.Jr (yaa (yay yiy (yar yaL rfl T.Jc PySem.boot_len (yaa (pv 3) yab)) yah) yab)) (λ_ _ _ _=>pgb 0) (λ_ _ _ _=>yaZ) (λ_ _ _ _=>(yaS yfO (ya5 (show IxR _ (ynN K) from ya1) (pv 1) (pv 0) (λ_ _=>rfl)) (ya5 (show IxR _ (ynN K) from ya1) (pv 1) (yay ybv (pv 0) yah) (λ_ _=>rfl)) (yat _)))) (yag (yam (yaJ (PW.pt (yfW (yap yfO (yar yaL rfl T.Jc PySem.boot_len (yaa (pv 1) yab)) yah (yat _)) (yet (yaG (yar (ydn rfl) rfl T.Qe ydo (yaa (pv 4) yab)))))) (pv 1) yaK))))))),?_⟩
 left
 refine ybA λD hD=>?_
 have s1:=yae hD (.lst [])
 have e1:upd H D (.lst []) D=_:=yac
 generalize upd H D (.lst [])=H1 at s1 e1 ⊢
 have ln:=ybK 44 cs
 have lw:=ybR 44 cs
 left
 refine⟨rfl,?_⟩
 left
 refine⟨_,_,rfl,rfl,by ac_rfl,by rw[yaB];exact ybI (by omega),λp hp=>?_⟩
 have es:(Txt.split (ofL cs) (Str.ofString ",")).map V.str=(yan 44 cs).map tV:=by
  rw[show Str.ofString ","=one 44 by ac_rfl,ydZ _ (by decide),yax,List.map_map]
  rfl
 rw[es]
 have s2:=yae hp (.lst ((yan 44 cs).map tV))
 have e2:upd H1 p (.lst ((yan 44 cs).map tV)) p=_:=yac
 have eD:=s2 _ _ e1
 have np:p≠D:=(yak e1 hp).symm
 generalize upd H1 p _=H2 at s2 e2 eD ⊢
 have s02:=s1.trans s2
 refine⟨p,rfl,⟨_,SqL.of e2⟩,ygE (xs:=(yan 44 cs).map tV) (λi σ H'=>(∃ o,σ=[some (tV cs),some (.ref D),o,none,none])/\SameT D H2 H'/\∃ ks hs,H' D=some (.lst ks)/\Iss (rm H' D) ks (hs.map hdT)/\((yan 44 cs).take i).map ybD=hs.map some) ⟨⟨_,rfl⟩,λb u _ e=>e,[],[],eD,yaz _,rfl⟩ (λi σ H' _ h=>SqL.of (h.2.1 _ _ np e2)) ?_ ?_⟩
 ·rintro i x σ H' N hN hx ⟨⟨o,rfl⟩,sm,ks,hs,hd,is,eh⟩
  rw[qm] at hx
  obtain⟨w',ew,rfl⟩:∃ w',(yan 44 cs)[i]?=some w'/\x=tV w':=by
   cases z:(yan 44 cs)[i]? with
   | none=>rw[z] at hx;cases hx
   | some w'=>rw[z] at hx;cases hx;exact⟨w',rfl,rfl⟩
  have hm:=List.mem_of_getElem? ew
  have l1:=lw w' hm
  have s0:Same H H':=λb u e=>sm b u (yak e hD) (s02 _ _ e)
  have no:ybD w'=none->∀ H3,Same H' H3->Q .non H3:=λz H3 s3=>q _ _ (s0.trans s3) (.inl ⟨yeY hm z,rfl⟩)
  refine yaT ?_
  left
  refine⟨_,rfl,ofS (by omega),?_⟩
  rw[yaB]
  left
  refine i_d (λc=>?_) λc=>?_
  ·left
   exact no (by unfold ybD ydp;rw[yaB,if_pos c];rfl) H' (Same.refl _)
  have z2:2<=((ofL w').length:Int):=by rw[yaB];omega
  obtain⟨c1,hc1,ec1⟩:=yqB z2
  obtain⟨c2,hc2,ec2⟩:=yqz z2
  have eP:ydp (ofL w')=if ydQ (ofL w') < 0 then none else if ymg (ofL w') < 0 then none else some (ydQ (ofL w'),ymg (ofL w')):=by unfold ydp;rw[if_neg (by omega)]
  have e1':ydQ (ofL w')=match Builtin.Str.occurrences (Str.ofString "cdefgab") (c0 (ofL w')) 0 (Str.ofString "cdefgab").length 1 with | i :: _=>(i:Int) | []=>-1:=rfl
  have e2':ymg (ofL w')=match Builtin.Str.occurrences (Str.ofString "012345678") (cl (ofL w')) 0 (Str.ofString "012345678").length 1 with | i :: _=>(i:Int) | []=>-1:=rfl
  left
  refine⟨_,_,c1,rfl,rfl,ofS (by omega),hc1,?_⟩
  rw[ec1]
  left
  refine⟨_,_,rfl,rfl,ybr ?_⟩
  cases o1:Builtin.Str.occurrences (Str.ofString "cdefgab") (c0 (ofL w')) 0 (Str.ofString "cdefgab").length 1 with
  | nil =>
   rw[o1] at e1'
   left
   exact no (by unfold ybD;rw[eP,e1'];rfl) H' (Same.refl _)
  | cons i1 r1 =>
   rw[o1] at e1'
   rw[if_neg (by simp)]
   left
   refine⟨_,_,c2,rfl,rfl,ofS (by omega),hc2,?_⟩
   rw[ec2]
   left
   refine⟨_,_,rfl,rfl,ybr ?_⟩
   cases o2:Builtin.Str.occurrences (Str.ofString "012345678") (cl (ofL w')) 0 (Str.ofString "012345678").length 1 with
   | nil =>
    rw[o2] at e2'
    left
    exact no (by unfold ybD;rw[eP,e1',e2'];simp) H' (Same.refl _)
   | cons i2 r2 =>
    rw[o2] at e2'
    rw[if_neg (by simp)]
    have eP':ydp (ofL w')=some ((i1:Int),(i2:Int)):=by rw[eP,e1',e2',if_neg (by simp),if_neg (by simp)]
    left
    refine ybC (i_c ⟨1,rfl,ybC ?_⟩)
    left
    refine⟨-1,rfl,_,rfl,ofS (by omega),?_⟩
    rw[yjI z2]
    left
    refine ybA λp3 h3=>?_
    have s3:=yae h3 (.tup [V.str (Str.ofString ""),V.str (Str.ofString "="),V.str (Str.ofString "+"),V.str (Str.ofString "++"),V.str (Str.ofString "-"),V.str (Str.ofString "--")])
    refine⟨p3,_,rfl,.inr (SqT.of yac),rfl,rfl,?_⟩
    generalize upd H' p3 _=H3 at s3 ⊢
    rw[yiI]
    left
    have hdd:=s3 _ _ hd
    by_cases y:yhl w'∈marksL
    ·rw[if_pos rfl,decide_eq_true y,if_neg (by simp)]
     have eH:ybD w'=some ⟨yhl w',(i1:Int),(i2:Int)⟩:=by unfold ybD;rw[eP'];exact if_pos y
     left
     refine⟨.inl ⟨rfl,_,SqL.of hdd⟩,?_⟩
     left
     refine ybC (i_c ⟨1,rfl,ybC ?_⟩)
     left
     refine⟨-1,rfl,_,rfl,ofS (by omega),?_⟩
     rw[yjI z2]
     left
     refine⟨rfl,?_⟩
     left
     refine⟨_,_,c1,rfl,rfl,ofS (by omega),hc1,?_⟩
     rw[ec1]
     left
     refine⟨_,_,i1,r1,rfl,rfl,o1,?_⟩
     left
     refine⟨rfl,?_⟩
     left
     refine⟨_,_,c2,rfl,rfl,ofS (by omega),hc2,?_⟩
     rw[ec2]
     left
     refine⟨_,_,i2,r2,rfl,rfl,o2,?_⟩
     left
     refine ybA λp4 h4=>?_
     have s4:=yae h4 (.tup [tV (yhl w'),.int (i1:Int),.int (i2:Int)])
     have e4:upd H3 p4 (.tup [tV (yhl w'),.int (i1:Int),.int (i2:Int)]) p4=_:=yac
     have hd4:=s4 _ _ hdd
     have n4:p4≠D:=(yak hdd h4).symm
     rw[show V.str (mid (ofL w'))=tV (yhl w') by unfold tV yhl;rw[ycL]]
     generalize upd H3 p4 _=H4 at s4 e4 hd4 ⊢
     left
     have lk:ks.length<=91:=by
      have a1:=is.len
      have a2:=congrArg List.length eh
      rw[qM,qM,qT] at a2
      rw[qM] at a1
      omega
     refine ypM hd4 (yaD (by omega)) ?_
     left
     have s34:=s3.trans s4
     refine hN _ _ ⟨⟨_,rfl⟩,λb u n e=>by rw[yas n];exact s34 _ _ (sm b u n e),ks++[.ref p4],hs++[⟨yhl w',(i1:Int),(i2:Int)⟩],yac,?_,?_⟩
     ·rw[qP]
      have up:Same (rm H' D) (rm (upd H4 D (.lst (ks++[.ref p4]))) D):=λb u e=>by
       obtain⟨n,e⟩:=yb6 e
       rw[ybQ n,yas n]
       exact s34 _ _ e
      exact(is.same up).app (yaj (ypn (by rw[ybQ n4,yas n4];exact e4)) (yaz _))
     ·have hi:=(qE ew).1
      rw[List.take_succ_eq_append_getElem hi,(qE ew).2,qP,qP,eh]
      show _++[ybD w']=_
      rw[eH]
      rfl
    ·rw[if_pos rfl,decide_eq_false y,if_pos (by rfl)]
     left
     exact no (by unfold ybD;rw[eP'];exact if_neg y) _ s3
 ·rintro σ H' ⟨⟨o,rfl⟩,sm,ks,hs,hd,is,eh⟩
  rw[qM,List.take_length] at eh
  have s0:Same H H':=λb u e=>sm b u (yak e hD) (s02 _ _ e)
  have lh:hs.length=(yan 44 cs).length:=by
   have:=congrArg List.length eh
   rw[qM,qM] at this
   exact this.symm
  have isH:=is.same (yep H' D)
  have al:=yec (f:=hdT) isH
  have lk:ks.length=hs.length:=al.1
  have eq:ybk cs=if 4 < hs.length then none else if yeg (hs.map yci)=true then some hs else none:=by
   unfold ybk
   have fm:(hs.map some).filterMap id=hs:=by rw[List.filterMap_map];exact List.filterMap_some
   have an:(hs.map some).any Option.isNone=false:=by rw[List.any_map];exact List.any_eq_false.mpr λ_ _=>by simp
   rw[eh,fm,an,lh]
   simp
  left
  refine⟨D,rfl,⟨_,SqL.of hd⟩,λP1 hP1=>ycZ (R:=λx h=>Is H' x (hdT h)) (λh=>V.int (yci h)) hd al hP1 (by omega) ?_ ?_⟩
  ·rintro x h H3 Q3 hm s3 ix k
   obtain⟨b,rfl,eb⟩:=Is.three (ix.same s3)
   left
   refine ybh 2 (SqT.of eb) ?_
   left
   refine ybh 1 (SqT.of eb) ?_
   left
   exact k _ (Same.refl _)
  ·rintro H3 s3 hd3
   left
   refine⟨P1,_,rfl,.inl (SqL.of hd3),?_⟩
   rw[qM]
   left
   have at':∀ j,j < hs.length->(hs.map λh=>V.int (yci h))[j]?=some (.int ((hs.map yci).getD j 0)):=λj hj=>by
    rw[qm,List.getD_eq_getElem?_getD,qm,qG hj]
    rfl
   refine⟨(hs.length:Int) - 1,rfl,by omega,by omega,λD2 hD2=>yc2 (lo:=0) (λi σ' H4=>(∃ o,σ'=[o,some (.ref P1)])/\Same H3 H4/\H4 D2=some (.lst (((List.range i).map λi=>decide ((hs.map yci).getD i 0 < (hs.map yci).getD (i+1) 0)).map V.bl))) ⟨⟨_,rfl⟩,yae hD2 _,yac⟩ ?_ ?_⟩
   ·rintro i σ' H4 hi ⟨⟨o',rfl⟩,sm4,hd4⟩
    have hi:i+1 < hs.length:=by omega
    refine yaT (yc3 (i_T ?_))
    rw[Int.zero_add]
    left
    refine ybq (SqL.of (sm4 _ _ hd3)) (yav (j:=i) (at' i (by omega))) ?_
    left
    refine ybq (SqL.of (sm4 _ _ hd3)) (v:=.int ((hs.map yci).getD (i+1) 0)) (yav (j:=i+1) (at' (i+1) hi)) ?_
    left
    refine⟨_,hd4,?_,⟨_,rfl⟩,ybn hD2 sm4,?_⟩
    ·rw[qM,qM,List.length_range]
     exact yaD (by omega)
    ·rw[yac,List.range_succ,qP,qP]
     rfl
   ·rintro σ' H4 ⟨_,sm4,hd4⟩
    have s4:=s0.trans (s3.trans sm4)
    have hD4:=sm4 _ _ (s3 _ _ hd)
    left
    refine⟨D,_,rfl,.inl (SqL.of hD4),?_⟩
    rw[lk]
    left
    have isR:Is H4 (.ref D) (hsT hs):=yeG hD4 (isH.same (s3.trans sm4))
    refine i_d (λc=>?_) λc=>?_
    ·rw[if_neg (by omega)] at eq
     left
     refine ynT hd4 ?_
     have er:((List.range ((hs.length:Int) - 1 - 0).toNat).map λi=>decide ((hs.map yci).getD i 0 < (hs.map yci).getD (i+1) 0)).all id=yeg (hs.map yci):=by
      unfold yeg
      rw[List.all_map,qM,show((hs.length:Int) - 1 - 0).toNat=hs.length - 1 by omega]
      rfl
     first | rw[er] | rw[show((hs.length:Int) - 1).toNat=((hs.length:Int) - 1 - 0).toNat by omega,er]
     left
     cases z:yeg (hs.map yci) with
     | true =>
      rw[z,if_pos rfl] at eq
      left
      exact q _ _ s4 (.inr ⟨hs,eq,isR⟩)
     | false =>
      rw[z,if_neg (by simp)] at eq
      left
      exact q _ _ s4 (.inl ⟨eq,rfl⟩)
    ·rw[if_pos (by omega)] at eq
     left
     exact q _ _ s4 (.inl ⟨eq,rfl⟩)
open TX K2 K3
theorem yh9 {cs:List Nat}{k:Int}(h:ylJ cs=some k):cs=ya8 k/\-7<=k/\k<=7:=by
 unfold ylJ at h
 obtain⟨e,z⟩:=Option.filter_eq_some_iff.mp h
 simp only[Bool.and_eq_true,decide_eq_true_eq] at z
 exact⟨yco e,z.1,z.2⟩
theorem ykj {k:Int}(h0:-7<=k)(h1:k<=7):ylJ (ya8 k)=some k:=by
 unfold ylJ
 rw[ylI (by omega) (by omega)]
 exact Option.filter_eq_some_iff.mpr ⟨rfl,by simp[h0,h1]⟩
theorem yol {w:List Nat}{c:Nat}(h:w.head?=some c)(n:c∉("cdefgab" : Str).cps.toList):ybD w=none:=by
 unfold ybD ydp
 by_cases l:((ofL w).length:Int) < 2
 ·rw[if_pos l];rfl
 ·rw[if_neg l]
  have:ydQ (ofL w) < 0:=by
   unfold ydQ
   have e:c0 (ofL w)=one c:=by
    unfold c0
    rw[show(1:Int)=((1:Nat):Int) from rfl,yhP w (by rw[yaB] at l;omega)]
    cases w with
    | nil=>cases h
    | cons a r=>cases h;rfl
   rw[e,yhU]
   rw[posF_mem.mpr n]
   decide
  rw[if_pos this]
  rfl
open TX K2 K3
noncomputable def yhm:List V:=[V.str (Str.ofString ""),V.str (Str.ofString "r"),V.str (Str.ofString "r/"),V.str (Str.ofString "R1"),V.str (Str.ofString "k"),V.str (Str.ofString "k8"),V.str (Str.ofString "k-8"),V.str (Str.ofString "k00"),V.str (Str.ofString "k-0"),V.str (Str.ofString "k+1"),V.str (Str.ofString "m"),V.str (Str.ofString "m4"),V.str (Str.ofString "m4/4:"),V.str (Str.ofString "m13/8"),V.str (Str.ofString "m12/4")]
def yfR:List V:=[V.str (Str.ofString "m4/3"),V.str (Str.ofString "c"),V.str (Str.ofString "c4"),V.str (Str.ofString "c4/"),V.str (Str.ofString "c4/3"),V.str (Str.ofString "c9/4"),V.str (Str.ofString "h4/4"),V.str (Str.ofString "c4,c4/4"),V.str (Str.ofString "e4,c4/4"),V.str (Str.ofString "c4,/4"),V.str (Str.ofString "c+-4/4")]
def yis:List V:=[V.str (Str.ofString "c4/16.."),V.str (Str.ofString "c4/32."),V.str (Str.ofString "c4/4'."),V.str (Str.ofString "c4/4_~"),V.str (Str.ofString "c4/4)("),V.str (Str.ofString "c4/4:"),V.str (Str.ofString "c4/4:l1"),V.str (Str.ofString "C4/4"),V.str (Str.ofString "c4/04"),V.str (Str.ofString "[3")]
noncomputable def ylM:List V:=[V.str (Str.ofString "["),V.str (Str.ofString "||"),V.str (Str.ofString "::"),V.str (Str.ofString "Fine"),V.str (Str.ofString "c4/4//")]
def yu0:V->Bool
 | .str z=>decide (z.length<=90)
 | _=>false
theorem yss {xs:List V}(h:xs.all yu0=true){v:Int}(v0:0<=v)(v1:v.toNat < xs.length):∃ wd:List Nat,wd.length<=90/\atI xs v=some (tV wd):=by
 have e:=yav (xs:=xs) (j:=v.toNat) (qG v1)
 rw[Int.toNat_of_nonneg v0] at e
 have m:=List.all_eq_true.mp h _ (List.getElem_mem v1)
 cases z:xs[v.toNat] with
 | str x =>
  rw[z] at m e
  exact⟨x.cps.toList,by rw[yaE];simpa [yu0] using m,by rw[e];unfold tV;rw[ycL]⟩
 | _=>rw[z] at m;cases m
def yqV (K:qF):Sp:=λvs H Q _=>∃ (a tp:Addr) (ns:List Int) (N:Nat),vs=[.ref a,.ref tp]/\Dr K a tp ns H N/\N<=90000/\∀ (wd:List Nat) (H':Hp),wd.length<=90->SameT tp H H'->Dr K a tp ns H' (N+2)->Q (tV wd) H'
theorem yrm:OF P w base T.Ue 2 (yqV K):=by
 o_head (T.Ue.F,sc_zaw)
 obtain⟨a,tp,ns,N,rfl,dr,hN,q⟩:=h
 refine⟨_,(yad (yaI (yap ya2 (pcm (ybj T) hr (yaa (pv 0) (yaa (pv 1) (yaa yah yab)))) yah (yat _)) (yad (ycR (i:=2) sc_zaw.nd rfl (Or.inr rfl) (yaC yaU rfl T.Jq ybb (yaa (pcm (ybj T) hr (yaa (pv 0) (yaa (pv 1) (yaa yah yab)))) yab))) (yag (yam (yay yaq (yck yaf (yaa (ybo (yaR (NB:=["_law_step","_law_octave"]) (cap:=[none,some 2]) rfl) rfl (yeP yaf) (λ_ _ _ _=>pgb 0) (λ_ _ _ _=>yaZ) (λ_ _ _ _=>(yay yaq (pv 0) (pv 1)))) yab)) yaf)))) yau) (yad (pst 3 sc_zaw.nd (yaN (yaa yaf (yaa yaf (yaa yaf (yaa yaf (yaa yaf (yaa yaf (yaa yaf (yaa yaf (yaa yaf (yaa yaf (yaa yaf (yaa yaf (yaa yaf (yaa yaf (yaa yaf yab))))))))))))))))) (yad (pst 3 sc_zaw.nd (yay ydr (pv 3) (yaN (yaa yaf (yaa yaf (yaa yaf (yaa yaf (yaa yaf (yaa yaf (yaa yaf (yaa yaf (yaa yaf (yaa yaf (yaa yaf yab)))))))))))))) (yad (pst 3 sc_zaw.nd (yay ydr (pv 3) (yaN (yaa yaf (yaa yaf (yaa yaf (yaa yaf (yaa yaf (yaa yaf (yaa yaf (yaa yaf (yaa yaf (yaa yaf yab))))))))))))) (yad (pst 3 sc_zaw.nd (yay ydr (pv 3) (yaN (yaa yaf (yaa yaf (yaa yaf (yaa yaf (yaa yaf yab)))))))) (yag (yam (ya5 ya1 (pv 3) (pcm (ybj T) hr (yaa (pv 0) (yaa (pv 1) (yaa yah yab)))) (λ_ _=>rfl))))))))),?_⟩
 left
 refine⟨a,tp,ns,N,5,rfl,dr,by omega,by decide,λv H1 v0 v1 s1 d1=>?_⟩
 left
 refine i_d (λc=>?_) λc=>?_
 ·left
  refine⟨a,tp,ns,N+1,9,rfl,d1,by omega,by decide,λu H2 u0 u1 s2 d2=>?_⟩
  left
  refine⟨u,rfl,ybY ⟨by omega,by omega⟩,?_⟩
  rw[ybJ]
  left
  refine⟨rfl,?_⟩
  have lu:=ybl (i:=u) ⟨by omega,by omega⟩
  refine ybV ⟨_,rfl,λD hD=>ydU (z:=Str.ofString "cdefg") (λi σ H'=>(∃ o,σ=[o,some (tV (ya8 u))])/\Same H2 H'/\H' D=some (.lst ((((Str.ofString "cdefg").cps.toList.take i).map λc=>c :: ya8 u).map tV))) ⟨⟨_,rfl⟩,yae hD _,yac⟩ ?_ ?_⟩
  ·rintro i c σ H' hx ⟨⟨o,rfl⟩,sm,hd⟩
   have hi:=(qE hx).1
   have l5:(Str.ofString "cdefg").cps.toList.length=5:=by ac_rfl
   refine yaT (yc3 (i_T ?_))
   left
   refine ybe (a:=[c]) (b:=ya8 u) rfl rfl (by rw[qS];omega) ?_
   rw[yaO]
   refine⟨_,hd,?_,⟨_,rfl⟩,ybn hD sm,?_⟩
   ·rw[qM,qM,qT]
    exact yaD (by omega)
   ·rw[yac,List.take_succ_eq_append_getElem hi,(qE hx).2,qP,qP]
    rfl
  ·rintro σ H' ⟨_,sm,hd⟩
   rw[show(Str.ofString "cdefg").cps.size=5 by ac_rfl,show(Str.ofString "cdefg").cps.toList.take 5=[99,100,101,102,103] by ac_rfl] at hd
   left
   have l8:∀ w∈([99,100,101,102,103].map λc=>c :: ya8 u),w.length<=8:=λw hw=>by
    obtain⟨c,_,rfl⟩:=List.mem_map.mp hw
    rw[qC]
    omega
   have lj:=yct 44 l8
   have sj:=yhe l8
   rw[qM,show([99,100,101,102,103]:List Nat).length=5 from rfl] at lj sj
   refine yiD 44 _ (by ac_rfl) hd (by rw[qM,show([99,100,101,102,103]:List Nat).length=5 from rfl];omega) ?_
   left
   refine ybe (b:=[47,52]) rfl (lit (by ac_rfl)) (by show _+2<=_;omega) ?_
   rw[yaO]
   exact q _ _ (by rw[qA];show _+2<=_;omega) (SameT.trans s1 (SameT.trans s2 (Same.tt sm))) (d2.same sm)
 ·left
  refine ybA λp1 h1=>?_
  have t1:=yae h1 (.lst yhm)
  have e1:upd H1 p1 (.lst yhm) p1=_:=yac
  show ybt _ _ _ (upd H1 p1 (.lst yhm)) _
  generalize upd H1 p1 _=K1 at t1 e1 ⊢
  left
  refine ybA λp2 h2=>?_
  have t2:=yae h2 (.lst yfR)
  refine⟨p1,p2,yhm,yfR,rfl,rfl,t2 _ _ e1,yac,by show 26<=sizeLine;decide,λp3 h3=>?_⟩
  have t3:Same K1 (upd (upd K1 p2 (.lst yfR)) p3 (.lst (yhm++yfR))):=t2.trans (yae h3 _)
  have e3:upd (upd K1 p2 (.lst yfR)) p3 (.lst (yhm++yfR)) p3=_:=yac
  show ybt _ _ _ (upd (upd K1 p2 (.lst yfR)) p3 (.lst (yhm++yfR))) _
  generalize upd (upd K1 p2 (.lst yfR)) p3 _=K3 at t3 e3 ⊢
  left
  refine ybA λp4 h4=>?_
  have t4:=yae h4 (.lst yis)
  refine⟨p3,p4,yhm++yfR,yis,rfl,rfl,t4 _ _ e3,yac,by show 36<=sizeLine;decide,λp5 h5=>?_⟩
  have t5:Same K3 (upd (upd K3 p4 (.lst yis)) p5 (.lst (yhm++yfR++yis))):=t4.trans (yae h5 _)
  have e5:upd (upd K3 p4 (.lst yis)) p5 (.lst (yhm++yfR++yis)) p5=_:=yac
  show ybt _ _ _ (upd (upd K3 p4 (.lst yis)) p5 (.lst (yhm++yfR++yis))) _
  generalize upd (upd K3 p4 (.lst yis)) p5 _=K5 at t5 e5 ⊢
  left
  refine ybA λp6 h6=>?_
  have t6:=yae h6 (.lst ylM)
  refine⟨p5,p6,yhm++yfR++yis,ylM,rfl,rfl,t6 _ _ e5,yac,by show 41<=sizeLine;decide,λp7 h7=>?_⟩
  have t7:Same K5 (upd (upd K5 p6 (.lst ylM)) p7 (.lst (yhm++yfR++yis++ylM))):=t6.trans (yae h7 _)
  have e7:upd (upd K5 p6 (.lst ylM)) p7 (.lst (yhm++yfR++yis++ylM)) p7=_:=yac
  show ybt _ _ _ (upd (upd K5 p6 (.lst ylM)) p7 (.lst (yhm++yfR++yis++ylM))) _
  generalize upd (upd K5 p6 (.lst ylM)) p7 _=K7 at t7 e7 ⊢
  have tA:=t1.trans (t3.trans (t5.trans t7))
  left
  refine⟨a,tp,ns,N+1,41,rfl,d1.same tA,by omega,by decide,λu H2 u0 u1 s2 d2=>?_⟩
  obtain⟨wd,lw,ew⟩:=yss (xs:=yhm++yfR++yis++ylM) (by ac_rfl) u0 (by show u.toNat < 41;omega)
  have n7:p7≠tp:=λz=>by
   obtain⟨x,ex⟩:=d1.some
   have:=t6 _ _ (t5 _ _ (t3 _ _ (t1 _ _ ex)))
   rw[← z] at this
   exact nomatch (h7.symm.trans this:none=some x)
  exact ybq (SqL.of (s2 _ _ n7 e7)) ew (q wd _ lw (SameT.trans s1 (SameT.trans (Same.tt tA) s2)) d2)
open TX K2 K3
def ysK (w:List Nat):List Int:=((List.range 12).filter λi=>decide (ya8 (i+1:Nat)=w)).map λi=>((i+1:Nat):Int)
noncomputable def n12 (w:List Nat):Option Int:=(ya6 w).filter λn=>decide (1<=n)&&decide (n<=12)
theorem yoA (w:List Nat):ysK w=(n12 w).toList:=by
 unfold n12
 cases e:(ya6 w).filter λn=>decide (1<=n)&&decide (n<=12) with
 | none =>
  unfold ysK
  rw[Option.toList_none,List.map_eq_nil_iff,List.filter_eq_nil_iff]
  intro i hi z
  rw[List.mem_range] at hi
  have z:=of_decide_eq_true z
  rw[← z,ylI (by omega) (by omega),Option.filter_some,if_pos (by simp;omega)] at e
  cases e
 | some n =>
  obtain⟨e1,e2⟩:=Option.filter_eq_some_iff.mp e
  simp only[Bool.and_eq_true,decide_eq_true_eq] at e2
  rw[yco e1]
  have key:∀ n:Nat,n < 12->ysK (ya8 (n+1:Nat))=[((n+1:Nat):Int)]:=by ac_rfl
  have:=key (n.toNat - 1) (by omega)
  rw[show((n.toNat - 1+1:Nat):Int)=n by omega] at this
  exact this
theorem yh3 {w:List Nat}{n:Int}(h:n12 w=some n):ya6 w=some n/\1<=n/\n<=12:=by
 obtain⟨e1,e2⟩:=Option.filter_eq_some_iff.mp h
 simp only[Bool.and_eq_true,decide_eq_true_eq] at e2
 exact⟨e1,e2⟩
theorem ynU {w:List Nat}{n:Int}(h:ya6 w=some n)(h1:1<=n)(h2:n<=12):n12 w=some n:=Option.filter_eq_some_iff.mpr ⟨h,by simp[h1,h2]⟩
noncomputable def bots:List (List Nat):=[[50],[52],[56]]
noncomputable def yd3 (y:List Nat):Int:=if y=[50] then 2 else if y=[52] then 4 else 8
theorem ykF {y:List Nat}(h:y∈bots):ya6 y=some (yd3 y):=by
 have:∀ y∈bots,ya6 y=some (yd3 y):=by ac_rfl
 exact this y h
theorem ysG {y:List Nat}{b:Int}(h:ya6 y=some b)(hb:b=2∨b=4∨b=8):y∈bots/\yd3 y=b:=by
 rw[yco h]
 rcases hb with rfl | rfl | rfl<;>decide +kernel
noncomputable def frG (a b:Int):Bool:=decide (1<=a)&&decide (a<=12)&&(decide (b=2)||decide (b=4)||decide (b=8))&&decide (a*(96 / b)<=192)
noncomputable def frP (h:List Nat):Option (Int×Int):=match ybi 47 h with
 | some [a,b]=>if frG a b=true then some (a,b) else none
 | _=>none
noncomputable def frL (h:List Nat):Option (Int×Int):=match yan 47 h with
 | [x,y]=>(n12 x).bind λa=>if y∈bots then (if a*96 / yd3 y > 192 then none else some (a,yd3 y)) else none
 | _=>none
theorem yoI (h:List Nat):frP h=frL h:=by
 unfold frP frL ybi
 match e:yan 47 h with
 | []=>rfl
 | [x] =>
  rw[List.map_cons,List.map_nil]
  cases ya6 x<;>rfl
 | x :: y :: z :: r =>
  have l3:∀ l,yeh ((x :: y :: z :: r).map ya6)=some l->3<=l.length:=λl hl=>by
   have:=ydj hl
   rw[qM,qC,qC,qC] at this
   omega
  dsimp only
  cases o:yeh ((x :: y :: z :: r).map ya6) with
  | none=>rfl
  | some l =>
   have:=l3 l o
   match l,this with
   | _ :: _ :: _ :: _,_=>rfl
 | [x,y] =>
  rw[List.map_cons,List.map_cons,List.map_nil]
  dsimp only
  cases ex:ya6 x with
  | none =>
   have:n12 x=none:=by unfold n12;rw[ex];rfl
   rw[this]
   rfl
  | some a =>
   cases ey:ya6 y with
   | none =>
    have:y∉bots:=λz=>by rw[ykF z] at ey;cases ey
    show none=_
    cases n12 x with
    | none=>rfl
    | some a=>exact(if_neg this).symm
   | some b =>
    show(if frG a b=true then some (a,b) else none)=_
    by_cases c:1<=a/\a<=12
    ·rw[ynU ex c.1 c.2]
     show _=if y∈bots then (if a*96 / yd3 y > 192 then none else some (a,yd3 y)) else none
     by_cases d:b=2∨b=4∨b=8
     ·obtain⟨m,eb⟩:=ysG ey d
      rw[if_pos m,eb]
      have:(frG a b=true)↔¬ a*96 / b > 192:=by
       unfold frG
       rcases d with rfl | rfl | rfl<;>simp[c]<;>omega
      by_cases g:a*96 / b > 192
      ·rw[if_neg λz=>this.mp z g,if_pos g]
      ·rw[if_pos (this.mpr g),if_neg g]
     ·have n:y∉bots:=λz=>by
       have e2:=ykF z
       rw[ey] at e2
       cases e2
       unfold yd3 at d
       split at d
       ·simp at d
       ·split at d<;>simp at d
      rw[if_neg n,if_neg]
      unfold frG
      simp only[Bool.and_eq_true,Bool.or_eq_true,decide_eq_true_eq]
      exact λz=>d (by have:=z.1.2;omega)
    ·have:n12 x=none:=by
      unfold n12
      rw[ex,Option.filter_some,if_neg (by simp only[Bool.and_eq_true,decide_eq_true_eq];exact c)]
     rw[this]
     show _=none
     rw[if_neg]
     unfold frG
     simp only[Bool.and_eq_true,decide_eq_true_eq]
     exact λz=>c z.1.1
noncomputable def grp (w:List Nat):Int:=(n12 w).getD 99
theorem yd9 (w:List Nat):(n12 w=none/\grp w=99)∨(ya6 w=some (grp w)/\1<=grp w/\grp w<=12):=by
 unfold grp
 cases e:n12 w with
 | none=>exact .inl ⟨rfl,rfl⟩
 | some n=>exact .inr (yh3 e)
theorem yjR:∀ {ws:List (List Nat)} {gs:List Int},yeh (ws.map ya6)=some gs->(∀ g∈gs,1<=g/\g<=12)->ws.map grp=gs
 | [],_,h,_=>by cases h;rfl
 | w :: ws,gs,h,a=>by
  rw[List.map_cons] at h
  cases e:ya6 w with
  | none=>rw[e] at h;cases h
  | some n =>
   rw[e,yeh] at h
   cases e2:yeh (ws.map ya6) with
   | none=>rw[e2] at h;cases h
   | some r =>
    rw[e2] at h
    cases h
    have hn:=a n (by simp)
    rw[List.map_cons,yjR e2 λg hg=>a g (by simp[hg])]
    unfold grp
    rw[ynU e hn.1 hn.2]
    rfl
theorem ylr:∀ ws:List (List Nat),0<=(ws.map grp).sum
 | []=>by simp
 | w :: ws=>by
  have:=ylr ws
  rw[List.map_cons,List.sum_cons]
  rcases yd9 w with ⟨_,h⟩ | ⟨_,h⟩<;>omega
theorem yln:∀ {ws:List (List Nat)},(ws.map grp).sum<=12->yeh (ws.map ya6)=some (ws.map grp)/\∀ g∈ws.map grp,1<=g/\g<=(ws.map grp).sum
 | [],_=>⟨rfl,by simp⟩
 | w :: ws,h=>by
  rw[List.map_cons,List.sum_cons] at h
  have s:=ylr ws
  rcases yd9 w with ⟨_,e⟩ | ⟨e,e1,e2⟩
  ·omega
  ·obtain⟨i1,i2⟩:=yln (ws:=ws) (by omega)
   refine⟨by rw[List.map_cons,e,yeh,i1];rfl,λg hg=>?_⟩
   rw[List.map_cons,List.sum_cons]
   rcases List.mem_cons.mp hg with rfl | hg
   ·omega
   ·have:=i2 g hg;omega
theorem yd6 {c d:Nat}(n:c≠d):∀ {l:List Nat},c∈l->∃ p∈yan d l,c∈p
 | a :: l,m=>by
  rw[yan]
  by_cases e:a=d
  ·rw[if_pos e]
   rcases List.mem_cons.mp m with z | z
   ·exact absurd (z.trans e) n
   ·obtain⟨p,hp,hc⟩:=yd6 n z
    exact⟨p,by simp[hp],hc⟩
  ·rw[if_neg e]
   cases es:yan d l with
   | nil=>exact absurd es (ya9 _ _)
   | cons h t =>
    rcases List.mem_cons.mp m with z | z
    ·exact⟨a :: h,by simp,by simp[z]⟩
    ·obtain⟨p,hp,hc⟩:=yd6 n z
     rw[es] at hp
     rcases List.mem_cons.mp hp with rfl | hp
     ·exact⟨a :: p,by simp,by simp[hc]⟩
     ·exact⟨p,by simp[hp],hc⟩
theorem yo2 {c:Nat}(h:isF c=false)(h2:c≠45)(i:Int):c∉ya8 i:=by
 unfold ya8
 split
 ·intro z
  rcases List.mem_cons.mp z with z | z
  ·exact h2 z
  ·exact yjv h z
 ·exact yjv h
theorem ypd {c d:Nat}{l:List Nat}{gs:List Int}(h:ybi d l=some gs)(hc:isF c=false)(h2:c≠45)(n:c≠d):c∉l:=λm=>by
 obtain⟨p,hp,cp⟩:=yd6 n m
 have:none∉(yan d l).map ya6:=λz=>by rw[ybi,seqO_none.mpr z] at h;cases h
 cases e:ya6 p with
 | none=>exact this (List.mem_map.mpr ⟨p,hp,e⟩)
 | some i =>
  rw[yco e] at cp
  exact yo2 hc h2 i cp
noncomputable def ylL (cs:List Nat):Option (Int×Int×List Int):=match yan 58 cs with
 | [h]=>(frL h).map λq=>(q.1,q.2,[])
 | [h,r]=>(frL h).bind λq=>if ((yan 43 r).map grp).sum=q.1 then some (q.1,q.2,(yan 43 r).map grp) else none
 | _=>none
theorem yiF {cs:List Nat}:ybu cs=(frP (yaH 58 cs).1).bind λq=>(if (yaH 58 cs).2.1=true then ybi 43 (yaH 58 cs).2.2 else some []).bind λgs=>if (gs.all (λg=>decide (1<=g)&&decide (g<=q.1))&&(gs.isEmpty||decide (gs.sum=q.1)))=true then some (q.1,q.2,gs) else none:=by
 unfold ybu frP
 generalize ybi 47 (yaH 58 cs).1=o
 generalize (if (yaH 58 cs).2.1=true then ybi 43 (yaH 58 cs).2.2 else some [])=g
 match o,g with
 | none,none=>rfl
 | none,some _=>rfl
 | some [],none=>rfl
 | some [],some _=>rfl
 | some [_],none=>rfl
 | some [_],some _=>rfl
 | some (_ :: _ :: _ :: _),none=>rfl
 | some (_ :: _ :: _ :: _),some _=>rfl
 | some [a,b],none =>
  dsimp only
  split<;>rfl
 | some [a,b],some gs =>
  dsimp only
  have:yji a b gs=(frG a b&&(gs.all (λg=>decide (1<=g)&&decide (g<=a))&&(gs.isEmpty||decide (gs.sum=a)))):=rfl
  rw[this]
  cases frG a b with
  | true=>rfl
  | false=>rfl
theorem yly {h:List Nat}{q:Int×Int}(e:frP h=some q):frG q.1 q.2=true/\ybi 47 h=some [q.1,q.2]:=by
 unfold frP at e
 match o:ybi 47 h with
 | none=>rw[o] at e;cases e
 | some []=>rw[o] at e;cases e
 | some [_]=>rw[o] at e;cases e
 | some (_ :: _ :: _ :: _)=>rw[o] at e;cases e
 | some [a,b] =>
  rw[o] at e
  dsimp only at e
  by_cases c:frG a b=true
  ·rw[if_pos c] at e;cases e;exact⟨c,rfl⟩
  ·rw[if_neg c] at e;cases e
theorem yie (cs:List Nat):ybu cs=ylL cs:=by
 rw[yiF]
 unfold ylL
 rcases ydJ 58 cs with ⟨_,e1,e2⟩ | ⟨h,r,_,_,e1,e2⟩
 ·rw[e1,e2]
  dsimp only
  rw[yoI]
  cases frL cs<;>rfl
 ·rw[e1,e2]
  dsimp only
  cases ef:frP h with
  | none =>
   rw[yoI] at ef
   match yan 58 r with
   | []=>show none=(frL h).map _;rw[ef];rfl
   | [_]=>show none=(frL h).bind _;rw[ef];rfl
   | _ :: _ :: _=>rfl
  | some q =>
   obtain⟨g,_⟩:=yly ef
   rw[yoI] at ef
   have q12:1<=q.1/\q.1<=12:=by
    unfold frG at g
    simp only[Bool.and_eq_true,decide_eq_true_eq] at g
    exact g.1.1
   show(ybi 43 r).bind (λgs=>if (gs.all (λg=>decide (1<=g)&&decide (g<=q.1))&&(gs.isEmpty||decide (gs.sum=q.1)))=true then some (q.1,q.2,gs) else none)=_
   rcases ydJ 58 r with ⟨_,_,e3⟩ | ⟨h3,r3,e4,_,_,e3⟩
   ·rw[e3]
    dsimp only
    rw[ef]
    show _=if ((yan 43 r).map grp).sum=q.1 then some (q.1,q.2,(yan 43 r).map grp) else none
    by_cases c:((yan 43 r).map grp).sum=q.1
    ·obtain⟨b1,b2⟩:=yln (ws:=yan 43 r) (by omega)
     rw[if_pos c,ybi,b1]
     refine if_pos ?_
     rw[c,decide_eq_true rfl,Bool.or_true,Bool.and_true,List.all_eq_true]
     intro x hx
     have:=b2 x hx
     rw[c] at this
     simp[this]
    ·rw[if_neg c]
     cases en:ybi 43 r with
     | none=>rfl
     | some gs =>
      refine if_neg λz=>c ?_
      simp only[Bool.and_eq_true,Bool.or_eq_true,decide_eq_true_eq,List.all_eq_true] at z
      have ne:gs.isEmpty≠true:=λy=>by
       have:=ydj en
       rw[qM,List.isEmpty_iff.mp y] at this
       exact ya9 43 r (List.length_eq_zero_iff.mp this.symm)
      rw[yjR en λg hg=>⟨(z.1 g hg).1,by have:=(z.1 g hg).2;omega⟩]
      exact z.2.resolve_left ne
   ·rw[e3]
    obtain⟨a,u,eu⟩:∃ a u,yan 58 r3=a :: u:=by
     cases z:yan 58 r3 with
     | nil=>exact absurd z (ya9 _ _)
     | cons a u=>exact⟨a,u,rfl⟩
    rw[eu]
    dsimp only
    cases en:ybi 43 r with
    | none=>rfl
    | some gs=>exact absurd (show 58∈r by rw[e4];simp) (ypd en (by decide) (by decide) (by decide))
open TX K2 K3
theorem ycv (c:Nat):∀ l:List Nat,ybS c (yan c l)=l
 | []=>rfl
 | a :: l=>by
  have ih:=ycv c l
  rw[yan]
  cases es:yan c l with
  | nil=>exact absurd es (ya9 _ _)
  | cons h t =>
   rw[es] at ih
   by_cases e:a=c
   ·rw[if_pos e,ybS,ih,e];rfl
   ·rw[if_neg e]
    cases t with
    | nil =>
     have ih:h=l:=ih
     show a :: h=_
     rw[ih]
    | cons v t =>
     have ih:h++c :: ybS c (v :: t)=l:=ih
     show(a :: h)++c :: ybS c (v :: t)=_
     rw[List.cons_append,ih]
theorem ym0 {c:Nat}(h:¬ Txt.find "cdefgab" (one c) < 0):yn2 (Txt.find "cdefgab" (one c))=c/\0<=Txt.find "cdefgab" (one c)/\Txt.find "cdefgab" (one c)<=6:=by
 by_cases m:c∈("cdefgab" : Str).cps.toList
 ·have key:∀ c∈("cdefgab" : Str).cps.toList,yn2 (Txt.find "cdefgab" (one c))=c/\0<=Txt.find "cdefgab" (one c)/\Txt.find "cdefgab" (one c)<=6:=by ac_rfl
  exact key c m
 ·rw[yhU,posF_mem.mpr m] at h
  exact absurd (by decide) h
theorem yoc {c:Nat}(h:¬ Txt.find "012345678" (one c) < 0):ya8 (Txt.find "012345678" (one c))=[c]/\0<=Txt.find "012345678" (one c)/\Txt.find "012345678" (one c)<=8:=by
 by_cases m:c∈("012345678" : Str).cps.toList
 ·have key:∀ c∈("012345678" : Str).cps.toList,ya8 (Txt.find "012345678" (one c))=[c]/\0<=Txt.find "012345678" (one c)/\Txt.find "012345678" (one c)<=8:=by ac_rfl
  exact key c m
 ·rw[yhU,posF_mem.mpr m] at h
  exact absurd (by decide) h
theorem yjL {w:List Nat}{h:Hd}(e:ybD w=some h):hdW h=w/\HdOk h:=by
 unfold ybD ydp at e
 rw[yaB] at e
 by_cases l:(w.length:Int) < 2
 ·rw[if_pos l] at e;cases e
 rw[if_neg l] at e
 obtain⟨c,m,d,rfl⟩:∃ c m d,w=c :: (m++[d]):=by
  cases w with
  | nil=>exact absurd (by simp) l
  | cons c r =>
   have:r≠[]:=λz=>by rw[z] at l;exact l (by simp)
   obtain⟨m,d,rfl⟩:=yhq this
   exact⟨c,m,d,rfl⟩
 have ln:(c :: (m++[d])).length=m.length+2:=by simp
 have ec:c0 (ofL (c :: (m++[d])))=one c:=by
  unfold c0
  rw[show(1:Int)=((1:Nat):Int) from rfl,yhP _ (by rw[ln];omega)]
  rfl
 have ed:cl (ofL (c :: (m++[d])))=one d:=by
  unfold cl
  rw[yaB,ln,show((m.length+2:Nat):Int) - 1=((m.length+1:Nat):Int) by omega,ydF _ (by rw[ln];omega),List.drop_succ_cons,List.drop_left]
  rfl
 have em:yhl (c :: (m++[d]))=m:=by
  unfold yhl mid
  rw[yaB,ln,show((m.length+2:Nat):Int) - 1=((m.length+1:Nat):Int) by omega,show(1:Int)=((1:Nat):Int) from rfl,ykR _ (by omega) (by rw[ln];omega),List.drop_succ_cons,List.drop_zero,show m.length+1 - 1=m.length by omega,List.take_left]
  rfl
 unfold ydQ ymg at e
 rw[ec,ed,em] at e
 by_cases c1:Txt.find "cdefgab" (one c) < 0
 ·rw[if_pos c1] at e;cases e
 rw[if_neg c1] at e
 by_cases c2:Txt.find "012345678" (one d) < 0
 ·rw[if_pos c2] at e;cases e
 rw[if_neg c2] at e
 obtain⟨a1,a2,a3⟩:=ym0 c1
 obtain⟨b1,b2,b3⟩:=yoc c2
 have e:(if m∈marksL then some (⟨m,Txt.find "cdefgab" (one c),Txt.find "012345678" (one d)⟩:Hd) else none)=some h:=e
 by_cases y:m∈marksL
 ·rw[if_pos y] at e
  cases e
  refine⟨?_,y,⟨a2,a3⟩,b2,b3⟩
  unfold hdW
  dsimp only
  rw[a1,b1]
 ·rw[if_neg y] at e;cases e
theorem yiW {cs:List Nat}{hs:List Hd}(e:ybk cs=some hs):hs.map hdW=yan 44 cs/\hs.length<=4/\∀ h∈hs,HdOk h:=by
 unfold ybk at e
 by_cases c1:4 < (yan 44 cs).length
 ·rw[if_pos c1] at e;cases e
 rw[if_neg c1] at e
 by_cases c2:((yan 44 cs).map ybD).any Option.isNone=true
 ·rw[if_pos c2] at e;cases e
 rw[if_neg c2] at e
 have al:=yhu (by simpa using c2:((yan 44 cs).map ybD).any Option.isNone=false)
 generalize ((yan 44 cs).map ybD).filterMap id=f at e al
 by_cases c3:yeg (f.map yci)=true
 ·rw[if_pos c3] at e
  cases e
  have key:∀ (ws:List (List Nat)) (hs:List Hd),ws.map ybD=hs.map some->hs.map hdW=ws/\∀ h∈hs,HdOk h:=λws=>by
   induction ws with
   | nil =>
    intro hs z
    cases hs with
    | nil=>exact⟨rfl,by simp⟩
    | cons _ _=>cases z
   | cons w ws ih =>
    intro hs z
    cases hs with
    | nil=>cases z
    | cons h hs =>
     rw[List.map_cons,List.map_cons,List.cons.injEq] at z
     obtain⟨i1,i2⟩:=ih hs z.2
     obtain⟨j1,j2⟩:=yjL z.1
     refine⟨by rw[List.map_cons,i1,j1],λx hx=>?_⟩
     rcases List.mem_cons.mp hx with rfl | hx
     ·exact j2
     ·exact i2 x hx
  obtain⟨k1,k2⟩:=key _ _ al
  refine⟨k1,?_,k2⟩
  have:=congrArg List.length k1
  rw[qM] at this
  omega
 ·rw[if_neg c3] at e;cases e
theorem yq3 (l:List Nat):sgL l=opt (decide (126∈l)) [126]++opt (decide (95∈l)) [95]++opt (decide (40∈l)) [40]++opt (decide (41∈l)) [41]:=by
 unfold sgL opt
 by_cases a:126∈l<;>by_cases b:95∈l<;>by_cases c:40∈l<;>by_cases d:41∈l<;>simp[a,b,c,d]
theorem yii {hs:List Hd}{b sy:List Nat}{tl:Tl}(e:yhk hs b sy=some tl):∃ p ti be op cl,tl=.note hs p ti be sy op cl/\p∈pcs/\b=pcW p++opt ti [126]++opt be [95]++opt op [40]++opt cl [41]:=by
 unfold yhk at e
 cases ep:ybm (b.take (yaM b)) with
 | none=>rw[ep] at e;cases e
 | some p =>
  rw[ep] at e
  obtain⟨hp,ew⟩:=yca ep
  have e:(if b.drop (yaM b)=sgL (b.drop (yaM b)) then some (Tl.note hs p (decide (126∈b.drop (yaM b))) (decide (95∈b.drop (yaM b))) sy (decide (40∈b.drop (yaM b))) (decide (41∈b.drop (yaM b)))) else none)=some tl:=e
  by_cases c:b.drop (yaM b)=sgL (b.drop (yaM b))
  ·rw[if_pos c] at e
   cases e
   refine⟨_,_,_,_,_,rfl,hp,?_⟩
   conv=>lhs;rw[← List.take_append_drop (yaM b) b,ew,c,yq3]
   simp only[List.append_assoc]
  ·rw[if_neg c] at e;cases e
theorem ylt {cs:List Nat}{tl:Tl}(e:yc7 cs=some tl):TlG tl/\wrW tl=cs:=by
 rw[yhD] at e
 unfold yei at e
 have js:=ycv 47 cs
 match es:yan 47 cs with
 | []=>exact absurd es (ya9 _ _)
 | [_]=>rw[es] at e;cases e
 | _ :: _ :: _ :: _=>rw[es] at e;cases e
 | [h,r] =>
  rw[es] at e js
  have js:h++47 :: r=cs:=js
  cases eh:ybk h with
  | none=>dsimp only at e;rw[eh] at e;cases e
  | some hs =>
   dsimp only at e
   rw[eh] at e
   obtain⟨h1,h2,h3⟩:=yiW eh
   have jh:=ycv 44 h
   rw[← h1] at jh
   have gh:∀ x∈hs,yjx x:=λx hx=>(h3 x hx).good
   have jr:=ycv 58 r
   have e:(match yan 58 r with | [b]=>yhk hs b [] | [b,sy]=>if ycH (ofL sy)=true then yhk hs b sy else none | _=>none)=some tl:=e
   match er:yan 58 r with
   | []=>exact absurd er (ya9 _ _)
   | _ :: _ :: _ :: _=>rw[er] at e;cases e
   | [b] =>
    rw[er] at e jr
    have jr:b=r:=jr
    obtain⟨p,ti,be,op,cl,rfl,hp,eb⟩:=yii e
    refine⟨⟨⟨h2,gh⟩,hp,Nat.zero_le _⟩,?_⟩
    show ybS 44 (hs.map hdW)++[47]++pcW p++opt ti [126]++opt be [95]++opt op [40]++opt cl [41]++yfQ []=cs
    rw[jh,← js,← jr,eb,show yfQ []=[] from rfl]
    simp only[List.append_assoc,List.cons_append,List.nil_append,List.append_nil]
   | [b,sy] =>
    rw[er] at e jr
    have jr:b++58 :: sy=r:=jr
    dsimp only at e
    by_cases c:ycH (ofL sy)=true
    ·rw[if_pos c] at e
     obtain⟨p,ti,be,op,cl,rfl,hp,eb⟩:=yii e
     have l12:=yfa (.inr c)
     have ne:sy≠[]:=λz=>by rw[z] at c;revert c;decide +kernel
     refine⟨⟨⟨h2,gh⟩,hp,by omega⟩,?_⟩
     show ybS 44 (hs.map hdW)++[47]++pcW p++opt ti [126]++opt be [95]++opt op [40]++opt cl [41]++yfQ sy=cs
     rw[jh,← js,← jr,eb,yfQ,if_neg ne]
     simp only[List.append_assoc,List.cons_append,List.nil_append]
    ·rw[if_neg c] at e;cases e
theorem ygj {c:Nat}{l:List Nat}{is:List Int}(h:ybi c l=some is):l=ybS c (is.map ya8):=by
 have key:∀ (ws:List (List Nat)) (is:List Int),yeh (ws.map ya6)=some is->is.map ya8=ws:=λws=>by
  induction ws with
  | nil=>intro is z;cases z;rfl
  | cons w ws ih =>
   intro is z
   rw[List.map_cons] at z
   cases e:ya6 w with
   | none=>rw[e] at z;cases z
   | some n =>
    rw[e,yeh] at z
    cases e2:yeh (ws.map ya6) with
    | none=>rw[e2] at z;cases z
    | some r =>
     rw[e2] at z
     cases z
     rw[List.map_cons,ih r e2,← yco e]
 rw[key _ _ h,ycv]
theorem ykZ (a b:Int)(gs:List Int):(tM a b gs).cps.toList=if gs=[] then ya8 a++47 :: ya8 b else ya8 a++47 :: ya8 b++58 :: ybS 43 (gs.map ya8):=by
 have ap:∀ x y:Str,(x++y).cps.toList=x.cps.toList++y.cps.toList:=λx y=>by
  show(x.cps++y.cps).toList=_
  simp
 unfold tM
 split
 ·rw[ap,ap,yax,yax,show("/" : Str).cps.toList=[47] by ac_rfl]
  simp
 ·rw[ap,ap,ap,ap,yax,yax,show("/" : Str).cps.toList=[47] by ac_rfl,show(":" : Str).cps.toList=[58] by ac_rfl,show("+" : Str)=one 43 by ac_rfl,show(gs.map λg=>ofL (ya8 g))=(gs.map ya8).map ofL by rw[List.map_map];rfl,ygZ,yax]
  simp
theorem yjl {cs:List Nat}{a b:Int}{gs:List Int}(h:ybu cs=some (a,b,gs)):(Sm a/\Sm b/\(∀ g∈gs,Sm g)/\gs.length<=cs.length+1)/\(tM a b gs).cps.toList=cs:=by
 rw[yiF] at h
 cases ef:frP (yaH 58 cs).1 with
 | none=>rw[ef] at h;cases h
 | some q =>
  rw[ef] at h
  obtain⟨fg,fn⟩:=yly ef
  have fw:=ygj fn
  have fw:(yaH 58 cs).1=ya8 q.1++47 :: ya8 q.2:=fw
  have fg':(1<=q.1/\q.1<=12)/\(q.2=2∨q.2=4∨q.2=8):=by
   unfold frG at fg
   simp only[Bool.and_eq_true,Bool.or_eq_true,decide_eq_true_eq] at fg
   exact⟨fg.1.1,by have:=fg.1.2;omega⟩
  cases eg:(if (yaH 58 cs).2.1=true then ybi 43 (yaH 58 cs).2.2 else some []) with
  | none=>rw[eg] at h;cases h
  | some g2 =>
   rw[eg] at h
   have h:(if (g2.all (λg=>decide (1<=g)&&decide (g<=q.1))&&(g2.isEmpty||decide (g2.sum=q.1)))=true then some (q.1,q.2,g2) else none)=some (a,b,gs):=h
   by_cases c:(g2.all (λg=>decide (1<=g)&&decide (g<=q.1))&&(g2.isEmpty||decide (g2.sum=q.1)))=true
   ·rw[if_pos c] at h
    obtain⟨rfl,rfl,rfl⟩:q.1=a/\q.2=b/\g2=gs:=by cases h;exact⟨rfl,rfl,rfl⟩
    simp only[Bool.and_eq_true,Bool.or_eq_true,decide_eq_true_eq,List.all_eq_true] at c
    have sg:∀ g∈g2,Sm g:=λg hg=>⟨by have:=(c.1 g hg).1;omega,by have:=(c.1 g hg).2;omega⟩
    refine⟨⟨⟨by omega,by omega⟩,⟨by omega,by omega⟩,sg,?_⟩,?_⟩
    ·by_cases y:(yaH 58 cs).2.1=true
     ·rw[if_pos y] at eg
      have:=yh4 eg
      have:=(ycA 58 cs).2
      omega
     ·rw[if_neg y] at eg
      cases eg
      exact Nat.zero_le _
    ·rw[ykZ]
     rcases ydJ 58 cs with ⟨_,e1,_⟩ | ⟨hh,r,e0,_,e1,_⟩
     ·rw[e1] at eg fw
      cases eg
      rw[if_pos rfl]
      exact fw.symm
     ·rw[e1] at eg fw
      have eg:ybi 43 r=some g2:=eg
      have fw:hh=ya8 q.1++47 :: ya8 q.2:=fw
      have ne:g2≠[]:=λz=>by
       have:=ydj eg
       rw[qM,z] at this
       exact ya9 43 r (List.length_eq_zero_iff.mp this.symm)
      rw[if_neg ne,← ygj eg,← fw,e0]
   ·rw[if_neg c] at h;cases h
theorem ykQ {n:Int}{cs:List Nat}{tl:Tl}(l:cs.length<=90)(h:ydD n cs=some tl):TlG tl/\wrW tl=cs:=by
 unfold ydD at h
 cases ef:(ycx n).find? λtl=>decide (wrW tl=cs) with
 | some u =>
  rw[ef] at h
  cases h
  have m:=List.mem_of_find?_eq_some ef
  refine⟨?_,by have:=List.find?_some ef;simpa using this⟩
  simp only[ycx,List.mem_cons,qk,or_false] at m
  rcases m with rfl | rfl | rfl | rfl | rfl | rfl | rfl | rfl<;>first | trivial | exact⟨by decide,by decide⟩
 | none =>
  rw[ef] at h
  have h:(if cs.head?=some 107 then ynH (cs.drop 1) else if cs.head?=some 109 then ycT (cs.drop 1) else if [114,47] <+: cs then ydP (cs.drop 2) else yc7 cs)=some tl:=h
  have hd:∀ c,cs.head?=some c->c :: cs.drop 1=cs:=λc z=>by
   cases cs with
   | nil=>cases z
   | cons a r=>cases z;rfl
  by_cases c1:cs.head?=some 107
  ·rw[if_pos c1,ynH] at h
   cases ek:ylJ (cs.drop 1) with
   | none=>rw[ek] at h;cases h
   | some k =>
    rw[ek] at h
    cases h
    obtain⟨a1,a2,a3⟩:=yh9 ek
    refine⟨⟨by omega,by omega⟩,?_⟩
    show txt "k" ++ ya8 k=cs
    rw[← a1,show txt "k"=[107] by ac_rfl]
    exact hd _ c1
  rw[if_neg c1] at h
  by_cases c2:cs.head?=some 109
  ·rw[if_pos c2,ycT] at h
   cases em:ybu (cs.drop 1) with
   | none=>rw[em] at h;cases h
   | some m =>
    obtain⟨a,b,gs⟩:=m
    rw[em] at h
    cases h
    obtain⟨⟨a1,a2,a3,a4⟩,a5⟩:=yjl em
    rw[List.length_drop] at a4
    refine⟨⟨a1,a2,a3,by show gs.length<=100;omega⟩,?_⟩
    show txt "m" ++ (tM a b gs).cps.toList=cs
    rw[a5,show txt "m"=[109] by ac_rfl]
    exact hd _ c2
  rw[if_neg c2] at h
  by_cases c3:[114,47] <+: cs
  ·rw[if_pos c3,ydP] at h
   cases ep:ybm (cs.drop 2) with
   | none=>rw[ep] at h;cases h
   | some p =>
    rw[ep] at h
    cases h
    obtain⟨a1,a2⟩:=yca ep
    refine⟨a1,?_⟩
    show txt "r/" ++ pcW p=cs
    rw[← a2,show txt "r/"=[114,47] by ac_rfl]
    obtain⟨r,rfl⟩:=c3
    rfl
  rw[if_neg c3] at h
  exact ylt h
def ycU (n:Int):List Tl:=ycx n++((List.range 15).map λi:Nat=>Tl.key ((i:Int) - 7))++pcs.map Tl.pause
theorem yjP {c:Nat}{cs:List Nat}(h:cs.head?=some c)(n:c∉("cdefgab" : Str).cps.toList)(n1:c≠47)(n2:c≠44):yc7 cs=none:=by
 cases cs with
 | nil=>cases h
 | cons a r =>
  cases h
  unfold yc7
  have:ybk (yg0 (c :: r))=none:=by
   unfold yg0
   rw[yaH,if_neg n1]
   dsimp only
   refine yeY (w:=(yan 44 (c :: (yaH 47 r).1)).headD []) ?_ (yol (c:=c) ?_ n)
   ·rw[yan,if_neg n2]
    cases yan 44 (yaH 47 r).1<;>simp
   ·rw[yan,if_neg n2]
    cases yan 44 (yaH 47 r).1<;>rfl
  rw[this]
  rfl
theorem yla (n:Int)(cs:List Nat):ydD n cs=match (ycU n).find? λtl=>decide (wrW tl=cs) with
 | some tl=>some tl
 | none=>if cs.head?=some 109 then ycT (cs.drop 1) else yc7 cs:=by
 unfold ycU
 rw[List.find?_append,List.find?_append]
 unfold ydD
 cases ef:(ycx n).find? λtl=>decide (wrW tl=cs) with
 | some u=>rfl
 | none =>
  rw[Option.none_or]
  dsimp only
  have tk:∀ k:Int,wrW (.key k)=107 :: ya8 k:=λk=>by show txt "k" ++ ya8 k=_;rw[show txt "k"=[107] by ac_rfl];rfl
  have tp:∀ p:Pc,wrW (.pause p)=114 :: 47 :: pcW p:=λp=>by show txt "r/" ++ pcW p=_;rw[show txt "r/"=[114,47] by ac_rfl];rfl
  cases ek:((List.range 15).map λi:Nat=>Tl.key ((i:Int) - 7)).find? λtl=>decide (wrW tl=cs) with
  | some u =>
   rw[Option.some_or]
   dsimp only
   obtain⟨i,hi,rfl⟩:=List.mem_map.mp (List.mem_of_find?_eq_some ek)
   rw[List.mem_range] at hi
   have ew:=List.find?_some ek
   rw[decide_eq_true_eq] at ew
   rw[tk] at ew
   rw[← ew,if_pos (show(107 :: ya8 ((i:Int) - 7)).head?=some 107 from rfl),ynH,List.drop_succ_cons,List.drop_zero,ykj (by omega) (by omega)]
   rfl
  | none =>
   rw[Option.none_or]
   cases ep:(pcs.map Tl.pause).find? λtl=>decide (wrW tl=cs) with
   | some u =>
    dsimp only
    obtain⟨p,hp,rfl⟩:=List.mem_map.mp (List.mem_of_find?_eq_some ep)
    have ew:=List.find?_some ep
    rw[decide_eq_true_eq] at ew
    rw[tp] at ew
    rw[← ew,if_neg (by simp),if_neg (by simp),if_pos ⟨pcW p,rfl⟩,ydP,List.drop_succ_cons,List.drop_succ_cons,List.drop_zero,yeb p hp]
    rfl
   | none =>
    dsimp only
    by_cases c1:cs.head?=some 107
    ·rw[if_pos c1,if_neg (by rw[c1];simp),yjP c1 (by ac_rfl) (by decide) (by decide),ynH]
     cases e:ylJ (cs.drop 1) with
     | none=>rfl
     | some k =>
      obtain⟨a1,a2,a3⟩:=yh9 e
      have:=List.find?_eq_none.mp ek (.key k) (List.mem_map.mpr ⟨(k+7).toNat,List.mem_range.mpr (by omega),by show Tl.key ((((k+7).toNat:Nat):Int) - 7)=Tl.key k;congr 1;omega⟩)
      refine absurd ?_ this
      rw[decide_eq_true_eq,tk,← a1]
      cases cs with
      | nil=>cases c1
      | cons a r=>cases c1;rfl
    rw[if_neg c1]
    by_cases c2:cs.head?=some 109
    ·rw[if_pos c2,if_pos c2]
    rw[if_neg c2,if_neg c2]
    by_cases c3:[114,47] <+: cs
    ·obtain⟨r,rfl⟩:=c3
     rw[if_pos ⟨r,rfl⟩,yjP (c:=114) rfl (by ac_rfl) (by decide) (by decide),ydP]
     cases e:ybm (([114,47]++r).drop 2) with
     | none=>rfl
     | some p =>
      obtain⟨a1,a2⟩:=yca e
      have:=List.find?_eq_none.mp ep (.pause p) (List.mem_map.mpr ⟨p,a1,rfl⟩)
      refine absurd ?_ this
      rw[decide_eq_true_eq,tp,← a2]
      rfl
    ·rw[if_neg c3]
open TX K2 K3
theorem yoN {p:Addr}{a b c:V}{l m n:Nat}{σ:St}{H:Hp}{N:St->Hp->Prop}(s:SqT K H p [a,b,c])(q:N (((σ.set l (some a)).set m (some b)).set n (some c)) H):yn1 K 3 (yda (ybt l) (yda (ybt m) (yda (ybt n) ynm))) (.ref p) σ H N:=⟨p,_,rfl,s,rfl,a,_,rfl,b,_,rfl,c,_,rfl,rfl,q⟩
theorem yjT {trs:List (TE×TE)}{σ:St}{H:Hp}{Q:VK}(q:∀ p,H p=none->ydM trs σ (upd H p (.dK [])) λps H2=>H2 p=some (.dK [])/\∃ kvs:List (Key×V),ps=kvs.map (λkv=>(kV kv.1,kv.2))/\kvs.length<=15/\Q (.ref p) (upd H2 p (.dK (yb7 [] kvs)))):ym7 trs σ H Q:=q
theorem yn4 {tk tv:TE}{r:List (TE×TE)}{σ:St}{H:Hp}{Q:List (V×V)->Hp->Prop}(q:tk σ H λx H1=>tv σ H1 λy H2=>ydM r σ H2 λps H3=>Q ((x,y) :: ps) H3):ydM ((tk,tv) :: r) σ H Q:=q
theorem yu4 {σ:St}{H:Hp}{Q:List (V×V)->Hp->Prop}(q:Q [] H):ydM [] σ H Q:=q
def ytr:List (Key×V):=[(.inr (Str.ofString "whole"),.str (Str.ofString "R")),(.inr (Str.ofString "begin"),.str (Str.ofString "|:")),(.inr (Str.ofString "end"),.str (Str.ofString ":|")),(.inr (Str.ofString "close"),.str (Str.ofString "]")),(.inr (Str.ofString "fine"),.str (Str.ofString "fine")),(.inr (Str.ofString "back"),.str (Str.ofString "back"))]
theorem yjg {i:Nat}{k v:String}{σ:St}{H:Hp}{Q:VK}(hk:σ[i]?=some (some (tV (txt k))))(hv:yfs (yb7 [] ytr) (.inr (ofL (txt k)))=some (tV (txt v)))(q:∀ H',Same H H'->Q (tV (txt v)) H'):ym7 [(tC (V.str (Str.ofString "whole")),tC (V.str (Str.ofString "R"))),(tC (V.str (Str.ofString "begin")),tC (V.str (Str.ofString "|:"))),(tC (V.str (Str.ofString "end")),tC (V.str (Str.ofString ":|"))),(tC (V.str (Str.ofString "close")),tC (V.str (Str.ofString "]"))),(tC (V.str (Str.ofString "fine")),tC (V.str (Str.ofString "fine"))),(tC (V.str (Str.ofString "back")),tC (V.str (Str.ofString "back")))] σ H λx H1=>yjr i σ H1 λy H2=>∃ a v,x=.ref a/\DGet H2 a y (some v)/\Q v H2:=λp hp=>by
 refine⟨yac,ytr,rfl,by decide,_,hk,p,_,rfl,?_,q (upd (upd H p (.dK [])) p (.dK (yb7 [] ytr))) λb u e=>by rw[yas (yak e hp),yas (yak e hp)];exact e⟩
 rw[← hv]
 exact .inl ⟨_,_,.inl yac,rfl,rfl⟩
theorem yvH {ta:TA}{g:TG}{tb:TS}{D:yeZ}{σ:St}{H:Hp}(q:ta σ H λvs H1=>∃ a z,vs=[.ref a,.str z]/\z.cps.all (· < 128)=true/\(∃ xs,SqL K H1 a xs)/\yp7 (ypS K a z) g tb D σ H1):ylq (yoY K ta) g tb D σ H:=q
theorem yhA {i:Int}(h:-9999<=i/\i<=9999):i.natAbs.log2 < 1920:=by
 have:=ybY (i:=(i.natAbs:Int)) ⟨by omega,by omega⟩
 rwa [Int.natAbs_natCast] at this
def yj7:Sp:=λvs H Q _=>∃ y tl,vs=[y]/\Is H y (tlT tl)/\DTl tl/\∀ H',Same H H'->Q (tV (wrW tl)) H'
theorem yph:OF P w base T.zF 2 yj7:=by
 o_head (T.zF.F,sc_zF)
 obtain⟨y,tl,rfl,iy,g,q⟩:=h
 refine⟨_,(yad (pst 1 sc_zF.nd (xT (pv 0))) (yad (yaI (yap ya2 (pv 1) yaf (yat _)) (yad (pst 2 sc_zF.nd (yck yaf (yaa (ybo (yaR (NB:=["_law_head"]) (cap:=[none]) rfl) rfl (ycf (xT (pv 0))) (λ_ _ _ _=>pgb 0) (λ_ _ _ _=>yaZ) (λ_ _ _ _=>(yay yaq (yay yaq (ya5 ycN yaf (ya5 (show IxR _ (ylD K) from ycJ) (pv 0) yah (λ_ _=>rfl)) (λ_ _=>rfl)) (ya5 (show IxR _ (ylD K) from ycJ) (pv 0) yah (λ_ _=>rfl))) (yaC yaU rfl T.Jq ybb (yaa (ya5 (show IxR _ (ylD K) from ycJ) (pv 0) yah (λ_ _=>rfl)) yab))))) yab))) (yad (pst 2 sc_zF.nd (yay yaq (yay yaq (pv 2) yaf) (pcm (yob T) hr (yaa (xT (pv 0)) yab)))) (yad (ycd PassesOwn.never rfl (yoH rfl T.Qx (yaa (yaN (yaa (xT (pv 0)) (yaa (xT (pv 0)) (yaa (xT (pv 0)) (yaa (xT (pv 0)) yab))))) (yaa yaf yab))) (ygm (n:=2) rfl (ybH (pgs 3 sc_zF.nd) (ybH (pgs 4 sc_zF.nd) yem))) (yag (pst 2 sc_zF.nd (yay yaq (pv 2) (ya5 ya1 (yaN (yaa yaf (yaa (pv 4) yab))) (yaC ycc rfl T.Jx ybO (yaa (pv 3) yab)) (λ_ _=>rfl)))))) (yag (yam (yay yaq (yay yaq (pv 2) (ya5 ya1 (yaN (yaa yaf (yaa yaf yab))) (yaC ycc rfl T.Jx ybO (yaa (yaS (ysu hu) (xT (pv 0)) yaf (yat _)) yab)) (λ_ _=>rfl))) (xT (pv 0)))))))) yau) (yad (yaI (yap ya2 (pv 1) yaf (yat _)) (yag (yam (yay yaq yaf (pcm (yob T) hr (yaa (xT (pv 0)) yab))))) yau) (yad (yaI (yap ya2 (pv 1) yaf (yat _)) (yad (ynx (xT (pv 0)) (ygm (n:=3) rfl (ybH (pgs 5 sc_zF.nd) (ybH (pgs 6 sc_zF.nd) (ybH (pgs 7 sc_zF.nd) yem))))) (yad (pst 8 sc_zF.nd (yay yaq (ya5 ya1 (yaN (yaa yaf (yaa yaf yab))) (yaC ycc rfl T.Jx ybO (yaa (yaS (yg1 hu) (pv 7) (yaw yab) (yat _)) yab)) (λ_ _=>rfl)) (yck yaf (yaa (ybo (yaR (NB:=["_law_one"]) (cap:=[none]) rfl) rfl (ydK (pv 7)) (λ_ _ _ _=>pgb 0) (λ_ _ _ _=>yaZ) (λ_ _ _ _=>(yaC yaU rfl T.Jq ybb (yaa (pv 0) yab)))) yab)))) (yag (yam (yay yaq (yay yaq (yay yaq (yay yaq yaf (yaC yaU rfl T.Jq ybb (yaa (pv 5) yab))) yaf) (yaC yaU rfl T.Jq ybb (yaa (pv 6) yab))) (pv 8)))))) yau) (yad (yaI (yap ya2 (pv 1) yaf (yat _)) (yag (yam (yay yaq yaf (yaC yaU rfl T.Jq ybb (yaa (xT (pv 0)) yab))))) yau) (yad (yaI (yap ya2 (pv 1) yaf (yat _)) (yag (yam (yay yaq yaf (yaC yaU rfl T.Jq ybb (yaa (xT (pv 0)) yab))))) yau) (yag (yam (yjV (h1 hu) (yfG (ybc yaf yaf (ybc yaf yaf (ybc yaf yaf (ybc yaf yaf (ybc yaf yaf (ybc yaf yaf yfq)))))) rfl rfl (List.cons_ne_nil _ _) (Nat.le_of_ble_eq_true rfl)) (pv 1) (λ_ _=>rfl)))))))))),?_⟩
 cases tl with
 | note hs p ti be wd op cl =>
  obtain⟨b,l,z,xs,rfl,eb,el,il,iz⟩:=Is.eight iy
  have hq:=λ{H':Hp} (s:Same H H')=>SqT.of (K:=K) (s _ _ eb)
  obtain⟨gh,gp,gw⟩:=g
  left
  refine ybh 0 (hq (Same.refl H)) ?_
  right
  left
  refine⟨rfl,?_⟩
  left
  refine ybh 1 (hq (Same.refl H)) ?_
  refine⟨l,rfl,⟨_,SqL.of el⟩,λD hD=>ycZ (R:=λx h=>Is H x (hdT h)) (λh=>tV (hdW h)) el (yec il) hD (by have:=gh.2.1;omega) ?_ ?_⟩
  ·rintro x u H2 Q2 hm s2 rx k
   obtain⟨a,rfl,ea⟩:=Is.three (rx.same s2)
   have gu:=(gh.2.2.1 u hm).good
   have l2:=ybl (i:=u.oc) ⟨by have:=gu.2.1.1;omega,by have:=gu.2.1.2;omega⟩
   have l3:=gu.2.2
   left
   refine ybh 1 (SqT.of ea) ?_
   refine⟨_,_,_,rfl,rfl,by ac_rfl,ynp gu.1.1 gu.1.2,?_⟩
   left
   refine ybh 0 (SqT.of ea) ?_
   refine ybe (a:=[yn2 u.st]) (b:=u.mr) rfl rfl (by rw[qS];omega) ?_
   rw[yaO]
   left
   refine ybh 2 (SqT.of ea) ?_
   left
   refine⟨u.oc,rfl,ybY ⟨by have:=gu.2.1.1;omega,by have:=gu.2.1.2;omega⟩,?_⟩
   rw[ybJ]
   refine ybe (a:=[yn2 u.st]++u.mr) (b:=ya8 u.oc) rfl rfl (by rw[qA,qS];omega) ?_
   rw[yaO,List.append_assoc]
   exact k _ (Same.refl _)
  ·rintro H1 s1 hd
   have lw:∀ w∈hs.map hdW,w.length<=8:=λw hw=>by
    obtain⟨h,hh,rfl⟩:=List.mem_map.mp hw
    exact yhM (gh.2.2.1 h hh).good
   have lj:=yct 44 lw
   have sj:=yhe lw
   rw[qM] at lj sj
   have l4:=gh.2.1
   have lp:=yc6 gp
   have lwd:=yfa gw
   left
   refine yiD 44 (hs.map hdW) (by ac_rfl) (by rw[List.map_map];exact hd) (by rw[qM];omega) ?_
   left
   refine ybe (b:=[47]) rfl (lit (by ac_rfl)) (by show _+1<=_;omega) ?_
   rw[yaO]
   left
   refine ybh 2 (hq s1) ?_
   left
   refine⟨_,p,rfl,iz.same s1,gp,λH2 s2=>?_⟩
   have s02:=s1.trans s2
   refine ybe (b:=pcW p) rfl rfl (by rw[qA];show _+1+_<=_;omega) ?_
   rw[yaO]
   left
   refine yvH ?_
   left
   refine ybh 3 (hq s02) ?_
   left
   refine ybh 4 (hq s02) ?_
   left
   refine ybh 6 (hq s02) ?_
   left
   refine ybh 7 (hq s02) ?_
   left
   refine ybA λp1 h1=>?_
   have s3:=yae h1 (.lst ([(ti,126),(be,95),(op,40),(cl,41)].map λf=>V.bl f.1))
   have e3:upd H2 p1 (.lst ([(ti,126),(be,95),(op,40),(cl,41)].map λf=>V.bl f.1)) p1=_:=yac
   show ycO _ _ _ (upd H2 p1 (.lst ([(ti,126),(be,95),(op,40),(cl,41)].map λf=>V.bl f.1))) _
   generalize upd H2 p1 _=H3 at s3 e3 ⊢
   have s03:=s02.trans s3
   left
   refine⟨p1,_,rfl,by ac_rfl,⟨_,SqL.of e3⟩,ymb (xs:=[(ti,126),(be,95),(op,40),(cl,41)].map λf=>V.bl f.1) (by show 4=(Str.ofString "~_()").cps.size;decide +kernel) (λi σ H'=>(∃ o1 o2,σ=[some (.ref b),some (tV (txt "note")),some (tV (ybS 44 (hs.map hdW)++[47]++pcW p++(([(ti,126),(be,95),(op,40),(cl,41)].take i).map λf=>opt f.1 [f.2]).flatten)),o1,o2,none,none,none,none])/\Same H3 H') ⟨⟨_,_,by simp only[List.take_zero,List.map_nil,List.flatten_nil,List.append_nil];rfl⟩,Same.refl _⟩ (λi σ H' h=>SqL.of (h.2 _ _ e3)) ?_ ?_⟩
   ·rintro i v c p2 σ H' hx hc ⟨⟨o1,o2,rfl⟩,sm⟩ hp2
    rw[qm] at hx
    obtain⟨f,hf,rfl⟩:=Option.map_eq_some_iff.mp hx
    have hi:i < 4:=(qE hf).1
    obtain rfl:f.2=c:=by
     have:(Str.ofString "~_()").cps[i]?=some f.2:=by
      have e4:([(ti,126),(be,95),(op,40),(cl,41)].map λf=>f.2)[i]?=some f.2:=by rw[qm,hf];rfl
      rw[← Array.getElem?_toList]
      exact e4
     rw[this] at hc
     exact Option.some.inj hc
    have sp:=yae hp2 (.tup [V.bl f.1,.str ⟨#[f.2]⟩])
    refine ypk (SqT.of yac) ?_
    generalize upd H' p2 _=H4 at sp ⊢
    left
    refine ybA λp3 h3=>?_
    have s5:=yae h3 (.lst [tV [],tV [f.2]])
    have e5:upd H4 p3 (.lst [tV [],tV [f.2]]) p3=_:=yac
    rw[show V.str (Str.ofString "")=tV [] by ac_rfl]
    show tCB _ _ _ (upd H4 p3 (.lst [tV [],tV [f.2]])) _
    generalize upd H4 p3 _=H5 at s5 e5 ⊢
    left
    refine .inr ⟨f.1,rfl,?_⟩
    refine ybq (SqL.of e5) (v:=tV (opt f.1 [f.2])) ?_ ?_
    ·cases f.1 with
     | true=>exact yav (j:=1) rfl
     | false=>exact yav (j:=0) rfl
    have lf:((([(ti,126),(be,95),(op,40),(cl,41)].take i).map λf=>opt f.1 [f.2]).flatten).length<=4:=by
     have lo:∀ l:List (Bool×Nat),((l.map λf=>opt f.1 [f.2]).flatten).length<=l.length:=λl=>by
      induction l with
      | nil=>simp
      | cons a l ih =>
       rw[List.map_cons,List.flatten_cons,qA,qC]
       have:=yaV a.1 [a.2]
       rw[qS] at this
       omega
     have:=lo ([(ti,126),(be,95),(op,40),(cl,41)].take i)
     rw[qT] at this
     exact Nat.le_trans this (Nat.min_le_right _ _)
    refine ybe (b:=opt f.1 [f.2]) rfl rfl ?_ ?_
    ·have:=yaV f.1 [f.2]
     simp only[qA,qS] at *
     omega
    rw[yaO]
    left
    refine⟨⟨some (V.bl f.1),some (tV [f.2]),?_⟩,sm.trans (sp.trans s5)⟩
    rw[List.take_add_one,hf,Option.toList_some,qP,List.flatten_append]
    simp only[List.map_cons,List.map_nil,List.flatten_cons,List.flatten_nil,List.append_nil,List.append_assoc]
    rfl
   ·rintro σ H' ⟨⟨o1,o2,rfl⟩,sm⟩
    have s04:=s03.trans sm
    rw[show(([(ti,126),(be,95),(op,40),(cl,41)].take ([(ti,126),(be,95),(op,40),(cl,41)].map λf=>V.bl f.1).length).map λf=>opt f.1 [f.2]).flatten=opt ti [126]++opt be [95]++opt op [40]++opt cl [41] by simp]
    have lo:(opt ti [126]++opt be [95]++opt op [40]++opt cl [41]).length<=4:=by
     have:=yaV ti [126];have:=yaV be [95];have:=yaV op [40];have:=yaV cl [41]
     simp only[qA,qS] at *
     omega
    generalize hfl:opt ti [126]++opt be [95]++opt op [40]++opt cl [41]=fl at lo
    left
    refine ybA λp4 h4=>?_
    have s5:=yae h4 (.lst [tV [],tV [58]])
    have e5:upd H' p4 (.lst [tV [],tV [58]]) p4=_:=yac
    rw[show[V.str (Str.ofString ""),V.str (Str.ofString ":")]=[tV [],tV [58]] by ac_rfl]
    generalize upd H' p4 _=H5 at s5 e5 ⊢
    have s05:=s04.trans s5
    left
    refine ybh 5 (hq s05) ?_
    left
    have okS:∀ z:List Nat,OkE (sT z):=λz=>⟨rfl,yiY⟩
    refine ysU (okS wd) (okS []) (ycB wd) (ycB []) ?_
    have ee:(!eqT (yeJ (sT wd)) (yeJ (sT [])))=!decide (wd=[]):=by
     show(!eqV (.str (ofL wd)) (.str (ofL [])))=_
     rw[yhJ]
     congr 1
     rw[decide_eq_decide]
     exact⟨λh=>h.symm,λh=>h.symm⟩
    rw[ee]
    refine .inr ⟨_,rfl,?_⟩
    refine ybq (SqL.of e5) (v:=tV (opt (!decide (wd=[])) [58])) ?_ ?_
    ·cases (!decide (wd=[])) with
     | true=>exact yav (j:=1) rfl
     | false=>exact yav (j:=0) rfl
    have l58:=yaV (!decide (wd=[])) [58]
    refine ybe (b:=opt (!decide (wd=[])) [58]) rfl rfl (by simp only[qA,qS] at *;omega) ?_
    rw[yaO]
    left
    refine ybh 5 (hq s05) ?_
    refine ybe (b:=wd) rfl rfl (by simp only[qA,qS] at *;omega) ?_
    rw[yaO]
    have fin:=q _ s05
    have ew:wrW (.note hs p ti be wd op cl)=ybS 44 (hs.map hdW)++[47]++pcW p++fl++opt (!decide (wd=[])) [58]++wd:=by
     show ybS 44 (hs.map hdW)++[47]++pcW p++opt ti [126]++opt be [95]++opt op [40]++opt cl [41]++yfQ wd=_
     rw[← hfl]
     unfold yfQ
     by_cases c:wd=[]
     ·rw[if_pos c,c];simp[opt]
     ·rw[if_neg c];simp[opt,c]
    rw[ew] at fin
    exact fin
 | pause p =>
  obtain⟨b,z,rfl,eb,iz⟩:=Is.two iy
  have hq:=SqT.of (K:=K) eb
  left
  refine ybh 0 hq ?_
  right
  right
  left
  refine ybh 1 hq ?_
  left
  refine⟨z,p,rfl,iz,g,λH2 s2=>?_⟩
  exact ybe (a:=txt "r/") rfl rfl (by have:=yc6 g;rw[show(txt "r/").length=2 by ac_rfl];omega) (by rw[yaO];exact q _ s2)
 | metre a b gs =>
  obtain⟨b',z,rfl,eb,iz⟩:=Is.two iy
  have hq:=SqT.of (K:=K) eb
  left
  refine ybh 0 hq ?_
  right
  right
  right
  left
  refine ybh 1 hq ?_
  obtain⟨pm,gm,rfl,hm⟩:=yqc iz
  obtain⟨g1,g2,g3,g4⟩:=ygU _ g
  refine yoN (SqT.of hm.at') ?_
  left
  refine ybA λp1 h1=>?_
  have s1:=yae h1 (.lst [tV [58],tV []])
  have e1:upd H p1 (.lst [tV [58],tV []]) p1=_:=yac
  rw[show[V.str (Str.ofString ":"),V.str (Str.ofString "")]=[tV [58],tV []] by ac_rfl]
  generalize upd H p1 _=H1 at s1 e1 ⊢
  left
  refine ybA λp2 h2=>?_
  have s2:=yae h2 (.tup [])
  have e2:upd H1 p2 (.tup []) p2=_:=yac
  generalize upd H1 p2 _=H2 at s2 e2 ⊢
  have s02:=s1.trans s2
  have okI:∀ ns:List Int,OkE (.tp (ns.map nT)):=λns=>⟨yd7 λu hu=>by obtain⟨b,_,rfl⟩:=List.mem_map.mp hu;rfl,ysi (k:=59) (yk2 λu hu=>by obtain⟨b,_,rfl⟩:=List.mem_map.mp hu;exact yiY)⟩
  refine yrr (okI gs) (okI []) (ya3 (s02 _ _ hm.gr) (yc1 _ gs)) (ya3 e2 (yaz _)) ?_
  have ee:eqT (yeJ (.tp (gs.map nT))) (yeJ (.tp (List.map nT [])))=decide (gs=[]):=by cases gs<;>rfl
  rw[ee]
  refine .inr ⟨_,rfl,?_⟩
  refine ybq (SqL.of (s2 _ _ e1)) (v:=tV (opt (!decide (gs=[])) [58])) ?_ ?_
  ·cases gs with
   | nil=>exact yav (j:=1) rfl
   | cons _ _=>exact yav (j:=0) rfl
  left
  refine⟨rfl,?_⟩
  left
  have g4:gs.length<=100:=g4
  refine⟨gm,rfl,⟨_,SqT.of (s02 _ _ hm.gr)⟩,λD hD=>ykw (R:=λx u=>Is H2 x (nT u)) (λu=>tV (ya8 u)) (s02 _ _ hm.gr) (yec (yc1 _ gs)) hD (by omega) ?_ ?_⟩
  ·rintro x u H3 Q3 hm' s3 rx k
   rw[rx.n]
   left
   refine⟨u,rfl,ybY (g3 u hm'),?_⟩
   rw[ybJ]
   exact k _ (Same.refl _)
  ·rintro H3 s3 hd
   have lw:∀ w∈gs.map ya8,w.length<=8:=λw hw=>by
    obtain⟨u,hu',rfl⟩:=List.mem_map.mp hw
    have:=ycP (g3 u hu')
    rw[yaB] at this
    omega
   have lj:=yct 43 lw
   have sj:=yhe lw
   rw[qM] at lj sj
   have l1:(ofL (ya8 a)).length<=4:=ycP g1
   have l2:(ofL (ya8 b)).length<=4:=ycP g2
   have lm:(txt "m").length=1:=by ac_rfl
   rw[yaB] at l1 l2
   have lo:=yaV (!decide (gs=[])) [58]
   left
   refine yiD 43 (gs.map ya8) (by ac_rfl) (by rw[List.map_map];exact hd) (by rw[qM];omega) ?_
   refine ybe (b:=ybS 43 (gs.map ya8)) rfl rfl (by simp only[qS] at lo;omega) ?_
   rw[yaO]
   left
   refine⟨a,rfl,ybY g1,?_⟩
   rw[ybJ]
   refine ybe (a:=txt "m") (b:=ya8 a) rfl rfl (by omega) ?_
   rw[yaO]
   left
   refine ybe (b:=[47]) rfl (lit (by ac_rfl)) (by rw[qA,qS];omega) ?_
   rw[yaO]
   left
   refine⟨b,rfl,ybY g2,?_⟩
   rw[ybJ]
   refine ybe (b:=ya8 b) rfl rfl (by rw[qA,qA,qS];omega) ?_
   rw[yaO]
   left
   refine ybe (b:=opt (!decide (gs=[])) [58]++ybS 43 (gs.map ya8)) rfl rfl (by simp only[qA,qS] at *;omega) ?_
   rw[yaO]
   have fin:=q _ (s02.trans s3)
   have ew:wrW (.metre a b gs)=txt "m" ++ ya8 a++[47]++ya8 b++(opt (!decide (gs=[])) [58]++ybS 43 (gs.map ya8)):=by
    show txt "m" ++ (tM a b gs).cps.toList=_
    rw[ykZ]
    by_cases c:gs=[]
    ·rw[if_pos c,c];simp[opt,ybS]
    ·rw[if_neg c];simp[opt,c]
   rw[ew] at fin
   exact fin
 | key k =>
  obtain⟨b,z,rfl,eb,iz⟩:=Is.two iy
  have hq:=SqT.of (K:=K) eb
  rw[iz.n] at hq
  left
  refine ybh 0 hq ?_
  right
  right
  right
  right
  left
  refine ybh 1 hq ?_
  left
  refine⟨k,rfl,yhA ⟨by have:=g.1;omega,by have:=g.2;omega⟩,?_⟩
  rw[ybJ]
  have lk:=ybl (i:=k) ⟨by have:=g.1;omega,by have:=g.2;omega⟩
  exact ybe (a:=txt "k") (b:=ya8 k) rfl rfl (by rw[show(txt "k").length=1 by ac_rfl];omega) (by rw[yaO];exact q _ (Same.refl H))
 | ending n =>
  obtain⟨b,z,rfl,eb,iz⟩:=Is.two iy
  have hq:=SqT.of (K:=K) eb
  rw[iz.n] at hq
  left
  refine ybh 0 hq ?_
  right
  right
  right
  right
  right
  left
  refine ybh 1 hq ?_
  left
  have g:n=1∨n=2:=g
  refine⟨n,rfl,yhA ⟨by omega,by omega⟩,?_⟩
  rw[ybJ]
  have lk:=ybl (i:=n) ⟨by omega,by omega⟩
  exact ybe (a:=txt "[") (b:=ya8 n) rfl rfl (by rw[show(txt "[").length=1 by ac_rfl];omega) (by rw[yaO];exact q _ (Same.refl H))
 | whole n =>
  obtain⟨b,z,rfl,eb,iz⟩:=Is.two iy
  have hq:=SqT.of (K:=K) eb
  left
  refine ybh 0 hq ?_
  right
  right
  right
  right
  right
  left
  exact yjg (k := "whole") (v := "R") rfl (by ac_rfl) λH' s=>q H' s
 | bare i =>
  obtain⟨b,rfl,eb⟩:=Is.ones iy
  have hq:=SqT.of (K:=K) eb
  left
  refine ybh 0 hq ?_
  cases i
  ·right
   right
   right
   right
   right
   left
   exact yjg (k := "begin") (v := "|:") rfl (by ac_rfl) λH' s=>q H' s
  ·right
   right
   right
   right
   right
   left
   exact yjg (k := "end") (v := ":|") rfl (by ac_rfl) λH' s=>q H' s
  ·right
   right
   right
   right
   right
   left
   exact yjg (k := "close") (v := "]") rfl (by ac_rfl) λH' s=>q H' s
  ·right
   right
   right
   right
   right
   left
   exact yjg (k := "fine") (v := "fine") rfl (by ac_rfl) λH' s=>q H' s
  ·right
   right
   right
   right
   right
   left
   exact yjg (k := "back") (v := "back") rfl (by ac_rfl) λH' s=>q H' s
open TX K2 K3
def DKs {α:Type}(w:α->List Nat)(f:α->Th)(H:Hp):List (Key×V)->List α->Prop
 | [],[]=>True
 | kv :: kvs,a :: as=>(kv.1=Sum.inr (ofL (w a))/\Is H kv.2 (f a))/\DKs w f H kvs as
 | _,_=>False
section
variable {α:Type} {wd:α->List Nat} {f:α->Th}
theorem DKs.same {H H':Hp}(s:Same H H'):∀ {kvs:List (Key×V)} {as:List α},DKs wd f H kvs as->DKs wd f H' kvs as
 | [],[],_=>trivial
 | _ :: _,_ :: _,h=>⟨⟨h.1.1,h.1.2.same s⟩,DKs.same s h.2⟩
theorem DKs.len {H:Hp}:∀ {kvs:List (Key×V)} {as:List α},DKs wd f H kvs as->kvs.length=as.length
 | [],[],_=>rfl
 | _ :: _,_ :: _,h=>by rw[qC,qC,DKs.len h.2]
theorem DKs.app {H:Hp}:∀ {k1 k2:List (Key×V)} {a1 a2:List α},DKs wd f H k1 a1->DKs wd f H k2 a2->DKs wd f H (k1++k2) (a1++a2)
 | [],_,[],_,_,h=>h
 | _ :: _,_,_ :: _,_,h,g=>⟨h.1,DKs.app h.2 g⟩
theorem DKs.at {H:Hp}:∀ {kvs:List (Key×V)} {as:List α} {i:Nat} {k:Key} {v:V},DKs wd f H kvs as->kvs[i]?=some (k,v)->∃ a,as[i]?=some a/\k=.inr (ofL (wd a))/\Is H v (f a)
 | _ :: _,a :: _,0,k,v,h,e=>by cases e;exact⟨a,rfl,h.1.1,h.1.2⟩
 | _ :: _,_ :: _,i+1,k,v,h,e=>DKs.at (i:=i) h.2 e
theorem DKs.val {H:Hp}(cs:List Nat):∀ {kvs:List (Key×V)} {as:List α},DKs wd f H kvs as->(as.find? (λa=>decide (wd a=cs))=none/\yfs kvs (.inr (ofL cs))=none)∨∃ a v,as.find? (λa=>decide (wd a=cs))=some a/\yfs kvs (.inr (ofL cs))=some v/\Is H v (f a)
 | [],[],_=>.inl ⟨rfl,rfl⟩
 | kv :: kvs,a :: as,h=>by
  by_cases e:wd a=cs
  ·refine .inr ⟨a,kv.2,List.find?_cons_of_pos (by simpa using e),yd0 ?_,h.1.2⟩
   rw[h.1.1,e]
  ·have n:¬ kv.1=.inr (ofL cs):=λz=>by
    rw[h.1.1] at z
    injection z with z
    exact e (by have:=congrArg (λs:Str=>s.cps.toList) z;exact this)
   rw[List.find?_cons_of_neg (by simpa using e),ydV n]
   exact DKs.val cs h.2
theorem yo5 {as:List α}{cs:List Nat}(h:∀ b∈as,wd b≠cs):as.find? (λa=>decide (wd a=cs))=none:=List.find?_eq_none.mpr λb hb=>by simpa using h b hb
theorem DKs.put {H:Hp}{kvs:List (Key×V)}{as:List α}(d:DKs wd f H kvs as){a:α}{v:V}(n:∀ b∈as,wd b≠wd a)(i:Is H v (f a)):DKs wd f H (ydY kvs (.inr (ofL (wd a))) v) (as++[a]):=by
 have:yfs kvs (.inr (ofL (wd a)))=none:=by
  rcases d.val (wd a) with ⟨_,z⟩ | ⟨b,_,z,_⟩
  ·exact z
  ·rw[yo5 n] at z;cases z
 rw[yl4 v this]
 exact d.app ⟨⟨rfl,i⟩,trivial⟩
theorem ym9 {l:List α}(h:(l.map wd).Nodup){m:Nat}{a:α}(e:l[m]?=some a):∀ b∈l.take m,wd b≠wd a:=λb hb z=>by
 have hm:=(qE e).1
 have:(l.take m++a :: l.drop (m+1))=l:=by
  have e2:l.drop m=a :: l.drop (m+1):=by rw[List.drop_eq_getElem_cons hm,(qE e).2]
  rw[← e2,List.take_append_drop]
 rw[← this,qP,List.nodup_append] at h
 exact h.2.2 (wd b) (List.mem_map.mpr ⟨b,hb,rfl⟩) (wd a) (by simp) z
theorem DKs.next {H:Hp}{l:List α}(h:(l.map wd).Nodup){m:Nat}{a:α}(e:l[m]?=some a){kvs:List (Key×V)}(d:DKs wd f H kvs (l.take m)){v:V}(i:Is H v (f a)):DKs wd f H (ydY kvs (.inr (ofL (wd a))) v) (l.take (m+1)):=by
 have hm:=(qE e).1
 rw[List.take_succ_eq_append_getElem hm,(qE e).2]
 exact d.put (ym9 h e) i
end
theorem yk4:(pcs.map pcW).Nodup:=by ac_rfl
theorem yfF:pcs.length=30:=by ac_rfl
def ylO (i:Nat):Nat:=if i<=4 then 6*i else if i=5 then 28 else 30
noncomputable def valsP:List Int:=[1,2,4,8,16,32]
noncomputable def ylN (i:Nat):Nat:=if i<=3 then 3 else if i=4 then 2 else 1
theorem yrd:∀ i,i < 6->∀ d,d < ylN i->∀ b:Bool,(pcs[ylO i+2*d+(if b=true then 1 else 0)]?).map (λq=>(q.v,q.d,q.th))=some (valsP.getD i 0,d,b):=by ac_rfl
theorem yoX {i d:Nat}(hi:i < 6)(hd:d < ylN i)(b:Bool):pcs[ylO i+2*d+(if b=true then 1 else 0)]?=some ⟨valsP.getD i 0,d,b⟩:=by
 have:=yrd i hi d hd b
 cases e:pcs[ylO i+2*d+(if b=true then 1 else 0)]? with
 | none=>rw[e] at this;cases this
 | some q =>
  rw[e] at this
  simp only[Option.map_some,Option.some.injEq,Prod.mk.injEq] at this
  obtain⟨x,y,z⟩:=this
  cases q
  simp only at x y z
  rw[x,y,z]
theorem ymw:∀ i,i < 6->ylO i+2*ylN i=ylO (i+1):=by decide
theorem yeQ (cs:List Nat):pcs.find? (λp=>decide (pcW p=cs))=ybm cs:=by
 cases e:pcs.find? (λp=>decide (pcW p=cs)) with
 | some q =>
  have:=List.find?_some e
  rw[decide_eq_true_eq] at this
  rw[← this,yeb q (List.mem_of_find?_eq_some e)]
 | none =>
  cases e2:ybm cs with
  | none=>rfl
  | some p =>
   obtain⟨hp,rfl⟩:=yca e2
   exact absurd (by simp) (List.find?_eq_none.mp e p hp)
theorem ypG:∀ i,i < 6->(yfs (yb7 [] [((.inl 32:Key),V.int 1),(.inl 16,.int 2)]) (.inl (valsP.getD i 0))).getD (V.int 3)=.int (ylN i):=by ac_rfl
def GrP (D:Addr)(H0:Hp)(m:Nat)(H:Hp):Prop:=SameT D H0 H/\∃ kvs,H D=some (.dK kvs)/\DKs pcW pcT (rm H D) kvs (pcs.take m)
theorem GrP.same {D:Addr}{H0 H H':Hp}{m:Nat}(g:GrP D H0 m H)(s:Same H H'):GrP D H0 m H':=by
 obtain⟨t,kvs,e,d⟩:=g
 exact⟨λb u n z=>s _ _ (t b u n z),kvs,s _ _ e,d.same (yhN λb u _ z=>s b u z)⟩
def ytQ:Sp:=λvs H Q _=>vs=[]/\∀ D kvs H',Same H H'->H D=none->H' D=some (.dK kvs)->DKs pcW pcT (rm H' D) kvs pcs->Q (.ref D) H'
theorem ynD {td ty tx:TE}{σ:St}{H:Hp}{Q:VK}(q:td σ H λx H1=>∃ a,x=.ref a/\IsD H1 a/\ty σ H1 λy H2=>tx σ H2 λz H3=>∃ o,DGet H3 a y o/\Q (o.getD z) H3):yj3 td ty tx σ H Q:=q
theorem ykv {td ty tv:TE}{D:yeZ}{σ:St}{H:Hp}(q:tv σ H λv H1=>td σ H1 λx H2=>ty σ H2 λy H3=>∃ a H4,x=.ref a/\DPut H3 a y v H4/\D.nx σ H4):ypF td ty tv D σ H:=q
theorem ysA:OF P w base T.za 2 ytQ:=by
 o_head (T.za.F,sc_za)
 obtain⟨rfl,q⟩:=h
 refine⟨_,(yad (pst 0 sc_za.nd yip) (yad (ycd PassesOwn.never rfl (ydK (yaw (yaa yah (yaa yah (yaa yah (yaa yah (yaa yah (yaa yah yab)))))))) (pgs 1 sc_za.nd) (yag (ycd PassesOwn.never rfl (ycb rfl T.Jr (yaa (yh6 (h1 hu) (yfG (ybc yah yah (ybc yah yah yfq)) rfl rfl (List.cons_ne_nil _ _) (Nat.le_of_ble_eq_true rfl)) (pv 1) yah ⟨rfl,rfl,rfl,rfl⟩) yab)) (pgs 2 sc_za.nd) (yag (ycd PassesOwn.never rfl (ydK (yaw (yaa ycK (yaa ycK yab)))) (pgs 3 sc_za.nd) (yag (yht (h1 hu) (pv 0) (pcm (yob T) hr (yaa (yaw (yaa (pv 1) (yaa (pv 2) (yaa (pv 3) yab)))) yab)) (yaw (yaa (pv 1) (yaa (pv 2) (yaa (pv 3) yab)))) rfl))))))) (yag (yam (pv 0))))),?_⟩
 left
 intro D hD
 have s1:=yae hD (.dK [])
 have e1:upd H D (.dK []) D=_:=yac
 generalize upd H D (.dK [])=H1 at s1 e1 ⊢
 left
 refine ybA λp hp=>?_
 have s2:=yae hp (.tup (valsP.map V.int))
 have e2:upd H1 p (.tup (valsP.map V.int)) p=_:=yac
 have eD:=s2 _ _ e1
 have np:p≠D:=(yak e1 hp).symm
 rw[show[V.int 1,V.int 2,V.int 4,V.int 8,V.int 16,V.int 32]=valsP.map V.int from rfl]
 generalize upd H1 p _=H2 at s2 e2 eD ⊢
 refine⟨p,rfl,⟨_,SqT.of e2⟩,ye8 (xs:=valsP.map V.int) (λi σ H'=>(∃ o1 o2 o3,σ=[some (.ref D),o1,o2,o3])/\GrP D H2 (ylO i) H') ⟨⟨_,_,_,rfl⟩,SameT.refl,[],eD,trivial⟩ (λi σ H' _ h=>SqT.of (h.2.1 _ _ np e2)) ?_ ?_⟩
 ·rintro i x σ H' hx ⟨⟨o1,o2,o3,rfl⟩,gr⟩
  have hi:i < 6:=(qE hx).1
  obtain rfl:V.int (valsP.getD i 0)=x:=by
   rw[qm,qG (show i < valsP.length from hi)] at hx
   rw[List.getD_eq_getElem?_getD,qG (show i < valsP.length from hi)]
   exact Option.some.inj hx
  refine yaT ?_
  left
  refine ynD (yjT λp3 h3=>?_)
  refine⟨yac,[(.inl 32,.int 1),(.inl 16,.int 2)],rfl,by decide,p3,rfl,.inl ⟨_,.inl yac⟩,?_⟩
  refine yj6 rfl (i_c ⟨_,DGet.k (k:=.inl (valsP.getD i 0)) yac,?_⟩)
  rw[ypG i hi]
  have n3:p3≠D:=(yak gr.2.choose_spec.1 h3).symm
  have gr3:GrP D H2 (ylO i) (upd (upd H' p3 (.dK [])) p3 (.dK (yb7 [] [(.inl 32,.int 1),(.inl 16,.int 2)]))):=gr.same (λb u e=>by rw[yas (yak e h3),yas (yak e h3)];exact e)
  generalize upd (upd H' p3 _) p3 _=H3 at gr3 ⊢
  left
  have c3:ylN i<=3:=(show ∀ i,i < 6->ylN i<=3 by decide) i hi
  refine⟨(ylN i:Int),rfl,by omega,by omega,yc0 (λd σ H'=>(∃ o2 o3,σ=[some (.ref D),some (.int (valsP.getD i 0)),o2,o3])/\GrP D H2 (ylO i+2*d) H') ⟨⟨_,_,rfl⟩,gr3⟩ ?_ ?_⟩
  ·rintro d σ H4 N hN hd ⟨⟨o2,o3,rfl⟩,gr4⟩
   have hd:d < ylN i:=by omega
   refine yaT ?_
   rw[Int.zero_add]
   left
   refine ybA λp4 h4=>?_
   have s5:=yae h4 (.tup ([false,true].map V.bl))
   have e5:upd H4 p4 (.tup ([false,true].map V.bl)) p4=_:=yac
   have n4:p4≠D:=(yak gr4.2.choose_spec.1 h4).symm
   have gr5:=gr4.same s5
   rw[show[V.bl false,V.bl true]=[false,true].map V.bl from rfl]
   generalize upd H4 p4 _=H5 at s5 e5 gr5 ⊢
   refine⟨p4,rfl,⟨_,SqT.of e5⟩,ye8 (xs:=[false,true].map V.bl) (λj σ H'=>(∃ o3,σ=[some (.ref D),some (.int (valsP.getD i 0)),some (.int d),o3])/\SameT D H5 H'/\GrP D H2 (ylO i+2*d+j) H') ⟨⟨_,rfl⟩,SameT.refl,gr5⟩ (λj σ H' _ h=>SqT.of (h.2.1 _ _ n4 e5)) ?_ ?_⟩
   ·rintro j x σ H6 hx ⟨⟨o3,rfl⟩,s6,gr6⟩
    obtain⟨b,rfl,rfl⟩:∃ b:Bool,x=.bl b/\j=if b=true then 1 else 0:=by
     match j,hx with
     | 0,hx=>cases hx;exact⟨false,rfl,rfl⟩
     | 1,hx=>cases hx;exact⟨true,rfl,rfl⟩
     | j+2,hx=>cases hx
    have at':=yoX hi hd b
    obtain⟨t6,kvs,hk,dk⟩:=gr6
    have lk:kvs.length<=30:=by
     have:=dk.len
     rw[qT,yfF] at this
     omega
    refine yaT (ykv ?_)
    left
    refine ybA λp7 h7=>?_
    have s7:=yae h7 (.tup [.int (valsP.getD i 0),.int d,.bl b])
    have e7:upd H6 p7 (.tup [.int (valsP.getD i 0),.int d,.bl b]) p7=_:=yac
    have n7:p7≠D:=(yak hk h7).symm
    generalize upd H6 p7 _=H7 at s7 e7 ⊢
    left
    refine ybA λp8 h8=>?_
    have s8:=yae h8 (.tup [.int (valsP.getD i 0),.int d,.bl b])
    have e8:upd H7 p8 (.tup [.int (valsP.getD i 0),.int d,.bl b]) p8=_:=yac
    generalize upd H7 p8 _=H8 at s8 e8 ⊢
    left
    refine⟨_,⟨valsP.getD i 0,d,b⟩,rfl,yiP e8,List.mem_of_getElem? at',λH9 s9=>?_⟩
    have sA:=s7.trans (s8.trans s9)
    refine⟨D,_,rfl,DPut.k (k:=.inr (ofL (pcW ⟨valsP.getD i 0,d,b⟩))) (sA _ _ hk) (yaD (by omega)),⟨_,rfl⟩,?_,?_,_,yac,?_⟩
    ·exact λc u n e=>by rw[yas n];exact sA _ _ (s6 c u n e)
    ·exact λc u n e=>by rw[yas n];exact sA _ _ (t6 c u n e)
    ·have up:Same (rm H6 D) (rm (upd H9 D (.dK (ydY kvs (.inr (ofL (pcW ⟨valsP.getD i 0,d,b⟩))) (.ref p7)))) D):=λc u e=>by
      obtain⟨n,e⟩:=yb6 e
      rw[ybQ n,yas n]
      exact sA _ _ e
     exact DKs.next (a:=(⟨valsP.getD i 0,d,b⟩:Pc)) yk4 at' (dk.same up) (yiP (by rw[ybQ n7,yas n7];exact s9 _ _ (s8 _ _ e7)))
   ·rintro σ H6 ⟨⟨o3,rfl⟩,_,gr6⟩
    exact hN _ _ ⟨⟨_,_,rfl⟩,gr6⟩
  ·rintro σ H4 ⟨⟨o2,o3,rfl⟩,gr4⟩
   rw[show((ylN i:Int)).toNat=ylN i by omega,ymw i hi] at gr4
   exact⟨⟨_,_,_,rfl⟩,gr4⟩
 ·rintro σ H' ⟨⟨o1,o2,o3,rfl⟩,t6,kvs,hk,dk⟩
  left
  refine q D kvs H' (λb u e=>t6 b u (yak e hD) (s2 _ _ (s1 _ _ e))) hD hk ?_
  rw[show pcs.take (ylO (valsP.map V.int).length)=pcs from List.take_of_length_le (by rw[yfF];decide)] at dk
  exact dk
open TX K2 K3
def TlV (H:Hp)(x:V)(o:Option Tl):Prop:=(o=none/\x=.non)∨∃ tl,o=some tl/\Is H x (tlT tl)
theorem yeu {cs:List Nat}{s:Str}{c:Nat}{H:Hp}{Q:VK}(hs:s=one c)(hc:c < 256)(h:cs.length<=900)(q:∀ p,H p=none->Q (.ref p) (upd H p (.lst ((yan c cs).map tV)))):yjQ (.str (ofL cs)) [.str s] H Q:=by
 subst hs
 refine⟨_,_,rfl,rfl,?_,by rw[yaB];exact ybI (by omega),λp hp=>?_⟩
 ·simp[one,Str.length]
 rw[show(Txt.split (ofL cs) (one c)).map V.str=(yan c cs).map tV by rw[ydZ _ hc,yax,List.map_map];rfl]
 exact q p hp
theorem yfi (x:List Nat):(((List.range 12).filter λi=>decide (ya8 (i+1:Nat)=x)).map λi=>V.int ((i+1:Nat):Int))=(n12 x).toList.map V.int:=by
 rw[← yoA]
 unfold ysK
 rw[List.map_map]
 rfl
noncomputable def gsL:List (List Nat)->List Int
 | r :: _=>(yan 43 r).map grp
 | []=>[]
def yos:Sp:=λvs H Q _=>∃ cs,vs=[tV cs]/\cs.length<=90/\∀ x H',Same H H'->TlV H' x (ycT cs)->Q x H'
theorem yup:OF P w base T.zf 2 yos:=by
 o_head (T.zf.F,sc_zf)
 obtain⟨cs,rfl,hw,q⟩:=h
 refine⟨_,(yad (pst 1 sc_zf.nd (yb0 (pv 0) (yaa yaf yab))) (yad (pst 2 sc_zf.nd (yb0 (xL (pv 1)) (yaa yaf yab))) (yad (yaI (PW.pt (ybE (yap yiQ (yar yaL rfl T.Jc PySem.boot_len (yaa (pv 1) yab)) yah (yat _)) (ybE (yap yeI (yar yaL rfl T.Jc PySem.boot_len (yaa (pv 2) yab)) yah (yat _)) (ybp (yap (yiA hu) (pcm (yod T) hr (yaa (xL (pv 2)) yab)) (yaN yab) (yat _)))))) (yag (yam yaK)) yau) (yad (yaI (yap ycj (xL (pv 2)) (yaw (yaa yaf (yaa yaf (yaa yaf yab)))) rfl) (yag (yam yaK)) yau) (yad (pst 3 sc_zf.nd (xL (pcm (yod T) hr (yaa (xL (pv 2)) yab)))) (yad (pst 4 sc_zf.nd (yaN yab)) (yad (yaI (yap ya2 (yar yaL rfl T.Jc PySem.boot_len (yaa (pv 1) yab)) yah (yat _)) (yag (yb8 (i:=4) sc_zf.nd rfl (Or.inl rfl) (yaR (NB:=["_law_one"]) (cap:=[none]) rfl) rfl (ycf (yb0 (xL (pv 1)) (yaa yaf yab))) (λ_ _ _ _=>pgb 0) (λ_ _ _ _=>yaZ) (λ_ _ _ _=>(ya5 (show IxR _ (ynN K) from ya1) (yay ydr (pcm (yod T) hr (yaa (pv 0) yab)) (yaN (yaa yah yab))) yah (λ_ _=>rfl))))) yau) (yad (yaI (PW.pt (ybE (yap yiQ (yay yb2 (yay yb5 (pv 3) yah) (yaC yen rfl T.Jx ybO (yaa (xL (pv 2)) yab))) yah (yat _)) (ybp (PW.pt (yfW (yap ya2 (yar yaL rfl T.Jc PySem.boot_len (yaa (pv 1) yab)) yah (yat _)) (yet (yap yeI (yar (yk5 rfl) rfl T.QI yhX (yaa (pv 4) yab)) (pv 3) (yat _)))))))) (yag (yam yaK)) yau) (yag (yam (yaw (yaa yaf (yaa (yaw (yaa (pv 3) (yaa (yaC yen rfl T.Jx ybO (yaa (xL (pv 2)) yab)) (yaa (yaC ydl rfl T.Jh ybg (yaa (pv 4) yab)) yab)))) yab))))))))))))),?_⟩
 left
 refine⟨rfl,?_⟩
 left
 refine yeu (c:=58) (by ac_rfl) (by decide) (by omega) λp1 h1=>?_
 have s1:=yae h1 (.lst ((yan 58 cs).map tV))
 have e1:upd H p1 (.lst ((yan 58 cs).map tV)) p1=_:=yac
 generalize upd H p1 _=H1 at s1 e1 ⊢
 obtain⟨h0,r0,es⟩:∃ a u,yan 58 cs=a :: u:=by
  cases z:yan 58 cs with
  | nil=>exact absurd z (ya9 _ _)
  | cons a u=>exact⟨a,u,rfl⟩
 have lp:=ybR 58 cs
 have ln:=ybK 58 cs
 left
 refine ybq (SqL.of e1) (v:=tV h0) (yav (j:=0) (by rw[es];rfl)) ?_
 left
 refine⟨rfl,?_⟩
 left
 refine yeu (c:=47) (by ac_rfl) (by decide) (by have:=lp h0 (by rw[es];simp);omega) λp2 h2=>?_
 have s2:=yae h2 (.lst ((yan 47 h0).map tV))
 have e2:upd H1 p2 (.lst ((yan 47 h0).map tV)) p2=_:=yac
 generalize upd H1 p2 _=H2 at s2 e2 ⊢
 have e12:=s2 _ _ e1
 have s02:=s1.trans s2
 left
 have no:ylL cs=none->∀ H',Same H H'->Q .non H':=λz H' s=>q _ _ s (.inl ⟨by unfold ycT;rw[yie,z];rfl,rfl⟩)
 refine⟨p1,_,rfl,.inl (SqL.of e12),?_⟩
 rw[qM,es,qC]
 left
 refine i_d (λc=>?_) λc=>?_
 ·left
  refine no ?_ _ s02
  unfold ylL
  rw[es]
  match r0,c with
  | [],c=>exact absurd c (by simp)
  | [_],c=>exact absurd c (by simp)
  | _ :: _ :: _,_=>rfl
 have r1:r0.length<=1:=by omega
 have nm:frL h0=none->ylL cs=none:=λz=>by
  unfold ylL
  rw[es]
  match r0,r1 with
  | [],_=>show(frL h0).map _=none;rw[z];rfl
  | [_],_=>show(frL h0).bind _=none;rw[z];rfl
 left
 refine⟨p2,_,rfl,.inl (SqL.of e2),?_⟩
 rw[qM]
 left
 refine yjp (ybr ?_)
 by_cases c2:¬ ((yan 47 h0).length:Int)=2
 ·rw[decide_eq_false c2]
  refine i_T ?_
  left
  refine no (nm ?_) _ s02
  unfold frL
  match z:yan 47 h0 with
  | []=>rfl
  | [_]=>rfl
  | [_,_]=>exact absurd (by rw[z];rfl) c2
  | _ :: _ :: _ :: _=>rfl
 have c2:=Decidable.not_not.mp c2
 rw[decide_eq_true c2]
 refine i_F ?_
 obtain⟨x,y,exy⟩:∃ x y,yan 47 h0=[x,y]:=by
  match z:yan 47 h0 with
  | []=>rw[z] at c2;exact absurd c2 (by simp)
  | [_]=>rw[z] at c2;exact absurd c2 (by simp)
  | [x,y]=>exact⟨x,y,rfl⟩
  | _ :: _ :: _ :: _=>rw[z] at c2;simp only[qC] at c2;omega
 have ef:frL h0=(n12 x).bind λa=>if y∈bots then (if a*96 / yd3 y > 192 then none else some (a,yd3 y)) else none:=by unfold frL;rw[exy]
 left
 refine ybq (SqL.of e2) (v:=tV x) (yav (j:=0) (by rw[exy];rfl)) ?_
 left
 refine⟨x,rfl,λp3 H3 s3 h3 e3=>?_⟩
 rw[yfi] at e3
 left
 refine ybA λp4 h4=>?_
 have s4:=yae h4 (.lst [])
 refine⟨p3,p4,_,rfl,rfl,SqL.of (s4 _ _ e3),SqL.of yac,ybr ?_⟩
 generalize upd H3 p4 (.lst [])=H4 at s4 ⊢
 have s24:=s3.trans s4
 have s04:=s02.trans s24
 cases ea:n12 x with
 | none =>
  refine i_T ?_
  left
  exact no (nm (by rw[ef,ea];rfl)) _ s04
 | some a =>
  rw[ea] at ef
  have ef:frL h0=if y∈bots then (if a*96 / yd3 y > 192 then none else some (a,yd3 y)) else none:=ef
  have a12:=(yh3 ea).2
  refine i_F ?_
  left
  refine ybq (SqL.of (s24 _ _ e2)) (v:=tV y) (yav (j:=1) (by rw[exy];rfl)) ?_
  left
  refine ybA λp5 h5=>?_
  have s5:=yae h5 (.tup (bots.map tV))
  rw[show[V.str (Str.ofString "2"),V.str (Str.ofString "4"),V.str (Str.ofString "8")]=bots.map tV by ac_rfl]
  refine⟨p5,_,rfl,.inr (SqT.of yac),rfl,by ac_rfl,?_⟩
  generalize upd H4 p5 _=H5 at s5 ⊢
  have s25:=s24.trans s5
  have s05:=s02.trans s25
  rw[show inV (tV y) (bots.map tV)=decide (y∈bots) from ykn (ofL y) bots]
  left
  by_cases c3:¬ y∈bots
  ·rw[decide_eq_false c3,if_pos (by rfl)]
   left
   exact no (nm (by rw[ef,if_neg c3])) _ s05
  have c3:=Decidable.not_not.mp c3
  rw[decide_eq_true c3,if_neg (by simp)]
  rw[if_pos c3] at ef
  left
  refine ybq (SqL.of (s25 _ _ e2)) (v:=tV x) (yav (j:=0) (by rw[exy];rfl)) ?_
  left
  refine⟨x,rfl,λp6 H6 s6 h6 e6=>?_⟩
  rw[yfi,ea] at e6
  refine ybq (SqL.of e6) (v:=.int a) (yav (j:=0) rfl) ?_
  left
  refine ybA λp7 h7=>?_
  have s7:=yae h7 (.lst [])
  have e7:upd H6 p7 (.lst []) p7=_:=yac
  generalize upd H6 p7 (.lst [])=H7 at s7 e7 ⊢
  have s27:=s25.trans (s6.trans s7)
  have s07:=s02.trans s27
  refine yaT (ycn (ygk (te:=yo3 _ _ _) (fun σ H'=>∃ G,σ=[some (tV cs),some (.ref p1),some (.ref p2),some (.int a),some (.ref G)]/\Same H7 H'/\H' G=some (.lst ((gsL r0).map V.int))) (λnx' hN=>?_) ?_))
  ·left
   refine⟨p1,_,rfl,.inl (SqL.of (s27 _ _ e12)),?_⟩
   rw[qM,es,qC]
   left
   match r0,r1,es with
   | [],_,_ =>
    refine i_d (λc=>absurd c (by simp)) λ_=>?_
    left
    exact hN _ _ ⟨p7,rfl,Same.refl _,e7⟩
   | [r],_,es =>
    refine i_d (λ_=>?_) λc=>absurd (by simp) c
    left
    refine ybq (SqL.of (s27 _ _ e12)) (v:=tV r) (yav (j:=1) (by rw[es];rfl)) ?_
    left
    refine⟨rfl,?_⟩
    left
    have lr:=lp r (by rw[es];simp)
    refine yeu (c:=43) (by ac_rfl) (by decide) (by omega) λp8 h8=>?_
    have s8:=yae h8 (.lst ((yan 43 r).map tV))
    have e8:upd H7 p8 (.lst ((yan 43 r).map tV)) p8=_:=yac
    generalize upd H7 p8 _=H8 at s8 e8 ⊢
    have l8:=ybK 43 r
    refine⟨p8,rfl,⟨_,SqL.of e8⟩,λD hD=>ycZ (R:=λx w=>x=tV w) (λw=>V.int (grp w)) e8 ⟨by rw[qM],λi hi=>⟨_,by rw[qm,qG hi];rfl,rfl⟩⟩ hD (by omega) ?_ ?_⟩
    ·rintro x u H9 Q9 hm s9 rfl k
     left
     refine⟨u,rfl,λpa Ha sa ha ea'=>?_⟩
     rw[yfi] at ea'
     left
     refine ybA λpb hb=>?_
     have sb:=yae hb (.lst [V.int 99])
     refine⟨pa,pb,_,_,rfl,rfl,sb _ _ ea',yac,ybI (by rw[qM];cases n12 u<;>simp),λpc hc=>?_⟩
     have sc:=yae hc (.lst ((n12 u).toList.map V.int++[V.int 99]))
     refine ybq (SqL.of yac) (v:=.int (grp u)) (yav (j:=0) ?_) ?_
     ·unfold grp
      cases n12 u<;>rfl
     ·exact k _ (sa.trans (sb.trans sc))
    ·rintro H9 s9 hd
     left
     exact hN _ _ ⟨D,rfl,s8.trans s9,by rw[hd];show _=some (HO.lst (((yan 43 r).map grp).map V.int));rw[List.map_map];rfl⟩
  ·rintro σ H8 ⟨G,rfl,s8,eG⟩
   have s28:=s27.trans s8
   have s08:=s02.trans s28
   obtain⟨b0,b1,b2⟩:0 < yd3 y/\yd3 y < 1073741824/\intText? (ofL y)=some (yd3 y):=(show ∀ y∈bots,0 < yd3 y/\yd3 y < 1073741824/\intText? (ofL y)=some (yd3 y) by ac_rfl) y c3
   have ly:(ofL y).length<=640:=(show ∀ y∈bots,(ofL y).length<=640 by ac_rfl) y c3
   have gl:(gsL r0).length<=91:=by
    match r0,es with
    | [],_=>exact Nat.zero_le _
    | r :: _,es =>
     have:=ybK 43 r
     have:=lp r (by rw[es];simp)
     show((yan 43 r).map grp).length<=91
     rw[qM]
     omega
   have gr:∀ n∈gsL r0,0<=n/\n<=1000:=by
    match r0 with
    | []=>exact λn h=>by cases h
    | r :: _ =>
     intro n hn
     obtain⟨w,_,rfl⟩:=List.mem_map.mp hn
     rcases yd9 w with ⟨_,h⟩ | ⟨_,h⟩<;>omega
   dsimp only
   refine ycn (ygk (te:=yo3 _ _ _) (fun σ H'=>σ=[some (tV cs),some (.ref p1),some (.ref p2),some (.int a),some (.ref G)]/\Same H8 H'/\ylL cs=some (a,yd3 y,gsL r0)) (λnx' hN=>?_) ?_)
   ·left
    refine ybq (SqL.of (s28 _ _ e2)) (v:=tV y) (yav (j:=1) (by rw[exy];rfl)) ?_
    refine ydu ⟨_,yd3 y,rfl,ly,b2,?_⟩
    refine ysf ⟨b0,b1⟩ ?_
    left
    refine i_d (λc=>?_) λc=>?_
    ·left
     exact no (nm (by rw[ef,if_pos c])) _ s08
    rw[if_neg c] at ef
    left
    refine⟨p1,_,rfl,.inl (SqL.of (s28 _ _ e12)),?_⟩
    rw[qM,es,qC]
    left
    match r0,r1,es,gl,gr,eG,hN with
    | [],_,es,_,_,_,hN =>
     refine i_d (λc=>absurd c (by simp)) λ_=>?_
     left
     refine hN _ _ ⟨rfl,Same.refl _,?_⟩
     unfold ylL
     rw[es]
     show(frL h0).map _=_
     rw[ef]
     rfl
    | [r],_,es,gl,gr,eG,hN =>
     refine i_d (λ_=>?_) λc=>absurd (by simp) c
     left
     refine⟨G,_,rfl,SqL.of eG,gr,by omega,?_⟩
     left
     refine yjp (ybr ?_)
     by_cases c4:(gsL [r]).sum=a
     ·rw[decide_eq_true c4]
      refine i_F ?_
      left
      refine hN _ _ ⟨rfl,Same.refl _,?_⟩
      unfold ylL
      rw[es]
      show(frL h0).bind _=_
      rw[ef]
      exact if_pos c4
     ·rw[decide_eq_false c4]
      refine i_T ?_
      left
      refine no ?_ _ s08
      unfold ylL
      rw[es]
      show(frL h0).bind _=_
      rw[ef]
      exact if_neg c4
   ·rintro σ H9 ⟨rfl,s9,em⟩
    left
    refine ybq (SqL.of (s9 _ _ (s28 _ _ e2))) (v:=tV y) (yav (j:=1) (by rw[exy];rfl)) ?_
    refine ydu ⟨_,yd3 y,rfl,ly,b2,?_⟩
    left
    refine⟨G,_,rfl,.inl ⟨SqL.of (s9 _ _ eG),λpa ha=>?_⟩⟩
    have sa:=yae ha (.tup ((gsL r0).map V.int))
    have ea':upd H9 pa (.tup ((gsL r0).map V.int)) pa=_:=yac
    generalize upd H9 pa _=Ha at sa ea' ⊢
    left
    refine ybA λpb hb=>?_
    have sb:=yae hb (.tup [.int a,.int (yd3 y),.ref pa])
    have eb:upd Ha pb (.tup [.int a,.int (yd3 y),.ref pa]) pb=_:=yac
    generalize upd Ha pb _=Hb at sb eb ⊢
    left
    refine ybA λpc hc=>?_
    have sc:=yae hc (.tup [tV (txt "metre"),.ref pb])
    have ec:upd Hb pc (.tup [tV (txt "metre"),.ref pb]) pc=_:=yac
    show Q _ (upd Hb pc (.tup [tV (txt "metre"),.ref pb]))
    generalize upd Hb pc _=Hc at sc ec ⊢
    refine q _ _ (s08.trans (s9.trans (sa.trans (sb.trans sc)))) (.inr ⟨.metre a (yd3 y) (gsL r0),by unfold ycT;rw[yie,em];rfl,?_⟩)
    exact ya3 ec (yaj (ycB _) (yaj (ya3 (sc _ _ eb) (yaj (yfS _ _) (yaj (yfS _ _) (yaj (ya3 (sc _ _ (sb _ _ ea')) (yc1 _ _)) (yaz _))))) (yaz _)))
open TX K2 K3
theorem ykG:∀ {b:List Nat} {k:Nat} (h:k < b.length),k<=yaM b->yi5 b[k]=decide (k=yaM b)
 | a :: b,k,h,l=>by
  cases e:yi5 a with
  | true =>
   have t0:yaM (a :: b)=0:=by unfold yaM;rw[List.takeWhile_cons_of_neg (by rw[e];simp)];rfl
   rw[t0] at l ⊢
   have:k=0:=by omega
   subst this
   exact e
  | false =>
   have t1:yaM (a :: b)=yaM b+1:=by unfold yaM;rw[List.takeWhile_cons_of_pos (by rw[e];rfl)];rfl
   rw[t1] at l ⊢
   cases k with
   | zero=>rw[decide_eq_false (by omega)];exact e
   | succ k =>
    have ih:=ykG (b:=b) (k:=k) (by simpa using h) (by omega)
    have h':k < b.length:=by simpa using h
    show yi5 (b[k]'h')=_
    rw[ih,decide_eq_decide]
    omega
theorem yok (b:List Nat):yaM b<=b.length:=by unfold yaM;exact(List.takeWhile_prefix _).length_le
def yoJ:Sp:=λvs H Q _=>∃ cs,vs=[tV cs]/\cs.length<=90/\∀ x H',Same H H'->TlV H' x (yc7 cs)->Q x H'
theorem yuL:OF P w base T.zp 3 yoJ:=by
 o_head (T.zp.F,sc_zp)
 obtain⟨cs,rfl,hw,q⟩:=h
 refine⟨_,(yad (pst 1 sc_zp.nd (yb0 (pv 0) (yaa yaf yab))) (yad (pst 2 sc_zp.nd (pcm (ytC T) hr (yaa (xL (pv 1)) yab))) (yad (yaI (PW.pt (ybE (yap yeI (yar yaL rfl T.Jc PySem.boot_len (yaa (pv 1) yab)) yah (yat _)) (ybp (yap ycu (pv 2) yaK (yat _))))) (yag (yam yaK)) yau) (yad (pst 3 sc_zp.nd (yb0 (xL (pv 1)) (yaa yaf yab))) (yad (yaI (PW.pt (ybE (yap yiQ (yar yaL rfl T.Jc PySem.boot_len (yaa (pv 3) yab)) yah (yat _)) (ybp (PW.pt (yfW (yap ya2 (yar yaL rfl T.Jc PySem.boot_len (yaa (pv 3) yab)) yah (yat _)) (yet (ybf (yaG (pcm (ytR T) hr (yaa (xL (pv 3)) yab)))))))))) (yag (yam yaK)) yau) (yad (pst 4 sc_zp.nd yah) (yad (ymR PassesOwn.never (PW.pt (yfW (yap yfO (pv 4) (pln T.Jc (yaa (xL (pv 3)) yab)) (yat _)) (yet (yap ycl (ya5 ycN (xL (pv 3)) (pv 4) (λ_ _=>rfl)) yaf rfl)))) (yag (pst 4 sc_zp.nd (yay ybv (pv 4) yah)))) (yad (pst 5 sc_zp.nd (yh6 (h1 hu) (yim (ysA T) (hrm hr) rfl T.za.M T.za.F.kp T.za.B .nil ybW) (yaW ybX (xL (pv 3)) ybB (yaX (pv 4))) yaK ⟨rfl,rfl,rfl,rfl⟩)) (yad (ycR (i:=6) sc_zp.nd rfl (Or.inr rfl) (yaW ybX (xL (pv 3)) (yaX (pv 4)) ybB)) (yad (yb8 (i:=7) sc_zp.nd rfl (Or.inl rfl) (yaR (NB:=["_law_sign","_law_tail"]) (cap:=[none,some 6]) rfl) rfl (yeP yaf) (λ_ _ _ _=>pgb 0) (λ_ _ _ _=>yaZ) (λ_ _ _ _=>(yaS ybZ (pv 0) (pv 1) rfl))) (yad (yaI (PW.pt (ybE (yap ycu (pv 5) yaK (yat _)) (ybp (yap yeI (pv 6) (yck yaf (yaa (ybo (yaR (NB:=["_law_sign","_law_tail"]) (cap:=[none,some 6]) rfl) rfl (yeP yaf) (λ_ _ _ _=>pgb 0) (λ_ _ _ _=>(ydW (yap ybZ (pv 0) (pv 1) rfl))) (λ_ _ _ _=>(pv 0))) yab)) (yat _))))) (yag (yam yaK)) yau) (yag (yam (yaw (yaa yaf (yaa (pv 2) (yaa (pv 5) (yaa (xL (pv 7)) (yaa (xL (pv 7)) (yaa (xL (yay ydr (pv 3) (yaN (yaa yaf yab)))) (yaa (xL (pv 7)) (yaa (xL (pv 7)) yab)))))))))))))))))))))),?_⟩
 left
 refine⟨rfl,?_⟩
 left
 refine yeu (c:=47) (by ac_rfl) (by decide) (by omega) λp1 h1=>?_
 have s1:=yae h1 (.lst ((yan 47 cs).map tV))
 have e1:upd H p1 (.lst ((yan 47 cs).map tV)) p1=_:=yac
 generalize upd H p1 _=H1 at s1 e1 ⊢
 obtain⟨h0,r0,es⟩:∃ a u,yan 47 cs=a :: u:=by
  cases z:yan 47 cs with
  | nil=>exact absurd z (ya9 _ _)
  | cons a u=>exact⟨a,u,rfl⟩
 have lp:=ybR 47 cs
 left
 refine ybq (SqL.of e1) (v:=tV h0) (yav (j:=0) (by rw[es];rfl)) ?_
 left
 refine⟨h0,rfl,by have:=lp h0 (by rw[es];simp);omega,λhv H2 s2 hh=>?_⟩
 have e2:=s2 _ _ e1
 have s02:=s1.trans s2
 have no:yei cs=none->∀ H',Same H H'->Q .non H':=λz H' s=>q _ _ s (.inl ⟨by rw[yhD,z],rfl⟩)
 left
 refine⟨p1,_,rfl,.inl (SqL.of e2),?_⟩
 rw[qM]
 left
 refine yjp (ybr ?_)
 by_cases c2:¬ ((yan 47 cs).length:Int)=2
 ·rw[decide_eq_false c2]
  refine i_T ?_
  left
  refine no ?_ _ s02
  unfold yei
  match z:yan 47 cs with
  | []=>rfl
  | [_]=>rfl
  | [_,_]=>exact absurd (by rw[z];rfl) c2
  | _ :: _ :: _ :: _=>rfl
 have c2:=Decidable.not_not.mp c2
 rw[decide_eq_true c2]
 refine i_F ?_
 obtain⟨r,rfl⟩:∃ r,r0=[r]:=by
  rw[es] at c2
  match r0,c2 with
  | [],c2=>exact absurd c2 (by simp)
  | [r],_=>exact⟨r,rfl⟩
  | _ :: _ :: _,c2=>simp only[qC] at c2;omega
 left
 rcases hh with ⟨z,rfl⟩ | ⟨hs,z,ih⟩
 ·refine⟨rfl,_,rfl,?_⟩
  exact no (by unfold yei;rw[es];show(ybk h0).bind _=none;rw[z];rfl) _ s02
 have nv:hv≠.non:=λe=>by
  rw[e,hsT,Is] at ih
  obtain⟨a,xs,e',_⟩:=ih
  cases e'
 refine⟨rfl,ybr ?_⟩
 rw[decide_eq_false nv,if_neg (by simp)]
 have en:yei cs=match yan 58 r with | [b]=>yhk hs b [] | [b,sy]=>if ycH (ofL sy)=true then yhk hs b sy else none | _=>none:=by
  unfold yei
  rw[es]
  show(ybk h0).bind _=_
  rw[z]
  rfl
 left
 refine ybq (SqL.of e2) (v:=tV r) (yav (j:=1) (by rw[es];rfl)) ?_
 left
 refine⟨rfl,?_⟩
 left
 have lr:=lp r (by rw[es];simp)
 refine yeu (c:=58) (by ac_rfl) (by decide) (by omega) λp3 h3=>?_
 have s3:=yae h3 (.lst ((yan 58 r).map tV))
 have e3:upd H2 p3 (.lst ((yan 58 r).map tV)) p3=_:=yac
 generalize upd H2 p3 _=H3 at s3 e3 ⊢
 have s03:=s02.trans s3
 have lq:=ybR 58 r
 obtain⟨b,u0,eb⟩:∃ a u,yan 58 r=a :: u:=by
  cases z:yan 58 r with
  | nil=>exact absurd z (ya9 _ _)
  | cons a u=>exact⟨a,u,rfl⟩
 have lb:=lq b (by rw[eb];simp)
 refine yaT (ycn (ygk (te:=yo3 _ _ _) (fun σ H'=>σ=[some (tV cs),some (.ref p1),some hv,some (.ref p3),none,none,none,none]/\Same H3 H'/\yei cs=yhk hs b (u0.headD [])/\u0.length<=1) (λnx' hN=>?_) ?_))
 ·left
  refine⟨p3,_,rfl,.inl (SqL.of e3),?_⟩
  rw[qM,eb,qC]
  left
  rw[eb] at en
  refine i_d (λc=>?_) λc=>?_
  ·left
   refine no ?_ _ s03
   rw[en]
   match u0,c with
   | [],c=>exact absurd c (by simp)
   | [_],c=>exact absurd c (by simp)
   | _ :: _ :: _,_=>rfl
  left
  refine⟨p3,_,rfl,.inl (SqL.of e3),?_⟩
  rw[qM,eb,qC]
  left
  match u0,c,eb,en,hN with
  | [],_,_,en,hN =>
   refine i_d (λc=>absurd c (by simp)) λ_=>?_
   left
   exact hN _ _ ⟨rfl,Same.refl _,en,Nat.zero_le _⟩
  | _ :: _ :: _,c,_,_,_=>simp only[qC] at c;omega
  | [sy],_,eb,en,hN =>
   refine i_d (λ_=>?_) λc=>absurd (by simp) c
   left
   refine ybq (SqL.of e3) (v:=tV sy) (yav (j:=1) (by rw[eb];rfl)) ?_
   left
   refine⟨sy,rfl,by have:=lq sy (by rw[eb];simp);omega,λH4 s4=>ybr ?_⟩
   have en:yei cs=if ycH (ofL sy)=true then yhk hs b sy else none:=en
   cases y:ycH (ofL sy) with
   | false =>
    rw[y] at en
    refine i_T ?_
    left
    exact no en _ (s03.trans s4)
   | true =>
    rw[y] at en
    refine i_F ?_
    left
    exact hN _ _ ⟨rfl,s4,en,by simp⟩
 ·rintro σ H4 ⟨rfl,s4,ef,u1⟩
  have e4:=s4 _ _ e3
  have s04:=s03.trans s4
  left
  have tl:=yok b
  refine ygk (te:=yn7 _ _) (fun σ H'=>σ=[some (tV cs),some (.ref p1),some hv,some (.ref p3),some (.int (yaM b:Nat)),none,none,none]/\Same H4 H') (λnx' hN=>?_) ?_
  ·refine⟨λm σ H'=>∃ k:Nat,k<=yaM b/\m=yaM b - k/\σ=[some (tV cs),some (.ref p1),some hv,some (.ref p3),some (.int k),none,none,none]/\Same H4 H',⟨_,0,Nat.zero_le _,rfl,rfl,Same.refl _⟩,?_⟩
   rintro m σ H5 ⟨k,hk,rfl,rfl,s5⟩
   have e5:=s5 _ _ e4
   left
   refine ybq (SqL.of e5) (v:=tV b) (yav (j:=0) (by rw[eb];rfl)) ?_
   refine ydu ⟨_,rfl,ofS (by omega),?_⟩
   rw[yaB]
   left
   refine i_d (λc=>?_) λc=>?_
   ·have hk':k < b.length:=by omega
    left
    refine ybq (SqL.of e5) (v:=tV b) (yav (j:=0) (by rw[eb];rfl)) ?_
    left
    refine⟨_,_,b[k],rfl,rfl,ofS (by omega),yav (j:=k) (by rw[yax];exact qG hk'),?_⟩
    refine i_c ⟨_,_,rfl,rfl,ybr ?_⟩
    have hz:(!!(Builtin.Str.occurrences (Str.ofString "~_()") (one b[k]) 0 (Str.ofString "~_()").length 1).isEmpty)=!decide (k=yaM b):=by
     rw[yh0,show(Str.ofString "~_()").cps.toList=[126,95,40,41] by ac_rfl]
     have:=ykG hk' hk
     unfold yi5 at this
     rw[this]
    show if (!!(Builtin.Str.occurrences (Str.ofString "~_()") (one b[k]) 0 (Str.ofString "~_()").length 1).isEmpty)=true then _ else _
    rw[hz]
    by_cases ck:k=yaM b
    ·rw[decide_eq_true ck]
     refine i_F ?_
     exact hN _ _ ⟨by rw[ck],s5⟩
    ·rw[decide_eq_false ck]
     refine i_T ⟨fun σ H'=>σ=[some (tV cs),some (.ref p1),some hv,some (.ref p3),some (.int (k+1:Nat)),none,none,none]/\Same H4 H',fun σ' H' h=>⟨_,?_,k+1,by omega,rfl,h⟩,?_⟩
     ·omega
     ·left
      exact⟨rfl,s5⟩
   ·left
    exact hN _ _ ⟨by rw[show k=yaM b by omega],s5⟩
  ·rintro σ H5 ⟨rfl,s5⟩
   have e5:=s5 _ _ e4
   have s05:=s04.trans s5
   left
   refine ynD ?_
   left
   refine⟨rfl,λD kvs H6 s6 hD eD dk=>⟨D,rfl,.inl ⟨_,.inl eD⟩,?_⟩⟩
   have e6:=s6 _ _ e5
   have s06:=s05.trans s6
   left
   refine ybq (SqL.of e6) (v:=tV b) (yav (j:=0) (by rw[eb];rfl)) ?_
   refine yjt (ybC ?_)
   left
   refine⟨_,rfl,_,rfl,ofS (by omega),?_⟩
   rw[yhP _ tl]
   refine i_c ⟨_,DGet.k (k:=.inr (ofL (b.take (yaM b)))) eD,?_⟩
   obtain⟨pv,epv,hpv⟩:∃ x,(yfs kvs (.inr (ofL (b.take (yaM b))))).getD .non=x/\PcV H6 x (ybm (b.take (yaM b))):=by
    rcases dk.val (b.take (yaM b)) with ⟨f,v⟩ | ⟨p,v,f,ev,ip⟩
    ·rw[yeQ] at f
     exact⟨.non,by rw[v];rfl,.inl ⟨f,rfl⟩⟩
    ·rw[yeQ] at f
     exact⟨v,by rw[ev];rfl,.inr ⟨p,f,ip.same (yep _ _)⟩⟩
   rw[epv]
   left
   refine ybq (SqL.of e6) (v:=tV b) (yav (j:=0) (by rw[eb];rfl)) ?_
   refine ybC ?_
   left
   refine⟨_,rfl,yjt ⟨_,rfl,ofS (by omega),?_⟩⟩
   rw[ydF _ tl]
   have lt:(b.drop (yaM b)).length<=90:=by rw[List.length_drop];omega
   unfold yhk at ef
   generalize b.drop (yaM b)=tw at ef lt ⊢
   left
   have hz:∀ c,(!(Builtin.Str.occurrences (ofL tw) (one c) 0 (ofL tw).length 1).isEmpty)=decide (c∈tw):=λc=>ydC tw c
   refine⟨_,rfl,λF hF=>ydU (z:=Str.ofString "~_()") (λi σ H'=>(∃ o,σ=[o,some (tV tw)])/\Same H6 H'/\H' F=some (.lst (([126,95,40,41].take i).map λc=>V.bl (decide (c∈tw))))) ⟨⟨_,rfl⟩,yae hF _,yac⟩ ?_ ?_⟩
   ·rintro i c σ H7 hx ⟨⟨o,rfl⟩,s7,hd⟩
    rw[show(Str.ofString "~_()").cps.toList=[126,95,40,41] by ac_rfl] at hx
    refine yaT (yc3 (i_T ?_))
    left
    refine⟨_,_,rfl,rfl,?_⟩
    show ∃ ys,H7 F=some (.lst ys)/\ys.length < sizeLine/\_/\_/\upd H7 F (.lst (ys++[V.bl (!(Builtin.Str.occurrences (ofL tw) (one c) 0 (ofL tw).length 1).isEmpty)])) F=_
    rw[hz]
    refine⟨_,hd,?_,⟨_,rfl⟩,ybn hF s7,?_⟩
    ·rw[qM,qT,show[126,95,40,41].length=4 from rfl]
     exact yaD (by omega)
    ·rw[yac,List.take_add_one,hx,Option.toList_some,qP]
     rfl
   ·rintro σ H7 ⟨_,s7,hd⟩
    have hd:H7 F=some (.lst [V.bl (decide (126∈tw)),V.bl (decide (95∈tw)),V.bl (decide (40∈tw)),V.bl (decide (41∈tw))]):=hd
    have e7:=s7 _ _ e6
    have s07:=s06.trans s7
    rcases hpv with ⟨ep,rfl⟩ | ⟨p,ep,ip⟩
    ·rw[ep] at ef
     left
     refine⟨rfl,_,rfl,?_⟩
     exact no ef _ s07
    rw[ep] at ef
    have ef:yei cs=if tw=sgL tw then some (Tl.note hs p (decide (126∈tw)) (decide (95∈tw)) (u0.headD []) (decide (40∈tw)) (decide (41∈tw))) else none:=ef
    have np:pv≠.non:=λe=>by
     rw[e] at ip
     obtain⟨a,e',_⟩:=Is.three ip
     cases e'
    left
    refine⟨rfl,ybr ?_⟩
    rw[decide_eq_false np,if_neg (by simp)]
    left
    refine⟨rfl,?_⟩
    refine ybV ⟨_,rfl,λD2 hD2=>yej (λc=>decide (c∈tw)) hD2 (by ac_rfl) (λc H8 Q8 s8 k=>?_) (λc H8 Q8 k=>⟨_,rfl,k⟩) λH8 s8 hd8=>?_⟩
    ·left
     refine⟨_,_,rfl,rfl,?_⟩
     show ∃ k,V.bl (!(Builtin.Str.occurrences (ofL tw) (one c) 0 (ofL tw).length 1).isEmpty)=V.bl k/\Q8 k H8
     rw[hz]
     exact ybr k
    have eg:(Str.ofString "~_()").cps.toList.filter (λc=>decide (c∈tw))=sgL tw:=by
     unfold sgL
     rw[show(Str.ofString "~_()").cps.toList=[126,95,40,41] by ac_rfl]
    rw[eg] at hd8
    have g4:=ynl tw
    left
    refine yhL _ (by ac_rfl) hd8 (by rw[yfC];omega) ?_
    rw[ydX]
    have s08:=s07.trans s8
    left
    refine⟨rfl,ybr ?_⟩
    by_cases c5:tw=sgL tw
    ·rw[show decide (V.str (ofL tw)=tV (sgL tw))=true from decide_eq_true (by rw[← c5];rfl)]
     refine i_F ?_
     rw[if_pos c5] at ef
     have e8:=s8 _ _ e7
     have hd':=s8 _ _ hd
     left
     refine ynZ 0 (SqL.of hd') ?_
     left
     refine ynZ 1 (SqL.of hd') ?_
     left
     refine ybA λpb hb=>?_
     have sb:=yae hb (.lst [tV []])
     have eb':upd H8 pb (.lst [tV []]) pb=_:=yac
     rw[show[V.str (Str.ofString "")]=[tV []] by ac_rfl]
     generalize upd H8 pb _=H9 at sb eb' ⊢
     have l58:=ybK 58 r
     refine⟨p3,pb,_,_,rfl,rfl,sb _ _ e8,eb',ybI (by rw[qM,qS];omega),λpc hc=>?_⟩
     have sc:=yae hc (.lst ((yan 58 r).map tV++[tV []]))
     have ec:upd H9 pc (.lst ((yan 58 r).map tV++[tV []])) pc=_:=yac
     generalize upd H9 pc _=Ha at sc ec ⊢
     left
     refine ybq (SqL.of ec) (v:=tV (u0.headD [])) (yav (j:=1) ?_) ?_
     ·rw[eb]
      match u0,u1 with
      | [],_=>rfl
      | [_],_=>rfl
     have sx:=sb.trans sc
     have hd2:=sx _ _ hd'
     left
     refine ynZ 2 (SqL.of hd2) ?_
     left
     refine ynZ 3 (SqL.of hd2) ?_
     left
     refine ybA λpd hd3=>?_
     have sd:=yae hd3 (.tup [tV (txt "note"),hv,pv,.bl (decide (126∈tw)),.bl (decide (95∈tw)),tV (u0.headD []),.bl (decide (40∈tw)),.bl (decide (41∈tw))])
     have ed:upd Ha pd (.tup [tV (txt "note"),hv,pv,.bl (decide (126∈tw)),.bl (decide (95∈tw)),tV (u0.headD []),.bl (decide (40∈tw)),.bl (decide (41∈tw))]) pd=_:=yac
     show Q _ (upd Ha pd (.tup [tV (txt "note"),hv,pv,.bl (decide (126∈tw)),.bl (decide (95∈tw)),tV (u0.headD []),.bl (decide (40∈tw)),.bl (decide (41∈tw))]))
     generalize upd Ha pd _=Hd' at sd ed ⊢
     have s6d:=s7.trans (s8.trans (sx.trans sd))
     have s2d:=s3.trans (s4.trans (s5.trans (s6.trans s6d)))
     exact q _ _ (s06.trans s6d) (.inr ⟨.note hs p (decide (126∈tw)) (decide (95∈tw)) (u0.headD []) (decide (40∈tw)) (decide (41∈tw)),by rw[yhD,ef],ya3 ed (yaj (ycB _) (yaj (ih.same s2d) (yaj (ip.same s6d) (yaj (yeE _) (yaj (yeE _) (yaj (ycB _) (yaj (yeE _) (yaj (yeE _) (yaz _)))))))))⟩)
    ·rw[show decide (V.str (ofL tw)=tV (sgL tw))=false from decide_eq_false λz=>c5 (ygc z)]
     refine i_T ?_
     rw[if_neg c5] at ef
     left
     exact no ef _ s08
open TX K2 K3
section
variable {α:Type} {wd:α->List Nat} {f:α->Th}
theorem DKs.merge {H:Hp}{l:List α}(nd:(l.map wd).Nodup):∀ {more:List (Key×V)} {bs:List α} {kvs:List (Key×V)} {m:Nat},DKs wd f H kvs (l.take m)->DKs wd f H more bs->bs <+: l.drop m->DKs wd f H (yb7 kvs more) (l.take (m+bs.length))
 | [],[],kvs,m,d,_,_=>d
 | kv :: more,b :: bs,kvs,m,d,g,pr=>by
  obtain⟨r,hr⟩:=pr
  have e:l[m]?=some b:=by
   have:=congrArg (λz:List α=>z[0]?) hr
   simpa [List.getElem?_drop] using this.symm
  have hm:=(qE e).1
  have e2:l.drop m=b :: l.drop (m+1):=by rw[List.drop_eq_getElem_cons hm,(qE e).2]
  rw[e2,List.cons_append,List.cons.injEq] at hr
  have d1:=DKs.next nd e d g.1.2
  have:=DKs.merge nd d1 g.2 ⟨r,hr.2⟩
  rw[qC,show m+(bs.length+1)=m+1+bs.length by omega]
  show DKs wd f H (yb7 (ydY kvs kv.1 kv.2) more) _
  rw[g.1.1]
  exact this
end
theorem ycX (n:Int):((ycU n).map wrW).Nodup:=by
 have e:(ycU n).map wrW=(ycU 0).map wrW:=by
  unfold ycU
  rw[qP,qP,qP,qP]
  rfl
 rw[e]
 decide +kernel
theorem ynf (n:Int){i:Nat}(h:i < 15):(ycU n)[8+i]?=some (.key ((i:Int) - 7)):=by
 unfold ycU
 rw[List.append_assoc,List.getElem?_append_right (by show 8<=8+i;omega),show 8+i - (ycx n).length=i by show 8+i - 8=i;omega,List.getElem?_append_left (by rw[qM,List.length_range];exact h),qm,List.getElem?_range h]
 rfl
theorem yiV (n:Int){i:Nat}{p:Pc}(h:pcs[i]?=some p):(ycU n)[23+i]?=some (.pause p):=by
 unfold ycU
 have l:(ycx n++((List.range 15).map λi:Nat=>Tl.key ((i:Int) - 7))).length=23:=by rw[qA,qM,List.length_range];rfl
 rw[List.getElem?_append_right (by rw[l];omega),l,show 23+i - 23=i by omega,qm,h]
 rfl
theorem yd2 (n:Int):(ycU n).length=53:=by
 unfold ycU
 rw[qA,qA,qM,qM,List.length_range,yfF]
 rfl
def GrD (n:Int)(D:Addr)(H0:Hp)(m:Nat)(H:Hp):Prop:=SameT D H0 H/\∃ kvs,H D=some (.dK kvs)/\DKs wrW tlT (rm H D) kvs ((ycU n).take m)
theorem yts {td ty:TE}{σ:St}{H:Hp}{Q:VK}(q:ty σ H λy H1=>td σ H1 λx H2=>∃ a o,x=.ref a/\DGet H2 a y o/\Q (.bl o.isSome) H2):ysV ty td σ H Q:=q
theorem yqq {ta:TA}{g:TG}{tb:TS}{D:yeZ}{σ:St}{H:Hp}(q:ta σ H λvs H1=>∃ i j:Int,vs=[.int i,.int j]/\(-(2 ^ 62)<=i/\i < 2 ^ 62/\-(2 ^ 62)<=j/\j < 2 ^ 62)/\yp7 (Itr i (j - i).toNat) g tb D σ H1):ylq (yoK ta) g tb D σ H:=q
noncomputable def yqw:Sp:=λvs H Q _=>∃ cs n,vs=[tV cs,.int n]/\cs.length<=90/\∀ x H',Same H H'->TlV H' x (ydD n cs)->Q x H'
theorem yqo:OF P w base T.Ud 4 yqw:=by
 o_head (T.Ud.F,sc_zap)
 obtain⟨cs,n,rfl,hw,q⟩:=h
 refine⟨_,(yad (pst 2 sc_zap.nd (yfG (ybc yaf (yaw (yaa yaf (yaa (pv 1) yab))) (ybc yaf (yaw (yaa yaf yab)) (ybc yaf (yaw (yaa yaf yab)) (ybc yaf (yaw (yaa yaf (yaa yah yab))) (ybc yaf (yaw (yaa yaf (yaa yah yab))) yfq))))) rfl rfl (List.cons_ne_nil _ _) (Nat.le_of_ble_eq_true rfl))) (yad (ych (yi1 (pv 2) (yaa (yfG (ybc yaf (yaw (yaa yaf yab)) (ybc yaf (yaw (yaa yaf yab)) (ybc yaf (yaw (yaa yaf yab)) yfq))) rfl rfl (List.cons_ne_nil _ _) (Nat.le_of_ble_eq_true rfl)) yab))) (yad (ycd PassesOwn.never rfl (yha rfl T.Jr (yaa (ye9 ydh yah) (yaa yah yab))) (pgs 3 sc_zap.nd) (yag (yht (h1 hu) (pv 2) (yay yaq yaf (yaC yaU rfl T.Jq ybb (yaa (pv 3) yab))) (yaw (yaa yaf (yaa (pv 3) yab))) rfl))) (yad (ycd PassesOwn.never rfl (ymQ (yim (ysA T) (hrm hr) rfl T.za.M T.za.F.kp T.za.B .nil ybW) ⟨rfl,rfl,rfl,rfl⟩) (ygm (n:=2) rfl (ybH (pgs 4 sc_zap.nd) (ybH (pgs 5 sc_zap.nd) yem))) (yag (yht (h1 hu) (pv 2) (yay yaq yaf (pv 4)) (yaw (yaa yaf (yaa (pv 5) yab))) rfl))) (yad (yaI (yqH (yqb (h1 hu) (pv 0) (pv 2)) rfl) (yag (yam (yjV (h1 hu) (pv 2) (pv 0) (λ_ _=>rfl)))) yau) (yag (yam (yaJ (yap ya2 (yaW ybX (pv 0) ybB (yaX yah)) yaf (yat _)) (pcm (yup T) hr (yaa (yaW ybX (pv 0) (yaX yah) ybB) yab)) (pcm (yuL T) hr (yaa (pv 0) yab)))))))))),?_⟩
 left
 refine yjT λD hD=>yn4 ?_
 have n0:∀ b u,H b=some u->upd H D (.dK []) b=some u:=yae hD _
 have eD:upd H D (.dK []) D=_:=yac
 generalize upd H D (.dK [])=H0 at n0 eD ⊢
 left
 refine⟨by show 2<=sizeLine;decide,λa1 g1=>yn4 ?_⟩
 have s1:=yae g1 (.tup [tV (txt "whole"),.int n])
 have e1:upd H0 a1 (.tup [tV (txt "whole"),.int n]) a1=_:=yac
 show tC _ _ (upd H0 a1 (.tup [tV (txt "whole"),.int n])) _
 generalize upd H0 a1 _=H1 at s1 e1 ⊢
 left
 refine⟨by show 1<=sizeLine;decide,λa2 g2=>yn4 ?_⟩
 have s2:=yae g2 (.tup [tV (txt "begin")])
 have e2:upd H1 a2 (.tup [tV (txt "begin")]) a2=_:=yac
 show tC _ _ (upd H1 a2 (.tup [tV (txt "begin")])) _
 generalize upd H1 a2 _=H2 at s2 e2 ⊢
 left
 refine⟨by show 1<=sizeLine;decide,λa3 g3=>yn4 ?_⟩
 have s3:=yae g3 (.tup [tV (txt "end")])
 have e3:upd H2 a3 (.tup [tV (txt "end")]) a3=_:=yac
 show tC _ _ (upd H2 a3 (.tup [tV (txt "end")])) _
 generalize upd H2 a3 _=H3 at s3 e3 ⊢
 left
 refine⟨by show 2<=sizeLine;decide,λa4 g4=>yn4 ?_⟩
 have s4:=yae g4 (.tup [tV (txt "ending"),.int 1])
 have e4:upd H3 a4 (.tup [tV (txt "ending"),.int 1]) a4=_:=yac
 show tC _ _ (upd H3 a4 (.tup [tV (txt "ending"),.int 1])) _
 generalize upd H3 a4 _=H4 at s4 e4 ⊢
 left
 refine⟨by show 2<=sizeLine;decide,λa5 g5=>yu4 ?_⟩
 have s5:=yae g5 (.tup [tV (txt "ending"),.int 2])
 have e5:upd H4 a5 (.tup [tV (txt "ending"),.int 2]) a5=_:=yac
 have m1:a1≠D:=(yak eD g1).symm
 have m2:a2≠D:=(yak (s1 _ _ eD) g2).symm
 have m3:a3≠D:=(yak (s2 _ _ (s1 _ _ eD)) g3).symm
 have m4:a4≠D:=(yak (s3 _ _ (s2 _ _ (s1 _ _ eD))) g4).symm
 have m5:a5≠D:=(yak (s4 _ _ (s3 _ _ (s2 _ _ (s1 _ _ eD)))) g5).symm
 refine⟨s5 _ _ (s4 _ _ (s3 _ _ (s2 _ _ (s1 _ _ eD)))),[(.inr (Str.ofString "R"),.ref a1),(.inr (Str.ofString "|:"),.ref a2),(.inr (Str.ofString ":|"),.ref a3),(.inr (Str.ofString "[1"),.ref a4),(.inr (Str.ofString "[2"),.ref a5)],rfl,by show 5<=15;decide,?_⟩
 show ybt _ _ _ (upd (upd H4 a5 (.tup [tV (txt "ending"),.int 2])) D _) _
 generalize upd H4 a5 _=H5 at s5 e5 ⊢
 have gr6:GrD n D H 5 (upd H5 D (.dK (yb7 [] [(.inr (Str.ofString "R"),.ref a1),(.inr (Str.ofString "|:"),.ref a2),(.inr (Str.ofString ":|"),.ref a3),(.inr (Str.ofString "[1"),.ref a4),(.inr (Str.ofString "[2"),.ref a5)]))):=by
  refine⟨λb u nb e=>by rw[yas nb];exact s5 _ _ (s4 _ _ (s3 _ _ (s2 _ _ (s1 _ _ (n0 _ _ e))))),_,yac,?_⟩
  refine DKs.merge (l:=ycU n) (bs:=[.whole n,.bare .be,.bare .en,.ending 1,.ending 2]) (m:=0) (ycX n) trivial ⟨⟨?_,?_⟩,⟨?_,?_⟩,⟨?_,?_⟩,⟨?_,?_⟩,⟨?_,?_⟩,trivial⟩ ⟨_,rfl⟩
  ·show Sum.inr (Str.ofString "R")=Sum.inr (ofL (txt "R"));decide +kernel
  ·exact ya3 (by rw[ybQ m1,yas m1];exact s5 _ _ (s4 _ _ (s3 _ _ (s2 _ _ e1)))) (yaj (ycB _) (yaj (yfS _ _) (yaz _)))
  ·show(Sum.inr (Str.ofString "|:"):Key)=Sum.inr (ofL (wrW (Tl.bare .be)));decide +kernel
  ·exact ya3 (by rw[ybQ m2,yas m2];exact s5 _ _ (s4 _ _ (s3 _ _ e2))) (yaj (ycB _) (yaz _))
  ·show(Sum.inr (Str.ofString ":|"):Key)=Sum.inr (ofL (wrW (Tl.bare .en)));decide +kernel
  ·exact ya3 (by rw[ybQ m3,yas m3];exact s5 _ _ (s4 _ _ e3)) (yaj (ycB _) (yaz _))
  ·show(Sum.inr (Str.ofString "[1"):Key)=Sum.inr (ofL (wrW (Tl.ending 1)));decide +kernel
  ·exact ya3 (by rw[ybQ m4,yas m4];exact s5 _ _ e4) (yaj (ycB _) (yaj (yfS _ _) (yaz _)))
  ·show(Sum.inr (Str.ofString "[2"):Key)=Sum.inr (ofL (wrW (Tl.ending 2)));decide +kernel
  ·exact ya3 (by rw[ybQ m5,yas m5];exact e5) (yaj (ycB _) (yaj (yfS _ _) (yaz _)))
 generalize upd H5 D _=H6 at gr6 ⊢
 refine yaT (ycn (ygk (te:=yjo _) (fun σ H'=>σ=[some (tV cs),some (.int n),some (.ref D),none,none,none]/\GrD n D H 8 H') (λnx' hN=>?_) ?_))
 ·obtain⟨t6,k6,e6,d6⟩:=gr6
  left
  refine⟨.inr (.inr (.inl ⟨rfl,.inl ⟨_,e6⟩⟩)),?_⟩
  refine ybV (yjT λE hE=>yn4 ?_)
  have nE:E≠D:=(yak e6 hE).symm
  have n7:=yae hE (.dK [])
  have eE:upd H6 E (.dK []) E=_:=yac
  generalize upd H6 E (.dK [])=H7 at n7 eE ⊢
  left
  refine⟨by show 1<=sizeLine;decide,λa1 g1=>yn4 ?_⟩
  have s1:=yae g1 (.tup [tV (txt "close")])
  have e1:upd H7 a1 (.tup [tV (txt "close")]) a1=_:=yac
  show tC _ _ (upd H7 a1 (.tup [tV (txt "close")])) _
  generalize upd H7 a1 _=H8 at s1 e1 ⊢
  left
  refine⟨by show 1<=sizeLine;decide,λa2 g2=>yn4 ?_⟩
  have s2:=yae g2 (.tup [tV (txt "fine")])
  have e2:upd H8 a2 (.tup [tV (txt "fine")]) a2=_:=yac
  show tC _ _ (upd H8 a2 (.tup [tV (txt "fine")])) _
  generalize upd H8 a2 _=H9 at s2 e2 ⊢
  left
  refine⟨by show 1<=sizeLine;decide,λa3 g3=>yu4 ?_⟩
  have s3:=yae g3 (.tup [tV (txt "back")])
  have e3:upd H9 a3 (.tup [tV (txt "back")]) a3=_:=yac
  have m1:a1≠D:=(yak (n7 _ _ e6) g1).symm
  have m2:a2≠D:=(yak (s1 _ _ (n7 _ _ e6)) g2).symm
  have m3:a3≠D:=(yak (s2 _ _ (s1 _ _ (n7 _ _ e6))) g3).symm
  have o1:a1≠E:=(yak eE g1).symm
  have o2:a2≠E:=(yak (s1 _ _ eE) g2).symm
  have o3:a3≠E:=(yak (s2 _ _ (s1 _ _ eE)) g3).symm
  refine⟨s3 _ _ (s2 _ _ (s1 _ _ eE)),[(.inr (Str.ofString "]"),.ref a1),(.inr (Str.ofString "fine"),.ref a2),(.inr (Str.ofString "back"),.ref a3)],rfl,by show 3<=15;decide,?_⟩
  show ylc _ (upd (upd H9 a3 (.tup [tV (txt "back")])) E _) _
  generalize upd H9 a3 _=Ha at s3 e3 ⊢
  have sA:=n7.trans (s1.trans (s2.trans s3))
  have l6:=d6.len
  rw[qT,yd2] at l6
  have dE:∀ Hx:Hp,(∀ b u,b≠D->b≠E->Ha b=some u->Hx b=some u)->DKs wrW tlT (rm Hx D) (yb7 [] [(.inr (Str.ofString "]"),.ref a1),(.inr (Str.ofString "fine"),.ref a2),(.inr (Str.ofString "back"),.ref a3)]) [.bare .cl,.bare .fi,.bare .ba]:=λHx hx=>by
   refine DKs.merge (wd:=wrW) (f:=tlT) (l:=[Tl.bare .cl,Tl.bare .fi,Tl.bare .ba]) (bs:=[Tl.bare .cl,Tl.bare .fi,Tl.bare .ba]) (m:=0) (by ac_rfl) trivial ⟨⟨?_,?_⟩,⟨?_,?_⟩,⟨?_,?_⟩,trivial⟩ ⟨_,rfl⟩
   ·show(Sum.inr (Str.ofString "]"):Key)=Sum.inr (ofL (wrW (Tl.bare .cl)));decide +kernel
   ·exact ya3 (by rw[ybQ m1];exact hx _ _ m1 o1 (s3 _ _ (s2 _ _ e1))) (yaj (ycB _) (yaz _))
   ·show(Sum.inr (Str.ofString "fine"):Key)=Sum.inr (ofL (wrW (Tl.bare .fi)));decide +kernel
   ·exact ya3 (by rw[ybQ m2];exact hx _ _ m2 o2 (s3 _ _ e2)) (yaj (ycB _) (yaz _))
   ·show(Sum.inr (Str.ofString "back"):Key)=Sum.inr (ofL (wrW (Tl.bare .ba)));decide +kernel
   ·exact ya3 (by rw[ybQ m3];exact hx _ _ m3 o3 e3) (yaj (ycB _) (yaz _))
  have l3:=(dE Ha λb u _ _ e=>e).len
  generalize yb7 [] _=kE at dE l3 ⊢
  have l3:kE.length=3:=l3
  refine ydu ⟨D,E,k6,kE,rfl,rfl,Ne.symm nE,by rw[yas (Ne.symm nE)];exact sA _ _ e6,yac,ybI (by omega),?_⟩
  refine hN _ _ ⟨rfl,λb u nb e=>?_,_,yac,?_⟩
  ·have:=t6 b u nb e
   rw[yas nb,yas (yak this hE)]
   exact sA _ _ this
  ·refine DKs.merge (l:=ycU n) (bs:=[.bare .cl,.bare .fi,.bare .ba]) (m:=5) (ycX n) (d6.same λb u e=>?_) (dE _ λb u n1 n2 e=>?_) ⟨_,rfl⟩
   ·obtain⟨nb,e⟩:=yb6 e
    rw[ybQ nb,yas nb,yas (yak e hE)]
    exact sA _ _ e
   ·rw[yas n1,yas n2];exact e
 ·rintro σ H7 ⟨rfl,gr7⟩
  dsimp only
  refine ycn (ygk (te:=ylq _ _ _) (fun σ H'=>(∃ o,σ=[some (tV cs),some (.int n),some (.ref D),o,none,none])/\GrD n D H 23 H') (λnx' hN=>?_) ?_)
  ·refine yqq ?_
   left
   refine⟨-7,8,rfl,by decide,?_⟩
   refine yc0 (lo:=-7) (n:=15) (λi σ H'=>(∃ o,σ=[some (tV cs),some (.int n),some (.ref D),o,none,none])/\GrD n D H (8+i) H') ⟨⟨_,rfl⟩,gr7⟩ ?_ ?_
   ·rintro i σ H' N hN' hi ⟨⟨o,rfl⟩,t8,kvs,hk,dk⟩
    have at':=ynf n hi
    have lk:kvs.length<=53:=by
     have:=dk.len
     rw[qT,yd2] at this
     omega
    rw[show(-7:Int)+(i:Int)=(i:Int) - 7 by omega]
    refine yaT (ykv ?_)
    left
    refine ybA λa1 g1=>?_
    have s1:=yae g1 (.tup [tV (txt "key"),.int ((i:Int) - 7)])
    have e1:upd H' a1 (.tup [tV (txt "key"),.int ((i:Int) - 7)]) a1=_:=yac
    have m1:a1≠D:=(yak hk g1).symm
    show yjr _ _ (upd H' a1 (.tup [tV (txt "key"),.int ((i:Int) - 7)])) _
    generalize upd H' a1 _=H8 at s1 e1 ⊢
    left
    refine⟨_,rfl,yhA ⟨by omega,by omega⟩,?_⟩
    rw[ybJ]
    have li:=ybl (i:=(i:Int) - 7) ⟨by omega,by omega⟩
    refine ybe (a:=txt "k") (b:=ya8 ((i:Int) - 7)) rfl rfl (by rw[show(txt "k").length=1 by ac_rfl];omega) ?_
    rw[yaO]
    refine⟨D,_,rfl,DPut.k (k:=.inr (ofL (wrW (.key ((i:Int) - 7))))) (s1 _ _ hk) (yaD (by omega)),?_⟩
    refine hN' _ _ ⟨⟨_,rfl⟩,λc u n e=>by rw[yas n];exact s1 _ _ (t8 c u n e),_,yac,?_⟩
    have up:Same (rm H' D) (rm (upd H8 D (.dK (ydY kvs (.inr (ofL (wrW (.key ((i:Int) - 7))))) (.ref a1)))) D):=λc u e=>by
     obtain⟨n,e⟩:=yb6 e
     rw[ybQ n,yas n]
     exact s1 _ _ e
    exact DKs.next (a:=Tl.key ((i:Int) - 7)) (ycX n) at' (dk.same up) (ya3 (by rw[ybQ m1,yas m1];exact e1) (yaj (ycB _) (yaj (yfS _ _) (yaz _))))
   ·rintro σ H' ⟨⟨o,rfl⟩,gr⟩
    exact hN _ _ ⟨⟨_,rfl⟩,gr⟩
  ·rintro σ H8 ⟨⟨o3,rfl⟩,gr8⟩
   dsimp only
   refine ycn (ygk (te:=ylq _ _ _) (fun σ H'=>(∃ o o4 o5,σ=[some (tV cs),some (.int n),some (.ref D),o,o4,o5])/\GrD n D H 53 H') (λnx' hN=>?_) ?_)
   ·refine⟨rfl,λD2 k2 H9 s9 hD2 e9 dk2=>⟨D2,k2,rfl,e9,λo=>?_⟩⟩
    obtain⟨t8,kvs,hk,dk⟩:=gr8
    have n2:D2≠D:=(yak hk hD2).symm
    have hk9:=s9 _ _ hk
    have fz:∀ b u,b≠D2->H9 b=some u->upd H9 D2 (.frz o (.dK k2)) b=some u:=λb u nb e=>by rw[yas nb];exact e
    have ef:upd H9 D2 (.frz o (.dK k2)) D2=_:=yac
    have l2:k2.length=30:=by rw[dk2.len,yfF]
    generalize upd H9 D2 _=Ha at fz ef ⊢
    have s8a:∀ b u,H8 b=some u->Ha b=some u:=λb u e=>fz b u (yak e hD2) (s9 _ _ e)
    have grA:GrD n D Ha 23 Ha:=⟨SameT.refl,kvs,s8a _ _ hk,dk.same (yhN λb u _ z=>s8a b u z)⟩
    refine ykr (kvs:=k2) (λi σ H'=>(∃ o o4 o5,σ=[some (tV cs),some (.int n),some (.ref D),o,o4,o5])/\GrD n D Ha (23+i) H') ⟨⟨_,_,_,rfl⟩,grA⟩ (λi σ H' h=>h.2.1 _ _ n2 ef) ?_ ?_
    ·rintro i k v p σ H' hx ⟨⟨o,o4,o5,rfl⟩,tA,kvs',hk',dk'⟩ hp
     obtain⟨pc,epc,rfl,iv⟩:=dk2.at hx
     obtain⟨av,rfl,eav⟩:=Is.three iv
     obtain⟨na,eav⟩:=yb6 eav
     have nD:av≠D:=λz=>by rw[z,hk9] at eav;cases eav
     have eav':=tA _ _ nD (fz _ _ na eav)
     have at':=yiV n epc
     have lk:kvs'.length<=53:=by
      have:=dk'.len
      rw[qT,yd2] at this
      omega
     have s1:=yae hp (.tup [kV (.inr (ofL (pcW pc))),.ref av])
     refine ypk (SqT.of yac) ?_
     generalize upd H' p _=Hb at s1 ⊢
     refine ykv ?_
     left
     refine ybA λa1 g1=>?_
     have s2:=yae g1 (.tup [tV (txt "pause"),.ref av])
     have e2:upd Hb a1 (.tup [tV (txt "pause"),.ref av]) a1=_:=yac
     have m1:a1≠D:=(yak (s1 _ _ hk') g1).symm
     show yjr _ _ (upd Hb a1 (.tup [tV (txt "pause"),.ref av])) _
     generalize upd Hb a1 _=Hc at s2 e2 ⊢
     have s12:=s1.trans s2
     left
     have lp:=yc6 (List.mem_of_getElem? epc)
     refine ybe (a:=txt "r/") (b:=pcW pc) rfl rfl (by rw[show(txt "r/").length=2 by ac_rfl];omega) ?_
     rw[yaO]
     refine⟨D,_,rfl,DPut.k (k:=.inr (ofL (wrW (.pause pc)))) (s12 _ _ hk') (yaD (by omega)),?_⟩
     refine⟨⟨_,_,_,rfl⟩,λc u n e=>by rw[yas n];exact s12 _ _ (tA c u n e),_,yac,?_⟩
     have up:Same (rm H' D) (rm (upd Hc D (.dK (ydY kvs' (.inr (ofL (wrW (.pause pc)))) (.ref a1)))) D):=λc u e=>by
      obtain⟨n,e⟩:=yb6 e
      rw[ybQ n,yas n]
      exact s12 _ _ e
     exact DKs.next (a:=Tl.pause pc) (ycX n) at' (dk'.same up) (ya3 (by rw[ybQ m1,yas m1];exact e2) (yaj (ycB _) (yaj (yiP (by rw[ybQ nD,yas nD];exact s12 _ _ eav')) (yaz _))))
    ·rintro σ H' ⟨⟨o,o4,o5,rfl⟩,tA,kvs',hk',dk'⟩
     rw[l2] at dk'
     exact hN _ _ ⟨⟨_,_,_,rfl⟩,λb u nb e=>tA b u nb (s8a _ _ (t8 b u nb e)),kvs',hk',dk'⟩
   ·rintro σ H9 ⟨⟨o,o4,o5,rfl⟩,t9,kvs,hk,dk⟩
    have s9:Same H H9:=λb u e=>t9 b u (yak e hD) e
    rw[show(ycU n).take 53=ycU n from List.take_of_length_le (by rw[yd2];decide)] at dk
    have sd:=yla n cs
    left
    refine yts ?_
    left
    refine⟨D,_,rfl,DGet.k (k:=.inr (ofL cs)) hk,ybr ?_⟩
    rcases dk.val cs with ⟨f,ev⟩ | ⟨tl,v,f,ev,iv⟩
    ·rw[f] at sd
     have sd:ydD n cs=if cs.head?=some 109 then ycT (cs.drop 1) else yc7 cs:=sd
     rw[ev]
     refine i_F ?_
     left
     refine yjt (ybC ?_)
     left
     refine⟨_,rfl,_,rfl,ofS (by omega),?_⟩
     have e1:Txt.slice (ofL cs) none (some 1)=ofL (cs.take 1):=by
      cases cs with
      | nil=>decide +kernel
      | cons a r=>exact yhP (a :: r) (b:=1) (by simp)
     rw[e1]
     left
     refine⟨rfl,ybr ?_⟩
     have ed:decide (V.str (ofL (cs.take 1))=V.str (Str.ofString "m"))=decide (cs.head?=some 109):=by
      rw[show V.str (Str.ofString "m")=tV [109] by ac_rfl,decide_eq_decide]
      constructor
      ·intro h
       have h:=ygc h
       cases cs with
       | nil=>cases h
       | cons a r=>cases h;rfl
      ·intro h
       cases cs with
       | nil=>cases h
       | cons a r=>cases h;rfl
     rw[ed]
     refine i_d (λc=>?_) λc=>?_
     ·left
      refine ybC (i_c ⟨1,rfl,yjt ⟨_,rfl,ofS (by omega),?_⟩⟩)
      have l1:1<=cs.length:=by cases cs with | nil=>cases c | cons _ _=>simp
      rw[show(1:Int)=((1:Nat):Int) from rfl,ydF _ l1]
      left
      exact⟨_,rfl,by rw[List.length_drop];omega,λx H' s h=>q x H' (s9.trans s) (by rw[sd,if_pos c];exact h)⟩
     ·left
      exact⟨_,rfl,hw,λx H' s h=>q x H' (s9.trans s) (by rw[sd,if_neg c];exact h)⟩
    ·rw[f] at sd
     rw[ev]
     refine i_T ?_
     left
     exact⟨D,v,rfl,by rw[← ev];exact DGet.k (k:=.inr (ofL cs)) hk,q _ _ s9 (.inr ⟨tl,sd,iv.same (yep _ _)⟩)⟩
open TX K2 K3
theorem ygX (x:Str)(l u:Option Int):(Txt.slice x l u).length<=(Builtin.Str.strSliceIndices l u 1 x.length).length:=by
 unfold Txt.slice
 split
 ·next h =>
  simp only[BEq.rfl,Bool.true_and,beq_iff_eq] at h
  rw[h]
  exact qR _
 ·show(List.filterMap _ (Builtin.Str.strSliceIndices l u 1 x.length)).toArray.size<=_
  rw[qZ]
  exact List.length_filterMap_le _ _
theorem ypu {a b:Int}(h:0<=a)(hb:b=a+1)(n:Nat):(Builtin.Str.strSliceIndices (some a) (some b) 1 n).length<=1:=by
 subst hb
 unfold Builtin.Str.strSliceIndices sliceRange
 simp only[show(1:Int) > 0 by decide,if_true,qM,List.length_range]
 (repeat' split)<;>(try simp only[Int.ediv_one])<;>omega
theorem ymP {a:Int}(h:0<=a)(n:Nat):(Builtin.Str.strSliceIndices (some a) none 1 n).length<=n - a.toNat:=by
 unfold Builtin.Str.strSliceIndices sliceRange
 simp only[show(1:Int) > 0 by decide,if_true,qM,List.length_range]
 (repeat' split)<;>(try simp only[Int.ediv_one])<;>omega
theorem yns (l:List Nat){a b:Int}(h:0<=a)(hb:b=a+1):(Txt.slice (ofL l) (some a) (some b)).length<=1:=Nat.le_trans (ygX _ _ _) (ypu h hb _)
theorem yoO (l:List Nat){a:Int}(h:0<=a):(Txt.slice (ofL l) (some a) none).length<=l.length - a.toNat:=by
 have:=Nat.le_trans (ygX (ofL l) (some a) none) (ymP h _)
 rwa [yaB] at this
def ymS (K:qF):Sp:=λvs H Q _=>∃ (a tp:Addr) (ns:List Int) (N:Nat) (cs:List Nat),vs=[.ref a,.ref tp,tV cs]/\Dr K a tp ns H N/\N<=90000/\cs.length<=80/\∀ (wd:List Nat) (H':Hp),wd.length<=90->SameT tp H H'->Dr K a tp ns H' (N+7)->Q (tV wd) H'
theorem ytB:OF P w base T.zR 2 (ymS K):=by
 o_head (T.zR.F,sc_zR)
 obtain⟨a,tp,ns,N,cs,rfl,dr,hN,hw,q⟩:=h
 refine⟨_,(yad (pst 3 sc_zR.nd yaf) (yad (ycd PassesOwn.never rfl (ycb rfl T.Jr (yaa (yay ybv yah (yay yb2 (pcm (ybj T) hr (yaa (pv 0) (yaa (pv 1) (yaa yah yab)))) yah)) yab)) (pgs 4 sc_zR.nd) (yad (pst 5 sc_zR.nd (pcm (ybj T) hr (yaa (pv 0) (yaa (pv 1) (yaa (yay ybv (pln T.Jc (yaa (pv 2) yab)) yah) yab))))) (yad (pst 6 sc_zR.nd (ya5 ycN (pv 3) (pcm (ybj T) hr (yaa (pv 0) (yaa (pv 1) (yaa (pln T.Jc (yaa (pv 3) yab)) yab)))) (λ_ _=>rfl))) (yad (pst 7 sc_zR.nd (pcm (ybj T) hr (yaa (pv 0) (yaa (pv 1) (yaa yah yab))))) (yad (pst 8 sc_zR.nd (ya5 ya1 (yaN (yaa (pv 6) (yaa yaf (yaa (pv 6) (yaa (yay yaq (yaW ybX (pv 2) (yaX (yay ybv (pv 5) yah)) (yaX (yay ybv (pv 5) yah))) (yaW ybX (pv 2) (yaX (pv 5)) (yaX (yay ybv (pv 5) yah)))) yab))))) (pv 7) (λ_ _=>rfl))) (yag (pst 2 sc_zR.nd (yay yaq (yay yaq (yaW ybX (pv 2) ybB (yaX (pv 5))) (pv 8)) (yaW ybX (pv 2) (yaX (yay ybv (pv 5) (ya5 ya1 (yaN (yaa yah (yaa yah (yaa yah (yaa yah yab))))) (pv 7) (λ_ _=>rfl)))) ybB))))))))) (yag (yam (pv 2))))),?_⟩
 left
 refine⟨a,tp,ns,N,5,rfl,dr,by omega,by decide,λv H1 v0 v1 s1 d1=>?_⟩
 left
 refine⟨1+v / 4,rfl,by omega,by omega,yc0 (λi σ H'=>(∃ wd o1 o2 o3 o4 o5,σ=[some (.ref a),some (.ref tp),some (tV wd),some (.str (Str.ofString "cdefgab0123456789=+-,/.'~_():rkmR|[]find x")),o1,o2,o3,o4,o5]/\wd.length<=80+2*i)/\SameT tp H H'/\Dr K a tp ns H' (N+1+3*i)) ⟨⟨cs,_,_,_,_,_,rfl,hw⟩,s1,d1⟩ ?_ ?_⟩
 ·rintro i σ H2 N' hN' hi ⟨⟨wd,o1,o2,o3,o4,o5,rfl,lw⟩,s2,d2⟩
  have hi:i < 2:=by omega
  refine yaT ?_
  left
  refine⟨_,rfl,ofS (by omega),?_⟩
  rw[yaB]
  left
  refine⟨a,tp,ns,_,(wd.length:Int)+1,rfl,d2,by omega,by omega,λat' H3 at0 at1 s3 d3=>?_⟩
  left
  refine⟨_,rfl,by ac_rfl,?_⟩
  left
  refine⟨a,tp,ns,_,_,rfl,d3,by omega,by ac_rfl,λu H4 u0 u1 s4 d4=>?_⟩
  refine⟨_,_,_,rfl,rfl,by ac_rfl,yrN u0 (by rw[yaE];exact u1),?_⟩
  generalize (Str.ofString "cdefgab0123456789=+-,/.'~_():rkmR|[]find x").cps.toList[u.toNat]'_=c
  left
  refine⟨a,tp,ns,_,4,rfl,d4,by omega,by decide,λwy H5 w0 w1 s5 d5=>?_⟩
  left
  refine ybC ?_
  left
  refine⟨_,rfl,ybC ?_⟩
  left
  refine⟨_,rfl,_,rfl,ofS (by omega),?_⟩
  obtain⟨x1,ex1,l1⟩:∃ x1:List Nat,Txt.slice (ofL wd) (some (at'+1)) (some (at'+2))=ofL x1/\x1.length<=1:=⟨_,(ycL _).symm,by rw[yaE];exact yns wd (by omega) (by omega)⟩
  rw[ex1]
  left
  refine ybC ?_
  left
  refine⟨_,rfl,ybC ?_⟩
  left
  refine⟨_,rfl,_,rfl,ofS (by omega),?_⟩
  obtain⟨x2,ex2,l2⟩:∃ x2:List Nat,Txt.slice (ofL wd) (some at') (some (at'+1))=ofL x2/\x2.length<=1:=⟨_,(ycL _).symm,by rw[yaE];exact yns wd (by omega) (by omega)⟩
  rw[ex2]
  refine ybe (a:=x1) (b:=x2) rfl rfl (by omega) ?_
  rw[yaO]
  left
  refine ybA λp6 h6=>?_
  have s6:=yae h6 (.lst [tV [c],tV [],tV [c],tV (x1++x2)])
  have e6:upd H5 p6 (.lst [tV [c],tV [],tV [c],tV (x1++x2)]) p6=_:=yac
  rw[show V.str (Str.ofString "")=tV [] by ac_rfl]
  show yjr _ _ (upd H5 p6 (.lst [tV [c],tV [],tV [c],tV (x1++x2)])) _
  generalize upd H5 p6 _=H6 at s6 e6 ⊢
  have d6:=d5.same s6
  left
  obtain⟨pt,ept,lpt⟩:∃ pt:List Nat,atI [tV [c],tV [],tV [c],tV (x1++x2)] wy=some (tV pt)/\pt.length<=2:=by
   have:wy=0∨wy=1∨wy=2∨wy=3:=by omega
   rcases this with rfl | rfl | rfl | rfl
   ·exact⟨[c],yav (j:=0) rfl,by simp⟩
   ·exact⟨[],yav (j:=1) rfl,by simp⟩
   ·exact⟨[c],yav (j:=2) rfl,by simp⟩
   ·exact⟨x1++x2,yav (j:=3) rfl,by rw[qA];omega⟩
  refine ybq (SqL.of e6) ept ?_
  left
  refine yjt (ybC ?_)
  left
  refine⟨_,rfl,_,rfl,ofS (by omega),?_⟩
  rw[show Txt.slice (ofL wd) none (some at')=ofL (wd.take at'.toNat) by rw[← yhP wd (b:=at'.toNat) (by omega),Int.toNat_of_nonneg at0]]
  left
  have lt:(wd.take at'.toNat).length<=at'.toNat:=by rw[qT];omega
  refine ybe (b:=pt) rfl rfl (by omega) ?_
  rw[yaO]
  left
  refine ybC ?_
  left
  refine ybA λp7 h7=>?_
  have s7:=yae h7 (.lst ([0,1,1,2].map V.int))
  have e7:upd H6 p7 (.lst ([0,1,1,2].map V.int)) p7=_:=yac
  rw[show[V.int 0,V.int 1,V.int 1,V.int 2]=[0,1,1,2].map V.int from rfl]
  generalize upd H6 p7 _=H7 at s7 e7 ⊢
  have d7:=d6.same s7
  left
  refine ybq (SqL.of e7) (ykP (L:=[0,1,1,2]) w0 (by show wy < 4;exact w1)) ?_
  have g:∀ x∈([0,1,1,2]:List Int),0<=x/\x<=2:=by decide
  have gx:=g _ (List.getElem_mem (by show wy.toNat < 4;omega:wy.toNat < ([0,1,1,2]:List Int).length))
  generalize ([0,1,1,2]:List Int)[wy.toNat]'_=k at gx ⊢
  left
  refine⟨_,rfl,yjt ⟨_,rfl,ofS (by omega),?_⟩⟩
  obtain⟨x3,ex3,l3⟩:∃ x3:List Nat,Txt.slice (ofL wd) (some (at'+k)) none=ofL x3/\x3.length<=wd.length - (at'+k).toNat:=⟨_,(ycL _).symm,by rw[yaE];exact yoO wd (by omega)⟩
  rw[ex3]
  refine ybe (b:=x3) rfl rfl (by rw[qA];omega) ?_
  rw[yaO]
  left
  refine hN' _ _ ⟨⟨wd.take at'.toNat++pt++x3,_,_,_,_,_,rfl,?_⟩,?_,d7.up (by omega)⟩
  ·rw[qA,qA]
   omega
  ·exact SameT.trans s2 (SameT.trans s3 (SameT.trans s4 (SameT.trans s5 (Same.tt (s6.trans s7)))))
 ·rintro σ H2 ⟨⟨wd,o1,o2,o3,o4,o5,rfl,lw⟩,s2,d2⟩
  left
  exact q wd _ (by omega) s2 (d2.up (by omega))
open TX K2 K3
theorem ycr {v:V}:∀ k,OkT k (.im v)
 | 0=>⟨v,rfl⟩
 | k+1=>.inl ⟨v,rfl⟩
theorem ydI {k:Nat}{ts:List Th}(l:ts.length<=500)(h:∀ u∈ts,OkT k u):OkT (k+1) (.tp ts):=.inr ⟨ts,.inr rfl,l,h⟩
theorem yrO {k:Nat}{ts:List Th}(l:ts.length<=500)(h:∀ u∈ts,OkT k u):OkT (k+1) (.ls ts):=.inr ⟨ts,.inl rfl,l,h⟩
theorem ylj {tl:Tl}(g:TlG tl):∀ u∈yfU tl,OkT 3 u:=by
 have hp:∀ p:Pc,OkT 3 (pcT p):=λp=>ydI (by show 3<=500;decide) λu hu=>by
  simp only[List.mem_cons,qk,or_false] at hu
  rcases hu with rfl | rfl | rfl<;>exact ycr _
 intro u hu
 cases tl with
 | note hs p ti be wd op cl =>
  simp only[yfU,List.mem_cons,qk,or_false] at hu
  rcases hu with rfl | rfl | rfl | rfl | rfl | rfl | rfl
  ·refine yrO (by rw[qM];have:=g.1.1;omega) λv hv=>?_
   obtain⟨h,_,rfl⟩:=List.mem_map.mp hv
   exact ydI (by show 3<=500;decide) λu hu=>by
    simp only[List.mem_cons,qk,or_false] at hu
    rcases hu with rfl | rfl | rfl<;>exact ycr _
  ·exact hp p
  all_goals exact ycr _
 | pause p=>simp only[yfU,List.mem_singleton] at hu;rw[hu];exact hp p
 | whole n=>simp only[yfU,List.mem_singleton] at hu;rw[hu];exact ycr _
 | key n=>simp only[yfU,List.mem_singleton] at hu;rw[hu];exact ycr _
 | ending n=>simp only[yfU,List.mem_singleton] at hu;rw[hu];exact ycr _
 | metre a b gs =>
  simp only[yfU,List.mem_singleton] at hu
  rw[hu]
  refine ydI (by show 3<=500;decide) λu hu=>?_
  simp only[List.mem_cons,qk,or_false] at hu
  rcases hu with rfl | rfl | rfl
  ·exact ycr _
  ·exact ycr _
  ·refine ydI (by rw[qM];have:=g.2.2.2;omega) λv hv=>?_
   obtain⟨h,_,rfl⟩:=List.mem_map.mp hv
   exact ycr _
 | bare i=>cases hu
theorem yjA (tl:Tl):(yfU tl).length<=7:=by cases tl<;>(simp only[yfU,qC,List.length_nil];omega)
theorem yde {tl:Tl}(g:TlG tl):OkT 4 (tlT tl):=by
 rw[yic]
 refine ydI (by rw[qC];have:=yjA tl;omega) λu hu=>?_
 rcases List.mem_cons.mp hu with rfl | hu
 ·exact ycr _
 ·exact ylj g u hu
theorem ynG {b:Addr}{a:V}{xs:List V}{H:Hp}{Q:VK}(e:H b=some (.tup (a :: xs)))(q:∀ p,H p=none->Q (.ref p) (upd H p (.tup xs))):yu2 K (.ref b) (some 1) none H Q:=by
 refine⟨b,_,rfl,SqT.of e,λh=>?_,λp hp=>?_⟩
 ·have:=h.1
  rw[show(1:Int)=((1:Nat):Int) from rfl,HT.sIx_nat,qC] at this
  omega
 ·rw[show yjy (a :: xs) (some 1) none=xs from yil (a :: xs) 1 (by simp)]
  exact q p hp
def yoF:Sp:=λvs H Q _=>∃ cs n,vs=[tV cs,.int n]/\cs.length<=90/\∀ H',Same H H'->Q (.bl true) H'
theorem yp8:OF P w base T.Uf 8 yoF:=by
 o_head (T.Uf.F,sc_zae)
 obtain⟨cs,n,rfl,hw,q⟩:=h
 refine⟨_,(yad (pst 2 sc_zae.nd (pcm (yll T) hr (yaa (pv 0) (yaa (pv 1) yab)))) (yad (pst 3 sc_zae.nd (pcm (yqo T) hr (yaa (pv 0) (yaa (pv 1) yab)))) (yad (yaI (yap ycu (pv 3) yaK (yat _)) (yag (yam (yaS ycu (pv 2) yaK (yat _)))) yau) (yad (yaI (PW.pt (ybE (ybf (yaG (pcm (ysD T) hr (yaa (pv 2) (yaa (xT (pv 3)) yab))))) (ybp (ybf (yaG (pcm (yf6 T) hr (yaa (pcm (ysc T) hr (yaa (pv 2) (yaa (xT (pv 3)) yab))) (yaa (yaW ynX (pv 3) (yaX yah) ybB) yab)))))))) (yag (yam ycK)) yau) (yag (yam (ycQ (pcm (yf6 T) hr (yaa (ybU (pv 2) (ycS T) (yel T) (yga T) (hrm hr) (yes T) ybW) (yaa (pv 3) yab))) (ycD (yaS ya2 (ybU (pv 2) (ydx T) (ydB T) (yk9 T) (hrm hr) (ydE T) ybW) (pv 0) (yat _)))))))))),?_⟩
 left
 refine⟨_,.str,n,rfl,.str _,λz=>absurd rfl z,λw e=>?_⟩
 cases e
 rw[yaB,yax]
 refine⟨hw,λe H1 s1=>?_,λtl e x H1 s1 sg=>?_⟩
 ·left
  refine⟨cs,n,rfl,hw,λy H2 s2 h=>?_⟩
  rcases h with ⟨_,rfl⟩ | ⟨tl,e',_⟩
  ·left
   refine⟨rfl,ybr ?_⟩
   rw[decide_eq_true rfl,if_pos rfl]
   left
   refine⟨rfl,?_⟩
   rw[decide_eq_true rfl]
   exact q _ (s1.trans s2)
  ·rw[e] at e';cases e'
 ·obtain⟨gd,ew⟩:=ykQ hw e
  left
  refine⟨cs,n,rfl,hw,λy H2 s2 h=>?_⟩
  rcases h with ⟨e',_⟩ | ⟨tl',e',iy⟩
  ·rw[e] at e';cases e'
  rw[e] at e'
  cases e'
  obtain⟨b,xs,rfl,eb,is⟩:=ydv iy
  left
  refine⟨rfl,ybr ?_⟩
  rw[decide_eq_false (by simp),if_neg (by simp)]
  have s12:=s1.trans s2
  left
  refine ybh 0 (SqT.of eb) ?_
  left
  refine⟨x,tl,rfl,sg.same s2,λH3 s3=>ybr ?_⟩
  refine i_F ?_
  have s23:=s2.trans s3
  left
  refine ybh 0 (SqT.of (s3 _ _ eb)) ?_
  left
  refine⟨x,tl,rfl,sg.same s23,λz H4 s4 iz=>?_⟩
  left
  have eb4:=s4 _ _ (s3 _ _ eb)
  refine ybC (i_c ⟨1,rfl,yjt ?_⟩)
  refine ynG eb4 λp5 h5=>?_
  have s5:=yae h5 (.tup xs)
  have e5:upd H4 p5 (.tup xs) p5=_:=yac
  generalize upd H4 p5 (.tup xs)=H5 at s5 e5 ⊢
  have s25:=s3.trans (s4.trans s5)
  left
  refine⟨z,_,.tp (yfU tl),rfl,ydI (by have:=yjA tl;omega) (ylj gd),iz.same s5,ya3 e5 (is.same s25),λH6 s6=>ybr ?_⟩
  refine i_F ?_
  have s26:=s25.trans s6
  have sg6:=sg.same (s2.trans s26)
  obtain⟨a,dx,fs,rfl,ea,l1,l2,_⟩:=sg6.at
  left
  refine⟨_,a,dx,fs,rfl,ea,l1,_,tl,rfl,rfl,sg6,λy H7 s7 tq=>?_⟩
  left
  refine⟨y,_,tlT tl,rfl,yde gd,tq.is s7,(iy.same s26).same s7,λH8 s8=>ybr ?_⟩
  refine i_T ?_
  have sg8:=sg6.same (s7.trans s8)
  obtain⟨a',dx',fs',e',ea',l1',l2',_⟩:=sg8.at
  cases e'
  left
  refine⟨_,a,dx',fs',rfl,ea',l2',_,tl,rfl,rfl,gd,sg8,λH9 s9=>?_⟩
  left
  refine⟨rfl,?_⟩
  rw[decide_eq_true (by rw[ew])]
  exact q _ (s12.trans (s26.trans (s7.trans (s8.trans s9))))
open TX K2 K3
mutual
def noL:Th->Bool
 | .im _=>true
 | .tp ts=>noLs ts
 | .ls _=>false
 | .dk=>false
def noLs:List Th->Bool
 | []=>true
 | t :: ts=>noL t&&noLs ts
end
theorem yiJ:∀ {ts:List Th},noLs ts=true->∀ u∈ts,noL u=true
 | t :: ts,h,u,hu=>by
  rw[noLs,Bool.and_eq_true] at h
  rcases List.mem_cons.mp hu with rfl | hu
  ·exact h.1
  ·exact yiJ h.2 u hu
theorem yhF:∀ {ts:List Th},(∀ u∈ts,noL u=true)->noLs ts=true
 | [],_=>rfl
 | t :: ts,h=>by rw[noLs,h t (by simp),yhF λu hu=>h u (by simp[hu])];rfl
mutual
theorem Is.off {H:Hp}{l:Addr}{zs:List V}(e:H l=some (.lst zs)):∀ {x:V} {tr:Th},noL tr=true->Is H x tr->Is (rm H l) x tr
 | x,.im v,_,h=>by rw[Is] at h ⊢;exact h
 | x,.tp ts,c,h=>by
  rw[Is] at h ⊢
  obtain⟨a,xs,ex,ea,r⟩:=h
  have na:a≠l:=λz=>by rw[z,e] at ea;cases ea
  exact⟨a,xs,ex,by rw[ybQ na];exact ea,Iss.off e (by rw[noL] at c;exact c) r⟩
 | x,.ls ts,c,_=>by rw[noL] at c;cases c
 | x,.dk,c,_=>by rw[noL] at c;cases c
theorem Iss.off {H:Hp}{l:Addr}{zs:List V}(e:H l=some (.lst zs)):∀ {xs:List V} {ts:List Th},noLs ts=true->Iss H xs ts->Iss (rm H l) xs ts
 | xs,[],_,h=>by rw[Iss] at h ⊢;exact h
 | xs,t :: ts,c,h=>by
  rw[Iss] at h ⊢
  obtain⟨x,r,ex,q,z⟩:=h
  rw[noLs,Bool.and_eq_true] at c
  exact⟨x,r,ex,Is.off e c.1 q,Iss.off e c.2 z⟩
end
def yuP (k:Nat):Sp:=λvs H Q _=>∃ x tr,vs=[x]/\OkT k tr/\noL tr=true/\Is H x tr/\∀ H',Same H H'->Q .non H'
theorem yoD (T:Txt K mg t):∀ k:Nat,FnOk P w K mg base CX0 (k+1) t.f_zI t.d_zI ["_law_told_here"] (yuP k)
 | 0=>(yfI T).imp λvs H Q E h=>by
  obtain⟨x,tr,rfl,⟨v,rfl⟩,c,ix,q⟩:=h
  rw[Is] at ix
  exact⟨x,rfl,by rw[ix.1];exact ix.2,q⟩
 | k+1=>by
  refine(ymn ((yfI T).mono (by omega)) (yft T (yoD T k))).imp λvs H Q E h=>?_
  obtain⟨x,tr,rfl,ok,c,ix,q⟩:=h
  rcases ok with ⟨v,rfl⟩ | ⟨ts,e,l,g⟩
  ·rw[Is] at ix
   exact .inl ⟨x,rfl,by rw[ix.1];exact ix.2,q⟩
  ·rcases e with rfl | rfl
   ·rw[noL] at c;cases c
   ·rw[Is] at ix
    obtain⟨a,xs,rfl,ea,is⟩:=ix
    rw[noL] at c
    refine .inr ⟨a,xs,λ_ H'=>Same H H',rfl,ea,λH' s=>s,λ_ H' s=>s _ _ ea,λi x H' Q' hx s k=>?_,λH' s=>q H' s⟩
    have hi:i < ts.length:=by
     have:=(qE hx).1
     rw[is.len] at this
     exact this
    obtain⟨y,ey,iy⟩:=is.at' i hi
    rw[hx] at ey
    cases ey
    exact⟨x,ts[i],rfl,g _ (List.getElem_mem hi),yiJ c _ (List.getElem_mem hi),iy.same s,λH'' s'=>k _ _ (s.trans s')⟩
def ymH:Sp:=λvs H Q _=>∃ y tl Hs,vs=[y]/\Same Hs H/\Told Hs H y tl/\TlG tl/\∀ H',Same Hs H'->Q .non H'
theorem ydR {tl:Tl}(h:yc8 tl≠.n):noL (tlT tl)=true:=by
 cases tl with
 | note=>exact absurd rfl h
 | metre a b gs =>
  have:noLs (gs.map nT)=true:=yhF λu hu=>by obtain⟨g,_,rfl⟩:=List.mem_map.mp hu;rfl
  show(true&&((true&&(true&&(noLs (gs.map nT)&&true)))&&true))=true
  rw[this]
  rfl
 | _=>rfl
theorem ykN:OF P w base T.zI 6 ymH:=by
 have gA:=(yoD (P:=P) (w:=w) (base:=base) T 4).mono (show 5<=6 by decide)
 have gB:=yft T (ymn ((yoD (P:=P) (w:=w) (base:=base) T 4)) ((yjW (P:=P) (w:=w) (base:=base) T).mono (show 3<=5 by decide)))
 refine(ymn gA gB).imp λvs H Q E h=>?_
 obtain⟨y,tl,Hs,rfl,sH,td,g,q⟩:=h
 cases tl with
 | note hs p ti be wd op cl =>
  obtain⟨b,l,z,xs,rfl,eb,fl,el,il,iz⟩:=td
  have nb:b≠l:=λe=>by rw[e,el] at eb;cases eb
  refine .inr ⟨b,_,λi H'=>Same Hs H'/\H' b=some (.tup [tV (txt "note"),.ref l,z,.bl ti,.bl be,tV wd,.bl op,.bl cl])/\(i<=1->Same H H'),rfl,eb,λH' s=>⟨sH.trans s,s _ _ eb,λ_=>s⟩,λ_ H' h=>h.2.1,?_,λH' h=>q H' h.1⟩
  have im:∀ {v:V} {i:Nat} {H':Hp} {Q':VK},imV v=true->i≠0->(Same Hs H'/\H' b=some (.tup [tV (txt "note"),.ref l,z,.bl ti,.bl be,tV wd,.bl op,.bl cl])/\(i<=1->Same H H'))->(∀ v H'',(Same Hs H''/\H'' b=some (.tup [tV (txt "note"),.ref l,z,.bl ti,.bl be,tV wd,.bl op,.bl cl])/\(i+1<=1->Same H H''))->Q' v H'')->yuN (yuP 4) ysH [v] H' Q' E0:=λ{v i H' Q'} hv hi h k=>.inl ⟨v,.im v,rfl,ycr _,rfl,ylx hv,λH'' s'=>k _ _ ⟨h.1.trans s',s' _ _ h.2.1,λx=>absurd x (by omega)⟩⟩
  intro i x H' Q' hx h k
  match i,hx with
  | 0,hx =>
   cases hx
   exact .inl ⟨_,sT (txt "note"),rfl,ycr _,rfl,ycB _,λH'' s'=>k _ _ ⟨h.1.trans s',s' _ _ h.2.1,λ_=>(h.2.2 (by decide)).trans s'⟩⟩
  | 1,hx =>
   cases hx
   have s:=h.2.2 (by decide)
   have al:=yec il
   have lx:xs.length=hs.length:=al.1
   refine .inr ⟨l,xs,rfl,s _ _ el,by have:=g.1.1;omega,λu hu=>?_,λH'' st _=>k _ _ ⟨λc u e=>st c u (λz=>by rw[z,fl] at e;cases e) (h.1 _ _ e),st _ _ nb h.2.1,λx=>absurd x (by decide)⟩⟩
   obtain⟨j,hj,rfl⟩:=List.mem_iff_getElem.mp hu
   obtain⟨u',eu,iu⟩:=al.2 j (by omega)
   rw[qG hj] at eu
   cases eu
   obtain⟨a,ea,e3⟩:=Is.three (iu.same h.1)
   exact .inr ⟨a,_,ea,e3,λy hy=>by
    simp only[List.mem_cons,qk,or_false] at hy
    rcases hy with rfl | rfl | rfl<;>rfl⟩
  | 2,hx =>
   cases hx
   exact .inl ⟨z,pcT p,rfl,ydI (by show 3<=500;decide) (λu hu=>by
    simp only[List.mem_cons,qk,or_false] at hu
    rcases hu with rfl | rfl | rfl<;>exact ycr _),rfl,iz.same h.1,λH'' s'=>k _ _ ⟨h.1.trans s',s' _ _ h.2.1,λx=>absurd x (by decide)⟩⟩
  | 3,hx=>cases hx;exact im rfl (by decide) h k
  | 4,hx=>cases hx;exact im rfl (by decide) h k
  | 5,hx=>cases hx;exact im rfl (by decide) h k
  | 6,hx=>cases hx;exact im rfl (by decide) h k
  | 7,hx=>cases hx;exact im rfl (by decide) h k
  | i+8,hx=>cases hx
 | pause p=>exact .inl ⟨y,_,rfl,yde g,ydR (by simp[yc8]),td,λH' s=>q H' (sH.trans s)⟩
 | whole n=>exact .inl ⟨y,_,rfl,yde g,ydR (by simp[yc8]),td,λH' s=>q H' (sH.trans s)⟩
 | key k=>exact .inl ⟨y,_,rfl,yde g,ydR (by simp[yc8]),td,λH' s=>q H' (sH.trans s)⟩
 | metre a b gs=>exact .inl ⟨y,_,rfl,yde g,ydR (by simp[yc8]),td,λH' s=>q H' (sH.trans s)⟩
 | ending n=>exact .inl ⟨y,_,rfl,yde g,ydR (by simp[yc8]),td,λH' s=>q H' (sH.trans s)⟩
 | bare i=>exact .inl ⟨y,_,rfl,yde g,ydR (by simp[yc8]),td,λH' s=>q H' (sH.trans s)⟩
theorem Told.off {H H':Hp}{y:V}{tl:Tl}{tp:Addr}{zs zs':List V}(s:Same H H')(h:Told H H' y tl)(e:H tp=some (.lst zs))(e':H' tp=some (.lst zs')):Is (rm H' tp) y (tlT tl):=by
 cases tl with
 | note hs p ti be wd op cl =>
  obtain⟨b,l,z,xs,rfl,eb,fl,el,il,iz⟩:=h
  have nb:b≠tp:=λx=>by rw[x,e'] at eb;cases eb
  have nl:l≠tp:=λx=>by rw[x,e] at fl;cases fl
  exact ya3 (by rw[ybQ nb];exact eb) (yaj (ycB _) (yaj (yeG (by rw[ybQ nl];exact el) (Iss.off e' (yhF λu hu=>by obtain⟨h,_,rfl⟩:=List.mem_map.mp hu;rfl) (il.same s))) (yaj (Is.off e' rfl (iz.same s)) (yaj (yeE _) (yaj (yeE _) (yaj (ycB _) (yaj (yeE _) (yaj (yeE _) (yaz _)))))))))
 | pause p=>exact Is.off e' (ydR (by simp[yc8])) h
 | whole n=>exact Is.off e' (ydR (by simp[yc8])) h
 | key k=>exact Is.off e' (ydR (by simp[yc8])) h
 | metre a b gs=>exact Is.off e' (ydR (by simp[yc8])) h
 | ending n=>exact Is.off e' (ydR (by simp[yc8])) h
 | bare i=>exact Is.off e' (ydR (by simp[yc8])) h
theorem yjD {tl:Tl}(h:DTl tl):(wrW tl).length<=80:=by
 cases tl with
 | note hs p ti be wd op cl =>
  obtain⟨gh,gp,gw⟩:=h
  have lw:∀ w∈hs.map hdW,w.length<=8:=λw hw=>by
   obtain⟨h,hh,rfl⟩:=List.mem_map.mp hw
   exact yhM (gh.2.2.1 h hh).good
  have lj:=yct 44 lw
  rw[qM] at lj
  have l4:=gh.2.1
  have lp:=yc6 gp
  have lwd:=yfa gw
  have ls:(yfQ wd).length<=13:=by unfold yfQ;split<;>simp only[qC,List.length_nil]<;>omega
  have:=yaV ti [126];have:=yaV be [95];have:=yaV op [40];have:=yaV cl [41]
  show(ybS 44 (hs.map hdW)++[47]++pcW p++opt ti [126]++opt be [95]++opt op [40]++opt cl [41]++yfQ wd).length<=80
  simp only[qA,qS] at *
  omega
 | pause p =>
  have lp:=yc6 h
  show(txt "r/" ++ pcW p).length<=80
  rw[qA,show(txt "r/").length=2 by ac_rfl]
  omega
 | whole n=>show(txt "R").length<=80;decide +kernel
 | key k =>
  have:=ybl (i:=k) ⟨by have:=h.1;omega,by have:=h.2;omega⟩
  show(txt "k" ++ ya8 k).length<=80
  rw[qA,show(txt "k").length=1 by ac_rfl]
  omega
 | metre a b gs=>exact(show ∀ m∈metresL,(wrW (.metre m.1 m.2.1 m.2.2)).length<=80 by ac_rfl) _ h
 | ending n =>
  have h:n=1∨n=2:=h
  have:=ybl (i:=n) ⟨by omega,by omega⟩
  show(txt "[" ++ ya8 n).length<=80
  rw[qA,show(txt "[").length=1 by ac_rfl]
  omega
 | bare i=>cases i<;>decide +kernel
open TX K2 K3
def yku (K:qF):Sp:=λvs H Q _=>∃ (a:Addr) (ns:List Int),vs=[.ref a]/\SqL K H a (ns.map V.int)/\(∀ v∈ns,Builtin.Int.intBits v<=2 ^ 20)/\∀ H',Q (.bl true) H'
def ynK:Tl->Int
 | .whole n=>n
 | _=>96
noncomputable abbrev stL (a tp b L x:Addr)(tl:Tl)(y o:Option V):St:=[some (.ref a),some (.ref tp),some (.ref b),some (.ref L),some (.ref x),some (.int (tg tl)),some (.int (ynK tl)),y,o,none]
theorem ylg {a tp:Addr}{ns:List Int}{H:Hp}{N:Nat}(d:Dr K a tp ns H N):∃ zs,H tp=some (HO.lst zs):=by obtain⟨n,_,e⟩:=d.tape;exact⟨_,e⟩
theorem yvn:yki ykh .dk:=fun σ H Q q p hp=>q (.ref p) _ (yae hp _) (by rw[Is];exact⟨p,[],rfl,by rw[ycz hp];exact yac⟩)
def yu3:List Th:=[.im .non,.im (.int 4),.ls [.im (.str (Str.ofString "R"))],.im (.bl true),.dk,.tp [.im (.str (Str.ofString "R"))],.ls []]
noncomputable def nS:Th->Bool
 | .im .non=>true
 | .im (.bl _)=>true
 | .im (.int _)=>true
 | .im _=>false
 | _=>true
theorem ypI:∀ u∈yu3,nS u=true:=by ac_rfl
theorem ylR {H:Hp}{y:V}{tr:Th}(h:Is H y tr)(c:nS tr=true):∃ k,k≠Knd.str/\KndOf H y k:=by
 cases tr with
 | im v =>
  rw[Is] at h
  rw[h.1]
  cases v with
  | non=>exact⟨_,by simp,.non⟩
  | bl b=>exact⟨_,by simp,.bl b⟩
  | int i=>exact⟨_,by simp,.int i⟩
  | _=>cases c
 | ls ts =>
  rw[Is] at h
  obtain⟨a,xs,rfl,e,_⟩:=h
  exact⟨_,by simp,.lst e⟩
 | tp ts =>
  rw[Is] at h
  obtain⟨a,xs,rfl,e,_⟩:=h
  exact⟨_,by simp,.tup e⟩
 | dk =>
  rw[Is] at h
  obtain⟨a,kvs,rfl,e⟩:=h
  exact⟨_,by simp,.dct e⟩
theorem KndOf.sm {H H':Hp}{y:V}{k:Knd}(s:Same H H')(h:KndOf H y k):KndOf H' y k:=by
 cases h with
 | non=>exact .non
 | bl b=>exact .bl b
 | int i=>exact .int i
 | str x=>exact .str x
 | lst e=>exact .lst (s _ _ e)
 | tup e=>exact .tup (s _ _ e)
 | dct e=>exact .dct (s _ _ e)
theorem ysa (n:Int):ydD n (Str.ofString "R").cps.toList=some (.whole n):=by
 unfold ydD ycx
 rw[List.find?_cons_of_pos (p:=λtl=>decide (wrW tl=(Str.ofString "R").cps.toList)) (show decide (wrW (.whole n)=(Str.ofString "R").cps.toList)=true from decide_eq_true rfl)]
theorem yp0:OF P w base T.RD 9 (yku K):=by
 o_head (T.RD.F,sc_zaQ)
 obtain⟨a,ns,rfl,hs,sm,q⟩:=h
 refine⟨_,(yad (pst 1 sc_zaQ.nd (yaN (yaa yah yab))) (yad (pst 2 sc_zaQ.nd (pcm (yqj T) hr (yaa (pv 0) (yaa (pv 1) yab)))) (yad (pst 3 sc_zaQ.nd (yaJ (yap ya2 (xT (pv 2)) yaf (yat _)) (yaC ycI rfl T.Jl ybd (yaa (xT (pv 2)) yab)) (yaN yab))) (yad (pst 4 sc_zaQ.nd (pcm (yqA T) hr (yaa (pv 2) (yaa (pv 3) yab)))) (yad (ych (yb9 (pv 3) (yaa (yaw (yaa yaf (yaa yah (yaa yah yab)))) yab))) (yad (pst 5 sc_zaQ.nd (pcm (yrF T) hr (yaa (pv 2) yab))) (yad (pst 6 sc_zaQ.nd (yaJ (yap ya2 (xT (pv 2)) yaf (yat _)) (xT (pv 2)) yah)) (yad (pst 7 sc_zaQ.nd (ybU (pv 4) (ycS T) (yel T) (yga T) (hrm hr) (yes T) ybW)) (yad (ych (pcl (ykN T) hr T.zI (yaa (ybU (pv 4) (ycS T) (yel T) (yga T) (hrm hr) (yes T) ybW) yab))) (yad (yaI (PW.pt (ybE (ybf (yaG (pcm (yf6 T) hr (yaa (ybU (pv 4) (ycS T) (yel T) (yga T) (hrm hr) (yes T) ybW) (yaa (pv 2) yab))))) (ybE (yap yeI (ybU (pv 4) (ydx T) (ydB T) (yk9 T) (hrm hr) (ydE T) ybW) (pcm (yph T) hr (yaa (pv 2) yab)) (yat _)) (ybp (yap yeI (ybU (pv 4) (yg7 T) (ygF T) (ynR T) (hrm hr) (ygo T) ybW) (pv 5) (yat _)))))) (yag (yam ycK)) yau) (yad (yaI (PW.pt (ybE (ybf (yaG (yar ya0 rfl T.Ja yal (yaa (ybU (pv 4) (ycS T) (yel T) (yga T) (hrm hr) (yes T) ybW) (yaa (ybG rfl T.Jh ybg) yab))))) (ybp (ybf (yaG (pcm (ysD T) hr (yaa (pv 4) (yaa (xT (pv 2)) yab)))))))) (yag (yam ycK)) yau) (yad (yaI (ybf (yaG (pcm (yf6 T) hr (yaa (pcm (ysc T) hr (yaa (pv 4) (yaa (xT (pv 2)) yab))) (yaa (yaW ynX (pv 2) (yaX yah) ybB) yab))))) (yag (yam ycK)) yau) (yad (ycd PassesOwn.never rfl (ydK (yaw (yaa (pcm (yph T) hr (yaa (pv 2) yab)) (yaa (pcm (ytB T) hr (yaa (pv 0) (yaa (pv 1) (yaa (pcm (yph T) hr (yaa (pv 2) yab)) yab)))) (yaa (pcm (yrm T) hr (yaa (pv 0) (yaa (pv 1) yab))) yab))))) (pgs 8 sc_zaQ.nd) (yag (yaI (ybf (yaG (pcm (yp8 T) hr (yaa (pv 8) (yaa (pv 6) yab))))) (yag (yam ycK)) yau))) (yad (pst 9 sc_zaQ.nd (ya5 ya1 (yaN (yaa yaK (yaa yah (yaa (yaN (yaa yaf yab)) (yaa ycK (yaa yip (yaa (yaw (yaa yaf yab)) (yaa (yaN yab) yab)))))))) (pcm (ybj T) hr (yaa (pv 0) (yaa (pv 1) (yaa yah yab)))) (λ_ _=>rfl))) (yag (yam (ycQ (yaS ycu (pcm (yll T) hr (yaa (pv 9) (yaa (pv 6) yab))) yaK (yat _)) (ycQ (pcm (yf6 T) hr (yaa (pv 7) (yaa (pv 2) yab))) (ycD (yaS ya2 (ybU (pcm (yll T) hr (yaa yaf (yaa (yay ybv (pv 6) yah) yab))) (yg7 T) (ygF T) (ynR T) (hrm hr) (ygo T) ybW) (yay ybv (pv 6) yah) (yat _))))))))))))))))))))),?_⟩
 left
 refine ybA λtp htp=>?_
 have s1:=yae htp (.lst [V.int 0])
 have d1:Dr K a tp ns (upd H tp (.lst [V.int 0])) 0:=⟨⟨H,hs,htp,s1⟩,sm,0,qR _,yac⟩
 generalize upd H tp (.lst [V.int 0])=H1 at d1 ⊢
 left
 refine⟨a,tp,ns,0,rfl,d1,by omega,λy tl H2 dt s2 d2 iy=>?_⟩
 have sHs:=yhv H1 H2
 have gd:=dt.g
 have tpf:fr H1 H2 tp=none:=by
  obtain⟨u,e⟩:=d1.some
  unfold fr
  rw[if_neg (by rw[e];simp)]
 generalize hHs:fr H1 H2=Hs at iy sHs tpf
 obtain⟨b,xs,rfl,eb,is⟩:=ydv iy
 refine yaT (ycn (ygk (te:=ylK _ _) (fun σ H'=>∃ L ks,σ=[some (.ref a),some (.ref tp),some (.ref b),some (.ref L),none,none,none,none,none,none]/\Same H2 H'/\H2 L=none/\H' L=some (.lst ks)/\ks.length<=4/\∀ hs p ti be wd op cl,tl=.note hs p ti be wd op cl->Iss Hs ks (hs.map hdT)) (λnx' hN=>?_) ?_))
 ·have hq:SqT K H2 b (tV (nmW tl) :: xs):=SqT.of (sHs _ _ eb)
  left
  refine ybh 0 hq ?_
  left
  refine⟨rfl,ybr ?_⟩
  rw[ysL]
  cases tl with
  | note hs p ti be wd op cl =>
   obtain⟨b0,l,z,xs0,e0,eb0,el,il,iz⟩:=Is.eight iy
   cases e0
   refine i_T ?_
   left
   refine ybh 1 (SqT.of (sHs _ _ eb0)) ?_
   have ll:xs0.length=hs.length:=(yec il).1
   refine ydu ⟨l,_,rfl,.inl (SqL.of (sHs _ _ el)),λL hL=>yaT (hN _ _ ⟨L,xs0,rfl,yae hL _,hL,yac,by have:=dt.1.2.1;omega,λ_ _ _ _ _ _ _ e=>by cases e;exact il⟩)⟩
  | _ =>
   refine i_F ?_
   refine yo9 (ydu ⟨Nat.zero_le _,λL hL=>yaT (hN _ _ ⟨L,[],rfl,yae hL _,hL,yac,Nat.zero_le _,λ_ _ _ _ _ _ _ e=>by cases e⟩)⟩)
 ·rintro σ H3 ⟨L,ks,rfl,s3,fL,eL,lk,nt⟩
  left
  refine⟨_,_,tl,Hs,rfl,sHs.trans s3,iy,λhs p ti be wd op cl e=>⟨L,ks,rfl,eL,nt _ _ _ _ _ _ _ e⟩,λx H4 s4 sg=>?_⟩
  have d3:=d2.same s3
  have sS:Same (nw Hs H3 H4) H4:=yrl (sHs.trans s3) s4
  have iyS:Is (nw Hs H3 H4) (.ref b) (tlT tl):=iy.same (yfy (sHs.trans s3))
  have tS:nw Hs H3 H4 tp=none:=by
   obtain⟨u,e⟩:=d3.some
   rw[ycM e];exact tpf
  have LS:nw Hs H3 H4 L=none:=by
   rw[ycM eL]
   exact yfc sHs fL
  generalize nw Hs H3 H4=S at sg sS iyS tS LS
  refine yaT (ycn (ygk (te:=yjo _) (fun σ H'=>σ=[some (.ref a),some (.ref tp),some (.ref b),some (.ref L),some x,none,none,none,none,none]/\Same S H'/\Dr K a tp ns H' 60) (λnx' hN=>?_) ?_))
  ·left
   refine⟨.inl ⟨rfl,_,SqL.of (s4 _ _ eL)⟩,?_⟩
   left
   refine ybA λp5 h5=>?_
   have s5:=yae h5 (.tup [.str (Str.ofString ""),.int 0,.int 8])
   generalize upd H4 p5 _=H5 at s5 ⊢
   left
   refine ypM (s5 _ _ (s4 _ _ eL)) (yaD (by omega)) ?_
   left
   refine hN _ _ ⟨rfl,λc u e=>?_,?_⟩
   ·rw[yas (yak e LS)]
    exact s5 _ _ (sS _ _ e)
   ·have s25:=s3.trans (s4.trans s5)
    exact(d2.put fL (Same.tt s25) (d2.same s25)).up (by omega)
  ·rintro σ H6 ⟨rfl,s6,d6⟩
   left
   refine⟨_,tl,rfl,iyS.same s6,gd.ok,λH7 s7=>?_⟩
   have s07:=s6.trans s7
   have d7:=d6.same s7
   refine yaT (ycn (ygk (te:=ylK _ _) (fun σ H'=>σ=[some (.ref a),some (.ref tp),some (.ref b),some (.ref L),some x,some (.int (tg tl)),some (.int (ynK tl)),none,none,none]/\Same H7 H') (λnx' hN=>?_) ?_))
   ·obtain⟨b0,xs0,e0,eb0,is0⟩:=ydv (iyS.same s07)
    cases e0
    have hq:=SqT.of (K:=K) eb0
    left
    refine ybh 0 hq ?_
    left
    refine⟨rfl,ybr ?_⟩
    rw[ytS]
    cases tl with
    | whole n =>
     rw[yfU,Iss] at is0
     obtain⟨y1,r1,rfl,i1,is0⟩:=is0
     rw[i1.n] at hq
     refine i_T ?_
     left
     exact yd8 hq (yav (j:=1) rfl) (yaT (hN _ _ ⟨rfl,Same.refl _⟩))
    | _ =>
     refine i_F ?_
     left
     exact hN _ _ ⟨rfl,Same.refl _⟩
   ·rintro σ H8 ⟨rfl,s8⟩
    have s08:=s07.trans s8
    have d8:=d7.same s8
    obtain⟨xa,dx,fs,rfl,ea,l1,l2,l3⟩:=sg.at
    dsimp only
    refine ycn (ygk (te:=ylK _ _) (fun σ H'=>∃ y1 S2,σ=stL a tp b L xa tl (some y1) none/\Same S2 H'/\Same S S2/\S2 tp=none/\Is S2 y1 (tlT tl)/\Dr K a tp ns H' 60) (λnx' hN=>?_) ?_)
    ·left
     refine⟨_,xa,dx,fs,rfl,s08 _ _ ea,l1,_,tl,rfl,rfl,sg.same s08,λy1 H9 s9 td=>?_⟩
     have d9:=d8.same s9
     obtain⟨zs,ez⟩:=ylg d8
     obtain⟨zs',ez'⟩:=ylg d9
     refine yaT (hN _ _ ⟨y1,rm H9 tp,rfl,yep _ _,λc u e=>?_,ykc,td.off s9 ez ez',d9⟩)
     rw[ybQ (yak e tS)]
     exact s9 _ _ (s08 _ _ e)
    ·rintro σ H9 ⟨y1,S2,rfl,s9,sS2,tS2,i1,d9⟩
     have sg:=sg.same sS2
     have ea:=sS2 _ _ ea
     have iyb:=iyS.same sS2
     dsimp only
     refine ycn (ygk (te:=yjo _) (fun σ H'=>σ=stL a tp b L xa tl (some y1) none/\Same H9 H') (λnx' hN=>?_) ?_)
     ·left
      refine⟨_,xa,dx,fs,rfl,s9 _ _ ea,l1,_,tl,rfl,rfl,sg.same s9,λy2 HA sA td=>?_⟩
      left
      refine⟨y2,tl,H9,rfl,sA,td,gd,λHB sB=>?_⟩
      exact hN _ _ ⟨rfl,sB⟩
     ·rintro σ HA ⟨rfl,sA⟩
      have s0A:=s9.trans sA
      have dA:=d9.same sA
      dsimp only
      left
      refine⟨_,xa,dx,fs,rfl,s0A _ _ ea,l1,_,tl,rfl,rfl,sg.same s0A,λy3 HB sB td3=>?_⟩
      left
      refine⟨y3,_,tlT tl,rfl,yde gd,td3.is sB,(iyb.same s0A).same sB,λHC sC=>ybr ?_⟩
      refine i_F ?_
      have sAC:=sB.trans sC
      have s0C:=s0A.trans sAC
      left
      refine⟨_,xa,dx,fs,rfl,s0C _ _ ea,l2,_,tl,rfl,rfl,gd,sg.same s0C,λHD sD=>?_⟩
      left
      refine⟨_,tl,rfl,iyb.same (s0C.trans sD),dt,λHE sE=>?_⟩
      left
      refine⟨rfl,ybr ?_⟩
      rw[decide_eq_true rfl]
      refine i_F ?_
      have sAE:=sAC.trans (sD.trans sE)
      have s0E:=s0A.trans sAE
      left
      refine⟨_,xa,dx,fs,rfl,s0E _ _ ea,l3,_,tl,rfl,rfl,gd.ok,sg.same s0E,?_⟩
      left
      refine yjp (ybr ?_)
      rw[decide_eq_true rfl]
      refine i_F ?_
      left
      refine⟨_,xa,dx,fs,rfl,s0E _ _ ea,l1,_,tl,rfl,rfl,sg.same s0E,λy4 HF sF td4=>?_⟩
      obtain⟨b4,xs4,rfl,eb4,_⟩:=ydv (td4.is sF)
      left
      refine ykL (.tup eb4) (ybr ?_)
      rw[if_neg (by decide)]
      obtain⟨b2,xs2,e2,eb2,is2⟩:=ydv iyb
      cases e2
      have s0F:=s0E.trans sF
      left
      refine ybh 0 (SqT.of (s0F _ _ eb2)) ?_
      left
      refine⟨_,tl,rfl,sg.same s0F,λHG sG=>ybr ?_⟩
      refine i_F ?_
      have s0G:=s0F.trans sG
      left
      refine ybh 0 (SqT.of (s0G _ _ eb2)) ?_
      left
      refine⟨_,tl,rfl,sg.same s0G,λz HH sH iz=>?_⟩
      have s0H:=s0G.trans sH
      left
      refine ybC (i_c ⟨1,rfl,yjt ?_⟩)
      refine ynG (s0H _ _ eb2) λp5 h5=>?_
      have s5:=yae h5 (.tup xs2)
      have e5:upd HH p5 (.tup xs2) p5=_:=yac
      generalize upd HH p5 (.tup xs2)=HI at s5 e5 ⊢
      have s0I:=s0H.trans s5
      left
      refine⟨z,_,.tp (yfU tl),rfl,ydI (by have:=yjA tl;omega) (ylj gd),iz.same s5,ya3 e5 (is2.same s0I),λHJ sJ=>ybr ?_⟩
      refine i_F ?_
      have s0J:=s0I.trans sJ
      have dJ:=dA.same ((((sAE.trans sF).trans sG).trans sH).trans (s5.trans sJ))
      refine ykI ?_
      dsimp only
      refine ycn (ygk (te:=ylq _ _ _) (fun σ H'=>(∃ o,σ=stL a tp b L xa tl (some y1) o)/\Same S2 H'/\Dr K a tp ns H' 70) (λnx' hN=>?_) ?_)
      ·left
       refine⟨_,tl,rfl,iyb.same s0J,dt,λHK sK=>?_⟩
       have s0K:=s0J.trans sK
       left
       refine⟨_,tl,rfl,iyb.same s0K,dt,λHL sL=>?_⟩
       have s0L:=s0K.trans sL
       have dL:=dJ.same (sK.trans sL)
       left
       refine⟨a,tp,ns,_,wrW tl,rfl,dL,by omega,yjD dt,λwd2 HM lw2 tM dM=>?_⟩
       have s0M:Same S2 HM:=λc u e=>tM c u (yak e tS2) (s0L _ _ e)
       left
       refine⟨a,tp,ns,_,rfl,dM,by omega,λwd3 HN lw3 tN dN=>?_⟩
       have s0N:Same S2 HN:=λc u e=>tN c u (yak e tS2) (s0M _ _ e)
       left
       refine ybA λp6 h6=>?_
       have s6:=yae h6 (.tup [tV (wrW tl),tV wd2,tV wd3])
       have e6:upd HN p6 (.tup [tV (wrW tl),tV wd2,tV wd3]) p6=_:=yac
       generalize upd HN p6 _=HO' at s6 e6 ⊢
       refine⟨p6,rfl,⟨_,SqT.of e6⟩,ye8 (xs:=[tV (wrW tl),tV wd2,tV wd3]) (λi σ H'=>(∃ o,σ=stL a tp b L xa tl (some y1) o)/\Same HO' H') ⟨⟨_,rfl⟩,Same.refl _⟩ (λi σ H' _ h=>SqT.of (h.2 _ _ e6)) ?_ ?_⟩
       ·rintro i v σ H' hx ⟨⟨o,rfl⟩,sm'⟩
        obtain⟨wd,lw,rfl⟩:∃ wd:List Nat,wd.length<=90/\v=tV wd:=by
         match i,hx with
         | 0,hx=>cases hx;exact⟨_,by have:=yjD dt;omega,rfl⟩
         | 1,hx=>cases hx;exact⟨_,lw2,rfl⟩
         | 2,hx=>cases hx;exact⟨_,lw3,rfl⟩
         | i+3,hx=>cases hx
        refine yaT ?_
        left
        refine⟨wd,ynK tl,rfl,lw,λH'' s''=>ybr ?_⟩
        refine i_F ?_
        exact⟨⟨_,rfl⟩,sm'.trans s''⟩
       ·rintro σ H' ⟨⟨o,rfl⟩,sm'⟩
        exact hN _ _ ⟨⟨_,rfl⟩,s0N.trans (s6.trans sm'),(dN.same (s6.trans sm')).up (by omega)⟩
      ·rintro σ HK ⟨⟨o,rfl⟩,s0K,dK⟩
       dsimp only
       refine ycn (yjJ (yqG ?_))
       refine(show yki _ (.ls yu3) from ?_) _ _ _ λw1 HL sL iL=>?_
       ·refine ypQ ?_ (by decide)
        repeat (first | exact ysv | refine yrL ?_ ?_ | exact yvn | refine ypQ ?_ (by decide) | refine ytA ?_ (by decide) | exact yrk rfl)
       rw[Is] at iL
       obtain⟨p7,zs,rfl,e7,is7⟩:=iL
       obtain⟨f7,e7⟩:=yb4 e7
       have dL:=dK.same sL
       left
       refine⟨a,tp,ns,_,7,rfl,dL,by omega,by decide,λv HM v0 v1 tM dM=>?_⟩
       have l7:zs.length=7:=is7.len
       obtain⟨y,ey,iy7⟩:=is7.at' v.toNat (by show v.toNat < 7;omega)
       have ea7:=yav ey
       rw[Int.toNat_of_nonneg v0] at ea7
       refine ybq (SqL.of (tM _ _ (dK.ne f7) e7)) ea7 ?_
       have iyM:=iy7.same (dK.fr tM)
       obtain⟨k,nk,hk⟩:=ylR iyM (ypI _ (List.getElem_mem _))
       have hk:=KndOf.sm (yhv _ _) hk
       have s0M:Same S2 HM:=λc u e=>tM c u (yak e tS2) (sL _ _ (s0K _ _ e))
       left
       refine⟨y,k,ynK tl,rfl,hk,λ_=>⟨rfl,ybr ?_⟩,λw e=>?_⟩
       ·rw[decide_eq_true rfl]
        refine i_T ?_
        left
        refine⟨y1,_,tlT tl,rfl,yde gd,i1.same s0M,iyb.same s0M,λHN sN=>ybr ?_⟩
        refine i_T ?_
        left
        refine⟨_,.str,ynK tl+1,rfl,.str _,λz=>absurd rfl z,λw e=>?_⟩
        cases e
        have sR:=ysa (ynK tl+1)
        refine⟨by ac_rfl,λe=>(by rw[sR] at e;cases e),λtl2 e x2 HP sP sg2=>?_⟩
        rw[sR] at e
        cases e
        obtain⟨a2,dx2,fs2,rfl,ea2,_,_,l32⟩:=sg2.at
        refine⟨_,a2,dx2,fs2,rfl,ea2,l32,_,_,rfl,rfl,trivial,sg2,?_⟩
        left
        rw[show decide (tg (.whole (ynK tl+1))=ynK tl+1)=true from decide_eq_true rfl]
        exact q _
       ·rw[e] at hk
        cases hk
        exact absurd rfl nk
end
end KS
namespace KS
open PySem L2
section
variable {P:Program} {w:World} {K:qF} {mg:Str->Option Value} {base:Heap} {t:Ad}
theorem yqU (T:Txt K mg t):FnOk P w K mg base CX0 9 t.f_zaQ t.d_zaQ ["_law_script"] (yku K):=yp0 T
theorem all_mk {l:PySem.W.OpenLaw}{w:World}{K:qF}{mg:Str->Option Value}{fa:Addr}(hfa:mg "law"=some (.ref fa))(h:∃ t,Txt K mg t/\∀ (s:Shared) (v:Value),BindsTo s t.d_zaQ ⟨[v],[]⟩ [("_law_script",v)]) :
  ∃ fd:FuncData,(∀ (s:Shared) (v:Value),BindsTo s fd ⟨[v],[]⟩ [("_law_script",v)])/\∀ base:Heap,K.In base->base.Ns mainGlobals mg->FnOk l.prog w K mg base CX0 9 fa fd ["_law_script"] (yku K):=by
 obtain⟨t,T,hb⟩:=h
 have e:=hfa.symm.trans T.RD.M
 cases e
 exact⟨_,hb,λbase _ _=>yqU T⟩
theorem walk {l:PySem.W.OpenLaw}{q:Program}{loose:List Str}{XP:(Str->Option Value)->Heap->Prop}{YP:World->Heap->Prop}{d:DefRec}{K:Params->qF}(hn:l.most=some 63)(hdf:d.params.defaults=[])
  (hY:∀ (w:World) (h:Heap),YP w h->(K w.params).In h)
  (F:∀ (w:World) (mg:Str->Option Value) (fa:Addr) (h:Heap),(K w.params).In h->h.Ns mainGlobals mg->mg d.name=some (.ref fa) ->
   ∃ fd:FuncData,(∀ (s:Shared) (u:Value),BindsTo s fd ⟨[u],[]⟩ [("_law_script",u)])/\∀ base:Heap,(K w.params).In base->base.Ns mainGlobals mg->FnOk l.prog w (K w.params) mg base CX0 9 fa fd ["_law_script"] (yku (K w.params))) :
  PySem.W.WalkO q loose XP YP l.row.toRowW d [] (λf vs=>PySem.call f vs) :=
 L2.walk_ofB (n:=63) (k:=9) (x := "_law_script") (CX:=λ_=>CX0) (sp:=λw=>yku (K w.params)) hn (by decide) hdf ⟨rfl,by decide,by decide⟩ hY F (λ_ _ a ns hl hb _ hS=>⟨a,ns,rfl,hS,hb,λ_=>rfl⟩) λ_ _ _ _ _ z=>z
theorem lnS {u:List Value}{n:Nat}(h:u.length=n+1):∃ a r,u=a::r/\r.length=n:=by
 cases u with
 | nil=>cases h
 | cons a r=>exact ⟨a,r,rfl,Nat.succ.inj h⟩
theorem ln0 {u:List Value}(h:u.length=0):u=[]:=List.eq_nil_of_length_eq_zero h
theorem ln1 {u:List Value}(h:u.length=1):∃ a,u=[a]:=by
 obtain⟨a,r,rfl,k⟩:=lnS h
 cases ln0 k
 exact ⟨a,rfl⟩
theorem ln2 {u:List Value}(h:u.length=2):∃ a b,u=[a,b]:=by
 obtain⟨a,r,rfl,k⟩:=lnS h
 obtain⟨b,rfl⟩:=ln1 k
 exact ⟨a,b,rfl⟩
theorem ln3 {u:List Value}(h:u.length=3):∃ a b c,u=[a,b,c]:=by
 obtain⟨a,r,rfl,k⟩:=lnS h
 obtain⟨b,c,rfl⟩:=ln2 k
 exact ⟨a,b,c,rfl⟩
theorem ln8 {u:List Value}(h:u.length=8):∃ a b c d e f g h,u=[a,b,c,d,e,f,g,h]:=by
 obtain⟨a,r,rfl,k⟩:=lnS h
 obtain⟨b,s,rfl,l⟩:=lnS k
 obtain⟨c,t,rfl,m⟩:=lnS l
 obtain⟨d,u,rfl,n⟩:=lnS m
 obtain⟨e,v,rfl,o⟩:=lnS n
 obtain⟨f,g,h',rfl⟩:=ln3 o
 exact ⟨a,b,c,d,e,f,g,h',rfl⟩
theorem yaA {K:qF}{h:Heap}{mg:Str->Option Value}{n:Str}{m:Nat}{ps:List Str}{f:Addr}{od an:Option Addr}{sl:Array (Option Value)}{oc kV dc pm cd ct:Value}(X:K.In h)(G:h.Ns mainGlobals mg)
  (a:PySem.W.nsIn K mainGlobals n=some (some (.ref f)):=by (try dsimp only);k_is) (l:K.lookup f=some ⟨oc,od,.func (PySem.W.fnOf n n (ycm (top m)) (ybT (top m)) (yai (top m)) .none kV dc pm an cd ct),sl⟩:=by (try dsimp only);k_is)
  (c:PySem.W.codeIn K cd n=true:=by (try dsimp only);k_is) (k:PySem.W.keepIn K (.ref f)=true:=by (try dsimp only);k_is)
  (e:∀ (kV dc pm:Value) (an:Option Addr) (cd ct:Value) (us:List Value),us.length=ps.length->bindArgs (PySem.W.fnOf n n (ycm (top m)) (ybT (top m)) (yai (top m)) .none kV dc pm an cd ct) ⟨us,[]⟩=pure (ps.zip us):=by first | (intro _ _ _ _ _ _ us hl;cases ln0 hl;rfl) | (intro _ _ _ _ _ _ us hl;obtain⟨_,rfl⟩:=ln1 hl;rfl) | (intro _ _ _ _ _ _ us hl;obtain⟨_,_,rfl⟩:=ln2 hl;rfl) | (intro _ _ _ _ _ _ us hl;obtain⟨_,_,_,rfl⟩:=ln3 hl;rfl) | (intro _ _ _ _ _ _ us hl;obtain⟨_,_,_,_,_,_,_,_,rfl⟩:=ln8 hl;rfl)) :
  FM K mg n m ps f (PySem.W.fnOf n n (ycm (top m)) (ybT (top m)) (yai (top m)) .none kV dc pm an cd ct) :=
 ⟨yig l c k,(yig l c k).binds e,PySem.W.mg_of X G a⟩
theorem mN {K:qF}{n q:Str}{m:Nat}{ps:List Str}{f:Addr}{od an:Option Addr}{sl:Array (Option Value)}{oc kV dc pm cd ct:Value}
  (l:K.lookup f=some ⟨oc,od,.func (PySem.W.fnOf n q (ycm (top m)) (ybT (top m)) (yai (top m)) .none kV dc pm an cd ct),sl⟩:=by (try dsimp only);k_is)
  (c:PySem.W.codeIn K cd q=true:=by (try dsimp only);k_is) (k:PySem.W.keepIn K (.ref f)=true:=by (try dsimp only);k_is)
  (e:∀ (kV dc pm:Value) (an:Option Addr) (cd ct:Value) (us:List Value),us.length=ps.length->bindArgs (PySem.W.fnOf n q (ycm (top m)) (ybT (top m)) (yai (top m)) .none kV dc pm an cd ct) ⟨us,[]⟩=pure (ps.zip us):=by first | (intro _ _ _ _ _ _ us hl;cases ln0 hl;rfl) | (intro _ _ _ _ _ _ us hl;obtain⟨_,rfl⟩:=ln1 hl;rfl) | (intro _ _ _ _ _ _ us hl;obtain⟨_,_,rfl⟩:=ln2 hl;rfl) | (intro _ _ _ _ _ _ us hl;obtain⟨_,_,_,rfl⟩:=ln3 hl;rfl) | (intro _ _ _ _ _ _ us hl;obtain⟨_,_,_,_,_,_,_,_,rfl⟩:=ln8 hl;rfl)) :
  FN K n q m ps f (PySem.W.fnOf n q (ycm (top m)) (ybT (top m)) (yai (top m)) .none kV dc pm an cd ct) :=
 ⟨yig l c k,(yig l c k).binds e⟩
section
variable {K:qF} {h:Heap} {mg:Str->Option Value} {n:Str} {v:Value} {f C:Addr}
theorem mV (X:K.In h)(G:h.Ns mainGlobals mg)(a:PySem.W.nsIn K mainGlobals n=some (some v):=by (try dsimp only);k_is):mg n=some v:=PySem.W.mg_of X G a
theorem mZ (X:K.In h)(G:h.Ns mainGlobals mg)(a:PySem.W.nsIn K mainGlobals n=some none:=by (try dsimp only);k_is):mg n=none:=PySem.W.mg_none_of X G a
theorem mK (a:PySem.W.makesIn K C=true:=by (try dsimp only);k_is)(b:PySem.W.findIn K (.ref C) "__init__"=some (some (.ref f)):=by (try dsimp only);k_is)(c:PySem.W.isFn K (.ref f)=true:=by (try dsimp only);k_is)(d:PySem.W.keepIn K (.ref C)=true:=by (try dsimp only);k_is):Mk K C f:=⟨a,b,c,d⟩
theorem mM (a:PySem.W.findIn K (.ref C) n=some (some (.ref f)):=by (try dsimp only);k_is)(b:PySem.W.isFn K (.ref f)=true:=by (try dsimp only);k_is)(c:PySem.W.keepIn K (.ref f)=true:=by (try dsimp only);k_is):ycw K C n f:=⟨a,b,c⟩
theorem mL (a:PySem.W.plainGet K C Str.empty=true:=by (try dsimp only);k_is)(b:PySem.W.hasDictIn K C=true:=by (try dsimp only);k_is)(c:PySem.W.plainOver K C=true:=by (try dsimp only);k_is)(d:PySem.W.findIn K (.ref C) "__setattr__"=some (some (.builtin "object.__setattr__")):=by (try dsimp only);k_is):Cls K C:=⟨a,b,c,d⟩
theorem mO (a:PySem.W.findIn K (.ref C) "__class__"=some (some (.builtin "object.__class__")):=by (try dsimp only);k_is)(b:PySem.W.specialIn K (.builtin "object.__class__") "__get__"=some (some (.builtin "getset_descriptor.__get__")):=by (try dsimp only);k_is)(c:PySem.W.takesIn K (.builtin "object.__class__")=some true:=by (try dsimp only);k_is)(d:PySem.W.mroIn K C (.type "object")=some true:=by (try dsimp only);k_is):ClsObj K C:=⟨a,b,c,d⟩
theorem mA (a:PySem.W.findIn K (.ref C) n=some none:=by (try dsimp only);k_is):NoAttr K C n:=a
theorem mQ {xs:List V}{i:List Value}{k:Nat}(l:K.lookup f=some ⟨.type "tuple",none,.seq i.toArray k,#[]⟩:=by (try dsimp only);k_is)(v:ylF xs i=true:=by rfl)(y:i.length<=1000:=by decide):TupIn K f xs:=ymh l v (by simpa using y)
theorem mG (a:PySem.W.makesIn K C=true:=by (try dsimp only);k_is)(b:PySem.W.findIn K (.ref C) "__init__"=some (some (.builtin "object.__init__")):=by (try dsimp only);k_is)(c:PySem.W.keepIn K (.ref C)=true:=by (try dsimp only);k_is):Mk0 K C:=⟨a,b,c⟩
theorem mD {qs:List (Int×Int)}{es:List DictEntry}{k:Nat}(l:K.lookup f=some ⟨.type "dict",none,.dict es.toArray k,#[]⟩:=by (try dsimp only);k_is)(v:yi6 qs es=true:=by rfl)(y:(f==sysModules)=false:=by rfl)(d:(qs.map (·.1)).Nodup:=by decide):DctIn K f qs:=ymY l v y d
end
end
section
open PySem PySem.W PyProof.Rows
theorem txx {w:World}{mg:Str->Option Value}{h:Heap}(X:(pre.heap_1 w.params).In h)(G:h.Ns mainGlobals mg):∃ t,Txt (pre.heap_1 w.params) mg t/\∀ (s:Shared) (v:Value),BindsTo s t.d_zaQ ⟨[v],[]⟩ [("_law_script",v)] :=
 ⟨⟨_,_,_,_,_,_,_,_,_,_,_,_,_,_,_,_,_,_,_,_,_,_,_,_,_,_,_,_,_,_,_,_,_,_,_,_,_,_,_,_,_,_,_,_,_,_,_,_,_,_,_,_,_,_,_,_,_,_,_,_,_,_,_,_,_,_,_,_,_,_,_,_,_,_,_,_,_,_,_,_,_,_,_,_,_,_,_,_,_,_,_,_,_,_,_,_,_,_,_,_,_,_,_,_,_,_,_,_,_,_,_,_,_,_,_,_,_,_,_,_,_,_,_,_,_,_,_,_,_,_,_,_,_,_,_,_,_,_,_,_,_,_,_,_,_,_,_,_,_,_,_,_,_,_,_,_,_,_,_,_,_,_,_,_,_,_,_,_,_,_,_,_,_,_,_,_,_,_,_,_,_,_,_,_,_,_,_,_,_,_,_,_,_⟩,⟨mV X G,mV X G,mV X G,mV X G,mV X G,mV X G,mV X G,mV X G,mV X G,mV X G,mV X G,mV X G,mK,mK,mK,mK,mK,mG,mG,mK,mG,mG,mG,mM,mM,mM,mM,mM,mM,mM,mM,mM,mM,mM,mM,mM,mM,mM,mM,mM,mM,mM,mM,mM,mM,mM,mM,mM,mM,mM,mM,mM,mM,mM,mM,mM,yaA X G,yaA X G,yaA X G,yaA X G,yaA X G,yaA X G,yaA X G,yaA X G,yaA X G,yaA X G,yaA X G,yaA X G,yaA X G,yaA X G,yaA X G,yaA X G,yaA X G,yaA X G,yaA X G,yaA X G,mN,mN,mN,mN,mN,mN,mN,mN,mN,mN,mN,mN,mN,mN,mN,mN,mN,mN,mN,mN,mN,mN,mN,mN,mN,mN,mN,mN,mN,mN,mN,mN,yaA X G,yaA X G,yaA X G,yaA X G,yaA X G,yaA X G,yaA X G,yaA X G,yaA X G,yaA X G,yaA X G,yaA X G,yaA X G,yaA X G,yaA X G,yaA X G,yaA X G,yaA X G,yaA X G,yaA X G,yaA X G,yaA X G,yaA X G,yaA X G,yaA X G,yaA X G,yaA X G,yaA X G,yaA X G,yaA X G,yaA X G,yaA X G,yaA X G,yaA X G,yaA X G,yaA X G,yaA X G,mZ X G,mZ X G,mZ X G,mZ X G,mZ X G,mZ X G,mZ X G,mZ X G,mZ X G,mZ X G,mZ X G,mZ X G,⟨_,mV X G⟩,⟨_,mV X G⟩,⟨_,mV X G⟩,⟨_,mV X G⟩,⟨_,mV X G⟩,⟨_,mV X G⟩,⟨_,mV X G⟩,⟨_,mV X G⟩,mV X G,mD,⟨_,mV X G⟩,mV X G,mQ,⟨_,mV X G⟩,mV X G,mQ,⟨_,mV X G⟩,⟨_,mV X G⟩,mL,mO,mA,mA,mA,mA,mA,mA,mA,mL,mO,mA,mL,mO,mA,mL,mO,mA,mL,mO,mA,mL,mO,mL,mO,mL,mO,mA,mL,mO,mL,mO,mL,mO,(by kernel_rfl)⟩,λs v=>.of_eq rfl⟩
end
end KS
open PySem PySem.W PyProof.Rows
set_option maxRecDepth 100000 in
set_option maxHeartbeats 0 in
theorem PySem.Challenge.cw_barwright_k14_signs_as_words_holds : PySem.Challenge.rw_barwright_k14_signs_as_words.Holds := by
 refine KS.headx ?_
 k_fill
 refine KS.walk (l:=PySem.Challenge.rw_barwright_k14_signs_as_words) (K:=KS.pre.heap_1) rfl KS.dx_dfl (λw h Y=>PySem.W.kIn_of Y) ?F
 case F =>
  intro w mg fa h KX G hmg
  rw[KS.dx_name] at hmg
  exact KS.all_mk hmg (KS.txx KX G)
