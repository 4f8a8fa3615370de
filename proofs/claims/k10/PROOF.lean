import PyProof.Rows.All
import Wide.All
import OpenK.AllK
import Wide.FinOn
import Lean
import PyProof.EqAt
import PyProof.EqKinds
import PyProof.TupleCall
import PyProof.NeKinds
import PyProof.CompFree
import PyProof.EnumMake
import PyProof.Draws
import PyProof.Rows.CallKwBuiltin
import KE.KNest
import PyProof.SumWalk
import PyProof.WalksMore
import PyProof.ZipIter
import PyProof.DictWalks
import PyProof.DictKinds
import PyProof.DictStraight
import KE.KSortKey
import KE.KLam
import KE.KSortAsk
import KE.KSortTup
import PyProof.ListRange
import PyProof.CollectIter
import KE.KRevSl
import PyProof.AutoSeq1
import PyProof.TupleIter
import KE.KMinKey
import PyProof.Rows.Range3
import KE.KRevIter
import PyProof.DictDisplay
import PyProof.Rows.MinMaxN
import PyProof.StrWalks
import KE.KIntText
import PyProof.Rows.StrNews2
import PyProof.StrCalls6
import PyProof.StrLawsIn
import PyProof.StrBlockL
import KE.IntTextLaws
import OpenK.KCls
import KE.IntBitsLaws
import KE.RegKIsAll
import PySem.Challenge.RW_barwright_k10_whole_texts_of_tunes
set_option bootstrap.genMatcherCode false
set_option Elab.async false
set_option linter.all false
set_option maxRecDepth 100000
set_option maxHeartbeats 4000000
namespace KD
section
open PySem PySem.W PyProof.Rows
noncomputable def ytX (p:Program)(w:World)(N:Nat):Option Shared :=
 ((Fast.tw10274390034422433532 Fast.tw14364793385576792824 (opening p) w N (Fast.tw1435165496053646825 (opening p)).fst (Fast.tw1435165496053646825 (opening p)).snd).bind (Fast.tw14289696077712309145 p)).bind
  λs₀=>match s₀.heap.isNs mainGlobals&&s₀.gens.size==0 with
  | true=>(Fast.tw14082659384304107361 Fast.tw14364793385576792824 p w s₀.heap.objs.size (s₀.heap.nsMap mainGlobals (Str.ofString "__annotations__")) N s₀ (topStub p)).bind
    λs₁=>match staticsOk (importedModules p.main.body) s₀.heap s₁.heap&&namesBound p s₁.heap&&gensDone s₁&&laidKept s₀.heap s₁.heap with
    | true=>some s₁
    | false=>none
  | false=>none
noncomputable abbrev yc3 (p q:Program)(loose:List Str)(Xt:Shared->Bool):=Fast.tw4187177175401517315 q loose (importedModules p.main.body) Xt true
theorem ynL {p q:Program}{loose:List Str}{Xt:Shared->Bool}{α:Type}{Yf:Shared->α}{a:α}{N:Nat}{w:World}{s:Shared}(hr:ytX p w N=some s/\True)
  (h1:(yc3 p q loose Xt s).1=PyProof.Rows.expectedOf q/\True)
  (h2:((yc3 p q loose Xt s).2.1,(yc3 p q loose Xt s).2.2.2.2.1,(yc3 p q loose Xt s).2.2.2.2.2.2.1,(yc3 p q loose Xt s).2.2.2.2.2.2.2.2)=(bltViewBooted,pinGoodD (PyProof.Rows.drecsOf q),PyProof.Rows.plainGoodD q loose,clsGoodW q loose)/\True)
  (h3:(yc3 p q loose Xt s).2.2.1=true/\True) (h4:(yc3 p q loose Xt s).2.2.2.1=true/\True) (h5:(yc3 p q loose Xt s).2.2.2.2.2.1=PyProof.Rows.plainGoodE q (looseW q loose)/\True) (h6:(yc3 p q loose Xt s).2.2.2.2.2.2.2.1=wideGood q/\True) (h7:Yf s=a/\True) :
  (openEnds treeTable p w N).map (λs=>(openSeen q loose (importedModules p.main.body) Xt true s,Yf s))=some (openGood q loose,a):=by
 unfold openEnds fencedOpening topFrom
 rw[Fast.te14364793385576792824,Fast.te10274390034422433532,Fast.te4187177175401517315,Fast.te14082659384304107361,Fast.te1435165496053646825,Fast.te14289696077712309145]
 show(ytX p w N).map _=_
 rw[hr.1]
 have h2:=h2.1
 simp only[Option.map_some,Option.some.injEq,Prod.mk.injEq] at h2 ⊢
 exact⟨Prod.ext h1.1 (Prod.ext h2.1 (Prod.ext h3.1 (Prod.ext h4.1 (Prod.ext h2.2.1 (Prod.ext h5.1 (Prod.ext h2.2.2.1 (Prod.ext h6.1 h2.2.2.2))))))),h7.1⟩
theorem yqm {l:OpenLaw}(ok:Fast.tw9446332074065402090 l=true/\True)(h:l.row.wellSaid=true->l.row.Holds):l.Holds:=by
 refine holds_law ?_ h
 rw[Fast.te9446332074065402090]
 exact ok.1
noncomputable def bs (i:Nat):Stmt:=PySem.Challenge.pw_barwright_k10_whole_texts_of_tunes.main.body.getD i (.Pass ⟨0,0,0,0⟩)
noncomputable def cs (i j:Nat):Stmt:=match bs i with
 | .ClassDef _ _ _ b _ _ _ _ _ _ _=>b.getD j (.Pass ⟨0,0,0,0⟩)
 | s=>s
noncomputable def aO (s:Stmt):Arguments:=match s with
 | .FunctionDef _ a _ _ _ _ _ _ _ _=>a
 | _=>⟨[],[],none,[],[],none,[]⟩
noncomputable def bO (s:Stmt):List Stmt:=match s with
 | .FunctionDef _ _ b _ _ _ _ _ _ _=>b
 | _=>[]
noncomputable def sO (s:Stmt):Scope:=match s with
 | .FunctionDef _ _ _ _ _ _ sc _ _ _=>sc
 | _=>{ kind:=.function,names:=[],isGenerator:=false,isCoroutine:=false }
noncomputable def fd (n q:Str)(st:Stmt)(g:Addr)(pm cd:Value):FuncData:=⟨n,q,aO st,.stmts (bO st),sO st,g,[],.none,.none,.none,pm,none,cd,.none,0⟩
noncomputable def de (P:Params)(k:Str)(t:Tok)(v:Value):DictEntry:=⟨PyData.keyHash P k,.str k t,v⟩
noncomputable def ut (l:List Value):Obj:=⟨.type "tuple",none,.seq ⟨l⟩ 0,#[]⟩
noncomputable def uf (l:List Value):Obj:=⟨.none,none,.fields ⟨l⟩,#[]⟩
noncomputable def uh2 (n q:Str)(s:Stmt):Obj:=⟨.none,none,.func (fd n q s 0 .none .none),#[]⟩
noncomputable def uh (n:Str)(s:Stmt):Obj:=uh2 n n s
noncomputable def uu (n q:Str)(s:Stmt)(m:Str)(t:Tok)(c:Addr):Obj:=⟨.type "function",none,.func (fd n q s 3 (.str m t) (.ref c)),#[]⟩
noncomputable def uc (n q:Str)(t:Tok)(l a:Int)(r:Addr)(x y:Value)(h:Addr)(z:Tok):Obj:=⟨.type "code",none,.fields #[.str n t,.str q (t+1),.str "/claim/cut.py" (t+2),.int l 0,.int a 0,.int 0 0,.int 0 0,.int 3 0,.ref r,.bool true,.int 181 0,.ref (r+1),.none,x,y,.ref h,.int z 0,.int l 0,.str "/claim/cut.py" (z+1)],#[]⟩
noncomputable def nmO (s:Stmt):Str:=match s with
 | .FunctionDef n _ _ _ _ _ _ _ _ _=>n
 | _ => ""
noncomputable def m0:Str := "__main__"
noncomputable def m1:Str := "barwright.words"
noncomputable def m2:Str := "barwright.amounts"
noncomputable def m3:Str := "barwright.errors"
noncomputable def m4:Str := "barwright.pitches"
noncomputable def m5:Str := "barwright.keys"
noncomputable def m6:Str := "barwright.metres"
noncomputable def m7:Str := "barwright.tunes"
noncomputable def m8:Str := "barwright.reading"
noncomputable def m9:Str := "law_barwright_k10_whole_texts_of_tunes"
noncomputable def ua (i:Nat)(m:Str)(t:Tok)(c:Addr):Obj:=uu (nmO (bs i)) (nmO (bs i)) (bs i) m t c
noncomputable def ui (i:Nat):Obj:=uh (nmO (bs i)) (bs i)
noncomputable def rf (n:Nat):Value:=cond (n==0) .none (.ref n)
noncomputable def ud (i:Nat)(t:Tok)(l a:Int)(r:Addr)(x y:Nat)(h:Addr)(z:Tok):Obj:=uc (nmO (bs i)) (nmO (bs i)) t l a r (rf x) (rf y) h z
noncomputable def ub (a:String)(v:Value):Obj:=⟨.type "builtin_function_or_method",none,.fields #[.builtin a,v],#[]⟩
noncomputable def up:Obj:=ub "type.__prepare__" (.type "type")
noncomputable def uq (r:Addr):Obj:=ub "object.__init_subclass__" (.ref r)
noncomputable def us (r:Addr):Obj:=⟨.type "super",none,.fields #[.ref r,.ref r,.ref r],#[]⟩
noncomputable def ug (t:Tok)(r:Addr):Obj:=⟨.type "getset_descriptor",none,.fields #[.str "__weakref__" t,.ref r,.builtin "ExceptionGroup.__weakref__",.none],#[]⟩
noncomputable def uv (c d:Addr)(m:Str)(t:Tok):Obj:=⟨.type "frame",none,.plain,#[some (.ref c),some (.ref 3),some (.ref d),none,some (.str m t),none,some (.ref 0)]⟩
noncomputable def uk (n:Str)(t:Tok)(l:Int)(r:Addr)(q:Int):Obj:=⟨.type "code",none,.fields #[.str n t,.str n (t+1),.str "/claim/cut.py" (t+2),.int l 0,.int 0 0,.int 0 0,.int 0 0,.int 0 0,.ref r,.bool false,.int q 0,.ref (r+1),.none,.none,.none,.none,.int ((t+3:Nat):Int) 0,.int l 0,.str "/claim/cut.py" (t+4)],#[]⟩
noncomputable def dd (l:List DictEntry)(n:Nat):Obj:=⟨.type "dict",none,.dict ⟨l⟩ n,#[]⟩
noncomputable def db (P:Params)(n:Nat)(l:List String):List DictEntry:=(l.zipIdx n).map λx=>de P (Str.ofString x.1) x.2 (.builtin x.1)
noncomputable def dt (P:Params)(n:Nat)(l:List String):List DictEntry:=(l.zipIdx n).map λx=>de P (Str.ofString x.1) x.2 (.type x.1)
noncomputable def dr (P:Params)(l:List (Str×Tok×Nat)):List DictEntry:=l.map λx=>de P x.1 x.2.1 (.ref x.2.2)
noncomputable def di (P:Params)(l:List (Str×Tok×Int)):List DictEntry:=l.map λx=>de P x.1 x.2.1 (.int x.2.2 (x.2.1 - 1))
noncomputable def uw (k:Int)(l:List (Int×Nat)):Obj:=uf (l.flatMap λx=>[.int x.1 0,.int k 0,.ref x.2])
noncomputable def u0:Obj:=ut []
noncomputable def u1:Obj:=uf []
noncomputable def hf (P:Params):List Obj:=[
 dd ([de P "__name__" 1 (.str "builtins" 160),de P "__doc__" 2 (.builtin "builtins.__doc__:str#opaque"),de P "__package__" 3 (.builtin "builtins.__package__:str#opaque"),de P "__loader__" 4 (.builtin "builtins.__loader__:shared#opaque"),de P "__spec__" 5 (.builtin "builtins.__spec__#opaque")]++db P 6 ["__build_class__","__import__","abs","all","any","ascii","bin","breakpoint","callable","chr","compile","delattr","dir","divmod","eval","exec","format","getattr","globals","hasattr","hash","hex","id","input","isinstance","issubclass","iter","aiter","len","locals","max","min","next","anext","oct","ord","pow","print","repr","round","setattr","sorted","sum","vars"]++[de P "None" 50 (.none),de P "Ellipsis" 51 (.ellipsis),de P "NotImplemented" 52 (.notImplemented),de P "False" 53 (.bool false),de P "True" 54 (.bool true)]++dt P 55 ["bool","memoryview","bytearray","bytes","classmethod","complex","dict","enumerate","filter","float","frozenset","property","int","list","map","object","range","reversed","set","slice","staticmethod","str","super","tuple","type","zip"]++[de P "__debug__" 81 (.bool true)]++dt P 82 ["BaseException","BaseExceptionGroup","Exception","GeneratorExit","KeyboardInterrupt","SystemExit","ArithmeticError","AssertionError","AttributeError","BufferError","EOFError","ImportError","LookupError","MemoryError","NameError","OSError","ReferenceError","RuntimeError","StopAsyncIteration","StopIteration","SyntaxError","SystemError","TypeError","ValueError","Warning","FloatingPointError","OverflowError","ZeroDivisionError","BytesWarning","DeprecationWarning","EncodingWarning","FutureWarning","ImportWarning","PendingDeprecationWarning","ResourceWarning","RuntimeWarning","SyntaxWarning","UnicodeWarning","UserWarning","BlockingIOError","ChildProcessError","ConnectionError","FileExistsError","FileNotFoundError","InterruptedError","IsADirectoryError","NotADirectoryError","PermissionError","ProcessLookupError","TimeoutError","IndentationError","_IncompleteInputError","IndexError","KeyError","ModuleNotFoundError","NotImplementedError","PythonFinalizationError","RecursionError","UnboundLocalError","UnicodeError","BrokenPipeError","ConnectionAbortedError","ConnectionRefusedError","ConnectionResetError","TabError","UnicodeDecodeError","UnicodeEncodeError","UnicodeTranslateError","ExceptionGroup"]++[de P "EnvironmentError" 151 (.type "OSError"),de P "IOError" 152 (.type "OSError"),de P "open" 153 (.builtin "open"),de P "quit" 154 (.builtin "builtins.quit#opaque"),de P "exit" 155 (.builtin "builtins.exit#opaque"),de P "copyright" 156 (.builtin "builtins.copyright#opaque"),de P "credits" 157 (.builtin "builtins.credits#opaque"),de P "license" 158 (.builtin "builtins.license#opaque"),de P "help" 159 (.builtin "builtins.help#opaque")]) 159,
 dd (dr P [("builtins",162,4),("__main__",163,5)]) 2,⟨.none,none,(.dict #[] 0),#[]⟩,
 dd ([de P "__name__" 165 (.str "law_barwright_k10_whole_texts_of_tunes" 958),de P "__doc__" 166 (.none),de P "__package__" 167 (.none),de P "__loader__" 168 (.builtin "__main__.__loader__#opaque"),de P "__spec__" 169 (.none)]++dr P [("__annotations__",170,6),("__builtins__",171,4)]++[de P "__file__" 173 (.str "/claim/cut.py" 172),de P "__cached__" 174 (.none),de P "FIGURES" 190 (.str "0123456789" 189),de P "SYLLABLE_SIGNS" 192 (.str "abcdefghijklmnopqrstuvwxyzABCDEFGHIJKLMNOPQRSTUVWXYZ-" 191)]++di P [("MOST_FIGURES",194,4),("MOST_SYLLABLE_SIGNS",196,12)]++dr P [("is_whole",203,21),("is_among",212,28),("do_rise",218,33),("has_only",224,38),("is_syllable",231,45),("are_figures",238,52),("number_of",246,59),("number_text",253,66),("words_of",261,73)]++di P [("GRAINS",265,96),("MOST_GRAINS",267,4608)]++dr P [("common",276,80),("pair_of",284,87),("amount_text",293,94),("grains_of",303,101),("whole_grains",312,108),("TuneError",332,118),("BadRow",357,138),("BadTune",373,150)]++[de P "LETTERS" 377 (.str "cdefgab" 376),de P "LEAN_WORDS" 383 (.ref 153),de P "OCTAVE_FIGURES" 385 (.str "012345678" 384)]++dr P [("is_pitch",392,160),("pitch_of",400,167),("parts_of",409,174),("pitch_text",417,181),("line",424,188)]++[de P "MOST_SIGNS" 428 (.int 7 427)]++dr P [("is_key",435,195),("key_of",443,202)]++[de P "MOST_TOP" 447 (.int 12 446),de P "BOTTOMS" 451 (.ref 203),de P "MOST_BAR_GRAINS" 453 (.int 192 452)]++dr P [("is_metre",462,210),("are_groups",468,215),("metre_of",479,222),("numbers_of",485,227),("metre_text",491,232),("unit_grains",498,239),("bar_grains",505,246)]++di P [("LEAST_GRAINS",509,2),("MOST_REST_GRAINS",511,4608),("MOST_TONES_GRAINS",513,384),("MOST_PITCHES",515,4),("MOST_SOUNDS",517,96),("MOST_VOICES",519,2),("MOST_BARS",521,24)]++dr P [("Sound",557,270),("Rest",580,291),("Tones",619,317),("Tune",693,374),("need",701,385),("sound_of",708,392),("is_rest_told",715,399),("is_tones_told",722,406),("is_told_as",731,413),("are_tones",737,418),("is_word",744,425),("voices_of",750,430),("voice_of",756,435),("tidy",765,442),("ends_in_rest",772,449),("grains_in",778,454),("long_rest",785,461),("need_slurs",794,468),("changes_of",800,473),("is_change",808,480),("frames_for",821,487),("last_at",827,492),("need_within",835,499),("KINDS",840,500)]++di P [("METRE",842,0),("KEY",844,1)]++dr P [("read_tune",854,507),("of_kind",860,512),("changes_in",871,519),("change_in",882,526),("named_change",892,533),("voices_in",904,540),("may_begin_another",911,547),("told_in",917,552),("tones_in",930,559),("tune_text",936,564),("changes_told",942,569),("change_row",951,576),("sound_row",957,581),("_law_draw",970,588),("_law_metre",979,595),("_law_pitches",990,602),("_law_syllable",996,607),("_law_length",1005,614),("_law_voice",1023,621),("_law_tidy",1032,628),("_law_lasts",1038,633),("_law_frames",1051,640),("_law_changes",1062,647),("_law_voices",1068,652),("_law_amount",1079,659),("_law_row",1092,666),("_law_metre_text",1098,671),("_law_rows",1104,676),("_law_all_told",1110,681),("_law_drawn",1116,686),("law",1122,691)]) 117,
 ⟨.type "module",(some 0),.plain,#[]⟩,⟨.type "module",(some 3),.plain,#[]⟩,dd ([]) 0,u0,u1,uk "<module>" 176 1 7 175,uv 9 3 m0 164,u0,
 uf [.int 6 0,.int 0 0,.ref 20,.int 8 0,.int 0 0,.ref 27,.int 10 0,.int 0 0,.ref 32,.int 12 0,.int 0 0,.ref 37,.int 14 0,.int 0 0,.ref 44,.int 18 0,.int 0 0,.ref 51,.int 22 0,.int 0 0,.ref 58,.int 29 0,.int 0 0,.ref 65,.int 31 0,.int 0 0,.ref 72,.int 39 0,.int 0 0,.ref 79,.int 45 0,.int 0 0,.ref 86,.int 48 0,.int 0 0,.ref 93,.int 54 0,.int 0 0,.ref 100,.int 65 0,.int 0 0,.ref 107,.int 71 0,.int 0 0,.ref 114,.int 73 0,.int 0 0,.ref 127,.int 77 0,.int 0 0,.ref 146,.int 83 0,.int 0 0,.ref 159,.int 87 0,.int 0 0,.ref 166,.int 92 0,.int 0 0,.ref 173,.int 100 0,.int 0 0,.ref 180,.int 103 0,.int 0 0,.ref 187,.int 107 0,.int 0 0,.ref 194,.int 109 0,.int 0 0,.ref 201,.int 116 0,.int 0 0,.ref 209,.int 124 0,.int 0 0,.ref 214,.int 130 0,.int 0 0,.ref 221,.int 140 0,.int 0 0,.ref 226,.int 143 0,.int 0 0,.ref 231,.int 148 0,.int 0 0,.ref 238,.int 150 0,.int 0 0,.ref 245,.int 160 0,.int 0 0,.ref 252,.int 167 0,.int 0 0,.ref 280,.int 171 0,.int 0 0,.ref 299,.int 182 0,.int 0 0,.ref 325,.int 211 0,.int 0 0,.ref 384,.int 214 0,.int 0 0,.ref 391,.int 220 0,.int 0 0,.ref 398,.int 222 0,.int 0 0,.ref 405,.int 228 0,.int 0 0,.ref 412,.int 232 0,.int 0 0,.ref 417,.int 236 0,.int 0 0,.ref 424,.int 238 0,.int 0 0,.ref 429,.int 241 0,.int 0 0,.ref 434,.int 247 0,.int 0 0,.ref 441,.int 255 0,.int 0 0,.ref 448,.int 257 0,.int 0 0,.ref 453,.int 259 0,.int 0 0,.ref 460,.int 262 0,.int 0 0,.ref 467,.int 273 0,.int 0 0,.ref 472,.int 281 0,.int 0 0,.ref 479,.int 283 0,.int 0 0,.ref 486,.int 293 0,.int 0 0,.ref 491,.int 295 0,.int 0 0,.ref 498,.int 301 0,.int 0 0,.ref 506,.int 308 0,.int 0 0,.ref 511,.int 310 0,.int 0 0,.ref 518,.int 320 0,.int 0 0,.ref 525,.int 333 0,.int 0 0,.ref 532,.int 338 0,.int 0 0,.ref 539,.int 351 0,.int 0 0,.ref 546,.int 353 0,.int 0 0,.ref 551,.int 364 0,.int 0 0,.ref 558,.int 374 0,.int 0 0,.ref 563,.int 380 0,.int 0 0,.ref 568,.int 384 0,.int 0 0,.ref 575,.int 388 0,.int 0 0,.ref 580,.int 400 0,.int 0 0,.ref 587,.int 408 0,.int 0 0,.ref 594,.int 412 0,.int 0 0,.ref 601,.int 419 0,.int 0 0,.ref 606,.int 423 0,.int 0 0,.ref 613,.int 426 0,.int 0 0,.ref 620,.int 451 0,.int 0 0,.ref 627,.int 461 0,.int 0 0,.ref 632,.int 466 0,.int 0 0,.ref 639,.int 479 0,.int 0 0,.ref 646,.int 485 0,.int 0 0,.ref 651,.int 487 0,.int 0 0,.ref 658,.int 496 0,.int 0 0,.ref 665,.int 507 0,.int 0 0,.ref 670,.int 512 0,.int 0 0,.ref 675,.int 524 0,.int 0 0,.ref 680,.int 527 0,.int 0 0,.ref 685,.int 531 0,.int 0 0,.ref 690],
 uk "<module>" 182 1 11 181,uv 13 3 m0 164,u0,u1,ut [.str "thing" 200],u0,ui 5,ud 5 197 6 1 15 17 18 19 201,ua 5 m1 187 20,u0,u1,ut [.str "thing" 207,.str "least" 208,.str "most" 209],u0,ui 6,ud 6 204 8 3 22 24 25 26 210,ua 6 m1 187 27,u0,u1,ui 7,ud 7 213 10 1 29 0 0 31 216,ua 7 m1 187 32,u0,u1,ui 8,ud 8 219 12 2 34 0 0 36 222,ua 8 m1 187 37,u0,u1,ut [.str "thing" 228],u0,ui 9,
 ud 9 225 14 1 39 41 42 43 229,ua 9 m1 187 44,u0,u1,ut [.str "text" 235],u0,ui 10,ud 10 232 18 1 46 48 49 50 236,ua 10 m1 187 51,u0,u1,ut [.str "word" 242,.str "figures" 243],u0,ui 11,ud 11 239 22 1 53 55 56 57 244,ua 11 m1 187 58,u0,u1,ut [.str "number" 250],u0,ui 12,ud 12 247 29 1 60 62 63 64 251,ua 12 m1 187 65,u0,u1,ut [.str "row" 257,.str "words" 258],u0,ui 13,ud 13 254 31 1 67 69 70 71 259,
 ua 13 m1 187 72,u0,u1,ut [.str "one" 271,.str "other" 272,.str "rest" 273],u0,ui 17,ud 17 268 39 2 74 76 77 78 274,ua 17 m2 262 79,u0,u1,ut [.str "grains" 280,.str "part" 281],u0,ui 18,ud 18 277 45 1 81 83 84 85 282,ua 18 m2 262 86,u0,u1,ut [.str "grains" 288,.str "pair" 289,.str "top" 290],u0,ui 19,ud 19 285 48 1 88 90 91 92 291,ua 19 m2 262 93,u0,u1,
 ut [.str "word" 297,.str "terms" 298,.str "top" 299,.str "bottom" 300],u0,ui 20,ud 20 294 54 1 95 97 98 99 301,ua 20 m2 262 100,u0,u1,ut [.str "top" 307,.str "bottom" 308,.str "grains" 309],u0,ui 21,ud 21 304 65 2 102 104 105 106 310,ua 21 m2 262 107,ut [.type "ValueError"],up,
 dd ([de P "__module__" 322 (.str "barwright.errors" 313),de P "__qualname__" 324 (.str "TuneError" 323),de P "__firstlineno__" 326 (.int 71 325),de P "__static_attributes__" 327 (.ref 116)]) 4,u0,u1,uk "TuneError" 317 71 112 181,uv 114 111 m3 313,u0,
 dd ([de P "__module__" 322 (.str "barwright.errors" 313),de P "__firstlineno__" 326 (.int 71 325)]++dr P [("__static_attributes__",327,116),("__weakref__",329,119)]++[de P "__doc__" 330 (.none)]) 3,
 ⟨.type "type",none,(.cls ⟨"TuneError",[.type "ValueError"],[.ref 118,.type "ValueError",.type "Exception",.type "BaseException",.type "object"],117,"TuneError",true,[],[.ref 138,.ref 150],false,none,false⟩),#[(some (.ref 109)),none,(some (.str "TuneError" 315)),(some (.str "TuneError" 323)),(some (.builtin "ValueError.__new__")),(some (.bool true))]⟩,ug 328 118,us 118,uq 118,ut [.ref 118],up,
 dd ([de P "__module__" 340 (.str "barwright.errors" 313),de P "__qualname__" 342 (.str "BadRow" 341),de P "__firstlineno__" 344 (.int 73 343)]++dr P [("__init__",352,135),("__static_attributes__",354,136)]) 5,u0,uf [.int 75 0,.int 4 0,.ref 134],uk "BadRow" 335 73 125 181,uv 127 124 m3 313,u0,u1,ut [.str "self" 348,.str "row" 349],u0,uh2 "__init__" "BadRow.__init__" (cs 24 0),
 uc "__init__" "BadRow.__init__" 345 75 2 129 (.ref 131) (.ref 132) 133 350,uu "__init__" "BadRow.__init__" (cs 24 0) m3 313 134,ut [.str "row" 353],dd ([de P "__module__" 340 (.str "barwright.errors" 313),de P "__firstlineno__" 344 (.int 73 343)]++dr P [("__init__",352,135),("__static_attributes__",354,136)]++[de P "__doc__" 355 (.none)]) 2,
 ⟨.type "type",none,(.cls ⟨"BadRow",[.ref 118],[.ref 138,.ref 118,.type "ValueError",.type "Exception",.type "BaseException",.type "object"],137,"BadRow",true,[],[],false,none,false⟩),#[(some (.ref 122)),none,(some (.str "BadRow" 333)),(some (.str "BadRow" 341)),(some (.builtin "ValueError.__new__")),(some (.bool true))]⟩,us 138,uq 138,ut [.ref 118],up,
 dd ([de P "__module__" 365 (.str "barwright.errors" 313),de P "__qualname__" 367 (.str "BadTune" 366),de P "__firstlineno__" 369 (.int 77 368),de P "__static_attributes__" 370 (.ref 148)]) 4,u0,u1,uk "BadTune" 360 77 144 181,uv 146 143 m3 313,u0,
 dd ([de P "__module__" 365 (.str "barwright.errors" 313),de P "__firstlineno__" 369 (.int 77 368),de P "__static_attributes__" 370 (.ref 148),de P "__doc__" 371 (.none)]) 2,
 ⟨.type "type",none,(.cls ⟨"BadTune",[.ref 118],[.ref 150,.ref 118,.type "ValueError",.type "Exception",.type "BaseException",.type "object"],149,"BadTune",true,[],[],false,none,false⟩),#[(some (.ref 141)),none,(some (.str "BadTune" 358)),(some (.str "BadTune" 366)),(some (.builtin "ValueError.__new__")),(some (.bool true))]⟩,us 150,uq 150,
 ut [.str "--" 378,.str "-" 379,.str "" 380,.str "+" 381,.str "++" 382],u0,u1,ut [.str "thing" 389],u0,ui 30,ud 30 386 83 1 154 156 157 158 390,ua 30 m4 374 159,u0,u1,ut [.str "word" 396,.str "parts" 397],u0,ui 31,ud 31 393 87 1 161 163 164 165 398,ua 31 m4 374 166,u0,u1,ut [.str "word" 404,.str "step" 405,.str "octave" 406],u0,ui 32,ud 32 401 92 1 168 170 171 172 407,ua 32 m4 374 173,u0,u1,
 ut [.str "pitch" 413,.str "lean" 414],u0,ui 33,ud 33 410 100 1 175 177 178 179 415,ua 33 m4 374 180,u0,u1,ut [.str "pitch" 421],u0,ui 34,ud 34 418 103 1 182 184 185 186 422,ua 34 m4 374 187,u0,u1,ut [.str "thing" 432],u0,ui 37,ud 37 429 107 1 189 191 192 193 433,ua 37 m5 425 194,u0,u1,ut [.str "word" 439,.str "key" 440],u0,ui 38,ud 38 436 109 1 196 198 199 200 441,ua 38 m5 425 201,
 ut [.int 2 448,.int 4 449,.int 8 450],u0,u1,ut [.str "thing" 457,.str "top" 458,.str "bottom" 459],u0,ui 43,ud 43 454 116 1 204 206 207 208 460,ua 43 m6 444 209,u0,u1,ui 44,ud 44 463 124 2 211 0 0 213 466,ua 44 m6 444 214,u0,u1,ut [.str "word" 472,.str "halves" 473,.str "fraction" 474,.str "groups" 475,.str "metre" 476],u0,ui 45,ud 45 469 130 1 216 218 219 220 477,ua 45 m6 444 221,u0,u1,ui 46,
 ud 46 480 140 2 223 0 0 225 483,ua 46 m6 444 226,u0,u1,ui 47,ud 47 486 143 1 228 0 0 230 489,ua 47 m6 444 231,u0,u1,ut [.str "bottom" 495],u0,ui 48,ud 48 492 148 1 233 235 236 237 496,ua 48 m6 444 238,u0,u1,ut [.str "metre" 502],u0,ui 49,ud 49 499 150 1 240 242 243 244 503,ua 49 m6 444 245,u0,up,
 dd ([de P "__module__" 529 (.str "barwright.tunes" 506),de P "__qualname__" 531 (.str "Sound" 530),de P "__firstlineno__" 533 (.int 160 532)]++dr P [("__init__",541,260),("told",548,267),("__static_attributes__",550,268)]) 6,u0,uf [.int 162 0,.int 4 0,.ref 259,.int 165 0,.int 4 0,.ref 266],uk "Sound" 524 160 250 181,uv 252 249 m7 506,u0,u1,ut [.str "self" 537,.str "length" 538],u0,
 uh2 "__init__" "Sound.__init__" (cs 58 0),uc "__init__" "Sound.__init__" 534 162 2 254 (.ref 256) (.ref 257) 258 539,uu "__init__" "Sound.__init__" (cs 58 0) m7 506 259,u0,u1,ut [.str "self" 545],u0,uh2 "told" "Sound.told" (cs 58 1),uc "told" "Sound.told" 542 165 1 261 (.ref 263) (.ref 264) 265 546,uu "told" "Sound.told" (cs 58 1) m7 506 266,ut [.str "length" 549],
 dd ([de P "__module__" 529 (.str "barwright.tunes" 506),de P "__firstlineno__" 533 (.int 160 532)]++dr P [("__init__",541,260),("told",548,267),("__static_attributes__",550,268),("__dict__",552,271),("__weakref__",554,272)]++[de P "__doc__" 555 (.none)]) 4,
 ⟨.type "type",none,(.cls ⟨"Sound",[.type "object"],[.ref 270,.type "object"],269,"Sound",true,[],[.ref 291,.ref 317],false,none,false⟩),#[none,none,(some (.str "Sound" 522)),(some (.str "Sound" 530)),(some (.builtin "object.__new__")),(some (.bool true))]⟩,⟨.type "getset_descriptor",none,(.fields #[.str "__dict__" 551,.ref 270,.builtin "function.__dict__",.builtin "function.__dict__#set"]),#[]⟩,
 ug 553 270,us 270,uq 270,ut [.ref 270],up,dd ([de P "__module__" 565 (.str "barwright.tunes" 506),de P "__qualname__" 567 (.str "Rest" 566),de P "__firstlineno__" 569 (.int 167 568)]++dr P [("told",576,288),("__static_attributes__",577,289)]) 5,u0,uf [.int 169 0,.int 4 0,.ref 287],uk "Rest" 560 167 278 181,uv 280 277 m7 506,u0,u1,ut [.str "self" 573],u0,uh2 "told" "Rest.told" (cs 59 0),
 uc "told" "Rest.told" 570 169 1 282 (.ref 284) (.ref 285) 286 574,uu "told" "Rest.told" (cs 59 0) m7 506 287,u0,dd ([de P "__module__" 565 (.str "barwright.tunes" 506),de P "__firstlineno__" 569 (.int 167 568)]++dr P [("told",576,288),("__static_attributes__",577,289)]++[de P "__doc__" 578 (.none)]) 2,
 ⟨.type "type",none,(.cls ⟨"Rest",[.ref 270],[.ref 291,.ref 270,.type "object"],290,"Rest",true,[],[],false,none,false⟩),#[(some (.ref 275)),none,(some (.str "Rest" 558)),(some (.str "Rest" 566)),(some (.builtin "object.__new__")),(some (.bool true))]⟩,us 291,uq 291,ut [.ref 270],up,
 dd ([de P "__module__" 588 (.str "barwright.tunes" 506),de P "__qualname__" 590 (.str "Tones" 589),de P "__firstlineno__" 592 (.int 171 591)]++dr P [("__init__",604,307),("told",611,314),("__static_attributes__",616,315)]) 6,u0,uf [.int 173 0,.int 4 0,.ref 306,.int 180 0,.int 4 0,.ref 313],uk "Tones" 583 171 297 181,uv 299 296 m7 506,u0,u1,
 ut [.str "self" 596,.str "pitches" 597,.str "length" 598,.str "word" 599,.str "opens" 600,.str "closes" 601],u0,uh2 "__init__" "Tones.__init__" (cs 60 0),uc "__init__" "Tones.__init__" 593 173 6 301 (.ref 303) (.ref 304) 305 602,uu "__init__" "Tones.__init__" (cs 60 0) m7 506 306,u0,u1,ut [.str "self" 608],u0,uh2 "told" "Tones.told" (cs 60 1),
 uc "told" "Tones.told" 605 180 1 308 (.ref 310) (.ref 311) 312 609,uu "told" "Tones.told" (cs 60 1) m7 506 313,ut [.str "closes" 612,.str "opens" 613,.str "pitches" 614,.str "word" 615],dd ([de P "__module__" 588 (.str "barwright.tunes" 506),de P "__firstlineno__" 592 (.int 171 591)]++dr P [("__init__",604,307),("told",611,314),("__static_attributes__",616,315)]++[de P "__doc__" 617 (.none)]) 2,
 ⟨.type "type",none,(.cls ⟨"Tones",[.ref 270],[.ref 317,.ref 270,.type "object"],316,"Tones",true,[],[],false,none,false⟩),#[(some (.ref 294)),none,(some (.str "Tones" 581)),(some (.str "Tones" 589)),(some (.builtin "object.__new__")),(some (.bool true))]⟩,us 317,uq 317,u0,up,
 dd ([de P "__module__" 627 (.str "barwright.tunes" 506),de P "__qualname__" 629 (.str "Tune" 628),de P "__firstlineno__" 631 (.int 182 630)]++dr P [("__init__",641,333),("metres_told",648,340),("keys_told",655,347),("sounds_told",661,352),("many",668,359),("lasts",674,364),("frames",681,371),("__static_attributes__",686,372)]) 11,u0,
 uf [.int 184 0,.int 4 0,.ref 332,.int 192 0,.int 4 0,.ref 339,.int 195 0,.int 4 0,.ref 346,.int 198 0,.int 4 0,.ref 351,.int 203 0,.int 4 0,.ref 358,.int 206 0,.int 4 0,.ref 363,.int 209 0,.int 4 0,.ref 370],uk "Tune" 622 182 323 181,uv 325 322 m7 506,u0,u1,ut [.str "self" 635,.str "metres" 636,.str "keys" 637,.str "voices" 638],u0,uh2 "__init__" "Tune.__init__" (cs 61 0),
 uc "__init__" "Tune.__init__" 632 184 4 327 (.ref 329) (.ref 330) 331 639,uu "__init__" "Tune.__init__" (cs 61 0) m7 506 332,u0,u1,ut [.str "self" 645],u0,uh2 "metres_told" "Tune.metres_told" (cs 61 1),uc "metres_told" "Tune.metres_told" 642 192 1 334 (.ref 336) (.ref 337) 338 646,uu "metres_told" "Tune.metres_told" (cs 61 1) m7 506 339,u0,u1,ut [.str "self" 652],u0,
 uh2 "keys_told" "Tune.keys_told" (cs 61 2),uc "keys_told" "Tune.keys_told" 649 195 1 341 (.ref 343) (.ref 344) 345 653,uu "keys_told" "Tune.keys_told" (cs 61 2) m7 506 346,u0,u1,uh2 "sounds_told" "Tune.sounds_told" (cs 61 3),uc "sounds_told" "Tune.sounds_told" 656 198 2 348 (.none) (.none) 350 659,uu "sounds_told" "Tune.sounds_told" (cs 61 3) m7 506 351,u0,u1,ut [.str "self" 665],u0,
 uh2 "many" "Tune.many" (cs 61 4),uc "many" "Tune.many" 662 203 1 353 (.ref 355) (.ref 356) 357 666,uu "many" "Tune.many" (cs 61 4) m7 506 358,u0,u1,uh2 "lasts" "Tune.lasts" (cs 61 5),uc "lasts" "Tune.lasts" 669 206 1 360 (.none) (.none) 362 672,uu "lasts" "Tune.lasts" (cs 61 5) m7 506 363,u0,u1,ut [.str "self" 678],u0,uh2 "frames" "Tune.frames" (cs 61 6),
 uc "frames" "Tune.frames" 675 209 1 365 (.ref 367) (.ref 368) 369 679,uu "frames" "Tune.frames" (cs 61 6) m7 506 370,ut [.str "bar_frames" 682,.str "key_changes" 683,.str "metre_changes" 684,.str "voices" 685],
 dd ([de P "__module__" 627 (.str "barwright.tunes" 506),de P "__firstlineno__" 631 (.int 182 630)]++dr P [("__init__",641,333),("metres_told",648,340),("keys_told",655,347),("sounds_told",661,352),("many",668,359),("lasts",674,364),("frames",681,371),("__static_attributes__",686,372),("__dict__",688,375),("__weakref__",690,376)]++[de P "__doc__" 691 (.none)]) 4,
 ⟨.type "type",none,(.cls ⟨"Tune",[.type "object"],[.ref 374,.type "object"],373,"Tune",true,[],[],false,none,false⟩),#[none,none,(some (.str "Tune" 620)),(some (.str "Tune" 628)),(some (.builtin "object.__new__")),(some (.bool true))]⟩,⟨.type "getset_descriptor",none,(.fields #[.str "__dict__" 687,.ref 374,.builtin "function.__dict__",.builtin "function.__dict__#set"]),#[]⟩,ug 689 374,us 374,
 uq 374,u0,u1,ut [.str "is_so" 697,.str "why" 698],u0,ui 62,ud 62 694 211 2 379 381 382 383 699,ua 62 m7 506 384,u0,u1,ut [.str "told" 705],u0,ui 63,ud 63 702 214 1 386 388 389 390 706,ua 63 m7 506 391,u0,u1,ut [.str "thing" 712],u0,ui 64,ud 64 709 220 1 393 395 396 397 713,ua 64 m7 506 398,u0,u1,ut [.str "thing" 719],u0,ui 65,ud 65 716 222 1 400 402 403 404 720,ua 65 m7 506 405,u0,u1,
 ut [.str "name" 726,.str "parts" 727,.str "thing" 728],u0,ui 66,ud 66 723 228 3 407 409 410 411 729,ua 66 m7 506 412,u0,u1,ui 67,ud 67 732 232 1 414 0 0 416 735,ua 67 m7 506 417,u0,u1,ut [.str "thing" 741],u0,ui 68,ud 68 738 236 1 419 421 422 423 742,ua 68 m7 506 424,u0,u1,ui 69,ud 69 745 238 1 426 0 0 428 748,ua 69 m7 506 429,u0,u1,ui 70,ud 70 751 241 1 431 0 0 433 754,ua 70 m7 506 434,u0,u1,
 ut [.str "sounds" 760,.str "kept" 761,.str "sound" 762],u0,ui 71,ud 71 757 247 1 436 438 439 440 763,ua 71 m7 506 441,u0,u1,ut [.str "sounds" 769],u0,ui 72,ud 72 766 255 1 443 445 446 447 770,ua 72 m7 506 448,u0,u1,ui 73,ud 73 773 257 1 450 0 0 452 776,ua 73 m7 506 453,u0,u1,ut [.str "grains" 782],u0,ui 74,ud 74 779 259 1 455 457 458 459 783,ua 74 m7 506 460,u0,u1,
 ut [.str "sounds" 789,.str "is_open" 790,.str "sound" 791],u0,ui 75,ud 75 786 262 1 462 464 465 466 792,ua 75 m7 506 467,u0,u1,ui 76,ud 76 795 273 2 469 0 0 471 798,ua 76 m7 506 472,u0,u1,ut [.str "thing" 804,.str "is_good" 805],u0,ui 77,ud 77 801 281 2 474 476 477 478 806,ua 77 m7 506 479,u0,u1,
 ut [.str "metres" 812,.str "keys" 813,.str "lasts" 814,.str "frames" 815,.str "begin" 816,.str "bar" 817,.str "metre" 818],u0,ui 78,ud 78 809 283 3 481 483 484 485 819,ua 78 m7 506 486,u0,u1,ui 79,ud 79 822 293 2 488 0 0 490 825,ua 79 m7 506 491,u0,u1,ut [.str "changes" 831,.str "bars" 832],u0,ui 80,ud 80 828 295 2 493 495 496 497 833,ua 80 m7 506 498,ut [.str "metre" 838,.str "key" 839],u0,u1,
 ut [.str "text" 848,.str "rows" 849,.str "changes" 850,.str "voices" 851],u0,ui 85,ud 85 845 301 1 501 503 504 505 852,ua 85 m8 836 506,u0,u1,ui 86,ud 86 855 308 2 508 0 0 510 858,ua 86 m8 836 511,u0,u1,ut [.str "rows" 864,.str "changes" 865,.str "number" 866,.str "row" 867,.str "change" 868],u0,ui 87,ud 87 861 310 1 513 515 516 517 869,ua 87 m8 836 518,u0,u1,
 ut [.str "row" 875,.str "ahead" 876,.str "words" 877,.str "bar" 878,.str "kind" 879],u0,ui 88,ud 88 872 320 2 520 522 523 524 880,ua 88 m8 836 525,u0,u1,ut [.str "bar" 886,.str "kind" 887,.str "words" 888,.str "value" 889],u0,ui 89,ud 89 883 333 3 527 529 530 531 890,ua 89 m8 836 532,u0,u1,ut [.str "rows" 896,.str "first" 897,.str "voices" 898,.str "number" 899,.str "row" 900,.str "sound" 901],u0,
 ui 90,ud 90 893 338 2 534 536 537 538 902,ua 90 m8 836 539,u0,u1,ut [.str "voices" 908],u0,ui 91,ud 91 905 351 1 541 543 544 545 909,ua 91 m8 836 546,u0,u1,ui 92,ud 92 912 353 1 548 0 0 550 915,ua 92 m8 836 551,u0,u1,ut [.str "pitches" 921,.str "length" 922,.str "words" 923,.str "opens" 924,.str "behind_opens" 925,.str "closes" 926,.str "syllables" 927],u0,ui 93,ud 93 918 364 3 553 555 556 557 928,
 ua 93 m8 836 558,u0,u1,ui 94,ud 94 931 374 1 560 0 0 562 934,ua 94 m8 836 563,u0,u1,ui 95,ud 95 937 380 1 565 0 0 567 940,ua 95 m8 836 568,u0,u1,ut [.str "change" 946,.str "value" 947,.str "row" 948],u0,ui 96,ud 96 943 384 1 570 572 573 574 949,ua 96 m8 836 575,u0,u1,ui 97,ud 97 952 388 1 577 0 0 579 955,ua 97 m8 836 580,u0,u1,
 ut [.str "_law_script" 963,.str "_law_tape" 964,.str "_law_size" 965,.str "_law_seed" 966,.str "_law_cell" 967],u0,ui 99,ud 99 960 400 3 582 584 585 586 968,ua 99 m9 958 587,u0,u1,ut [.str "_law_script" 974,.str "_law_tape" 975,.str "_law_some" 976],u0,ui 100,ud 100 971 408 2 589 591 592 593 977,ua 100 m9 958 594,u0,u1,
 ut [.str "_law_script" 983,.str "_law_tape" 984,.str "_law_found" 985,.str "_law_at" 986,.str "_law_k" 987],u0,ui 101,ud 101 980 412 2 596 598 599 600 988,ua 101 m9 958 601,u0,u1,ui 102,ud 102 991 419 2 603 0 0 605 994,ua 102 m9 958 606,u0,u1,ut [.str "_law_script" 1000,.str "_law_tape" 1001,.str "_law_some" 1002],u0,ui 103,ud 103 997 423 2 608 610 611 612 1003,ua 103 m9 958 613,u0,u1,
 ut [.str "_law_script" 1009,.str "_law_tape" 1010,.str "_law_most" 1011,.str "_law_found" 1012,.str "_law_is_open" 1013,.str "_law_left" 1014,.str "_law_count" 1015,.str "_law_k" 1016,.str "_law_length_here" 1017,.str "_law_closes" 1018,.str "_law_opens" 1019,.str "_law_word" 1020],u0,ui 104,ud 104 1006 426 3 615 617 618 619 1021,ua 104 m9 958 620,u0,u1,
 ut [.str "_law_voice_here" 1027,.str "_law_found" 1028,.str "_law_told" 1029],u0,ui 105,ud 105 1024 451 1 622 624 625 626 1030,ua 105 m9 958 627,u0,u1,ui 106,ud 106 1033 461 1 629 0 0 631 1036,ua 106 m9 958 632,u0,u1,ut [.str "_law_script" 1042,.str "_law_tape" 1043,.str "_law_lasts_here" 1044,.str "_law_found" 1045,.str "_law_begin" 1046,.str "_law_metre_here" 1047,.str "_law_key" 1048],u0,ui 107,
 ud 107 1039 466 3 634 636 637 638 1049,ua 107 m9 958 639,u0,u1,ut [.str "_law_frames_here" 1055,.str "_law_part" 1056,.str "_law_found" 1057,.str "_law_place" 1058,.str "_law_frame" 1059],u0,ui 108,ud 108 1052 479 2 641 643 644 645 1060,ua 108 m9 958 646,u0,u1,ui 109,ud 109 1063 485 3 648 0 0 650 1066,ua 109 m9 958 651,u0,u1,
 ut [.str "_law_grains" 1072,.str "_law_times" 1073,.str "_law_top" 1074,.str "_law_bottom" 1075,.str "_law_one" 1076],u0,ui 110,ud 110 1069 487 2 653 655 656 657 1077,ua 110 m9 958 658,u0,u1,ut [.str "_law_told" 1083,.str "_law_times" 1084,.str "_law_words" 1085,.str "_law_step" 1086,.str "_law_lean" 1087,.str "_law_octave" 1088,.str "_law_row_here" 1089],u0,ui 111,
 ud 111 1080 496 2 660 662 663 664 1090,ua 111 m9 958 665,u0,u1,ui 112,ud 112 1093 507 1 667 0 0 669 1096,ua 112 m9 958 670,u0,u1,ui 113,ud 113 1099 512 3 672 0 0 674 1102,ua 113 m9 958 675,u0,u1,ui 114,ud 114 1105 524 1 677 0 0 679 1108,ua 114 m9 958 680,u0,u1,ui 115,ud 115 1111 527 2 682 0 0 684 1114,ua 115 m9 958 685,u0,u1,ui 116,ud 116 1117 531 1 687 0 0 689 1120,ua 116 m9 958 690]
noncomputable abbrev sf (w:World):Shared:=⟨⟨⟨hf w.params⟩,{}⟩,#[],{},1123,{}⟩
local macro_rules | `(tactic| o_head $_) => `(tactic| assumption)
theorem pre (h:PySem.Challenge.rw_barwright_k10_whole_texts_of_tunes.row.Holds):PySem.Challenge.rw_barwright_k10_whole_texts_of_tunes.row.Holds:=by k_head
noncomputable abbrev hkx:Hook:=kHook pre.heap_1 [2,3,15,17,18,20,21,22,24,25,27,28,29,32,33,34,37,38,39,41,42,44,45,46,48,49,51,52,53,55,56,58,59,60,62,63,65,66,67,69,70,72,73,74,76,77,79,80,81,83,84,86,87,88,90,91,93,94,95,97,98,100,101,102,104,105,107,108,109,116,117,118,119,122,129,131,132,134,135,136,137,138,141,148,149,150,153,154,156,157,159,160,161,163,164,166,167,168,170,171,173,174,175,177,178,180,181,182,184,185,187,188,189,191,192,194,195,196,198,199,201,202,203,204,206,207,209,210,211,214,215,216,218,219,221,222,223,226,227,228,231,232,233,235,236,238,239,240,242,243,245,246,254,256,257,259,260,261,263,264,266,267,268,269,270,271,272,275,282,284,285,287,288,289,290,291,294,301,303,304,306,307,308,310,311,313,314,315,316,317,327,329,330,332,333,334,336,337,339,340,341,343,344,346,347,348,351,352,353,355,356,358,359,360,363,364,365,367,368,370,371,372,373,374,375,376,379,381,382,384,385,386,388,389,391,392,393,395,396,398,399,400,402,403,405,406,407,409,410,412,413,414,417,418,419,421,422,424,425,426,429,430,431,434,435,436,438,439,441,442,443,445,446,448,449,450,453,454,455,457,458,460,461,462,464,465,467,468,469,472,473,474,476,477,479,480,481,483,484,486,487,488,491,492,493,495,496,498,499,500,501,503,504,506,507,508,511,512,513,515,516,518,519,520,522,523,525,526,527,529,530,532,533,534,536,537,539,540,541,543,544,546,547,548,551,552,553,555,556,558,559,560,563,564,565,568,569,570,572,573,575,576,577,580,581,582,584,585,587,588,589,591,592,594,595,596,598,599,601,602,603,606,607,608,610,611,613,614,615,617,618,620,621,622,624,625,627,628,629,632,633,634,636,637,639,640,641,643,644,646,647,648,651,652,653,655,656,658,659,660,662,663,665,666,667,670,671,672,675,676,677,680,681,682,685,686,687,690,691] (λ_=>by kernel_rfl)
noncomputable def qx:Program:={ PySem.Challenge.pw_barwright_k10_whole_texts_of_tunes with main:={ PySem.Challenge.pw_barwright_k10_whole_texts_of_tunes.main with body:=[1,2,3,4,5,6,7,8,9,10,11,12,13,15,16,17,18,19,20,21,23,24,25,27,28,29,30,31,32,33,34,36,37,38,40,41,42,43,44,45,46,47,48,49,51,52,53,54,55,56,57,58,59,60,61,62,63,64,65,66,67,68,69,70,71,72,73,74,75,76,77,78,79,80,82,83,84,85,86,87,88,89,90,91,92,93,94,95,96,97,99,100,101,102,103,104,105,106,107,108,109,110,111,112,113,114,115,116].filterMap λi=>PySem.Challenge.pw_barwright_k10_whole_texts_of_tunes.main.body[i]? } }
noncomputable def dx:DefRec:=((defOf qx "law").map (·.1)).getD ⟨"",default,[],default,default⟩
noncomputable abbrev lox:List Str:=[]
noncomputable abbrev xtx (s:Shared):Bool:=xlAt qx [] s&&recOk PySem.Challenge.rw_barwright_k10_whole_texts_of_tunes.row.toRowW.records s
theorem ytI:Fast.tw9446332074065402090 PySem.Challenge.rw_barwright_k10_whole_texts_of_tunes=true/\True:=⟨by kernel_rfl,trivial⟩
theorem hr (w:World):ytX PySem.Challenge.rw_barwright_k10_whole_texts_of_tunes.row.prog w 8992=some (sf w)/\True:=⟨by kernel_rfl,trivial⟩
theorem hx1 (w:World):(yc3 PySem.Challenge.rw_barwright_k10_whole_texts_of_tunes.row.prog qx lox xtx (sf w)).1=PyProof.Rows.expectedOf qx/\True:=⟨by kernel_rfl,trivial⟩
theorem hx2 (w:World):((yc3 PySem.Challenge.rw_barwright_k10_whole_texts_of_tunes.row.prog qx lox xtx (sf w)).2.1,(yc3 PySem.Challenge.rw_barwright_k10_whole_texts_of_tunes.row.prog qx lox xtx (sf w)).2.2.2.2.1,(yc3 PySem.Challenge.rw_barwright_k10_whole_texts_of_tunes.row.prog qx lox xtx (sf w)).2.2.2.2.2.2.1,(yc3 PySem.Challenge.rw_barwright_k10_whole_texts_of_tunes.row.prog qx lox xtx (sf w)).2.2.2.2.2.2.2.2)=(bltViewBooted,pinGoodD (PyProof.Rows.drecsOf qx),PyProof.Rows.plainGoodD qx lox,clsGoodW qx lox)/\True:=⟨by kernel_rfl,trivial⟩
theorem hx3 (w:World):(yc3 PySem.Challenge.rw_barwright_k10_whole_texts_of_tunes.row.prog qx lox xtx (sf w)).2.2.1=true/\True:=⟨by kernel_rfl,trivial⟩
theorem hx4 (w:World):(yc3 PySem.Challenge.rw_barwright_k10_whole_texts_of_tunes.row.prog qx lox xtx (sf w)).2.2.2.1=true/\True:=⟨by kernel_rfl,trivial⟩
theorem hx5 (w:World):(yc3 PySem.Challenge.rw_barwright_k10_whole_texts_of_tunes.row.prog qx lox xtx (sf w)).2.2.2.2.2.1=PyProof.Rows.plainGoodE qx (looseW qx lox)/\True:=⟨by kernel_rfl,trivial⟩
theorem hx6 (w:World):(yc3 PySem.Challenge.rw_barwright_k10_whole_texts_of_tunes.row.prog qx lox xtx (sf w)).2.2.2.2.2.2.2.1=wideGood qx/\True:=⟨by kernel_rfl,trivial⟩
theorem hx7 (w:World):hkx.obs (sf w)=hkx.val w/\True:=⟨by kernel_rfl,trivial⟩
theorem headx (call:WalkO qx lox (XL qx []) hkx.says PySem.Challenge.rw_barwright_k10_whole_texts_of_tunes.row.toRowW dx [] λf vs=>PySem.call f vs):PySem.Challenge.rw_barwright_k10_whole_texts_of_tunes.Holds:=by
 refine yqm ytI λsaid=>holds_open (d:=dx) (kwd:=[]) (q:=qx) (loose:=lox) (Xt:=xtx) (XP:=XL qx []) (Yf:=hkx.obs) (Ya:=hkx.val) (YP:=hkx.says) (N:=8992) (λw=>ynL (hr w) (hx1 w) (hx2 w) (hx3 w) (hx4 w) (hx5 w) (hx6 w) (hx7 w)) hkx.of hkx.keeps
  (λs e=>xl_of s (Bool.and_eq_true_iff.mp e).1) XL.keeps ?h1 ?h2 ?h3 (λs e=>recFacts_of (Bool.and_eq_true_iff.mp e).2) ?h4 said ?h5 ⟨?a,?b,?c,?d,?e,?f⟩ ?hw call
 case hw=>w_witness2
 case h5=>decide +kernel
 case f=>decide +kernel
 all_goals kernel_rfl
theorem dx_name:dx.name="law":= by kernel_rfl
theorem dx_dfl:dx.params.defaults=[]:=by kernel_rfl
end
end KD
namespace L2
open PySem PySem.Spec PyProof.Rows
noncomputable abbrev Key:=Sum Int Str
noncomputable def yka:Key->Value->Bool
 | .inl k,v=>Value.isInt k v
 | .inr x,v=>Value.isStrOf x v
noncomputable def yuK (w:World):Key->Int
 | .inl k=>hashInt k
 | .inr x=>hashStr w x
theorem ybt:∀ {k:Key} {v:Value},yka k v=true->(∃ i t,k=Sum.inl i/\v=Value.int i t)∨(∃ x t,k=Sum.inr x/\v=Value.str x t)
 | .inl i,v,h=>by
  obtain⟨t,e⟩:=Value.isInt_shape (k:=i) (v:=v) h
  exact .inl ⟨i,t,rfl,e⟩
 | .inr x,v,h=>by
  obtain⟨t,e⟩:=Value.isStrOf_shape (x:=x) (v:=v) h
  exact .inr ⟨x,t,rfl,e⟩
theorem yk7 (i:Int)(t:Tok):yka (.inl i) (.int i t)=true:=by simp[yka,Value.isInt]
theorem ykW (x:Str)(t:Tok):yka (.inr x) (.str x t)=true:=by simp[yka,Value.isStrOf]
theorem yrR (a b:Int):decide ((Sum.inl a:Key)=Sum.inl b)=(a==b):=by
 by_cases e:a=b
 ·subst e;simp
 ·have h:¬ (Sum.inl a:Key)=Sum.inl b:=λq=>e (Sum.inl.inj q)
  rw[decide_eq_false h]
  exact(beq_eq_false_iff_ne.mpr e).symm
theorem yrB (a b:Str):decide ((Sum.inr a:Key)=Sum.inr b)=decide (a=b):=by
 by_cases e:a=b
 ·subst e;simp
 ·have h:¬ (Sum.inr a:Key)=Sum.inr b:=λq=>e (Sum.inr.inj q)
  rw[decide_eq_false h,decide_eq_false e]
theorem yqS (a:Int)(b:Str):decide ((Sum.inl a:Key)=Sum.inr b)=false:=decide_eq_false (λq=>nomatch q)
theorem yp0 (a:Str)(b:Int):decide ((Sum.inr a:Key)=Sum.inl b)=false:=decide_eq_false (λq=>nomatch q)
noncomputable def ydI (prog:Program)(w:World):PySem.KeyKind prog w Key where
 is:=yka
 hash:=yuK w
 inj:=λv a b ha hb=>by
  rcases ybt ha with ⟨i,t,rfl,rfl⟩ | ⟨x,t,rfl,rfl⟩
  ·rcases ybt hb with ⟨j,u,rfl,e⟩ | ⟨y,u,rfl,e⟩
   ·injection e with e1 _;rw[e1]
   ·exact nomatch e
  ·rcases ybt hb with ⟨j,u,rfl,e⟩ | ⟨y,u,rfl,e⟩
   ·exact nomatch e
   ·injection e with e1 _;rw[e1]
 byValue:=λk v h=>by
  rcases ybt h with ⟨i,t,rfl,rfl⟩ | ⟨x,t,rfl,rfl⟩<;>rfl
 pyHash:=λhv h=>by
  rcases ybt hv with ⟨i,t,rfl,rfl⟩ | ⟨x,t,rfl,rfl⟩
  ·exact wpAny_pyHash_int h
  ·exact wpAny_pyHash_str h
 eqBool:=λhu hv h=>by
  rcases ybt hu with ⟨i,t,rfl,rfl⟩ | ⟨x,t,rfl,rfl⟩
  ·rcases ybt hv with ⟨j,u,rfl,rfl⟩ | ⟨y,u,rfl,rfl⟩
   ·rw[yrR] at h;exact wpAny_eqBool_int h
   ·rw[yqS] at h;exact SeqAt.EqAt.int_str i t y u _ _ _ _ h
  ·rcases ybt hv with ⟨j,u,rfl,rfl⟩ | ⟨y,u,rfl,rfl⟩
   ·rw[yp0] at h;exact SeqAt.EqAt.str_int x t j u _ _ _ _ h
   ·rw[yrB] at h;exact wpAny_eqBool_str h
 «strs»:=λk x t v h=>by
  rcases ybt h with ⟨i,u,rfl,e⟩ | ⟨y,u,rfl,e⟩
  ·exact nomatch e
  ·injection e with e1 _
   subst e1
   cases v<;>rfl
theorem yiH (prog:Program)(w:World)(i:Int)(t:Tok):(ydI prog w).is (.inl i) (.int i t)=true:=yk7 i t
theorem yim (prog:Program)(w:World)(x:Str)(t:Tok):(ydI prog w).is (.inr x) (.str x t)=true:=ykW x t
inductive V where
 | non | bl (b:Bool) | int (i:Int) | str (x:Str) | byt (b:Array UInt8) | flt (b:UInt64) | ref (a:Addr) | ty (n:String)
 deriving DecidableEq
noncomputable def RelV:V->Value->Prop
 | .non,u=>u=Value.none
 | .bl b,u=>u=Value.bool b
 | .int i,u=>∃ t,u=Value.int i t
 | .str x,u=>∃ t,u=Value.str x t
 | .byt b,u=>∃ t,u=Value.bytes b t
 | .flt b,u=>∃ t,u=Value.float b t
 | .ref a,u=>u=Value.ref a
 | .ty n,u=>u=Value.type n
noncomputable abbrev Vals:List V->List Value->Prop:=Paired RelV
theorem Vals.length {xs:List V}{us:List Value}(r:Vals xs us):xs.length=us.length:=Paired.length r
theorem Vals.get:∀ {xs:List V} {us:List Value} {i:Nat} {x:V},Vals xs us->xs[i]?=some x->∃ u,us[i]?=some u/\RelV x u
 | _,_,_,_,.nil,e=>by simp at e
 | _,_,0,_,.cons r _,e=>by simp at e;subst e;exact⟨_,rfl,r⟩
 | _,_,i+1,x,.cons _ t,e=>by
  obtain⟨u,h1,h2⟩:=Vals.get (i:=i) (x:=x) t (by simpa using e)
  exact⟨u,by simpa using h1,h2⟩
theorem Vals.set {x:V}{u:Value}(r:RelV x u):∀ {xs:List V} {us:List Value} (i:Nat),Vals xs us->Vals (xs.set i x) (us.set i u)
 | _,_,_,.nil=>.nil
 | _,_,0,.cons _ t=>.cons r t
 | _,_,i+1,.cons q t=>.cons q (Vals.set r i t)
theorem Vals.append:∀ {xs ys:List V} {us ws:List Value},Vals xs us->Vals ys ws->Vals (xs++ys) (us++ws)
 | _,_,_,_,.nil,s=>s
 | _,_,_,_,.cons r t,s=>.cons r (Vals.append t s)
theorem Vals.take:∀ {xs:List V} {us:List Value} (n:Nat),Vals xs us->Vals (xs.take n) (us.take n)
 | _,_,0,_=>.nil
 | _,_,_+1,.nil=>.nil
 | _,_,n+1,.cons r t=>.cons r (Vals.take n t)
theorem Vals.drop:∀ {xs:List V} {us:List Value} (n:Nat),Vals xs us->Vals (xs.drop n) (us.drop n)
 | _,_,0,r=>r
 | _,_,_+1,.nil=>.nil
 | _,_,n+1,.cons _ t=>Vals.drop n t
noncomputable def RelO:Option V->Option Value->Prop
 | some v,some u=>RelV v u
 | none,none=>True
 | _,_=>False
noncomputable def KV {κ:Type}:List (κ×V)->List (κ×Value)->Prop:=Paired λ(p:κ×V) (q:κ×Value)=>p.1=q.1/\RelV p.2 q.2
noncomputable def kV:Key->V
 | .inl i=>.int i
 | .inr x=>.str x
inductive HO where
 | lst (xs:List V)
 | tup (xs:List V)
 | dK (kvs:List (Key×V)) | dT (kvs:List (List Key×V))
 | set (S:Int->Bool) (n:Nat)
 | ins (C dx:Addr) (fs:List (Str×V))
 | own (x:Addr)
 | xd (fs:List (Str×V))
 | met (f x:Addr)
 | rng (lo hi:Int)
 | frz (o:Obj) (u:HO)
 | tbl (ps:Array Value)
 | ext (φ:Heap->Prop)
noncomputable abbrev Hp:=Addr->Option HO
noncomputable def upd (H:Hp)(a:Addr)(o:HO):Hp:=λb=>if b=a then some o else H b
theorem yae {H:Hp}{a:Addr}{o:HO}:upd H a o a=some o:=by unfold upd;rw[if_pos rfl]
theorem yaB {H:Hp}{a b:Addr}{o:HO}(h:b≠a):upd H a o b=H b:=by unfold upd;rw[if_neg h]
theorem yaL {H:Hp}{a b:Addr}{o:HO}(h:H a=some o)(h':H b=none):a≠b:=by
 intro e;subst e;rw[h] at h';cases h'
section
variable (P:Program) (w:World)
noncomputable def ObjOk (H:Hp)(h:Heap)(a:Addr):HO->Prop
 | .lst xs=>xs.length<=sizeLine/\∃ (its:List Value) (n:Nat),Vals xs its/\h.get? a=some { cls:=.type "list",data:=.seq its.toArray n }
 | .tup xs=>xs.length<=sizeLine/\∃ its:List Value,Vals xs its/\IsTup h a its.toArray
 | .dK kvs=>kvs.length<=sizeLine/\(a==sysModules)=false/\∃ vs,KV kvs vs/\h.DictOf (ydI P w) a vs
 | .dT kvs=>kvs.length<=sizeLine/\(a==sysModules)=false/\∃ xs:List (List Key×Addr×Value),
   Paired (λ(p:List Key×V) (q:List Key×Addr×Value)=>p.1=q.1/\H q.2.1=some (.tup (p.1.map kV))/\RelV p.2 q.2.2) kvs xs /\
   ∃ o es ep,h.get? a=some o/\o.ExactDict/\o.data=.dict es ep/\es.toList=xs.map (entryOfKey (tupleKind (ydI P w)))/\(xs.map (·.1)).Nodup
 | .set S n=>h.SetOf (intKind P w) a S n
 | .ins C dx fs=>H dx=some (.own a)/\fs.length<=1000/\dx≠a/\h.get? a=some (PySem.W.instObj C dx) /\
   ∃ mA,h.Ns1 dx mA/\(∀ f,RelO (fs.lookup f) (mA f))/\PySem.Within mA (fs.map (·.1))
 | .own _=>∃ o,h.get? a=some o
 | .xd fs=>∃ mA,h.Ns1 a mA/\∀ f,RelO (fs.lookup f) (mA f)
 | .rng lo hi=>∃ t u v,h.get? a=some { cls:=.type "range",data:=.fields #[.int lo t,.int hi u,.int 1 v] }
 | .frz o u=>h.get? a=some o/\ObjOk H h a u
 | .tbl ps=>h.get? a=some { cls:=.none,data:=.fields ps }
 | .met f x=>h.get? a=some (PySem.W.methodObj (.ref f) (.ref x))
 | .ext φ=>φ h/\(∃ o,h.get? a=some o)/\∀ h1 h2:Heap,φ h1->(∀ o,h1.get? a=some o->h2.get? a=some o)->φ h2
noncomputable def HOk (H:Hp)(h:Heap):Prop:=∀ a o,H a=some o->ObjOk P w H h a o
end
section
variable {P:Program} {w:World} {H H':Hp} {h h':Heap} {a:Addr} {o:HO}
theorem ObjOk.lt (x:ObjOk P w H h a o):a < h.objs.size:=by
 cases o with
 | lst xs=>obtain⟨_,_,_,_,e⟩:=x;exact Heap.lt_size e
 | tup xs=>obtain⟨_,_,_,p⟩:=x;exact p.lt
 | dK kvs=>obtain⟨_,_,_,_,o,_,_,e,_⟩:=x;exact Heap.lt_size e
 | dT kvs=>obtain⟨_,_,_,_,o,_,_,e,_⟩:=x;exact Heap.lt_size e
 | set S n=>obtain⟨o,_,_,_,e,_⟩:=x;exact Heap.lt_size e
 | ins C dx fs=>obtain⟨_,_,_,e,_⟩:=x;exact Heap.lt_size e
 | own y=>obtain⟨_,e⟩:=x;exact Heap.lt_size e
 | xd fs=>obtain⟨_,⟨_,_,_,e,_⟩,_⟩:=x;exact Heap.lt_size e
 | rng lo hi=>obtain⟨_,_,_,e⟩:=x;exact Heap.lt_size e
 | frz ob u=>obtain⟨e,_⟩:=x;exact Heap.lt_size e
 | tbl ps=>exact Heap.lt_size (show h.get? a=some _ from x)
 | met f y=>exact Heap.lt_size (show h.get? a=some _ from x)
 | ext φ=>obtain⟨_,⟨_,e⟩,_⟩:=x;exact Heap.lt_size e
theorem Paired.mapP {α β:Type}{F G:α->β->Prop}:∀ {l₁:List α} {l₂:List β},Paired F l₁ l₂->(∀ a b,F a b->G a b)->Paired G l₁ l₂
 | _,_,.nil,_=>.nil
 | _,_,.cons r t,f=>.cons (f _ _ r) (Paired.mapP t f)
theorem ObjOk.stay (x:ObjOk P w H h a o)(k:∀ b u,(b=a∨H b=some (.own a))->h.get? b=some u->h'.get? b=some u)
  (ho:∀ b,H b=some (.own a)->H' b=some (.own a)) (ht:∀ b xs,H b=some (.tup xs)->H' b=some (.tup xs)):ObjOk P w H' h' a o:=by
 induction o with
 | lst xs=>obtain⟨z,its,n,r,e⟩:=x;exact⟨z,its,n,r,k _ _ (.inl rfl) e⟩
 | tup xs=>obtain⟨z,its,r,ob,e,c⟩:=x;exact⟨z,its,r,ob,k _ _ (.inl rfl) e,c⟩
 | dK kvs=>obtain⟨z,y,vs,r,ob,es,ep,e,c⟩:=x;exact⟨z,y,vs,r,ob,es,ep,k _ _ (.inl rfl) e,c⟩
 | dT kvs =>
  obtain⟨z,y,xs,r,ob,es,ep,e,c⟩:=x
  exact⟨z,y,xs,Paired.mapP r λp q z=>⟨z.1,ht _ _ z.2.1,z.2.2⟩,ob,es,ep,k _ _ (.inl rfl) e,c⟩
 | set S n=>obtain⟨ob,es,ep,t,e,c⟩:=x;exact⟨ob,es,ep,t,k _ _ (.inl rfl) e,c⟩
 | ins C dx fs =>
  obtain⟨d,z,ne,e,mA,⟨od,es,ep,e2,c⟩,r⟩:=x
  exact⟨ho _ d,z,ne,k _ _ (.inl rfl) e,mA,⟨od,es,ep,k _ _ (.inr d) e2,c⟩,r⟩
 | own y=>obtain⟨ob,e⟩:=x;exact⟨ob,k _ _ (.inl rfl) e⟩
 | xd fs=>obtain⟨mA,⟨od,es,ep,e,c⟩,r⟩:=x;exact⟨mA,⟨od,es,ep,k _ _ (.inl rfl) e,c⟩,r⟩
 | rng lo hi=>obtain⟨t,u,v,e⟩:=x;exact⟨t,u,v,k _ _ (.inl rfl) e⟩
 | frz ob u ih=>obtain⟨e,q⟩:=x;exact⟨k _ _ (.inl rfl) e,ih q⟩
 | tbl ps =>
  have e:h.get? a=some { cls:=.none,data:=.fields ps }:=x
  show h'.get? a=some { cls:=.none,data:=.fields ps }
  exact k a _ (.inl rfl) e
 | met f y =>
  have e:h.get? a=some (PySem.W.methodObj (.ref f) (.ref y)):=x
  show h'.get? a=some (PySem.W.methodObj (.ref f) (.ref y))
  exact k a _ (.inl rfl) e
 | ext φ=>obtain⟨p,⟨o,e⟩,st⟩:=x;exact⟨st _ _ p λo q=>k _ _ (.inl rfl) q,⟨o,k _ _ (.inl rfl) e⟩,st⟩
theorem HOk.lt (x:HOk P w H h)(e:H a=some o):a < h.objs.size:=(x a o e).lt
theorem HOk.fresh (x:HOk P w H h)(e:h.objs.size<=a):H a=none:=by
 cases q:H a with
 | none=>rfl
 | some u=>exact absurd (Nat.lt_of_lt_of_le (x.lt q) e) (Nat.lt_irrefl _)
theorem HOk.kept (x:HOk P w H h)(k:∀ b u,h.get? b=some u->h'.get? b=some u):HOk P w H h':=λa o e =>
 (x a o e).stay (λb u _ q=>k b u q) (λ_ q=>q) λ_ _ q=>q
theorem HOk.laid (x:HOk P w H h)(k:∀ b u,h.get? b=some u->h'.get? b=some u)(hp:h.objs.size<=a)(new:ObjOk P w (upd H a o) h' a o):HOk P w (upd H a o) h':=λb u e=>by
 have hn:=x.fresh hp
 by_cases hb:b=a
 ·subst hb;rw[yae] at e;cases e;exact new
 ·rw[yaB hb] at e
  exact(x b u e).stay (λc v _ q=>k c v q) (λc q=>by rw[yaB (yaL q hn)];exact q) λc xs q=>by rw[yaB (yaL q hn)];exact q
end
noncomputable def Rd (H:Hp)(a:Addr)(u:HO):Prop:=H a=some u∨∃ o,H a=some (.frz o u)
theorem Rd.of {H:Hp}{a:Addr}{u:HO}(h:H a=some u):Rd H a u:=.inl h
theorem Rd.ok {P:Program}{w:World}{H:Hp}{h:Heap}{a:Addr}{u:HO}(r:Rd H a u)(x:HOk P w H h):ObjOk P w H h a u:=by
 rcases r with r | ⟨o,r⟩
 ·exact x a u r
 ·obtain⟨_,q⟩:=x a _ r
  exact q
noncomputable def Mut:Option HO->Prop
 | some (.lst _)=>True
 | some (.dK _)=>True
 | some (.dT _)=>True
 | some (.set _ _)=>True
 | some (.ins _ _ _)=>True
 | some (.ext _)=>True
 | _=>False
section
variable {P:Program} {w:World} {H:Hp} {h h':Heap} {x e:Addr} {o':HO}
theorem HOk.write (ok:HOk P w H h)(mu:Mut (H x))(he:e=x∨H e=some (.own x))(k:∀ b u,b≠e->h.get? b=some u->h'.get? b=some u)(heo:∃ u,h'.get? e=some u)
  (new:ObjOk P w (upd H x o') h' x o'):HOk P w (upd H x o') h':=λb u q=>by
 have nown:∀ c y,H c=some (.own y)->c≠x:=λc y r z=>by subst z;rw[r] at mu;exact mu
 have ntup:∀ c xs,H c=some (.tup xs)->c≠x:=λc xs r z=>by subst z;rw[r] at mu;exact mu
 by_cases hb:b=x
 ·subst hb;rw[yae] at q;cases q;exact new
 ·rw[yaB hb] at q
  by_cases hbe:b=e
  ·have q':H b=some (.own x):=by
    rcases he with z | z
    ·exact absurd (hbe.trans z) hb
    ·rw[hbe];exact z
   rw[q] at q';cases q'
   obtain⟨v,hv⟩:=heo
   exact⟨v,by rw[hbe];exact hv⟩
  ·refine(ok b u q).stay (λc v hc r=>k c v ?_ r) (λc r=>by rw[yaB (nown c b r)];exact r) λc xs r=>by rw[yaB (ntup c xs r)];exact r
   rcases hc with rfl | hc
   ·exact hbe
   ·rintro rfl
    rcases he with z | z
    ·exact nown c b hc z
    ·rw[hc] at z;cases z;exact hb rfl
end
structure Un (fs ex:List Addr) (H H':Hp) (h h':Heap):Prop where
 keep:∀ b o,h.get? b=some o->H b=none->b∉fs->b∉ex->h'.get? b=some o
 slot:∀ b o,h.get? b=some o->H b=none->b∈fs->b∉ex->∃ sl,h'.get? b=some { o with slots:=sl }
 free:∀ b o,h.get? b=some o->H b=none->b∉ex->H' b=none
 there:∀ b o,h.get? b=some o->b∉ex->∃ o',h'.get? b=some o'
 tups:∀ b xs,H b=some (.tup xs)->H' b=some (.tup xs)
 frzs:∀ b o u,H b=some (.frz o u)->H' b=some (.frz o u)
 tbls:∀ b ps,H b=some (.tbl ps)->∃ more,H' b=some (.tbl (ps++more))
section
variable {fs fs' ex ex':List Addr} {H H1 H2:Hp} {h h1 h2 h':Heap} {a x e:Addr} {o:HO}
theorem Un.any (u:Un fs ex H H1 h h1){b:Addr}{ob:Obj}(q:h.get? b=some ob)(n:H b=none)(hx:b∉ex):∃ sl,h1.get? b=some { ob with slots:=sl }:=by
 by_cases hb:b∈fs
 ·exact u.slot b ob q n hb hx
 ·exact⟨ob.slots,u.keep b ob q n hb hx⟩
theorem Un.kept (k:∀ b u,h.get? b=some u->h'.get? b=some u):Un fs ex H H h h' :=
 ⟨λb ob q _ _ _=>k b ob q,λb ob q _ _ _=>⟨ob.slots,k b ob q⟩,λ_ _ _ n _=>n,λb ob q _=>⟨ob,k b ob q⟩,λ_ _ q=>q,λ_ _ _ q=>q,λ_ ps q=>⟨#[],by rw[q];simp⟩⟩
theorem Un.refl:Un fs ex H H h h:=Un.kept λ_ _ q=>q
theorem Un.laid (k:∀ b u,h.get? b=some u->h'.get? b=some u)(hp:h.objs.size<=a)(hn:H a=none):Un fs ex H (upd H a o) h h' where
 keep:=λb u q _ _ _=>k b u q
 slot:=λb u q _ _ _=>⟨u.slots,k b u q⟩
 free:=λb u q n _=>by rw[yaB (Nat.ne_of_lt (Nat.lt_of_lt_of_le (Heap.lt_size q) hp))];exact n
 there:=λb u q _=>⟨u,k b u q⟩
 tups:=λb xs q=>by rw[yaB (yaL q hn)];exact q
 frzs:=λb u xs q=>by rw[yaB (yaL q hn)];exact q
 tbls:=λb ps q=>⟨#[],by rw[yaB (yaL q hn),q];simp⟩
theorem Un.write (mu:Mut (H x))(he:e=x∨H e=some (.own x))(k:∀ b u,b≠e->h.get? b=some u->h'.get? b=some u)(heo:∃ u,h'.get? e=some u):Un fs ex H (upd H x o) h h':=by
 have hx:∀ b,H b=none->b≠x:=λb n z=>by subst z;rw[n] at mu;exact mu
 have hb:∀ b,H b=none->b≠e:=λb n z=>by
  subst z
  rcases he with r | r
  ·exact hx b n r
  ·rw[n] at r;cases r
 have hm:∀ b u,H b=some u->¬ Mut (some u)->b≠x:=λb u q nm z=>by subst z;rw[q] at mu;exact nm mu
 refine⟨λb u q n _ _=>k b u (hb b n) q,λb u q n _ _=>⟨u.slots,k b u (hb b n) q⟩,λb u q n _=>by rw[yaB (hx b n)];exact n,λb u q _=>?_,
  λb xs q=>by rw[yaB (hm b _ q λz=>z)];exact q,λb u xs q=>by rw[yaB (hm b _ q λz=>z)];exact q,λb ps q=>⟨#[],by rw[yaB (hm b _ q λz=>z),q];simp⟩⟩
 by_cases hbe:b=e
 ·subst hbe;exact heo
 ·exact⟨u,k b u hbe q⟩
end
noncomputable def trk (h:Heap)(H:Hp):List Addr:=(List.range h.objs.size).filter λa=>(H a).isSome
noncomputable def ynJ (h:Heap)(H:Hp):Heap:=PySem.W.hideAll h (trk h H)
theorem yl8 (h:Heap)(H:Hp):(ynJ h H).objs.size=h.objs.size:=PySem.W.hideAll_size _ _
theorem ynF {h:Heap}{H:Hp}{b:Addr}{o:Obj}(e:h.get? b=some o)(n:H b=none):(ynJ h H).get? b=some o :=
 PySem.W.hideAll_get _ e λhm=>by
  have q:(H b).isSome=true:=(List.mem_filter.mp hm).2
  rw[n] at q;simp at q
theorem yoK {h:Heap}{H:Hp}{b:Addr}{o:Obj}(e:(ynJ h H).get? b=some o):h.get? b=some o/\H b=none:=by
 have e':h.get? b=some o:=PySem.W.of_hideAll (trk h H) e
 refine⟨e',?_⟩
 cases q:H b with
 | none=>rfl
 | some x =>
  have hm:b∈trk h H:=List.mem_filter.mpr ⟨List.mem_range.mpr (Heap.lt_size e'),by simp[q]⟩
  have z:(ynJ h H).get? b=none:=PySem.W.hideAll_none (trk h H) hm
  rw[z] at e;cases e
noncomputable def ypv (g h:Heap)(L:Addr):List (Addr×Obj):=(List.range h.objs.size).filterMap λa=>if a=L∨(g.get? a).isSome=true then none else (h.get? a).map λo=>(a,o)
noncomputable def rest (g h:Heap)(L d:Addr):List (Addr×Obj):=(ypv g h L).filter λp=>decide (p.1≠d)
structure Mod (K:PySem.W.Frag) (mg:Str->Option Value) (base:Heap):Prop where
 kin:K.In base
 glob:base.Ns mainGlobals mg
 blt:∃ mb,base.Ns builtinsNs mb/\∀ x:Str,x≠"__name__" -> mb x=bootBuiltins x
 nolimit:base.NoLimit
structure Cx where
 prog:Program
 w:World
 K:PySem.W.Frag
 mg:Str->Option Value
 base:Heap
 A:Around
 N:List Str
 s₀:Shared
 H₀:Hp
 env:Env
 outer:List Env
 stack:List Env
 ex:List Addr
 fn:Str->Bool
 calm:Bool
 pn:List (Addr×Obj)
 xe:Value->Shared->Prop
noncomputable def frs (l:List Env):List Addr:=l.filterMap (·.frame)
noncomputable abbrev Cx.fs (X:Cx):List Addr:=frs X.outer
noncomputable def Vis (sc:Scope)(x:Str):Prop:=sc.names.lookup x=some .local∨sc.names.lookup x=some .cell∨sc.names.lookup x=some .free
noncomputable def Loc (sc:Scope)(x:Str):Prop:=sc.names.lookup x=some .local∨sc.names.lookup x=some .cell
noncomputable def yu1 (env:Env)(h:Heap)(m:Str->Option Value)(x:Str)(u:Value):Prop :=
 (env.kindOf x=some .local/\m x=some u)∨((env.kindOf x=some .cell∨env.kindOf x=some .free)/\∃ c,env.cells.lookup x=some c/\h.IsCell c (some u))
structure Cx.Ok (X:Cx):Prop where
 mod:Mod X.K X.mg X.base
 kind:X.env.scope.kind=.function
 glob:X.env.globals=mainGlobals
 blt:X.env.builtins=builtinsNs
 above:X.s₀.heap.objs.size<=X.env.locals
 inj:∀ x y c,X.env.cells.lookup x=some c->X.env.cells.lookup y=some c->x=y
 has:∀ x,(X.env.kindOf x=some .cell∨X.env.kindOf x=some .free)->∃ c,X.env.cells.lookup x=some c
 cab:∀ x c,X.fn x=true->X.env.cells.lookup x=some c->X.s₀.heap.objs.size<=c
 hd:X.calm=true->X.A.handled=none
 frames:X.A.frames=some X.stack
 stk:X.stack=X.outer∨(X.stack=X.env :: X.outer/\X.env.frame=some X.env.locals)
 exf:∀ b∈X.ex,b≠X.env.locals/\∀ x c,X.env.cells.lookup x=some c->c≠b
 bs:∀ b o,X.base.get? b=some o->X.s₀.heap.get? b=some o/\X.H₀ b=none
 bsz:X.base.objs.size<=X.s₀.heap.objs.size
 noex:∀ b o,X.base.get? b=some o->b∉X.ex
 exfs:∀ b∈X.ex,b∉X.fs
 funs:X.s₀.heap.FunFrames X.base X.outer
 frf:∀ b∈X.fs,X.H₀ b=none
structure Inv (X:Cx) (pins:List (Addr×Obj)) (σ:List (Option V)) (H:Hp) (s:Shared):Prop where
 ok:X.Ok
 os:s.os=X.s₀.os
 bare:AllBare s.gens
 base:Un X.fs X.ex X.H₀ H X.s₀.heap s.heap
 loc:∃ m,s.heap.Ns X.env.locals m/\∀ (i:Nat) (x:Str) (v:V),X.N[i]?=some x->σ[i]?=some (some v)->Vis X.env.scope x->∃ u,RelV v u/\yu1 X.env s.heap m x u
 cell:∀ x c,X.env.cells.lookup x=some c->∃ v,s.heap.IsCell c v
 free:H X.env.locals=none
 freeC:∀ x c,X.env.cells.lookup x=some c->H c=none
 pin:∀ p∈X.pn++pins,s.heap.get? p.1=some p.2/\H p.1=none/\p.1≠X.env.locals/\p.1∉X.fs/\∀ v,p.2.data≠.cell v
 hok:HOk X.prog X.w H s.heap
 len:σ.length=X.N.length
section
variable {X:Cx} {pins:List (Addr×Obj)} {σ:List (Option V)} {H H':Hp} {s:Shared} {h':Heap}
theorem Cx.Ok.nofr (ok:X.Ok){b:Addr}{o:Obj}(e:X.base.get? b=some o):b∉X.fs:=λhb=>by
 have:=(ok.funs.mem hb).1
 rw[e] at this;cases this
theorem Inv.bs (I:Inv X pins σ H s):∀ b o,X.base.get? b=some o->s.heap.get? b=some o/\H b=none:=λb o e =>
 ⟨I.base.keep b o (I.ok.bs b o e).1 (I.ok.bs b o e).2 (I.ok.nofr e) (I.ok.noex b o e),I.base.free b o (I.ok.bs b o e).1 (I.ok.bs b o e).2 (I.ok.noex b o e)⟩
theorem Inv.bk (I:Inv X pins σ H s):∀ b o,X.base.get? b=some o->s.heap.get? b=some o:=λb o e=>(I.bs b o e).1
theorem Inv.mod (I:Inv X pins σ H s):Mod X.K X.mg X.base:=I.ok.mod
theorem Inv.kIn (I:Inv X pins σ H s):X.K.In s.heap:=I.ok.mod.kin.keeps I.bk
theorem Inv.lt (I:Inv X pins σ H s):X.env.locals < s.heap.objs.size:=let ⟨_,hn,_⟩:=I.loc;hn.lt
theorem Inv.sz (I:Inv X pins σ H s):X.s₀.heap.objs.size<=s.heap.objs.size:=Nat.le_trans I.ok.above (Nat.le_of_lt I.lt)
theorem Inv.nofs (I:Inv X pins σ H s){a:Addr}(h:s.heap.objs.size<=a):a∉X.fs:=λhb=>by
 obtain⟨_,o,ho,_⟩:=I.ok.funs.mem hb
 exact absurd (Nat.lt_of_lt_of_le (Heap.lt_size ho) (Nat.le_trans I.sz h)) (Nat.lt_irrefl _)
theorem Inv.cne (I:Inv X pins σ H s):∀ x c,X.env.cells.lookup x=some c->c≠X.env.locals:=λx c e z=>by
 obtain⟨v,o,ho,hd⟩:=I.cell x c e
 obtain⟨m,⟨o',es,ep,ho',hd',_⟩,_⟩:=I.loc
 rw[z,ho'] at ho;cases ho;rw[hd'] at hd;cases hd
theorem Inv.funs (I:Inv X pins σ H s):s.heap.FunFrames X.base X.outer:=by
 have all:∀ (l:List Env),(∀ b∈frs l,b∈X.fs)->X.s₀.heap.FunFrames X.base l->s.heap.FunFrames X.base l:=by
  intro l
  induction l with
  | nil=>intro _ _;trivial
  | cons env r ih =>
   intro hs hl
   obtain⟨hk,⟨L,o,hf,hn,ho,hd⟩,hr⟩:=hl
   have hL:L∈X.fs:=hs L (by unfold frs;rw[List.filterMap_cons,hf];exact List.mem_cons_self)
   obtain⟨sl,e⟩:=I.base.slot L o ho (I.ok.frf L hL) hL λz=>I.ok.exfs L z hL
   exact⟨hk,⟨L,_,hf,hn,e,hd⟩,ih (λb hb=>hs b (by unfold frs;rw[List.filterMap_cons,hf];exact List.mem_cons_of_mem _ hb)) hr⟩
 exact all X.outer (λ_ hb=>hb) I.ok.funs
theorem Inv.stack (I:Inv X pins σ H s):s.heap.FunFrames X.base X.stack:=by
 rcases I.ok.stk with e | ⟨e,hf⟩
 ·rw[e];exact I.funs
 ·rw[e]
  obtain⟨m,hn,_⟩:=I.loc
  refine .cons (by rw[I.ok.kind];decide) hf hn ?_ I.funs
  exact Heap.get?_none_of_le (Nat.le_trans I.ok.bsz I.ok.above)
theorem Inv.stkSub (I:Inv X pins σ H s):∀ b∈frs X.stack,b∈X.env.locals :: X.fs:=λb hb=>by
 rcases I.ok.stk with e | ⟨e,hf⟩
 ·rw[e] at hb;exact List.mem_cons_of_mem _ hb
 ·rw[e] at hb
  unfold frs at hb
  rw[List.filterMap_cons,hf] at hb
  exact hb
theorem Inv.stkFree (I:Inv X pins σ H s):∀ b∈frs X.stack,H b=none:=λb hb=>by
 rcases List.mem_cons.mp (I.stkSub b hb) with e | hb
 ·rw[e];exact I.free
 ·obtain⟨_,o,ho,_⟩:=I.ok.funs.mem hb
  exact I.base.free b o ho (I.ok.frf b hb) λz=>I.ok.exfs b z hb
theorem Inv.step {g':Array GenState}{t':Nat}{d':Drawn}{ch:List Addr}(I:Inv X pins σ H s)
  (hch:∀ b∈ch,(b∈X.ex∨X.s₀.heap.objs.size<=b)/\b≠X.env.locals/\(∀ x c,X.env.cells.lookup x=some c->c≠b)/\∀ p∈X.pn++pins,p.1≠b)
  (keep:∀ b o,b≠X.env.locals->b∉X.fs->b∉ch->s.heap.get? b=some o->H b=none->h'.get? b=some o)
  (slot:∀ b o,b≠X.env.locals->b∈X.fs->b∉ch->s.heap.get? b=some o->H b=none->∃ sl,h'.get? b=some { o with slots:=sl }) (free:∀ b o,b∉ch->s.heap.get? b=some o->H b=none->H' b=none)
  (there:∀ b o,b∉ch->s.heap.get? b=some o->∃ o',h'.get? b=some o')
  (tups:∀ b xs,H b=some (.tup xs)->H' b=some (.tup xs)) (frzs:∀ b o u,H b=some (.frz o u)->H' b=some (.frz o u)) (tbls:∀ b ps,H b=some (.tbl ps)->∃ more,H' b=some (.tbl (ps++more)))
  (ns:∀ m,s.heap.Ns X.env.locals m->h'.Ns X.env.locals m) (hok:HOk X.prog X.w H' h') (hg:AllBare g') :
  Inv X pins σ H' { s with heap:=h',gens:=g',drawn:=d',toks:=t' }:=by
 have neL:∀ b o,X.s₀.heap.get? b=some o->b≠X.env.locals:=λb o e=>Nat.ne_of_lt (Nat.lt_of_lt_of_le (Heap.lt_size e) I.ok.above)
 have neC:∀ b o,X.s₀.heap.get? b=some o->b∉X.ex->b∉ch:=λb o e hx hb=>by
  rcases(hch b hb).1 with z | z
  ·exact hx z
  ·exact absurd (Nat.lt_of_lt_of_le (Heap.lt_size e) z) (Nat.lt_irrefl _)
 have cellK:∀ x c,X.env.cells.lookup x=some c->∀ v,s.heap.IsCell c v->h'.IsCell c v:=λx c e v ⟨o,ho,hd⟩=>by
  have nch:c∉ch:=λz=>(hch c z).2.2.1 x c e rfl
  by_cases hc:c∈X.fs
  ·obtain⟨sl,q⟩:=slot c o (I.cne x c e) hc nch ho (I.freeC x c e)
   exact⟨_,q,hd⟩
  ·exact⟨o,keep c o (I.cne x c e) hc nch ho (I.freeC x c e),hd⟩
 refine⟨I.ok,I.os,hg,⟨λb o e n hb hx=>?_,λb o e n hb hx=>?_,λb o e n hx=>?_,λb o e hx=>?_,λb xs e=>tups b xs (I.base.tups b xs e),λb o xs e=>frzs b o xs (I.base.frzs b o xs e),λb ps e=>?_⟩,?_,λx c e=>?_,?_,λx c e=>?_,λp hp=>?_,hok,I.len⟩
 ·exact keep b o (neL b o e) hb (neC b o e hx) (I.base.keep b o e n hb hx) (I.base.free b o e n hx)
 ·obtain⟨sl,e1⟩:=I.base.slot b o e n hb hx
  obtain⟨sl',e2⟩:=slot b _ (neL b o e) hb (neC b o e hx) e1 (I.base.free b o e n hx)
  exact⟨sl',e2⟩
 ·obtain⟨o',e1⟩:=I.base.there b o e hx
  exact free b o' (neC b o e hx) e1 (I.base.free b o e n hx)
 ·obtain⟨o',e1⟩:=I.base.there b o e hx
  exact there b o' (neC b o e hx) e1
 ·obtain⟨m1,e1⟩:=I.base.tbls b ps e
  obtain⟨m2,e2⟩:=tbls b _ e1
  exact⟨m1++m2,by rw[e2,Array.append_assoc]⟩
 ·obtain⟨m,hn,hl⟩:=I.loc
  refine⟨m,ns m hn,λi x v e1 e2 e3=>?_⟩
  obtain⟨u,r,l⟩:=hl i x v e1 e2 e3
  refine⟨u,r,?_⟩
  rcases l with l | ⟨k,c,e,z⟩
  ·exact .inl l
  ·exact .inr ⟨k,c,e,cellK x c e _ z⟩
 ·obtain⟨v,z⟩:=I.cell x c e
  exact⟨v,cellK x c e v z⟩
 ·obtain⟨m,⟨o,_,_,ho,_⟩,_⟩:=I.loc
  exact free _ o (λz=>(hch _ z).2.1 rfl) ho I.free
 ·obtain⟨v,o,ho,hd⟩:=I.cell x c e
  exact free c o (λz=>(hch c z).2.2.1 x c e rfl) ho (I.freeC x c e)
 ·obtain⟨e,n,ne,nf,d⟩:=I.pin p hp
  have nch:p.1∉ch:=λz=>(hch p.1 z).2.2.2 p hp rfl
  exact⟨keep p.1 p.2 ne nf nch e n,free p.1 p.2 nch e n,ne,nf,d⟩
theorem Inv.un {t':Nat}(I:Inv X pins σ H s)(u:Un X.fs [] H H' s.heap h')(hok:HOk X.prog X.w H' h'):Inv X pins σ H' { s with heap:=h',toks:=t' }:=by
 obtain⟨m,⟨o,es,ep,ho,r⟩,_⟩:=id I.loc
 obtain⟨sl,hL⟩:=u.any ho I.free (by simp)
 exact I.step (g':=s.gens) (d':=s.drawn) (ch:=[]) (λ_ z=>nomatch z) (λb o _ hb _ e n=>u.keep b o e n hb (by simp)) (λb o _ hb _ e n=>u.slot b o e n hb (by simp)) (λb o _ e n=>u.free b o e n (by simp)) (λb o _ e=>u.there b o e (by simp)) u.tups u.frzs u.tbls (λm' hm=>by
  obtain⟨o',es',ep',ho',r'⟩:=hm
  rw[ho] at ho';cases ho'
  exact⟨_,es',ep',hL,r'⟩) hok I.bare
theorem Inv.call {g':Array GenState}{t':Nat}{d':Drawn}{ch:List Addr}(I:Inv X pins σ H s)(u:Un (frs X.stack) ch H H' s.heap h')(hok:HOk X.prog X.w H' h')(hg:AllBare g')
  (hch:∀ b∈ch,(b∈X.ex∨X.s₀.heap.objs.size<=b)/\b≠X.env.locals/\(∀ x c,X.env.cells.lookup x=some c->c≠b)/\∀ p∈X.pn++pins,p.1≠b) :
  Inv X pins σ H' { s with heap:=h',gens:=g',drawn:=d',toks:=t' }:=by
 obtain⟨m,⟨o,es,ep,ho,r⟩,_⟩:=id I.loc
 obtain⟨sl,hL⟩:=u.any ho I.free λz=>(hch _ z).2.1 rfl
 exact I.step (ch:=ch) hch (λb o hL hb hc e n=>u.keep b o e n (λz=>(List.mem_cons.mp (I.stkSub b z)).elim hL hb) hc) (λb o _ _ hc e n=>u.any e n hc) (λb o hc e n=>u.free b o e n hc) (λb o hc e=>u.there b o e hc) u.tups u.frzs u.tbls (λm' hm=>by
  obtain⟨o',es',ep',ho',r'⟩:=hm
  rw[ho] at ho';cases ho'
  exact⟨_,es',ep',hL,r'⟩) hok hg
theorem Inv.turned {t':Nat}{it:Addr}(I:Inv X pins σ H s)(k:∀ b o,b≠it->s.heap.get? b=some o->h'.get? b=some o)(hn:H it=none)(hL:it≠X.env.locals)
  (h1:it∈X.ex∨X.s₀.heap.objs.size<=it) (h2:∀ x c,X.env.cells.lookup x=some c->c≠it) (h3:∀ p∈X.pn++pins,p.1≠it):Inv X pins σ H { s with heap:=h',toks:=t' }:=by
 have nit:∀ b u,H b=some u->b≠it:=λb u e z=>by rw[z,hn] at e;cases e
 refine I.step (g':=s.gens) (d':=s.drawn) (ch:=[it]) (λb hb=>?_) (λb o _ _ hc e _=>k b o (λz=>hc (by simp[z])) e) (λb o _ _ hc e _=>⟨o.slots,k b o (λz=>hc (by simp[z])) e⟩) (λ_ _ _ _ n=>n)
  (λb o hc e=>⟨o,k b o (λz=>hc (by simp[z])) e⟩) (λ_ _ e=>e) (λ_ _ _ e=>e) (λb ps e=>⟨#[],by rw[e];simp⟩) (λm hm=>?_) (λb u e=>?_) I.bare
 ·have e:b=it:=by simpa using hb
  subst e
  exact⟨h1,hL,h2,h3⟩
 ·obtain⟨o,es,ep,ho,r⟩:=hm
  exact⟨o,es,ep,k _ o (Ne.symm hL) ho,r⟩
 ·refine(I.hok b u e).stay (λc v hc q=>k c v ?_ q) (λ_ q=>q) λ_ _ q=>q
  rcases hc with z | z
  ·rw[z];exact nit b u e
  ·exact nit c _ z
theorem Inv.tok (I:Inv X pins σ H s)(t:Nat):Inv X pins σ H { s with toks:=t }:=I.un (h':=s.heap) (t':=t) Un.refl I.hok
theorem Inv.kept {t':Nat}(I:Inv X pins σ H s)(k:∀ b u,s.heap.get? b=some u->h'.get? b=some u):Inv X pins σ H { s with heap:=h',toks:=t' }:=I.un (Un.kept k) (I.hok.kept k)
theorem Inv.laid {a:Addr}{o:HO}{t':Nat}(I:Inv X pins σ H s)(k:∀ b u,s.heap.get? b=some u->h'.get? b=some u)(hp:s.heap.objs.size<=a)(new:ObjOk X.prog X.w (upd H a o) h' a o) :
  Inv X pins σ (upd H a o) { s with heap:=h',toks:=t' }:=I.un (Un.laid k hp (I.hok.fresh hp)) (I.hok.laid k hp new)
theorem Inv.write {x e:Addr}{o:HO}{t':Nat}(I:Inv X pins σ H s)(mu:Mut (H x))(he:e=x∨H e=some (.own x))(k:∀ b u,b≠e->s.heap.get? b=some u->h'.get? b=some u)(heo:∃ u,h'.get? e=some u)
  (new:ObjOk X.prog X.w (upd H x o) h' x o):Inv X pins σ (upd H x o) { s with heap:=h',toks:=t' }:=I.un (Un.write mu he k heo) (I.hok.write mu he k heo new)
theorem Inv.pins_of {pins':List (Addr×Obj)}(I:Inv X pins σ H s)(h:∀ p∈pins',s.heap.get? p.1=some p.2/\H p.1=none/\p.1≠X.env.locals/\p.1∉X.fs/\∀ v,p.2.data≠.cell v):Inv X pins' σ H s :=
 ⟨I.ok,I.os,I.bare,I.base,I.loc,I.cell,I.free,I.freeC,λp hp=>(List.mem_append.mp hp).elim (λz=>I.pin p (List.mem_append_left _ z)) (h p),I.hok,I.len⟩
theorem yjq {N:List Str}(hN:N.Nodup){i j:Nat}{x:Str}(a:N[i]?=some x)(b:N[j]?=some x):i=j:=by
 obtain⟨h1,e1⟩:=List.getElem?_eq_some_iff.mp a
 obtain⟨h2,e2⟩:=List.getElem?_eq_some_iff.mp b
 exact(List.getElem_inj hN).mp (e1.trans e2.symm)
theorem yhz {M:Model}{A:Around}{E:Value->Shared->Prop}{i:Nat}{x:Str}{v:V}{u:Value}{Q:Unit->Shared->Prop}(I:Inv X pins σ H s)(hN:X.N.Nodup)(hi:X.N[i]?=some x)(hx:Loc X.env.scope x)(r:RelV v u)
  (h:∀ s',Inv X pins (σ.set i (some v)) H s'->(∃ a,Heap.SameBut a s.heap s'.heap/\(a=X.env.locals∨X.env.cells.lookup x=some a))->Q () s') (hf:X.fn x=true∨X.env.scope.names.lookup x=some .local:=by first | exact .inl rfl | exact .inr rfl | assumption):wpAny M A (storeName X.env x u) Q E s:=by
 obtain⟨m,hn,hl⟩:=id I.loc
 have hcls:(X.env.scope.kind==.class||(X.env.scope.kind==.module&&X.env.locals != X.env.globals))=false:=by rw[I.ok.kind];rfl
 have hiσ:i < σ.length:=by rw[I.len];exact(List.getElem?_eq_some_iff.mp hi).1
 have cne:=I.cne
 have tracked:∀ {a:Addr} {h':Heap},(∃ o,s.heap.get? a=some o/\H a=none)->Heap.SameBut a s.heap h'->HOk X.prog X.w H h':=λ{a h'} ha hs b ob e=>by
  obtain⟨_,_,hfree⟩:=ha
  refine(I.hok b ob e).stay (λc w' hc q=>(hs.2 c ?_).trans q) (λ_ q=>q) λ_ _ q=>q
  rintro rfl
  rcases hc with rfl | hc
  ·rw[hfree] at e;cases e
  ·rw[hfree] at hc;cases hc
 rcases hx with hk | hk
 ·refine wpAny_storeName_local hk hn (λh' hn' hs=>?_) hcls
  obtain⟨oL,_,_,hoL,_⟩:=id hn
  refine h _ ⟨I.ok,I.os,I.bare,⟨λb o e n hb hx=>?_,λb o e n hb hx=>?_,I.base.free,λb o e hx=>?_,I.base.tups,I.base.frzs,I.base.tbls⟩,⟨_,hn',λj y v' e1 e2 e3=>?_⟩,λy c e=>?_,I.free,I.freeC,λp hp=>?_,tracked ⟨oL,hoL,I.free⟩ hs,by simpa using I.len⟩ ⟨_,hs,.inl rfl⟩
  ·exact(hs.2 b (Nat.ne_of_lt (Nat.lt_of_lt_of_le (Heap.lt_size e) I.ok.above))).trans (I.base.keep b o e n hb hx)
  ·obtain⟨sl,e1⟩:=I.base.slot b o e n hb hx
   exact⟨sl,(hs.2 b (Nat.ne_of_lt (Nat.lt_of_lt_of_le (Heap.lt_size e) I.ok.above))).trans e1⟩
  ·obtain⟨o',e1⟩:=I.base.there b o e hx
   exact⟨o',(hs.2 b (Nat.ne_of_lt (Nat.lt_of_lt_of_le (Heap.lt_size e) I.ok.above))).trans e1⟩
  ·by_cases hj:j=i
   ·subst hj
    rw[hi] at e1;cases e1
    rw[List.getElem?_set_self hiσ] at e2
    cases e2
    exact⟨u,r,.inl ⟨hk,by simp⟩⟩
   ·rw[List.getElem?_set_ne (Ne.symm hj)] at e2
    obtain⟨u',r',q⟩:=hl j y v' e1 e2 e3
    refine⟨u',r',?_⟩
    rcases q with ⟨k,e⟩ | ⟨k,c,e,z⟩
    ·refine .inl ⟨k,?_⟩
     have:y≠x:=λe=>hj (yjq hN e1 (e▸hi))
     simp[this,e]
    ·exact .inr ⟨k,c,e,z.sameBut hs (cne y c e)⟩
  ·obtain⟨w',z⟩:=I.cell y c e
   exact⟨w',z.sameBut hs (cne y c e)⟩
  ·obtain⟨e,n,ne,nf,d⟩:=I.pin p hp
   exact⟨(hs.2 p.1 ne).trans e,n,ne,nf,d⟩
 ·have hfn:X.fn x=true:=by
   rcases hf with z | z
   ·exact z
   ·rw[z] at hk;cases hk
  obtain⟨c,hc⟩:=I.ok.has x (.inl hk)
  obtain⟨w',z⟩:=I.cell x c hc
  refine wpAny_storeName_cell I.ok.kind hk hc z (λh' hc' hs=>?_)
  obtain⟨oc,hoc,hocd⟩:=id z
  refine h { s with heap:=h' } ⟨I.ok,I.os,I.bare,⟨λb o e n hb hx=>?_,λb o e n hb hx=>?_,I.base.free,λb o e hx=>?_,I.base.tups,I.base.frzs,I.base.tbls⟩,⟨m,hn.sameBut hs (Ne.symm (cne x c hc)),λj y v' e1 e2 e3=>?_⟩,λy c' e=>?_,I.free,I.freeC,λp hp=>?_,tracked ⟨oc,hoc,I.freeC x c hc⟩ hs,by simpa using I.len⟩ ⟨c,hs,.inr hc⟩
  ·exact(hs.2 b (Nat.ne_of_lt (Nat.lt_of_lt_of_le (Heap.lt_size e) (I.ok.cab x c hfn hc)))).trans (I.base.keep b o e n hb hx)
  ·obtain⟨sl,e1⟩:=I.base.slot b o e n hb hx
   exact⟨sl,(hs.2 b (Nat.ne_of_lt (Nat.lt_of_lt_of_le (Heap.lt_size e) (I.ok.cab x c hfn hc)))).trans e1⟩
  ·obtain⟨o',e1⟩:=I.base.there b o e hx
   exact⟨o',(hs.2 b (Nat.ne_of_lt (Nat.lt_of_lt_of_le (Heap.lt_size e) (I.ok.cab x c hfn hc)))).trans e1⟩
  ·by_cases hj:j=i
   ·subst hj
    rw[hi] at e1;cases e1
    rw[List.getElem?_set_self hiσ] at e2
    cases e2
    exact⟨u,r,.inr ⟨.inl hk,c,hc,hc'⟩⟩
   ·rw[List.getElem?_set_ne (Ne.symm hj)] at e2
    obtain⟨u',r',q⟩:=hl j y v' e1 e2 e3
    refine⟨u',r',?_⟩
    rcases q with q | ⟨k,c',e,z'⟩
    ·exact .inl q
    ·refine .inr ⟨k,c',e,z'.sameBut hs ?_⟩
     rintro rfl
     exact hj (yjq hN e1 (I.ok.inj _ _ _ e hc▸hi))
  ·by_cases hcc:c'=c
   ·subst hcc;exact⟨_,hc'⟩
   ·obtain⟨w2,z2⟩:=I.cell y c' e
    exact⟨w2,z2.sameBut hs hcc⟩
  ·obtain⟨e,n,ne,nf,d⟩:=I.pin p hp
   refine⟨(hs.2 p.1 ?_).trans e,n,ne,nf,d⟩
   intro q
   rw[q,hoc] at e
   have q':oc=p.2:=Option.some.inj e
   exact d w' (by rw[← q'];exact hocd)
theorem ydS {M:Model}{A:Around}{E:Value->Shared->Prop}{i:Nat}{x:Str}{v:V}{u:Value}{Q:Unit->Shared->Prop}(I:Inv X pins σ H s)(hN:X.N.Nodup)(hi:X.N[i]?=some x)(hx:Loc X.env.scope x)(r:RelV v u)
  (h:∀ s',Inv X pins (σ.set i (some v)) H s'->Q () s') (hf:X.fn x=true∨X.env.scope.names.lookup x=some .local:=by first | exact .inl rfl | exact .inr rfl | assumption):wpAny M A (storeName X.env x u) Q E s :=
 yhz I hN hi hx r (λs' I' _=>h s' I') hf
theorem Inv.call' {s':Shared}{ch:List Addr}(I:Inv X pins σ H s)(ho:s'.os=s.os)(u:Un (frs X.stack) ch H H' s.heap s'.heap)(hok:HOk X.prog X.w H' s'.heap)(hg:AllBare s'.gens)
  (hch:∀ b∈ch,(b∈X.ex∨X.s₀.heap.objs.size<=b)/\b≠X.env.locals/\(∀ x c,X.env.cells.lookup x=some c->c≠b)/\∀ p∈X.pn++pins,p.1≠b):Inv X pins σ H' s':=by
 obtain⟨h',g',d',t',o'⟩:=s'
 have e:o'=s.os:=ho
 subst e
 exact I.call (g':=g') (t':=t') (d':=d') u hok hg hch
end
noncomputable abbrev XK:=Value->Option Addr->Hp->Prop
noncomputable abbrev St:=List (Option V)
noncomputable abbrev VK:=V->Hp->Prop
noncomputable abbrev TE:=St->Hp->VK->Prop
noncomputable abbrev TT:=St->Hp->(Bool->Hp->Prop)->Prop
noncomputable abbrev TA:=St->Hp->(List V->Hp->Prop)->Prop
structure yex where
 nx:St->Hp->Prop
 rt:VK
 bk:St->Hp->Prop:=λ_ _=>False
 ct:St->Hp->Prop:=λ_ _=>False
noncomputable abbrev TS:=yex->St->Hp->Prop
noncomputable def EP (X:Cx)(pins:List (Addr×Obj))(σ:St)(Q:VK)(u:Value)(s':Shared):Prop:=∃ v H',Inv X pins σ H' s'/\RelV v u/\Q v H'
noncomputable def TP (X:Cx)(pins:List (Addr×Obj))(σ:St)(Q:Bool->Hp->Prop)(b:Bool)(s':Shared):Prop:=∃ H',Inv X pins σ H' s'/\Q b H'
noncomputable def AP (X:Cx)(pins:List (Addr×Obj))(σ:St)(Q:List V->Hp->Prop)(us:List Value)(s':Shared):Prop:=∃ vs H',Inv X pins σ H' s'/\Vals vs us/\Q vs H'
noncomputable def SP (X:Cx)(pins:List (Addr×Obj))(D:yex)(f:Flow)(s':Shared):Prop :=
 match f with
 | .next=>∃ σ' H',Inv X pins σ' H' s'/\D.nx σ' H'
 | .brk=>∃ σ' H',Inv X pins σ' H' s'/\D.bk σ' H'
 | .cont=>∃ σ' H',Inv X pins σ' H' s'/\D.ct σ' H'
 | .ret u=>∃ v σ' H',Inv X pins σ' H' s'/\RelV v u/\D.rt v H'
noncomputable def PE (X:Cx)(e:Expr)(t:TE):Prop :=
 ∀ (pins:List (Addr×Obj)) (s:Shared) (σ:St) (H:Hp) (Q:VK),Inv X pins σ H s->t σ H Q->wpAny (model X.prog X.w) X.A (eval e X.env) (EP X pins σ Q) X.xe s
noncomputable def PT (X:Cx)(e:Expr)(t:TT):Prop :=
 ∀ (pins:List (Addr×Obj)) (s:Shared) (σ:St) (H:Hp) (Q:Bool->Hp->Prop),Inv X pins σ H s->t σ H Q->wpAny (model X.prog X.w) X.A (isTrue e X.env (eval e X.env)) (TP X pins σ Q) X.xe s
noncomputable def PW (X:Cx)(e:Expr)(t:TT):Prop :=
 ∀ (whole:Sem Value) (pins:List (Addr×Obj)) (s:Shared) (σ:St) (H:Hp) (Q:Bool->Hp->Prop),Inv X pins σ H s->t σ H Q->wpAny (model X.prog X.w) X.A (isTrue e X.env whole) (TP X pins σ Q) X.xe s
theorem PW.pt {X:Cx}{e:Expr}{t:TT}(h:PW X e t):PT X e t:=h _
noncomputable def PA (X:Cx)(es:List Expr)(t:TA):Prop :=
 ∀ (pos:Pos) (pins:List (Addr×Obj)) (s:Shared) (σ:St) (H:Hp) (Q:List V->Hp->Prop),Inv X pins σ H s->t σ H Q->wpAny (model X.prog X.w) X.A (spliced (backTo pos (starEach es X.env))) (AP X pins σ Q) X.xe s
noncomputable def PS (X:Cx)(st:Stmt)(t:TS):Prop :=
 ∀ (pins:List (Addr×Obj)) (s:Shared) (σ:St) (H:Hp) (D:yex),Inv X pins σ H s->t D σ H->wpAny (model X.prog X.w) X.A (exec st X.env) (SP X pins D) X.xe s
noncomputable def PSs (X:Cx)(st:List Stmt)(t:TS):Prop :=
 ∀ (pins:List (Addr×Obj)) (s:Shared) (σ:St) (H:Hp) (D:yex),Inv X pins σ H s->t D σ H->wpAny (model X.prog X.w) X.A (execs st X.env) (SP X pins D) X.xe s
theorem thn {α:Type}{t:Sem α}{Q Q':α->Shared->Prop}{M:Model}{A:Around}{E:Value->Shared->Prop}{s:Shared}(h:wpAny M A t Q E s)(hQ:∀ a s,Q a s->Q' a s):wpAny M A t Q' E s:=wpAny_mono h hQ λ_ _ x=>x
section
variable {X:Cx}
theorem bin {a b:Expr}{ta tb:TE}(ha:PE X a ta)(hb:PE X b tb){pins:List (Addr×Obj)}{s:Shared}{σ:St}{H:Hp}{R:V->V->Hp->Prop}(I:Inv X pins σ H s)(h:ta σ H λx H1=>tb σ H1 λy H2=>R x y H2)
  {α:Type} {Q:α->Shared->Prop} {f:Value->Value->Sem α}
  (hf:∀ v u s2 x y H2,Inv X pins σ H2 s2->RelV x v->RelV y u->R x y H2->wpAny (model X.prog X.w) X.A (f v u) Q X.xe s2) :
  wpAny (model X.prog X.w) X.A (eval a X.env) (λv s₁=>wpAny (model X.prog X.w) X.A (eval b X.env) (λu s₂=>wpAny (model X.prog X.w) X.A (f v u) Q X.xe s₂) X.xe s₁) X.xe s:=by
 refine thn (ha pins s σ H _ I h) λv s1 ⟨x,H1,I1,r1,q1⟩=>?_
 refine thn (hb pins s1 σ H1 _ I1 q1) λu s2 ⟨y,H2,I2,r2,q2⟩=>?_
 exact hf v u s2 x y H2 I2 r1 r2 q2
noncomputable def ydD (i:Nat):TE:=fun σ H Q=>∃ v,σ[i]?=some (some v)/\Q v H
noncomputable def tC (v:V):TE:=λ_ H Q=>Q v H
theorem yn1 {i:Nat}{x:Str}{pos:Pos}(hN:X.N[i]?=some x)(hv:Vis X.env.scope x)(hd:(x==("__debug__" : Str))=false:=by decide)(hcd:(x==("__classdict__" : Str))=false:=by decide):PE X (.Name x pos) (ydD i):=by
 intro pins s σ H Q I h
 obtain⟨v,e,h⟩:=h
 obtain⟨m,hn,hl⟩:=I.loc
 obtain⟨u,r,l⟩:=hl i x v hN e hv
 have fin:EP X pins σ Q u s:=⟨v,H,I,r,h⟩
 rcases l with ⟨hk,hm⟩ | ⟨hk,c,hc,hcell⟩
 ·exact wpAny_Name (wpAny_loadName_local I.ok.kind hk hn hm fin) hd
 ·rcases hk with hk | hk
  ·exact wpAny_Name (wpAny_loadName_cell I.ok.kind hk hc hcell fin) hd
  ·exact wpAny_Name (wpAny_loadName_free I.ok.kind hk hc hcell fin hcd) hd
theorem yad {i j pos}:PE X (.Constant (.int i) j pos) (tC (.int i)):=λ_ _ _ H _ I h=>wpAny_Constant_int ⟨.int i,H,I.tok _,⟨_,rfl⟩,h⟩
theorem ycy {b j pos}:PE X (.Constant (.bool b) j pos) (tC (.bl b)):=λ_ _ _ H _ I h=>Constant_bool ⟨.bl b,H,I,rfl,h⟩
theorem yaW {j pos}:PE X (.Constant .none j pos) (tC .non):=λ_ _ _ H _ I h=>Constant_none ⟨.non,H,I,rfl,h⟩
theorem yat {x j pos}:PE X (.Constant (.str x) j pos) (tC (.str x)):=λ_ _ _ H _ I h=>Calls.Constant_str ⟨.str x,H,I.tok _,⟨_,rfl⟩,h⟩
noncomputable def Gl (X:Cx)(x:Str):Prop:=X.env.kindOf x=some .globalImplicit
theorem yic {E:Value->Shared->Prop}{pins:List (Addr×Obj)}{s:Shared}{σ:St}{H:Hp}{x:Str}{u:Value}{pos:Pos}{Q:Value->Shared->Prop}(I:Inv X pins σ H s)(hg:Gl X x)(hm:X.mg x=some u)(h:Q u s)
  (hd:(x==("__debug__" : Str))=false:=by decide):wpAny (model X.prog X.w) X.A (eval (.Name x pos) X.env) Q E s :=
 Calls.Name_function_global I.ok.kind hg (Calls.loadGlobal_global (by rw[I.ok.glob];exact I.mod.glob.keeps I.bk) hm h) hd
theorem yen {E:Value->Shared->Prop}{pins:List (Addr×Obj)}{s:Shared}{σ:St}{H:Hp}{x:Str}{u:Value}{pos:Pos}{Q:Value->Shared->Prop}(I:Inv X pins σ H s)(hg:Gl X x)(hm:X.mg x=none)(hv:bootBuiltins x=some u)(h:Q u s)
  (hn:x≠"__name__":= by decide) (hd:(x==("__debug__" : Str))=false:=by decide):wpAny (model X.prog X.w) X.A (eval (.Name x pos) X.env) Q E s:=by
 obtain⟨mb,h1,h2⟩:=I.mod.blt
 exact Calls.Name_function_global I.ok.kind hg (Calls.loadGlobal_builtin (by rw[I.ok.glob];exact I.mod.glob.keeps I.bk) hm (by rw[I.ok.blt];exact h1.keeps I.bk) ((h2 x hn).trans hv) h) hd
theorem ycV {x:Str}{v:V}{u:Value}{pos:Pos}(hg:Gl X x)(hm:X.mg x=some u)(r:RelV v u)(hd:(x==("__debug__" : Str))=false:=by decide):PE X (.Name x pos) (tC v) :=
 λ_ _ _ H _ I h=>yic I hg hm ⟨v,H,I,r,h⟩ hd
theorem yo0 {x:Str}{v:V}{u:Value}{pos:Pos}(hg:Gl X x)(hm:X.mg x=none)(hv:bootBuiltins x=some u)(r:RelV v u)(hn:x≠"__name__":= by decide)(hd:(x==("__debug__" : Str))=false:=by decide):PE X (.Name x pos) (tC v) :=
 λ_ _ _ H _ I h=>yen I hg hm hv ⟨v,H,I,r,h⟩ hn hd
variable {a b:Expr} {ta tb:TE} {pos:Pos}
noncomputable def tB (t:TE):TT:=fun σ H Q=>t σ H λx H1=>∃ c,x=.bl c/\Q c H1
theorem yaU {e:Expr}{t:TE}(h:PE X e t)(he:∀ whole,isTrue e X.env whole=(do let v ← whole;standAt e.pos;holding [v] (truthy v)):=by intro _;rfl):PT X e (tB t):=by
 intro pins s σ H Q I hw
 refine isTrue_plain (thn (h pins s σ H _ I hw) λv s1 ⟨x,H1,I1,r1,q1⟩=>?_) (he _)
 obtain⟨d,rfl,q⟩:=q1
 cases r1
 exact wpAny_truthy_bool ⟨H1,I1,q⟩
variable {tA tB':TT} {rest:List Expr}
noncomputable def ytf (t u:TT):TT:=fun σ H Q=>t σ H λc H1=>if c=true then u σ H1 Q else Q false H1
noncomputable def tOr (t u:TT):TT:=fun σ H Q=>t σ H λc H1=>if c=true then Q true H1 else u σ H1 Q
noncomputable def ysE (t:TT):TT:=fun σ H Q=>t σ H λc H1=>Q (!c) H1
theorem yda (ha:PT X a tA):PW X (.BoolOp .And [a] pos) tA:=by
 intro wh pins s σ H Q I h
 refine isTrue_and (thn (ha pins s σ H Q I h) λc s1 e=>?_)
 cases c with
 | true=>exact isTrue_and_nil e
 | false=>exact e
theorem ybA (ha:PT X a tA):PW X (.BoolOp .Or [a] pos) tA:=by
 intro wh pins s σ H Q I h
 refine isTrue_or (thn (ha pins s σ H Q I h) λc s1 e=>?_)
 cases c with
 | false=>exact isTrue_or_nil e
 | true=>exact e
theorem yd5 (ha:PT X a tA)(hb:PW X (.BoolOp .And (b :: rest) pos) tB'):PW X (.BoolOp .And (a :: b :: rest) pos) (ytf tA tB'):=by
 intro wh pins s σ H Q I h
 refine isTrue_and (thn (ha pins s σ H _ I h) λc s1 ⟨H1,I1,q1⟩=>?_)
 cases c with
 | true=>exact hb wh pins s1 σ H1 Q I1 q1
 | false=>exact⟨H1,I1,q1⟩
theorem yb4 (ha:PT X a tA)(hb:PW X (.BoolOp .Or (b :: rest) pos) tB'):PW X (.BoolOp .Or (a :: b :: rest) pos) (tOr tA tB'):=by
 intro wh pins s σ H Q I h
 refine isTrue_or (thn (ha pins s σ H _ I h) λc s1 ⟨H1,I1,q1⟩=>?_)
 cases c with
 | true=>exact⟨H1,I1,q1⟩
 | false=>exact hb wh pins s1 σ H1 Q I1 q1
theorem ybl (ha:PT X a tA):PT X (.UnaryOp .Not a pos) (ysE tA):=by
 intro pins s σ H Q I h
 exact isTrue_not (ha pins s σ H (λc H1=>Q (!c) H1) I h)
noncomputable def yj5 (ta tb:TE):TE:=fun σ H Q=>ta σ H λx H1=>∃ c,x=.bl c/\if c=true then tb σ H1 Q else Q (.bl false) H1
noncomputable def yp2 (ta tb:TE):TE:=fun σ H Q=>ta σ H λx H1=>∃ c,x=.bl c/\if c=true then Q (.bl true) H1 else tb σ H1 Q
noncomputable def yk5 (ta:TE):TE:=fun σ H Q=>ta σ H λx H1=>∃ c,x=.bl c/\Q (.bl (!c)) H1
theorem ybo {op}{t:TE}(h:PE X a t):PE X (.BoolOp op [a] pos) t:=λpins s σ H Q I hw=>BoolOp_one (h pins s σ H Q I hw)
theorem ybq (ha:PE X a ta)(hb:PE X (.BoolOp .And (b :: rest) pos) tb):PE X (.BoolOp .And (a :: b :: rest) pos) (yj5 ta tb):=by
 intro pins s σ H Q I h
 refine BoolOp_and (thn (ha pins s σ H _ I h) λv s1 ⟨x,H1,I1,r1,q1⟩=>?_)
 obtain⟨c,rfl,q1⟩:=q1
 cases r1
 refine wpAny_truthy_bool ?_
 cases c with
 | true=>exact hb pins s1 σ H1 Q I1 q1
 | false=>exact⟨.bl false,H1,I1,rfl,q1⟩
theorem ymy (ha:PE X a ta)(hb:PE X (.BoolOp .Or (b :: rest) pos) tb):PE X (.BoolOp .Or (a :: b :: rest) pos) (yp2 ta tb):=by
 intro pins s σ H Q I h
 refine BoolOp_or (thn (ha pins s σ H _ I h) λv s1 ⟨x,H1,I1,r1,q1⟩=>?_)
 obtain⟨c,rfl,q1⟩:=q1
 cases r1
 refine wpAny_truthy_bool ?_
 cases c with
 | false=>exact hb pins s1 σ H1 Q I1 q1
 | true=>exact⟨.bl true,H1,I1,rfl,q1⟩
theorem yfA (ha:PE X a ta):PE X (.UnaryOp .Not a pos) (yk5 ta):=by
 intro pins s σ H Q I h
 refine UnaryOp_ (thn (ha pins s σ H _ I h) λv s1 ⟨x,H1,I1,r1,q1⟩=>?_)
 obtain⟨c,rfl,q1⟩:=q1
 cases r1
 exact not_of (wpAny_truthy_bool ⟨.bl (!c),H1,I1,rfl,q1⟩)
noncomputable def tIf (t:TT)(ta tb:TE):TE:=fun σ H Q=>t σ H λc H1=>if c=true then ta σ H1 Q else tb σ H1 Q
theorem ybd {c:Expr}(hc:PT X c tA)(ha:PE X a ta)(hb:PE X b tb):PE X (.IfExp c a b pos) (tIf tA ta tb):=by
 intro pins s σ H Q I h
 refine wpAny_IfExp (thn (hc pins s σ H _ I h) λd s1 ⟨H1,I1,q1⟩=>?_)
 cases d with
 | true=>exact ha pins s1 σ H1 Q I1 q1
 | false=>exact hb pins s1 σ H1 Q I1 q1
end
noncomputable def SqL (K:PySem.W.Frag)(H:Hp)(a:Addr)(xs:List V):Prop :=
 Rd H a (.lst xs) ∨
  ∃ (o:Obj) (its:Array Value) (n:Nat),K.lookup a=some o/\o.cls=.type "list" /\ o.dict=none/\o.data=.seq its n/\its.size<=sizeLine/\Vals xs its.toList
noncomputable def SqT (K:PySem.W.Frag)(H:Hp)(a:Addr)(xs:List V):Prop :=
 Rd H a (.tup xs) ∨
  ∃ (o:Obj) (its:Array Value) (n:Nat),K.lookup a=some o/\o.cls=.type "tuple" /\ o.data=.seq its n/\its.size<=sizeLine/\Vals xs its.toList
noncomputable def yuZ:Value->Option V
 | .none=>some .non
 | .bool b=>some (.bl b)
 | .int i _=>some (.int i)
 | .str x _=>some (.str x)
 | .bytes b _=>some (.byt b)
 | .float b _=>some (.flt b)
 | .ref a=>some (.ref a)
 | .type n=>some (.ty n)
 | _=>none
theorem RelV.abs {x:V}{u:Value}(r:RelV x u):yuZ u=some x:=by
 cases x with
 | non=>cases r;rfl
 | bl _=>cases r;rfl
 | int _=>obtain⟨t,rfl⟩:=r;rfl
 | str _=>obtain⟨t,rfl⟩:=r;rfl
 | byt _=>obtain⟨t,rfl⟩:=r;rfl
 | flt _=>obtain⟨t,rfl⟩:=r;rfl
 | ref _=>cases r;rfl
 | ty _=>cases r;rfl
theorem RelV.inj {x y:V}{u:Value}(r:RelV x u)(q:RelV y u):x=y:=Option.some.inj (r.abs.symm.trans q.abs)
theorem Vals.inj:∀ {xs ys:List V} {us:List Value},Vals xs us->Vals ys us->xs=ys
 | _,_,_,.nil,.nil=>rfl
 | _,_,_,.cons r t,.cons r' t'=>by rw[r.inj r',Vals.inj t t']
section
variable {X:Cx} {pins:List (Addr×Obj)} {σ:St} {H:Hp} {s:Shared} {a:Addr} {xs ys:List V}
theorem SqL.of {K:PySem.W.Frag}(h:H a=some (.lst xs)):SqL K H a xs:=.inl (.inl h)
theorem SqT.of {K:PySem.W.Frag}(h:H a=some (.tup xs)):SqT K H a xs:=.inl (.inl h)
theorem Inv.list (I:Inv X pins σ H s)(h:SqL X.K H a xs):∃ its:List Value,Vals xs its/\PlainL s.heap a its.toArray/\xs.length<=sizeLine:=by
 rcases h with h | ⟨o,its,n,hk,hc,hd,hs,hz,r⟩
 ·obtain⟨z,its,n,r,e⟩:=h.ok I.hok
  exact⟨its,r,⟨_,n,e,rfl,rfl,rfl⟩,z⟩
 ·refine⟨its.toList,r,⟨o,n,I.kIn a o hk,hc,hd,by simpa using hs⟩,?_⟩
  have e:=r.length
  simp only[Array.length_toList] at e
  omega
theorem Inv.tuple (I:Inv X pins σ H s)(h:SqT X.K H a xs):∃ its:List Value,Vals xs its/\IsTup s.heap a its.toArray/\xs.length<=sizeLine:=by
 rcases h with h | ⟨o,its,n,hk,hc,hs,hz,r⟩
 ·obtain⟨z,its,r,p⟩:=h.ok I.hok
  exact⟨its,r,p,z⟩
 ·refine⟨its.toList,r,⟨o,I.kIn a o hk,hc,n,by simpa using hs⟩,?_⟩
  have e:=r.length
  simp only[Array.length_toList] at e
  omega
theorem Inv.list_inj (I:Inv X pins σ H s)(h:SqL X.K H a xs)(h':SqL X.K H a ys):xs=ys:=by
 obtain⟨its,r,⟨o,n,e,_,_,d⟩,_⟩:=I.list h
 obtain⟨its',r',⟨o',n',e',_,_,d'⟩,_⟩:=I.list h'
 rw[e] at e';cases e'
 rw[d] at d'
 injection d' with d1 _
 have:its=its':=by simpa using congrArg Array.toList d1
 subst this
 exact r.inj r'
theorem Inv.tuple_inj (I:Inv X pins σ H s)(h:SqT X.K H a xs)(h':SqT X.K H a ys):xs=ys:=by
 obtain⟨its,r,⟨o,e,_,n,d⟩,_⟩:=I.tuple h
 obtain⟨its',r',⟨o',e',_,n',d'⟩,_⟩:=I.tuple h'
 rw[e] at e';cases e'
 rw[d] at d'
 injection d' with d1 _
 have:its=its':=by simpa using congrArg Array.toList d1
 subst this
 exact r.inj r'
end
noncomputable abbrev Cx.wish (X:Cx)(E:Value->Shared->Prop):Cx:={ X with xe:=E }
noncomputable abbrev Cx.nox (X:Cx):Cx:=X.wish λ_ _=>False
theorem Cx.Ok.wish {X:Cx}(ok:X.Ok)(E:Value->Shared->Prop):(X.wish E).Ok :=
 ⟨ok.mod,ok.kind,ok.glob,ok.blt,ok.above,ok.inj,ok.has,ok.cab,ok.hd,ok.frames,ok.stk,ok.exf,ok.bs,ok.bsz,ok.noex,ok.exfs,ok.funs,ok.frf⟩
theorem Cx.Ok.unwish {X:Cx}{E:Value->Shared->Prop}(ok:(X.wish E).Ok):X.Ok :=
 ⟨ok.mod,ok.kind,ok.glob,ok.blt,ok.above,ok.inj,ok.has,ok.cab,ok.hd,ok.frames,ok.stk,ok.exf,ok.bs,ok.bsz,ok.noex,ok.exfs,ok.funs,ok.frf⟩
section
variable {X:Cx} {pins:List (Addr×Obj)} {σ:St} {H:Hp} {s:Shared} {E:Value->Shared->Prop}
theorem Inv.wish (I:Inv X pins σ H s)(E:Value->Shared->Prop):Inv (X.wish E) pins σ H s:=⟨I.ok.wish E,I.os,I.bare,I.base,I.loc,I.cell,I.free,I.freeC,I.pin,I.hok,I.len⟩
theorem Inv.unwish (I:Inv (X.wish E) pins σ H s):Inv X pins σ H s:=⟨I.ok.unwish,I.os,I.bare,I.base,I.loc,I.cell,I.free,I.freeC,I.pin,I.hok,I.len⟩
theorem SP.unwish {D:yex}{f:Flow}{s':Shared}(h:SP (X.wish E) pins D f s'):SP X pins D f s':=by
 cases f with
 | next=>obtain⟨σ',H',I,q⟩:=h;exact⟨σ',H',I.unwish,q⟩
 | brk=>obtain⟨σ',H',I,q⟩:=h;exact⟨σ',H',I.unwish,q⟩
 | cont=>obtain⟨σ',H',I,q⟩:=h;exact⟨σ',H',I.unwish,q⟩
 | ret u=>obtain⟨v,σ',H',I,r,q⟩:=h;exact⟨v,σ',H',I.unwish,r,q⟩
theorem PSs.nox {st:List Stmt}{t:TS}(h:PSs X.nox st t):PSs X st t:=λpins s σ H D I hw =>
 wpAny_mono (h pins s σ H D (I.wish _) hw) (λ_ _ q=>q.unwish) λ_ _ z=>False.elim z
end
section
variable {X:Cx} {st:Stmt} {rest:List Stmt} {t u:TS} {e:Expr} {te:TE} {pos:Pos}
noncomputable def ypx:TS:=λD σ H=>D.nx σ H
noncomputable def ytu (t u:TS):TS:=λD σ H=>t { D with nx:=u D } σ H
theorem yav:PSs X [] ypx:=λ_ _ σ H _ I h=>wpAny_execs_nil ⟨σ,H,I,h⟩
theorem yac (h1:PS X st t)(h2:PSs X rest u):PSs X (st :: rest) (ytu t u):=by
 intro pins s σ H D I h
 refine wpAny_execs_cons (thn (h1 pins s σ H { D with nx:=u D } I h) λf s1 q=>?_)
 cases f with
 | next =>
  obtain⟨σ',H',I',q⟩:=q
  exact h2 pins s1 σ' H' D I' q
 | ret v=>exact q
 | brk=>exact q
 | cont=>exact q
theorem yaf (h1:PS X st t):PSs X [st] t:=by
 intro pins s σ H D I h
 refine wpAny_execs_cons (thn (h1 pins s σ H D I h) λf s1 q=>?_)
 cases f with
 | next=>exact wpAny_execs_nil q
 | ret v=>exact q
 | brk=>exact q
 | cont=>exact q
theorem Inv.quiet {pins:List (Addr×Obj)}{σ:St}{H:Hp}{s:Shared}(I:Inv X pins σ H s):interactive X.env=false:=by simp[interactive,I.ok.kind]
noncomputable def ynt (te:TE):TS:=λD σ H=>te σ H λ_ H1=>D.nx σ H1
theorem yaG (he:PE X e te)(hs:swapsWith e none pos.line X.env=pure false:=by rfl):PS X (.Expr e pos) (ynt te):=by
 intro pins s σ H D I h
 exact wpAny_Expr_any (thn (he pins s σ H _ I h) λv s1 ⟨x,H1,I1,r1,q1⟩=>⟨σ,H1,I1,q1⟩) I.quiet hs
noncomputable def ysc (te:TE):TS:=λD σ H=>te σ H D.rt
theorem yaj (he:PE X e te):PS X (.Return (some e) pos) (ysc te):=by
 intro pins s σ H D I h
 exact wpAny_Return_some (thn (he pins s σ H _ I h) λv s1 ⟨x,H1,I1,r1,q1⟩=>⟨x,σ,H1,I1,r1,q1⟩)
noncomputable def yip (c:TT)(t u:TS):TS:=λD σ H=>c σ H λb H1=>if b=true then t D σ H1 else u D σ H1
theorem yaK {c:Expr}{a b:List Stmt}{tc:TT}(hc:PT X c tc)(ha:PSs X a t)(hb:PSs X b u):PS X (.If c a b pos) (yip tc t u):=by
 intro pins s σ H D I h
 refine wpAny_If (thn (hc pins s σ H _ I h) λd s1 ⟨H1,I1,q1⟩=>?_)
 cases d with
 | true=>exact ha pins s1 σ H1 D I1 q1
 | false=>exact hb pins s1 σ H1 D I1 q1
noncomputable def yrr:TS:=λ_ _ _=>False
theorem ycT:PS X st yrr:=λ_ _ _ _ _ _ h=>h.elim
end
noncomputable abbrev TG:=V->St->Hp->(St->Hp->Prop)->Prop
noncomputable abbrev TGs:=List V->St->Hp->(St->Hp->Prop)->Prop
noncomputable def PG (X:Cx)(target:Expr)(t:TG):Prop :=
 ∀ (pins:List (Addr×Obj)) (s:Shared) (σ:St) (H:Hp) (v:V) (u:Value) (Q:St->Hp->Prop),Inv X pins σ H s->RelV v u->t v σ H Q ->
  wpAny (model X.prog X.w) X.A (assign target X.env u) (λ_ s'=>∃ σ' H',Inv X pins σ' H' s'/\Q σ' H') X.xe s
noncomputable def PGs (X:Cx)(ts:List Expr)(t:TGs):Prop :=
 ∀ (pins:List (Addr×Obj)) (s:Shared) (σ:St) (H:Hp) (vs:List V) (us:List Value) (Q:St->Hp->Prop),Inv X pins σ H s->Vals vs us->t vs σ H Q ->
  wpAny (model X.prog X.w) X.A (assignInOrder ((assignEach ts X.env).map (·.2)) us) (λ_ s'=>∃ σ' H',Inv X pins σ' H' s'/\Q σ' H') X.xe s
noncomputable abbrev ysb:=V->V->V->Hp->(Hp->Prop)->Prop
noncomputable def yuy (X:Cx)(t:ysb):Prop :=
 ∀ (pins:List (Addr×Obj)) (s:Shared) (σ:St) (H:Hp) (o i v:V) (ov iv u:Value) (Q:Hp->Prop),Inv X pins σ H s->RelV o ov->RelV i iv->RelV v u->t o i v H Q ->
  wpAny (model X.prog X.w) X.A (setItem ov iv u) (λ_ s'=>∃ H',Inv X pins σ H' s'/\Q H') X.xe s
noncomputable abbrev TIp:=V->V->Hp->VK->Prop
noncomputable def PIp (X:Cx)(op:Operator)(t:TIp):Prop :=
 ∀ (pins:List (Addr×Obj)) (s:Shared) (σ:St) (H:Hp) (x y:V) (v u:Value) (Q:VK),Inv X pins σ H s->RelV x v->RelV y u->t x y H Q ->
  wpAny (model X.prog X.w) X.A (inplaceOp op v u) (EP X pins σ Q) X.xe s
section
variable {X:Cx} {pos:Pos}
noncomputable def ybZ (i:Nat):TG:=λv σ H Q=>Q (σ.set i (some v)) H
theorem yax {i:Nat}{x:Str}(hN:X.N.Nodup)(hi:X.N[i]?=some x)(hx:Loc X.env.scope x)(hf:X.fn x=true∨X.env.scope.names.lookup x=some .local:=by first | exact .inl rfl | exact .inr rfl | assumption):PG X (.Name x pos) (ybZ i):=by
 intro pins s σ H v u Q I r h
 exact wpAny_assign_Name (ydS I hN hi hx r (λs' I'=>⟨_,H,I',h⟩) hf)
noncomputable def ykS:TGs:=λvs σ H Q=>vs=[]/\Q σ H
noncomputable def ycF (t:TG)(u:TGs):TGs:=λvs σ H Q=>∃ v r,vs=v :: r/\t v σ H fun σ' H'=>u r σ' H' Q
theorem ycD:PGs X [] ykS:=by
 intro pins s σ H vs us Q I r h
 obtain⟨e,h⟩:=h
 subst e
 cases r
 exact assignInOrder_nil ⟨σ,H,I,h⟩
theorem yaZ {e:Expr}{es:List Expr}{t:TG}{u:TGs}(h1:PG X e t)(h2:PGs X es u)
  (hs:(assignEach (e :: es) X.env).map (·.2)=assign e X.env :: (assignEach es X.env).map (·.2):=by rfl):PGs X (e :: es) (ycF t u):=by
 intro pins s σ H vs us Q I r h
 obtain⟨v,vr,e1,h⟩:=h
 subst e1
 cases r with
 | cons r rr =>
  rw[hs]
  refine assignInOrder_cons (thn (h1 pins s σ H _ _ _ I r h) λ_ s1 ⟨σ1,H1,I1,q1⟩=>?_)
  exact h2 pins s1 σ1 H1 _ _ Q I1 rr q1
noncomputable def ykJ (K:PySem.W.Frag)(n:Nat)(t:TGs):TG:=λv σ H Q=>∃ a xs,v=.ref a/\SqT K H a xs/\xs.length=n/\t xs σ H Q
theorem ydy {es:List Expr}{k:Nat}{t:TGs}{n:Nat}(hc:X.calm=true)(h:PGs X es t)
  (hn:(assignEach es X.env).length=n:=by rfl) (hst:(assignEach es X.env).findIdx? (·.1)=none:=by rfl):PG X (.Tuple es k pos) (ykJ X.K n t):=by
 intro pins s σ H v u Q I r hw
 obtain⟨a,xs,e1,hq,hl,hw⟩:=hw
 subst e1
 cases r
 obtain⟨its,rv,ht,hz⟩:=I.tuple hq
 refine assign_Tuple_tuple (I.ok.hd hc) ht (by simp[hn,← hl,rv.length]) hst λh' hx=>?_
 have I1:Inv X pins σ H { s with heap:=h' }:=I.kept (t':=s.toks) λb o e=>hx b o (Nat.ne_of_lt (Heap.lt_size e)) e
 exact h pins _ σ H xs _ Q I1 (by simpa using rv) hw
noncomputable def ytJ (to ti:TE)(t:ysb):TG:=λv σ H Q=>to σ H λo H1=>ti σ H1 λi H2=>t o i v H2 λH3=>Q σ H3
theorem yoe {o i:Expr}{to ti:TE}{t:ysb}(ho:PE X o to)(hi:PE X i ti)(hs:yuy X t)
  (ha:∀ v,assign (.Subscript o i pos) X.env v=(do
   let ov ← holding [v] (eval o X.env)
   let iv ← holding [v,ov] (eval i X.env)
   standAt pos
   holding [v,ov,iv] (setItem ov iv v)
   release [v,ov,iv] []):=by intro _;rfl):PG X (.Subscript o i pos) (ytJ to ti t):=by
 intro pins s σ H v u Q I r h
 rw[ha]
 refine wpAny_bind (wpAny_holding (thn (ho pins s σ H _ I h) λov s1 ⟨x,H1,I1,r1,q1⟩=>?_))
 refine wpAny_bind (wpAny_holding (thn (hi pins s1 σ H1 _ I1 q1) λiv s2 ⟨y,H2,I2,r2,q2⟩=>?_))
 refine wpAny_bind (wpAny_standAt (wpAny_bind (wpAny_holding (thn (hs pins s2 σ H2 x y v ov iv u _ I2 r1 r2 r q2) λ_ s3 ⟨H3,I3,q3⟩=>?_))))
 exact wpAny_release ⟨σ,H3,I3,q3⟩
noncomputable def ysg (te:TE)(g:TG):TS:=λD σ H=>te σ H λx H1=>g x σ H1 D.nx
theorem yjR {tg e:Expr}{te:TE}{g:TG}(he:PE X e te)(hg:PG X tg g)(hs:swapsWithSole [tg] e pos.line X.env=pure false:=by rfl)(hw:swappedStores [tg] e X.env=pure none:=by rfl)
  (h1:(assignEach [tg] X.env).map (·.2)=[assign tg X.env]:=by rfl):PS X (.Assign [tg] e pos) (ysg te g):=by
 intro pins s σ H D I h
 refine wpAny_Assign_stores (thn (he pins s σ H _ I h) λv s1 ⟨x,H1,I1,r1,q1⟩=>?_) hs hw
 rw[h1]
 exact thn (hg pins s1 σ H1 x v _ I1 r1 q1) λ_ s2 q=>q
theorem yap {i:Nat}{x:Str}{e:Expr}{te:TE}{pos':Pos}(hN:X.N.Nodup)(hi:X.N[i]?=some x)(hx:Loc X.env.scope x)(he:PE X e te)(hs:swapsWith e (some (.Name x pos')) pos.line X.env=pure false:=by rfl)(hf:X.fn x=true∨X.env.scope.names.lookup x=some .local:=by first | exact .inl rfl | exact .inr rfl | assumption) :
  PS X (.Assign [.Name x pos'] e pos) (ysg te (ybZ i)):=by
 intro pins s σ H D I h
 refine wpAny_Assign_Name (thn (he pins s σ H _ I h) λv s1 ⟨y,H1,I1,r1,q1⟩=>?_) hs
 exact ydS I1 hN hi hx r1 (λs2 I2=>⟨_,H1,I2,q1⟩) hf
noncomputable def yuw (i j:Nat)(ta:TA):TS:=λD σ H=>ta σ H λvs H1=>∃ v w,vs=[v,w]/\D.nx ((σ.set i (some v)).set j (some w)) H1
theorem yr3 {i j:Nat}{x y:Str}{a b:Expr}{ta:TA}{px py pt:Pos}{kt k2 pt2}(hc:X.calm=true)(hN:X.N.Nodup)(hi:X.N[i]?=some x)(hj:X.N[j]?=some y)(hij:i≠j)
  (hx:X.env.scope.names.lookup x=some .local) (hy:X.env.scope.names.lookup y=some .local) (ha:PA X [a,b] ta)
  (hw:swappedStores [.Tuple [.Name x px,.Name y py] kt pt] (.Tuple [a,b] k2 pt2) X.env=pure (some [x,y]))
  (hs:swapsWithSole [.Tuple [.Name x px,.Name y py] kt pt] (.Tuple [a,b] k2 pt2) pos.line X.env=pure false:=by rfl) :
  PS X (.Assign [.Tuple [.Name x px,.Name y py] kt pt] (.Tuple [a,b] k2 pt2) pos) (yuw i j ta):=by
 intro pins s σ H D I h
 rw[exec_Assign_arm]
 refine wpAny_bind (wpAny_standAt ?_)
 rw[hs]
 refine wpAny_bind (wpAny_pure ?_)
 rw[if_neg (by decide)]
 refine wpAny_bind (Tuple_ (thn (ha _ pins s σ H _ I h) λus s1 ⟨vs,H1,I1,r1,q1⟩=>?_))
 obtain⟨v,w,e1,q1⟩:=q1
 subst e1
 obtain⟨u1,u2,rfl,rv,rw'⟩:∃ u1 u2,us=[u1,u2]/\RelV v u1/\RelV w u2:=by
  cases r1 with
  | cons p q =>
   cases q with
   | cons p' q' =>
    cases q'
    exact⟨_,_,rfl,p,p'⟩
 refine wpAny_newObj_type ?_ (by show 2<=sizeLine;decide)
 have I2:Inv X pins σ H1 { s1 with heap:=s1.heap.push { cls:=.type "tuple",data:=.seq [u1,u2].toArray } }:=I1.kept (t':=s1.toks) λb o e=>Heap.get?_push_of_some _ e
 rw[hw]
 refine wpAny_bind (wpAny_pure ?_)
 show wpAny (model X.prog X.w) X.A (do rule "assign.swapped-stores";let items ← unpackItems (.ref s1.heap.objs.size) 2 none;assignInOrder [λv=>bindName X.env y v,λv=>bindName X.env x v] items.reverse;pure Flow.next) _ _ _
 refine wpAny_bind (wpAny_rule (wpAny_bind (unpackItems_tuple (items:=#[u1,u2]) (I.ok.hd hc) (IsTup.new s1.heap _) λh' hx'=>?_)))
 have I3:=I2.kept (h':=h') (t':=s1.toks) λb o e=>hx' b o (Nat.ne_of_lt (Heap.lt_size e)) e
 show wpAny _ _ (assignInOrder [λv=>bindName X.env y v,λv=>bindName X.env x v] [u2,u1] >>= λ_=>pure Flow.next) _ _ _
 refine wpAny_bind (assignInOrder_cons (wpAny_bindName (ydS I3 hN hj (.inl hy) rw' (λs2 I4=>?_) (.inr hy))))
 refine assignInOrder_cons (wpAny_bindName (ydS I4 hN hi (.inl hx) rv (λs3 I5=>assignInOrder_nil (wpAny_pure ?_)) (.inr hx)))
 rw[List.set_comm _ _ (Ne.symm hij)] at I5
 exact⟨_,H1,I5,q1⟩
noncomputable def ysq (i:Nat)(te:TE)(ti:TIp):TS:=λD σ H=>∃ x,σ[i]?=some (some x)/\te σ H λy H1=>ti x y H1 λz H2=>D.nx (σ.set i (some z)) H2
theorem yqL {i:Nat}{x:Str}{e:Expr}{te:TE}{op:Operator}{ti:TIp}{pos':Pos}(hN:X.N.Nodup)(hi:X.N[i]?=some x)(hx:Loc X.env.scope x)(he:PE X e te)(ho:PIp X op ti)(hf:X.fn x=true∨X.env.scope.names.lookup x=some .local:=by first | exact .inl rfl | exact .inr rfl | assumption) :
  PS X (.AugAssign (.Name x pos') op e pos) (ysq i te ti):=by
 intro pins s σ H D I h
 obtain⟨v,e1,h⟩:=h
 obtain⟨m,hn,hl⟩:=I.loc
 have vis:Vis X.env.scope x:=by rcases hx with k | k;exact .inl k;exact .inr (.inl k)
 obtain⟨u,r,l⟩:=hl i x v hi e1 vis
 refine wpAny_AugAssign_Name ?_
 have go:wpAny (model X.prog X.w) X.A (eval e X.env) (λw s₂=>wpAny (model X.prog X.w) X.A (inplaceOp op u w) (λr s₃=>wpAny (model X.prog X.w) X.A (storeName X.env x r) (λ_=>SP X pins D .next) X.xe s₃) X.xe s₂) X.xe s:=by
  refine thn (he pins s σ H _ I h) λw s1 ⟨y,H1,I1,r1,q1⟩=>?_
  refine thn (ho pins s1 σ H1 v y u w _ I1 r r1 q1) λz s2 ⟨zv,H2,I2,r2,q2⟩=>?_
  exact ydS I2 hN hi hx r2 (λs3 I3=>⟨_,H2,I3,q2⟩) hf
 rcases l with ⟨hk,hm⟩ | ⟨hk,c,hc,hcell⟩
 ·exact wpAny_loadName_local I.ok.kind hk hn hm go
 ·rcases hk with hk | hk
  ·exact wpAny_loadName_cell I.ok.kind hk hc hcell go
  ·rcases hx with k | k
   ·have:X.env.scope.names.lookup x=some .free:=hk
    rw[k] at this;cases this
   ·have:X.env.scope.names.lookup x=some .free:=hk
    rw[k] at this;cases this
noncomputable def ipI (f:Int->Int->Int):TIp:=λx y H Q=>∃ i j,x=.int i/\y=.int j/\Q (.int (f i j)) H
theorem yrh:PIp X .Add (ipI λi j=>i+j):=by
 intro pins s σ H x y v u Q I r1 r2 h
 obtain⟨i,j,e1,e2,q⟩:=h
 subst e1;subst e2
 obtain⟨t,rfl⟩:=r1
 obtain⟨t',rfl⟩:=r2
 exact iadd_int ⟨.int _,H,I.tok _,⟨_,rfl⟩,q⟩
noncomputable def yn3 (c:TT)(tb:TS):TS:=λD σ H=>∃ W:Nat->St->Hp->Prop,(∃ m,W m σ H)/\∀ m σ H,W m σ H ->
 c σ H λb H1=>if b=true then ∃ N:St->Hp->Prop,(∀ σ' H',N σ' H'->∃ m',m' < m/\W m' σ' H')/\tb { D with nx:=N,ct:=N,bk:=D.nx } σ H1 else D.nx σ H1
theorem ygm {c:Expr}{body:List Stmt}{tc:TT}{tb:TS}(hp:PassesOwn (model X.prog X.w) X.A X.env X.xe)(hc:PT X c tc)(hb:PSs X body tb):PS X (.While c body [] pos) (yn3 tc tb):=by
 intro pins s σ H D I h
 obtain⟨W,⟨m0,w0⟩,turn⟩:=h
 refine wpAny_While (codeAny_whileLoop (λn s'=>∃ σ' H',Inv X pins σ' H' s'/\W n σ' H') ?_ m0 ⟨σ,H,I,w0⟩)
 rintro n s1 ⟨σ1,H1,I1,w1⟩
 refine wpAny_passesOwn hp (thn (hc pins s1 σ1 H1 _ I1 (turn n σ1 H1 w1)) λb s2 ⟨H2,I2,q2⟩=>?_)
 cases b with
 | true =>
  obtain⟨N,hN,q2⟩:=q2
  rw[if_pos rfl]
  refine wpAny_passesOwn hp (thn (hb pins s2 σ1 H2 _ I2 q2) λf s3 q3=>?_)
  cases f with
  | next =>
   obtain⟨σ3,H3,I3,n3⟩:=q3
   obtain⟨m',hm,w3⟩:=hN σ3 H3 n3
   exact⟨m',hm,σ3,H3,I3,w3⟩
  | cont =>
   obtain⟨σ3,H3,I3,n3⟩:=q3
   obtain⟨m',hm,w3⟩:=hN σ3 H3 n3
   exact⟨m',hm,σ3,H3,I3,w3⟩
  | brk=>exact q3
  | ret v=>exact q3
 | false =>
  rw[if_neg Bool.false_ne_true]
  exact wpAny_execs_nil ⟨σ1,H2,I2,q2⟩
end
structure It where
 go:Nat->Hp->Prop
 yld:Nat->Hp->V->Hp->Prop
 stop:Nat->Hp->Prop
noncomputable def yfs (X:Cx)(pins:List (Addr×Obj))(H:Hp)(b:Addr):Prop :=
 H b=none/\b≠X.env.locals/\b∉X.fs/\(b∈X.ex∨X.s₀.heap.objs.size<=b)/\(∀ x c,X.env.cells.lookup x=some c->c≠b)/\∀ p∈X.pn++pins,p.1≠b
theorem Inv.fpOk {X:Cx}{pins:List (Addr×Obj)}{σ:St}{H H':Hp}{s:Shared}{b:Addr}(I:Inv X pins σ H s)(hb:s.heap.objs.size<=b)(hn:H' b=none):yfs X pins H' b:=by
 refine⟨hn,Nat.ne_of_gt (Nat.lt_of_lt_of_le I.lt hb),I.nofs hb,.inr (Nat.le_trans I.sz hb),λx c e z=>?_,λp hp z=>?_⟩
 ·obtain⟨v,q⟩:=I.cell x c e
  exact absurd (Nat.lt_of_lt_of_le q.lt (by rw[z];exact hb)) (Nat.lt_irrefl _)
 ·exact absurd (Nat.lt_of_lt_of_le (Heap.lt_size (I.pin p hp).1) (by rw[z];exact hb)) (Nat.lt_irrefl _)
structure ynC (P:Program) (w:World) (K:PySem.W.Frag) (tg:Expr) (J:It) (fp:List Addr) (it:Addr) (tn:Nat->Heap->Prop):Prop where
 mem:it∈fp
 obj:∀ i h,tn i h->∀ b∈fp,∃ o,h.get? b=some o/\∀ v,o.data≠.cell v
 keep:∀ i h h',tn i h->(∀ b∈fp,∀ o,h.get? b=some o->h'.get? b=some o)->tn i h'
 item:∀ (X:Cx),X.prog=P->X.w=w->X.K=K->X.calm=true->∀ (i:Nat) (pins:List (Addr×Obj)) (s:Shared) (σ:St) (H:Hp) (E:Value->Shared->Prop),Inv X pins σ H s->(∀ b∈fp,yfs X pins H b)->tn i s.heap->J.go i H ->
  wpAny (model P w) X.A (pyNext (.ref it)) (λr s1=>∃ u,r=some u /\
   wpAny (model P w) X.A (letOwnedTupleGo tg (.ref it) u) (λ_ s2=>∃ x H',Inv X pins σ H' s2/\RelV x u/\J.yld i H x H'/\tn (i+1) s2.heap/\∀ b∈fp,H' b=none) E s1) E s
 done:∀ (X:Cx),X.prog=P->X.w=w->X.K=K->X.calm=true->∀ (i:Nat) (pins:List (Addr×Obj)) (s:Shared) (σ:St) (H:Hp) (E:Value->Shared->Prop),Inv X pins σ H s->(∀ b∈fp,yfs X pins H b)->tn i s.heap->J.stop i H ->
  wpAny (model P w) X.A (pyNext (.ref it)) (λr s1=>r=none/\Inv X pins σ H s1) E s
 self:∀ (A:Around) (i:Nat) (s:Shared) (Q:Value->Shared->Prop) (E:Value->Shared->Prop),tn i s.heap->Q (.ref it) s->wpAny (model P w) A (pyIter (.ref it)) Q E s
noncomputable abbrev TI:=St->Hp->(It->Hp->Prop)->Prop
noncomputable def PIE (X:Cx)(pins:List (Addr×Obj))(σ:St)(tg:Expr)(R:It->Hp->Prop)(itv:Value)(s2:Shared):Prop :=
 ∃ (it:Addr) (fp:List Addr) (tn:Nat->Heap->Prop) (J:It) (H':Hp),itv=.ref it/\Inv X pins σ H' s2/\ynC X.prog X.w X.K tg J fp it tn/\tn 0 s2.heap/\(∀ b∈fp,yfs X pins H' b)/\R J H'
noncomputable def PI (X:Cx)(tg iter:Expr)(wi:TI):Prop :=
 ∀ (pins:List (Addr×Obj)) (s:Shared) (σ:St) (H:Hp) (R:It->Hp->Prop),Inv X pins σ H s->wi σ H R ->
  wpAny (model X.prog X.w) X.A (eval iter X.env) (λv s1=>wpAny (model X.prog X.w) X.A (pyIter v) (PIE X pins σ tg R) X.xe s1) X.xe s
theorem ym8 {M:Model}{A:Around}{E:Value->Shared->Prop}{s:Shared}{tg:Expr}{it:Addr}{u:Value}{o:Obj}{n:String}{vs:Array Value}{Q:Unit->Shared->Prop}(ho:s.heap.get? it=some o)(hc:o.cls=.type n)(hd:o.data=.fields vs)
  (hn:["enumerate","zip","dict_itemiterator","dict_reverseitemiterator","odict_iterator","itertools.zip_longest","itertools.pairwise"].contains n=false) (hQ:Q () s):wpAny M A (letOwnedTupleGo tg (.ref it) u) Q E s:=by
 unfold letOwnedTupleGo
 cases tg<;>first
  | exact wpAny_pure hQ
  | (cases u<;>first
    | exact wpAny_pure hQ
    | (refine wpAny_bind (wpAny_load ho ?_)
       rw[hc,hd]
       show wpAny M A (if (["enumerate","zip","dict_itemiterator","dict_reverseitemiterator","odict_iterator","itertools.zip_longest","itertools.pairwise"].contains n&&vs[0]?==some (rawInt _))=true then _ else _) Q E s
       rw[if_neg (by intro h;rw[hn,Bool.false_and] at h;cases h)]
       exact wpAny_pure hQ))
noncomputable def Itl (K:PySem.W.Frag)(a:Addr):It :=
 ⟨λi H=>∃ xs x,SqL K H a xs/\xs[i]?=some x,λi H x H'=>H'=H/\∀ xs,SqL K H a xs->xs[i]?=some x,λi H=>∃ xs,SqL K H a xs/\xs.length<=i⟩
noncomputable def Itt (K:PySem.W.Frag)(a:Addr):It :=
 ⟨λi H=>∃ xs x,SqT K H a xs/\xs[i]?=some x,λi H x H'=>H'=H/\∀ xs,SqT K H a xs->xs[i]?=some x,λi H=>∃ xs,SqT K H a xs/\xs.length<=i⟩
noncomputable def Itr (lo:Int)(n:Nat):It:=⟨λi _=>i < n,λi H x H'=>H'=H/\x=.int (lo+i),λi _=>n<=i⟩
theorem ylU {P:Program}{w:World}{K:PySem.W.Frag}{tg:Expr}(a it:Addr):ynC P w K tg (Itl K a) [it] it (λi h=>h.IsListIter it a i) where
 mem:=by simp
 obj:=λi h st b hb=>by
  have e:b=it:=by simpa using hb
  subst e
  obtain⟨o,e,c,d⟩:=st
  exact⟨o,e,λv z=>by rw[d] at z;cases z⟩
 keep:=λi h h' st k=>st.at λo e=>k it (by simp) o e
 item:=by
  intro X hP hw hK hc i pins s σ H E I hf st hg
  subst hP hw hK
  obtain⟨xs,x,hq,hx⟩:=hg
  obtain⟨its,rv,p,hz⟩:=I.list hq
  obtain⟨u,hu,ru⟩:=rv.get hx
  obtain⟨f0,f1,f2,f3,f4,f5⟩:=hf it (by simp)
  refine wpAny_pyNext_list_item st p.isList (x:=u) (by simpa using hu) λh' st' sb=>?_
  have I1:Inv X pins σ H { s with heap:=h' }:=I.turned (t':=s.toks) (λb o hb e=>(sb.2 b hb).trans e) f0 f1 f3 f4 f5
  obtain⟨o,e,c,d⟩:=id st'
  exact⟨u,rfl,ym8 (s:={ s with heap:=h' }) e c d (by decide) ⟨x,H,I1,ru,⟨rfl,λys hy=>by rw[I.list_inj hy hq];exact hx⟩,st',λb hb=>(hf b hb).1⟩⟩
 done:=by
  intro X hP hw hK hc i pins s σ H E I hf st hg
  subst hP hw hK
  obtain⟨xs,hq,hx⟩:=hg
  obtain⟨its,rv,p,hz⟩:=I.list hq
  obtain⟨f0,f1,f2,f3,f4,f5⟩:=hf it (by simp)
  have hl:=rv.length
  exact wpAny_pyNext_list_end (I.ok.hd hc) st p.isList (by simp;omega) λh' eb=>⟨rfl,I.turned (t':=s.toks) (λb o hb e=>eb b o hb e) f0 f1 f3 f4 f5⟩
 self:=λ_ _ _ _ _ st h=>wpAny_pyIter_listiter st h
theorem yj4 {P:Program}{w:World}{K:PySem.W.Frag}{tg:Expr}(a it:Addr):ynC P w K tg (Itt K a) [it] it (λi h=>h.IsTupleIter it a i) where
 mem:=by simp
 obj:=λi h st b hb=>by
  have e:b=it:=by simpa using hb
  subst e
  obtain⟨o,e,c,d⟩:=st
  exact⟨o,e,λv z=>by rw[d] at z;cases z⟩
 keep:=λi h h' st k=>st.at λo e=>k it (by simp) o e
 item:=by
  intro X hP hw hK hc i pins s σ H E I hf st hg
  subst hP hw hK
  obtain⟨xs,x,hq,hx⟩:=hg
  obtain⟨its,rv,p,hz⟩:=I.tuple hq
  obtain⟨u,hu,ru⟩:=rv.get hx
  obtain⟨f0,f1,f2,f3,f4,f5⟩:=hf it (by simp)
  refine wpAny_pyNext_tuple_item st (show s.heap.IsTuple a its.toArray from p) (x:=u) (by simpa using hu) λh' st' sb=>?_
  have I1:Inv X pins σ H { s with heap:=h' }:=I.turned (t':=s.toks) (λb o hb e=>(sb.2 b hb).trans e) f0 f1 f3 f4 f5
  obtain⟨o,e,c,d⟩:=id st'
  exact⟨u,rfl,ym8 (s:={ s with heap:=h' }) e c d (by decide) ⟨x,H,I1,ru,⟨rfl,λys hy=>by rw[I.tuple_inj hy hq];exact hx⟩,st',λb hb=>(hf b hb).1⟩⟩
 done:=by
  intro X hP hw hK hc i pins s σ H E I hf st hg
  subst hP hw hK
  obtain⟨xs,hq,hx⟩:=hg
  obtain⟨its,rv,p,hz⟩:=I.tuple hq
  obtain⟨f0,f1,f2,f3,f4,f5⟩:=hf it (by simp)
  have hl:=rv.length
  exact wpAny_pyNext_tuple_end (I.ok.hd hc) st (show s.heap.IsTuple a its.toArray from p) (by simp;omega) λh' eb=>⟨rfl,I.turned (t':=s.toks) (λb o hb e=>eb b o hb e) f0 f1 f3 f4 f5⟩
 self:=λ_ _ _ _ _ st h=>wpAny_pyIter_tupleiter st h
theorem yj6 {P:Program}{w:World}{K:PySem.W.Frag}{tg:Expr}(it:Addr)(lo:Int)(n:Nat):ynC P w K tg (Itr lo n) [it] it (λi h=>IsRangeIter h it (lo+(i:Nat)*1) ((n:Int) - (i:Nat)) 1) where
 mem:=by simp
 obj:=λi h st b hb=>by
  have e:b=it:=by simpa using hb
  subst e
  exact⟨_,st,λv z=>by
   have z':Data.fields _=Data.cell v:=z
   cases z'⟩
 keep:=λi h h' st k=>k it (by simp) _ st
 item:=by
  intro X hP hw hK hc i pins s σ H E I hf st hg
  subst hP hw hK
  obtain⟨f0,f1,f2,f3,f4,f5⟩:=hf it (by simp)
  have W:=Walks.range (prog:=X.prog) (w:=X.w) (I.ok.hd hc) it lo 1 n
  refine W.item i s _ _ hg st λv h' tk hv st' kk=>?_
  obtain⟨t,rfl⟩:=hv
  have I1:Inv X pins σ H { s with heap:=h',toks:=tk }:=I.turned (λb o hb e=>kk b o (by simpa using hb) e) f0 f1 f3 f4 f5
  refine⟨_,rfl,ym8 (s:={ s with heap:=h',toks:=tk }) (n := "range_iterator") st' rfl rfl (by decide) ⟨.int (lo+i),H,I1,⟨t,?_⟩,⟨rfl,rfl⟩,st',λb hb=>(hf b hb).1⟩⟩
  rw[Int.mul_one]
 done:=by
  intro X hP hw hK hc i pins s σ H E I hf st hg
  subst hP hw hK
  obtain⟨f0,f1,f2,f3,f4,f5⟩:=hf it (by simp)
  exact wpAny_pyNext_range_end (I.ok.hd hc) st (by have:n<=i:=hg;omega) λh' eb=>⟨rfl,I.turned (t':=s.toks) (λb o hb e=>eb b o hb e) f0 f1 f3 f4 f5⟩
 self:=λ_ _ _ _ _ st h=>wpAny_pyIter_rangeiter st h
section
variable {X:Cx} {tg:Expr}
noncomputable def ynD (K:PySem.W.Frag)(tl:TE):TI:=fun σ H R=>tl σ H λx H1=>∃ a,x=.ref a/\(∃ xs,SqL K H1 a xs)/\R (Itl K a) H1
noncomputable def ysz (K:PySem.W.Frag)(tl:TE):TI:=fun σ H R=>tl σ H λx H1=>∃ a,x=.ref a/\(∃ xs,SqT K H1 a xs)/\R (Itt K a) H1
theorem yaY {l:Expr}{tl:TE}(hl:PE X l tl):PI X tg l (ynD X.K tl):=by
 intro pins s σ H R I h
 refine thn (hl pins s σ H _ I h) λv s1 ⟨x,H1,I1,r1,q1⟩=>?_
 obtain⟨a,e,⟨xs,hq⟩,q⟩:=q1
 subst e
 cases r1
 obtain⟨its,rv,p,hz⟩:=I1.list hq
 refine wpAny_pyIter_list p.isList ?_
 refine⟨s1.heap.objs.size,[s1.heap.objs.size],_,_,H1,rfl,I1.kept (t':=s1.toks) λb o e=>Heap.get?_push_of_some _ e,ylU a _,⟨_,Heap.get?_push_size _ rfl,rfl,rfl⟩,λb hb=>?_,q⟩
 have e:b=s1.heap.objs.size:=by simpa using hb
 subst e
 exact I1.fpOk (Nat.le_refl _) (I1.hok.fresh (Nat.le_refl _))
theorem yk2 {l:Expr}{tl:TE}(hl:PE X l tl):PI X tg l (ysz X.K tl):=by
 intro pins s σ H R I h
 refine thn (hl pins s σ H _ I h) λv s1 ⟨x,H1,I1,r1,q1⟩=>?_
 obtain⟨a,e,⟨xs,hq⟩,q⟩:=q1
 subst e
 cases r1
 obtain⟨its,rv,p,hz⟩:=I1.tuple hq
 refine wpAny_pyIter_tuple (show s1.heap.IsTuple a its.toArray from p) ?_
 refine⟨s1.heap.objs.size,[s1.heap.objs.size],_,_,H1,rfl,I1.kept (t':=s1.toks) λb o e=>Heap.get?_push_of_some _ e,yj4 a _,⟨_,Heap.get?_push_size _ rfl,rfl,rfl⟩,λb hb=>?_,q⟩
 have e:b=s1.heap.objs.size:=by simpa using hb
 subst e
 exact I1.fpOk (Nat.le_refl _) (I1.hok.fresh (Nat.le_refl _))
theorem yi1 {pins:List (Addr×Obj)}{σ:St}{H:Hp}{s:Shared}{R:It->Hp->Prop}{E:Value->Shared->Prop}{lo hi:Int}{t u v:Tok}{tk:Nat}(I:Inv X pins σ H s)(h1:-(2 ^ 62)<=lo)(h2:lo < 2 ^ 62)(h3:-(2 ^ 62)<=hi)(h4:hi < 2 ^ 62)
  (q:R (Itr lo (hi - lo).toNat) H):wpAny (model X.prog X.w) X.A (pyIter (.ref s.heap.objs.size)) (PIE X pins σ tg R) E { s with heap:=s.heap.push { cls:=.type "range",data:=.fields #[.int lo t,.int hi u,.int 1 v] },toks:=tk }:=by
 refine wpAny_pyIter_range (IsRange.new ..) (small_one h1 h2 h3 h4) ?_
 have I1:Inv X pins σ H { s with heap:=s.heap.push { cls:=.type "range",data:=.fields #[.int lo t,.int hi u,.int 1 v] },toks:=tk }:=I.kept λb o e=>Heap.get?_push_of_some _ e
 refine⟨(s.heap.push { cls:=.type "range",data:=.fields #[.int lo t,.int hi u,.int 1 v] }).objs.size,[(s.heap.push { cls:=.type "range",data:=.fields #[.int lo t,.int hi u,.int 1 v] }).objs.size],_,_,H,rfl,
  I1.kept (t':=tk) λb o e=>Heap.get?_push_of_some _ e,yj6 _ lo (hi - lo).toNat,?_,λb hb=>?_,q⟩
 ·have e1:lo+((0:Nat):Int)*1=lo:=by simp
  have e2:(((hi - lo).toNat:Nat):Int) - ((0:Nat):Int)=Builtin.Range.rangeSize lo hi 1:=by rw[rangeSize_one];split<;>omega
  show IsRangeIter _ _ (lo+((0:Nat):Int)*1) ((((hi - lo).toNat:Nat):Int) - ((0:Nat):Int)) 1
  rw[e1,e2]
  exact Heap.get?_push_size _ rfl
 ·have e:b=(s.heap.push { cls:=.type "range",data:=.fields #[.int lo t,.int hi u,.int 1 v] }).objs.size:=by simpa using hb
  subst e
  exact I1.fpOk (Nat.le_refl _) (I1.hok.fresh (Nat.le_refl _))
noncomputable def ym3 (ta:TA):TI:=fun σ H R=>ta σ H λvs H1=>∃ j:Int,vs=[.int j]/\-(2 ^ 62)<=j/\j < 2 ^ 62/\R (Itr 0 j.toNat) H1
noncomputable def yoM (ta:TA):TI:=fun σ H R=>ta σ H λvs H1=>∃ i j:Int,vs=[.int i,.int j]/\(-(2 ^ 62)<=i/\i < 2 ^ 62/\-(2 ^ 62)<=j/\j < 2 ^ 62)/\R (Itr i (j - i).toNat) H1
theorem ycJ {a:Expr}{ta:TA}{p pos:Pos}(hg:Gl X "range")(hm:X.mg "range"=none)(ha:PA X [a] ta)(hs:starEach [a] X.env=[(false,eval a X.env)]:=by rfl):PI X tg (.Call (.Name "range" p) [a] [] pos) (ym3 ta):=by
 intro pins s σ H R I h
 refine Call_ (yen I hg hm boot_range (PyProof.Rows.callWith_type1 (thn (ha pos pins s σ H _ I h) λus s1 ⟨vs,H1,I1,r1,q1⟩=>?_) hs rfl))
 obtain⟨j,e,q1,q2,q⟩:=q1
 subst e
 cases r1 with
 | cons r rr =>
  cases rr
  obtain⟨t,rfl⟩:=r
  exact call_range_1 (yi1 I1 (by omega) (by omega) q1 q2 (by simpa using q))
theorem ygS {a b:Expr}{ta:TA}{p pos:Pos}(hg:Gl X "range")(hm:X.mg "range"=none)(ha:PA X [a,b] ta)(hs:starEach [a,b] X.env=[(false,eval a X.env),(false,eval b X.env)]:=by rfl)(hs2:starEach [b] X.env=[(false,eval b X.env)]:=by rfl) :
  PI X tg (.Call (.Name "range" p) [a,b] [] pos) (yoM ta):=by
 intro pins s σ H R I h
 refine Call_ (yen I hg hm boot_range (PyProof.Rows.callWith_type1 (thn (ha pos pins s σ H _ I h) λus s1 ⟨vs,H1,I1,r1,q1⟩=>?_) (by rw[hs,hs2]) (by rw[hs2];rfl)))
 obtain⟨i,j,e,⟨q1,q2,q3,q4⟩,q⟩:=q1
 subst e
 cases r1 with
 | cons r rr =>
  cases rr with
  | cons r' rr =>
   cases rr
   obtain⟨t,rfl⟩:=r
   obtain⟨t',rfl⟩:=r'
   exact call_range_2 (yi1 I1 q1 q2 q3 q4 q)
noncomputable def yoO (wi:TI)(g:TG)(tb:TS):TS:=λD σ H=>wi σ H λJ H1=>∃ W:Nat->Nat->St->Hp->Prop,(∃ m,W 0 m σ H1)/\∀ i m σ H,W i m σ H ->
 (J.stop i H/\D.nx σ H)∨(J.go i H/\∃ N:St->Hp->Prop,(∀ σ' H',N σ' H'->∃ m',m' < m/\W (i+1) m' σ' H')/\∀ x H',J.yld i H x H'->g x σ H' fun σ2 H2=>tb { D with nx:=N,ct:=N,bk:=D.nx } σ2 H2)
noncomputable def ygO (fp:List Addr)(h:Heap):List (Addr×Obj):=fp.filterMap λb=>(h.get? b).map λo=>(b,o)
theorem ydu {fp:List Addr}{h:Heap}{b:Addr}{o:Obj}(hb:b∈fp)(e:h.get? b=some o):(b,o)∈ygO fp h:=List.mem_filterMap.mpr ⟨b,hb,by rw[e];rfl⟩
theorem ylY {fp:List Addr}{h:Heap}{p:Addr×Obj}(hp:p∈ygO fp h):p.1∈fp/\h.get? p.1=some p.2:=by
 obtain⟨b,hb,e⟩:=List.mem_filterMap.mp hp
 cases q:h.get? b with
 | none=>rw[q] at e;cases e
 | some o =>
  rw[q] at e
  have e':(b,o)=p:=Option.some.inj e
  subst e'
  exact⟨hb,q⟩
theorem Inv.pinned {pins:List (Addr×Obj)}{σ:St}{H:Hp}{s:Shared}{fp:List Addr}(I:Inv X pins σ H s)(hf:∀ b∈fp,yfs X pins H b)(ho:∀ b∈fp,∃ o,s.heap.get? b=some o/\∀ v,o.data≠.cell v):Inv X (pins++ygO fp s.heap) σ H s :=
 I.pins_of λp hp=>(List.mem_append.mp hp).elim (λz=>I.pin p (List.mem_append_right _ z)) λz=>by
  obtain⟨hb,e⟩:=ylY z
  obtain⟨f0,f1,f2,_⟩:=hf p.1 hb
  obtain⟨o,e',d⟩:=ho p.1 hb
  rw[e] at e';cases e'
  exact⟨e,f0,f1,f2,d⟩
theorem Inv.unpinned {pins pl:List (Addr×Obj)}{σ:St}{H:Hp}{s:Shared}(I:Inv X (pins++pl) σ H s):Inv X pins σ H s:=I.pins_of λp hp=>I.pin p (List.mem_append_right _ (List.mem_append_left _ hp))
theorem yco {iter:Expr}{body:List Stmt}{wi:TI}{g:TG}{tb:TS}{pos:Pos}(hp:PassesOwn (model X.prog X.w) X.A X.env X.xe)(hc:X.calm=true)(hi:PI X tg iter wi)(hg:PG X tg g)(hb:PSs X body tb)
  (hs:∀ x,foldedSetIterable iter X.env x=pure x:=by intro _;rfl):PS X (.For tg iter body [] pos) (yoO wi g tb):=by
 intro pins s σ H D I h
 refine wpAny_For (thn (hi pins s σ H _ I h) λv s1 h1=>thn h1 λitv s2 h2=>?_) hs
 obtain⟨it,fp,tn,J,H2,e,I2,T,st2,f2,W,⟨m0,w0⟩,turn⟩:=h2
 subst e
 have stat:∀ {H':Hp},(∀ b∈fp,H' b=none)->∀ b∈fp,yfs X pins H' b:=λhn b hb=>⟨hn b hb,(f2 b hb).2⟩
 refine codeAny_forLoop_any (λn s'=>∃ i σ' H',Inv X pins σ' H' s'/\tn i s'.heap/\(∀ b∈fp,H' b=none)/\W i n σ' H') ?_ m0 ⟨0,σ,H2,I2,st2,λb hb=>(f2 b hb).1,w0⟩
 rintro n s3 ⟨i,σ3,H3,I3,st3,fr3,w3⟩
 rcases turn i n σ3 H3 w3 with ⟨stop,qn⟩ | ⟨go,N,hN,step⟩
 ·refine wpAny_passesOwn hp (thn (T.done X rfl rfl rfl hc i pins s3 σ3 H3 X.xe I3 (stat fr3) st3 stop) λr s4 ⟨hr,I4⟩=>?_)
  subst hr
  exact wpAny_execs_nil ⟨σ3,H3,I4,qn⟩
 ·refine wpAny_passesOwn hp (thn (T.item X rfl rfl rfl hc i pins s3 σ3 H3 X.xe I3 (stat fr3) st3 go) λr s4 ⟨u,hr,h4⟩=>?_)
  subst hr
  refine wpAny_passesOwn hp (thn h4 λ_ s5 ⟨x,H5,I5,r5,y5,st5,fr5⟩=>?_)
  have I5':=I5.pinned (stat fr5) (T.obj _ _ st5)
  refine wpAny_passesOwn hp (thn (hg _ s5 σ3 H5 x u _ I5' r5 (step x H5 y5)) λ_ s6 ⟨σ6,H6,I6,q6⟩=>?_)
  refine wpAny_passesOwn hp (thn (hb _ s6 σ6 H6 _ I6 q6) λf s7 q7=>?_)
  have again:∀ {σ7:St} {H7:Hp},Inv X (pins++ygO fp s5.heap) σ7 H7 s7->N σ7 H7->∃ m,m < n/\∃ i σ' H',Inv X pins σ' H' s7/\tn i s7.heap/\(∀ b∈fp,H' b=none)/\W i m σ' H':=λ{σ7 H7} I7 n7=>by
   obtain⟨m',hm,w7⟩:=hN σ7 H7 n7
   refine⟨m',hm,i+1,σ7,H7,I7.unpinned,T.keep _ _ _ st5 λb hb o e=>(I7.pin (b,o) (List.mem_append_right _ (List.mem_append_right _ (ydu hb e)))).1,λb hb=>?_,w7⟩
   obtain⟨o,e,d⟩:=T.obj _ _ st5 b hb
   exact(I7.pin (b,o) (List.mem_append_right _ (List.mem_append_right _ (ydu hb e)))).2.1
  cases f with
  | next=>obtain⟨σ7,H7,I7,n7⟩:=q7;exact again I7 n7
  | cont=>obtain⟨σ7,H7,I7,n7⟩:=q7;exact again I7 n7
  | brk=>obtain⟨σ7,H7,I7,q7⟩:=q7;exact⟨σ7,H7,I7.unpinned,q7⟩
  | ret v=>obtain⟨x7,σ7,H7,I7,r7,q7⟩:=q7;exact⟨x7,σ7,H7,I7.unpinned,r7,q7⟩
end
theorem yna {K:PySem.W.Frag}{a:Addr}{xs:List V}{g:TG}{tb:TS}{D:yex}{σ:St}{H:Hp}(Pv:Nat->St->Hp->Prop)(h0:Pv 0 σ H)(hl:∀ i σ H,i<=xs.length->Pv i σ H->SqL K H a xs)
  (hs:∀ i x σ H,xs[i]?=some x->Pv i σ H->g x σ H fun σ2 H2=>tb { D with nx:=Pv (i+1),ct:=Pv (i+1),bk:=D.nx } σ2 H2) (hd:∀ σ H,Pv xs.length σ H->D.nx σ H) :
  ∃ W:Nat->Nat->St->Hp->Prop,(∃ m,W 0 m σ H)/\∀ i m σ H,W i m σ H ->
   ((Itl K a).stop i H/\D.nx σ H)∨((Itl K a).go i H/\∃ N:St->Hp->Prop,(∀ σ' H',N σ' H'->∃ m',m' < m/\W (i+1) m' σ' H')/\∀ x H',(Itl K a).yld i H x H'->g x σ H' fun σ2 H2=>tb { D with nx:=N,ct:=N,bk:=D.nx } σ2 H2):=by
 refine⟨λi m σ H=>m=xs.length - i/\i<=xs.length/\Pv i σ H,⟨xs.length,by simp,Nat.zero_le _,h0⟩,?_⟩
 rintro i m σ H ⟨rfl,hi,p⟩
 have q:=hl i σ H hi p
 by_cases hlt:i < xs.length
 ·refine .inr ⟨⟨xs,xs[i],q,by simp[hlt]⟩,Pv (i+1),fun σ' H' p'=>⟨xs.length - (i+1),by omega,rfl,hlt,p'⟩,λx H' y=>?_⟩
  obtain⟨e,y⟩:=y
  subst e
  exact hs i x σ _ (y xs q) p
 ·have e:i=xs.length:=by omega
  subst e
  exact .inl ⟨⟨xs,q,Nat.le_refl _⟩,hd σ H p⟩
theorem yls {lo:Int}{n:Nat}{g:TG}{tb:TS}{D:yex}{σ:St}{H:Hp}(Pv:Nat->St->Hp->Prop)(h0:Pv 0 σ H)
  (hs:∀ i σ H,i < n->Pv i σ H->g (.int (lo+i)) σ H fun σ2 H2=>tb { D with nx:=Pv (i+1),ct:=Pv (i+1),bk:=D.nx } σ2 H2) (hd:∀ σ H,Pv n σ H->D.nx σ H) :
  ∃ W:Nat->Nat->St->Hp->Prop,(∃ m,W 0 m σ H)/\∀ i m σ H,W i m σ H ->
   ((Itr lo n).stop i H/\D.nx σ H)∨((Itr lo n).go i H/\∃ N:St->Hp->Prop,(∀ σ' H',N σ' H'->∃ m',m' < m/\W (i+1) m' σ' H')/\∀ x H',(Itr lo n).yld i H x H'->g x σ H' fun σ2 H2=>tb { D with nx:=N,ct:=N,bk:=D.nx } σ2 H2):=by
 refine⟨λi m σ H=>m=n - i/\i<=n/\Pv i σ H,⟨n,by simp,Nat.zero_le _,h0⟩,?_⟩
 rintro i m σ H ⟨rfl,hi,p⟩
 by_cases hlt:i < n
 ·refine .inr ⟨hlt,Pv (i+1),fun σ' H' p'=>⟨n - (i+1),by omega,rfl,hlt,p'⟩,λx H' y=>?_⟩
  obtain⟨e,y⟩:=y
  subst e y
  exact hs i σ _ hlt p
 ·have e:i=n:=by omega
  subst e
  exact .inl ⟨Nat.le_refl _,hd σ H p⟩
theorem ymL {c:TT}{tb:TS}{D:yex}{σ:St}{H:Hp}(Pv:St->Hp->Prop)(μ:St->Hp->Nat)(h0:Pv σ H)
  (hs:∀ σ H,Pv σ H->c σ H λb H1=>if b=true then tb { D with nx:=fun σ' H'=>Pv σ' H'/\μ σ' H' < μ σ H,ct:=fun σ' H'=>Pv σ' H'/\μ σ' H' < μ σ H,bk:=D.nx } σ H1 else D.nx σ H1)
  (mono:∀ σ H Q Q',(∀ b H1,Q b H1->Q' b H1)->c σ H Q->c σ H Q'):yn3 c tb D σ H:=by
 refine⟨λm σ H=>m=μ σ H/\Pv σ H,⟨_,rfl,h0⟩,?_⟩
 rintro m σ H ⟨rfl,p⟩
 refine mono σ H _ _ (λb H1 q=>?_) (hs σ H p)
 cases b with
 | true=>exact⟨_,fun σ' H' ⟨p',l⟩=>⟨_,l,rfl,p'⟩,q⟩
 | false=>exact q
noncomputable abbrev R2:=V->V->Hp->VK->Prop
noncomputable def OpR (X:Cx)(f:Value->Value->Sem Value)(r:R2):Prop :=
 ∀ (pins:List (Addr×Obj)) (s:Shared) (σ:St) (H:Hp) (x y:V) (v u:Value) (Q:VK),Inv X pins σ H s->RelV x v->RelV y u->r x y H Q ->
  wpAny (model X.prog X.w) X.A (f v u) (EP X pins σ Q) X.xe s
noncomputable def UnR (X:Cx)(f:Value->Sem Value)(r:V->Hp->VK->Prop):Prop :=
 ∀ (pins:List (Addr×Obj)) (s:Shared) (σ:St) (H:Hp) (x:V) (v:Value) (Q:VK),Inv X pins σ H s->RelV x v->r x H Q ->
  wpAny (model X.prog X.w) X.A (f v) (EP X pins σ Q) X.xe s
noncomputable def ycC (X:Cx)(f:Value)(r:List V->Hp->VK->Prop):Prop :=
 ∀ (pins:List (Addr×Obj)) (s:Shared) (σ:St) (H:Hp) (xs:List V) (us:List Value) (Q:VK),Inv X pins σ H s->Vals xs us->r xs H Q ->
  wpAny (model X.prog X.w) X.A (call f us) (EP X pins σ Q) X.xe s
noncomputable def tOp (r:R2)(ta tb:TE):TE:=fun σ H Q=>ta σ H λx H1=>tb σ H1 λy H2=>r x y H2 Q
noncomputable def tUn (r:V->Hp->VK->Prop)(ta:TE):TE:=fun σ H Q=>ta σ H λx H1=>r x H1 Q
noncomputable def rI (C:Int->Int->Prop)(g:Int->Int->V):R2:=λx y H Q=>∃ i j,x=.int i/\y=.int j/\C i j/\Q (g i j) H
noncomputable def rI0 (g:Int->Int->V):R2:=λx y H Q=>∃ i j,x=.int i/\y=.int j/\Q (g i j) H
noncomputable def rU (g:Int->V):V->Hp->VK->Prop:=λx H Q=>∃ i,x=.int i/\Q (g i) H
section
variable {X:Cx} {a b c:Expr} {ta tb tc:TE} {pos:Pos}
theorem ytZ (ha:PE X a ta)(hb:PE X b tb){pins:List (Addr×Obj)}{s:Shared}{σ:St}{H:Hp}{R:V->V->Hp->Prop}(I:Inv X pins σ H s)
  (h:ta σ H λx H1=>tb σ H1 λy H2=>R x y H2) {Q:Value->Shared->Prop} {f:Value->Value->Sem Value}
  (hf:∀ v u s2 x y H2,Inv X pins σ H2 s2->RelV x v->RelV y u->R x y H2->wpAny (model X.prog X.w) X.A (f v u) Q X.xe s2) :
  wpAny (model X.prog X.w) X.A (eval a X.env) (λv s₁=>wpAny (model X.prog X.w) X.A (eval b X.env) (λu s₂=>wpAny (model X.prog X.w) X.A (f v u) Q X.xe s₂) X.xe s₁) X.xe s:=by
 refine thn (ha pins s σ H _ I h) λv s1 ⟨x,H1,I1,r1,q1⟩=>?_
 refine thn (hb pins s1 σ H1 _ I1 q1) λu s2 ⟨y,H2,I2,r2,q2⟩=>?_
 exact hf v u s2 x y H2 I2 r1 r2 q2
theorem yaC {op:Operator}{r:R2}(ho:OpR X (binaryOp op) r)(ha:PE X a ta)(hb:PE X b tb):PE X (.BinOp a op b pos) (tOp r ta tb):=by
 intro pins s σ H Q I h
 exact wpAny_BinOp (ytZ ha hb I h λv u s2 x y H2 I2 rx ry q=>ho pins s2 σ H2 x y v u Q I2 rx ry q)
theorem ydj {op:UnaryOp}{r:V->Hp->VK->Prop}(ho:UnR X (unaryOp op) r)(ha:PE X a ta):PE X (.UnaryOp op a pos) (tUn r ta):=by
 intro pins s σ H Q I h
 exact UnaryOp_ (thn (ha pins s σ H _ I h) λv s1 ⟨x,H1,I1,r1,q1⟩=>ho pins s1 σ H1 x v Q I1 r1 q1)
theorem opI {f:Value->Value->Sem Value}{C:Int->Int->Prop}{g:Int->Int->Int}
  (rule:∀ (i j:Int) (t u:Tok) (s:Shared) (Q:Value->Shared->Prop) (E:Value->Shared->Prop),C i j->Q (.int (g i j) s.toks) { s with toks:=s.toks+1 }->wpAny (model X.prog X.w) X.A (f (.int i t) (.int j u)) Q E s) :
  OpR X f (rI C λi j=>.int (g i j)):=by
 intro pins s σ H x y v u Q I rx ry h
 obtain⟨i,j,rfl,rfl,hc,q⟩:=h
 obtain⟨t,rfl⟩:=rx
 obtain⟨t',rfl⟩:=ry
 exact rule i j t t' s _ _ hc ⟨.int (g i j),H,I.tok _,⟨_,rfl⟩,q⟩
theorem yur {f:Value->Value->Sem Value}{g:Int->Int->Int}
  (rule:∀ (i j:Int) (t u:Tok) (s:Shared) (Q:Value->Shared->Prop) (E:Value->Shared->Prop),Q (.int (g i j) s.toks) { s with toks:=s.toks+1 }->wpAny (model X.prog X.w) X.A (f (.int i t) (.int j u)) Q E s) :
  OpR X f (rI0 λi j=>.int (g i j)):=by
 intro pins s σ H x y v u Q I rx ry h
 obtain⟨i,j,rfl,rfl,q⟩:=h
 obtain⟨t,rfl⟩:=rx
 obtain⟨t',rfl⟩:=ry
 exact rule i j t t' s _ _ ⟨.int (g i j),H,I.tok _,⟨_,rfl⟩,q⟩
theorem yr8 {f:Value->Value->Sem Value}{g:Int->Int->Bool}
  (rule:∀ (i j:Int) (t u:Tok) (s:Shared) (Q:Value->Shared->Prop) (E:Value->Shared->Prop),Q (.bool (g i j)) s->wpAny (model X.prog X.w) X.A (f (.int i t) (.int j u)) Q E s) :
  OpR X f (rI0 λi j=>.bl (g i j)):=by
 intro pins s σ H x y v u Q I rx ry h
 obtain⟨i,j,rfl,rfl,q⟩:=h
 obtain⟨t,rfl⟩:=rx
 obtain⟨t',rfl⟩:=ry
 exact rule i j t t' s _ _ ⟨.bl (g i j),H,I,rfl,q⟩
noncomputable def yuG (i j:Int):Prop:=0 < j/\j < 1073741824
noncomputable def CMul (i j:Int):Prop:=(-(2 ^ 64) < i/\i < 2 ^ 64)∨(-(2 ^ 64) < j/\j < 2 ^ 64)
theorem CMul.ok {i j:Int}(h:CMul i j):IntMulOk i j:=by
 rcases h with ⟨h1,h2⟩ | ⟨h1,h2⟩
 ·exact .of_left (intBits_le_64 h1 h2)
 ·exact .of_right (intBits_le_64 h1 h2)
theorem yby:OpR X (binaryOp .Add) (rI0 λi j=>.int (i+j)):=yur λ_ _ _ _ _ _ _ q=>add_int q
theorem ydC:OpR X (binaryOp .Sub) (rI0 λi j=>.int (i - j)):=yur λ_ _ _ _ _ _ _ q=>sub_int q
theorem yc8:OpR X (binaryOp .FloorDiv) (rI yuG λi j=>.int (i / j)):=opI λi j _ _ _ _ _ hc q=>by
 have h1:(0:Int) < j:=hc.1
 have h2:j < 1073741824:=hc.2
 exact floordiv_int (by omega) (by rw[Int.fdiv_eq_ediv_of_nonneg i (by omega)];exact q) (.inl (PyProof.noPylong_small (by omega)))
theorem ydw:OpR X (binaryOp .Mod) (rI (λ_ j=>0 < j) λi j=>.int (i%j)):=opI λi j _ _ _ _ _ hc q=>by
 have h1:(0:Int) < j:=hc
 exact mod_int' (by omega) (by rw[Int.fmod_eq_emod_of_nonneg i (by omega)];exact q)
theorem unI {f:Value->Sem Value}{g:Int->Int}
  (rule:∀ (i:Int) (t:Tok) (s:Shared) (Q:Value->Shared->Prop) (E:Value->Shared->Prop),Q (.int (g i) s.toks) { s with toks:=s.toks+1 }->wpAny (model X.prog X.w) X.A (f (.int i t)) Q E s) :
  UnR X f (rU λi=>.int (g i)):=by
 intro pins s σ H x v Q I rx h
 obtain⟨i,rfl,q⟩:=h
 obtain⟨t,rfl⟩:=rx
 exact rule i t s _ _ ⟨.int (g i),H,I.tok _,⟨_,rfl⟩,q⟩
theorem yca:UnR X (unaryOp .USub) (rU λi=>.int (-i)):=unI λ_ _ _ _ _ q=>neg_int q
end
noncomputable def ysF:V->V->Bool
 | .non,.non=>true | .non,.int _=>true | .int _,.non=>true | .non,.bl _=>true | .bl _,.non=>true | .non,.str _=>true | .str _,.non=>true
 | .int _,.int _=>true | .bl _,.bl _=>true | .str _,.str _=>true | .byt _,.byt _=>true
 | .int _,.str _=>true | .str _,.int _=>true | .bl _,.str _=>true | .str _,.bl _=>true
 | _,_=>false
noncomputable def rEq:R2:=λx y H Q=>ysF x y=true/\Q (.bl (decide (x=y))) H
noncomputable def rNe:R2:=λx y H Q=>ysF x y=true/\Q (.bl (!decide (x=y))) H
theorem ykT {i j:Int}:decide (V.int i=V.int j)=(i==j):=by
 rw[Bool.eq_iff_iff]
 simp
theorem ynZ {i j:Bool}:decide (V.bl i=V.bl j)=(i==j):=by
 rw[Bool.eq_iff_iff]
 simp
theorem ymq {i j:Str}:decide (V.str i=V.str j)=(i==j):=by
 rw[Bool.eq_iff_iff]
 simp
theorem ykP {i j:Array UInt8}:decide (V.byt i=V.byt j)=(i.toList==j.toList):=by
 rw[Bool.eq_iff_iff]
 cases i
 cases j
 simp
section
variable {X:Cx} {a b c:Expr} {ta tb tc:TE} {pos:Pos}
theorem yba {pins:List (Addr×Obj)}{σ:St}{H:Hp}{s:Shared}{Q:VK}{k k':Bool}(I:Inv X pins σ H s)(q:Q (.bl k) H)(e:k=k'):EP X pins σ Q (.bool k') s:=by
 subst e
 exact⟨.bl k,H,I,rfl,q⟩
theorem yci:OpR X (compareOp .Eq) rEq:=by
 intro pins s σ H x y v u Q I rx ry h
 obtain⟨hs,q⟩:=h
 cases x with
 | non =>
  cases rx
  cases y with
  | non=>cases ry;exact PySem.EqNone.eq_none_none (yba I q (by simp))
  | bl j=>cases ry;exact PySem.EqNone.eq_none_bool (yba I q (by simp))
  | int j=>obtain⟨t',rfl⟩:=ry;exact PySem.EqNone.eq_none_int (yba I q (by simp))
  | str j=>obtain⟨t',rfl⟩:=ry;exact PySem.EqNone.eq_none_str (yba I q (by simp))
  | _=>exact absurd (show false=true from hs) Bool.false_ne_true
 | bl i =>
  cases rx
  cases y with
  | non=>cases ry;exact PySem.EqNone.eq_bool_none (yba I q (by simp))
  | bl j=>cases ry;exact eq_bool (yba I q ynZ)
  | str j=>obtain⟨t',rfl⟩:=ry;exact PySem.EqMixed.eq_bool_str (yba I q (by simp))
  | _=>exact absurd (show false=true from hs) Bool.false_ne_true
 | int i =>
  obtain⟨t,rfl⟩:=rx
  cases y with
  | non=>cases ry;exact PySem.EqNone.eq_int_none (yba I q (by simp))
  | int j=>obtain⟨t',rfl⟩:=ry;exact eq_int (yba I q ykT)
  | str j=>obtain⟨t',rfl⟩:=ry;exact PySem.EqMixed.eq_int_str (yba I q (by simp))
  | _=>exact absurd (show false=true from hs) Bool.false_ne_true
 | str i =>
  obtain⟨t,rfl⟩:=rx
  cases y with
  | non=>cases ry;exact PySem.EqNone.eq_str_none (yba I q (by simp))
  | bl j=>cases ry;exact PySem.EqMixed.eq_str_bool (yba I q (by simp))
  | int j=>obtain⟨t',rfl⟩:=ry;exact PySem.EqMixed.eq_str_int (yba I q (by simp))
  | str j=>obtain⟨t',rfl⟩:=ry;exact eq_str (yba I q ymq)
  | _=>exact absurd (show false=true from hs) Bool.false_ne_true
 | byt i =>
  obtain⟨t,rfl⟩:=rx
  cases y with
  | byt j=>obtain⟨t',rfl⟩:=ry;exact PySem.W.eq_bytes (yba I q ykP)
  | _=>exact absurd (show false=true from hs) Bool.false_ne_true
 | _=>cases y<;>exact absurd (show false=true from hs) Bool.false_ne_true
theorem ydL:OpR X (compareOp .NotEq) rNe:=by
 intro pins s σ H x y v u Q I rx ry h
 obtain⟨hs,q⟩:=h
 cases x with
 | non =>
  cases rx
  cases y with
  | non=>cases ry;exact PySem.EqNone.ne_none_none (yba I q (by simp))
  | bl j=>cases ry;exact PySem.EqNone.ne_none_bool (yba I q (by simp))
  | int j=>obtain⟨t',rfl⟩:=ry;exact PySem.EqNone.ne_none_int (yba I q (by simp))
  | str j=>obtain⟨t',rfl⟩:=ry;exact PySem.EqNone.ne_none_str (yba I q (by simp))
  | _=>exact absurd (show false=true from hs) Bool.false_ne_true
 | bl i =>
  cases rx
  cases y with
  | non=>cases ry;exact PySem.EqNone.ne_bool_none (yba I q (by simp))
  | bl j=>cases ry;exact ne_bool (yba I q (congrArg not ynZ))
  | str j=>obtain⟨t',rfl⟩:=ry;exact PySem.EqMixed.ne_bool_str (yba I q (by simp))
  | _=>exact absurd (show false=true from hs) Bool.false_ne_true
 | int i =>
  obtain⟨t,rfl⟩:=rx
  cases y with
  | non=>cases ry;exact PySem.EqNone.ne_int_none (yba I q (by simp))
  | int j=>obtain⟨t',rfl⟩:=ry;exact ne_int (yba I q (congrArg not ykT))
  | str j=>obtain⟨t',rfl⟩:=ry;exact PySem.EqMixed.ne_int_str (yba I q (by simp))
  | _=>exact absurd (show false=true from hs) Bool.false_ne_true
 | str i =>
  obtain⟨t,rfl⟩:=rx
  cases y with
  | non=>cases ry;exact PySem.EqNone.ne_str_none (yba I q (by simp))
  | bl j=>cases ry;exact PySem.EqMixed.ne_str_bool (yba I q (by simp))
  | int j=>obtain⟨t',rfl⟩:=ry;exact PySem.EqMixed.ne_str_int (yba I q (by simp))
  | str j=>obtain⟨t',rfl⟩:=ry;exact ne_str (yba I q (congrArg not ymq))
  | _=>exact absurd (show false=true from hs) Bool.false_ne_true
 | byt i =>
  obtain⟨t,rfl⟩:=rx
  cases y with
  | byt j=>obtain⟨t',rfl⟩:=ry;exact PySem.W.ne_bytes (yba I q (congrArg not ykP))
  | _=>exact absurd (show false=true from hs) Bool.false_ne_true
 | _=>cases y<;>exact absurd (show false=true from hs) Bool.false_ne_true
theorem ye6:OpR X (compareOp .Lt) (rI0 λi j=>.bl (decide (i < j))):=yr8 λ_ _ _ _ _ _ _ q=>lt_int q
theorem ycI:OpR X (compareOp .LtE) (rI0 λi j=>.bl (decide (i<=j))):=yr8 λ_ _ _ _ _ _ _ q=>le_int q
theorem ymQ:OpR X (compareOp .Gt) (rI0 λi j=>.bl (decide (j < i))):=yr8 λ_ _ _ _ _ _ _ q=>gt_int q
theorem yuh:OpR X (compareOp .GtE) (rI0 λi j=>.bl (decide (j<=i))):=yr8 λ_ _ _ _ _ _ _ q=>ge_int q
theorem ygZ:OpR X (compareOp .In) (λx y H Q=>∃ i j,x=.str i/\y=.str j/\Q (.bl (!(Builtin.Str.occurrences j i 0 j.length 1).isEmpty)) H):=by
 intro pins s σ H x y v u Q I rx ry h
 obtain⟨i,j,rfl,rfl,q⟩:=h
 obtain⟨t,rfl⟩:=rx
 obtain⟨t',rfl⟩:=ry
 exact in_str (yba I q rfl)
theorem ydx:OpR X (compareOp .Is) (λx y H Q=>y=.non/\Q (.bl (decide (x=.non))) H):=by
 intro pins s σ H x y v u Q I rx ry h
 obtain⟨rfl,q⟩:=h
 cases ry
 refine is_none_gen (yba I q ?_)
 cases x<;>first
  | (cases rx;rfl)
  | (obtain⟨t,rfl⟩:=rx;rfl)
theorem yo4:OpR X (compareOp .IsNot) (λx y H Q=>y=.non/\Q (.bl (!decide (x=.non))) H):=by
 intro pins s σ H x y v u Q I rx ry h
 obtain⟨rfl,q⟩:=h
 cases ry
 refine isnot_none_gen (yba I q ?_)
 cases x<;>first
  | (cases rx;rfl)
  | (obtain⟨t,rfl⟩:=rx;rfl)
theorem yao (b:Expr){op:CmpOp}(h:op≠.In:=by decide)(h2:op≠.NotIn:=by decide):behindInMarks op b=false:=by
 have e1:(op==CmpOp.In)=false:=by cases op<;>first | rfl | exact absurd rfl h
 have e2:(op==CmpOp.NotIn)=false:=by cases op<;>first | rfl | exact absurd rfl h2
 cases b<;>simp[behindInMarks,e1,e2]
theorem ya4 {op:CmpOp}{r:R2}(ho:OpR X (compareOp op) r)(ha:PE X a ta)(hb:PE X b tb)(hm:behindInMarks op b=false):PE X (.Compare a [op] [b] pos) (tOp r ta tb):=by
 intro pins s σ H Q I h
 exact wpAny_Compare1 (ytZ ha hb I h λv u s2 x y H2 I2 rx ry q=>ho pins s2 σ H2 x y v u Q I2 rx ry q) hm
noncomputable def ynx (t:TE):TT:=fun σ H Q=>t σ H λx H'=>∃ k,x=.bl k/\Q k H'
theorem yan {op:CmpOp}{r:R2}(ho:OpR X (compareOp op) r)(ha:PE X a ta)(hb:PE X b tb)(hm:behindInMarks op b=false):PT X (.Compare a [op] [b] pos) (ynx (tOp r ta tb)):=by
 intro pins s σ H Q I h
 refine wpAny_isTrue_Compare1 (thn (ha pins s σ H _ I h) λv s1 ⟨x,H1,I1,r1,q1⟩=>thn (hb pins s1 σ H1 _ I1 q1) λu s2 ⟨y,H2,I2,r2,q2⟩ =>
  thn (ho pins s2 σ H2 x y v u _ I2 r1 r2 q2) λc s3 ⟨z,H3,I3,r3,k,e,q3⟩=>?_) hm
 subst e
 cases r3
 exact wpAny_truthy_bool ⟨H3,I3,q3⟩
noncomputable def yjw (r r':R2)(ta tb tc:TE):TE:=fun σ H Q=>ta σ H λx H1=>tb σ H1 λy H2=>r x y H2 λz H3=>∃ k,z=.bl k /\
 (if k=true then tc σ H3 λw' H4=>r' y w' H4 Q else Q (.bl false) H3)
theorem yey {op op':CmpOp}{r r':R2}(ho:OpR X (compareOp op) r)(ho':OpR X (compareOp op') r')(ha:PE X a ta)(hb:PE X b tb)(hc:PE X c tc)
  (hm:lastMarks [op,op'] [b,c]=false:=by with_unfolding_all rfl):PE X (.Compare a [op,op'] [b,c] pos) (yjw r r' ta tb tc):=by
 intro pins s σ H Q I h
 refine Compare_chain (thn (ha pins s σ H _ I h) λv s1 ⟨x,H1,I1,r1,q1⟩=>chain_link (thn (hb pins s1 σ H1 _ I1 q1) λu s2 ⟨y,H2,I2,r2,q2⟩ =>
  thn (ho pins s2 σ H2 x y v u _ I2 r1 r2 q2) λd s3 ⟨z,H3,I3,r3,k,e,q3⟩=>?_)) hm
 subst e
 cases r3
 refine wpAny_truthy_bool ?_
 cases k with
 | false=>exact ite_ff ⟨.bl false,H3,I3,rfl,q3⟩
 | true=>exact ite_tt (chain_last (thn (hc pins s3 σ H3 _ I3 q3) λw' s4 ⟨z',H4,I4,r4,q4⟩=>ho' pins s4 σ H4 y z' u w' Q I4 r2 r4 q4))
theorem yjI {op op':CmpOp}{r r':R2}(ho:OpR X (compareOp op) r)(ho':OpR X (compareOp op') r')(ha:PE X a ta)(hb:PE X b tb)(hc:PE X c tc)
  (hm:lastMarks [op,op'] [b,c]=false:=by with_unfolding_all rfl):PT X (.Compare a [op,op'] [b,c] pos) (ynx (yjw r r' ta tb tc)):=by
 intro pins s σ H Q I h
 refine isTrue_chain (thn (ha pins s σ H _ I h) λv s1 ⟨x,H1,I1,r1,q1⟩=>test_link (thn (hb pins s1 σ H1 _ I1 q1) λu s2 ⟨y,H2,I2,r2,q2⟩ =>
  thn (ho pins s2 σ H2 x y v u _ I2 r1 r2 q2) λd s3 ⟨z,H3,I3,r3,k,e,q3⟩=>?_)) hm
 subst e
 cases r3
 refine wpAny_truthy_bool ?_
 cases k with
 | false =>
  obtain⟨k',e',q'⟩:=q3
  cases e'
  exact ite_ff ⟨H3,I3,q'⟩
 | true =>
  refine ite_tt (test_last (thn (hc pins s3 σ H3 _ I3 q3) λw' s4 ⟨z',H4,I4,r4,q4⟩=>thn (ho' pins s4 σ H4 y z' u w' _ I4 r2 r4 q4) λd' s5 ⟨z2,H5,I5,r5,k2,e2,q5⟩=>?_))
  subst e2
  cases r5
  exact wpAny_truthy_bool ⟨H5,I5,q5⟩
theorem yfy:(sizeLine:Nat) < 2 ^ 63:=by rw[sizeLine_eq];decide
theorem yaw:OpR X (binaryOp .Add) (λx y H Q=>∃ i j,x=.str i/\y=.str j/\i.length+j.length<=sizeLine/\Q (.str (i++j)) H):=by
 intro pins s σ H x y v u Q I rx ry h
 obtain⟨i,j,rfl,rfl,hz,q⟩:=h
 obtain⟨t,rfl⟩:=rx
 obtain⟨t',rfl⟩:=ry
 exact add_str (λt' tk=>⟨.str (i++j),H,I.tok _,⟨_,rfl⟩,q⟩) hz
theorem yed {x:V}{us:List Value}(r:Vals [x] us):∃ u,us=[u]/\RelV x u:=by
 cases r with
 | cons r1 r2=>cases r2;exact⟨_,rfl,r1⟩
theorem ypF {x y:V}{us:List Value}(r:Vals [x,y] us):∃ u w',us=[u,w']/\RelV x u/\RelV y w':=by
 cases r with
 | cons r1 r2 =>
  cases r2 with
  | cons r3 r4=>cases r4;exact⟨_,_,rfl,r1,r3⟩
theorem yhD:ycC X (.type "int") (λxs H Q=>(∃ i,xs=[.int i]/\Q (.int i) H)∨∃ k,xs=[.bl k]/\Q (.int (if k then 1 else 0)) H):=by
 intro pins s σ H xs us Q I r h
 rcases h with ⟨i,rfl,q⟩ | ⟨k,rfl,q⟩
 ·obtain⟨u,rfl,t,rfl⟩:=yed r
  exact call_int_int ⟨.int i,H,I,⟨_,rfl⟩,q⟩
 ·obtain⟨u,rfl,r1⟩:=yed r
  cases r1
  exact call_int_bool ⟨.int (if k then 1 else 0),H,I.tok _,⟨_,rfl⟩,q⟩
theorem ya3:ycC X (.type "str") (λxs H Q=>∃ i,xs=[.int i]/\i.natAbs.log2 < 1920/\Q (.str (toString i)) H):=by
 intro pins s σ H xs us Q I r h
 obtain⟨i,rfl,hz,q⟩:=h
 obtain⟨u,rfl,t,rfl⟩:=yed r
 exact PySem.P.str_of_int hz ⟨.str _,H,I.tok _,⟨_,rfl⟩,q⟩
end
structure ObjM (h:Heap) (x dx C:Addr) (mA:Str->Option Value):Prop where
 obj:h.get? x=some (PySem.W.instObj C dx)
 ns:h.Ns1 dx mA
 ne:dx≠x
theorem yli {h:Heap}{dx:Addr}{mA:Str->Option Value}(n:h.Ns1 dx mA):∃ od,h.get? dx=some od/\∀ name,PySem.W.lookIn name od=some (mA name):=by
 obtain⟨o,es,ep,ho,hd,hk,_,hm⟩:=n
 refine⟨o,ho,λname=>?_⟩
 have e:=hm name
 unfold nsFind findBy at e
 rw[← Array.find?_toList] at e
 unfold PySem.W.lookIn
 rw[hd]
 dsimp only
 split
 ·rename_i y q
  rw[q] at e
  exact congrArg some e
 ·rename_i q
  rw[q] at e
  have a:es.toList.any (·.refKey)=false:=by
   rw[List.any_eq_false]
   intro y hy
   obtain⟨z,t,hkey⟩:=hk y (Array.mem_toList_iff.mp hy)
   simp[DictEntry.refKey,hkey]
  have a':¬ es.toList.any (·.refKey)=true:=by rw[a];exact Bool.false_ne_true
  rw[if_neg a']
  exact congrArg some e
theorem ObjM.look {h:Heap}{x dx C:Addr}{mA:Str->Option Value}(I:ObjM h x dx C mA):∃ od,PySem.W.InstAt h x (PySem.W.instObj C dx) C (some od)/\∀ name,PySem.W.lookIn name od=some (mA name) :=
 let ⟨od,ho,hl⟩:=yli I.ns
 ⟨od,⟨I.obj,rfl,rfl,ho⟩,hl⟩
section
variable {prog:Program} {w:World} {A:Around} {E:Value->Shared->Prop} {s:Shared} {K:PySem.W.Frag} {x dx C f:Addr} {mA:Str->Option Value} {name:Str} {v:Value}
theorem yoP {expr:Bool}{Q:Value->Shared->Prop}(X:K.In s.heap)(I:ObjM s.heap x dx C mA)(hg:PySem.W.plainGet K C name=true)(hh:PySem.W.hasDictIn K C=true)
  (ha:PySem.W.findIn K (.ref C) name=some none) (hv:mA name=some v) (hv':PySem.W.handedIn v=true) (h:Q v { s with toks:=s.toks+1 }) :
  wpAny (model prog w) A (getAttr (.ref x) name expr) Q E s:=by
 obtain⟨od,J,hl⟩:=I.look
 exact PySem.W.get_value X J (PySem.W.plainGet_of hg).1 (PySem.W.findObj_own hh ha rfl (by rw[hl,hv])) hv' h
theorem ym1 {pl:Sem Bool}{Q:Value×List Value->Shared->Prop}(X:K.In s.heap)(I:ObjM s.heap x dx C mA)(hg:PySem.W.plainGet K C name=true)
  (hf:PySem.W.findIn K (.ref C) name=some (some (.ref f))) (ht:PySem.W.isFn K (.ref f)=true) (hv:mA name=none) (h:Q (.ref f,[.ref x]) s) :
  wpAny (model prog w) A (getMethod (.ref x) name pl) Q E s:=by
 obtain⟨od,J,hl⟩:=I.look
 exact PySem.W.method_fn X J (PySem.W.plainGet_of hg).1 (PySem.W.plainGet_of hg).2 hf (beq_iff_eq.mp ht) (by show(PySem.W.lookIn name od).map (·.isSome)=some false;rw[hl,hv];rfl) h
theorem ypG {ns:List Str}{Q:Unit->Shared->Prop}(X:K.In s.heap)(I:ObjM s.heap x dx C mA)
  (hs:PySem.W.findIn K (.ref C) "__setattr__"=some (some (.builtin "object.__setattr__"))) (hp:PySem.W.plainOver K C=true) (ht:PySem.W.takerIn K C name=some none) (hh:PySem.W.hasDictIn K C=true)
  (hw:PySem.Within mA ns) (hsz:ns.length<=sizeLine)
  (h:∀ h',ObjM h' x dx C (λy=>if y=name then some v else mA y)->Heap.SameBut dx s.heap h'->Q () { s with heap:=h',toks:=s.toks+2 }) :
  wpAny (model prog w) A (setAttr (.ref x) name v) Q E s:=by
 obtain⟨od,J,hl⟩:=I.look
 refine PySem.W.set_plain X J hs (PySem.W.osa_open (s:={ s with toks:=s.toks+1 }) (r:=none) X J hp ht λb=>?_)
 obtain⟨cd,hc,hd'⟩:=PySem.W.any_some hh
 have hx:s.heap.get? x=some ⟨.ref C,some dx,.plain,#[]⟩:=I.obj
 refine wpAny_bind (wpAny_pure (wpAny_bind (wpAny_bind (wpAny_loadPart hx (wpAny_bind (PySem.W.Looks.here (s:={ s with toks:=s.toks+1 }) (PySem.W.looks_clsIn X hc) ?_))))))
 rw[hd']
 refine wpAny_pure (a:=some dx) (wpAny_bind (wpAny_pure (wpAny_bind ?_)))
 refine wpAny_nsSet1 (s:={ s with toks:=s.toks+1 }) I.ns λh' hn2 hs2=>?_
 obtain⟨oD,esD,epD,hoD,hdD,hcD⟩:=hn2.count (PySem.Within.cons name v hw)
 refine wpAny_bind (wpAny_lookBehind hoD (by rw[hdD];exact pastItsLine_dict (Nat.le_trans hcD (by rw[List.length_cons];omega))) ?_)
 exact wpAny_pure (h _ ⟨(hs2.2 _ (Ne.symm I.ne)).trans I.obj,hn2,I.ne⟩ hs2)
theorem ym2 {R:Result->Shared->Prop}{vs:List Value}{kw:List (Str×Value)}(X:K.In s.heap)(hm:PySem.W.makesIn K C=true)
  (hi:PySem.W.findIn K (.ref C) "__init__"=some (some (.ref f))) (hf:PySem.W.typeIn K (.ref f)=some (.type "function"))
  (h:codeAny (model prog w) (A.under (.builtin "type.__call__" ⟨.ref C :: vs,kw⟩)) (.call (.ref f) ⟨.ref (s.heap.objs.size+1) :: vs,kw⟩) (PySem.W.InitBack (s.heap.objs.size+1) R)
   { s with heap:=(s.heap.push PySem.W.emptyDict).push (PySem.W.instObj C s.heap.objs.size) }) :
  codeAny (model prog w) A (.call (.ref C) ⟨vs,kw⟩) R s:=by
 obtain⟨hh,g,d,t,os⟩:=s
 exact PySem.W.make_core (PySem.W.makes_of X hm) (PySem.W.looks_findIn X hi) (λself=>PySem.W.bind_fn X self hf) (.inl rfl) h
end
noncomputable def yfq (f:Str)(v:V):List (Str×V)->List (Str×V)
 | []=>[(f,v)]
 | (g,x) :: r=>if g=f then (g,v) :: r else (g,x) :: yfq f v r
theorem yeK (f g:Str)(v:V):∀ fs:List (Str×V),(yfq f v fs).lookup g=if g=f then some v else fs.lookup g
 | []=>by
  show List.lookup g [(f,v)]=_
  by_cases h:g=f
  ·have hb:(g==f)=true:=beq_iff_eq.mpr h
   simp only[List.lookup,hb,if_pos h]
  ·have hb:(g==f)=false:=beq_eq_false_iff_ne.mpr h
   simp only[List.lookup,hb,if_neg h]
 | (k,x) :: r=>by
  have ih:=yeK f g v r
  rw[show yfq f v ((k,x) :: r)=(if k=f then (k,v) :: r else (k,x) :: yfq f v r) from rfl]
  by_cases hk:k=f
  ·rw[if_pos hk]
   by_cases h:g=k
   ·have hb:(g==k)=true:=beq_iff_eq.mpr h
    simp only[List.lookup,hb,if_pos (h.trans hk)]
   ·have hb:(g==k)=false:=beq_eq_false_iff_ne.mpr h
    simp only[List.lookup,hb,if_neg (λe:g=f=>h (e.trans hk.symm))]
  ·rw[if_neg hk]
   by_cases h:g=k
   ·have hb:(g==k)=true:=beq_iff_eq.mpr h
    simp only[List.lookup,hb,if_neg (λe:g=f=>hk (h.symm.trans e))]
   ·have hb:(g==k)=false:=beq_eq_false_iff_ne.mpr h
    simp only[List.lookup,hb]
    exact ih
theorem ye9 (f:Str)(v:V):∀ fs:List (Str×V),f∈(yfq f v fs).map (·.1)/\∀ g,g∈fs.map (·.1)->g∈(yfq f v fs).map (·.1)
 | []=>⟨by simp[yfq],λg h=>by simp at h⟩
 | (k,x) :: r=>by
  obtain⟨i1,i2⟩:=ye9 f v r
  rw[show yfq f v ((k,x) :: r)=(if k=f then (k,v) :: r else (k,x) :: yfq f v r) from rfl]
  by_cases hk:k=f
  ·rw[if_pos hk]
   subst hk
   exact⟨by simp,λg h=>by simpa using h⟩
  ·rw[if_neg hk]
   refine⟨?_,λg h=>?_⟩
   ·rw[List.map_cons]
    exact List.mem_cons_of_mem _ i1
   ·rw[List.map_cons] at h ⊢
    rcases List.mem_cons.mp h with e | e
    ·exact List.mem_cons.mpr (.inl e)
    ·exact List.mem_cons_of_mem _ (i2 g e)
theorem ye3 (f:Str)(v:V):∀ fs:List (Str×V),(yfq f v fs).length<=fs.length+1
 | []=>by simp[yfq]
 | (k,x) :: r=>by
  have ih:=ye3 f v r
  rw[show yfq f v ((k,x) :: r)=(if k=f then (k,v) :: r else (k,x) :: yfq f v r) from rfl]
  by_cases hk:k=f
  ·rw[if_pos hk,List.length_cons,List.length_cons];omega
  ·rw[if_neg hk,List.length_cons,List.length_cons];omega
theorem RelO.some_of {v:V}{o:Option Value}(r:RelO (some v) o):∃ u,o=some u/\RelV v u:=by
 cases o with
 | none=>exact(show False from r).elim
 | some u=>exact⟨u,rfl,r⟩
theorem RelO.none_of {o:Option Value}(r:RelO none o):o=none:=by
 cases o with
 | none=>rfl
 | some u=>exact(show False from r).elim
theorem ylE {v:V}{u:Value}(r:RelV v u):PySem.W.handedIn u=true:=by
 cases v with
 | non=>cases (show u=Value.none from r);rfl
 | bl b=>cases (show u=Value.bool b from r);rfl
 | int i=>obtain⟨t,e⟩:=(show ∃ t,u=Value.int i t from r);cases e;rfl
 | str x=>obtain⟨t,e⟩:=(show ∃ t,u=Value.str x t from r);cases e;rfl
 | byt b=>obtain⟨t,e⟩:=(show ∃ t,u=Value.bytes b t from r);cases e;rfl
 | flt b=>obtain⟨t,e⟩:=(show ∃ t,u=Value.float b t from r);cases e;rfl
 | ref a=>cases (show u=Value.ref a from r);rfl
 | ty n=>cases (show u=Value.type n from r);rfl
section
variable {P:Program} {w:World} {H H':Hp} {h h':Heap} {a C dx:Addr} {fs fs':List (Str×V)}
theorem ygt (hok:HOk P w H h)(e:H a=some (.ins C dx fs)):∃ mA,ObjM h a dx C mA/\(∀ f,RelO (fs.lookup f) (mA f))/\PySem.Within mA (fs.map (·.1))/\fs.length<=1000/\H dx=some (.own a):=by
 obtain⟨d,z,ne,ob,mA,n,r,q⟩:=(show ObjOk P w H h a (.ins C dx fs) from hok a _ e)
 exact⟨mA,⟨ob,n,ne⟩,r,q,z,d⟩
end
structure Cls (K:PySem.W.Frag) (C:Addr):Prop where
 pg:PySem.W.plainGet K C Str.empty=true
 hd:PySem.W.hasDictIn K C=true
 po:PySem.W.plainOver K C=true
 sa:PySem.W.findIn K (.ref C) "__setattr__"=some (some (.builtin "object.__setattr__"))
theorem Cls.get {K:PySem.W.Frag}{C:Addr}(c:Cls K C)(f:Str):PySem.W.plainGet K C f=true:=c.pg
noncomputable def NoAttr (K:PySem.W.Frag)(C:Addr)(f:Str):Prop:=PySem.W.findIn K (.ref C) f=some none
theorem NoAttr.taker {K:PySem.W.Frag}{C:Addr}{f:Str}(n:NoAttr K C f):PySem.W.takerIn K C f=some none:=by
 unfold PySem.W.takerIn
 rw[show PySem.W.findIn K (.ref C) f=some none from n]
 rfl
structure Con (K:PySem.W.Frag) (C:Addr) (f:Str) (v:V) (u:Value):Prop where
 at_:PySem.W.findIn K (.ref C) f=some (some u)
 rel:RelV v u
 get:PySem.W.specialIn K u "__get__"=some none
 cp:PySem.W.copiedNames.contains f=false
structure yjz (K:PySem.W.Frag) (C:Addr) (m:Str) (f:Addr):Prop where
 at_:PySem.W.findIn K (.ref C) m=some (some (.ref f))
 fn:PySem.W.isFn K (.ref f)=true
 kp:PySem.W.keepIn K (.ref f)=true
section
variable {X:Cx} {pins:List (Addr×Obj)} {σ:St} {H:Hp} {s:Shared} {a C dx:Addr} {fs:List (Str×V)} {f:Str} {v:V} {A:Around} {E:Value->Shared->Prop}
theorem ykk {b:Bool}{Q:Value->Shared->Prop}(I:Inv X pins σ H s)(e:H a=some (.ins C dx fs))(c:Cls X.K C)(n:NoAttr X.K C f)(l:fs.lookup f=some v)
  (h:∀ u s',Inv X pins σ H s'->RelV v u->Q u s'):wpAny (model X.prog X.w) A (getAttr (.ref a) f b) Q E s:=by
 obtain⟨mA,O,r,_,_,_⟩:=ygt I.hok e
 obtain⟨u,hu,ru⟩:=RelO.some_of (v:=v) (o:=mA f) (by rw[← l];exact r f)
 exact yoP I.kIn O (c.get f) c.hd n hu (ylE ru) (h u _ (I.tok _) ru)
theorem yef {m:Str}{g:Addr}{pl:Sem Bool}{Q:Value×List Value->Shared->Prop}(I:Inv X pins σ H s)(e:H a=some (.ins C dx fs))(c:Cls X.K C)(k:yjz X.K C m g)(l:fs.lookup m=none)
  (h:Q (.ref g,[.ref a]) s):wpAny (model X.prog X.w) A (getMethod (.ref a) m pl) Q E s:=by
 obtain⟨mA,O,r,_,_,_⟩:=ygt I.hok e
 have hn:mA m=none:=RelO.none_of (by rw[← l];exact r m)
 exact ym1 I.kIn O (c.get m) k.at_ k.fn hn h
theorem yj3 {y:V}{u:Value}{Q:Unit->Shared->Prop}(I:Inv X pins σ H s)(e:H a=some (.ins C dx fs))(c:Cls X.K C)(n:NoAttr X.K C f)(hl:fs.length < 1000)(ry:RelV y u)
  (h:∀ s',Inv X pins σ (upd H a (.ins C dx (yfq f y fs))) s'->Q () s'):wpAny (model X.prog X.w) A (setAttr (.ref a) f u) Q E s:=by
 obtain⟨mA,O,r,wi,_,ho⟩:=ygt I.hok e
 have hz:(fs.map (·.1)).length<=sizeLine:=by rw[List.length_map,sizeLine_eq];omega
 refine ypG I.kIn O c.sa c.po n.taker c.hd wi hz λh' O' sb=>h _ ?_
 have hd:∃ o,h'.get? dx=some o:=let ⟨o,_,_,e',_⟩:=O'.ns;⟨o,e'⟩
 refine I.write (x:=a) (e:=dx) (by rw[e];exact True.intro) (.inr ho) (λb q hb z=>(sb.2 b hb).trans z) hd ?_
 refine⟨by rw[yaB O.ne];exact ho,?_,O.ne,O'.obj,_,O'.ns,λg=>?_,λg hg=>?_⟩
 ·have:=ye3 f y fs;omega
 ·show RelO ((yfq f y fs).lookup g) (if g=f then some u else mA g)
  rw[yeK]
  by_cases q:g=f
  ·rw[if_pos q,if_pos q];exact ry
  ·rw[if_neg q,if_neg q];exact r g
 ·by_cases q:g=f
  ·rw[q];exact(ye9 f y fs).1
  ·refine(ye9 f y fs).2 g (wi g λz=>hg ?_)
   show(if g=f then some u else mA g)=none
   rw[if_neg q];exact z
theorem Inv.made (I:Inv X pins σ H s):Inv X pins σ (upd (upd H s.heap.objs.size (.own (s.heap.objs.size+1))) (s.heap.objs.size+1) (.ins C s.heap.objs.size []))
  { s with heap:=(s.heap.push PySem.W.emptyDict).push (PySem.W.instObj C s.heap.objs.size) }:=by
 have e1:(s.heap.push PySem.W.emptyDict).get? s.heap.objs.size=some PySem.W.emptyDict:=Heap.get?_push_size s.heap rfl
 have e2:((s.heap.push PySem.W.emptyDict).push (PySem.W.instObj C s.heap.objs.size)).get? (s.heap.objs.size+1)=some (PySem.W.instObj C s.heap.objs.size):=by
  have:=Heap.get?_push_size (s.heap.push PySem.W.emptyDict) (o:=PySem.W.instObj C s.heap.objs.size) rfl
  rwa [Heap.size_push] at this
 have e3:(s.heap.push PySem.W.emptyDict).Ns s.heap.objs.size (λ_=>none):=⟨PySem.W.emptyDict,#[],_,e1,rfl,(λe he=>absurd he (by simp)),λ_=>rfl⟩
 have I1:=I.laid (a:=s.heap.objs.size) (o:=.own (s.heap.objs.size+1)) (h':=s.heap.push PySem.W.emptyDict) (t':=s.toks) (λb u q=>Heap.get?_push_of_some _ q) (Nat.le_refl _) ⟨_,e1⟩
 refine I1.laid (a:=s.heap.objs.size+1) (o:=.ins C s.heap.objs.size []) (t':=s.toks) (λb u q=>Heap.get?_push_of_some _ q) (Nat.le_of_eq (Heap.size_push _ _)) ?_
 have ne:s.heap.objs.size≠s.heap.objs.size+1:=Nat.ne_of_lt (Nat.lt_succ_self _)
 refine⟨by rw[yaB ne,yae],Nat.zero_le _,ne,e2,λ_=>none,(Heap.Ns1.of_empty e3).at λo q=>Heap.get?_push_of_some _ q,λ_=>True.intro,λy hy=>absurd rfl hy⟩
theorem yoS {prog:Program}{w:World}{env:Env}{e:Expr}{f:Str}{pos:Pos}{s:Shared}{Q:Value->Shared->Prop}(hb:attributeBase e f env (eval e env)=eval e env)
  (h:wpAny (model prog w) A (eval e env) (λo s₁=>wpAny (model prog w) A (getAttr o f true) Q E s₁) E s):wpAny (model prog w) A (eval (.Attribute e f pos) env) Q E s :=
 Attribute_any_ h (by rw[arm_eval_Attribute,hb])
end
noncomputable def yqX (K:PySem.W.Frag)(ta:TE)(f:Str):TE:=fun σ H Q=>ta σ H λx H1=>∃ a C dx fs v,x=.ref a/\H1 a=some (.ins C dx fs)/\Cls K C/\NoAttr K C f/\fs.lookup f=some v/\Q v H1
noncomputable def ytn (K:PySem.W.Frag)(ta tv:TE)(f:Str):TS:=λD σ H=>tv σ H λy H1=>ta σ H1 λx H2=>∃ a C dx fs,x=.ref a/\H2 a=some (.ins C dx fs)/\Cls K C/\NoAttr K C f/\fs.length < 1000 /\
 D.nx σ (upd H2 a (.ins C dx (yfq f y fs)))
section
variable {X:Cx} {o e value:Expr} {f:Str} {pos pos' tpos:Pos} {ta tv:TE}
theorem ybx (he:PE X e ta)(hb:attributeBase e f X.env (eval e X.env)=eval e X.env):PE X (.Attribute e f pos) (yqX X.K ta f):=by
 intro pins s σ H Q I h
 refine yoS hb (thn (he pins s σ H _ I h) λu s1 ⟨x,H1,I1,rx,a,C,dx,fs,v,ex,ea,c,n,l,q⟩=>?_)
 subst ex
 obtain rfl:u=Value.ref a:=rx
 exact ykk I1 ea c n l λu' s2 I2 ru=>⟨v,H1,I2,ru,q⟩
theorem yd1 (ha:PE X o ta)(hv:PE X value tv)(hs:swapsWith value (some (.Attribute o f pos')) pos.line X.env=pure false):PS X (.Assign [.Attribute o f pos'] value pos) (ytn X.K ta tv f):=by
 intro pins s σ H D I h
 refine plainObj_wpAny_Assign_Attribute (thn (hv pins s σ H _ I h) λu s1 ⟨y,H1,I1,ry,q⟩=>thn (ha pins s1 σ H1 _ I1 q) λov s2 ⟨x,H2,I2,rx,a,C,dx,fs,ex,ea,c,n,l,q2⟩=>?_) hs
 subst ex
 obtain rfl:ov=Value.ref a:=rx
 exact yj3 I2 ea c n l ry λs3 I3=>⟨σ,_,I3,q2⟩
end
section
variable {X:Cx} {pins:List (Addr×Obj)} {σ:St} {H:Hp} {s:Shared} {A:Around} {E:Value->Shared->Prop} {Q:Value->Shared->Prop} {c:Value} {b:Bool}
inductive ygD (K:PySem.W.Frag) (H:Hp):V->Value->Prop where
 | non:ygD K H .non (.type "NoneType")
 | bl (x:Bool):ygD K H (.bl x) (.type "bool")
 | int (i:Int):ygD K H (.int i) (.type "int")
 | str (x:Str):ygD K H (.str x) (.type "str")
 | flt (x:UInt64):ygD K H (.flt x) (.type "float")
 | lst {a:Addr} {xs:List V} (e:H a=some (.lst xs)):ygD K H (.ref a) (.type "list")
 | frz {a:Addr} {o:Obj} {xs:List V} (e:H a=some (.frz o (.lst xs))):ygD K H (.ref a) (.type "list")
 | tup {a:Addr} {xs:List V} (e:H a=some (.tup xs)):ygD K H (.ref a) (.type "tuple")
 | dK {a:Addr} {kvs:List (Key×V)} (e:H a=some (.dK kvs)):ygD K H (.ref a) (.type "dict")
 | dT {a:Addr} {kvs:List (List Key×V)} (e:H a=some (.dT kvs)):ygD K H (.ref a) (.type "dict")
 | ins {a C dx:Addr} {fs:List (Str×V)} (e:H a=some (.ins C dx fs)) (cl:Cls K C) (ha:PySem.W.findIn K (.ref C) "__class__"=some (some (.builtin "object.__class__")))
   (hn:PySem.W.specialIn K (.builtin "object.__class__") "__get__"=some (some (.builtin "getset_descriptor.__get__"))) (htk:PySem.W.takesIn K (.builtin "object.__class__")=some true)
   (hm:PySem.W.mroIn K C (.type "object")=some true):ygD K H (.ref a) (.ref C)
theorem ygK {x:V}{u t:Value}(I:Inv X pins σ H s)(rx:RelV x u)(ty:ygD X.K H x t)(e:PySem.W.kitOne X.K t c=some b)(h:∀ tk,Q (.bool b) { s with toks:=tk }) :
  wpAny (model X.prog X.w) A (call (.builtin "isinstance") [u,c]) Q E s:=by
 cases ty with
 | non=>cases (show u=Value.none from rx);exact PySem.W.kia_one PySem.W.kitx_none I.kIn True.intro e (λz=>nomatch z) h
 | bl y=>cases (show u=Value.bool y from rx);exact PySem.W.kia_one PySem.W.kitx_bool I.kIn True.intro e (λz=>nomatch z) h
 | int i=>obtain⟨t,q⟩:=(show ∃ t,u=Value.int i t from rx);cases q;exact PySem.W.kia_one PySem.W.kitx_int I.kIn True.intro e (λz=>nomatch z) h
 | str y=>obtain⟨t,q⟩:=(show ∃ t,u=Value.str y t from rx);cases q;exact PySem.W.kia_one PySem.W.kitx_str I.kIn True.intro e (λz=>nomatch z) h
 | flt y=>obtain⟨t,q⟩:=(show ∃ t,u=Value.float y t from rx);cases q;exact PySem.W.kia_one PySem.W.kitx_float I.kIn True.intro e (λz=>nomatch z) h
 | @lst a xs ea =>
  cases (show u=Value.ref a from rx)
  obtain⟨_,_,n,_,h1⟩:=(show ObjOk X.prog X.w H s.heap a (.lst xs) from I.hok a _ ea)
  exact PySem.W.kia_one PySem.W.kitx_list I.kIn ⟨_,h1,rfl⟩ e (λz=>nomatch z) h
 | @frz a ob xs ea =>
  cases (show u=Value.ref a from rx)
  obtain⟨_,_,_,n,_,h1⟩:=(show ObjOk X.prog X.w H s.heap a (.frz ob (.lst xs)) from I.hok a _ ea)
  exact PySem.W.kia_one PySem.W.kitx_list I.kIn ⟨_,h1,rfl⟩ e (λz=>nomatch z) h
 | @tup a xs ea =>
  cases (show u=Value.ref a from rx)
  obtain⟨_,_,_,p⟩:=(show ObjOk X.prog X.w H s.heap a (.tup xs) from I.hok a _ ea)
  obtain⟨o,h1,h2,_⟩:=p
  exact PySem.W.kia_one PySem.W.kitx_tuple I.kIn ⟨o,h1,h2⟩ e (λz=>nomatch z) h
 | @dK a kvs ea =>
  cases (show u=Value.ref a from rx)
  obtain⟨_,_,vs,_,p⟩:=(show ObjOk X.prog X.w H s.heap a (.dK kvs) from I.hok a _ ea)
  obtain⟨o,es,ep,h1,h2,_⟩:=p
  exact PySem.W.kia_one PySem.W.kitx_dict I.kIn ⟨o,h1,h2.1⟩ e (λz=>nomatch z) h
 | @dT a kvs ea =>
  cases (show u=Value.ref a from rx)
  obtain⟨_,_,xs,_,o,es,ep,h1,h2,_⟩:=(show ObjOk X.prog X.w H s.heap a (.dT kvs) from I.hok a _ ea)
  exact PySem.W.kia_one PySem.W.kitx_dict I.kIn ⟨o,h1,h2.1⟩ e (λz=>nomatch z) h
 | @ins a C dx fs ea cl ha hn htk hm =>
  cases (show u=Value.ref a from rx)
  obtain⟨mA,O,_⟩:=ygt I.hok ea
  obtain⟨od,J,_⟩:=O.look
  exact PySem.W.kia_one (PySem.W.kitx_own (cl.get _) cl.hd ha hn htk hm) I.kIn J e (λz=>nomatch z) h
end
structure Room (k:Nat) (A:Around):Prop where
 hd:A.handled=none
 dp:A.depth+3*k+5 < recursionLimit
 un:A.units+16*k+200 < cLine
theorem Room.mono {j k:Nat}{A:Around}(r:Room k A)(h:j<=k):Room j A:=⟨r.hd,by have:=r.dp;omega,by have:=r.un;omega⟩
theorem Room.deeper {k:Nat}{A:Around}(r:Room (k+1) A)(env:Env):Room k (A.deeper env) :=
 ⟨r.hd,by have:=r.dp;show A.depth+1+3*k+5 < _;omega,by have:=r.un;show A.units+3+16*k+200 < _;omega⟩
theorem yj9 {A:Around}{C:Addr}{us:List Value}{kw:List (Str×Value)}:(A.under (.builtin "type.__call__" ⟨.ref C :: us,kw⟩)).depth=A.depth+1:=by
 first | rfl | simp[Around.under,Code.weight,Code.isCreation,Code.isGuard,Code.isCaller,Code.frames,Code.isFrame,guardIds]
theorem ykg {A:Around}{C:Addr}{us:List Value}{kw:List (Str×Value)}:(A.under (.builtin "type.__call__" ⟨.ref C :: us,kw⟩)).units=A.units+1:=by
 first | rfl | simp[Around.under,Code.cUnits,Code.frames,Code.isFrame]
theorem Room.make {k:Nat}{A:Around}(r:Room (k+1) A)(C:Addr)(us:List Value)(kw:List (Str×Value)):Room k (A.under (.builtin "type.__call__" ⟨.ref C :: us,kw⟩)) :=
 ⟨r.hd,by have:=r.dp;rw[yj9];omega,by have:=r.un;rw[ykg];omega⟩
theorem Room.depth {k:Nat}{A:Around}(r:Room k A):A.depth < recursionLimit:=by have:=r.dp;omega
theorem Room.units {k:Nat}{A:Around}(r:Room k A):A.units+64 < cLine:=by have:=r.un;omega
noncomputable def yh6:TA:=λ_ H Q=>Q [] H
noncomputable def yb3 (ta:TE)(tr:TA):TA:=fun σ H Q=>ta σ H λx H1=>tr σ H1 λxs H2=>Q (x :: xs) H2
section
variable {X:Cx} {e:Expr} {es:List Expr} {te:TE} {t:TA} {pos:Pos}
theorem yab:PA X [] yh6:=λ_ _ _ _ H Q I h=>Calls.spliced_nil ⟨[],H,I,.nil,h⟩
theorem yaa (ha:PE X e te)(hr:PA X es t)(hs:starEach (e :: es) X.env=(false,eval e X.env) :: starEach es X.env:=by rfl):PA X (e :: es) (yb3 te t):=by
 intro pos pins s σ H Q I h
 rw[hs]
 show wpAny _ _ (spliced ((false,eval e X.env) :: backTo pos (starEach es X.env))) _ _ s
 refine Calls.spliced_cons (thn (ha pins s σ H _ I h) λu s1 ⟨x,H1,I1,r1,q1⟩=>?_)
 exact thn (hr pos pins s1 σ H1 _ I1 q1) λus s2 ⟨xs,H2,I2,r2,q2⟩=>⟨x :: xs,H2,I2,.cons r1 r2,q2⟩
noncomputable def ypQ (t:TA):TE:=fun σ H Q=>t σ H λxs H1=>xs.length<=sizeLine/\∀ p,H1 p=none->Q (.ref p) (upd H1 p (.tup xs))
noncomputable def ysl (t:TA):TE:=fun σ H Q=>t σ H λxs H1=>xs.length<=sizeLine/\∀ p,H1 p=none->Q (.ref p) (upd H1 p (.lst xs))
theorem yaF {x1}(h:PA X es t):PE X (.Tuple es x1 pos) (ypQ t):=by
 intro pins s σ H Q I hq
 refine wpAny_Tuple_spliced (thn (h pos pins s σ H _ I hq) λus s1 ⟨xs,H1,I1,r,z,q⟩=>⟨by rw[← r.length];exact z,?_⟩)
 have hf:H1 s1.heap.objs.size=none:=I1.hok.fresh (Nat.le_refl _)
 refine⟨.ref s1.heap.objs.size,upd H1 s1.heap.objs.size (.tup xs),I1.laid (t':=s1.toks) (λb u e=>Heap.get?_push_of_some _ e) (Nat.le_refl _) ?_,rfl,q _ hf⟩
 exact⟨z,us,r,⟨_,Heap.get?_push_size _ rfl,rfl,_,rfl⟩⟩
theorem yaV (h:PA X es t):PE X (.List es pos) (ysl t):=by
 intro pins s σ H Q I hq
 refine wpAny_List_spliced (thn (h pos pins s σ H _ I hq) λus s1 ⟨xs,H1,I1,r,z,q⟩=>⟨by rw[← r.length];exact z,?_⟩)
 have hf:H1 s1.heap.objs.size=none:=I1.hok.fresh (Nat.le_refl _)
 refine⟨.ref s1.heap.objs.size,upd H1 s1.heap.objs.size (.lst xs),I1.laid (t':=s1.toks) (λb u e=>Heap.get?_push_of_some _ e) (Nat.le_refl _) ?_,rfl,q _ hf⟩
 exact⟨z,us,0,r,Heap.get?_push_size _ rfl⟩
end
noncomputable abbrev Sp:=List V->Hp->VK->XK->Prop
noncomputable abbrev CXT:=List Env->Hp->Shared->XK->Value->Shared->Prop
structure Env0 (P:Program) (w:World) (K:PySem.W.Frag) (mg:Str->Option Value) (base:Heap) (A:Around) (outer:List Env) (s:Shared) (H:Hp):Prop where
 frames:A.frames=some outer
 mod:Mod K mg base
 bs:∀ b o,base.get? b=some o->s.heap.get? b=some o/\H b=none
 bsz:base.objs.size<=s.heap.objs.size
 funs:s.heap.FunFrames base outer
 frf:∀ b∈frs outer,H b=none
 hok:HOk P w H s.heap
 bare:AllBare s.gens
noncomputable def CE (outer:List Env)(P:Program)(w:World)(H:Hp)(s:Shared)(Q:VK)(u:Value)(s':Shared):Prop :=
 ∃ v H',s'.os=s.os/\AllBare s'.gens/\Un (frs outer) [] H H' s.heap s'.heap/\HOk P w H' s'.heap/\RelV v u/\Q v H'
noncomputable def CR (CX:CXT)(outer:List Env)(P:Program)(w:World)(H:Hp)(s:Shared)(Q:VK)(E:XK)(r:Result)(s':Shared):Prop :=
 match r with
 | .ok (.ret u)=>CE outer P w H s Q u s'
 | .ok _=>False
 | .error e=>CX outer H s E e s'
structure FnOk (P:Program) (w:World) (K:PySem.W.Frag) (mg:Str->Option Value) (base:Heap) (CX:CXT) (k:Nat) (f:Addr) (fd:FuncData) (ps:List Str) (sp:Sp):Prop where
 len:∀ vs H Q E,sp vs H Q E->vs.length=ps.length
 run:∀ (A:Around) (outer:List Env) (s:Shared) (H:Hp) (args:Args) (us:List Value) (vs:List V) (Q:VK) (E:XK),Room k A->Env0 P w K mg base A outer s H->BindsTo s fd args (ps.zip us)->Vals vs us->sp vs H Q E ->
  codeAny (model P w) A (.call (.ref f) args) (CR CX outer P w H s Q E) s
theorem FnOk.mono {P:Program}{w:World}{K:PySem.W.Frag}{mg:Str->Option Value}{base:Heap}{CX:CXT}{j k:Nat}{f:Addr}{fd:FuncData}{ps:List Str}{sp:Sp}(F:FnOk P w K mg base CX j f fd ps sp)(h:j<=k) :
  FnOk P w K mg base CX k f fd ps sp:=⟨F.len,λA outer s H args us vs Q E hr=>F.run A outer s H args us vs Q E (hr.mono h)⟩
theorem FnOk.imp {P:Program}{w:World}{K:PySem.W.Frag}{mg:Str->Option Value}{base:Heap}{CX:CXT}{k:Nat}{f:Addr}{fd:FuncData}{ps:List Str}{sp sp':Sp}(F:FnOk P w K mg base CX k f fd ps sp)
  (h:∀ vs H Q E,sp' vs H Q E->sp vs H Q E):FnOk P w K mg base CX k f fd ps sp' :=
 ⟨λvs H Q E q=>F.len vs H Q E (h _ _ _ _ q),λA outer s H args us vs Q E hr he hb hv hs=>F.run A outer s H args us vs Q E hr he hb hv (h _ _ _ _ hs)⟩
theorem Env0.make {P:Program}{w:World}{K:PySem.W.Frag}{mg:Str->Option Value}{base:Heap}{A:Around}{outer:List Env}{s:Shared}{H:Hp}(e:Env0 P w K mg base A outer s H)(C:Addr)(us:List Value)(kw:List (Str×Value)) :
  Env0 P w K mg base (A.under (.builtin "type.__call__" ⟨.ref C :: us,kw⟩)) outer s H:=⟨by first | exact e.frames | (simpa [Around.under,Code.envs,Code.isFrame,pushEnvs] using e.frames),e.mod,e.bs,e.bsz,e.funs,e.frf,e.hok,e.bare⟩
section
variable {X:Cx} {pins:List (Addr×Obj)} {σ:St} {H:Hp} {s s':Shared}
theorem Inv.env0 (I:Inv X pins σ H s):Env0 X.prog X.w X.K X.mg X.base X.A X.stack s H :=
 ⟨I.ok.frames,I.ok.mod,I.bs,Nat.le_trans I.ok.bsz I.sz,I.stack,I.stkFree,I.hok,I.bare⟩
theorem Inv.after {Q:VK}{u:Value}(I:Inv X pins σ H s)(h:CE X.stack X.prog X.w H s Q u s'):EP X pins σ Q u s':=by
 obtain⟨v,H',os,bare,un,hok,r,q⟩:=h
 obtain⟨hh,g,d,t,os'⟩:=s'
 obtain rfl:os'=s.os:=os
 exact⟨v,H',I.call (h':=hh) (g':=g) (d':=d) (t':=t) (ch:=[]) un hok bare (λb z=>absurd z (by simp)),r,q⟩
end
noncomputable def yfl (sp:Sp)(dvs:List V)(E:XK)(t:TA):TE:=fun σ H Q=>t σ H λvs H1=>sp (vs++dvs) H1 Q E
noncomputable def ypt (C:Addr)(m:Str)(sp:Sp)(dvs:List V)(E:XK)(ta:TE)(t:TA):TE:=fun σ H Q=>ta σ H λx H1=>∃ a dx fs,x=.ref a/\H1 a=some (.ins C dx fs)/\fs.lookup m=none /\
 t σ H1 λvs H2=>sp (x :: (vs++dvs)) H2 Q E
noncomputable def ypf (C:Addr)(sp:Sp)(dvs:List V)(E:XK)(t:TA):TE:=fun σ H Q=>t σ H λvs H1=>∀ x dx,H1 x=none->H1 dx=none->dx≠x ->
 sp (.ref x :: (vs++dvs)) (upd (upd H1 dx (.own x)) x (.ins C dx [])) (λv H2=>v=.non/\Q (.ref x) H2) E
noncomputable def Binds (K:PySem.W.Frag)(fd:FuncData)(ps:List Str)(ds:List Value):Prop :=
 ∀ (s:Shared) (us:List Value),K.In s.heap->(us++ds).length=ps.length->BindsTo s fd ⟨us,[]⟩ (ps.zip (us++ds))
theorem Binds.all {K:PySem.W.Frag}{fd:FuncData}{ps:List Str}(h:∀ us:List Value,us.length=ps.length->bindArgs fd ⟨us,[]⟩=pure (ps.zip us)):Binds K fd ps []:=λs us _ hl=>by
 rw[List.append_nil] at hl ⊢
 exact .of_eq (h us hl)
noncomputable def ydB (CX:CXT)(X:Cx)(E:XK):Prop:=∀ (pins:List (Addr×Obj)) (σ:St) (H:Hp) (s:Shared) (e:Value) (s':Shared),Inv X pins σ H s->CX X.stack H s E e s'->X.xe e s'
section
variable {X:Cx} {CX:CXT} {k:Nat} {f C:Addr} {fd:FuncData} {ps:List Str} {sp:Sp} {dvs:List V} {ds:List Value} {E:XK} {x m:Str} {p pos apos:Pos} {e o:Expr} {es:List Expr} {ta:TE} {t:TA}
theorem yfD {pins:List (Addr×Obj)}{σ:St}{H:Hp}{s:Shared}{Q:VK}{us:List Value}{vs:List V}(F:FnOk X.prog X.w X.K X.mg X.base CX k f fd ps sp)(hr:Room k X.A)(hb:Binds X.K fd ps ds)(hd:Vals dvs ds)(hx:ydB CX X E)
  (I:Inv X pins σ H s) (r:Vals vs us) (h:sp (vs++dvs) H Q E):wpAny (model X.prog X.w) X.A (call (.ref f) us) (EP X pins σ Q) X.xe s:=by
 have r2:Vals (vs++dvs) (us++ds):=r.append hd
 have hl:(us++ds).length=ps.length:=by rw[← r2.length];exact F.len _ _ _ _ h
 refine wpAny_call (codeAny_mono (F.run X.A X.stack s H ⟨us,[]⟩ (us++ds) (vs++dvs) Q E hr I.env0 (hb s us I.kIn hl) r2 h) λr s' hq=>?_)
 cases r with
 | error e=>exact hx pins σ H s e s' I hq
 | ok fl =>
  cases fl with
  | ret u=>exact I.after hq
  | next=>exact False.elim hq
  | brk=>exact False.elim hq
  | cont=>exact False.elim hq
theorem ypC (F:FnOk X.prog X.w X.K X.mg X.base CX k f fd ps sp)(hr:Room k X.A)(hg:Gl X x)(hm:X.mg x=some (.ref f))(hk:PySem.W.keepIn X.K (.ref f)=true)(hb:Binds X.K fd ps ds)(hd:Vals dvs ds)(hx:ydB CX X E)
  (ha:PA X (e :: es) t) (hdb:(x==("__debug__" : Str))=false:=by decide) (he:starEach (e :: es) X.env=(false,eval e X.env) :: starEach es X.env:=by rfl) (hpl:(backTo pos (starEach es X.env)).any (·.1)=false:=by rfl) :
  PE X (.Call (.Name x p) (e :: es) [] pos) (yfl sp dvs E t):=by
 intro pins s σ H Q I h
 refine wpAny_Call_Name_kw (yic I hg hm ?_ hdb)
 refine PySem.W.callWith_K (h₀:=X.base) I.ok.mod.kin hk (thn (ha pos pins s σ H _ I h) λus s1 ⟨vs,H1,I1,r,q⟩=>⟨I1.kIn,?_⟩) he hpl
 exact yfD F hr hb hd hx I1 r q
theorem yiN {pl:Sem Bool}(he:PE X o ta)(c:Cls X.K C)(hm:yjz X.K C m f)(F:FnOk X.prog X.w X.K X.mg X.base CX k f fd ps sp)(hr:Room k X.A)(hb:Binds X.K fd ps ds)(hd:Vals dvs ds)(hx:ydB CX X E)(ha:PA X (e :: es) t)
  (hst:starEach (e :: es) X.env=(false,eval e X.env) :: starEach es X.env:=by rfl) (hpl:(backTo pos (starEach es X.env)).any (·.1)=false:=by rfl)
  (ht:eval (.Call (.Attribute o m apos) (e :: es) [] pos) X.env=(do
   let ov ← eval o X.env
   standAt apos.atName
   let (f,first) ← holding [ov] (getMethod ov m pl)
   callWith pos f first (backTo pos (starEach (e :: es) X.env)) (backToKw pos (keywordEach [] X.env))):=by rfl) :
  PE X (.Call (.Attribute o m apos) (e :: es) [] pos) (ypt C m sp dvs E ta t):=by
 intro pins s σ H Q I h
 refine PySem.W.methodCall_KW (pl:=pl) (thn (he pins s σ H _ I h) λu s1 ⟨x,H1,I1,rx,a,dx,fs,ex,ea,l,q⟩=>?_) ht
 subst ex
 obtain rfl:u=Value.ref a:=rx
 refine yef I1 ea c hm l ?_
 refine PySem.W.callWith_K (first:=[.ref a]) (h₀:=X.base) I.ok.mod.kin hm.kp (thn (ha pos pins s1 σ H1 _ I1 q) λus s2 ⟨vs,H2,I2,r,q2⟩=>⟨I2.kIn,?_⟩) hst hpl
 exact yfD (us:=.ref a :: us) (vs:=.ref a :: vs) F hr hb hd hx I2 (.cons rfl r) q2
theorem yb7 {pl:Sem Bool}(he:PE X o ta)(c:Cls X.K C)(hm:yjz X.K C m f)(F:FnOk X.prog X.w X.K X.mg X.base CX k f fd ps sp)(hr:Room k X.A)(hb:Binds X.K fd ps ds)(hd:Vals dvs ds)(hx:ydB CX X E)
  (ht:eval (.Call (.Attribute o m apos) [] [] pos) X.env=(do
   let ov ← eval o X.env
   standAt apos.atName
   let (f,first) ← holding [ov] (getMethod ov m pl)
   callWith pos f first (backTo pos (starEach [] X.env)) (backToKw pos (keywordEach [] X.env))):=by rfl) :
  PE X (.Call (.Attribute o m apos) [] [] pos) (ypt C m sp dvs E ta yh6):=by
 intro pins s σ H Q I h
 refine PySem.W.methodCall_KW (pl:=pl) (thn (he pins s σ H _ I h) λu s1 ⟨x,H1,I1,rx,a,dx,fs,ex,ea,l,q⟩=>?_) ht
 subst ex
 obtain rfl:u=Value.ref a:=rx
 refine yef I1 ea c hm l ?_
 exact PySem.W.callWith_K0 (first:=[.ref a]) I1.kIn hm.kp (yfD (us:=[.ref a]) (vs:=[.ref a]) F hr hb hd hx I1 (.cons rfl .nil) q)
structure Mk (K:PySem.W.Frag) (C f:Addr):Prop where
 makes:PySem.W.makesIn K C=true
 init:PySem.W.findIn K (.ref C) "__init__"=some (some (.ref f))
 fn:PySem.W.isFn K (.ref f)=true
 kp:PySem.W.keepIn K (.ref C)=true
theorem ync {pins:List (Addr×Obj)}{σ:St}{H:Hp}{s:Shared}{Q:VK}{us:List Value}{vs:List V}(M:Mk X.K C f)(F:FnOk X.prog X.w X.K X.mg X.base CX k f fd ps sp)(hr:Room (k+1) X.A)(hb:Binds X.K fd ps ds)(hd:Vals dvs ds)
  (hx:ydB CX X E) (I:Inv X pins σ H s) (r:Vals vs us)
  (h:∀ x dx,H x=none->H dx=none->dx≠x->sp (.ref x :: (vs++dvs)) (upd (upd H dx (.own x)) x (.ins C dx [])) (λv H2=>v=.non/\Q (.ref x) H2) E) :
  wpAny (model X.prog X.w) X.A (call (.ref C) us) (EP X pins σ Q) X.xe s:=by
 have hq:=h (s.heap.objs.size+1) s.heap.objs.size (I.hok.fresh (Nat.le_succ _)) (I.hok.fresh (Nat.le_refl _)) (Nat.ne_of_lt (Nat.lt_succ_self _))
 have I2:=Inv.made (C:=C) I
 have r2:Vals (V.ref (s.heap.objs.size+1) :: (vs++dvs)) (Value.ref (s.heap.objs.size+1) :: (us++ds)):=.cons rfl (r.append hd)
 have hl:(Value.ref (s.heap.objs.size+1) :: us++ds).length=ps.length:=by
  have e:=r2.length
  rw[F.len _ _ _ _ hq] at e
  exact e.symm
 refine wpAny_call (ym2 (f:=f) I.kIn M.makes M.init (beq_iff_eq.mp M.fn) (codeAny_mono (F.run _ X.stack _ _ ⟨Value.ref (s.heap.objs.size+1) :: us,[]⟩ (Value.ref (s.heap.objs.size+1) :: (us++ds)) _ _ E (hr.make C us [])
  (I2.env0.make C us []) (hb _ (Value.ref (s.heap.objs.size+1) :: us) I2.kIn hl) r2 hq) λr s' hq'=>?_))
 cases r with
 | error e=>exact hx pins σ _ _ e s' I2 hq'
 | ok fl =>
  cases fl with
  | ret u =>
   obtain⟨v,H',I3,rv,ev,q3⟩:=I2.after hq'
   subst ev
   exact⟨rv,⟨V.ref (s.heap.objs.size+1),H',I3,rfl,q3⟩⟩
  | next=>exact False.elim hq'
  | brk=>exact False.elim hq'
  | cont=>exact False.elim hq'
theorem yeE (M:Mk X.K C f)(F:FnOk X.prog X.w X.K X.mg X.base CX k f fd ps sp)(hr:Room (k+1) X.A)(hg:Gl X x)(hm:X.mg x=some (.ref C))(hb:Binds X.K fd ps ds)(hd:Vals dvs ds)(hx:ydB CX X E)
  (ha:PA X (e :: es) t) (hdb:(x==("__debug__" : Str))=false:=by decide) (he:starEach (e :: es) X.env=(false,eval e X.env) :: starEach es X.env:=by rfl) (hpl:(backTo pos (starEach es X.env)).any (·.1)=false:=by rfl) :
  PE X (.Call (.Name x p) (e :: es) [] pos) (ypf C sp dvs E t):=by
 intro pins s σ H Q I h
 refine wpAny_Call_Name_kw (yic I hg hm ?_ hdb)
 refine PySem.W.callWith_K (h₀:=X.base) I.ok.mod.kin M.kp (thn (ha pos pins s σ H _ I h) λus s1 ⟨vs,H1,I1,r,q⟩=>⟨I1.kIn,?_⟩) he hpl
 exact ync M F hr hb hd hx I1 r q
end
section
variable {X:Cx} {CX:CXT} {k:Nat} {f C:Addr} {fd:FuncData} {ps ks:List Str} {sp:Sp} {E:XK} {x m:Str} {p pos apos kpos:Pos} {e o:Expr} {es:List Expr} {kws:List Keyword} {te ta:TE} {t tk:TA} {nm:Option Str}
structure yus (K:PySem.W.Frag) (fd:FuncData) (ps ks:List Str) (g:List Value->List Value->List Value) (gV:List V->List V->List V):Prop where
 to:∀ (s:Shared) (us ws:List Value),K.In s.heap->(g us ws).length=ps.length->BindsTo s fd ⟨us,ks.zip ws⟩ (ps.zip (g us ws))
 rel:∀ {vs:List V} {us:List Value} {zs:List V} {ws:List Value},Vals vs us->Vals zs ws->Vals (gV vs zs) (g us ws)
variable {g:List Value->List Value->List Value} {gV:List V->List V->List V}
end
structure yal (N P:List Str) (sc:Scope):Prop where
 kind:sc.kind=.function
 co:sc.isCoroutine=false
 gen:sc.isGenerator=false
 nd:N.Nodup
 pre:N.take P.length=P
 par:∀ x∈P,sc.names.lookup x=some .local∨sc.names.lookup x=some .cell
 nofree:∀ y∈sc.names,y.2≠.free
theorem ygW {kindOf:Str->Option NameKind}{x:Str}:∀ {binds:List (Str×Value)} {m:Str->Option Value},(∀ v,(x,v)∉binds)->bindL kindOf binds m x=m x
 | [],_,_=>rfl
 | (n,v) :: r,m,h=>by
  unfold bindL
  rw[ygW λw hw=>h w (List.mem_cons_of_mem _ hw)]
  split
  ·have:x≠n:=by rintro rfl;exact h v List.mem_cons_self
   simp[this]
  ·rfl
theorem yhN {kindOf:Str->Option NameKind}{x:Str}:∀ {binds:List (Str×Value)} {m:Str->Option Value},(∀ v,(x,v)∉binds)->bindC kindOf binds m x=m x
 | [],_,_=>rfl
 | (n,v) :: r,m,h=>by
  unfold bindC
  rw[yhN λw hw=>h w (List.mem_cons_of_mem _ hw)]
  split
  ·rfl
  ·have:x≠n:=by rintro rfl;exact h v List.mem_cons_self
   simp[this]
theorem yhd {kindOf:Str->Option NameKind}{x:Str}{v:Value}:∀ {P:List Str} {vs:List Value} {i:Nat} {m:Str->Option Value},P.Nodup->P[i]?=some x->vs[i]?=some v->kindOf x=some .local ->
  bindL kindOf (P.zip vs) m x=some v
 | [],_,_,_,_,h,_,_=>by simp at h
 | _ :: _,[],_,_,_,_,h,_=>by simp at h
 | p :: P,w :: vs,0,m,nd,h1,h2,hk=>by
  simp at h1 h2;subst h1;subst h2
  show bindL kindOf ((p,w) :: P.zip vs) m p=_
  unfold bindL
  rw[ygW λv hv=>(List.nodup_cons.mp nd).1 (List.of_mem_zip hv).1,if_pos hk]
  simp
 | p :: P,w :: vs,i+1,m,nd,h1,h2,hk=>by
  show bindL kindOf ((p,w) :: P.zip vs) m x=_
  unfold bindL
  exact yhd (i:=i) (List.nodup_cons.mp nd).2 (by simpa using h1) (by simpa using h2) hk
theorem yg0 {kindOf:Str->Option NameKind}{x:Str}{v:Value}:∀ {P:List Str} {vs:List Value} {i:Nat} {m:Str->Option Value},P.Nodup->P[i]?=some x->vs[i]?=some v->kindOf x≠some .local ->
  bindC kindOf (P.zip vs) m x=some v
 | [],_,_,_,_,h,_,_=>by simp at h
 | _ :: _,[],_,_,_,_,h,_=>by simp at h
 | p :: P,w :: vs,0,m,nd,h1,h2,hk=>by
  simp at h1 h2;subst h1;subst h2
  show bindC kindOf ((p,w) :: P.zip vs) m p=_
  unfold bindC
  rw[yhN λv hv=>(List.nodup_cons.mp nd).1 (List.of_mem_zip hv).1,if_neg hk]
  simp
 | p :: P,w :: vs,i+1,m,nd,h1,h2,hk=>by
  show bindC kindOf ((p,w) :: P.zip vs) m x=_
  unfold bindC
  exact yg0 (i:=i) (List.nodup_cons.mp nd).2 (by simpa using h1) (by simpa using h2) hk
noncomputable def start (N:List Str)(vs:List V):St:=vs.map some++List.replicate (N.length - vs.length) none
noncomputable def ypO (CX:CXT)(P:Program)(w:World)(K:PySem.W.Frag)(mg:Str->Option Value)(base:Heap)(N:List Str)(qual:Str)(scope:Scope)(f:Addr)(cd:Value)(A:Around)(outer:List Env)(s:Shared)(H:Hp)(E:XK):Cx where
 prog:=P
 w:=w
 K:=K
 mg:=mg
 base:=base
 A:=A.deeper (envOfC qual scope s.heap.objs.size f cd)
 N:=N
 s₀:=s
 H₀:=H
 env:=envOfC qual scope s.heap.objs.size f cd
 outer:=outer
 stack:=envOfC qual scope s.heap.objs.size f cd :: outer
 ex:=[]
 calm:=true
 fn:=λ_=>true
 pn:=[]
 xe:=λe s'=>wpAny (model P w) (A.deeper (envOfC qual scope s.heap.objs.size f cd)) (leaving (envOfC qual scope s.heap.objs.size f cd) e) (λ_ s''=>CX outer H s E e s'') (λe' s''=>CX outer H s E e' s'') s'
theorem yjF {sc:Scope}{n:Nat}{x:Str}(h:sc.names.lookup x=some .cell):∃ c,(cellsFrom n sc.names []).lookup x=some c:=by
 have q:=PySem.W.cellsFrom_some sc.names n [] (.inl h)
 exact Option.isSome_iff_exists.mp q
theorem ymh {CX:CXT}{P:Program}{w:World}{K:PySem.W.Frag}{mg:Str->Option Value}{base:Heap}{N ps:List Str}{qual:Str}{scope:Scope}{f:Addr}{cd:Value}{A:Around}{outer:List Env}{s s1:Shared}{H:Hp}{E:XK}{us:List Value}{vs:List V}
  (S:yal N ps scope) (hd:A.handled=none) (e0:Env0 P w K mg base A outer s H) (hl:vs.length=ps.length) (r:Vals vs us)
  (x:InCallC s s.heap.objs.size (bindL (envOfC qual scope s.heap.objs.size f cd).kindOf (ps.zip us) λ_=>none) (cellsFrom (s.heap.objs.size+1) scope.names []) (bindC (envOfC qual scope s.heap.objs.size f cd).kindOf (ps.zip us) λ_=>none) s1) :
  Inv (ypO CX P w K mg base N qual scope f cd A outer s H E) [] (start N vs) H s1:=by
 have hpl:ps.length<=N.length:=by have:=congrArg List.length S.pre;rw[List.length_take] at this;omega
 obtain⟨h1,tk,rfl,hk⟩:=x.done
 have noA:∀ b:Addr,b∉(ypO CX P w K mg base N qual scope f cd A outer s H E).ex:=λb z=>absurd (show b∈([]:List Addr) from z) (by simp)
 refine⟨⟨e0.mod,S.kind,rfl,rfl,Nat.le_refl _,λy z c h1 h2=>?_,λy hy=>?_,λy c _ h=>?_,λ_=>hd,Around.frames_deeper e0.frames,.inr ⟨rfl,rfl⟩,λb z=>absurd z (noA b),e0.bs,e0.bsz,λb _ _=>noA b,λb z=>absurd z (noA b),e0.funs,e0.frf⟩,
  rfl,e0.bare,Un.kept hk,⟨_,x.toInCall.ns,λi y v h1 h2 h3=>?_⟩,λy c h=>⟨_,x.cell y c h⟩,e0.hok.fresh (Nat.le_refl _),λy c h=>?_,λp hp=>absurd (show p∈([]:List (Addr×Obj)) from hp) (by simp),e0.hok.kept hk,?_⟩
 ·exact name_of_addr x.apart (PySem.mem_of_lookup h1) (PySem.mem_of_lookup h2)
 ·have hy:scope.names.lookup y=some .cell∨scope.names.lookup y=some .free:=hy
  rcases hy with hy | hy
  ·exact yjF hy
  ·exact absurd rfl (S.nofree _ (PySem.mem_of_lookup hy))
 ·exact Nat.le_of_lt (x.above y c (PySem.mem_of_lookup h))
 ·have hi:i < vs.length:=by
   unfold start at h2
   by_cases hi:i < vs.length
   ·exact hi
   ·rw[List.getElem?_append_right (by simpa using hi)] at h2
    rw[List.getElem?_replicate] at h2
    split at h2<;>cases h2
  have ha:vs[i]?=some v:=by
   unfold start at h2
   rw[List.getElem?_append_left (by simpa using hi),List.getElem?_map] at h2
   cases e:vs[i]? with
   | none=>rw[e] at h2;cases h2
   | some a=>rw[e] at h2;cases h2;rfl
  obtain⟨u,hu,rv⟩:=r.get ha
  have hp:ps[i]?=some y:=by
   rw[← S.pre,List.getElem?_take_of_lt (by omega)];exact h1
  have ndP:ps.Nodup:=by rw[← S.pre];exact S.nd.sublist (List.take_sublist _ _)
  refine⟨u,rv,?_⟩
  rcases S.par y (List.mem_of_getElem? hp) with k | k
  ·exact .inl ⟨k,yhd ndP hp hu k⟩
  ·obtain⟨c,e⟩:=yjF (n:=s.heap.objs.size+1) k
   refine .inr ⟨.inl k,c,e,?_⟩
   have q:=x.cell y c e
   rw[yg0 ndP hp hu (by show scope.names.lookup y≠_;rw[k];decide)] at q
   exact q
 ·exact e0.hok.fresh (Nat.le_of_lt (x.above y c (PySem.mem_of_lookup h)))
 ·unfold start
  show _=N.length
  rw[List.length_append,List.length_map,List.length_replicate]
  omega
theorem yum {CX:CXT}{P:Program}{w:World}{K:PySem.W.Frag}{mg:Str->Option Value}{base:Heap}{k:Nat}{f:Addr}{name qual:Str}{params:Arguments}{body:List Stmt}{scope:Scope}{dV kV doc pm cdv ct oc:Value}{an od:Option Addr}
  {osl:Array (Option Value)} {N ps:List Str} {sp:Sp} (lk:K.lookup f=some ⟨oc,od,.func (PySem.W.fnOf name qual params body scope dV kV doc pm an cdv ct),osl⟩) (hcd:PySem.W.codeIn K cdv qual=true) (S:yal N ps scope)
  (len:∀ vs H Q E,sp vs H Q E->vs.length=ps.length)
  (hbody:∀ (A:Around) (outer:List Env) (s:Shared) (H:Hp) (vs:List V) (Q:VK) (E:XK),Room k (A.deeper (envOfC qual scope s.heap.objs.size f cdv))->sp vs H Q E ->
   ∃ t,PSs (ypO CX P w K mg base N qual scope f cdv A outer s H E) body t/\t { nx:=λ_ H'=>Q .non H',rt:=Q } (start N vs) H) :
  FnOk P w K mg base CX (k+1) f (PySem.W.fnOf name qual params body scope dV kV doc pm an cdv ct) ps sp:=by
 refine⟨len,λA outer s H args us vs Q E hr e0 hb r hsp=>?_⟩
 have hl:=len _ _ _ _ hsp
 have KX:K.In s.heap:=e0.mod.kin.keeps λb o e=>(e0.bs b o e).1
 have lim:s.heap.NoLimit:=e0.mod.nolimit.keeps λb o e=>(e0.bs b o e).1
 have hkind:∀ y∈ps.zip us,scope.names.lookup y.1=some .local∨(scope.names.lookup y.1=some .cell/\((cellsFrom (s.heap.objs.size+1) scope.names []).lookup y.1).isSome=true):=λ⟨n,v⟩ hy=>by
  rcases S.par n (List.of_mem_zip hy).1 with q | q
  ·exact .inl q
  ·exact .inr ⟨q,PySem.W.cellsFrom_some _ _ _ (.inl q)⟩
 refine codeAny_call_function hr.depth (KX _ _ lk) rfl S.co S.gen rfl (PySem.W.codeRec_of KX hcd) (hb _ _ _ _ ?_)
 refine wpAny_newFunctionEnv_cells S.kind hkind λenv he s1 x=>?_
 subst he
 refine⟨lim.keeps x.toInCall.keep,codeAny_func ?_⟩
 obtain⟨t,ht,hq⟩:=hbody A outer s H vs Q E (hr.deeper _) hsp
 have I:Inv (ypO CX P w K mg base N qual scope f cdv A outer s H E) [] (start N vs) H s1:=ymh S hr.hd e0 hl r x
 refine wpAny_mono (ht [] s1 (start N vs) H _ I hq) (λfl s' hs=>?_) λe s' hs=>hs
 have fin:∀ {σ':St} {H':Hp} {v:V} {u:Value},Inv (ypO CX P w K mg base N qual scope f cdv A outer s H E) [] σ' H' s'->RelV v u->Q v H'->CE outer P w H s Q u s' :=
  λ{σ' H' v u} J rv q=>⟨v,H',J.os,J.bare,J.base,J.hok,rv,q⟩
 cases fl with
 | ret u =>
  obtain⟨v,σ',H',J,rv,q⟩:=hs
  exact fin J rv q
 | next =>
  obtain⟨σ',H',J,q⟩:=hs
  exact fin (v:=V.non) (u:=Value.none) J rfl q
 | brk =>
  obtain⟨_,_,_,q⟩:=hs
  exact False.elim q
 | cont =>
  obtain⟨_,_,_,q⟩:=hs
  exact False.elim q
section
variable {X:Cx} {x:Str} {p pos:Pos} {e:Expr} {es:List Expr} {t:TA} {id T:String} {r:List V->Hp->VK->Prop}
noncomputable def tCB (r:List V->Hp->VK->Prop)(t:TA):TE:=fun σ H Q=>t σ H λvs H1=>r vs H1 Q
theorem yak (hc:ycC X (.builtin id) r)(hg:Gl X x)(hm:X.mg x=none)(hv:bootBuiltins x=some (.builtin id))(ha:PA X (e :: es) t)(hn:x≠"__name__":= by decide)(hdb:(x==("__debug__" : Str))=false:=by decide)
  (he:starEach (e :: es) X.env=(false,eval e X.env) :: starEach es X.env:=by rfl) (hpl:(backTo pos (starEach es X.env)).any (·.1)=false:=by rfl):PE X (.Call (.Name x p) (e :: es) [] pos) (tCB r t):=by
 intro pins s σ H Q I h
 refine wpAny_Call_Name_kw (yen I hg hm hv ?_ hn hdb)
 exact PyProof.Rows.callWith_builtin1 (thn (ha pos pins s σ H _ I h) λus s1 ⟨vs,H1,I1,r1,q1⟩=>hc pins s1 σ H1 vs us Q I1 r1 q1) he hpl
theorem yaT (hc:ycC X (.type T) r)(hg:Gl X x)(hm:X.mg x=none)(hv:bootBuiltins x=some (.type T))(ha:PA X (e :: es) t)(hn:x≠"__name__":= by decide)(hdb:(x==("__debug__" : Str))=false:=by decide)
  (he:starEach (e :: es) X.env=(false,eval e X.env) :: starEach es X.env:=by rfl) (hpl:(backTo pos (starEach es X.env)).any (·.1)=false:=by rfl):PE X (.Call (.Name x p) (e :: es) [] pos) (tCB r t):=by
 intro pins s σ H Q I h
 refine wpAny_Call_Name_kw (yen I hg hm hv ?_ hn hdb)
 exact PyProof.Rows.callWith_type1 (thn (ha pos pins s σ H _ I h) λus s1 ⟨vs,H1,I1,r1,q1⟩=>hc pins s1 σ H1 vs us Q I1 r1 q1) he hpl
end
end L2
namespace HT
open PySem PyProof.Rows
noncomputable def lexLt:List Int->List Int->Bool
 | [],[]=>false
 | [],_ :: _=>true
 | _ :: _,[]=>false
 | x :: xs,y :: ys=>if x=y then lexLt xs ys else decide (x < y)
theorem lexLt_cons (x y:Int)(xs ys:List Int):lexLt (x :: xs) (y :: ys)=if x=y then lexLt xs ys else decide (x < y):=rfl
theorem lexLt_nil_cons (y:Int)(ys:List Int):lexLt [] (y :: ys)=true:=rfl
theorem lexLt_cons_nil (x:Int)(xs:List Int):lexLt (x :: xs) []=false:=rfl
theorem ymY (A:Around)(s:Shared)(a:Int)(t:Tok)(c:Int)(u:Tok):∃ e,SeqAt.EqAt A s (.int a t) (.int c u) e/\(e=true↔a=c) :=
 ⟨(a==c),SeqAt.EqAt.int_int a t c u,by simp⟩
section
open PySem.SeqAt
open PySem.AutoSeq1 (wpAny_loadPart')
open PySem.MeetsSeq PySem.MeetsSeq2 PySem.MeetsSeq3
end
section
variable {prog:Program} {w:World} {A:Around} {E:Value->Shared->Prop} {s:Shared}
noncomputable def sIx (n d:Nat):Option Int->Nat
 | none=>d
 | some v=>if v < 0 then (v+(n:Int)).toNat else min v.toNat n
theorem sIx_none (n d:Nat):sIx n d none=d:=rfl
theorem sIx_nat (n d k:Nat):sIx n d (some (k:Int))=min k n:=by
 show(if (k:Int) < 0 then ((k:Int)+(n:Int)).toNat else min (k:Int).toNat n)=min k n
 rw[if_neg (by omega),Int.toNat_natCast]
theorem yrN (n d:Nat)(hd:d<=n)(o:Option Int):sIx n d o<=n:=by
 cases o with
 | none=>exact hd
 | some v =>
  show(if v < 0 then (v+(n:Int)).toNat else min v.toNat n)<=n
  by_cases hv:v < 0
  ·rw[if_pos hv];omega
  ·rw[if_neg hv];exact Nat.min_le_right _ _
theorem ylB (v:Int)(n d:Nat):(if v < 0 then max (v+(n:Int)) 0 else min v (n:Int))=((sIx n d (some v):Nat):Int):=by
 show(if v < 0 then max (v+(n:Int)) 0 else min v (n:Int))=(((if v < 0 then (v+(n:Int)).toNat else min v.toNat n):Nat):Int)
 by_cases hv:v < 0
 ·simp only[if_pos hv];omega
 ·simp only[if_neg hv];omega
theorem ykm (lo hi:Option Int)(n:Nat):Builtin.Slice.sliceAdjust lo hi 1 (n:Int)=(((sIx n 0 lo:Nat):Int),((sIx n n hi:Nat):Int)):=by
 have h1:¬ ((1:Int) < 0):=by omega
 unfold Builtin.Slice.sliceAdjust
 simp only[h1,if_false]
 refine Prod.ext ?_ ?_
 ·cases lo with
  | none=>rfl
  | some v=>exact ylB v n 0
 ·cases hi with
  | none=>rfl
  | some v=>exact ylB v n n
theorem ykp (i j:Nat):Builtin.Slice.slicePlaces (i:Int) (j:Int) 1=j - i:=by
 unfold Builtin.Slice.slicePlaces
 have h1:(1:Int) > 0:=by omega
 simp only[h1,if_true,Int.ediv_one]
 split<;>omega
theorem yfJ {v:Value}{o:Option Int}{Q:Option Int->Shared->Prop}(p:IsPart v o)(h:Q o s):wpAny (model prog w) A (Builtin.Slice.slicePartIndex v) Q E s:=by
 cases p with
 | none=>exact slicePart_none h
 | int i t=>exact slicePart_int h
theorem yet {sl:Addr}{vl vu:Value}{lo hi:Option Int}{n:Nat}{Q:Int×Int×Nat->Shared->Prop}(hs:s.heap.IsSliceOf sl vl vu .none)(pl:IsPart vl lo)(pu:IsPart vu hi)
  (h:Q (((sIx n 0 lo:Nat):Int),1,sIx n n hi - sIx n 0 lo) s):wpAny (model prog w) A (Builtin.Slice.sliceApplied (.ref sl) (pure (n:Int))) Q E s:=by
 obtain⟨os,hos,hcs,hds⟩:=id hs
 unfold Builtin.Slice.sliceApplied Builtin.Slice.sliceFields
 refine wpAny_bind (wpAny_bind (wpAny_field hos hds (x:=vl) rfl (wpAny_bind (wpAny_field hos hds (x:=vu) rfl (wpAny_bind (wpAny_field hos hds (x:=.none) rfl (wpAny_pure ?_)))))))
 refine wpAny_bind (slicePart_none ?_)
 show wpAny _ _ (if ((1:Int)==0)=true then _ else _) _ _ s
 rw[if_neg (by decide)]
 refine wpAny_bind (yfJ pl (wpAny_bind (yfJ pu (wpAny_bind (wpAny_pure ?_)))))
 show wpAny _ _ (match Builtin.Slice.sliceAdjust lo hi 1 (n:Int) with | (lo,hi)=>pure (lo,(1:Int),Builtin.Slice.slicePlaces lo hi 1)) _ _ s
 rw[ykm lo hi n]
 show wpAny _ _ (pure (((sIx n 0 lo:Nat):Int),(1:Int),Builtin.Slice.slicePlaces ((sIx n 0 lo:Nat):Int) ((sIx n n hi:Nat):Int) 1)) _ _ s
 rw[ykp]
 exact wpAny_pure h
theorem ynM (xs:Array Value)(i k:Nat):((List.range k).filterMap λ(m:Nat)=>xs[((i:Int)+(m:Int)*1).toNat]?).toArray=((xs.toList.drop i).take k).toArray:=by
 have e:(λ(m:Nat)=>xs[((i:Int)+(m:Int)*1).toNat]?)=λm=>xs[i+m]?:=by
  funext m
  have:((i:Int)+(m:Int)*1).toNat=i+m:=by omega
  rw[this]
 rw[e]
 have:=pick_run xs i k
 rw[List.filterMap_map] at this
 have e2:((λx=>xs[x]?) ∘ λx=>i+x)=λm=>xs[i+m]?:=rfl
 rw[e2] at this
 rw[this]
theorem getItem_tuple_cut {t sl:Addr}{items:Array Value}{vl vu:Value}{lo hi:Option Int}{Q:Value->Shared->Prop}(ht:IsTup s.heap t items)(hs:s.heap.IsSliceOf sl vl vu .none)(pl:IsPart vl lo)(pu:IsPart vu hi)
  (hw:¬ (sIx items.size 0 lo=0/\sIx items.size items.size hi=items.size))
  (h:Q (.ref s.heap.objs.size) { s with heap:=s.heap.push { cls:=.type "tuple",data:=.seq ((items.toList.drop (sIx items.size 0 lo)).take (sIx items.size items.size hi - sIx items.size 0 lo)).toArray } })
  (hsz:items.size<=sizeLine):wpAny (model prog w) A (getItem (.ref t) (.ref sl)) Q E s:=by
 have htake:sizeOk (.seq ((items.toList.drop (sIx items.size 0 lo)).take (sIx items.size items.size hi - sIx items.size 0 lo)).toArray):=by
  show((items.toList.drop (sIx items.size 0 lo)).take (sIx items.size items.size hi - sIx items.size 0 lo)).toArray.size<=sizeLine
  rw[List.size_toArray,List.length_take,List.length_drop,Array.length_toList]
  omega
 have hj:sIx items.size items.size hi<=items.size:=yrN _ _ (Nat.le_refl _) hi
 obtain⟨os,hos,hcs,hds⟩:=id hs
 have hTs:s.TypeIs (.ref sl) "slice":= ⟨os,hos,hcs⟩
 unfold getItem
 try with_reducible refine wpAny_holding ?_
 first | refine wpAny_bind (wpAny_pure ?_) | skip
 refine wpAny_bind (wpAny_sequenceKey ht.typeIs (by decide) ?_)
 refine wpAny_bind (wpAny_callSpecial?_slot (name:=Str.ofString "__getitem__") ht.typeIs PyProof.Rows.slot_tuple_getitem
  (wpAny_call_entry PyProof.Rows.slot_tuple_getitem ht.typeIs entry_tuple_getitem ?_ (args_tuple_getitem _ _)))
 show wpAny _ _ (Builtin.Tuple.tupleItemsOf (.ref t) >>= _) _ _ s
 refine wpAny_bind (tupleItemsOf_ ht ?_)
 refine wpAny_bind (wpAny_typeOf hTs ?_)
 rw[if_pos (by decide)]
 refine wpAny_bind (yet hs pl pu ?_)
 have hno:¬ ((((sIx items.size 0 lo:Nat):Int)==0&&(1:Int)==1&&(sIx items.size items.size hi - sIx items.size 0 lo)==items.size)=true):=by
  intro q
  rw[Bool.and_eq_true,Bool.and_eq_true] at q
  have q1:((sIx items.size 0 lo:Nat):Int)=0:=eq_of_beq q.1.1
  have q2:sIx items.size items.size hi - sIx items.size 0 lo=items.size:=eq_of_beq q.2
  exact hw ⟨by omega,by omega⟩
 show wpAny _ _ (if (((sIx items.size 0 lo:Nat):Int)==0&&(1:Int)==1&&(sIx items.size items.size hi - sIx items.size 0 lo)==items.size)=true then _ else _) _ _ s
 rw[if_neg hno,ynM]
 first
  | exact wpAny_bind (m:=Builtin.Tuple.tupleExact _) (wpAny_newObj_type (wpAny_pure ⟨_,rfl,wpAny_pure h⟩) htake)
  | exact wpAny_bind (m:=Builtin.Tuple.tupleExact _) (wpAny_newObj_type (wpAny_bind (wpAny_pure (wpAny_pure ⟨_,rfl,wpAny_pure h⟩))) htake)
  | exact wpAny_bind (wpAny_bind (m:=Builtin.Tuple.tupleExact _) (wpAny_newObj_type (wpAny_pure (wpAny_pure ⟨_,rfl,wpAny_pure h⟩)) htake))
  | exact wpAny_bind (wpAny_bind (m:=Builtin.Tuple.tupleExact _) (wpAny_newObj_type (wpAny_pure ⟨_,rfl,wpAny_pure h⟩) htake))
end
end HT
namespace L2
open PySem PySem.Spec PyProof.Rows
noncomputable abbrev TO:=St->Hp->(Option Int->Hp->Prop)->Prop
noncomputable def PO (X:Cx)(e:Option Expr)(t:TO):Prop :=
 ∀ (pins:List (Addr×Obj)) (s:Shared) (σ:St) (H:Hp) (Q:Option Int->Hp->Prop),Inv X pins σ H s->t σ H Q ->
  wpAny (model X.prog X.w) X.A (evalPart e X.env) (λu s'=>∃ o H',Inv X pins σ H' s'/\IsPart u o/\Q o H') X.xe s
noncomputable def yik:TO:=λ_ H Q=>Q none H
noncomputable def ypo (t:TE):TO:=fun σ H Q=>t σ H λx H1=>∃ i,x=.int i/\Q (some i) H1
section
variable {X:Cx} {e:Expr} {te:TE} {lo hi:Option Expr} {tl th:TO} {pos p2:Pos}
theorem ybX:PO X none yik:=by
 intro pins s σ H Q I h
 rw[evalPart_none]
 exact wpAny_pure ⟨none,H,I,.none,h⟩
theorem ybF (h:PE X e te):PO X (some e) (ypo te):=by
 intro pins s σ H Q I hw
 rw[evalPart_some]
 refine thn (h pins s σ H _ I hw) λu s1 ⟨x,H1,I1,r1,q1⟩=>?_
 obtain⟨i,rfl,q⟩:=q1
 obtain⟨t,rfl⟩:=r1
 exact⟨some i,H1,I1,.int i t,q⟩
noncomputable def SlR (X:Cx)(r:V->Option Int->Option Int->Hp->VK->Prop):Prop :=
 ∀ (pins:List (Addr×Obj)) (s:Shared) (σ:St) (H:Hp) (x:V) (v vl vu:Value) (lo hi:Option Int) (sl:Addr) (Q:VK),Inv X pins σ H s->RelV x v->s.heap.IsSliceOf sl vl vu .none->IsPart vl lo->IsPart vu hi->r x lo hi H Q ->
  ∃ T id,typeLookup (.type T) "__getitem__"=pure (some (.builtin id))/\s.TypeIs v T/\wpAny (model X.prog X.w) X.A (getItem v (.ref sl)) (EP X pins σ Q) X.xe s
noncomputable def tSl (r:V->Option Int->Option Int->Hp->VK->Prop)(te:TE)(tl th:TO):TE:=fun σ H Q=>te σ H λx H1=>tl σ H1 λl H2=>th σ H2 λu H3=>r x l u H3 Q
theorem ybr {r:V->Option Int->Option Int->Hp->VK->Prop}(hr:SlR X r)(he:PE X e te)(hl:PO X lo tl)(hu:PO X hi th):PE X (.Subscript e (.Slice lo hi none p2) pos) (tSl r te tl th):=by
 intro pins s σ H Q I h
 refine Subscript_ (thn (he pins s σ H _ I h) λv s1 ⟨x,H1,I1,r1,q1⟩=>?_)
 refine wpAny_Slice (thn (hl pins s1 σ H1 _ I1 q1) λvl s2 ⟨l,H2,I2,pl,q2⟩=>thn (hu pins s2 σ H2 _ I2 q2) λvu s3 ⟨u,H3,I3,pu,q3⟩=>?_)
 rw[evalPart_none]
 refine wpAny_pure ?_
 have I4:Inv X pins σ H3 { s3 with heap:=s3.heap.push { cls:=.type "slice",data:=.fields #[vl,vu,.none] } }:=I3.kept (t':=s3.toks) λb ob q=>Heap.get?_push_of_some _ q
 obtain⟨T,id,hT,ht,hg⟩:=hr pins { s3 with heap:=s3.heap.push { cls:=.type "slice",data:=.fields #[vl,vu,.none] } } σ H3 x v vl vu l u s3.heap.objs.size Q I4 r1 (Heap.IsSliceOf.new ..) pl pu q3
 show wpAny (model X.prog X.w) X.A (subscriptTail e (.Slice lo hi none p2) v (.ref s3.heap.objs.size)) (EP X pins σ Q) X.xe { s3 with heap:=s3.heap.push { cls:=.type "slice",data:=.fields #[vl,vu,.none] } }
 exact tail_any (ops:=[.ref s3.heap.objs.size,v]) ht hT hg (by with_unfolding_all rfl)
noncomputable def yes (xs:List V)(lo hi:Option Int):List V:=(xs.drop (HT.sIx xs.length 0 lo)).take (HT.sIx xs.length xs.length hi - HT.sIx xs.length 0 lo)
theorem yfd (xs:List V)(lo hi:Option Int):(yes xs lo hi).length<=xs.length:=by
 unfold yes
 rw[List.length_take,List.length_drop]
 omega
noncomputable def yu4 (K:PySem.W.Frag):V->Option Int->Option Int->Hp->VK->Prop:=λx lo hi H Q=>∃ a xs,x=.ref a/\SqT K H a xs /\
 ¬ (HT.sIx xs.length 0 lo=0/\HT.sIx xs.length xs.length hi=xs.length)/\∀ p,H p=none->Q (.ref p) (upd H p (.tup (yes xs lo hi)))
theorem ypW:SlR X (yu4 X.K):=by
 intro pins s σ H x v vl vu lo hi sl Q I rx hs pl pu h
 obtain⟨a,xs,rfl,hx,hw,q⟩:=h
 cases rx
 obtain⟨its,r,ht,hz⟩:=I.tuple hx
 have hlen:its.toArray.size=xs.length:=by rw[List.size_toArray];exact r.length.symm
 refine⟨"tuple",_,PyProof.Rows.slot_tuple_getitem.lookup,ht.typeIs,?_⟩
 refine HT.getItem_tuple_cut ht hs pl pu (by rw[hlen];exact hw) ?_ (by rw[hlen];exact hz)
 rw[hlen]
 refine⟨.ref s.heap.objs.size,_,I.laid (t':=s.toks) (o:=.tup (yes xs lo hi)) (λb ob q=>Heap.get?_push_of_some _ q) (Nat.le_refl _) ?_,rfl,q _ (I.hok.fresh (Nat.le_refl _))⟩
 exact⟨Nat.le_trans (yfd xs lo hi) hz,_,(r.drop (HT.sIx xs.length 0 lo)).take (HT.sIx xs.length xs.length hi - HT.sIx xs.length 0 lo),IsTup.new _ _⟩
end
noncomputable def ixN (n:Nat)(i:Int):Option Nat:=if 0<=i then (if i < n then some i.toNat else none) else if -(n:Int)<=i then some (i+n).toNat else none
noncomputable def atI {α:Type}(xs:List α)(i:Int):Option α:=(ixN xs.length i).bind λj=>xs[j]?
theorem ykL {n:Nat}{i:Int}{j:Nat}(h:ixN n i=some j):seqIndex? i n=some j/\j < n/\-(n:Int)<=i/\i < n:=by
 unfold ixN at h
 by_cases h0:0<=i
 ·rw[if_pos h0] at h
  by_cases h1:i < n
  ·rw[if_pos h1] at h
   have e:i.toNat=j:=Option.some.inj h
   exact⟨by rw[seqIndex_of h0 h1,e],by omega,by omega,h1⟩
  ·rw[if_neg h1] at h;cases h
 ·rw[if_neg h0] at h
  by_cases h1:-(n:Int)<=i
  ·rw[if_pos h1] at h
   have e:(i+n).toNat=j:=Option.some.inj h
   exact⟨by rw[seqIndex_neg (by omega) h1,e],by omega,h1,by omega⟩
  ·rw[if_neg h1] at h;cases h
theorem yiu {α:Type}{xs:List α}{i:Int}{v:α}(h:atI xs i=some v):∃ j,seqIndex? i xs.length=some j/\xs[j]?=some v/\j < xs.length/\-(xs.length:Int)<=i/\i < xs.length:=by
 unfold atI at h
 cases e:ixN xs.length i with
 | none=>rw[e] at h;cases h
 | some j =>
  rw[e] at h
  obtain⟨h1,h2,h3,h4⟩:=ykL e
  exact⟨j,h1,h,h2,h3,h4⟩
theorem yai {α:Type}{xs:List α}{j:Nat}{v:α}(h:xs[j]?=some v):atI xs (j:Int)=some v:=by
 have hj:j < xs.length:=(List.getElem?_eq_some_iff.mp h).1
 have e:ixN xs.length (j:Int)=some j:=by
  unfold ixN
  rw[if_pos (by omega),if_pos (by omega)];simp
 unfold atI;rw[e];exact h
theorem ybY {α:Type}(xs:List α)(v:α):atI (xs++[v]) (-1)=some v:=by
 have hl:(xs++[v]).length=xs.length+1:=by simp
 have e:ixN (xs++[v]).length (-1)=some xs.length:=by
  unfold ixN
  rw[hl,if_neg (by decide),if_pos (by omega)]
  congr 1
  omega
 unfold atI
 rw[e]
 show(xs++[v])[xs.length]?=some v
 simp
noncomputable def yoR (b:Expr):Prop:=∀ o i,subscripted b false o i=operate [o,i] (getItem o i)
noncomputable def IxR (X:Cx)(r:R2):Prop :=
 ∀ (value slice:Expr) (pins:List (Addr×Obj)) (s:Shared) (σ:St) (H:Hp) (x y:V) (v u:Value) (Q:VK),Inv X pins σ H s->RelV x v->RelV y u->r x y H Q ->
  subscripted slice false v u=operate [v,u] (getItem v u)->wpAny (model X.prog X.w) X.A (subscriptTail value slice v u) (EP X pins σ Q) X.xe s
noncomputable def MtR (X:Cx)(id:String)(r:V->List V->Hp->VK->Prop):Prop :=
 ∀ (pins:List (Addr×Obj)) (s:Shared) (σ:St) (H:Hp) (x:V) (xs:List V) (v:Value) (us:List Value) (Q:VK),Inv X pins σ H s->RelV x v->Vals xs us->r x xs H Q ->
  wpAny (model X.prog X.w) X.A (call (.builtin id) (v :: us)) (EP X pins σ Q) X.xe s
section
variable {X:Cx} {a b:Expr} {ta tb:TE} {pos:Pos}
theorem yaq {r:R2}(hr:IxR X r)(ha:PE X a ta)(hb:PE X b tb)(hs:yoR b):PE X (.Subscript a b pos) (tOp r ta tb):=by
 intro pins s σ H Q I h
 exact Subscript_ (ytZ ha hb I h λv u s2 x y H2 I2 rx ry q=>hr a b pins s2 σ H2 x y v u Q I2 rx ry q (hs _ _))
noncomputable def ytO (K:PySem.W.Frag):R2:=λx y H Q=>∃ p xs i v,x=.ref p/\y=.int i/\SqL K H p xs/\atI xs i=some v/\Q v H
noncomputable def yjk (K:PySem.W.Frag):R2:=λx y H Q=>∃ p xs i v,x=.ref p/\y=.int i/\SqT K H p xs/\atI xs i=some v/\Q v H
noncomputable def yut:R2:=λx y H Q=>∃ z i c,x=.str z/\y=.int i/\z.length<=sizeLine/\atI z.cps.toList i=some c/\Q (.str ⟨#[c]⟩) H
theorem yaD:IxR X (ytO X.K):=by
 intro value slice pins s σ H x y v u Q I rx ry h hs
 obtain⟨p,xs,i,z,rfl,rfl,hq,he,q⟩:=h
 cases rx
 obtain⟨t,rfl⟩:=ry
 obtain⟨its,r,pl,hz⟩:=I.list hq
 obtain⟨j,h1,h2,h3,h4,h5⟩:=yiu he
 obtain⟨w,ew,rw'⟩:=r.get h2
 have hl:=r.length
 have hn:=yfy
 have fin:EP X pins σ Q w s:=⟨z,H,I,rw',q⟩
 by_cases h0:0<=i
 ·have hj:i.toNat=j:=by
   rw[seqIndex_of h0 h5] at h1
   exact Option.some.inj h1
  exact item_listR pl.isList h0 (by omega) (by rw[hj];simpa using ew) fin hs
 ·have hj:(i+(its.toArray.size:Int)).toNat=j:=by
   rw[seqIndex_neg (by omega) h4] at h1
   rw[List.size_toArray,← hl]
   exact Option.some.inj h1
  exact subscriptTail_builtinR (x:=w) pl.isList.typeIs slot_list_getitem.lookup
   (wpAny_getItem_list_neg (Q:=λr s'=>r=w/\EP X pins σ Q r s') pl.isList (by omega) (by rw[List.size_toArray]<;>omega) (by omega) (by rw[hj];simpa using ew) ⟨rfl,fin⟩) hs
theorem yar:IxR X (yjk X.K):=by
 intro value slice pins s σ H x y v u Q I rx ry h hs
 obtain⟨p,xs,i,z,rfl,rfl,hq,he,q⟩:=h
 cases rx
 obtain⟨t,rfl⟩:=ry
 obtain⟨its,r,pl,hz⟩:=I.tuple hq
 obtain⟨j,h1,h2,h3,h4,h5⟩:=yiu he
 obtain⟨w,ew,rw'⟩:=r.get h2
 have hl:=r.length
 have hn:=yfy
 have fin:EP X pins σ Q w s:=⟨z,H,I,rw',q⟩
 exact subscriptTail_builtinR (x:=w) pl.typeIs slot_tuple_getitem.lookup
  (getItem_tuple (j:=j) (Q:=λr s'=>r=w/\EP X pins σ Q r s') pl (by omega) (by omega) (by rw[List.size_toArray,← hl];exact h1) (by simpa using ew) ⟨rfl,fin⟩) hs
theorem ygG:IxR X yut:=by
 intro value slice pins s σ H x y v u Q I rx ry h hs
 obtain⟨z,i,c,rfl,rfl,hz,he,q⟩:=h
 obtain⟨t,rfl⟩:=rx
 obtain⟨t',rfl⟩:=ry
 obtain⟨j,h1,h2,h3,h4,h5⟩:=yiu he
 have hl:z.cps.toList.length=z.length:=by simp[Str.length]
 rw[hl] at h1 h4 h5
 have hn:=yfy
 exact tail_any (typeIs_str s z t) slot_str_getitem.lookup (getItem_str (c:=c) (by
  have e1:decide (i < -(2 ^ 63:Int))=false:=decide_eq_false (by omega)
  have e2:decide (i≥2 ^ 63)=false:=decide_eq_false (by omega)
  rw[e1,e2,Bool.or_false]) (by rw[h1];simpa using h2) ⟨.str ⟨#[c]⟩,H,I.tok _,⟨_,rfl⟩,q⟩) hs
theorem yj2 (its:List Value)(n j:Nat)(u:Value):Obj.mapSeq (·.setIfInBounds j u) { cls:=.type "list",data:=.seq its.toArray n }={ cls:=.type "list",data:=.seq (its.set j u).toArray n }:=by
 simp[Obj.mapSeq]
theorem Inv.lst {pins:List (Addr×Obj)}{σ:St}{H:Hp}{s:Shared}{p:Addr}{xs:List V}(I:Inv X pins σ H s)(h:H p=some (.lst xs)) :
  ∃ (its:List Value) (n:Nat),Vals xs its/\s.heap.get? p=some { cls:=.type "list",data:=.seq its.toArray n }/\xs.length<=sizeLine:=by
 obtain⟨z,its,n,r,e⟩:=I.hok p _ h
 exact⟨its,n,r,e,z⟩
theorem Inv.lstUpd {pins:List (Addr×Obj)}{σ:St}{H:Hp}{s:Shared}{p:Addr}{xs ys:List V}{its its':List Value}{n n':Nat}{f:Obj->Obj}(I:Inv X pins σ H s)(h:H p=some (.lst xs))
  (ho:s.heap.get? p=some { cls:=.type "list",data:=.seq its.toArray n }) (hf:f { cls:=.type "list",data:=.seq its.toArray n }={ cls:=.type "list",data:=.seq its'.toArray n' }) (r:Vals ys its') (hz:ys.length<=sizeLine) (t:Nat) :
  Inv X pins σ (upd H p (.lst ys)) { s with heap:=s.heap.update p f,toks:=t }:=by
 have e:(s.heap.update p f).get? p=some { cls:=.type "list",data:=.seq its'.toArray n' }:=by
  rw[Heap.get?_update_self f ho (by rw[hf]<;>rfl),hf]
 refine I.write (x:=p) (e:=p) (by rw[h];trivial) (.inl rfl) (λb u hb q=>(Heap.get?_update_other _ _ (Ne.symm hb)).trans q) ⟨_,e⟩ ?_
 exact⟨hz,its',n',r,e⟩
noncomputable def yrW:V->V->V->Hp->(Hp->Prop)->Prop:=λo i v H Q=>∃ p xs k j,o=.ref p/\i=.int k/\H p=some (.lst xs)/\ixN xs.length k=some j/\Q (upd H p (.lst (xs.set j v)))
theorem yjV:yuy X yrW:=by
 intro pins s σ H o i v ov iv u Q I ro ri rv h
 obtain⟨p,xs,k,j,rfl,rfl,hp,hj,q⟩:=h
 cases ro
 obtain⟨t,rfl⟩:=ri
 obtain⟨its,n,r,ho,hz⟩:=I.lst hp
 obtain⟨h1,h2,h3,h4⟩:=ykL hj
 have hl:=r.length
 have hn:=yfy
 have I':Inv X pins σ (upd H p (.lst (xs.set j v))) { s with heap:=s.heap.update p (Obj.mapSeq (·.setIfInBounds j u)) } :=
  I.lstUpd hp ho (yj2 its n j u) (r.set rv j) (by rw[List.length_set];exact hz) s.toks
 by_cases h0:0<=k
 ·have hk:k.toNat=j:=by
   rw[seqIndex_of h0 h4] at h1
   exact Option.some.inj h1
  exact PySem.W.ki_setAt ho h0 (by omega) (by rw[List.size_toArray,← hl];exact h4) (by rw[hk];exact⟨_,I',q⟩)
 ·have hk:(k+(its.toArray.size:Int)).toNat=j:=by
   rw[seqIndex_neg (by omega) h3] at h1
   rw[List.size_toArray,← hl]
   exact Option.some.inj h1
  exact PySem.W.ki_setBack ho (by omega) (by rw[List.size_toArray,← hl];exact h3) (by omega) (by rw[hk];exact⟨_,I',q⟩)
theorem yh0 (lo hi:Option Int)(n:Nat):(sliceBounds lo hi none n).1=((HT.sIx n 0 lo:Nat):Int)/\(sliceBounds lo hi none n).2.1=((HT.sIx n n hi:Nat):Int)/\(sliceBounds lo hi none n).2.2=1:=by
 refine⟨?_,?_,rfl⟩
 ·cases lo with
  | none=>simp[sliceBounds,HT.sIx]
  | some i =>
   simp only[sliceBounds,HT.sIx,Option.getD_none,show(1:Int) > 0 by decide,if_true]
   by_cases h:i < 0
   ·simp only[h,if_true]<;>omega
   ·simp only[h,if_false]<;>omega
 ·cases hi with
  | none=>simp[sliceBounds,HT.sIx]
  | some i =>
   simp only[sliceBounds,HT.sIx,Option.getD_none,show(1:Int) > 0 by decide,if_true]
   by_cases h:i < 0
   ·simp only[h,if_true]<;>omega
   ·simp only[h,if_false]<;>omega
theorem yga (its:List Value)(lo hi:Option Int):slicePick its.toArray lo hi none=((its.drop (HT.sIx its.length 0 lo)).take (HT.sIx its.length its.length hi - HT.sIx its.length 0 lo)).toArray:=by
 obtain⟨h1,h2,h3⟩:=yh0 lo hi its.toArray.size
 unfold slicePick
 rw[h1,h2,h3]
 simp only[sliceRange_one,pick_run,List.size_toArray]<;>rfl
noncomputable def yui (K:PySem.W.Frag):V->Option Int->Option Int->Hp->VK->Prop:=λx lo hi H Q=>∃ a xs,x=.ref a/\SqL K H a xs/\∀ p,H p=none->Q (.ref p) (upd H p (.lst (yes xs lo hi)))
theorem ycf:SlR X (yui X.K):=by
 intro pins s σ H x v vl vu lo hi sl Q I rx hs pl pu h
 obtain⟨a,xs,rfl,hx,q⟩:=h
 cases rx
 obtain⟨its,r,ht,hz⟩:=I.list hx
 have hlen:=r.length
 refine⟨"list",_,slot_list_getitem.lookup,ht.isList.typeIs,?_⟩
 refine wpAny_getItem_list_slice ht.isList hs pl pu .none (by simp) ?_ (by rw[List.size_toArray]<;>omega)
 rw[yga,← hlen]
 refine⟨.ref s.heap.objs.size,_,I.laid (t':=s.toks) (o:=.lst (yes xs lo hi)) (λb ob q=>Heap.get?_push_of_some _ q) (Nat.le_refl _) ?_,rfl,q _ (I.hok.fresh (Nat.le_refl _))⟩
 exact⟨Nat.le_trans (yfd xs lo hi) hz,_,0,(r.drop (HT.sIx xs.length 0 lo)).take (HT.sIx xs.length xs.length hi - HT.sIx xs.length 0 lo),Heap.get?_push_size _ rfl⟩
noncomputable def ycA:V->Bool
 | .non=>true
 | .bl _=>true
 | .int _=>true
 | .str _=>true
 | _=>false
noncomputable def eqV:V->V->Bool
 | .non,.non=>true
 | .bl a,.bl b=>a==b
 | .bl a,.int b=>(if a then 1 else 0)==b
 | .int a,.bl b=>a==(if b then 1 else 0)
 | .int a,.int b=>a==b
 | .str a,.str b=>a==b
 | _,_=>false
theorem ykU {A:Around}{s:Shared}{y x:V}{u v:Value}(ry:RelV y u)(rx:RelV x v)(fy:ycA y=true)(fx:ycA x=true):SeqAt.EqAt A s u v (eqV y x):=by
 cases y with
 | non =>
  cases ry
  cases x with
  | non=>cases rx;exact SeqAt.EqAt.same _
  | bl b=>cases rx;exact SeqAt.EqAt.none_bool b
  | int b=>obtain⟨t,rfl⟩:=rx;exact SeqAt.EqAt.none_int b t
  | str b=>obtain⟨t,rfl⟩:=rx;exact SeqAt.EqAt.none_str b t
  | _=>exact absurd (show false=true from fx) Bool.false_ne_true
 | bl a =>
  cases ry
  cases x with
  | non=>cases rx;exact SeqAt.EqAt.bool_none a
  | bl b=>cases rx;exact SeqAt.EqAt.bool_bool a b
  | int b=>obtain⟨t,rfl⟩:=rx;exact SeqAt.EqAt.bool_int a b t
  | str b=>obtain⟨t,rfl⟩:=rx;exact SeqAt.EqAt.bool_str a b t
  | _=>exact absurd (show false=true from fx) Bool.false_ne_true
 | int a =>
  obtain⟨t',rfl⟩:=ry
  cases x with
  | non=>cases rx;exact SeqAt.EqAt.int_none a t'
  | bl b=>cases rx;exact SeqAt.EqAt.int_bool a t' b
  | int b=>obtain⟨t,rfl⟩:=rx;exact SeqAt.EqAt.int_int a t' b t
  | str b=>obtain⟨t,rfl⟩:=rx;exact SeqAt.EqAt.int_str a t' b t
  | _=>exact absurd (show false=true from fx) Bool.false_ne_true
 | str a =>
  obtain⟨t',rfl⟩:=ry
  cases x with
  | non=>cases rx;exact SeqAt.EqAt.str_none a t'
  | bl b=>cases rx;exact SeqAt.EqAt.str_bool a t' b
  | int b=>obtain⟨t,rfl⟩:=rx;exact SeqAt.EqAt.str_int a t' b t
  | str b=>obtain⟨t,rfl⟩:=rx;exact SeqAt.EqAt.str_str a t' b t
  | _=>exact absurd (show false=true from fx) Bool.false_ne_true
 | _=>exact absurd (show false=true from fy) Bool.false_ne_true
noncomputable def eqU (x:V)(u:Value):Bool:=match u with
 | .none=>eqV .non x
 | .bool b=>eqV (.bl b) x
 | .int i _=>eqV (.int i) x
 | .str z _=>eqV (.str z) x
 | _=>false
theorem yg7 {x y:V}{u:Value}(r:RelV y u)(f:ycA y=true):eqU x u=eqV y x:=by
 cases y with
 | non=>cases r;rfl
 | bl b=>cases r;rfl
 | int i=>obtain⟨t,rfl⟩:=r;rfl
 | str z=>obtain⟨t,rfl⟩:=r;rfl
 | _=>exact absurd (show false=true from f) Bool.false_ne_true
theorem yeV {x:V}:∀ {xs:List V} {us:List Value},Vals xs us->xs.all ycA=true->us.any (eqU x)=xs.any λy=>eqV y x
 | _,_,.nil,_=>rfl
 | y :: xs,u :: us,.cons r t,f=>by
  rw[List.all_cons,Bool.and_eq_true] at f
  rw[List.any_cons,List.any_cons,yg7 r f.1,yeV t f.2]
theorem yd7 {A:Around}{s:Shared}{x:V}{v:Value}(rx:RelV x v)(fx:ycA x=true):∀ {xs:List V} {us:List Value},Vals xs us->xs.all ycA=true->∀ u∈us,SeqAt.EqAt A s u v (eqU x u)
 | _,_,.nil,_=>λu hu=>by cases hu
 | y :: xs,u :: us,.cons r t,f=>λu' hu=>by
  rw[List.all_cons,Bool.and_eq_true] at f
  rcases List.mem_cons.mp hu with rfl | hu
  ·rw[yg7 r f.1];exact ykU r rx f.1 fx
  ·exact yd7 rx fx t f.2 u' hu
noncomputable def inV (x:V)(xs:List V):Bool:=xs.any λy=>eqV y x
noncomputable def rIn (K:PySem.W.Frag)(neg:Bool):R2:=λx y H Q=>∃ p xs,y=.ref p/\(SqL K H p xs∨SqT K H p xs)/\ycA x=true/\xs.all ycA=true/\Q (.bl (if neg then !inV x xs else inV x xs)) H
theorem ygM:OpR X (compareOp .In) (rIn X.K false):=by
 intro pins s σ H x y v u Q I rx ry h
 obtain⟨p,xs,rfl,hq,fx,fs,q⟩:=h
 cases ry
 rcases hq with hq | hq
 ·obtain⟨its,r,pl,hz⟩:=I.list hq
  refine SeqAt.in_listAt (eqU x) pl.isList (λw hw=>yd7 rx fx r fs w (by simpa using hw)) ⟨.bl _,H,I,rfl,?_⟩
  rw[show its.toArray.any (eqU x)=its.any (eqU x) by simp,yeV r fs]
  exact q
 ·obtain⟨its,r,pl,hz⟩:=I.tuple hq
  refine SeqAt.in_tupleAt (eqU x) pl (λw hw=>yd7 rx fx r fs w (by simpa using hw)) ⟨.bl _,H,I,rfl,?_⟩
  rw[show its.toArray.any (eqU x)=its.any (eqU x) by simp,yeV r fs]
  exact q
theorem ydl:OpR X (compareOp .NotIn) (rIn X.K true):=by
 intro pins s σ H x y v u Q I rx ry h
 obtain⟨p,xs,rfl,hq,fx,fs,q⟩:=h
 cases ry
 rcases hq with hq | hq
 ·obtain⟨its,r,pl,hz⟩:=I.list hq
  refine SeqAt.notIn_listAt (eqU x) pl.isList (λw hw=>yd7 rx fx r fs w (by simpa using hw)) ⟨.bl _,H,I,rfl,?_⟩
  rw[show its.toArray.any (eqU x)=its.any (eqU x) by simp,yeV r fs]
  exact q
 ·obtain⟨its,r,pl,hz⟩:=I.tuple hq
  refine SeqAt.notIn_tupleAt (eqU x) pl (λw hw=>yd7 rx fx r fs w (by simpa using hw)) ⟨.bl _,H,I,rfl,?_⟩
  rw[show its.toArray.any (eqU x)=its.any (eqU x) by simp,yeV r fs]
  exact q
theorem yas:ycC X (.builtin "len") (λxs H Q=>∃ p ys,xs=[.ref p]/\(SqL X.K H p ys∨SqT X.K H p ys)/\Q (.int ys.length) H):=by
 intro pins s σ H xs us Q I r h
 obtain⟨p,ys,rfl,hq,q⟩:=h
 obtain⟨u,rfl,rx⟩:=yed r
 cases rx
 have hn:=yfy
 rcases hq with hq | hq
 ·obtain⟨its,r',pl,hz⟩:=I.list hq
  have hlen:=r'.length
  exact Calls.call_len_list pl.isList (by simp only[List.size_toArray]<;>omega) ⟨.int ys.length,H,I.tok _,⟨s.toks+1,by rw[List.size_toArray,hlen]⟩,q⟩
 ·obtain⟨its,r',pl,hz⟩:=I.tuple hq
  have hlen:=r'.length
  exact len_tuple pl (by simp only[List.size_toArray]<;>omega) ⟨.int ys.length,H,I.tok _,⟨s.toks+1,by rw[List.size_toArray,hlen]⟩,q⟩
theorem ydb:ycC X (.builtin "len") (λxs H Q=>∃ z,xs=[.str z]/\z.length<=sizeLine/\Q (.int z.length) H):=by
 intro pins s σ H xs us Q I r h
 obtain⟨z,rfl,hz,q⟩:=h
 obtain⟨u,rfl,t,rfl⟩:=yed r
 have hn:=yfy
 exact len_str (by omega) ⟨.int z.length,H,I.tok _,⟨_,rfl⟩,q⟩
theorem ybR:ycC X (.type "list") (λxs H Q=>∃ p ys,xs=[.ref p]/\(SqL X.K H p ys∨SqT X.K H p ys)/\∀ l,H l=none->Q (.ref l) (upd H l (.lst ys))):=by
 intro pins s σ H xs us Q I r h
 obtain⟨p,ys,rfl,hq,q⟩:=h
 obtain⟨u,rfl,rx⟩:=yed r
 cases rx
 have fin:∀ (its:List Value),Vals ys its->ys.length<=sizeLine->∀ (h':Heap) (c':Nat),(∀ b o',s.heap.get? b=some o'->h'.get? b=some o') ->
   h'.get? s.heap.objs.size=some { cls:=.type "list",dict:=none,data:=.seq its.toArray c',slots:=#[] }->EP X pins σ Q (.ref s.heap.objs.size) { s with heap:=h' }:=λits r' hz h' c' kp e =>
  ⟨.ref s.heap.objs.size,_,I.laid (t':=s.toks) kp (Nat.le_refl _) (show ObjOk X.prog X.w _ h' _ (.lst ys) from ⟨hz,its,c',r',e⟩),rfl,q _ (I.hok.fresh (Nat.le_refl _))⟩
 rcases hq with hq | hq
 ·obtain⟨its,r',pl,hz⟩:=I.list hq
  have hlen:=r'.length
  obtain⟨o,ho,hc,n,hd⟩:=pl.isList
  exact call_list_seq p (.inl rfl) ho hc hd (λh' c' kp e=>fin its r' hz h' c' kp e) (by simp only[List.size_toArray]<;>omega)
 ·obtain⟨its,r',pl,hz⟩:=I.tuple hq
  have hlen:=r'.length
  obtain⟨o,ho,hc,n,hd⟩:=pl
  exact call_list_seq p (.inr rfl) ho hc hd (λh' c' kp e=>fin its r' hz h' c' kp e) (by simp only[List.size_toArray]<;>omega)
theorem yf6:ycC X (.type "tuple") (λxs H Q=>∃ p ys,xs=[.ref p]/\((SqL X.K H p ys/\∀ l,H l=none->Q (.ref l) (upd H l (.tup ys)))∨(SqT X.K H p ys/\Q (.ref p) H))):=by
 intro pins s σ H xs us Q I r h
 obtain⟨p,ys,rfl,h⟩:=h
 obtain⟨u,rfl,rx⟩:=yed r
 cases rx
 rcases h with ⟨hq,q⟩ | ⟨hq,q⟩
 ·obtain⟨its,r',pl,hz⟩:=I.list hq
  have hlen:=r'.length
  refine call_tuple_list pl.isList (λh' kp=>?_) (by simp only[List.size_toArray]<;>omega)
  have I1:Inv X pins σ H { s with heap:=h' }:=I.kept (t':=s.toks) kp
  have I2:Inv X pins σ (upd H h'.objs.size (.tup ys)) { s with heap:=h'.push { cls:=.type "tuple",data:=.seq its.toArray } } :=
   I1.laid (t':=s.toks) (λb o e=>Heap.get?_push_of_some _ e) (Nat.le_refl _) (show ObjOk X.prog X.w _ _ _ (.tup ys) from ⟨hz,its,r',IsTup.new _ _⟩)
  exact⟨.ref h'.objs.size,_,I2,rfl,q _ (I1.hok.fresh (Nat.le_refl _))⟩
 ·obtain⟨its,r',pl,hz⟩:=I.tuple hq
  exact call_tuple_same pl ⟨.ref p,H,I,rfl,q⟩
noncomputable def tyV (K:PySem.W.Frag)(T:String)(x:V)(H:Hp):Prop:=match x with
 | .str _=>T="str"
 | .int _=>T="int"
 | .ref p=>(T="list" /\ ∃ xs,SqL K H p xs)∨(T="tuple" /\ ∃ o,K.lookup p=some o/\o.cls=.type "tuple" /\ o.dict=none) ∨
   (T="dict" /\ ((∃ kvs,H p=some (.dK kvs))∨∃ kvs,H p=some (.dT kvs)))∨(T="set" /\ ∃ S n,H p=some (.set S n))
 | _=>False
theorem yoo {pins:List (Addr×Obj)}{σ:St}{H:Hp}{s:Shared}{T:String}{x:V}{v:Value}(I:Inv X pins σ H s)(r:RelV x v)(ty:tyV X.K T x H) :
  s.TypeIs v T/\∀ a,v=.ref a->∃ ob,s.heap.get? a=some ob/\ob.dict=none:=by
 cases x with
 | str z =>
  obtain⟨t,rfl⟩:=r
  cases (show T="str" from ty)
  exact⟨typeIs_str s z t,λ_ e=>nomatch e⟩
 | int i =>
  obtain⟨t,rfl⟩:=r
  cases (show T="int" from ty)
  exact⟨typeIs_int s i t,λ_ e=>nomatch e⟩
 | ref p =>
  cases r
  rcases ty with ⟨rfl,xs,hq⟩ | ⟨rfl,o,hk,hc,hd⟩ | ⟨rfl,hk⟩ | ⟨rfl,S,n,hk⟩
  ·obtain⟨its,_,pl,_⟩:=I.list hq
   refine⟨pl.isList.typeIs,λa e=>?_⟩
   cases e
   obtain⟨o,n,e,c,hd,_⟩:=pl
   exact⟨o,e,hd⟩
  ·refine⟨⟨o,I.kIn p o hk,hc⟩,λa e=>?_⟩
   cases e
   exact⟨o,I.kIn _ o hk,hd⟩
  ·have z:∃ o,s.heap.get? p=some o/\o.ExactDict:=by
    rcases hk with ⟨kvs,hk⟩ | ⟨kvs,hk⟩
    ·obtain⟨_,_,_,_,o,_,_,e,ex,_⟩:=I.hok p _ hk
     exact⟨o,e,ex⟩
    ·obtain⟨_,_,_,_,o,_,_,e,ex,_⟩:=I.hok p _ hk
     exact⟨o,e,ex⟩
   obtain⟨o,e,ex⟩:=z
   refine⟨⟨o,e,ex.1⟩,λa e2=>?_⟩
   cases e2
   exact⟨o,e,ex.2.1⟩
  ·obtain⟨o,_,_,_,e,ex,_⟩:=I.hok p _ hk
   refine⟨⟨o,e,ex.1⟩,λa e2=>?_⟩
   cases e2
   exact⟨o,e,ex.2.1⟩
 | _=>exact False.elim ty
noncomputable def ysP (K:PySem.W.Frag)(T:String)(r:V->List V->Hp->VK->Prop)(to:TE):TE:=fun σ H Q=>to σ H λx H1=>tyV K T x H1/\r x [] H1 Q
noncomputable def tBM (K:PySem.W.Frag)(T:String)(r:V->List V->Hp->VK->Prop)(to:TE)(t:TA):TE:=fun σ H Q=>to σ H λx H1=>tyV K T x H1/\t σ H1 λxs H2=>r x xs H2 Q
variable {o e:Expr} {es:List Expr} {to:TE} {t:TA} {name:Str} {apos cpos:Pos} {T id:String} {r:V->List V->Hp->VK->Prop}
theorem yol (pa:PlainAttrs T)(slot:Slot T name id)(hty:typeOf (.builtin id)=pure (.type "method_descriptor"))(hm:MtR X id r)(ho:PE X o to)
  (hbase:attributeBase o name X.env (eval o X.env)=eval o X.env:=by rfl) (hline:(apos.endLine==cpos.line)=true:=by rfl):PE X (.Call (.Attribute o name apos) [] [] cpos) (ysP X.K T r to):=by
 intro pins s σ H Q I h
 refine wpAny_Call_method0_late hbase hline (thn (ho pins s σ H _ I h) λv s1 ⟨x,H1,I1,r1,ty,q1⟩=>?_)
 obtain⟨h1,h2⟩:=yoo I1 r1 ty
 exact⟨T,id,pa,slot,hty,h1,h2,Calls.callWith_builtin rfl (PySem.evalArgs_none (hm pins s1 σ H1 x [] v [] Q I1 r1 .nil q1))⟩
theorem ybe (pa:PlainAttrs T)(slot:Slot T name id)(hty:typeOf (.builtin id)=pure (.type "method_descriptor"))(hm:MtR X id r)(ho:PE X o to)(ha:PA X (e :: es) t)
  (hbase:attributeBase o name X.env (eval o X.env)=eval o X.env:=by rfl)
  (hfew:((backTo cpos (starEach (e :: es) X.env)).all (λx=>!x.1)&&(backToKw cpos (keywordEach [] X.env)).all (λx=>x.1.isSome)
   && decide ((e :: es).length+([]:List Keyword).length+(if ([]:List Keyword).isEmpty then 0 else 1) < 30))=true:=by rfl)
  (hline:(apos.endLine==cpos.line)=true:=by rfl) (hs:starEach (e :: es) X.env=(false,eval e X.env) :: starEach es X.env:=by rfl) (hplain:(backTo cpos (starEach es X.env)).any (·.1)=false:=by rfl) :
  PE X (.Call (.Attribute o name apos) (e :: es) [] cpos) (tBM X.K T r to t):=by
 intro pins s σ H Q I h
 refine wpAny_Call_method_late hbase hfew hline rfl (thn (ho pins s σ H _ I h) λv s1 ⟨x,H1,I1,r1,ty,q1⟩=>?_)
 obtain⟨h1,h2⟩:=yoo I1 r1 ty
 refine⟨T,id,pa,slot,hty,h1,h2,?_⟩
 have hA:=ha cpos pins s1 σ H1 _ I1 q1
 rw[hs] at hA ⊢
 refine Calls.callWith_builtin (by show(false||(backTo cpos (starEach es X.env)).any (·.1))=false;rw[hplain]<;>rfl) (Calls.evalArgs_plain ?_)
 exact thn hA λus s2 ⟨vs,H2,I2,r2,q2⟩=>hm pins s2 σ H2 x vs v us Q I2 r1 r2 q2
end
noncomputable def MtM (X:Cx)(id:String)(r:V->List V->Hp->VK->Prop):Prop :=
 ∀ (pins:List (Addr×Obj)) (s:Shared) (σ:St) (H:Hp) (x:V) (xs:List V) (v:Value) (us:List Value) (Q:VK),Inv X pins σ H s->RelV x v->Vals xs us->r x xs H Q ->
  wpAny (model X.prog X.w) X.A (call (.builtin id) (v :: us)) (EP X pins σ Q) X.xe s
theorem Vals.one:∀ {x:V} {us:List Value},Vals [x] us->∃ u,us=[u]/\RelV x u
 | _,_,.cons r .nil=>⟨_,rfl,r⟩
theorem Vals.zero:∀ {us:List Value},Vals [] us->us=[]
 | _,.nil=>rfl
theorem Vals.dropLast {xs:List V}{us:List Value}(h:Vals xs us):Vals xs.dropLast us.dropLast:=by
 induction h with
 | nil=>exact .nil
 | cons r t ih =>
  cases t with
  | nil=>exact .nil
  | cons q t'=>exact .cons r ih
theorem ykd {α:Type}(l:List α):l.eraseIdx (l.length - 1)=l.dropLast:=by
 induction l with
 | nil=>rfl
 | cons a r ih =>
  cases r with
  | nil=>rfl
  | cons b r =>
   have e:(a :: b :: r).length - 1=((b :: r).length - 1)+1:=by
    have h1:(a :: b :: r).length=r.length+2:=rfl
    have h2:(b :: r).length=r.length+1:=rfl
    omega
   rw[e,List.eraseIdx_cons_succ,ih]
   all_goals rfl
section
variable {X:Cx} {pins:List (Addr×Obj)} {σ:St} {H:Hp} {s:Shared} {l b:Addr} {xs ys zs:List V}
theorem Inv.lset {its its':List Value}{n:Nat}{f:Array Value->Array Value}{t':Nat}(I:Inv X pins σ H s)(hH:H l=some (.lst xs))
  (e:s.heap.get? l=some { cls:=.type "list",data:=.seq its.toArray n }) (hf:f its.toArray=its'.toArray) (hv:Vals ys its') (hz:ys.length<=sizeLine) :
  Inv X pins σ (upd H l (.lst ys)) { s with heap:=s.heap.update l (Obj.mapSeq f),toks:=t' }:=by
 have q:=PySem.IsL.update e f
 rw[hf] at q
 refine I.write (x:=l) (e:=l) (by rw[hH];exact trivial) (.inl rfl) (λb' u hb hu=>(Heap.get?_update_other s.heap (Obj.mapSeq f) (Ne.symm hb)).trans hu) ⟨_,q⟩ ?_
 exact⟨hz,its',_,hv,q⟩
theorem Inv.lnew {its:List Value}{t':Nat}(I:Inv X pins σ H s)(hv:Vals ys its)(hz:ys.length<=sizeLine) :
  Inv X pins σ (upd H s.heap.objs.size (.lst ys)) { s with heap:=s.heap.push { cls:=.type "list",data:=.seq its.toArray },toks:=t' } :=
 I.laid (λ_ _ q=>Heap.get?_push_of_some _ q) (Nat.le_refl _) ⟨hz,its,0,hv,Heap.get?_push_size _ rfl⟩
theorem Inv.fresh (I:Inv X pins σ H s):H s.heap.objs.size=none:=I.hok.fresh (Nat.le_refl _)
theorem Inv.lstM (I:Inv X pins σ H s)(hH:H l=some (.lst xs)):xs.length<=sizeLine/\∃ (its:List Value) (n:Nat),Vals xs its/\xs.length=its.length/\s.heap.get? l=some { cls:=.type "list",data:=.seq its.toArray n }:=by
 obtain⟨z,its,n,r,e⟩:=I.hok l _ hH
 exact⟨z,its,n,r,r.length,e⟩
theorem ynE {n:Nat}(h:n<=sizeLine):Builtin.List.listTooLong n=false:=by
 unfold Builtin.List.listTooLong
 exact decide_eq_false (by omega)
end
section
variable {X:Cx}
noncomputable def ygi:V->List V->Hp->VK->Prop:=λx vs H Q=>∃ l xs y,x=.ref l/\vs=[y]/\H l=some (.lst xs)/\xs.length < sizeLine/\Q .non (upd H l (.lst (xs++[y])))
theorem yaP:MtM X "list.append" ygi:=by
 intro pins s σ H x vs v us Q I rx rv h
 obtain⟨l,xs,y,rfl,rfl,hH,hz,q⟩:=h
 cases rx
 obtain⟨u,rfl,ru⟩:=rv.one
 obtain⟨z,its,n,r,hl,e⟩:=I.lstM hH
 refine call_meets F.slot_list_append ⟨_,e,rfl⟩ F.entry_list_append (F.args_list_append_2 _ _) (PySem.list_append l its.toArray n u (by rw[List.size_toArray];omega)) ⟨e,?_⟩
 refine⟨.non,_,I.lset (its':=its++[u]) hH e (by simp) (r.append (.cons ru .nil)) ?_,rfl,q⟩
 rw[List.length_append,List.length_singleton]
 omega
noncomputable def ymv:V->List V->Hp->VK->Prop:=λx vs H Q=>∃ l b xs zs,x=.ref l/\vs=[.ref b]/\H l=some (.lst xs)/\H b=some (.lst zs)/\xs.length+zs.length<=sizeLine/\Q .non (upd H l (.lst (xs++zs)))
theorem yfg:MtM X "list.extend" ymv:=by
 intro pins s σ H x vs v us Q I rx rv h
 obtain⟨l,b,xs,zs,rfl,rfl,hH,hB,hz,q⟩:=h
 cases rx
 obtain⟨u,rfl,ru⟩:=rv.one
 cases ru
 obtain⟨z,its,n,r,hl,e⟩:=I.lstM hH
 obtain⟨z2,its2,n2,r2,hl2,e2⟩:=I.lstM hB
 have hsz:its.toArray.size+its2.toArray.size<=sizeLine:=by rw[List.size_toArray,List.size_toArray];omega
 have hlong:¬ (!its.toArray.isEmpty&&Builtin.List.listTooLong (its.toArray.size+its2.toArray.size))=true:=by
  rw[ynE hsz,Bool.and_false]
  exact Bool.false_ne_true
 refine call_meets F.slot_list_extend ⟨_,e,rfl⟩ F.entry_list_extend (F.args_list_extend_2 _ _)
  (AutoSeq1.list_extend_list_list_0 l its.toArray n b its2.toArray n2 hlong (by rw[List.size_toArray];omega) (by omega)) ⟨e,e2,?_⟩
 refine⟨.non,_,I.lset (its':=its++its2) hH e (by simp) (r.append r2) ?_,rfl,q⟩
 rw[List.length_append]
 omega
noncomputable def yuS:V->List V->Hp->VK->Prop:=λx vs H Q=>∃ l xs y,x=.ref l/\vs=[]/\H l=some (.lst xs)/\xs[xs.length - 1]?=some y/\Q y (upd H l (.lst xs.dropLast))
theorem yoI:MtM X "list.pop" yuS:=by
 intro pins s σ H x vs v us Q I rx rv h
 obtain⟨l,xs,y,rfl,rfl,hH,hy,q⟩:=h
 cases rx
 have hus:=rv.zero
 subst hus
 obtain⟨z,its,n,r,hl,e⟩:=I.lstM hH
 obtain⟨u,hu,ru⟩:=r.get hy
 have hy':its.toArray[its.toArray.size - 1]?=some u:=by
  show its.toArray[its.length - 1]?=some u
  rw[← Array.getElem?_toList,← hl]
  exact hu
 refine call_meets F.slot_list_pop ⟨_,e,rfl⟩ F.entry_list_pop (F.args_list_pop_1 _) (MeetsSeq.list_pop_last l its.toArray n u hy' (by rw[List.size_toArray];omega)) ⟨e,?_⟩
 refine⟨y,_,I.lset (its':=its.dropLast) hH e ?_ r.dropLast ?_,ru,q⟩
 ·show its.toArray.eraseIdxIfInBounds (its.toArray.size - 1)=its.dropLast.toArray
  rw[List.size_toArray,List.eraseIdxIfInBounds_toArray,ykd]
 ·rw[List.length_dropLast]
  omega
noncomputable def yuE:R2:=λx y H Q=>∃ l b xs zs,x=.ref l/\y=.ref b/\H l=some (.lst xs)/\H b=some (.lst zs)/\xs.length+zs.length<=sizeLine/\∀ p,H p=none->Q (.ref p) (upd H p (.lst (xs++zs)))
theorem ygU:OpR X (binaryOp .Add) yuE:=by
 intro pins s σ H x y v u Q I rx ry h
 obtain⟨l,b,xs,zs,rfl,rfl,hH,hB,hz,q⟩:=h
 cases rx
 cases ry
 obtain⟨z,its,n,r,hl,e⟩:=I.lstM hH
 obtain⟨z2,its2,n2,r2,hl2,e2⟩:=I.lstM hB
 refine PySem.P.add_list e e2 ?_ (by rw[List.size_toArray,List.size_toArray];omega)
 have ea:its.toArray++its2.toArray=(its++its2).toArray:=by simp
 rw[ea]
 exact⟨.ref _,_,I.lnew (t':=s.toks) (r.append r2) (by rw[List.length_append];omega),rfl,q _ I.fresh⟩
end
section
variable {prog:Program} {w:World} {A:Around} {E:Value->Shared->Prop} {s:Shared}
set_option maxRecDepth 100000 in
end
section
variable {X:Cx}
end
end L2
namespace Att
open PySem PySem.W PySem.Calls PyProof.Rows
theorem yeP {P:Params}{h:Heap}:∀ (ns:List Int) (vs:List Value),WellAll P h vs (ns.map WData.int)->IntsAre vs ns:=by
 intro ns
 induction ns with
 | nil =>
  intro vs w
  rw[List.map_nil] at w
  cases w
  exact .nil
 | cons n ns ih =>
  intro vs w
  rw[List.map_cons] at w
  cases w with
  | cons a b =>
   cases a
   exact .cons _ _ (ih _ b)
theorem ykZ {l:OpenLaw}{n:Nat}(hn:l.most=some n){P:Params}{h:Heap}{args:List WData}{vals:List Value}
  (hpre:l.row.toRowW.claim.pre args=true) (hwl:WellAll P h vals args) :
  ∃ a vs ns,vals=[Value.ref a]/\args=[WData.list (ns.map WData.int)]/\h.get? a=some { cls:=.type "list",data:=.seq vs.toArray }/\IntsAre vs ns/\ns.length<=n:=by
 have hsh:WShape.hasAll [] args [.list .int]=true:=(pre_splitW hpre).1
 have hc:l.pre.holds [] { args:=args }=true:=(pre_splitW hpre).2
 obtain⟨d,r,rfl,h1,h2⟩:=hasAllW_cons hsh
 obtain rfl:=hasAllW_nil h2
 obtain⟨xs,rfl,h3⟩:=hasW_list h1
 obtain⟨ns,rfl⟩:=items_int h3
 have hlen:ns.length<=n:=by
  unfold OpenLaw.pre at hc
  have h4:(WTm.not (.lt (.lit (.int (n:Int))) (.len (.arg 0)))).holds [] { args:=[.list (ns.map .int)] }=true:=by
   have h4:=(holds_andW hc).1
   rw[hn] at h4
   exact h4
  have h5:=condW_of h4 (w_not (w_lt w_lit (w_len_list (w_arg rfl))))
  rw[List.length_map] at h5
  refine Nat.le_of_not_lt λq=>?_
  have q':(n:Int) < ((ns.length:Nat):Int):=by omega
  first
   | (rw[decide_eq_true q'] at h5;exact absurd h5 (by decide))
   | (simp at h5;omega)
 cases hwl with
 | cons w1 w2 =>
  cases w2
  cases w1 with
  | list ho hall=>exact⟨_,_,ns,rfl,rfl,ho,yeP ns _ hall,hlen⟩
theorem ylo (l:OpenLaw)(args:List WData):l.row.toRowW.claim.post args (.bool true) args=true :=
 postW_of (r:=l.row.toRowW) (X:=(true==true))
  (show WShape.has [] (.bool true) .bool=true by first | rfl | decide | simp[WShape.has,WShape.arms,WShape.armsAll])
  (show(WTm.eq .res (.lit (.bool true))).value [] { args:=args,res:=some (.bool true),after:=args }=some (.bool (true==true)) from w_eq_bool (w_res rfl) w_lit) rfl
section
variable {prog:Program} {w:World} {A:Around} {E:Value->Shared->Prop} {s:Shared} {K:Frag}
end
end Att
namespace L2
open PySem PySem.Spec PyProof.Rows
theorem yhf:∀ {vs:List Value} {ns:List Int},IntsAre vs ns->Vals (ns.map V.int) vs
 | _,_,.nil=>.nil
 | _,_,.cons n t h=>.cons ⟨t,rfl⟩ (yhf h)
noncomputable def ysM (H:Hp):Prop:=∀ b,H b=none∨∃ o xs,H b=some (.frz o (.lst xs))
theorem ymG {P:Program}{w:World}{K:PySem.W.Frag}{mg mb:Str->Option Value}{CX:CXT}{k:Nat}{fa a:Addr}{fd:FuncData}{x:Str}{sp:Sp}{s₁:Shared}{vs:List Value}{ns:List Int}
  (KX:K.In s₁.heap) (hns:s₁.heap.Ns mainGlobals mg) (hb:s₁.heap.Ns builtinsNs mb) (hbb:∀ x:Str,x≠"__name__" -> mb x=bootBuiltins x) (hlim:s₁.heap.NoLimit) (hg:s₁.gens=#[])
  (ha:s₁.heap.get? a=some { cls:=.type "list",data:=.seq vs.toArray }) (hi:IntsAre vs ns) (hl:ns.length<=sizeLine) (hr:Room k callerA)
  (F:∀ base:Heap,K.In base->base.Ns mainGlobals mg->FnOk P w K mg base CX k fa fd [x] sp) (hbind:∀ (s:Shared) (u:Value),BindsTo s fd ⟨[u],[]⟩ [(x,u)])
  (hsp:∀ H:Hp,ysM H->SqL K H a (ns.map V.int)->sp [.ref a] H (λv _=>v=.bl true) λ_ _ _=>False)
  (hCX:∀ H e s',CX [] H s₁ (λ_ _ _=>False) e s'->False) :
  codeAny (model P w) callerA (.call (.ref fa) ⟨[.ref a],[]⟩) (λr s'=>r=.ok (.ret (.bool true))/\OldK s₁.heap s'.heap/\s'.os=s₁.os/\AllBare s'.gens) s₁:=by
 have rv:=yhf hi
 have lenV:=hi.length
 have core:∀ H:Hp,ysM H->SqL K H a (ns.map V.int)->HOk P w H s₁.heap->(∀ b,H b≠none->b=a)->(H a≠none->K.lookup a=none) ->
   codeAny (model P w) callerA (.call (.ref fa) ⟨[.ref a],[]⟩) (λr s'=>r=.ok (.ret (.bool true))/\OldK s₁.heap s'.heap/\s'.os=s₁.os/\AllBare s'.gens) s₁:=by
  intro H hO hS hok hA hK
  have base_of:∀ {b:Addr} {o:Obj},s₁.heap.get? b=some o->H b=none->(ynJ s₁.heap H).get? b=some o:=λe n=>ynF e n
  have noA:∀ {b:Addr} {o:Obj} {es:Array DictEntry} {ep:Nat},s₁.heap.get? b=some o->o.data=.dict es ep->H b=none:=λ{b o es ep} e d=>by
   cases q:H b with
   | none=>rfl
   | some u =>
    have e':b=a:=hA b (by rw[q];simp)
    subst e'
    rw[ha] at e;cases e
    have d':Data.seq vs.toArray _=Data.dict es ep:=d
    cases d'
  have nsK:∀ {b:Addr} {m:Str->Option Value},s₁.heap.Ns b m->(ynJ s₁.heap H).Ns b m:=λ{b m} ⟨o,es,ep,e,d,r⟩=>⟨o,es,ep,base_of e (noA e d),d,r⟩
  have hKb:K.In (ynJ s₁.heap H):=λb o e=>base_of (KX b o e) (by
   cases q:H b with
   | none=>rfl
   | some u =>
    have e':b=a:=hA b (by rw[q];simp)
    subst e'
    rw[hK (by rw[q];simp)] at e;cases e)
  have hM:Mod K mg (ynJ s₁.heap H):=⟨hKb,nsK hns,⟨mb,nsK hb,hbb⟩,let ⟨mc,h1,h2⟩:=hlim;⟨mc,nsK h1,h2⟩⟩
  have e0:Env0 P w K mg (ynJ s₁.heap H) callerA [] s₁ H:=⟨rfl,hM,λb o e=>yoK e,Nat.le_of_eq (yl8 _ _),trivial,λb hb=>absurd (show b∈([]:List Addr) from hb) (by simp),hok,.of_eq hg⟩
  refine codeAny_mono ((F _ hKb (nsK hns)).run callerA [] s₁ H ⟨[.ref a],[]⟩ [.ref a] [.ref a] _ _ hr e0 (hbind s₁ (.ref a)) (.cons rfl .nil) (hsp H hO hS)) λr s' h=>?_
  cases r with
  | error e=>exact(hCX H e s' h).elim
  | ok fl =>
   cases fl with
   | next=>exact False.elim h
   | brk=>exact False.elim h
   | cont=>exact False.elim h
   | ret u =>
    obtain⟨v,H',os,bare,un,hok',r',q⟩:=h
    have q':v=.bl true:=q
    subst q'
    obtain rfl:u=Value.bool true:=r'
    refine⟨rfl,OldK.of_keep λb o e=>?_,os,bare⟩
    cases q:H b with
    | none=>exact un.keep b o e q (by intro z;exact absurd (show b∈([]:List Addr) from z) (by simp)) (by simp)
    | some u =>
     rcases hO b with z | ⟨ob,xs,z⟩
     ·rw[q] at z;cases z
     ·have z2:=un.frzs b ob _ z
      obtain⟨e1,_⟩:=hok b _ z
      obtain⟨e2,_⟩:=hok' b _ z2
      rw[e] at e1;cases e1
      exact e2
 cases hk:K.lookup a with
 | some o =>
  have e:=KX a o hk
  rw[ha] at e
  cases e
  refine core (λ_=>none) (λ_=>.inl rfl) (.inr ⟨_,vs.toArray,_,hk,rfl,rfl,rfl,by rw[List.size_toArray,lenV];exact hl,by simpa using rv⟩) (λb u z=>by have z':(none:Option HO)=some u:=z;cases z') (λb z=>absurd rfl z) λz=>absurd rfl z
 | none =>
  refine core (λb=>if b=a then some (.frz { cls:=.type "list",data:=.seq vs.toArray } (.lst (ns.map V.int))) else none) (λb=>?_) (.inl (.inr ⟨{ cls:=.type "list",data:=.seq vs.toArray },if_pos rfl⟩)) (λb u z=>?_) (λb z=>?_) λ_=>hk
  ·by_cases hb:b=a
   ·exact .inr ⟨_,_,if_pos hb⟩
   ·exact .inl (if_neg hb)
  ·by_cases hb:b=a
   ·have z':=(if_pos hb).symm.trans z
    cases z'
    subst hb
    exact⟨ha,by rw[List.length_map];exact hl,vs,_,rv,ha⟩
   ·have z':=(if_neg hb).symm.trans z
    cases z'
  ·by_cases hb:b=a
   ·exact hb
   ·exact absurd (if_neg hb) z
noncomputable def ycB (s:Stmt):Arguments:=match s with
 | .FunctionDef _ a _ _ _ _ _ _ _ _=>a
 | _=>{ posonlyargs:=[],args:=[],vararg:=none,kwonlyargs:=[],kw_defaults:=[],kwarg:=none,defaults:=[] }
noncomputable def ycn (s:Stmt):List Stmt:=match s with
 | .FunctionDef _ _ b _ _ _ _ _ _ _=>b
 | _=>[]
noncomputable def yah (s:Stmt):Scope:=match s with
 | .FunctionDef _ _ _ _ _ _ sc _ _ _=>sc
 | _=>{ kind:=.function,names:=[],isGenerator:=false,isCoroutine:=false }
noncomputable abbrev CX0:CXT:=λ_ _ _ _ _ _=>False
noncomputable abbrev E0:XK:=λ_ _ _=>False
theorem ycx {X:Cx}:ydB CX0 X E0:=λ_ _ _ _ _ _ _ h=>h.elim
structure Fun (K:PySem.W.Frag) (x qual:Str) (st:Stmt) (f:Addr) (fd:FuncData):Prop where
 ex:∃ (oc:Value) (od:Option Addr) (kV doc pm:Value) (an:Option Addr) (cdv ct:Value) (osl:Array (Option Value)),
  fd=PySem.W.fnOf x qual (ycB st) (ycn st) (yah st) .none kV doc pm an cdv ct/\K.lookup f=some ⟨oc,od,.func fd,osl⟩/\PySem.W.codeIn K cdv qual=true
 kp:PySem.W.keepIn K (.ref f)=true
section
variable {P:Program} {w:World} {K:PySem.W.Frag} {mg:Str->Option Value} {base:Heap}
theorem Fun.ok {x qual:Str}{st:Stmt}{f:Addr}{fd:FuncData}{N ps:List Str}{k:Nat}{sp:Sp}(F:Fun K x qual st f fd)(S:yal N ps (yah st))(len:∀ vs H Q E,sp vs H Q E->vs.length=ps.length)
  (hbody:∀ (cdv:Value) (A:Around) (outer:List Env) (s:Shared) (H:Hp) (vs:List V) (Q:VK) (E:XK),Room k (A.deeper (envOfC qual (yah st) s.heap.objs.size f cdv))->sp vs H Q E ->
   ∃ t,PSs (ypO CX0 P w K mg base N qual (yah st) f cdv A outer s H E).nox (ycn st) t/\t { nx:=λ_ H'=>Q .non H',rt:=Q } (start N vs) H):FnOk P w K mg base CX0 (k+1) f fd ps sp:=by
 obtain⟨oc,od,kV,doc,pm,an,cdv,ct,osl,rfl,lk,hcd⟩:=F.ex
 refine yum lk hcd S len λA outer s H vs Q E hr hsp=>?_
 obtain⟨t,h,q⟩:=hbody cdv A outer s H vs Q E hr hsp
 exact⟨t,h.nox,q⟩
theorem Fun.binds {x qual:Str}{st:Stmt}{f:Addr}{fd:FuncData}{ps:List Str}(F:Fun K x qual st f fd)
  (h:∀ (kV doc pm:Value) (an:Option Addr) (cdv ct:Value) (us:List Value),us.length=ps.length->bindArgs (PySem.W.fnOf x qual (ycB st) (ycn st) (yah st) .none kV doc pm an cdv ct) ⟨us,[]⟩=pure (ps.zip us)):Binds K fd ps []:=by
 obtain⟨oc,od,kV,doc,pm,an,cdv,ct,osl,rfl,lk,hcd⟩:=F.ex
 exact .all (h kV doc pm an cdv ct)
theorem yi2 {x qual:Str}{st:Stmt}{f:Addr}{oc:Value}{od an:Option Addr}{osl:Array (Option Value)}{kV doc pm cdv ct:Value}(l:K.lookup f=some ⟨oc,od,.func (PySem.W.fnOf x qual (ycB st) (ycn st) (yah st) .none kV doc pm an cdv ct),osl⟩)
  (c:PySem.W.codeIn K cdv qual=true) (k:PySem.W.keepIn K (.ref f)=true):Fun K x qual st f (PySem.W.fnOf x qual (ycB st) (ycn st) (yah st) .none kV doc pm an cdv ct):=⟨⟨oc,od,kV,doc,pm,an,cdv,ct,osl,rfl,l,c⟩,k⟩
end
theorem yaz {n:Nat}(h:n<=1000):n < sizeLine:=Nat.lt_of_le_of_lt h (by decide)
section
variable {X:Cx}
theorem pv (i:Nat){x:Str}{pos:Pos}(hN:X.N[i]?=some x:=by rfl)(hv:Vis X.env.scope x:=by first | exact Or.inl rfl | exact Or.inr (Or.inl rfl) | exact Or.inr (Or.inr rfl))(hd:(x==("__debug__" : Str))=false:=by decide)
  (hcd:(x==("__classdict__" : Str))=false:=by decide):PE X (.Name x pos) (ydD i):=yn1 hN hv hd hcd
end
theorem yh5 {c A B:Prop}[Decidable c](h1:c->A)(h2:¬ c->B):if c then A else B:=by
 by_cases h:c
 ·rw[if_pos h]
  exact h1 h
 ·rw[if_neg h]
  exact h2 h
noncomputable def Same (H H':Hp):Prop:=∀ b o,H b=some o->H' b=some o
theorem Same.refl (H:Hp):Same H H:=λ_ _ h=>h
theorem Same.trans {H H1 H2:Hp}(a:Same H H1)(b:Same H1 H2):Same H H2:=λc o h=>b c o (a c o h)
theorem Same.free {H H':Hp}(e:Same H H'){l:Addr}(h:H' l=Option.none):H l=Option.none:=by
 cases q:H l with
 | none=>rfl
 | some o =>
  rw[e l o q] at h
  cases h
theorem Same.seq {K:PySem.W.Frag}{H H':Hp}{a:Addr}{xs:List V}(e:Same H H')(h:SqL K H a xs):SqL K H' a xs:=by
 rcases h with (h | ⟨o,h⟩) | h
 ·exact .inl (.inl (e _ _ h))
 ·exact .inl (.inr ⟨o,e _ _ h⟩)
 ·exact .inr h
section
variable {X:Cx} {pins:List (Addr×Obj)} {σ:St} {H:Hp} {s:Shared} {a:Addr} {y v:V} {u r:Value} {o:Option V} {A:Around} {E:Value->Shared->Prop}
end
section
variable {X:Cx} {pos:Pos}
end
section
variable {X:Cx}
noncomputable def yuX (K:PySem.W.Frag):List V->Hp->VK->Prop:=λxs H Q=>∃ x n t b,xs=[x,.ty n]/\ygD K H x t/\PySem.W.kitOne K t (.type n)=some b/\Q (.bl b) H
theorem yne:ycC X (.builtin "isinstance") (yuX X.K):=by
 intro pins s σ H xs us Q I r h
 obtain⟨x,n,t,b,rfl,ty,e,q⟩:=h
 obtain⟨u,v,rfl,ru,rv⟩:=ypF r
 obtain rfl:v=Value.type n:=rv
 exact ygK I ru ty e λtk=>⟨.bl b,H,I.tok tk,rfl,q⟩
theorem yie {K:PySem.W.Frag}:PySem.W.kitOne K (.type "int") (.type "int")=some true:=by kernel_rfl
theorem yhX {K:PySem.W.Frag}:PySem.W.kitOne K (.type "int") (.type "bool")=some false:=by kernel_rfl
theorem yiy {K:PySem.W.Frag}:PySem.W.kitOne K (.type "int") (.type "str")=some false:=by kernel_rfl
theorem yhG {K:PySem.W.Frag}:PySem.W.kitOne K (.type "int") (.type "list")=some false:=by kernel_rfl
theorem yfX {K:PySem.W.Frag}:PySem.W.kitOne K (.type "int") (.type "tuple")=some false:=by kernel_rfl
theorem ygP {K:PySem.W.Frag}:PySem.W.kitOne K (.type "bool") (.type "int")=some true:=by kernel_rfl
theorem yfV {K:PySem.W.Frag}:PySem.W.kitOne K (.type "bool") (.type "bool")=some true:=by kernel_rfl
theorem yhH {K:PySem.W.Frag}:PySem.W.kitOne K (.type "bool") (.type "str")=some false:=by kernel_rfl
theorem yfZ {K:PySem.W.Frag}:PySem.W.kitOne K (.type "bool") (.type "list")=some false:=by kernel_rfl
theorem yfo {K:PySem.W.Frag}:PySem.W.kitOne K (.type "bool") (.type "tuple")=some false:=by kernel_rfl
theorem yiL {K:PySem.W.Frag}:PySem.W.kitOne K (.type "str") (.type "int")=some false:=by kernel_rfl
theorem yh2 {K:PySem.W.Frag}:PySem.W.kitOne K (.type "str") (.type "bool")=some false:=by kernel_rfl
theorem yib {K:PySem.W.Frag}:PySem.W.kitOne K (.type "str") (.type "str")=some true:=by kernel_rfl
theorem ygL {K:PySem.W.Frag}:PySem.W.kitOne K (.type "str") (.type "list")=some false:=by kernel_rfl
theorem ygv {K:PySem.W.Frag}:PySem.W.kitOne K (.type "str") (.type "tuple")=some false:=by kernel_rfl
theorem ygY {K:PySem.W.Frag}:PySem.W.kitOne K (.type "NoneType") (.type "int")=some false:=by kernel_rfl
theorem ygp {K:PySem.W.Frag}:PySem.W.kitOne K (.type "NoneType") (.type "bool")=some false:=by kernel_rfl
theorem yhI {K:PySem.W.Frag}:PySem.W.kitOne K (.type "NoneType") (.type "str")=some false:=by kernel_rfl
theorem yf7 {K:PySem.W.Frag}:PySem.W.kitOne K (.type "NoneType") (.type "list")=some false:=by kernel_rfl
theorem yfj {K:PySem.W.Frag}:PySem.W.kitOne K (.type "NoneType") (.type "tuple")=some false:=by kernel_rfl
theorem yhj {K:PySem.W.Frag}:PySem.W.kitOne K (.type "list") (.type "int")=some false:=by kernel_rfl
theorem ygr {K:PySem.W.Frag}:PySem.W.kitOne K (.type "list") (.type "bool")=some false:=by kernel_rfl
theorem yhu {K:PySem.W.Frag}:PySem.W.kitOne K (.type "list") (.type "str")=some false:=by kernel_rfl
theorem yfU {K:PySem.W.Frag}:PySem.W.kitOne K (.type "list") (.type "list")=some true:=by kernel_rfl
theorem yfi {K:PySem.W.Frag}:PySem.W.kitOne K (.type "list") (.type "tuple")=some false:=by kernel_rfl
theorem ygk {K:PySem.W.Frag}:PySem.W.kitOne K (.type "tuple") (.type "int")=some false:=by kernel_rfl
theorem yfp {K:PySem.W.Frag}:PySem.W.kitOne K (.type "tuple") (.type "bool")=some false:=by kernel_rfl
theorem yf2 {K:PySem.W.Frag}:PySem.W.kitOne K (.type "tuple") (.type "str")=some false:=by kernel_rfl
theorem yfn {K:PySem.W.Frag}:PySem.W.kitOne K (.type "tuple") (.type "list")=some false:=by kernel_rfl
theorem yfh {K:PySem.W.Frag}:PySem.W.kitOne K (.type "tuple") (.type "tuple")=some true:=by kernel_rfl
theorem yhx {K:PySem.W.Frag}:PySem.W.kitOne K (.type "dict") (.type "int")=some false:=by kernel_rfl
theorem ygw {K:PySem.W.Frag}:PySem.W.kitOne K (.type "dict") (.type "bool")=some false:=by kernel_rfl
theorem yhe {K:PySem.W.Frag}:PySem.W.kitOne K (.type "dict") (.type "str")=some false:=by kernel_rfl
theorem ygx {K:PySem.W.Frag}:PySem.W.kitOne K (.type "dict") (.type "list")=some false:=by kernel_rfl
theorem yfu {K:PySem.W.Frag}:PySem.W.kitOne K (.type "dict") (.type "tuple")=some false:=by kernel_rfl
inductive Knd | non | bl | int | str | lst | tup | dct
 deriving DecidableEq
noncomputable def Knd.name:Knd->String
 | .non => "NoneType" | .bl => "bool" | .int => "int" | .str => "str" | .lst => "list" | .tup => "tuple" | .dct => "dict"
inductive KndOf (H:Hp):V->Knd->Prop where
 | non:KndOf H .non .non
 | bl (b:Bool):KndOf H (.bl b) .bl
 | int (i:Int):KndOf H (.int i) .int
 | str (x:Str):KndOf H (.str x) .str
 | lst {a:Addr} {xs:List V} (e:H a=some (.lst xs)):KndOf H (.ref a) .lst
 | tup {a:Addr} {xs:List V} (e:H a=some (.tup xs)):KndOf H (.ref a) .tup
 | dct {a:Addr} {kvs:List (Key×V)} (e:H a=some (.dK kvs)):KndOf H (.ref a) .dct
theorem KndOf.ty {K:PySem.W.Frag}{H:Hp}{x:V}{k:Knd}(h:KndOf H x k):ygD K H x (.type k.name):=by
 cases h with
 | non=>exact .non
 | bl b=>exact .bl b
 | int i=>exact .int i
 | str x=>exact .str x
 | lst e=>exact .lst e
 | tup e=>exact .tup e
 | dct e=>exact .dK e
noncomputable def Knd.isA:Knd->String->Bool
 | .int, "int"=> true
 | .bl, "int"=> true
 | .bl, "bool"=> true
 | .str, "str"=> true
 | .lst, "list"=> true
 | .tup, "tuple"=> true
 | .dct, "dict"=> true
 | _,_=>false
noncomputable def ykl (n:String):Prop:=n="int" ∨ n="bool" ∨ n="str" ∨ n="list" ∨ n="tuple"
theorem yq4 {K:PySem.W.Frag}(k:Knd){n:String}(h:ykl n):PySem.W.kitOne K (.type k.name) (.type n)=some (k.isA n):=by
 rcases h with rfl | rfl | rfl | rfl | rfl<;>cases k
 ·exact ygY
 ·exact ygP
 ·exact yie
 ·exact yiL
 ·exact yhj
 ·exact ygk
 ·exact yhx
 ·exact ygp
 ·exact yfV
 ·exact yhX
 ·exact yh2
 ·exact ygr
 ·exact yfp
 ·exact ygw
 ·exact yhI
 ·exact yhH
 ·exact yiy
 ·exact yib
 ·exact yhu
 ·exact yf2
 ·exact yhe
 ·exact yf7
 ·exact yfZ
 ·exact yhG
 ·exact ygL
 ·exact yfU
 ·exact yfn
 ·exact ygx
 ·exact yfj
 ·exact yfo
 ·exact yfX
 ·exact ygv
 ·exact yfi
 ·exact yfh
 ·exact yfu
noncomputable def ytb:List V->Hp->VK->Prop:=λxs H Q=>∃ x n k,xs=[x,.ty n]/\ykl n/\KndOf H x k/\Q (.bl (k.isA n)) H
theorem yaR:ycC X (.builtin "isinstance") ytb:=by
 intro pins s σ H xs us Q I r h
 obtain⟨x,n,k,rfl,hn,hk,q⟩:=h
 exact yne pins s σ H _ us Q I r ⟨x,n,_,_,rfl,hk.ty,yq4 k hn,q⟩
noncomputable def ypR:V->List V->Hp->VK->Prop:=λx vs H Q=>∃ a b,x=.str a/\vs=[.str b]/\Q (.int (Txt.find a b)) H
theorem ylL:MtR X "str.find" ypR:=by
 intro pins s σ H x vs v us Q I rx rv h
 obtain⟨a,b,rfl,rfl,q⟩:=h
 obtain⟨t,rfl⟩:=rx
 obtain⟨u,rfl,ru⟩:=rv.one
 obtain⟨t',rfl⟩:=ru
 exact SC.find ⟨.int _,H,I.tok _,⟨_,rfl⟩,q⟩
noncomputable def yl9:V->List V->Hp->VK->Prop:=λx vs H Q=>∃ a b,x=.str a/\vs=[.str b]/\Q (.bl (Txt.startswith a b)) H
theorem yhg:MtR X "str.startswith" yl9:=by
 intro pins s σ H x vs v us Q I rx rv h
 obtain⟨a,b,rfl,rfl,q⟩:=h
 obtain⟨t,rfl⟩:=rx
 obtain⟨u,rfl,ru⟩:=rv.one
 obtain⟨t',rfl⟩:=ru
 exact SC.startswith ⟨.bl _,H,I,rfl,q⟩
noncomputable def yuC:V->Option Int->Option Int->Hp->VK->Prop:=λx lo hi H Q=>∃ z,x=.str z/\z.length<=sizeLine/\Q (.str (Txt.slice z lo hi)) H
theorem yep {v:Value}{o:Option Int}(p:IsPart v o):(v=.none/\o=none)∨∃ i t,v=.int i t/\o=some i:=by
 cases p with
 | none=>exact .inl ⟨rfl,rfl⟩
 | int i t=>exact .inr ⟨i,t,rfl,rfl⟩
theorem yot:SlR X yuC:=by
 intro pins s σ H x v vl vu lo hi sl Q I rx hs pl pu h
 obtain⟨z,rfl,hz,q⟩:=h
 obtain⟨t,rfl⟩:=rx
 refine⟨"str",_,F.slot_str_getitem.lookup,typeIs_str _ _ _,?_⟩
 have fin:∀ t' k,EP X pins σ Q (.str (Txt.slice z lo hi) t') { s with toks:=k }:=λt' k=>⟨.str _,H,I.tok _,⟨_,rfl⟩,q⟩
 rcases yep pl with ⟨rfl,rfl⟩ | ⟨i,ti,rfl,rfl⟩<;>rcases yep pu with ⟨rfl,rfl⟩ | ⟨j,tj,rfl,rfl⟩
 ·exact wpAny_getItem_str_slice (l:=none) (u:=none) (st:=none) hs rfl (post_val_or_str ⟨Nat.le_trans (Txt.slice_le z _ _) hz,fin⟩)
 ·exact wpAny_getItem_str_slice (l:=none) (u:=some (j,tj)) (st:=none) hs rfl (post_val_or_str ⟨Nat.le_trans (Txt.slice_le z _ _) hz,fin⟩)
 ·exact wpAny_getItem_str_slice (l:=some (i,ti)) (u:=none) (st:=none) hs rfl (post_val_or_str ⟨Nat.le_trans (Txt.slice_le z _ _) hz,fin⟩)
 ·exact wpAny_getItem_str_slice (l:=some (i,ti)) (u:=some (j,tj)) (st:=none) hs rfl (post_val_or_str ⟨Nat.le_trans (Txt.slice_le z _ _) hz,fin⟩)
end
inductive Tr where
 | vl (v:V) | ls (ts:List Tr) | tp (ts:List Tr)
mutual
noncomputable def eqT:Tr->Tr->Bool
 | .vl x,.vl y=>eqV x y
 | .ls xs,.ls ys=>eqTs xs ys
 | .tp xs,.tp ys=>eqTs xs ys
 | _,_=>false
noncomputable def eqTs:List Tr->List Tr->Bool
 | [],[]=>true
 | x :: xs,y :: ys=>eqT x y&&eqTs xs ys
 | _,_=>false
end
mutual
noncomputable def Rep (K:PySem.W.Frag)(H:Hp):V->Tr->Prop
 | v,.vl w=>v=w/\ycA w=true
 | v,.ls ts=>∃ a xs,v=.ref a/\SqL K H a xs/\Reps K H xs ts
 | v,.tp ts=>∃ a xs,v=.ref a/\SqT K H a xs/\Reps K H xs ts
noncomputable def Reps (K:PySem.W.Frag)(H:Hp):List V->List Tr->Prop
 | xs,[]=>xs=[]
 | xs,t :: ts=>∃ x r,xs=x :: r/\Rep K H x t/\Reps K H r ts
end
mutual
noncomputable def dep:Tr->Nat
 | .vl _=>0
 | .ls ts=>deps ts+1
 | .tp ts=>deps ts+1
noncomputable def deps:List Tr->Nat
 | []=>0
 | t :: ts=>max (dep t) (deps ts)
end
noncomputable def ykR (ts us:List Tr)(j:Nat):Bool:=match ts[j]?,us[j]? with
 | some t,some u=>eqT t u
 | _,_=>true
theorem yfY:∀ {ts us:List Tr},ts.length=us.length->eqTs ts us=(List.range ts.length).all (ykR ts us)
 | [],[],_=>rfl
 | t :: ts,u :: us,h=>by
  have h':ts.length=us.length:=by simpa using h
  rw[eqTs,List.length_cons,List.range_succ_eq_map,List.all_cons,List.all_map,yfY h']
  rfl
 | [],_ :: _,h=>by simp at h
 | _ :: _,[],h=>by simp at h
theorem yf0:∀ {ts us:List Tr},ts.length≠us.length->eqTs ts us=false
 | [],[],h=>absurd rfl h
 | t :: ts,u :: us,h=>by
  have h':ts.length≠us.length:=λz=>h (by simp[z])
  rw[eqTs,yf0 h',Bool.and_false]
 | [],_ :: _,_=>rfl
 | _ :: _,[],_=>rfl
theorem Reps.length {K:PySem.W.Frag}{H:Hp}:∀ {xs:List V} {ts:List Tr},Reps K H xs ts->xs.length=ts.length
 | xs,[],h=>by rw[Reps] at h;subst h;rfl
 | xs,t :: ts,h=>by
  rw[Reps] at h
  obtain⟨x,r,rfl,_,h⟩:=h
  rw[List.length_cons,List.length_cons,Reps.length h]
theorem Reps.get {K:PySem.W.Frag}{H:Hp}:∀ {xs:List V} {ts:List Tr} {i:Nat} {x:V},Reps K H xs ts->xs[i]?=some x->∃ t,ts[i]?=some t/\Rep K H x t
 | xs,[],i,x,h,e=>by rw[Reps] at h;subst h;simp at e
 | xs,t :: ts,0,x,h,e=>by
  rw[Reps] at h
  obtain⟨y,r,rfl,hy,h⟩:=h
  simp at e
  subst e
  exact⟨t,rfl,hy⟩
 | xs,t :: ts,i+1,x,h,e=>by
  rw[Reps] at h
  obtain⟨y,r,rfl,hy,h⟩:=h
  obtain⟨u,h1,h2⟩:=Reps.get (i:=i) h (by simpa using e)
  exact⟨u,by simpa using h1,h2⟩
theorem ylc:∀ {ts:List Tr} {i:Nat} {t:Tr},ts[i]?=some t->dep t<=deps ts
 | [],_,_,e=>by simp at e
 | t :: ts,0,u,e=>by
  simp at e
  subst e
  rw[deps]
  exact Nat.le_max_left _ _
 | t :: ts,i+1,u,e=>by
  rw[deps]
  exact Nat.le_trans (ylc (ts:=ts) (i:=i) (by simpa using e)) (Nat.le_max_right _ _)
theorem yla (x:V)(us:List Tr):eqT (.vl x) (.ls us)=false:=by simp[eqT]
theorem ymu (x:V)(us:List Tr):eqT (.vl x) (.tp us)=false:=by simp[eqT]
theorem ymo (x:V)(us:List Tr):eqT (.ls us) (.vl x)=false:=by simp[eqT]
theorem ykI (x:V)(us:List Tr):eqT (.tp us) (.vl x)=false:=by simp[eqT]
theorem ylF (ts us:List Tr):eqT (.ls ts) (.tp us)=false:=by simp[eqT]
theorem yl1 (ts us:List Tr):eqT (.tp ts) (.ls us)=false:=by simp[eqT]
theorem ynm {v:V}(f:ycA v=true):eqV v v=true:=by
 cases v<;>first | (simp[ycA] at f;done) | rfl | (simp[eqV];done)
section
variable {X:Cx} {pins:List (Addr×Obj)} {σ:St} {H:Hp} {s:Shared}
theorem Inv.apart (I:Inv X pins σ H s){a:Addr}{xs ys:List V}(h:SqL X.K H a xs)(h':SqT X.K H a ys):False:=by
 obtain⟨its,_,p,_⟩:=I.list h
 obtain⟨its',_,p',_⟩:=I.tuple h'
 exact SeqAt.ne_of_list_tuple p.isList p' rfl
mutual
theorem yiY (I:Inv X pins σ H s):∀ (t u:Tr) (x:V),Rep X.K H x t->Rep X.K H x u->eqT t u=true
 | .vl v,.vl w,x,h1,h2=>by
  rw[Rep] at h1
  rw[Rep] at h2
  obtain⟨rfl,f⟩:=h1
  obtain⟨rfl,_⟩:=h2
  rw[eqT]
  exact ynm f
 | .vl v,.ls us,x,h1,h2=>by
  rw[Rep] at h1
  rw[Rep] at h2
  obtain⟨rfl,f⟩:=h1
  obtain⟨a,xs,rfl,_⟩:=h2
  cases f
 | .vl v,.tp us,x,h1,h2=>by
  rw[Rep] at h1
  rw[Rep] at h2
  obtain⟨rfl,f⟩:=h1
  obtain⟨a,xs,rfl,_⟩:=h2
  cases f
 | .ls ts,.vl v,x,h1,h2=>by
  rw[Rep] at h1
  rw[Rep] at h2
  obtain⟨rfl,f⟩:=h2
  obtain⟨a,xs,rfl,_⟩:=h1
  cases f
 | .tp ts,.vl v,x,h1,h2=>by
  rw[Rep] at h1
  rw[Rep] at h2
  obtain⟨rfl,f⟩:=h2
  obtain⟨a,xs,rfl,_⟩:=h1
  cases f
 | .ls ts,.ls us,x,h1,h2=>by
  rw[Rep] at h1
  rw[Rep] at h2
  obtain⟨a,xs,rfl,hx,hs⟩:=h1
  obtain⟨b,ys,e,hy,hu⟩:=h2
  cases e
  have e:=I.list_inj hx hy
  subst e
  rw[eqT]
  exact reps_same I ts us xs hs hu
 | .tp ts,.tp us,x,h1,h2=>by
  rw[Rep] at h1
  rw[Rep] at h2
  obtain⟨a,xs,rfl,hx,hs⟩:=h1
  obtain⟨b,ys,e,hy,hu⟩:=h2
  cases e
  have e:=I.tuple_inj hx hy
  subst e
  rw[eqT]
  exact reps_same I ts us xs hs hu
 | .ls ts,.tp us,x,h1,h2=>by
  rw[Rep] at h1
  rw[Rep] at h2
  obtain⟨a,xs,rfl,hx,hs⟩:=h1
  obtain⟨b,ys,e,hy,hu⟩:=h2
  cases e
  exact(I.apart hx hy).elim
 | .tp ts,.ls us,x,h1,h2=>by
  rw[Rep] at h1
  rw[Rep] at h2
  obtain⟨a,xs,rfl,hx,hs⟩:=h1
  obtain⟨b,ys,e,hy,hu⟩:=h2
  cases e
  exact(I.apart hy hx).elim
theorem reps_same (I:Inv X pins σ H s):∀ (ts us:List Tr) (xs:List V),Reps X.K H xs ts->Reps X.K H xs us->eqTs ts us=true
 | [],[],_,_,_=>by rw[eqTs]
 | [],u :: us,xs,h1,h2=>by
  rw[Reps] at h1
  rw[Reps] at h2
  obtain⟨x,r,e,_⟩:=h2
  rw[h1] at e
  cases e
 | t :: ts,[],xs,h1,h2=>by
  rw[Reps] at h1
  rw[Reps] at h2
  obtain⟨x,r,e,_⟩:=h1
  rw[h2] at e
  cases e
 | t :: ts,u :: us,xs,h1,h2=>by
  rw[Reps] at h1
  rw[Reps] at h2
  obtain⟨x,r,rfl,hx,hr⟩:=h1
  obtain⟨y,q,e,hy,hq⟩:=h2
  cases e
  rw[eqTs,yiY I t u x hx hy,reps_same I ts us r hr hq]
  rfl
end
theorem yrl {A:Around}{y x:V}{u v:Value}(ry:RelV y u)(rx:RelV x v)(fy:ycA y=true)(fx:ycA x=true):SeqAt.RcAt A s u v (eqV y x):=by
 cases y with
 | non =>
  cases ry
  cases x with
  | non=>cases rx;exact SeqAt.RcAt.none_none
  | bl b=>cases rx;exact SeqAt.RcAt.none_bool b
  | int b=>obtain⟨t,rfl⟩:=rx;exact SeqAt.RcAt.none_int b t
  | str b=>obtain⟨t,rfl⟩:=rx;exact SeqAt.RcAt.none_str b t
  | _=>exact absurd (show false=true from fx) Bool.false_ne_true
 | bl a =>
  cases ry
  cases x with
  | non=>cases rx;exact SeqAt.RcAt.bool_none a
  | bl b=>cases rx;exact SeqAt.RcAt.bool_bool a b
  | int b=>obtain⟨t,rfl⟩:=rx;exact SeqAt.RcAt.bool_int a b t
  | str b=>obtain⟨t,rfl⟩:=rx;exact SeqAt.RcAt.bool_str a b t
  | _=>exact absurd (show false=true from fx) Bool.false_ne_true
 | int a =>
  obtain⟨t',rfl⟩:=ry
  cases x with
  | non=>cases rx;exact SeqAt.RcAt.int_none a t'
  | bl b=>cases rx;exact SeqAt.RcAt.int_bool a t' b
  | int b=>obtain⟨t,rfl⟩:=rx;exact SeqAt.RcAt.int_int a t' b t
  | str b=>obtain⟨t,rfl⟩:=rx;exact SeqAt.RcAt.int_str a t' b t
  | _=>exact absurd (show false=true from fx) Bool.false_ne_true
 | str a =>
  obtain⟨t',rfl⟩:=ry
  cases x with
  | non=>cases rx;exact SeqAt.RcAt.str_none a t'
  | bl b=>cases rx;exact SeqAt.RcAt.str_bool a t' b
  | int b=>obtain⟨t,rfl⟩:=rx;exact SeqAt.RcAt.str_int a t' b t
  | str b=>obtain⟨t,rfl⟩:=rx;exact SeqAt.RcAt.str_str a t' b t
  | _=>exact absurd (show false=true from fx) Bool.false_ne_true
 | _=>exact absurd (show false=true from fy) Bool.false_ne_true
theorem ymM {A:Around}{y x:V}{u v:Value}(ry:RelV y u)(rx:RelV x v)(fy:ycA y=true)(fx:ycA x=true):SeqAt.RcNeAt A s u v (!eqV y x):=by
 cases y with
 | non =>
  cases ry
  cases x with
  | non=>cases rx;exact SeqAt.RcNeAt.none_none
  | bl b=>cases rx;exact SeqAt.RcNeAt.none_bool b
  | int b=>obtain⟨t,rfl⟩:=rx;exact SeqAt.RcNeAt.none_int b t
  | str b=>obtain⟨t,rfl⟩:=rx;exact SeqAt.RcNeAt.none_str b t
  | _=>exact absurd (show false=true from fx) Bool.false_ne_true
 | bl a =>
  cases ry
  cases x with
  | non=>cases rx;exact SeqAt.RcNeAt.bool_none a
  | bl b=>cases rx;exact SeqAt.RcNeAt.bool_bool a b
  | int b=>obtain⟨t,rfl⟩:=rx;exact SeqAt.RcNeAt.bool_int a b t
  | str b=>obtain⟨t,rfl⟩:=rx;exact SeqAt.RcNeAt.bool_str a b t
  | _=>exact absurd (show false=true from fx) Bool.false_ne_true
 | int a =>
  obtain⟨t',rfl⟩:=ry
  cases x with
  | non=>cases rx;exact SeqAt.RcNeAt.int_none a t'
  | bl b=>cases rx;exact SeqAt.RcNeAt.int_bool a t' b
  | int b=>obtain⟨t,rfl⟩:=rx;exact SeqAt.RcNeAt.int_int a t' b t
  | str b=>obtain⟨t,rfl⟩:=rx;exact SeqAt.RcNeAt.int_str a t' b t
  | _=>exact absurd (show false=true from fx) Bool.false_ne_true
 | str a =>
  obtain⟨t',rfl⟩:=ry
  cases x with
  | non=>cases rx;exact SeqAt.RcNeAt.str_none a t'
  | bl b=>cases rx;exact SeqAt.RcNeAt.str_bool a t' b
  | int b=>obtain⟨t,rfl⟩:=rx;exact SeqAt.RcNeAt.str_int a t' b t
  | str b=>obtain⟨t,rfl⟩:=rx;exact SeqAt.RcNeAt.str_str a t' b t
  | _=>exact absurd (show false=true from fx) Bool.false_ne_true
 | _=>exact absurd (show false=true from fy) Bool.false_ne_true
noncomputable def yl2 (A:Around)(s:Shared)(ts us:List Tr)(its its':List Value):Prop :=
 ∀ j (h1:j < its.toArray.size) (h2:j < its'.toArray.size),SeqAt.EqAt A s its.toArray[j] its'.toArray[j] (ykR ts us j)
theorem yo5 {n m:Nat}{e:Nat->Bool}{ts us:List Tr}(hn:n=ts.length)(hm:m=us.length)(he:e=ykR ts us):((List.range (min n m)).all e&&n==m)=eqTs ts us:=by
 subst hn hm he
 by_cases h:ts.length=us.length
 ·rw[yfY h,h,Nat.min_self]
  simp
 ·rw[yf0 h]
  have:(ts.length==us.length)=false:=by simpa using h
  rw[this,Bool.and_false]
theorem yrM (I:Inv X pins σ H s)(A:Around)(t u:Tr)(x y:V)(v w:Value)(hx:Rep X.K H x t)(hy:Rep X.K H y u)(rx:RelV x v)(ry:RelV y w)(hu:A.units+dep t < cLine)(hu':A.units+dep u < cLine)
  (ih:∀ ts us xs ys its its',(t=.ls ts/\u=.ls us∨t=.tp ts/\u=.tp us)->Reps X.K H xs ts->Reps X.K H ys us->Vals xs its->Vals ys its'->yl2 A.in1 s ts us its its') :
  SeqAt.RcAt A s v w (eqT t u)/\SeqAt.RcNeAt A s v w (!eqT t u):=by
 cases t with
 | vl p =>
  rw[Rep] at hx
  obtain⟨rfl,fx⟩:=hx
  cases u with
  | vl q =>
   rw[Rep] at hy
   obtain⟨rfl,fy⟩:=hy
   rw[eqT]
   exact⟨yrl rx ry fx fy,ymM rx ry fx fy⟩
  | ls us =>
   rw[Rep] at hy
   obtain⟨b,ys,rfl,hb,_⟩:=hy
   cases ry
   obtain⟨its,_,p,_⟩:=I.list hb
   have hA:A.units < cLine:=by omega
   rw[yla]
   cases x with
   | non=>cases rx;exact⟨.none_list p.isList hA,.none_list p.isList hA⟩
   | bl c=>cases rx;exact⟨.bool_list c p.isList hA,.bool_list c p.isList hA⟩
   | int c=>obtain⟨t,rfl⟩:=rx;exact⟨.int_list c t p.isList hA,.int_list c t p.isList hA⟩
   | str c=>obtain⟨t,rfl⟩:=rx;exact⟨.str_list c t p.isList hA,.str_list c t p.isList hA⟩
   | _=>exact absurd (show false=true from fx) Bool.false_ne_true
  | tp us =>
   rw[Rep] at hy
   obtain⟨b,ys,rfl,hb,_⟩:=hy
   cases ry
   obtain⟨its,_,p,_⟩:=I.tuple hb
   have hA:A.units < cLine:=by omega
   rw[ymu]
   cases x with
   | non=>cases rx;exact⟨.none_tuple p hA,.none_tuple p hA⟩
   | bl c=>cases rx;exact⟨.bool_tuple c p hA,.bool_tuple c p hA⟩
   | int c=>obtain⟨t,rfl⟩:=rx;exact⟨.int_tuple c t p hA,.int_tuple c t p hA⟩
   | str c=>obtain⟨t,rfl⟩:=rx;exact⟨.str_tuple c t p hA,.str_tuple c t p hA⟩
   | _=>exact absurd (show false=true from fx) Bool.false_ne_true
 | ls ts =>
  rw[Rep] at hx
  obtain⟨a,xs,rfl,ha,hs⟩:=hx
  cases rx
  obtain⟨its,vr,p,_⟩:=I.list ha
  have hA:A.units < cLine:=by omega
  cases u with
  | vl q =>
   rw[Rep] at hy
   obtain⟨rfl,fy⟩:=hy
   rw[ymo]
   cases y with
   | non=>cases ry;exact⟨.list_none p.isList hA,.list_none p.isList hA⟩
   | bl c=>cases ry;exact⟨.list_bool c p.isList hA,.list_bool c p.isList hA⟩
   | int c=>obtain⟨t,rfl⟩:=ry;exact⟨.list_int c t p.isList hA,.list_int c t p.isList hA⟩
   | str c=>obtain⟨t,rfl⟩:=ry;exact⟨.list_str c t p.isList hA,.list_str c t p.isList hA⟩
   | _=>exact absurd (show false=true from fy) Bool.false_ne_true
  | ls us =>
   rw[Rep] at hy
   obtain⟨b,ys,rfl,hb,hs'⟩:=hy
   cases ry
   obtain⟨its',vr',p',_⟩:=I.list hb
   have l1:its.toArray.size=ts.length:=by rw[List.size_toArray,← vr.length,hs.length]
   have l2:its'.toArray.size=us.length:=by rw[List.size_toArray,← vr'.length,hs'.length]
   rw[eqT]
   by_cases hl:ts.length=us.length
   ·have hsz:its.toArray.size=its'.toArray.size:=by rw[l1,l2,hl]
    have q:=ih ts us xs ys its its' (.inl ⟨rfl,rfl⟩) hs hs' vr vr'
    rw[yfY hl,← l1]
    exact⟨.lists p.isList p'.isList hsz hA q,.lists p.isList p'.isList hsz hA q⟩
   ·have hsz:(its.toArray.size != its'.toArray.size)=true:=by rw[l1,l2];simpa using hl
    rw[yf0 hl]
    exact⟨.lists_lengths p.isList p'.isList hsz hA,.lists_lengths p.isList p'.isList hsz hA⟩
  | tp us =>
   rw[Rep] at hy
   obtain⟨b,ys,rfl,hb,hs'⟩:=hy
   cases ry
   obtain⟨its',vr',p',_⟩:=I.tuple hb
   rw[ylF]
   exact⟨.list_tuple p.isList p' hA,.list_tuple p.isList p' hA⟩
 | tp ts =>
  rw[Rep] at hx
  obtain⟨a,xs,rfl,ha,hs⟩:=hx
  cases rx
  obtain⟨its,vr,p,_⟩:=I.tuple ha
  have hA:A.units < cLine:=by omega
  cases u with
  | vl q =>
   rw[Rep] at hy
   obtain⟨rfl,fy⟩:=hy
   rw[ykI]
   cases y with
   | non=>cases ry;exact⟨.tuple_none p hA,.tuple_none p hA⟩
   | bl c=>cases ry;exact⟨.tuple_bool c p hA,.tuple_bool c p hA⟩
   | int c=>obtain⟨t,rfl⟩:=ry;exact⟨.tuple_int c t p hA,.tuple_int c t p hA⟩
   | str c=>obtain⟨t,rfl⟩:=ry;exact⟨.tuple_str c t p hA,.tuple_str c t p hA⟩
   | _=>exact absurd (show false=true from fy) Bool.false_ne_true
  | ls us =>
   rw[Rep] at hy
   obtain⟨b,ys,rfl,hb,hs'⟩:=hy
   cases ry
   obtain⟨its',vr',p',_⟩:=I.list hb
   rw[yl1]
   exact⟨.tuple_list p p'.isList hA,.tuple_list p p'.isList hA⟩
  | tp us =>
   rw[Rep] at hy
   obtain⟨b,ys,rfl,hb,hs'⟩:=hy
   cases ry
   obtain⟨its',vr',p',_⟩:=I.tuple hb
   have l1:its.toArray.size=ts.length:=by rw[List.size_toArray,← vr.length,hs.length]
   have l2:its'.toArray.size=us.length:=by rw[List.size_toArray,← vr'.length,hs'.length]
   have q:=ih ts us xs ys its its' (.inr ⟨rfl,rfl⟩) hs hs' vr vr'
   rw[eqT,← yo5 l1 l2 rfl]
   exact⟨.tuples p p' hA q,.tuples p p' hA q⟩
theorem ylX (I:Inv X pins σ H s):∀ (n:Nat) (A:Around) (t u:Tr) (x y:V) (v w:Value),dep t<=n->dep u<=n->Rep X.K H x t->Rep X.K H y u->RelV x v->RelV y w->A.units+n < cLine ->
  SeqAt.EqAt A s v w (eqT t u)/\SeqAt.RcAt A s v w (eqT t u)/\SeqAt.RcNeAt A s v w (!eqT t u):=by
 intro n
 induction n using Nat.strongRecOn with
 | _ n rec =>
  intro A t u x y v w ht hu hx hy rx ry hA
  have ih:∀ ts us xs ys its its',(t=.ls ts/\u=.ls us∨t=.tp ts/\u=.tp us)->Reps X.K H xs ts->Reps X.K H ys us->Vals xs its->Vals ys its'->yl2 A.in1 s ts us its its':=by
   intro ts us xs ys its its' htu h1 h2 r1 r2 j j1 j2
   have d:deps ts+1<=n/\deps us+1<=n:=by
    rcases htu with ⟨rfl,rfl⟩ | ⟨rfl,rfl⟩<;>exact⟨ht,hu⟩
   cases n with
   | zero=>omega
   | succ m =>
    rw[List.size_toArray] at j1 j2
    have k1:j < xs.length:=by rw[r1.length];exact j1
    have k2:j < ys.length:=by rw[r2.length];exact j2
    obtain⟨t1,e1,q1⟩:=h1.get (List.getElem?_eq_getElem k1)
    obtain⟨t2,e2,q2⟩:=h2.get (List.getElem?_eq_getElem k2)
    obtain⟨v1,f1,g1⟩:=r1.get (List.getElem?_eq_getElem k1)
    obtain⟨v2,f2,g2⟩:=r2.get (List.getElem?_eq_getElem k2)
    have z1:its.toArray[j]=v1:=by
     rw[List.getElem?_eq_getElem j1] at f1
     simpa using f1
    have z2:its'.toArray[j]=v2:=by
     rw[List.getElem?_eq_getElem j2] at f2
     simpa using f2
    have pe:ykR ts us j=eqT t1 t2:=by unfold ykR;rw[e1,e2]
    rw[z1,z2,pe]
    exact(rec m (Nat.lt_succ_self m) A.in1 t1 t2 _ _ v1 v2 (by have:=ylc e1;omega) (by have:=ylc e2;omega) q1 q2 g1 g2 (by show A.units+1+m < cLine;omega)).1
  have rc:=yrM I A t u x y v w hx hy rx ry (by omega) (by omega) ih
  refine⟨?_,rc⟩
  by_cases fl:ycA x=true/\ycA y=true
  ·cases t with
   | vl p =>
    cases u with
    | vl q =>
     rw[Rep] at hx
     rw[Rep] at hy
     obtain⟨rfl,fx⟩:=hx
     obtain⟨rfl,fy⟩:=hy
     rw[eqT]
     exact ykU rx ry fx fy
    | ls us=>rw[Rep] at hy;obtain⟨b,ys,rfl,_⟩:=hy;exact absurd (show false=true from fl.2) Bool.false_ne_true
    | tp us=>rw[Rep] at hy;obtain⟨b,ys,rfl,_⟩:=hy;exact absurd (show false=true from fl.2) Bool.false_ne_true
   | ls ts=>rw[Rep] at hx;obtain⟨b,ys,rfl,_⟩:=hx;exact absurd (show false=true from fl.1) Bool.false_ne_true
   | tp ts=>rw[Rep] at hx;obtain⟨b,ys,rfl,_⟩:=hx;exact absurd (show false=true from fl.1) Bool.false_ne_true
  ·intro prog w' E Q hq
   unfold eqBool
   refine wpAny_holding ?_
   have nf:∀ b tk,v≠Value.float b tk:=λb tk e=>by
    subst e
    cases t with
    | vl p =>
     rw[Rep] at hx
     obtain⟨rfl,fx⟩:=hx
     cases x<;>first | (simp[ycA] at fx;done) | (cases rx;done) | (obtain⟨_,z⟩:=rx;cases z;done)
    | ls ts=>rw[Rep] at hx;obtain⟨b,ys,rfl,_⟩:=hx;cases rx
    | tp ts=>rw[Rep] at hx;obtain⟨b,ys,rfl,_⟩:=hx;cases rx
   refine wpAny_ite_split (λhab=>?_) (λ_=>?_)
   ·have e:=eq_of_beq hab
    subst e
    have exy:x=y:=rx.inj ry
    subst exy
    rw[yiY I t u x hx hy] at hq
    exact wpAny_bind (wpAny_rule (wpAny_pure hq))
   ·have h2:=rc.1 prog w' E (λa s'=>wpAny (model prog w') A (truthOfDropped a) Q E s') (wpAny_truthy_bool hq)
    cases v with
    | float b tk=>exact absurd rfl (nf b tk)
    | _=>exact wpAny_bind h2
noncomputable def ymE (K:PySem.W.Frag):R2:=λx y H Q=>∃ t u,Rep K H x t/\Rep K H y u/\dep t<=60/\dep u<=60/\Q (.bl (eqT t u)) H
noncomputable def ypM (K:PySem.W.Frag):R2:=λx y H Q=>∃ t u,Rep K H x t/\Rep K H y u/\dep t<=60/\dep u<=60/\Q (.bl (!eqT t u)) H
end
theorem yb0 {X:Cx}(hu:X.A.units+64 < cLine):OpR X (compareOp .Eq) (ymE X.K):=by
 intro pins s σ H x y v u Q I rx ry h
 obtain⟨t,t',h1,h2,d1,d2,q⟩:=h
 exact(ylX I 60 X.A t t' x y v u d1 d2 h1 h2 rx ry (by omega)).2.1 _ _ _ _ ⟨.bl _,H,I,rfl,q⟩
theorem ydZ {X:Cx}(hu:X.A.units+64 < cLine):OpR X (compareOp .NotEq) (ypM X.K):=by
 intro pins s σ H x y v u Q I rx ry h
 obtain⟨t,t',h1,h2,d1,d2,q⟩:=h
 exact(ylX I 60 X.A t t' x y v u d1 d2 h1 h2 rx ry (by omega)).2.2 _ _ _ _ ⟨.bl _,H,I,rfl,q⟩
end L2
namespace L2
open PySem PySem.Spec PyProof.Rows
noncomputable def ygd (cells:List (Str×Addr)):List (Str×NameKind)->List (Str×Addr)->List (Str×Addr)
 | [],acc=>acc
 | (n,k) :: r,acc=>match k==.free,cells.lookup n with
  | true,some c=>ygd cells r ((n,c) :: acc)
  | _,_=>ygd cells r acc
theorem ykc {scope:Scope}{env:Env}(hf:∀ y∈scope.names,y.2=.free->∃ c,env.cells.lookup y.1=some c):closureFor scope env=pure (ygd env.cells scope.names []):=by
 unfold closureFor
 have key:∀ (names:List (Str×NameKind)) (acc:List (Str×Addr)),(∀ y∈names,y.2=.free->∃ c,env.cells.lookup y.1=some c) ->
   (forIn names acc λx r=>match x with | (name,kind)=>if (kind==NameKind.free)=true then do let a ← cellOf env name;pure (ForInStep.yield ((name,a) :: r)) else pure (ForInStep.yield r):Sem _)=pure (ygd env.cells names acc):=by
  intro names
  induction names with
  | nil=>intro acc _;rfl
  | cons y r ih =>
   intro acc h
   obtain⟨n,k⟩:=y
   rw[List.forIn_cons]
   have hr:∀ y∈r,y.2=.free->∃ c,env.cells.lookup y.1=some c:=λy hy=>h y (List.mem_cons_of_mem _ hy)
   by_cases hk:k=.free
   ·subst hk
    obtain⟨c,hc⟩:=h _ List.mem_cons_self rfl
    have e:cellOf env n=pure c:=by unfold cellOf;rw[show env.cells.lookup n=some c from hc]
    simp only[beq_self_eq_true,if_true,e]
    show(forIn r ((n,c) :: acc) _:Sem _)=_
    rw[ih _ hr]
    simp only[ygd,beq_self_eq_true,show env.cells.lookup n=some c from hc]
   ·have hb:(k==NameKind.free)=false:=by simpa using hk
    simp only[hb,Bool.false_eq_true,if_false]
    show(forIn r acc _:Sem _)=_
    rw[ih _ hr]
    simp only[ygd,hb]
 exact(congrArg (λm:Sem (List (Str×Addr))=>m >>= λcs=>pure cs) (key scope.names [] hf)).trans rfl
theorem ygC (cells:List (Str×Addr)):∀ (names:List (Str×NameKind)) (acc:List (Str×Addr)) (x:Str) (c:Addr),(x,c)∈ygd cells names acc->(x,c)∈acc∨cells.lookup x=some c
 | [],acc,x,c,h=>.inl h
 | (n,k) :: r,acc,x,c,h=>by
  rw[ygd] at h
  split at h
  ·rename_i c' h1 h2
   rcases ygC cells r _ x c h with q | q
   ·rcases List.mem_cons.mp q with q | q
    ·cases q;exact .inr h2
    ·exact .inl q
   ·exact .inr q
  ·exact ygC cells r _ x c h
theorem ygq (cells:List (Str×Addr)):∀ (names:List (Str×NameKind)) (acc:List (Str×Addr)) (p:Str×Addr),p∈acc->p∈ygd cells names acc
 | [],acc,p,h=>h
 | (n,k) :: r,acc,p,h=>by
  rw[ygd]
  split
  ·exact ygq cells r _ p (List.mem_cons_of_mem _ h)
  ·exact ygq cells r _ p h
theorem ygh (cells:List (Str×Addr)):∀ (names:List (Str×NameKind)) (acc:List (Str×Addr)) (x:Str) (c:Addr),(x,.free)∈names->cells.lookup x=some c->(x,c)∈ygd cells names acc
 | [],acc,x,c,h,_=>by simp at h
 | (n,k) :: r,acc,x,c,h,e=>by
  rw[ygd]
  rcases List.mem_cons.mp h with q | q
  ·cases q
   simp only[beq_self_eq_true,e]
   exact ygq cells r _ _ List.mem_cons_self
  ·split
   ·exact ygh cells r _ x c q e
   ·exact ygh cells r _ x c q e
theorem ydO:∀ {l:List (Str×Addr)} {x:Str} {c:Addr},(x,c)∈l->∃ c',l.lookup x=some c'
 | [],_,_,h=>by simp at h
 | (n,d) :: r,x,c,h=>by
  rw[List.lookup_cons]
  cases q:x==n with
  | true=>exact⟨d,rfl⟩
  | false =>
   rcases List.mem_cons.mp h with z | z
   ·cases z;simp at q
   ·exact ydO z
theorem yfS:∀ {l:List (Str×Addr)} {x:Str} {c:Addr},l.lookup x=some c->(x,c)∈l
 | [],_,_,h=>by simp at h
 | (n,d) :: r,x,c,h=>by
  rw[List.lookup_cons] at h
  cases q:x==n with
  | true =>
   rw[q] at h
   have e:x=n:=by simpa using q
   cases h
   rw[e]
   exact List.mem_cons_self
  | false =>
   rw[q] at h
   exact List.mem_cons_of_mem _ (yfS h)
theorem ybN {cells:List (Str×Addr)}{names:List (Str×NameKind)}{x:Str}{c:Addr}(h:(ygd cells names []).lookup x=some c):cells.lookup x=some c:=by
 rcases ygC cells names [] x c (yfS h) with q | q
 ·simp at q
 ·exact q
theorem yhr {cells:List (Str×Addr)}{names:List (Str×NameKind)}{x:Str}{c:Addr}(h:(x,.free)∈names)(e:cells.lookup x=some c):(ygd cells names []).lookup x=some c:=by
 obtain⟨c',q⟩:=ydO (ygh cells names [] x c h e)
 have:=ybN q
 rw[e] at this
 cases this
 exact q
theorem yks {prog:Program}{w:World}{A:Around}{R:Result->Shared->Prop}{s:Shared}{elt:Expr}{gs:List Comprehension}{scope:Scope}{pos:Pos}{it acc:Value}{env:Env}(St:Nat->Shared->Prop)
  (one:∀ n s,St n s->wpAny (model prog w) A (compTurn (.ListComp elt gs scope pos) 0 it acc env) (λf s'=>(∃ r,f=.done r/\R (.ok r) s')∨(f=.again (.compLoop (.ListComp elt gs scope pos) 0 it acc env)/\∃ m,m < n/\St m s')) (notedBy (model prog w) A env λe s'=>R (.error e) s') s)
  (n:Nat) (h:St n s):codeAny (model prog w) A (.compLoop (.ListComp elt gs scope pos) 0 it acc env) R s :=
 codeAny_loop rfl St (λn s hn=>(wpAny_noted (thn (one n s hn) λf s' z=>by
  rcases z with ⟨r,e,z⟩ | ⟨e,z⟩<;>subst e
  ·exact z
  ·exact⟨rfl,z⟩):wpAny (model prog w) A ((compTurn (.ListComp elt gs scope pos) 0 it acc env).onRaise _) _ _ s)) n h
noncomputable def cxB (X:Cx)(scope:Scope)(NB:List Str)(C:Addr)(s:Shared)(H:Hp)(ex:List Addr):Cx where
 prog:=X.prog
 w:=X.w
 K:=X.K
 mg:=X.mg
 base:=X.base
 A:=X.A
 N:=NB
 s₀:=s
 H₀:=H
 env:=compEnvC scope (ygd X.env.cells scope.names []) C X.env
 outer:=X.stack
 stack:=X.stack
 ex:=ex
 fn:=λ_=>false
 calm:=X.calm
 pn:=X.pn
 xe:=λ_ _=>False
noncomputable def stB (cap:List (Option Nat))(σ:St):St:=cap.map λo=>match o with
 | none=>none
 | some j=>(σ[j]?).getD none
structure BlockOk (X:Cx) (scope:Scope) (NB:List Str) (cap:List (Option Nat)):Prop where
 kind:scope.kind=.function
 cell:∀ y∈scope.names,y.2≠.cell
 names:∀ y∈scope.names,y.2=.local->scope.names.lookup y.1=some .local
 free:∀ y∈scope.names,y.2=.free->(X.env.kindOf y.1=some .cell∨X.env.kindOf y.1=some .free)
 len:cap.length=NB.length
 caps:∀ (i:Nat) (x:Str) (j:Nat),NB[i]?=some x->cap[i]?=some (some j)->X.N[j]?=some x/\(x,NameKind.free)∈scope.names/\((relabel scope X.env).names.lookup x=some .cell∨(relabel scope X.env).names.lookup x=some .free)
theorem yfa:∀ {l:List (Str×NameKind)} {x:Str} {c:NameKind},l.lookup x=some c->(x,c)∈l
 | [],_,_,h=>by simp at h
 | (n,d) :: r,x,c,h=>by
  rw[List.lookup_cons] at h
  cases q:x==n with
  | true =>
   rw[q] at h
   have e:x=n:=by simpa using q
   cases h
   rw[e]
   exact List.mem_cons_self
  | false =>
   rw[q] at h
   exact List.mem_cons_of_mem _ (yfa h)
theorem yhM {scope:Scope}{env:Env}{x:Str}(hc:∀ y∈scope.names,y.2≠.cell)(h:(relabel scope env).names.lookup x=some .cell∨(relabel scope env).names.lookup x=some .free):(x,NameKind.free)∈scope.names:=by
 have key:∀ k,(relabel scope env).names.lookup x=some k->(k=.cell∨k=.free)->(x,NameKind.free)∈scope.names:=by
  intro k hk hkk
  obtain⟨⟨n,k0⟩,hm,e⟩:=List.mem_map.mp (yfa hk)
  dsimp only at e
  split at e
  ·rename_i c
   cases e
   have:k0=.free:=by
    simp only[Bool.and_eq_true] at c
    simpa using c.1.1
   subst this
   exact hm
  ·cases e
   rcases hkk with rfl | rfl
   ·exact absurd rfl (hc _ hm)
   ·exact hm
 rcases h with h | h
 ·exact key _ h (.inl rfl)
 ·exact key _ h (.inr rfl)
section
variable {X:Cx} {pins:List (Addr×Obj)} {σ:St} {H:Hp} {s:Shared} {scope:Scope} {NB:List Str} {cap:List (Option Nat)}
theorem BlockOk.closure (B:BlockOk X scope NB cap)(ok:X.Ok):closureFor scope X.env=pure (ygd X.env.cells scope.names []):=ykc λy hy e=>ok.has y.1 (B.free y hy e)
theorem ykM {h₁:Heap}{m:Str->Option Value}{fp:List Addr}{tk:Nat}(B:BlockOk X scope NB cap)(I:Inv X pins σ H s)(hk:∀ b o,s.heap.get? b=some o->h₁.get? b=some o)(hn:h₁.Ns s.heap.objs.size m)
  (hf:∀ b∈fp,yfs X pins H b) (hlt:∀ b∈fp,b < s.heap.objs.size):Inv (cxB X scope NB s.heap.objs.size s H fp) pins (stB cap σ) H { s with heap:=h₁,toks:=tk }:=by
 have ltC:∀ {b:Addr} {o:Obj},s.heap.get? b=some o->b≠s.heap.objs.size:=λe=>Nat.ne_of_lt (Heap.lt_size e)
 refine⟨⟨I.ok.mod,B.kind,I.ok.glob,I.ok.blt,Nat.le_refl _,λx y c h1 h2=>I.ok.inj x y c (ybN h1) (ybN h2),λx hx=>?_,λx c h _=>absurd h (by simp[cxB]),I.ok.hd,I.ok.frames,.inl rfl,λb hb=>⟨Nat.ne_of_lt (hlt b hb),λx c e=>(hf b hb).2.2.2.2.1 x c (ybN e)⟩,
  I.bs,Nat.le_trans I.ok.bsz I.sz,λb o e hb=>?_,λb hb hs=>?_,I.stack,I.stkFree⟩,rfl,I.bare,Un.kept hk,⟨m,hn,λi x v e1 e2 e3=>?_⟩,λx c e=>?_,I.hok.fresh (Nat.le_refl _),λx c e=>I.freeC x c (ybN e),λp hp=>?_,I.hok.kept hk,?_⟩
 ·have hm:=yhM B.cell hx
  obtain⟨c,hc⟩:=I.ok.has x (B.free _ hm rfl)
  exact⟨c,yhr hm hc⟩
 ·rcases(hf b hb).2.2.2.1 with z | z
  ·exact I.ok.noex b o e z
  ·exact absurd (Nat.lt_of_lt_of_le (Heap.lt_size e) (Nat.le_trans I.ok.bsz z)) (Nat.lt_irrefl _)
 ·rcases List.mem_cons.mp (I.stkSub b hs) with z | z
  ·exact(hf b hb).2.1 z
  ·exact(hf b hb).2.2.1 z
 ·have e1:NB[i]?=some x:=e1
  have e2:(stB cap σ)[i]?=some (some v):=e2
  unfold stB at e2
  rw[List.getElem?_map] at e2
  cases q:cap[i]? with
  | none=>rw[q] at e2;cases e2
  | some o =>
   rw[q] at e2
   cases o with
   | none=>cases e2
   | some j =>
    have e2':(σ[j]?).getD none=some v:=by simpa using e2
    have e2'':σ[j]?=some (some v):=by
     cases z:σ[j]? with
     | none=>rw[z] at e2';cases e2'
     | some y=>rw[z] at e2';rw[show y=some v from e2']
    obtain⟨hN,hm,hk2⟩:=B.caps i x j e1 q
    obtain⟨m',hn',hl⟩:=I.loc
    have hkx:=B.free _ hm rfl
    obtain⟨u,ru,lk⟩:=hl j x v hN e2'' (.inr hkx)
    refine⟨u,ru,?_⟩
    rcases lk with ⟨kl,_⟩ | ⟨_,c,hc,hcell⟩
    ·rcases hkx with z | z<;>(rw[z] at kl;cases kl)
    ·obtain⟨oc,ho,hd⟩:=hcell
     exact .inr ⟨hk2,c,yhr hm hc,oc,hk c oc ho,hd⟩
 ·obtain⟨v,oc,ho,hd⟩:=I.cell x c (ybN e)
  exact⟨v,oc,hk c oc ho,hd⟩
 ·obtain⟨e,n,ne,nf,d⟩:=I.pin p hp
  refine⟨hk _ _ e,n,ltC e,λz=>?_,d⟩
  rcases List.mem_cons.mp (I.stkSub p.1 z) with z | z
  ·exact ne z
  ·exact nf z
 ·unfold stB
  rw[List.length_map]
  exact B.len
noncomputable def ypN (X:Cx)(ifs:List Expr)(t:TT):Prop :=
 ∀ (pins:List (Addr×Obj)) (s:Shared) (σ:St) (H:Hp) (Q:Bool->Hp->Prop),Inv X pins σ H s->t σ H Q ->
  wpAny (model X.prog X.w) X.A (forIn ifs true λc r=>if r=true then do let ok ← isTrue c X.env (eval c X.env);pure (ForInStep.yield ok) else pure (ForInStep.yield r)) (TP X pins σ Q) X.xe s
noncomputable def yft:TT:=λ_ H Q=>Q true H
theorem yaJ:ypN X [] yft:=λpins s σ H Q I h=>wpAny_tests_nil ⟨H,I,h⟩
theorem yja {c:Expr}{t:TT}(h:PT X c t):ypN X [c] t:=λpins s σ H Q I q=>wpAny_tests_one (h pins s σ H Q I q)
noncomputable def ydG (J:It)(g:TG)(tc:TT)(te:TE)(D:Addr)(Fin:Hp->Prop)(W:Nat->Nat->St->Hp->Prop):Prop :=
 ∀ i m σ H,W i m σ H->(J.stop i H/\Fin H)∨(J.go i H/\∃ N:St->Hp->Prop,(∀ σ' H',N σ' H'->∃ m',m' < m/\W (i+1) m' σ' H') /\
  ∀ x H',J.yld i H x H'->g x σ H' fun σ2 H2=>tc σ2 H2 λb H3=>if b=true then te σ2 H3 λy H4=>∃ ys,H4 D=some (.lst ys)/\ys.length < sizeLine/\N σ2 (upd H4 D (.lst (ys++[y]))) else N σ2 H3)
noncomputable def yiI (wi:TI)(cap:List (Option Nat))(g:TG)(tc:TT)(te:TE):TE:=fun σ H Q=>wi σ H λJ H1=>∀ D,H1 D=none ->
 ∃ W:Nat->Nat->St->Hp->Prop,(∃ m,W 0 m (stB cap σ) (upd H1 D (.lst [])))/\ydG J g tc te D (λH'=>Q (.ref D) H') W
theorem yhS {elt tg iter:Expr}{ifs:List Expr}{pos:Pos}{it:Addr}{fp:List Addr}{tn:Nat->Heap->Prop}{J:It}{g:TG}{tc:TT}{te:TE}{E:Value->Shared->Prop}{RR:Value->Addr->Result->Shared->Prop}{Qd:Addr->Hp->Prop}
  (B:BlockOk X scope NB cap) (hc:X.calm=true) (hg:∀ C s H ex,PG (cxB X scope NB C s H ex) tg g) (ht:∀ C s H ex,ypN (cxB X scope NB C s H ex) ifs tc) (he:∀ C s H ex,PE (cxB X scope NB C s H ex) elt te)
  (I:Inv X pins σ H s) (T:ynC X.prog X.w X.K tg J fp it tn) (st:tn 0 s.heap) (hf:∀ b∈fp,yfs X pins H b)
  (rd:∀ D,H D=none->∃ W:Nat->Nat->St->Hp->Prop,(∃ m,W 0 m (stB cap σ) (upd H D (.lst [])))/\ydG J g tc te D (Qd D) W)
  (hRR:∀ D C H' s' m',Inv X pins σ H' s'->s'.heap.Ns C m'->yfs X pins H' C->Qd D H'->RR (.ref D) C (.ok .next) s') :
  wpAny (model X.prog X.w) X.A (newList []) (λacc s₃=>wpAny (model X.prog X.w) X.A (newFunctionEnv scope X.env.globals (ygd X.env.cells scope.names []) [] X.env.qual none .none (some X.env)) (λcenv s₄ =>
   codeAny (model X.prog X.w) X.A (.compStart (.ListComp elt [⟨tg,iter,ifs,0⟩] scope pos) 0 (.ref it) acc { cenv with scope:=relabel scope X.env }) (RR acc cenv.locals) s₄) E s₃) E s:=by
 have hlt:∀ b∈fp,b < s.heap.objs.size:=λb hb=>by
  obtain⟨o,e,_⟩:=T.obj _ _ st b hb
  exact Heap.lt_size e
 have hD:H s.heap.objs.size=none:=I.hok.fresh (Nat.le_refl _)
 obtain⟨W,⟨m0,w0⟩,cw⟩:=rd _ hD
 refine wpAny_newObj_type (wpAny_newFunctionEnv B.cell (by intro y hy;simp at hy) (λh₁ hns₁ hsb₁=>?_) B.kind)
 dsimp only at hns₁ hsb₁ ⊢
 have I3:Inv X pins σ (upd H s.heap.objs.size (.lst [])) { s with heap:=s.heap.push { cls:=.type "list",dict:=none,data:=.seq ([]:List Value).toArray } } :=
  I.laid (t':=s.toks) (λb o e=>Heap.get?_push_of_some _ e) (Nat.le_refl _) ⟨Nat.zero_le _,[],0,.nil,Heap.get?_push_size _ rfl⟩
 have up:∀ b o,s.heap.get? b=some o->(s.heap.push { cls:=.type "list",dict:=none,data:=.seq ([]:List Value).toArray }).get? b=some o:=λb o e=>Heap.get?_push_of_some _ e
 have hf3:∀ b∈fp,yfs X pins (upd H s.heap.objs.size (.lst [])) b:=λb hb=>⟨by rw[yaB (Nat.ne_of_lt (hlt b hb))];exact(hf b hb).1,(hf b hb).2⟩
 generalize hH2:s.heap.push { cls:=.type "list",dict:=none,data:=.seq ([]:List Value).toArray }=H2 at hns₁ hsb₁ I3 up ⊢
 have hlt3:∀ b∈fp,b < H2.objs.size:=λb hb=>by
  rw[← hH2,Heap.size_push]
  exact Nat.lt_succ_of_lt (hlt b hb)
 have keep:∀ b o,H2.get? b=some o->h₁.get? b=some o:=λb o e=>hsb₁.extBut b o (Nat.ne_of_lt (Heap.lt_size e)) (Heap.get?_push_of_some _ e)
 have IB:=λtk=>ykM (tk:=tk) (s:={ s with heap:=H2 }) B I3 keep hns₁ hf3 hlt3
 have st1:tn 0 h₁:=T.keep _ _ _ st λb hb o e=>keep b o (up b o e)
 generalize hX':cxB X scope NB H2.objs.size { s with heap:=H2 } (upd H s.heap.objs.size (.lst [])) fp=X' at IB
 have fpB:∀ {pins':List (Addr×Obj)} {H':Hp},pins'=pins->(∀ b∈fp,H' b=none)->∀ b∈fp,yfs X' pins' H' b:=λ{pins' H'} ep hn b hb=>by
  subst ep
  subst hX'
  obtain⟨_,f1,f2,f3,f4,f5⟩:=hf b hb
  refine⟨hn b hb,Nat.ne_of_lt (hlt3 b hb),λz=>?_,.inl hb,λx c e=>f4 x c (ybN e),f5⟩
  rcases List.mem_cons.mp (I3.stkSub b z) with z | z
  ·exact f1 z
  ·exact f2 z
 have hg':=hg H2.objs.size { s with heap:=H2 } (upd H s.heap.objs.size (.lst [])) fp
 have ht':=ht H2.objs.size { s with heap:=H2 } (upd H s.heap.objs.size (.lst [])) fp
 have he':=he H2.objs.size { s with heap:=H2 } (upd H s.heap.objs.size (.lst [])) fp
 rw[hX'] at hg' ht' he'
 have pP:X'.prog=X.prog:=by subst hX';rfl
 have pw:X'.w=X.w:=by subst hX';rfl
 have pK:X'.K=X.K:=by subst hX';rfl
 have pA:X'.A=X.A:=by subst hX';rfl
 have pc:X'.calm=true:=by subst hX';exact hc
 have pe:X'.env=compEnvC scope (ygd X.env.cells scope.names []) H2.objs.size X.env:=by subst hX';rfl
 have px:X'.xe=λ_ _=>False:=by subst hX';rfl
 have fin:∀ {σ':St} {H':Hp} {s':Shared},Inv X' pins σ' H' s'->Qd s.heap.objs.size H'->RR (.ref s.heap.objs.size) H2.objs.size (.ok .next) s':=λ{σ' H' s'} I' q=>by
  have os':s'.os=s.os:=by have:=I'.os;subst hX';exact this
  have un':Un (frs X.stack) fp (upd H s.heap.objs.size (.lst [])) H' H2 s'.heap:=by have:=I'.base;subst hX';exact this
  have IX:Inv X pins σ H' s':=I3.call' (s':=s') (ch:=fp) os' un' (by have:=I'.hok;rw[pP,pw] at this;exact this) I'.bare λb hb=>⟨(hf b hb).2.2.2.1,(hf b hb).2.1,(hf b hb).2.2.2.2.1,(hf b hb).2.2.2.2.2⟩
  obtain⟨m,hn,_⟩:=I'.loc
  have hfr:=I'.free
  rw[pe] at hn hfr
  exact hRR _ _ H' s' m IX hn (I3.fpOk (Nat.le_refl _) hfr) q
 have loop:∀ s₃:Shared,s₃={ s with heap:=h₁,toks:=s.toks+([]:List (Str×Value)).length } ->
   codeAny (model X.prog X.w) X.A (.compLoop (.ListComp elt [⟨tg,iter,ifs,0⟩] scope pos) 0 (.ref it) (.ref s.heap.objs.size) (compEnvC scope (ygd X.env.cells scope.names []) H2.objs.size X.env))
    (RR (.ref s.heap.objs.size) H2.objs.size) s₃:=by
  rintro s₃ rfl
  refine yks (λn s'=>∃ i σ' H',Inv X' pins σ' H' s'/\tn i s'.heap/\(∀ b∈fp,H' b=none)/\W i n σ' H') ?_ m0 ⟨0,stB cap σ,_,IB _,st1,λb hb=>(hf3 b hb).1,w0⟩
  rintro n s3 ⟨i,σ3,H3,I3',st3,fr3,w3⟩
  rw[← pe]
  rw[← pP,← pw,← pK] at T
  rw[← pP,← pw,← pA]
  rw[compTurn_list]
  refine wpAny_bind (wpAny_standAt (wpAny_bind ?_))
  rcases cw i n σ3 H3 w3 with ⟨stop,qn⟩ | ⟨go,N,hN,step⟩
  ·refine thn (T.done X' rfl rfl rfl pc i pins s3 σ3 H3 _ I3' (fpB rfl fr3) st3 stop) λr s4 ⟨hr,I4⟩=>?_
   subst hr
   exact wpAny_pure (.inl ⟨_,rfl,fin I4 qn⟩)
  ·refine thn (T.item X' rfl rfl rfl pc i pins s3 σ3 H3 _ I3' (fpB rfl fr3) st3 go) λr s4 ⟨u,hr,h4⟩=>?_
   subst hr
   refine wpAny_bind (thn h4 λ_ s5 ⟨x,H5,I5,r5,y5,st5,fr5⟩=>?_)
   have I5':=I5.pinned (fpB rfl fr5) (T.obj _ _ st5)
   have no:∀ {E':Value->Shared->Prop} (e:Value) (s':Shared),X'.xe e s'->E' e s':=λe s' z=>by rw[px] at z;exact z.elim
   refine wpAny_bind (wpAny_mono (hg' _ s5 σ3 H5 x u _ I5' r5 (step x H5 y5)) (λ_ s6 ⟨σ6,H6,I6,q6⟩=>?_) no)
   have again:∀ {σ7:St} {H7:Hp} {s7:Shared},Inv X' (pins++ygO fp s5.heap) σ7 H7 s7->N σ7 H7->∃ m,m < n/\∃ i σ' H',Inv X' pins σ' H' s7/\tn i s7.heap/\(∀ b∈fp,H' b=none)/\W i m σ' H':=λ{σ7 H7 s7} I7 n7=>by
    obtain⟨m',hm,w7⟩:=hN σ7 H7 n7
    refine⟨m',hm,i+1,σ7,H7,I7.unpinned,T.keep _ _ _ st5 λb hb o e=>(I7.pin (b,o) (List.mem_append_right _ (List.mem_append_right _ (ydu hb e)))).1,λb hb=>?_,w7⟩
    obtain⟨o,e,d⟩:=T.obj _ _ st5 b hb
    exact(I7.pin (b,o) (List.mem_append_right _ (List.mem_append_right _ (ydu hb e)))).2.1
   refine wpAny_bind (wpAny_mono (ht' _ s6 σ6 H6 _ I6 q6) (λb s7 ⟨H7,I7,q7⟩=>?_) no)
   cases b with
   | false=>exact wpAny_pure (.inr ⟨rfl,again I7 q7⟩)
   | true =>
    refine wpAny_bind (wpAny_bind (wpAny_mono (he' _ s7 σ6 H7 _ I7 q7) (λyv s8 ⟨y,H8,I8,r8,ys,hy,hz,q8⟩=>?_) no))
    refine wpAny_bind (wpAny_mono (yaP (X:=X') _ s8 σ6 H8 (.ref s.heap.objs.size) [y] _ [yv] (λ_ H9=>N σ6 H9) I8 rfl (.cons r8 .nil) ⟨_,ys,y,rfl,rfl,hy,hz,q8⟩) (λ_ s9 ⟨_,H9,I9,_,q9⟩=>wpAny_pure (wpAny_pure (.inr ⟨rfl,again I9 q9⟩))) no)
 exact codeAny_compStart_list (loop _ rfl) (T.self _ 0 _ _ _ st1 (loop _ rfl))
theorem ya8 {elt tg iter:Expr}{ifs:List Expr}{pos:Pos}{wi:TI}{g:TG}{tc:TT}{te:TE}(B:BlockOk X scope NB cap)(hc:X.calm=true)(hi:PI X tg iter wi)
  (hg:∀ C s H ex,PG (cxB X scope NB C s H ex) tg g) (ht:∀ C s H ex,ypN (cxB X scope NB C s H ex) ifs tc) (he:∀ C s H ex,PE (cxB X scope NB C s H ex) elt te) (hs:∀ x,foldedSetIterable iter X.env x=pure x:=by intro _;rfl) :
  PE X (.ListComp elt [⟨tg,iter,ifs,0⟩] scope pos) (yiI wi cap g tc te):=by
 intro pins s σ H Q I h
 rw[eval_ListComp]
 refine wpAny_comprehension_free (use:=none) rfl hs (B.closure I.ok) B.kind B.names (thn (hi pins s σ H _ I h) λv s1 h1=>thn h1 λitv s2 h2=>?_)
 obtain⟨it,fp,tn,J,H2,e,I2,T,st2,f2,rd⟩:=h2
 subst e
 refine yhS (RR:=λacc C=>compPost (model X.prog X.w) X.A X.xe none (EP X pins σ Q) acc C) (Qd:=λD H'=>Q (.ref D) H') B hc hg ht he I2 T st2 f2 rd ?_
 intro D C H' s' m' I' hn hfp q
 obtain⟨f0,f1,f2',f3,f4,f5⟩:=hfp
 refine⟨m',hn,λh' sb=>⟨.ref D,H',I'.turned (t':=s'.toks) (it:=C) (λb o hb e=>(sb.2 b hb).trans e) f0 f1 f3 f4 f5,rfl,q⟩⟩
noncomputable def yjU (i:Nat)(te:TE):TS:=λD σ H=>te σ H λx H1=>D.nx (σ.set i (some x)) H1
theorem ybQ {i:Nat}{y:Str}{elt tg iter:Expr}{ifs:List Expr}{pos spos py:Pos}{wi:TI}{g:TG}{tc:TT}{te:TE}(hN:X.N.Nodup)(hi':X.N[i]?=some y)(hx:Loc X.env.scope y)(B:BlockOk X scope NB cap)(hc:X.calm=true)(hi:PI X tg iter wi)
  (hg:∀ C s H ex,PG (cxB X scope NB C s H ex) tg g) (ht:∀ C s H ex,ypN (cxB X scope NB C s H ex) ifs tc) (he:∀ C s H ex,PE (cxB X scope NB C s H ex) elt te)
  (hsw:swapsWith (.ListComp elt [⟨tg,iter,ifs,0⟩] scope pos) (some (.Name y py)) spos.line X.env=pure true:=by rfl)
  (hf:X.fn y=true∨X.env.scope.names.lookup y=some .local:=by first | exact .inl rfl | exact .inr rfl | assumption) (hs:∀ x,foldedSetIterable iter X.env x=pure x:=by intro _;rfl) :
  PS X (.Assign [.Name y py] (.ListComp elt [⟨tg,iter,ifs,0⟩] scope pos) spos) (yjU i (yiI wi cap g tc te)):=by
 intro pins s σ H D I h
 rw[exec_Assign_Name_used _ _ _ _ hsw]
 refine wpAny_bind (wpAny_standAt (wpAny_bind ?_))
 show wpAny _ X.A (do let _ ← comprehension (.ListComp elt [⟨tg,iter,ifs,0⟩] scope pos) scope X.env _ (newList []) false (eval iter X.env) (some (assign (.Name y py) X.env))) _ _ s
 refine wpAny_bind (wpAny_mono (wpAny_comprehension_free (use:=some (assign (.Name y py) X.env)) (Q:=λ_ s'=>SP X pins D .next s') rfl hs (B.closure I.ok) B.kind B.names
  (thn (hi pins s σ H _ I h) λv s1 h1=>thn h1 λitv s2 h2=>?_)) (λ_ s' hq=>wpAny_pure (wpAny_pure hq)) λ_ _ e=>e)
 obtain⟨it,fp,tn,J,H2,e,I2,T,st2,f2,rd⟩:=h2
 subst e
 refine yhS (RR:=λacc C=>compPost (model X.prog X.w) X.A X.xe (some (assign (.Name y py) X.env)) (λ_ s'=>SP X pins D .next s') acc C) (Qd:=λd H'=>D.nx (σ.set i (some (.ref d))) H') B hc hg ht he I2 T st2 f2 rd ?_
 intro d C H' s' m' I' hn hfp q
 show wpAny _ X.A (assign (.Name y py) X.env (.ref d)) _ _ _
 refine wpAny_assign_Name (yhz (v:=.ref d) I' hN hi' hx rfl (λs'' I'' sb=>?_) hf)
 obtain⟨f0,f1,f2',f3,f4,f5⟩:=hfp
 obtain⟨a,sa,ha⟩:=sb
 have haC:C≠a:=by
  rcases ha with z | z
  ·rw[z];exact f1
  ·exact λe=>f4 y a z e.symm
 refine⟨m',hn.sameBut sa haC,λh' sb=>⟨_,H',I''.turned (t':=s''.toks) (it:=C) (λb o hb e=>(sb.2 b hb).trans e) f0 f1 f3 f4 f5,q⟩⟩
end
end L2
namespace PB
open PySem
open PySem.Sem (wp)
open PySem.AutoSeq1 (wpAny_loadPart')
noncomputable def itO (l:Addr):Obj:={ cls:=.type "list_iterator",data:=.fields #[.ref l,.int 0 0] }
noncomputable def enO (it:Addr)(k:Int):Obj:={ cls:=.type "enumerate",data:=.fields #[.none,.bool false,.ref it,rawInt k,.none,.none] }
theorem ymw (l:Addr)(items:Array Value)(n:Nat)(dct:Option Addr)(sl:Array (Option Value))(k:Int)(t:Tok)(hk:Builtin.SmallTypes.fitsIndex k=true) :
  Meets (Builtin.«enumerate.__new__» ⟨[.type "enumerate",.ref l],[("start",.int k t)]⟩) (λ_ R s=>s.heap.get? l=some ⟨.type "list",dct,.seq items n,sl⟩ /\
   R (.ok (.ret (.ref (s.heap.push (itO l)).objs.size))) { s with heap:=(s.heap.push (itO l)).push (enO s.heap.objs.size k) }):=by
 refine .of_wp λprog w A R s ⟨hl,h⟩=>?_
 obtain⟨hp,g,d,tk,os⟩:=s
 have sb:=sub_enumerate
 have hL:Heap.IsList hp l items:=⟨_,hl,rfl,n,rfl⟩
 wp_walk using wpAny_loadPart' hl
 refine wpAny_stack_any λst=>wpAny_pure ?_
 split
 ·rename_i c _ _ _ _ _
  cases (c==Value.type "enumerate")<;>(wp_walk using wpAny_loadPart' hl,wpAny_pyIter_list hL;exact⟨_,rfl,h⟩)
 ·wp_walk using wpAny_loadPart' hl,wpAny_pyIter_list hL
  exact⟨_,rfl,h⟩
theorem yps {T newId:String}{self:Value}{rest:List Value}{kw:List (Str×Value)}(hl:typeLookup (.type T) "__init__"=pure (some (.builtin "object.__init__")))(hm:Bind.madeBy (.type T)=pure (some newId))(hne:(some newId != some "object.__new__")=true) :
  Meets (Builtin.«object.__init__» ⟨self :: rest,kw⟩) (λ_ R s=>s.TypeIs self T/\R (.ok (.ret .none)) s):=.of_wp λprog w A R s ⟨hT,hq⟩=>by
 cases rest with
 | cons a rest =>
  repeat (any_goals (first | assumption | wp_step))
  exact⟨_,rfl,hq⟩
 | nil =>
  cases kw with
  | nil=>exact wpAny_pure ⟨_,rfl,hq⟩
  | cons a kw =>
   repeat (any_goals (first | assumption | wp_step))
   exact⟨_,rfl,hq⟩
theorem yoT {prog:Program}{w:World}{A:Around}{E:Value->Shared->Prop}{s:Shared}{T newId:String}{Bn:Builtin}{args:List Value}{kw:List (Str×Value)}{S:Spec}{Q:Value->Shared->Prop}(ft:TypeCalled T newId "object.__init__")
  (hne:(some newId != some "object.__new__")=true) (hct:checkTypeCall T ⟨args,kw⟩=pure ()) (hcn:checkBuiltinCall newId ⟨.type T :: args,kw⟩=pure ()) (hok:∀ obj,argsOk "object.__init__" ⟨obj :: args,kw⟩) (entryN:entryFor table newId=some Bn) (g:Meets (Bn ⟨.type T :: args,kw⟩) S)
  (h:S A.in1 (wants (λobj s₁=>s₁.TypeIs obj T/\Q obj s₁) E) s):wpAny (model prog w) A (call (.type T) args kw) Q E s:=by
 obtain⟨c,tl,hmro⟩:=ft.mro
 have hmade:=ft.made
 have h1:=ft.notType
 have h2:=ft.canCreate
 have h3:=ft.sub
 refine wpAny_call (codeAny_of_tree (?_:wpAny _ _ (callAny (.type T) _) _ _ _))
 refine wpAny_pure ⟨Code.quiet_builtin _ (by decide +kernel),codeAny_builtin F.entry_type_call (?_:wpAny _ (Around.under _ _) _ _ _ _)⟩
 rw[Around.under_plain (weight_type_call_type T args kw) (units_type_call_type T args kw)]
 repeat (any_goals (first | assumption | wp_step))
 refine codeAny_mono (codeAny_call_builtin ft.plain entryN (wpAny_of_eq hcn (g prog w A.in1 _ s h))) fun | .error e,s₁,hr=>hr | .ok (.ret obj),s₁,hr=>?_ | .ok .next,s₁,hr=>hr.elim | .ok .brk,s₁,hr=>hr.elim | .ok .cont,s₁,hr=>hr.elim
 have hT:s₁.TypeIs obj T:=hr.1
 have hli:=ft.init.lookup
 have hbi:=ft.init.bind obj
 repeat (any_goals (first | assumption | wp_step))
 have im:=yps (self:=obj) (rest:=args) (kw:=kw) hli hmade hne prog w A.in1 (λr s₂=>(match r with | .ok (.ret v)=>v=.none | _=>False)/\s₂=s₁) s₁ ⟨hT,rfl,rfl⟩
 refine codeAny_mono (R:=λr s₂=>(match r with | .ok (.ret v)=>v=.none | _=>False)/\s₂=s₁) (codeAny_call_builtin ft.init.plain F.entry_object_init (ft.init.check _ _ _ _ _ _ _ _ hT (hok obj) im)) λr s₂ ⟨e1,e2⟩=>?_
 subst e2
 have hq:Q obj s₂:=hr.2
 match r,e1 with
 | .ok (.ret v),e1 =>
  have e1:v=.none:=e1
  subst e1
  repeat (any_goals (first | assumption | wp_step))
theorem yns (a b:Value):checkTypeCall "enumerate" ⟨[a],[("start",b)]⟩=pure ():=by kernel_rfl
theorem ymO (a b:Value):checkBuiltinCall "enumerate.__new__" ⟨[.type "enumerate",a],[("start",b)]⟩=pure ():=by kernel_rfl
theorem ynO (o a b:Value):argsOk "object.__init__" ⟨[o,a],[("start",b)]⟩:=by unfold argsOk;rw[signature?_of (n:=['_','_','t','i','n','i','_','_']) (o:=['t','c','e','j','b','o']) (id := "object.__init__") (by kernel_rfl) F.owner_object];kernel_rfl
theorem call_start {prog:Program}{w:World}{A:Around}{E:Value->Shared->Prop}{s:Shared}{l:Addr}{items:Array Value}{k:Int}{t:Tok}{Q:Value->Shared->Prop}(hk:Builtin.SmallTypes.fitsIndex k=true)(hL:s.heap.IsList l items)
  (h:∀ h',IsEnum h' (s.heap.objs.size+1) s.heap.objs.size k .none->h'.IsListIter s.heap.objs.size l 0->(∀ b o,s.heap.get? b=some o->h'.get? b=some o)->Q (.ref (s.heap.objs.size+1)) { s with heap:=h' }) :
  wpAny (model prog w) A (call (.type "enumerate") [.ref l] [("start",.int k t)]) Q E s:=by
 obtain⟨⟨c,dct,dt,sl⟩,hl,rfl,n,rfl⟩:=hL
 refine yoT F.called_enumerate (by decide) (yns _ _) (ymO _ _) (λobj=>ynO obj _ _) F.entry_enumerate_new (ymw l items n dct sl k t hk) ⟨hl,?_⟩
 have hz:(s.heap.push (itO l)).objs.size=s.heap.objs.size+1:=Heap.size_push ..
 have he:=Heap.get?_push_size (s.heap.push (itO l)) (o:=enO s.heap.objs.size k) rfl
 show _/\_
 rw[hz] at he ⊢
 exact⟨⟨_,he,rfl⟩,h _ he ⟨_,Heap.get?_push_of_some _ (Heap.get?_push_size _ rfl),rfl,rfl⟩ λb o x=>Heap.get?_push_of_some _ (Heap.get?_push_of_some _ x)⟩
theorem draws_from {prog:Program}{w:World}{A:Around}{it:Addr}{fp:List Addr}{n:Nat}{P:Nat->Value->Prop}{St:Nat->Heap->Prop}(D:Draws prog w A it fp n P St)(k:Nat):Draws prog w A it fp (n+k) (λi x=>P (i - k) x) (λi h=>k<=i/\St (i - k) h) where
 live:=λi h st=>D.live _ h st.2
 frame:=λi h h' st f=>⟨st.1,D.frame _ h h' st.2 f⟩
 item:=λi s Q E hi st hQ=>D.item _ s Q E (by have:=st.1;omega) st.2 λx h' tk p st' sb=>hQ x h' tk p ⟨by have:=st.1;omega,by rw[Nat.sub_add_comm st.1];exact st'⟩ sb
 done:=λs Q E st hE=>D.done s Q E (by have:=st.2;rwa [Nat.add_sub_cancel] at this) hE
end PB
namespace L2
section
open PySem PySem.SeqAt
open AutoSeq1 (wpAny_loadPart')
open MeetsSeq MeetsSeq2 MeetsSeq3 SeqRoads2
theorem ygu (l:Addr)(items:Array Value)(n:Nat)(dd:Option Addr)(sl:Array (Option Value))(x:Value)(e:Nat->Bool)(j:Nat)(hj:j < items.size)(hit:e j=true)(hno:∀ m,m < j->e m=false) :
  Meets (Builtin.«tuple.index» ⟨[.ref l,x],[]⟩)
   (λA R s=>s.heap.get? l=some { cls:=.type "tuple",dict:=dd,data:=.seq items n,slots:=sl }/\(∀ i (h:i < items.size),EqAt A.in1 s items[i] x (e i)) /\
    R (.ok (.ret (.int j s.toks))) { s with toks:=s.toks+1 }) :=
 .of_wp λprog w A R s h=>by
  obtain⟨hp,g,d,tk,os⟩:=s;obtain⟨hl,he,h⟩:=h
  unfold Builtin.«tuple.index»
  simp only[Std.Legacy.Range.forIn_eq_forIn_range']
  wp_walk using wpAny_loadPart' hl,wpAny_forIn_list _ (λrest b s'=>b.1=none/\s'=⟨hp,g,d,tk,os⟩/\∃ i,i<=j/\rest=(List.range items.size).drop i) _
  case turn =>
   rintro i rest b s' ⟨hb,rfl,i',hi',hr⟩
   have hlt:i' < (List.range items.size).length:=by simp;omega
   rw[List.drop_eq_getElem_cons hlt] at hr
   injection hr with h1 h2
   have e1:i=i':=by simpa using h1
   subst e1
   have hi:i < items.size:=by simpa using hlt
   have e2:items[i]?=some items[i]:=by simp[hi]
   rw[e2]
   refine wpAny_bind (he i hi prog w _ _ ?_)
   cases hy:e i with
   | true =>
    have:i=j:=by
     rcases Nat.lt_or_ge i j with q | q
     ·rw[hno i q] at hy;cases hy
     ·omega
    subst this
    wp_walk
    exact⟨_,rfl,h⟩
   | false =>
    have:i≠j:=λq=>by subst q;rw[hit] at hy;cases hy
    wp_walk
    exact⟨rfl,rfl,i+1,by omega,h2⟩
  case fin =>
   rintro⟨b1,b2⟩ s' ⟨hb,rfl,i,hi,hr⟩
   have:(List.range items.size).drop i≠[]:=by
    intro q
    have:=congrArg List.length q
    simp at this
    omega
   exact absurd hr.symm this
  case h =>
   exact⟨rfl,rfl,0,Nat.zero_le _,by simp[List.range_eq_range']⟩
end
open PySem PySem.Spec PyProof.Rows
section
variable {X:Cx}
noncomputable def yuH (K:PySem.W.Frag):V->List V->Hp->VK->Prop:=λx vs H Q=>∃ a xs y j z,x=.ref a/\vs=[y]/\SqT K H a xs/\ycA y=true/\xs.all ycA=true/\xs[j]?=some z/\eqV z y=true /\
 (∀ m z',m < j->xs[m]?=some z'->eqV z' y=false)/\Q (.int (j:Nat)) H
theorem yhV:MtR X "tuple.index" (yuH X.K):=by
 intro pins s σ H x vs v us Q I rx rv h
 obtain⟨a,xs,y,j,z,rfl,rfl,hq,fy,fs,hj,hit,hno,q⟩:=h
 cases rx
 obtain⟨u,rfl,ru⟩:=rv.one
 obtain⟨its,r,pl,hz⟩:=I.tuple hq
 obtain⟨⟨cls,dd,data,sl⟩,ho,hc,n,hd⟩:=id pl
 simp only at hc hd
 subst hc hd
 obtain⟨w',ew,rw'⟩:=r.get hj
 have all1:∀ (i:Nat) (k:V),xs[i]?=some k->ycA k=true:=λi k hk=>by
  rw[List.all_eq_true] at fs
  exact fs k (List.mem_of_getElem? hk)
 have hjl:j < its.length:=(List.getElem?_eq_some_iff.mp ew).1
 refine call_meets F.slot_tuple_index ⟨_,ho,rfl⟩ F.entry_tuple_index (F.args_tuple_index_2 _ _) (ygu a its.toArray n dd sl u (λi=>match its[i]? with | some k=>eqU y k | none=>false) j (by simpa using hjl) ?_ ?_) ⟨ho,λi hi=>?_,?_⟩
 ·show(match its[j]? with | some k=>eqU y k | none=>false)=true
  rw[ew]
  show eqU y w'=true
  rw[yg7 rw' (all1 _ _ hj)]
  exact hit
 ·intro m hm
  show(match its[m]? with | some k=>eqU y k | none=>false)=false
  have hm':m < its.length:=Nat.lt_trans hm hjl
  have hmx:m < xs.length:=by rw[r.length];exact hm'
  obtain⟨w2,e2,r2⟩:=r.get (List.getElem?_eq_getElem hmx)
  rw[e2]
  show eqU y w2=false
  rw[yg7 r2 (all1 _ _ (List.getElem?_eq_getElem hmx))]
  exact hno m _ hm (List.getElem?_eq_getElem hmx)
 ·have hi':i < its.length:=by simpa using hi
  have hx':i < xs.length:=by rw[r.length];exact hi'
  obtain⟨w2,e2,r2⟩:=r.get (List.getElem?_eq_getElem hx')
  have e3:its.toArray[i]=w2:=by
   rw[List.getElem?_eq_getElem hi'] at e2
   simpa using e2
  show SeqAt.EqAt _ _ its.toArray[i] u (match its[i]? with | some k=>eqU y k | none=>false)
  rw[e3,e2]
  show SeqAt.EqAt _ _ w2 u (eqU y w2)
  rw[yg7 r2 (all1 _ _ (List.getElem?_eq_getElem hx'))]
  exact ykU r2 ru (all1 _ _ (List.getElem?_eq_getElem hx')) fy
 ·exact⟨.int _,H,I.tok _,⟨_,rfl⟩,q⟩
theorem ymA (bs:List Bool):(List.range bs.length).all (λi=>(bs[i]?).getD true)=bs.all id:=by
 induction bs with
 | nil=>rfl
 | cons b r ih =>
  rw[List.length_cons,List.range_succ_eq_map,List.all_cons,List.all_map,List.all_cons,← ih]
  rfl
noncomputable def ysi (K:PySem.W.Frag):List V->Hp->VK->Prop:=λxs H Q=>∃ (p:Addr) (bs:List Bool),xs=[.ref p]/\SqL K H p (bs.map V.bl)/\Q (.bl (bs.all id)) H
theorem ycQ (hc:X.calm=true):ycC X (.builtin "all") (ysi X.K):=by
 intro pins s σ H xs us Q I r h
 obtain⟨p,bs,rfl,hq,q⟩:=h
 obtain⟨u,rfl,ru⟩:=yed r
 cases ru
 obtain⟨its,rv,pl,hz⟩:=I.list hq
 have hlt:p < s.heap.objs.size:=by obtain⟨_,e,_⟩:=pl.isList;exact Heap.lt_size e
 refine call_all_walk (wpAny_pyIter_list pl.isList ?_)
 refine⟨s.heap.objs.size,_,_,_,_,_,(λi=>(bs[i]?).getD true),rfl,Walks.list (A:=X.A.in1) (I.ok.hd hc) s.heap.objs.size p (Nat.ne_of_lt hlt) its.toArray,⟨⟨_,Heap.get?_push_size _ rfl,rfl,rfl⟩,pl.isList.push _⟩,?_,?_⟩
 ·intro i v s' Q' E' hP hQ'
  have hv:its[i]?=some v:=by simpa using hP
  have hi:i < its.length:=(List.getElem?_eq_some_iff.mp hv).1
  have hb:i < bs.length:=by
   have:=rv.length
   rw[List.length_map] at this
   omega
  obtain⟨w',e',r'⟩:=rv.get (x:=.bl bs[i]) (i:=i) (by rw[List.getElem?_map,List.getElem?_eq_getElem hb];rfl)
  rw[e'] at hv
  cases hv
  cases r'
  have hQ2:Q' ((bs[i]?).getD true) s':=hQ'
  rw[List.getElem?_eq_getElem hb] at hQ2
  exact wpAny_truthy_bool hQ2
 ·intro h' tk hk
  have e:(List.range its.toArray.size).all (λi=>(bs[i]?).getD true)=bs.all id:=by
   have:=rv.length
   rw[List.length_map] at this
   rw[List.size_toArray,← this]
   exact ymA bs
  rw[e]
  refine⟨.bl _,H,I.kept (t':=tk) λb o e=>hk b o ?_ (Heap.get?_push_of_some _ e),rfl,q⟩
  intro z
  have:b=s.heap.objs.size:=by simpa using z
  exact absurd (Heap.lt_size e) (by rw[this];exact Nat.lt_irrefl _)
noncomputable def yrD:R2:=λx y H Q=>∃ z n,x=.str z/\y=.int n/\MulOk z n/\Q (.str (Txt.mul z n)) H
theorem ygA:OpR X (binaryOp .Mult) yrD:=by
 intro pins s σ H x y v u Q I rx ry h
 obtain⟨z,n,rfl,rfl,hk,q⟩:=h
 obtain⟨t,rfl⟩:=rx
 obtain⟨t',rfl⟩:=ry
 exact SB.mul hk λt' k=>⟨.str _,H,I.tok _,⟨_,rfl⟩,q⟩
noncomputable def Ite (K:PySem.W.Frag)(a:Addr):It :=
 ⟨λi H=>∃ xs x,SqL K H a xs/\xs[i]?=some x,λi H x H'=>∃ p v,x=.ref p/\H p=none/\H'=upd H p (.tup [.int (i:Nat),v])/\∀ xs,SqL K H a xs->xs[i]?=some v,λi H=>∃ xs,SqL K H a xs/\xs.length<=i⟩
noncomputable def ItF (K:PySem.W.Frag)(a:Addr)(k:Nat):It :=
 ⟨λi H=>∃ xs x,SqL K H a xs/\xs[i]?=some x,λi H x H'=>∃ p v,x=.ref p/\H p=none/\H'=upd H p (.tup [.int ((i+k:Nat):Int),v])/\∀ xs,SqL K H a xs->xs[i]?=some v,λi H=>∃ xs,SqL K H a xs/\xs.length<=i⟩
theorem yhk {P:Program}{w:World}{K:PySem.W.Frag}{elts:List Expr}{x1}{tp:Pos}(a e it:Addr)(k:Nat)(hne:e≠it):ynC P w K (.Tuple elts x1 tp) (ItF K a k) [e,it] e (λi h=>∃ old,IsEnum h e it ((i+k:Nat):Int) old/\h.IsListIter it a i) where
 mem:=by simp
 obj:=λi h ⟨old,st1,o,eo,c,d⟩ b hb=>by
  rcases List.mem_cons.mp hb with rfl | hb
  ·exact⟨_,st1,λv z=>by cases z⟩
  ·cases List.mem_singleton.mp hb
   exact⟨o,eo,λv z=>by rw[d] at z;cases z⟩
 keep:=λi h h' ⟨old,st1,st2⟩ k=>⟨old,k e (by simp) _ st1,st2.at λo eo=>k it (by simp) o eo⟩
 item:=by
  intro X hP hw hK hc i pins s σ H E I hf ⟨old,st1,st2⟩ ⟨xs,x,hq,hx⟩
  subst hP hw hK
  obtain⟨its,rv,p,hz⟩:=I.list hq
  obtain⟨u,hu,ru⟩:=rv.get hx
  obtain⟨f0,f1,f2,f3,f4,f5⟩:=hf e (by simp)
  obtain⟨g0,g1,g2,g3,g4,g5⟩:=hf it (by simp)
  have hel:e < s.heap.objs.size:=Heap.lt_size st1
  have hit:it < s.heap.objs.size:=by obtain⟨o,eo,_⟩:=st2;exact Heap.lt_size eo
  have al:a≠it:=by
   rintro rfl
   obtain⟨_,eo,c,_⟩:=st2
   obtain⟨_,eo2,c2,_⟩:=p.isList
   rw[eo] at eo2
   cases eo2
   rw[c] at c2
   exact absurd (Value.type.inj c2) (by decide)
  have hea:e≠a:=by
   rintro rfl
   obtain⟨_,eo2,c2,_⟩:=p.isList
   have z:s.heap.get? e=_:=st1
   rw[z] at eo2
   cases eo2
   exact absurd (Value.type.inj c2) (by decide)
  have dr:=PB.draws_from (Draws.list (prog:=X.prog) (w:=X.w) (A:=X.A.in1) (I.ok.hd hc) it a al its.toArray) k
  have sz:i < its.length:=(List.getElem?_eq_some_iff.mp hu).1
  refine wpAny_pyNext_enum_itemD dr st1 ⟨Nat.le_add_left _ _,by rw[Nat.add_sub_cancel];exact st2,p.isList⟩ (by simp;omega) hne (by rw[List.mem_cons,List.mem_singleton];exact λz=>z.elim hne hea) λu' h' tk hP heo hst ht' hz' hk'=>?_
  have eu:u'=u:=by
   rw[Nat.add_sub_cancel] at hP
   have hP:its[i]?=some u':=by simpa using hP
   rw[hu] at hP
   exact(Option.some.inj hP).symm
  subst eu
  refine⟨.ref s.heap.objs.size,rfl,wpAny_letOwnedTupleGo_enum heo λh2 he2 sb2=>?_⟩
  have sb2:Heap.SameBut e h' h2:=sb2
  have hit':h'.IsListIter it a (i+1):=by have:=hst.2.1;rwa [show i+k+1 - k=i+1 by omega] at this
  have fr:H s.heap.objs.size=none:=I.hok.fresh (Nat.le_refl _)
  have kp:∀ b o,b≠e->b≠it->s.heap.get? b=some o->h2.get? b=some o:=λb o h1 h3 h4=>(sb2.2 b h1).trans (hk' b o h1 h3 h4)
  have kq:∀ b o,b∉[e,it]->s.heap.get? b=some o->h2.get? b=some o:=λb o hn=>kp b o (λz=>hn (by simp[z])) (λz=>hn (by simp[z]))
  have tne:∀ b u,H b=some u->b≠e/\b≠it:=λb u hb=>⟨λz=>(by rw[z,f0] at hb;cases hb),λz=>(by rw[z,g0] at hb;cases hb)⟩
  have ltp:∀ {b:Addr} {o:Obj},s.heap.get? b=some o->b≠s.heap.objs.size:=λh=>Nat.ne_of_lt (Heap.lt_size h)
  refine⟨.ref s.heap.objs.size,upd H s.heap.objs.size (.tup [.int ((i+k:Nat):Int),x]),?_,rfl,⟨_,x,rfl,fr,rfl,λys hy=>by rw[I.list_inj hy hq];exact hx⟩,⟨u',?_,hit'.extBut sb2.extBut (Ne.symm hne)⟩,λb hb=>?_⟩
  ·refine Inv.step (s:=s) (h':=h2) (g':=s.gens) (d':=s.drawn) (t':=tk+1) (ch:=[e,it]) I (λb hb=>?_) (λb o _ _ hcn he _=>kq b o hcn he) (λb o _ _ hcn he _=>⟨o.slots,kq b o hcn he⟩) (λb o _ he hn=>by rw[yaB (ltp he)];exact hn) (λb o hcn he=>⟨o,kq b o hcn he⟩)
    (λb ys hb=>by rw[yaB (yaL hb fr)];exact hb) (λb o ys hb=>by rw[yaB (yaL hb fr)];exact hb) (λb ps hb=>⟨#[],by rw[yaB (yaL hb fr),hb];simp⟩) (λm ⟨o,es,ep,ho,r⟩=>⟨o,es,ep,kp _ o (Ne.symm f1) (Ne.symm g1) ho,r⟩) (λb ob hb=>?_) I.bare
   ·rcases List.mem_cons.mp hb with rfl | hb
    ·exact⟨f3,f1,f4,f5⟩
    ·cases List.mem_singleton.mp hb
     exact⟨g3,g1,g4,g5⟩
   ·by_cases hbp:b=s.heap.objs.size
    ·subst hbp
     rw[yae] at hb
     cases hb
     exact⟨by show 2<=sizeLine;decide,[.int ((i+k:Nat):Int) tk,u'],.cons ⟨_,rfl⟩ (.cons ru .nil),_,(sb2.2 _ (Nat.ne_of_gt hel)).trans ht',rfl,_,rfl⟩
    ·rw[yaB hbp] at hb
     refine(I.hok b ob hb).stay (λc v hcv q=>?_) (λc hc'=>by rw[yaB (yaL hc' fr)];exact hc') λc ys hc'=>by rw[yaB (yaL hc' fr)];exact hc'
     rcases hcv with z | z
     ·rw[z] at q ⊢
      exact kp b v (tne b ob hb).1 (tne b ob hb).2 q
     ·exact kp c v (tne c _ z).1 (tne c _ z).2 q
  ·rw[show((i+1+k:Nat):Int)=((i+k:Nat):Int)+1 by omega]
   exact he2
  ·rw[yaB (by rcases List.mem_cons.mp hb with rfl | hb;exact Nat.ne_of_lt hel;cases List.mem_singleton.mp hb;exact Nat.ne_of_lt hit)]
   exact(hf b hb).1
 done:=by
  intro X hP hw hK hc i pins s σ H E I hf ⟨old,st1,st2⟩ ⟨xs,hq,hx⟩
  subst hP hw hK
  obtain⟨its,rv,p,hz⟩:=I.list hq
  obtain⟨f0,f1,f2,f3,f4,f5⟩:=hf it (by simp)
  have dr:Draws X.prog X.w X.A.in1 it [it,a] i (λ_ _=>True) (λj h=>j=i/\h.IsListIter it a i/\h.IsList a its.toArray) :=
   ⟨λ_ _ ⟨_,⟨o,ho,_⟩,_⟩=>⟨o,ho⟩,λ_ _ _ ⟨x,y,z⟩ hk=>⟨x,y.at λo e=>hk it (by simp) o e,z.at λo e=>hk a (by simp) o e⟩,λj s Q E hj st _=>absurd st.1 (Nat.ne_of_lt hj),λs Q E ⟨_,y,z⟩ hE=>wpAny_nextOf_list_end (I.ok.hd hc) y z (by have:=rv.length;simp;omega) hE⟩
  exact wpAny_pyNext_enum_endD dr st1 ⟨rfl,st2,p.isList⟩ λh' eb=>⟨rfl,I.turned (t':=s.toks) (λb o hb e=>eb b o hb e) f0 f1 f3 f4 f5⟩
 self:=λ_ _ _ _ _ ⟨old,st1,_⟩ h=>wpAny_pyIter_enum st1 h
theorem yln {P:Program}{w:World}{K:PySem.W.Frag}{elts:List Expr}{x1}{tp:Pos}(a e it:Addr)(hne:e≠it):ynC P w K (.Tuple elts x1 tp) (Ite K a) [e,it] e (λi h=>∃ old,IsEnum h e it (i:Nat) old/\h.IsListIter it a i):=yhk a e it 0 hne
noncomputable def ypb (K:PySem.W.Frag)(ta:TA):TI:=fun σ H R=>ta σ H λvs H1=>∃ a,vs=[.ref a]/\(∃ xs,SqL K H1 a xs)/\R (Ite K a) H1
theorem yo8 {elts:List Expr}{x1}{tp:Pos}{a:Expr}{ta:TA}{p pos:Pos}(hg:Gl X "enumerate")(hm:X.mg "enumerate"=none)(ha:PA X [a] ta)(hs:starEach [a] X.env=[(false,eval a X.env)]:=by rfl) :
  PI X (.Tuple elts x1 tp) (.Call (.Name "enumerate" p) [a] [] pos) (ypb X.K ta):=by
 intro pins s σ H R I h
 refine Call_ (yen I hg hm boot_enumerate (PyProof.Rows.callWith_type1 (thn (ha pos pins s σ H _ I h) λus s1 ⟨vs,H1,I1,r1,q1⟩=>?_) hs rfl))
 obtain⟨l,e,⟨xs,hq⟩,q⟩:=q1
 subst e
 obtain⟨u,rfl,ru⟩:=yed r1
 cases ru
 obtain⟨its,rv,pl,hz⟩:=I1.list hq
 refine call_enumerate_list pl.isList λh' he hit hsz hk=>?_
 refine wpAny_pyIter_enum he ?_
 refine⟨s1.heap.objs.size+1,[s1.heap.objs.size+1,s1.heap.objs.size],_,_,H1,rfl,I1.kept (t':=s1.toks) hk,yln l _ _ (Nat.succ_ne_self _),⟨_,he,hit⟩,λb hb=>?_,q⟩
 rcases List.mem_cons.mp hb with rfl | hb
 ·exact I1.fpOk (Nat.le_succ _) (I1.hok.fresh (Nat.le_succ _))
 ·have e':b=s1.heap.objs.size:=by simpa using hb
  subst e'
  exact I1.fpOk (Nat.le_refl _) (I1.hok.fresh (Nat.le_refl _))
theorem ylb {x z:Str}{pos:Pos}(hg:Gl X x)(hm:∃ k,X.mg x=some (.str z k))(hd:(x==("__debug__" : Str))=false:=by decide):PE X (.Name x pos) (tC (.str z)):=by
 obtain⟨k,e⟩:=hm
 exact ycV hg e ⟨k,rfl⟩ hd
theorem ybW {x:Str}{z:Int}{pos:Pos}(hg:Gl X x)(hm:∃ k,X.mg x=some (.int z k))(hd:(x==("__debug__" : Str))=false:=by decide):PE X (.Name x pos) (tC (.int z)):=by
 obtain⟨k,e⟩:=hm
 exact ycV hg e ⟨k,rfl⟩ hd
theorem ycp:OpR X (binaryOp .Mult) (rI IntMulOk λi j=>.int (i*j)):=opI λ_ _ _ _ _ _ _ hc q=>mul_int q hc
end
noncomputable def TupIn (K:PySem.W.Frag)(a:Addr)(xs:List V):Prop :=
 ∃ (o:Obj) (its:Array Value) (n:Nat),K.lookup a=some o/\o.cls=.type "tuple" /\ o.dict=none/\o.data=.seq its n/\its.size<=sizeLine/\Vals xs its.toList
theorem TupIn.sq {K:PySem.W.Frag}{a:Addr}{xs:List V}(h:TupIn K a xs)(H:Hp):SqT K H a xs:=by
 obtain⟨o,its,n,h1,h2,h3,h4,h5,h6⟩:=h
 exact .inr ⟨o,its,n,h1,h2,h4,h5,h6⟩
theorem TupIn.ty {K:PySem.W.Frag}{a:Addr}{xs:List V}(h:TupIn K a xs)(H:Hp):tyV K "tuple" (.ref a) H:=by
 obtain⟨o,its,n,h1,h2,h3,h4,h5,h6⟩:=h
 exact .inr (.inl ⟨rfl,o,h1,h2,h3⟩)
noncomputable def ytL:V->Value->Bool
 | .non,.none=>true
 | .bl b,.bool c=>b==c
 | .int i,.int j _=>i==j
 | .str x,.str y _=>x==y
 | _,_=>false
noncomputable def ylN:List V->List Value->Bool
 | [],[]=>true
 | x :: xs,u :: us=>ytL x u&&ylN xs us
 | _,_=>false
theorem ymH {x:V}{u:Value}(h:ytL x u=true):RelV x u:=by
 cases x<;>cases u<;>simp[ytL] at h
 ·rfl
 ·subst h;rfl
 ·subst h;exact⟨_,rfl⟩
 ·subst h;exact⟨_,rfl⟩
theorem yho:∀ {xs:List V} {us:List Value},ylN xs us=true->Vals xs us
 | [],[],_=>.nil
 | x :: xs,u :: us,h=>by
  rw[ylN,Bool.and_eq_true] at h
  exact .cons (ymH h.1) (yho h.2)
 | [],_ :: _,h=>by cases h
 | _ :: _,[],h=>by cases h
theorem ymX {K:PySem.W.Frag}{a:Addr}{xs:List V}{its:Array Value}{n:Nat}{sl:Array (Option Value)}(l:K.lookup a=some ⟨.type "tuple",none,.seq its n,sl⟩)(v:ylN xs its.toList=true)(hz:its.size<=1000:=by decide):TupIn K a xs :=
 ⟨_,its,n,l,rfl,rfl,rfl,Nat.le_trans hz (by decide),yho v⟩
noncomputable def ynX (scope:Scope)(env:Env)(N NB:List Str)(cap:List (Option Nat)):Bool :=
 decide (scope.kind=.function)&&scope.names.all (λy=>decide (y.2≠.cell))&&scope.names.all (λy=>decide (y.2≠.local)||decide (scope.names.lookup y.1=some .local)) &&
 scope.names.all (λy=>decide (y.2≠.free)||decide (env.kindOf y.1=some .cell)||decide (env.kindOf y.1=some .free))&&decide (cap.length=NB.length) &&
 (List.range NB.length).all (λi=>match NB[i]?,cap[i]? with
  | some x,some (some j)=>decide (N[j]?=some x)&&decide ((x,NameKind.free)∈scope.names)&&(decide ((relabel scope env).names.lookup x=some .cell)||decide ((relabel scope env).names.lookup x=some .free))
  | _,_=>true)
theorem yaH {X:Cx}{scope:Scope}{NB:List Str}{cap:List (Option Nat)}(h:ynX scope X.env X.N NB cap=true):BlockOk X scope NB cap:=by
 unfold ynX at h
 simp only[Bool.and_eq_true,decide_eq_true_eq,List.all_eq_true,Bool.or_eq_true] at h
 obtain⟨⟨⟨⟨⟨h1,h2⟩,h3⟩,h4⟩,h5⟩,h6⟩:=h
 refine⟨h1,h2,λy hy e=>?_,λy hy e=>?_,h5,λi x j e1 e2=>?_⟩
 ·rcases h3 y hy with z | z
  ·exact absurd e z
  ·exact z
 ·rcases h4 y hy with (z | z) | z
  ·exact absurd e z
  ·exact .inl z
  ·exact .inr z
 ·have hi:i < NB.length:=(List.getElem?_eq_some_iff.mp e1).1
  have q:=h6 i (List.mem_range.mpr hi)
  rw[e1,e2] at q
  simp only[Bool.and_eq_true,decide_eq_true_eq,Bool.or_eq_true] at q
  exact⟨q.1.1,q.1.2,q.2⟩
end L2
namespace Att
open PySem PySem.W PySem.Calls PyProof.Rows
theorem yjM:∀ {ns:List Int},WData.weightAll (ns.map WData.int)<=2 ^ 20->∀ v∈ns,Builtin.Int.intBits v<=2 ^ 20
 | [],_,v,h=>by simp at h
 | n :: ns,h,v,hv=>by
  rw[List.map_cons,WData.weightAll] at h
  rcases List.mem_cons.mp hv with rfl | hv
  ·have:WData.weight (.int v)<=2 ^ 20:=by omega
   simpa only[WData.weight,Builtin.Int.intBits] using this
  ·exact yjM (by omega) v hv
theorem ypH {ns:List Int}(h:WData.layableAll [WData.list (ns.map WData.int)]=true):∀ v∈ns,Builtin.Int.intBits v<=2 ^ 20:=by
 simp only[WData.layableAll,List.all_cons,WData.layable,Bool.and_eq_true,decide_eq_true_eq] at h
 exact yjM (by have:=h.1.2;rw[WData.weight] at this;exact this)
theorem attach_callB {l:OpenLaw}{n:Nat}{q:Program}{loose:List Str}{XP:(Str->Option Value)->Heap->Prop}{YP:World->Heap->Prop}{d:DefRec}
  (hn:l.most=some n) (hdf:d.params.defaults=[])
  (call:∀ (w:World) (s₀ s₁:Shared) (mg mb:Str->Option Value) (fa:Addr) (o:Obj) (pm cd doc:Value) (a:Addr) (vs:List Value) (ns:List Int),
   Ground q loose [] XP w s₀ mg mb s₁.heap->YP w s₁.heap ->
   s₁.heap.get? fa=some o->o.data=.func (docDef d.name d.params d.body d.scope pm cd doc)->s₁.heap.CodeRec cd d.name->mg d.name=some (.ref fa) ->
   s₁.heap.get? a=some { cls:=.type "list",data:=.seq vs.toArray }->IntsAre vs ns->ns.length<=n->(∀ v∈ns,Builtin.Int.intBits v<=2 ^ 20)->s₁.gens=#[] ->
   codeAny (model l.prog w) callerA (.call (.ref fa) ⟨[.ref a],[]⟩) (λr s'=>r=.ok (.ret (.bool true))/\OldK s₁.heap s'.heap/\s'.os=s₁.os/\AllBare s'.gens) s₁) :
  WalkO q loose XP YP l.row.toRowW d [] (λf vs=>PySem.call f vs):=by
 intro w s₀ s₁ mg mb G Y fa o pm cd doc dV kV ho hd hcd hD hmg hg args vals as hpre hlay hrd hwl hlo
 obtain rfl:dV=.none:=Dflts.none hD hdf
 obtain rfl:kV=.none:=Dflts.noKw hD
 obtain⟨a,vs,ns,rfl,rfl,hobj,hints,hlen⟩:=ykZ hn hpre hwl
 refine enter_call (codeAny_mono (call w s₀ s₁ mg mb fa o pm cd doc a vs ns G Y ho (fd_plain hd) hcd hmg hobj hints hlen (ypH hlay) hg) λr s' hq=>?_)
 obtain⟨rfl,h2,h3,h4⟩:=hq
 exact⟨.inl ⟨.bool true,.bool true,[],rfl,λ_=>rfl,.bool true,ylo l _,λ_=>⟨List.Pairwise.nil,λ_ hm=>(nomatch hm)⟩⟩,h2,h3,h4⟩
end Att
namespace L2
open PySem PySem.Spec PyProof.Rows
theorem walk_ofB {l:PySem.W.OpenLaw}{n k:Nat}{q:Program}{loose:List Str}{XP:(Str->Option Value)->Heap->Prop}{YP:World->Heap->Prop}{d:DefRec}{K:Params->PySem.W.Frag}{CX:World->CXT}{sp:World->Sp}{x:Str}
  (hn:l.most=some n) (hn2:n<=sizeLine) (hdf:d.params.defaults=[]) (hr:Room k callerA)
  (hY:∀ (w:World) (h:Heap),YP w h->(K w.params).In h)
  (F:∀ (w:World) (mg:Str->Option Value) (fa:Addr) (h:Heap),(K w.params).In h->h.Ns mainGlobals mg->mg d.name=some (.ref fa) ->
   ∃ fd:FuncData,(∀ (s:Shared) (u:Value),BindsTo s fd ⟨[u],[]⟩ [(x,u)]) /\
    ∀ base:Heap,(K w.params).In base->base.Ns mainGlobals mg->FnOk l.prog w (K w.params) mg base (CX w) k fa fd [x] (sp w))
  (hsp:∀ (w:World) (H:Hp) (a:Addr) (ns:List Int),ns.length<=n->(∀ v∈ns,Builtin.Int.intBits v<=2 ^ 20)->ysM H->SqL (K w.params) H a (ns.map V.int)->sp w [.ref a] H (λv _=>v=.bl true) λ_ _ _=>False)
  (hCX:∀ (w:World) (H:Hp) (s:Shared) (e:Value) (s':Shared),CX w [] H s (λ_ _ _=>False) e s'->False) :
  PySem.W.WalkO q loose XP YP l.row.toRowW d [] (λf vs=>PySem.call f vs):=by
 refine Att.attach_callB hn hdf λw s₀ s₁ mg mb fa o pm cd doc a vs ns G Y ho hd hcd hmg hobj hints hlen hbits hg=>?_
 have KX:=hY w _ Y
 obtain⟨fd,hb,hF⟩:=F w mg fa _ KX G.T.g hmg
 exact ymG KX G.T.g G.T.b G.T.builtins G.T.nolimit hg hobj hints (Nat.le_trans hlen hn2) hr hF hb (λH hO hS=>hsp w H a ns hlen hbits hO hS) λH e s'=>hCX w H s₁ e s'
section
variable {X:Cx}
theorem yb5 {x:Str}{n:String}{pos:Pos}(hg:Gl X x)(hm:X.mg x=none)(hv:bootBuiltins x=some (.type n))(hn:x≠"__name__":= by decide)(hd:(x==("__debug__" : Str))=false:=by decide):PE X (.Name x pos) (tC (.ty n)):=yo0 (v:=.ty n) hg hm hv rfl hn hd
theorem ygl {x:Str}{a:Addr}{pos:Pos}(hg:Gl X x)(hm:X.mg x=some (.ref a))(hd:(x==("__debug__" : Str))=false:=by decide):PE X (.Name x pos) (tC (.ref a)):=ycV (v:=.ref a) hg hm rfl hd
end
theorem yag {H:Hp}{p:Addr}(h:H p=none)(o:HO):Same H (upd H p o):=λb u q=>by rw[yaB (yaL q h)];exact q
theorem ybs {A:Around}{k:Nat}(hr:Room k A):A.units+64 < cLine:=hr.units
end L2
namespace L2
theorem yo3 (k:Knd):k.isA "str"=decide (k=.str):=by cases k<;>rfl
theorem yrL:ykl "str":= .inr (.inr (.inl rfl))
theorem ypq:ykl "str"=True:=eq_true yrL
end L2
namespace L2
open PySem
end L2
namespace L2
open PySem
theorem ynG {K:PySem.W.Frag}{a:Addr}{xs:List V}{g:TG}{tb:TS}{D:yex}{σ:St}{H:Hp}(Pv:Nat->St->Hp->Prop)(h0:Pv 0 σ H)(hl:∀ i σ H,i<=xs.length->Pv i σ H->SqL K H a xs)
  (hs:∀ i x σ H p,xs[i]?=some x->Pv i σ H->H p=none->g (.ref p) σ (upd H p (.tup [.int (i:Nat),x])) fun σ2 H2=>tb { D with nx:=Pv (i+1),ct:=Pv (i+1),bk:=D.nx } σ2 H2) (hd:∀ σ H,Pv xs.length σ H->D.nx σ H) :
  ∃ W:Nat->Nat->St->Hp->Prop,(∃ m,W 0 m σ H)/\∀ i m σ H,W i m σ H ->
   ((Ite K a).stop i H/\D.nx σ H)∨((Ite K a).go i H/\∃ N:St->Hp->Prop,(∀ σ' H',N σ' H'->∃ m',m' < m/\W (i+1) m' σ' H')/\∀ x H',(Ite K a).yld i H x H'->g x σ H' fun σ2 H2=>tb { D with nx:=N,ct:=N,bk:=D.nx } σ2 H2):=by
 refine⟨λi m σ H=>m=xs.length - i/\i<=xs.length/\Pv i σ H,⟨xs.length,by simp,Nat.zero_le _,h0⟩,?_⟩
 rintro i m σ H ⟨rfl,hi,p⟩
 have q:=hl i σ H hi p
 by_cases hlt:i < xs.length
 ·refine .inr ⟨⟨xs,xs[i],q,by simp[hlt]⟩,Pv (i+1),fun σ' H' p'=>⟨xs.length - (i+1),by omega,rfl,hlt,p'⟩,λx H' y=>?_⟩
  obtain⟨b,v,e1,e2,e3,y⟩:=y
  subst e1 e3
  exact hs i v σ H b (y xs q) p e2
 ·have e:i=xs.length:=by omega
  subst e
  exact .inl ⟨⟨xs,q,Nat.le_refl _⟩,hd σ H p⟩
theorem yk6 {K:PySem.W.Frag}{a D:Addr}{xs:List V}{g:TG}{tc:TT}{te:TE}{Fin:Hp->Prop}{σ:St}{H:Hp}(Pv:Nat->St->Hp->Prop)(h0:Pv 0 σ H)(hl:∀ i σ H,i<=xs.length->Pv i σ H->SqL K H a xs)
  (hs:∀ i x σ H,xs[i]?=some x->Pv i σ H->g x σ H fun σ2 H2=>tc σ2 H2 λb H3=>if b=true then te σ2 H3 λy H4=>∃ ys,H4 D=some (.lst ys)/\ys.length < sizeLine/\Pv (i+1) σ2 (upd H4 D (.lst (ys++[y]))) else Pv (i+1) σ2 H3)
  (hd:∀ σ H,Pv xs.length σ H->Fin H):∃ W:Nat->Nat->St->Hp->Prop,(∃ m,W 0 m σ H)/\ydG (Itl K a) g tc te D Fin W:=by
 refine⟨λi m σ H=>m=xs.length - i/\i<=xs.length/\Pv i σ H,⟨xs.length,by simp,Nat.zero_le _,h0⟩,?_⟩
 rintro i m σ H ⟨rfl,hi,p⟩
 have q:=hl i σ H hi p
 by_cases hlt:i < xs.length
 ·refine .inr ⟨⟨xs,xs[i],q,by simp[hlt]⟩,Pv (i+1),fun σ' H' p'=>⟨xs.length - (i+1),by omega,rfl,hlt,p'⟩,λx H' y=>?_⟩
  obtain⟨e,y⟩:=y
  subst e
  exact hs i x σ _ (y xs q) p
 ·have e:i=xs.length:=by omega
  subst e
  exact .inl ⟨⟨xs,q,Nat.le_refl _⟩,hd σ H p⟩
theorem ymN {K:PySem.W.Frag}{a D:Addr}{xs:List V}{g:TG}{tc:TT}{te:TE}{Fin:Hp->Prop}{σ:St}{H:Hp}(Pv:Nat->St->Hp->Prop)(h0:Pv 0 σ H)(hl:∀ i σ H,i<=xs.length->Pv i σ H->SqT K H a xs)
  (hs:∀ i x σ H,xs[i]?=some x->Pv i σ H->g x σ H fun σ2 H2=>tc σ2 H2 λb H3=>if b=true then te σ2 H3 λy H4=>∃ ys,H4 D=some (.lst ys)/\ys.length < sizeLine/\Pv (i+1) σ2 (upd H4 D (.lst (ys++[y]))) else Pv (i+1) σ2 H3)
  (hd:∀ σ H,Pv xs.length σ H->Fin H):∃ W:Nat->Nat->St->Hp->Prop,(∃ m,W 0 m σ H)/\ydG (Itt K a) g tc te D Fin W:=by
 refine⟨λi m σ H=>m=xs.length - i/\i<=xs.length/\Pv i σ H,⟨xs.length,by simp,Nat.zero_le _,h0⟩,?_⟩
 rintro i m σ H ⟨rfl,hi,p⟩
 have q:=hl i σ H hi p
 by_cases hlt:i < xs.length
 ·refine .inr ⟨⟨xs,xs[i],q,by simp[hlt]⟩,Pv (i+1),fun σ' H' p'=>⟨xs.length - (i+1),by omega,rfl,hlt,p'⟩,λx H' y=>?_⟩
  obtain⟨e,y⟩:=y
  subst e
  exact hs i x σ _ (y xs q) p
 ·have e:i=xs.length:=by omega
  subst e
  exact .inl ⟨⟨xs,q,Nat.le_refl _⟩,hd σ H p⟩
theorem yei {lo:Int}{n:Nat}{D:Addr}{g:TG}{tc:TT}{te:TE}{Fin:Hp->Prop}{σ:St}{H:Hp}(Pv:Nat->St->Hp->Prop)(h0:Pv 0 σ H)
  (hs:∀ i σ H,i < n->Pv i σ H->g (.int (lo+i)) σ H fun σ2 H2=>tc σ2 H2 λb H3=>if b=true then te σ2 H3 λy H4=>∃ ys,H4 D=some (.lst ys)/\ys.length < sizeLine/\Pv (i+1) σ2 (upd H4 D (.lst (ys++[y]))) else Pv (i+1) σ2 H3)
  (hd:∀ σ H,Pv n σ H->Fin H):∃ W:Nat->Nat->St->Hp->Prop,(∃ m,W 0 m σ H)/\ydG (Itr lo n) g tc te D Fin W:=by
 refine⟨λi m σ H=>m=n - i/\i<=n/\Pv i σ H,⟨n,by simp,Nat.zero_le _,h0⟩,?_⟩
 rintro i m σ H ⟨rfl,hi,p⟩
 by_cases hlt:i < n
 ·refine .inr ⟨hlt,Pv (i+1),fun σ' H' p'=>⟨n - (i+1),by omega,rfl,hlt,p'⟩,λx H' y=>?_⟩
  obtain⟨e,y⟩:=y
  subst e y
  exact hs i σ _ hlt p
 ·have e:i=n:=by omega
  subst e
  exact .inl ⟨Nat.le_refl _,hd σ H p⟩
end L2
namespace L2
open PySem PySem.Spec PyProof.Rows
noncomputable def yoV (a:Addr)(o:Obj):HO:=.ext λh=>h.get? a=some o
section
variable {P:Program} {w:World} {H:Hp} {h:Heap} {a:Addr}
end
theorem Inv.note {X:Cx}{pins:List (Addr×Obj)}{σ:St}{H:Hp}{s:Shared}{a:Addr}{o:Obj}{u:HO}(I:Inv X pins σ H s)(hn:H a=none)(ha:X.s₀.heap.objs.size<=a)(hl:a≠X.env.locals)(hc:∀ x c,X.env.cells.lookup x=some c->c≠a)(hp:∀ p∈X.pn++pins,p.1≠a)
  (g:s.heap.get? a=some o) (new:ObjOk X.prog X.w (upd H a u) s.heap a u):Inv X pins σ (upd H a u) s:=by
 have ne:∀ {b:Addr} {v:HO},H b=some v->b≠a:=λq z=>by rw[z,hn] at q;cases q
 have:=I.step (ch:=[a]) (h':=s.heap) (H':=upd H a u) (g':=s.gens) (d':=s.drawn) (t':=s.toks) (λb z=>by
   have:b=a:=by simpa using z
   subst this
   exact⟨.inr ha,hl,hc,hp⟩) (λb o _ _ _ g n=>g) (λb o _ _ _ g n=>⟨o.slots,g⟩) (λb o z g n=>by rw[yaB (λq=>z (by rw[q];simp))];exact n) (λb o _ g=>⟨o,g⟩) (λb xs q=>by rw[yaB (ne q)];exact q) (λb o u q=>by rw[yaB (ne q)];exact q) (λb ps q=>⟨#[],by rw[yaB (ne q),q];simp⟩) (λm h=>h) (λb v q=>?_) I.bare
 ·exact this
 ·by_cases z:b=a
  ·subst z
   rw[yae] at q
   cases q
   exact new
  ·rw[yaB z] at q
   exact(I.hok b v q).stay (λ_ _ _ g=>g) (λc hc=>by rw[yaB (ne hc)];exact hc) (λc xs hc=>by rw[yaB (ne hc)];exact hc)
noncomputable def SameT (T:Addr)(H H':Hp):Prop:=∀ b o,b≠T->H b=some o->H' b=some o
theorem Same.t {T:Addr}{H H':Hp}(a:Same H H'):SameT T H H':=λc o _ q=>a c o q
noncomputable def ytG (H:Hp)(c:Addr)(qual:Str):Prop:=∃ o vs t,H c=some (yoV c o)/\o.data=.fields vs/\vs[1]?=some (.str qual t)
noncomputable def FnK (H:Hp)(fa:Addr)(name qual:Str)(params:Arguments)(body:List Stmt)(scope:Scope)(clos:List (Str×Addr)):Prop :=
 ∃ doc pm c' ctv,H fa=some (yoV fa (PySem.W.fnMade name qual params body scope clos doc pm c' ctv))/\ytG H c' qual
noncomputable def ysH (H:Hp)(fa:Addr):Prop:=∃ oc od fd sl,H fa=some (yoV fa ⟨oc,od,.func fd,sl⟩)
theorem FnK.isFn {H:Hp}{fa:Addr}{name qual:Str}{params:Arguments}{body:List Stmt}{scope:Scope}{clos:List (Str×Addr)}(F:FnK H fa name qual params body scope clos):ysH H fa:=by
 obtain⟨doc,pm,c',ctv,e,_⟩:=F
 exact⟨_,_,_,_,e⟩
structure yuB (P:Program) (w:World) (K:PySem.W.Frag) (mg:Str->Option Value) (base:Heap) (k:Nat) (spX:Addr->V->Hp->VK->Prop):Prop where
 run:∀ (A:Around) (outer:List Env) (s:Shared) (H:Hp) (fa:Addr) (u:Value) (xv:V) (Q:VK) (E:XK),Room k A->Env0 P w K mg base A outer s H->RelV xv u->spX fa xv H Q->codeAny (model P w) A (.call (.ref fa) ⟨[u],[]⟩) (CR CX0 outer P w H s Q E) s
section
variable {X:Cx} {k i:Nat} {x:Str} {p pos:Pos} {e:Expr} {t:TA} {spX:Addr->V->Hp->VK->Prop}
end
theorem ycv (ns:List Int):∀ j,j<=ns.length->preSum (λi=>(ns[i]?).getD 0) j=(ns.take j).sum
 | 0,_=>by simp[preSum]
 | j+1,h=>by
  have hj:j < ns.length:=h
  rw[preSum,ycv ns j (Nat.le_of_lt hj),List.take_add_one,List.sum_append,List.getElem?_eq_getElem hj]
  simp
theorem yeJ:∀ {ns:List Int},(∀ n∈ns,0<=n/\n<=1000)->0<=ns.sum/\ns.sum<=1000*ns.length
 | [],_=>by simp
 | n :: r,h=>by
  have h1:=h n (by simp)
  have h2:=yeJ (ns:=r) λm hm=>h m (by simp[hm])
  rw[List.sum_cons,List.length_cons]
  omega
section
variable {X:Cx}
noncomputable def yuj (K:PySem.W.Frag):List V->Hp->VK->Prop:=λxs H Q=>∃ (p:Addr) (ns:List Int),xs=[.ref p]/\SqT K H p (ns.map V.int)/\(∀ n∈ns,0<=n/\n<=1000)/\ns.length<=1000/\Q (.int ns.sum) H
theorem yl0 (hc:X.calm=true):ycC X (.builtin "sum") (yuj X.K):=by
 intro pins s σ H xs us Q I r h
 obtain⟨p,ns,rfl,hq,hs,hln,q⟩:=h
 obtain⟨u,rfl,ru⟩:=yed r
 cases ru
 obtain⟨its,rv,pl,hz⟩:=I.tuple hq
 have hlen:ns.length=its.length:=by have:=rv.length;rw[List.length_map] at this;exact this
 have hlt:p < s.heap.objs.size:=pl.lt
 have pt:s.heap.IsTuple p its.toArray:=pl
 refine call_sum_walk (wpAny_pyIter_tuple pt ?_)
 refine⟨s.heap.objs.size,_,_,_,_,_,(λi=>(ns[i]?).getD 0),rfl,Walks.tuple (A:=X.A.in1) (I.ok.hd hc) s.heap.objs.size p (Nat.ne_of_lt hlt) its.toArray,⟨⟨_,Heap.get?_push_size _ rfl,rfl,rfl⟩,pt.push _⟩,?_,?_,?_,?_⟩
 ·intro b hb
  show b < (s.heap.push _).objs.size
  rw[Heap.size_push]
  have hb:b=s.heap.objs.size∨b=p:=by simpa using hb
  rcases hb with rfl | rfl
  ·exact Nat.lt_succ_self _
  ·exact Nat.lt_succ_of_lt hlt
 ·intro i v hP
  have hv:its[i]?=some v:=by simpa using hP
  have hi:i < its.length:=(List.getElem?_eq_some_iff.mp hv).1
  have hb:i < ns.length:=by omega
  obtain⟨w',e',r'⟩:=rv.get (x:=.int ns[i]) (i:=i) (by rw[List.getElem?_map,List.getElem?_eq_getElem hb];rfl)
  rw[e'] at hv
  cases hv
  obtain⟨t,rfl⟩:=r'
  exact⟨t,by show Value.int ns[i] t=Value.int ((ns[i]?).getD 0) t;rw[List.getElem?_eq_getElem hb];rfl⟩
 ·intro j hj
  have hj:j < ns.length:=by rw[List.size_toArray] at hj;omega
  have h1:=hs ns[j] (List.getElem_mem hj)
  have h2:=yeJ (ns:=ns.take (j+1)) λn hn=>hs n (List.mem_of_mem_take hn)
  have h3:(ns.take (j+1)).length<=1000:=by rw[List.length_take];omega
  refine⟨?_,?_⟩
  ·show InLong ((ns[j]?).getD 0)
   rw[List.getElem?_eq_getElem hj]
   exact⟨by show -(2 ^ 63)<=ns[j];omega,by show ns[j] < 2 ^ 63;omega⟩
  ·rw[ycv ns (j+1) hj]
   exact⟨by omega,by omega⟩
 ·intro h' tk t' hk
  rw[List.size_toArray,← hlen,ycv ns _ (Nat.le_refl _),List.take_length]
  refine⟨.int _,H,I.kept (t':=tk) λb o e=>hk b o ?_ (Heap.get?_push_of_some _ e),⟨t',rfl⟩,q⟩
  intro z
  have:b=s.heap.objs.size:=by simpa using z
  exact absurd (Heap.lt_size e) (by rw[this];exact Nat.lt_irrefl _)
noncomputable def yop (K:PySem.W.Frag):R2:=λx y H Q=>∃ a b xs,x=.ref a/\y=.ref b/\SqL K H a xs/\SqL K H b []/\Q (.bl xs.isEmpty) H
theorem yf5 (hu:X.A.units+64 < cLine):OpR X (compareOp .Eq) (yop X.K):=by
 intro pins s σ H x y v u Q I rx ry h
 obtain⟨a,b,xs,rfl,rfl,ha,hb,q⟩:=h
 cases rx
 cases ry
 obtain⟨its,r,p,_⟩:=I.list ha
 obtain⟨its',r',p',_⟩:=I.list hb
 cases r'
 have hA:X.A.units < cLine:=by omega
 cases r with
 | nil=>exact SeqAt.RcAt.lists p.isList p'.isList rfl hA (e:=λ_=>true) (λj h1 _=>absurd h1 (Nat.not_lt_zero _)) _ _ _ _ ⟨.bl true,H,I,rfl,q⟩
 | cons _ _=>exact SeqAt.RcAt.lists_lengths p.isList p'.isList (by simp) hA _ _ _ _ ⟨.bl false,H,I,rfl,q⟩
noncomputable def yqU (K:PySem.W.Frag):List V->Hp->VK->Prop:=λxs H Q=>∃ (p:Addr) (ns:List Int),xs=[.ref p]/\SqL K H p (ns.map V.int)/\(∀ n∈ns,0<=n/\n<=1000)/\ns.length<=1000/\Q (.int ns.sum) H
theorem yhm (hc:X.calm=true):ycC X (.builtin "sum") (yqU X.K):=by
 intro pins s σ H xs us Q I r h
 obtain⟨p,ns,rfl,hq,hs,hln,q⟩:=h
 obtain⟨u,rfl,ru⟩:=yed r
 cases ru
 obtain⟨its,rv,pl,hz⟩:=I.list hq
 have hlen:ns.length=its.length:=by have:=rv.length;rw[List.length_map] at this;exact this
 have hl:=pl.isList
 have hlt:p < s.heap.objs.size:=by obtain⟨_,g,_⟩:=hl;exact Heap.lt_size g
 refine call_sum_walk (wpAny_pyIter_list hl ?_)
 refine⟨s.heap.objs.size,_,_,_,_,_,(λi=>(ns[i]?).getD 0),rfl,Walks.list (A:=X.A.in1) (I.ok.hd hc) s.heap.objs.size p (Nat.ne_of_lt hlt) its.toArray,⟨⟨_,Heap.get?_push_size _ rfl,rfl,rfl⟩,hl.push _⟩,?_,?_,?_,?_⟩
 ·intro b hb
  have hb:b=s.heap.objs.size∨b=p:=by simpa using hb
  have low:b<=s.heap.objs.size:=hb.elim (λz=>Nat.le_of_eq z) λz=>Nat.le_of_lt (z▸hlt)
  exact Heap.size_push ..▸Nat.lt_succ_of_le low
 ·intro i v hP
  have hv:its[i]?=some v:=by simpa using hP
  have hb:i < ns.length:=hlen▸(List.getElem?_eq_some_iff.mp hv).1
  obtain⟨w',e',r'⟩:=rv.get (x:=.int ns[i]) (i:=i) (by rw[List.getElem?_map,List.getElem?_eq_getElem hb];rfl)
  rw[e'] at hv
  cases hv
  obtain⟨t,rfl⟩:=r'
  exact⟨t,by show Value.int ns[i] t=Value.int ((ns[i]?).getD 0) t;rw[List.getElem?_eq_getElem hb];rfl⟩
 ·intro j hj
  have hj:j < ns.length:=by rw[List.size_toArray] at hj;omega
  have h1:=hs ns[j] (List.getElem_mem hj)
  have h2:=yeJ (ns:=ns.take (j+1)) λn hn=>hs n (List.mem_of_mem_take hn)
  have h3:(ns.take (j+1)).length<=1000:=by rw[List.length_take];omega
  refine⟨?_,?_⟩
  ·show InLong ((ns[j]?).getD 0)
   rw[List.getElem?_eq_getElem hj]
   exact⟨by show -(2 ^ 63)<=ns[j];omega,by show ns[j] < 2 ^ 63;omega⟩
  ·rw[ycv ns (j+1) hj]
   exact⟨by omega,by omega⟩
 ·intro h' tk t' hk
  rw[List.size_toArray,← hlen,ycv ns _ (Nat.le_refl _),List.take_length]
  refine⟨.int _,H,I.kept (t':=tk) λb o e=>hk b o ?_ (Heap.get?_push_of_some _ e),⟨t',rfl⟩,q⟩
  intro z
  have:b=s.heap.objs.size:=by simpa using z
  exact absurd (Heap.lt_size e) (by rw[this];exact Nat.lt_irrefl _)
end
structure yuD (X:Cx) (scope:Scope) (NB:List Str) (cap:List (Option Nat)) (v:Str):Prop where
 kind:scope.kind=.function
 cell:∀ y∈scope.names,y.2=.cell->y.1=v
 nv:∀ y∈scope.names,y.2=.free->y.1≠v
 names:∀ y∈scope.names,y.2=.local->scope.names.lookup y.1=some .local
 free:∀ y∈scope.names,y.2=.free->(X.env.kindOf y.1=some .cell∨X.env.kindOf y.1=some .free)
 len:cap.length=NB.length
 caps:∀ (i:Nat) (x:Str) (j:Nat),NB[i]?=some x->cap[i]?=some (some j)->X.N[j]?=some x/\(x,NameKind.free)∈scope.names/\((relabel scope X.env).names.lookup x=some .cell∨(relabel scope X.env).names.lookup x=some .free)
 cf:∀ n cl,cellsFrom n scope.names cl=(v,n) :: cl
 pc:∀ h,pushCells h scope.names=h.push { cls:=.type "cell",data:=.cell none }
section
variable {X:Cx} {pins:List (Addr×Obj)} {σ:St} {H:Hp} {s:Shared} {scope:Scope} {NB:List Str} {cap:List (Option Nat)} {v:Str}
end
section
variable {X:Cx}
noncomputable def yor (K:PySem.W.Frag):R2:=λx y H Q=>∃ a b xs,x=.ref a/\y=.ref b/\SqL K H a xs/\SqL K H b []/\Q (.bl (!xs.isEmpty)) H
theorem yd3 (hu:X.A.units+64 < cLine):OpR X (compareOp .NotEq) (yor X.K):=by
 intro pins s σ H x y v u Q I rx ry h
 obtain⟨a,b,xs,rfl,rfl,ha,hb,q⟩:=h
 cases rx
 cases ry
 obtain⟨its,r,p,_⟩:=I.list ha
 obtain⟨its',r',p',_⟩:=I.list hb
 cases r'
 have hA:X.A.units < cLine:=by omega
 cases r with
 | nil=>exact SeqAt.RcNeAt.lists p.isList p'.isList rfl hA (e:=λ_=>true) (λj h1 _=>absurd h1 (Nat.not_lt_zero _)) _ _ _ _ ⟨.bl false,H,I,rfl,q⟩
 | cons _ _=>exact SeqAt.RcNeAt.lists_lengths p.isList p'.isList (by simp) hA _ _ _ _ ⟨.bl true,H,I,rfl,q⟩
theorem Inv.tupBut {pins:List (Addr×Obj)}{σ:St}{H:Hp}{s:Shared}{ch:List Addr}{vs:List V}{its:List Value}{h':Heap}{t':Nat}(I:Inv X pins σ H s)(hf:∀ b∈ch,yfs X pins H b)
  (kp:∀ b o,b∉ch->s.heap.get? b=some o->h'.get? b=some o) (z:vs.length<=sizeLine) (r:Vals vs its) (g:IsTup h' s.heap.objs.size its.toArray):Inv X pins σ (upd H s.heap.objs.size (.tup vs)) { s with heap:=h',toks:=t' }:=by
 have fr:H s.heap.objs.size=none:=I.hok.fresh (Nat.le_refl _)
 have new:∀ {b:Addr} {o:Obj},s.heap.get? b=some o->b≠s.heap.objs.size:=λh=>Nat.ne_of_lt (Heap.lt_size h)
 have old:∀ {b:Addr} {u:HO},H b=some u->upd H s.heap.objs.size (.tup vs) b=some u:=λh=>by rw[yaB (yaL h fr)];exact h
 have off:∀ b u,H b=some u->b∉ch:=λb u h m=>by rw[(hf b m).1] at h;cases h
 refine I.step (g':=s.gens) (d':=s.drawn) (ch:=ch) (λb hb=>⟨(hf b hb).2.2.2.1,(hf b hb).2.1,(hf b hb).2.2.2.2⟩) (λb o _ _ n e _=>kp b o n e) (λb o _ _ n e _=>⟨o.slots,kp b o n e⟩) (λb o _ e n=>by rw[yaB (new e)];exact n)
  (λb o n e=>⟨o,kp b o n e⟩) (λ_ _ h=>old h) (λ_ _ _ h=>old h) (λ_ ps h=>⟨#[],by rw[old h];simp⟩) (λm hm=>?_) (λb u h=>?_) I.bare
 ·exact hm.at λo e=>kp _ o (λn=>(hf _ n).2.1 rfl) e
 ·by_cases hb:b=s.heap.objs.size
  ·subst hb
   rw[yae] at h
   cases h
   exact⟨z,its,r,g⟩
  ·rw[yaB hb] at h
   refine(I.hok b u h).stay (λc v hc q=>kp c v ?_ q) (λ_ h=>old h) λ_ _ h=>old h
   exact hc.elim (λe=>e▸off b u h) λe=>off c _ e
noncomputable def Itz (K:PySem.W.Frag)(a b:Addr):It :=
 ⟨λi H=>∃ xs ys x y,SqL K H a xs/\SqL K H b ys/\xs[i]?=some x/\ys[i]?=some y,λi H x H'=>∃ p v u,x=.ref p/\H p=none/\H'=upd H p (.tup [v,u])/\∀ xs ys,SqL K H a xs->SqL K H b ys->xs[i]?=some v/\ys[i]?=some u,
  λi H=>∃ xs ys,SqL K H a xs/\SqL K H b ys/\(xs.length<=i∨ys.length<=i)⟩
structure yuA (z TI TO i1 i2:Addr):Prop where
 a1:TI≠z
 a2:TO≠z
 a3:i1≠z
 a4:i2≠z
 a5:TI≠TO
 a6:TI≠i1
 a7:TI≠i2
 a8:TO≠i1
 a9:TO≠i2
 a0:i1≠i2
noncomputable def yq9 (z TI TO i1 i2 a b:Addr)(i:Nat)(h:Heap):Prop:=IsZip h z TI TO .none/\IsPair h TI (.ref i1) (.ref i2)/\(∃ u v,IsPair h TO u v)/\h.IsListIter i1 a i/\h.IsListIter i2 b i
theorem yel {h:Heap}{a b:Addr}{o p:Obj}(ga:h.get? a=some o)(gb:h.get? b=some p)(n:o.cls≠p.cls):a≠b:=λe=>n (by rw[e] at ga;rw[Option.some.inj (ga.symm.trans gb)])
theorem yg4 {h:Heap}{z TI TO i1 i2 a b:Addr}{i:Nat}{xs ys:Array Value}(F:yuA z TI TO i1 i2)(st:yq9 z TI TO i1 i2 a b i h)(ha:h.IsList a xs)(hb:h.IsList b ys):ZipApart z TI TO i1 i2 a b:=by
 obtain⟨s1,s2,⟨u,v,s3⟩,⟨o4,s4,c4,_⟩,⟨o5,s5,c5,_⟩⟩:=st
 obtain⟨oa,ga,ca,_⟩:=ha
 obtain⟨ob,gb,cb,_⟩:=hb
 exact⟨F.a1,F.a2,F.a3,F.a4,F.a5,F.a6,F.a7,F.a8,F.a9,F.a0,yel ga s1 (by rw[ca];show Value.type "list" ≠ .type "zip";decide),yel ga s3 (by rw[ca];show Value.type "list" ≠ .type "tuple";decide),yel ga s4 (by rw[ca,c4];decide),yel ga s5 (by rw[ca,c5];decide),
  yel gb s1 (by rw[cb];show Value.type "list" ≠ .type "zip";decide),yel gb s3 (by rw[cb];show Value.type "list" ≠ .type "tuple";decide),yel gb s4 (by rw[cb,c4];decide),yel gb s5 (by rw[cb,c5];decide)⟩
theorem ynz {P:Program}{w:World}{K:PySem.W.Frag}{elts:List Expr}{x1}{tp:Pos}{z TI TO i1 i2 a b:Addr}(F:yuA z TI TO i1 i2):ynC P w K (.Tuple elts x1 tp) (Itz K a b) [z,TI,TO,i1,i2] z (yq9 z TI TO i1 i2 a b) where
 mem:=by simp
 obj:=λi h st c hc=>by
  obtain⟨s1,s2,⟨u,v,s3⟩,⟨o4,s4,_,d4⟩,⟨o5,s5,_,d5⟩⟩:=st
  simp only[List.mem_cons,List.not_mem_nil,or_false] at hc
  rcases hc with rfl | rfl | rfl | rfl | rfl
  ·exact⟨_,s1,λv=>nofun⟩
  ·exact⟨_,s2,λv=>nofun⟩
  ·exact⟨_,s3,λv=>nofun⟩
  ·exact⟨_,s4,λv e=>by rw[d4] at e;cases e⟩
  ·exact⟨_,s5,λv e=>by rw[d5] at e;cases e⟩
 keep:=λi h h' st k=>by
  obtain⟨s1,s2,⟨u,v,s3⟩,s4,s5⟩:=st
  exact⟨k _ (by simp) _ s1,k _ (by simp) _ s2,⟨u,v,k _ (by simp) _ s3⟩,s4.at λo e=>k _ (by simp) o e,s5.at λo e=>k _ (by simp) o e⟩
 item:=by
  intro X hP hw hK hc i pins s σ H E I hf st hg
  subst hP hw hK
  obtain⟨xs,ys,x,y,hx,hy,ex,ey⟩:=hg
  obtain⟨itx,rx,px,_⟩:=I.list hx
  obtain⟨ity,ry,py,_⟩:=I.list hy
  obtain⟨u,eu,ru⟩:=rx.get ex
  obtain⟨v,ev,rv⟩:=ry.get ey
  have D:=yg4 F st px.isList py.isList
  obtain⟨s1,s2,⟨p,q,s3⟩,s4,s5⟩:=st
  refine wpAny_pyNext_zip_item D s1 s2 s3 s4 s5 px.isList py.isList (x:=u) (y:=v) (by simpa using eu) (by simpa using ev) λh1 b1 b2 b3 b4 b5 b6 kp=>?_
  refine⟨_,rfl,wpAny_letOwnedTupleGo_zip b1 λh2 c1 sb=>?_⟩
  have sb:Heap.SameBut z h1 h2:=sb
  have zl:s.heap.objs.size≠z:=Nat.ne_of_gt (Heap.lt_size s1)
  have fr:H s.heap.objs.size=none:=I.hok.fresh (Nat.le_refl _)
  have k2:∀ c o,c∉[z,TI,TO,i1,i2]->s.heap.get? c=some o->h2.get? c=some o:=λc o n e=>by
   simp only[List.mem_cons,List.not_mem_nil,or_false,not_or] at n
   exact(sb.2 c n.1).trans (kp c o n.1 n.2.2.1 n.2.2.2.1 n.2.2.2.2 e)
  have T2:IsPair h2 TI (.ref i1) (.ref i2):=(sb.2 _ F.a1).trans (kp _ _ F.a1 F.a5 F.a6 F.a7 s2)
  refine⟨.ref s.heap.objs.size,_,I.tupBut (t':=s.toks) hf k2 (vs:=[x,y]) (its:=[u,v]) (by show 2<=sizeLine;decide) (.cons ru (.cons rv .nil)) ⟨_,(sb.2 _ zl).trans b5,rfl,_,rfl⟩,rfl,⟨_,x,y,rfl,fr,rfl,λxs' ys' hx' hy'=>by rw[I.list_inj hx' hx,I.list_inj hy' hy];exact⟨ex,ey⟩⟩,
   ⟨c1,T2,⟨_,_,(sb.2 _ F.a2).trans b2⟩,b3.extBut sb.extBut F.a3,b4.extBut sb.extBut F.a4⟩,λc hcm=>?_⟩
  have nb:c≠s.heap.objs.size:=by
   obtain⟨o4,g4,_⟩:=s4
   obtain⟨o5,g5,_⟩:=s5
   simp only[List.mem_cons,List.not_mem_nil,or_false] at hcm
   rcases hcm with rfl | rfl | rfl | rfl | rfl
   ·exact zl.symm
   ·exact Nat.ne_of_lt (Heap.lt_size s2)
   ·exact Nat.ne_of_lt (Heap.lt_size s3)
   ·exact Nat.ne_of_lt (Heap.lt_size g4)
   ·exact Nat.ne_of_lt (Heap.lt_size g5)
  rw[yaB nb]
  exact(hf c hcm).1
 done:=by
  intro X hP hw hK hc i pins s σ H E I hf st hg
  subst hP hw hK
  obtain⟨xs,ys,hx,hy,he⟩:=hg
  obtain⟨itx,rx,px,_⟩:=I.list hx
  obtain⟨ity,ry,py,_⟩:=I.list hy
  have D:=yg4 F st px.isList py.isList
  obtain⟨s1,s2,⟨p,q,s3⟩,s4,s5⟩:=st
  have l1:=rx.length
  have l2:=ry.length
  refine wpAny_pyNext_zip_end (I.ok.hd hc) D s1 s2 s3 s4 s5 px.isList py.isList (he.imp (λh=>by simp;omega) λh=>by simp;omega) λh1 kp=>⟨rfl,?_⟩
  have off:∀ b u,H b=some u->b∉[z,TI,TO,i1,i2]:=λb u h m=>by rw[(hf b m).1] at h;cases h
  have k2:∀ c o,c∉[z,TI,TO,i1,i2]->s.heap.get? c=some o->h1.get? c=some o:=λc o n e=>by
   simp only[List.mem_cons,List.not_mem_nil,or_false,not_or] at n
   exact kp c o n.1 n.2.2.1 n.2.2.2.1 n.2.2.2.2 e
  exact I.step (g':=s.gens) (d':=s.drawn) (t':=s.toks) (ch:=[z,TI,TO,i1,i2]) (λb hb=>⟨(hf b hb).2.2.2.1,(hf b hb).2.1,(hf b hb).2.2.2.2⟩) (λb o _ _ n e _=>k2 b o n e) (λb o _ _ n e _=>⟨o.slots,k2 b o n e⟩) (λ_ _ _ _ n=>n)
   (λb o n e=>⟨o,k2 b o n e⟩) (λ_ _ h=>h) (λ_ _ _ h=>h) (λ_ ps h=>⟨#[],by rw[h];simp⟩) (λm hm=>hm.at λo e=>k2 _ o (λn=>(hf _ n).2.1 rfl) e) (λb u h=>(I.hok b u h).stay (λc v hc q=>k2 c v (hc.elim (λe=>e▸off b u h) λe=>off c _ e) q) (λ_ h=>h) λ_ _ h=>h) I.bare
 self:=λ_ _ _ _ _ st h=>wpAny_pyIter_zip st.1 h
theorem ynK:bootBuiltins "zip"=some (.type "zip"):=by decide +kernel
noncomputable def ytW (K:PySem.W.Frag)(ta:TA):TI:=fun σ H R=>ta σ H λvs H1=>∃ a b,vs=[.ref a,.ref b]/\(∃ xs,SqL K H1 a xs)/\(∃ ys,SqL K H1 b ys)/\R (Itz K a b) H1
theorem ynT {elts:List Expr}{x1}{tp:Pos}{a b:Expr}{ta:TA}{p pos:Pos}(hg:Gl X "zip")(hm:X.mg "zip"=none)(ha:PA X [a,b] ta)(hs:starEach [a,b] X.env=[(false,eval a X.env),(false,eval b X.env)]:=by rfl)(hs2:starEach [b] X.env=[(false,eval b X.env)]:=by rfl) :
  PI X (.Tuple elts x1 tp) (.Call (.Name "zip" p) [a,b] [] pos) (ytW X.K ta):=by
 intro pins s σ H R I h
 refine Call_ (yen I hg hm ynK (PyProof.Rows.callWith_type1 (thn (ha pos pins s σ H _ I h) λus s1 ⟨vs,H1,I1,r1,q1⟩=>?_) (by rw[hs,hs2]) (by rw[hs2];rfl)))
 obtain⟨la,lb,e,⟨xs,hx⟩,⟨ys,hy⟩,q⟩:=q1
 subst e
 obtain⟨u,v,rfl,ru,rv⟩:=ypF r1
 cases ru
 cases rv
 obtain⟨itx,rx,px,_⟩:=I1.list hx
 obtain⟨ity,ry,py,_⟩:=I1.list hy
 refine call_zip_2 px.isList py.isList λh' b1 b2 b3 b4 b5 sz kp=>wpAny_pyIter_zip b1 ?_
 have lt:∀ n,yfs X pins H1 (s1.heap.objs.size+n):=λn=>I1.fpOk (Nat.le_add_right _ _) (I1.hok.fresh (Nat.le_add_right _ _))
 have ne:∀ {n m:Nat},n≠m->s1.heap.objs.size+n≠s1.heap.objs.size+m:=λh e=>h (Nat.add_left_cancel e)
 refine⟨_,[s1.heap.objs.size+4,s1.heap.objs.size+2,s1.heap.objs.size+3,s1.heap.objs.size+0,s1.heap.objs.size+1],_,_,H1,rfl,I1.kept (t':=s1.toks) kp,ynz ⟨ne (by decide),ne (by decide),ne (by decide),ne (by decide),ne (by decide),ne (by decide),ne (by decide),ne (by decide),ne (by decide),ne (by decide)⟩,⟨b1,b2,⟨_,_,b3⟩,b4,b5⟩,λc hc=>?_,q⟩
 simp only[List.mem_cons,List.not_mem_nil,or_false] at hc
 rcases hc with rfl | rfl | rfl | rfl | rfl<;>exact lt _
theorem yni {K:PySem.W.Frag}{a b D:Addr}{xs ys:List V}{g:TG}{tc:TT}{te:TE}{Fin:Hp->Prop}{σ:St}{H:Hp}(Pv:Nat->St->Hp->Prop)(h0:Pv 0 σ H)(hl:∀ i σ H,Pv i σ H->SqL K H a xs/\SqL K H b ys)
  (hs:∀ i x y σ H p,xs[i]?=some x->ys[i]?=some y->Pv i σ H->H p=none->g (.ref p) σ (upd H p (.tup [x,y])) fun σ2 H2=>tc σ2 H2 λb H3=>if b=true then te σ2 H3 λy H4=>∃ ys,H4 D=some (.lst ys)/\ys.length < sizeLine/\Pv (i+1) σ2 (upd H4 D (.lst (ys++[y]))) else Pv (i+1) σ2 H3)
  (hd:∀ i σ H,i=min xs.length ys.length->Pv i σ H->Fin H):∃ W:Nat->Nat->St->Hp->Prop,(∃ m,W 0 m σ H)/\ydG (Itz K a b) g tc te D Fin W:=by
 refine⟨λi m σ H=>m=min xs.length ys.length - i/\i<=min xs.length ys.length/\Pv i σ H,⟨min xs.length ys.length,by simp,Nat.zero_le _,h0⟩,?_⟩
 rintro i m σ H ⟨rfl,hi,p⟩
 obtain⟨q1,q2⟩:=hl i σ H p
 by_cases hlt:i < min xs.length ys.length
 ·have l1:i < xs.length:=by omega
  have l2:i < ys.length:=by omega
  refine .inr ⟨⟨xs,ys,xs[i],ys[i],q1,q2,by simp[l1],by simp[l2]⟩,Pv (i+1),fun σ' H' p'=>⟨min xs.length ys.length - (i+1),by omega,rfl,hlt,p'⟩,λx H' y=>?_⟩
  obtain⟨c,v,u,e1,e2,e3,y⟩:=y
  subst e1 e3
  obtain⟨y1,y2⟩:=y xs ys q1 q2
  exact hs i v u σ H c y1 y2 p e2
 ·exact .inl ⟨⟨xs,ys,q1,q2,by omega⟩,hd i σ H (by omega) p⟩
end
noncomputable def ytD:Int×Int->DictEntry->Bool
 | (k,v),⟨h,.int k' _,.int v' _⟩=>decide (h=hashInt k)&&decide (k=k')&&decide (v=v')
 | _,_=>false
noncomputable def ymJ:List (Int×Int)->List DictEntry->Bool
 | [],[]=>true
 | q :: qs,e :: es=>ytD q e&&ymJ qs es
 | _,_=>false
structure DctIn (K:PySem.W.Frag) (a:Addr) (qs:List (Int×Int)):Prop where
 ne:(a==sysModules)=false
 nd:(qs.map (·.1)).Nodup
 at':∃ (es:Array DictEntry) (ep:Nat),K.lookup a=some ⟨.type "dict",none,.dict es ep,#[]⟩/\ymJ qs es.toList=true
theorem ym6 {q:Int×Int}{e:DictEntry}(h:ytD q e=true):∃ t t',e=⟨hashInt q.1,.int q.1 t,.int q.2 t'⟩:=by
 obtain⟨k,v⟩:=q
 obtain⟨hh,kk,vv⟩:=e
 cases kk<;>cases vv<;>simp[ytD] at h
 obtain⟨⟨h1,h2⟩,h3⟩:=h
 subst h1 h2 h3
 exact⟨_,_,rfl⟩
theorem yhq {prog:Program}{w:World}:∀ {qs:List (Int×Int)} {es:List DictEntry},ymJ qs es=true ->
  ∃ vs:List (Int×Value),vs.map (·.1)=qs.map (·.1)/\Pairs (intKind prog w) es vs/\(∀ e∈es,∃ k,(intKind prog w).is k e.key=true/\e.hash=(intKind prog w).hash k) /\
   ∀ i:Nat,∀ k v,qs[i]?=some (k,v)->∃ t,vs[i]?=some (k,.int v t)
 | [],[],_=>⟨[],rfl,.nil,λe h=>(nomatch h),λi k v h=>by simp at h⟩
 | q :: qs,e :: es,h=>by
  rw[ymJ,Bool.and_eq_true] at h
  obtain⟨t,t',rfl⟩:=ym6 h.1
  obtain⟨vs,h1,h2,h3,h4⟩:=yhq (prog:=prog) (w:=w) h.2
  have hi:(intKind prog w).is q.1 (.int q.1 t)=true:=by simp[intKind,Value.isInt]
  refine⟨(q.1,.int q.2 t') :: vs,by simp[h1],.cons hi rfl h2,λe he=>?_,λi k v hx=>?_⟩
  ·rcases List.mem_cons.mp he with rfl | he
   ·exact⟨q.1,hi,rfl⟩
   ·exact h3 e he
  ·cases i with
   | zero =>
    rw[List.getElem?_cons_zero] at hx ⊢
    cases hx
    exact⟨t',rfl⟩
   | succ i =>
    rw[List.getElem?_cons_succ] at hx ⊢
    exact h4 i k v hx
 | [],_ :: _,h=>by cases h
 | _ :: _,[],h=>by cases h
theorem DctIn.dict {K:PySem.W.Frag}{a:Addr}{qs:List (Int×Int)}{prog:Program}{w:World}{h:Heap}(d:DctIn K a qs)(X:K.In h) :
  ∃ vs ep,h.DictAt (intKind prog w) a vs ep/\vs.map (·.1)=qs.map (·.1)/\∀ i:Nat,∀ k v,qs[i]?=some (k,v)->∃ t,vs[i]?=some (k,.int v t):=by
 obtain⟨es,ep,l,b⟩:=d.at'
 obtain⟨vs,h1,h2,h3,h4⟩:=yhq (prog:=prog) (w:=w) b
 exact⟨vs,ep,⟨_,es,X a _ l,⟨rfl,rfl,rfl⟩,rfl,λe he=>h3 e (by simpa using he),h2,by rw[h1];exact d.nd⟩,h1,h4⟩
section
variable {X:Cx}
end
section
variable {X:Cx} {pins l:List (Addr×Obj)} {σ:St} {H:Hp} {s:Shared} {A:Around} {E:Value->Shared->Prop} {a kS:Addr} {b:Bool} {vs:List Value} {kz:List Int} {e1 n:Nat} {f:Value}
theorem Inv.hold {o:Obj}(I:Inv X (pins++l) σ H s)(fp:yfs X pins H a)(g:s.heap.get? a=some o)(nc:∀ v,o.data≠.cell v):Inv X (pins++(a,o) :: l) σ H s :=
 I.pins_of λp hp=>(List.mem_append.mp hp).elim (λz=>I.pin p (by simp[z])) λz=>(List.mem_cons.mp z).elim (λe=>e▸⟨g,fp.1,fp.2.1,fp.2.2.1,nc⟩) λz=>I.pin p (by simp[z])
theorem Inv.lose {q:Addr×Obj}(I:Inv X (pins++q :: l) σ H s):Inv X (pins++l) σ H s :=
 I.pins_of λp hp=>I.pin p ((List.mem_append.mp hp).elim (λz=>by simp[z]) λz=>by simp[z])
theorem Inv.held {q:Addr×Obj}(I:Inv X (pins++q :: l) σ H s):s.heap.get? q.1=some q.2:=(I.pin q (by simp)).1
theorem ygy {xs:Array Value}{e:Nat}{g:Array Value->Array Value}{Q:Unit->Shared->Prop}{M:Model}(I:Inv X (pins++(a,seqObj "list" xs e) :: l) σ H s)(fp:yfs X pins H a)(nl:∀ p∈l,p.1≠a)
  (z1:xs.size<=sizeLine) (z2:(g xs).size<=sizeLine+1) (q:∀ s' e',Inv X (pins++(a,seqObj "list" (g xs) e') :: l) σ H s'->Q () s'):wpAny M A (Builtin.List.listUpdate (.ref a) g) Q E s:=by
 have free:∀ p∈X.pn++(pins++l),p.1≠a:=λp hp=>by
  rw[← List.append_assoc] at hp
  exact(List.mem_append.mp hp).elim (fp.2.2.2.2.2 p) (nl p)
 refine listUpdate_at I.held rfl (q _ _ (Inv.hold ?_ fp (get?_update_seq I.held g) λv=>nofun)) z1 z2
 exact I.lose.turned (t':=s.toks) (λb o n u=>((Heap.SameBut.update s.heap a (Obj.mapSeq g)).2 b n).trans u) fp.1 fp.2.1 fp.2.2.2.1 fp.2.2.2.2.1 free
end
section
variable {X:Cx} {C:Addr->V->Int->Hp->Prop} {e ke:Expr} {te tk:TE} {p pos kp rp bp:Pos} {jb:Nat}
end
section
variable {κ:Type} [DecidableEq κ]
noncomputable def ymm (kvs:List (κ×V))(k:κ):Option V:=(kvs.find? λkv=>decide (kv.1=k)).map (·.2)
noncomputable def yr6 (kvs:List (κ×V))(k:κ)(v:V):List (κ×V) :=
 if (kvs.any λkv=>decide (kv.1=k))=true then kvs.map (λkv=>if kv.1=k then (kv.1,v) else kv) else kvs++[(k,v)]
theorem yi5 {p:κ×V}{r:List (κ×V)}{k:κ}(e:p.1=k):ymm (p :: r) k=some p.2:=by simp[ymm,List.find?_cons,e]
theorem yiW {p:κ×V}{r:List (κ×V)}{k:κ}(e:¬ p.1=k):ymm (p :: r) k=ymm r k:=by simp[ymm,List.find?_cons,e]
theorem RelO.getD {o:Option V}{u:Option Value}{d:V}{d':Value}(r:RelO o u)(rd:RelV d d'):RelV (o.getD d) (u.getD d'):=by
 cases o with
 | none=>cases u with
  | none=>exact rd
  | some _=>exact(show False from r).elim
 | some _=>cases u with
  | none=>exact(show False from r).elim
  | some _=>exact r
theorem KV.val {kvs:List (κ×V)}{vs:List (κ×Value)}(r:KV kvs vs)(k:κ):RelO (ymm kvs k) (valueAt vs k):=by
 unfold KV at r
 induction r with
 | nil=>exact True.intro
 | @cons p q ps qs h t ih =>
  obtain⟨h1,h2⟩:=h
  by_cases e:p.1=k
  ·have e':q.1=k:=h1.symm.trans e
   have b:valueAt (q :: qs) k=some q.2:=by simp[valueAt,List.find?_cons,e']
   rw[yi5 e,b];exact h2
  ·have e':¬ q.1=k:=λz=>e (h1.trans z)
   have b:valueAt (q :: qs) k=valueAt qs k:=by simp[valueAt,List.find?_cons,e']
   rw[yiW e,b];exact ih
theorem KV.any {kvs:List (κ×V)}{vs:List (κ×Value)}(r:KV kvs vs)(k:κ):(kvs.any λkv=>decide (kv.1=k))=vs.any λkv=>decide (kv.1=k):=by
 unfold KV at r
 induction r with
 | nil=>rfl
 | cons h t ih=>rw[List.any_cons,List.any_cons,ih,h.1]
theorem KV.keys {kvs:List (κ×V)}{vs:List (κ×Value)}(r:KV kvs vs):kvs.map (·.1)=vs.map (·.1):=by
 unfold KV at r
 induction r with
 | nil=>rfl
 | cons h t ih=>rw[List.map_cons,List.map_cons,ih,h.1]
theorem KV.length {kvs:List (κ×V)}{vs:List (κ×Value)}(r:KV kvs vs):kvs.length=vs.length:=Paired.length r
end
theorem ysI {P:Program}{w:World}{k:Key}{u:Value}(r:RelV (kV k) u):(ydI P w).is k u=true:=by
 cases k with
 | inl i=>obtain⟨t,e⟩:=(show ∃ t,u=Value.int i t from r);subst e;exact yiH P w i t
 | inr x=>obtain⟨t,e⟩:=(show ∃ t,u=Value.str x t from r);subst e;exact yim P w x t
theorem yg3 {P:Program}{w:World}:∀ {ks:List Key} {us:List Value},Vals (ks.map kV) us->ItemsAre (ydI P w) ks us
 | [],_,r=>by rw[List.map_nil] at r;cases r;exact .nil
 | k :: ks,_,r=>by
  rw[List.map_cons] at r
  cases r with
  | cons h t=>exact .cons (ysI h) (yg3 t)
noncomputable abbrev KT (H:Hp):List (List Key×V)->List (List Key×Addr×Value)->Prop:=Paired λp q=>p.1=q.1/\H q.2.1=some (.tup (p.1.map kV))/\RelV p.2 q.2.2
theorem KT.val {H:Hp}{kvs:List (List Key×V)}{xs:List (List Key×Addr×Value)}(r:KT H kvs xs)(k:List Key):RelO (ymm kvs k) ((atKey xs k).map (·.2)):=by
 induction r with
 | nil=>exact True.intro
 | @cons p q ps qs h t ih =>
  obtain⟨h1,_,h2⟩:=h
  by_cases e:p.1=k
  ·have e':q.1=k:=h1.symm.trans e
   have b:atKey (q :: qs) k=some q.2:=by simp[atKey,List.find?_cons,e']
   rw[yi5 e,b];exact h2
  ·have e':¬ q.1=k:=λz=>e (h1.trans z)
   have b:atKey (q :: qs) k=atKey qs k:=by simp[atKey,List.find?_cons,e']
   rw[yiW e,b];exact ih
theorem KT.keeps {H H':Hp}{kvs:List (List Key×V)}{xs:List (List Key×Addr×Value)}(r:KT H kvs xs)(ht:∀ b ys,H b=some (.tup ys)->H' b=some (.tup ys)):KT H' kvs xs :=
 Paired.mapP r λ_ _ z=>⟨z.1,ht _ _ z.2.1,z.2.2⟩
section
variable {P:Program} {w:World} {H:Hp} {h:Heap} {a:Addr}
theorem yuF {ks:List Key}(ok:HOk P w H h)(e:H a=some (.tup (ks.map kV))):(tupleKind (ydI P w)).is h ks a:=by
 obtain⟨_,its,r,o,h1,h2,n,h3⟩:=(show ObjOk P w H h a (.tup (ks.map kV)) from ok a _ e)
 exact⟨o,its.toArray,n,h1,h2,h3,by simpa using yg3 r⟩
end
noncomputable def DGet (H:Hp)(a:Addr)(y:V)(r:Option V):Prop :=
 (∃ kvs k,Rd H a (.dK kvs)/\y=kV k/\r=ymm kvs k)∨∃ kvs k b,Rd H a (.dT kvs)/\y=.ref b/\H b=some (.tup (k.map kV))/\r=ymm kvs k
noncomputable def DPut (H:Hp)(a:Addr)(y v:V)(H':Hp):Prop :=
 (∃ kvs k,H a=some (.dK kvs)/\y=kV k/\kvs.length < sizeLine/\H'=upd H a (.dK (yr6 kvs k v))) ∨
 ∃ kvs k b,H a=some (.dT kvs)/\y=.ref b/\H b=some (.tup (k.map kV))/\kvs.length < sizeLine/\H'=upd H a (.dT (yr6 kvs k v))
theorem DGet.k {H:Hp}{a:Addr}{kvs:List (Key×V)}{k:Key}(e:H a=some (.dK kvs)):DGet H a (kV k) (ymm kvs k):=.inl ⟨kvs,k,.inl e,rfl,rfl⟩
theorem DGet.t {H:Hp}{a b:Addr}{kvs:List (List Key×V)}{k:List Key}(e:H a=some (.dT kvs))(eb:H b=some (.tup (k.map kV))):DGet H a (.ref b) (ymm kvs k):=.inr ⟨kvs,k,b,.inl e,rfl,eb,rfl⟩
theorem DPut.k {H:Hp}{a:Addr}{kvs:List (Key×V)}{k:Key}{v:V}(e:H a=some (.dK kvs))(hl:kvs.length < sizeLine):DPut H a (kV k) v (upd H a (.dK (yr6 kvs k v))):=.inl ⟨kvs,k,e,rfl,hl,rfl⟩
theorem DPut.t {H:Hp}{a b:Addr}{kvs:List (List Key×V)}{k:List Key}{v:V}(e:H a=some (.dT kvs))(eb:H b=some (.tup (k.map kV)))(hl:kvs.length < sizeLine) :
  DPut H a (.ref b) v (upd H a (.dT (yr6 kvs k v))):=.inr ⟨kvs,k,b,e,rfl,eb,hl,rfl⟩
section
variable {X:Cx} {pins:List (Addr×Obj)} {σ:St} {H:Hp} {s:Shared} {a:Addr} {y v:V} {u r:Value} {o:Option V} {A:Around} {E:Value->Shared->Prop}
end
section
variable {X:Cx} {pins:List (Addr×Obj)} {σ:St} {H:Hp} {s:Shared} {a:Addr} {kvs:List (Key×V)} {k:Key} {u:Value} {A:Around} {E:Value->Shared->Prop}
end
section
variable {X:Cx} {o i e value:Expr} {pos pos' tpos:Pos} {td ty tv:TE}
end
structure M1 (X:Cx) (o:Expr) (m:Str) (apos:Pos) (e:Expr) (cpos:Pos):Prop where
 base:attributeBase o m X.env (eval o X.env)=eval o X.env
 few:((backTo cpos (starEach [e] X.env)).all (λx=>!x.1)&&(backToKw cpos (keywordEach [] X.env)).all (λx=>x.1.isSome)
  && decide (([e]:List Expr).length+([]:List Keyword).length+(if ([]:List Keyword).isEmpty then 0 else 1) < 30))=true
 line:(apos.endLine==cpos.line)=true
 trees:backTo cpos (starEach [e] X.env)=[(false,eval e X.env)]
structure M2 (X:Cx) (o:Expr) (m:Str) (apos:Pos) (e f:Expr) (cpos:Pos):Prop where
 base:attributeBase o m X.env (eval o X.env)=eval o X.env
 few:((backTo cpos (starEach [e,f] X.env)).all (λx=>!x.1)&&(backToKw cpos (keywordEach [] X.env)).all (λx=>x.1.isSome)
  && decide (([e,f]:List Expr).length+([]:List Keyword).length+(if ([]:List Keyword).isEmpty then 0 else 1) < 30))=true
 line:(apos.endLine==cpos.line)=true
 trees:backTo cpos (starEach [e,f] X.env)=[(false,eval e X.env),(false,eval f X.env)]
section
variable {X:Cx} {pins:List (Addr×Obj)} {σ:St} {H:Hp} {s:Shared} {a:Addr} {y d:V} {u r:Value} {o:Option V} {A:Around} {E:Value->Shared->Prop}
end
section
variable {X:Cx} {o e f:Expr} {apos cpos:Pos} {td ty tx:TE}
end
end L2
namespace L2
open PySem PySem.W PyProof.Rows
section
variable {c:Nat->Nat->Bool} {n:Nat}
noncomputable def Sat (c:Nat->Nat->Bool)(n:Nat){α:Type}:KasT α->(α->Prop)->Prop
 | .ret a,Q=>Q a
 | .ask i j k,Q=>i < n/\j < n/\Sat c n (k (c i j)) Q
theorem ydr {α β:Type}{f:α->KasT β}{Q:β->Prop}:∀ {t:KasT α},Sat c n t (λa=>Sat c n (f a) Q)->Sat c n (t.bind f) Q
 | .ret a,h=>h
 | .ask i j k,h=>⟨h.1,h.2.1,ydr h.2.2⟩
theorem yoF {α:Type}{cmp:Nat->Nat->(Bool->Shared->Prop)->Shared->Prop}{s:Shared}{R:α->Shared->Prop}{Q:α->Prop}(hc:∀ i j C,i < n->j < n->C (c i j) s->cmp i j C s)(q:∀ a,Q a->R a s) :
  ∀ {t:KasT α},Sat c n t Q->t.kasWp cmp R s
 | .ret a,h=>q a h
 | .ask i j k,h=>hc i j _ h.1 h.2.1 (yoF hc q h.2.2)
structure Strict (c:Nat->Nat->Bool) (n:Nat):Prop where
 irr:∀ i,i < n->c i i=false
 tr:∀ i j k,i < n->j < n->k < n->c i j=true->c j k=true->c i k=true
 tot:∀ i j,i < n->j < n->c i j=false->c j i=false->i=j
theorem Strict.asy (o:Strict c n){i j:Nat}(hi:i < n)(hj:j < n)(h:c i j=true):c j i=false:=by
 cases z:c j i with
 | false=>rfl
 | true =>
  have:=o.tr i j i hi hj hi h z
  rw[o.irr i hi] at this
  cases this
theorem Strict.le_trans (o:Strict c n){i j k:Nat}(hi:i < n)(hj:j < n)(hk:k < n)(h1:c j i=false)(h2:c k j=false):c k i=false:=by
 cases z:c k i with
 | false=>rfl
 | true =>
  cases y:c i j with
  | true=>rw[o.tr k i j hk hi hj z y] at h2;cases h2
  | false =>
   have:=o.tot i j hi hj y h1
   rw[this,h2] at z
   cases z
noncomputable def G (p:Array Nat)(k:Nat):Nat:=p.getD k 0
theorem ykv (p:Array Nat)(k:Nat):G p k=(p[k]?).getD 0:=by
 unfold G
 rw[Array.getD_eq_getD_getElem?]
theorem yjg {p:Array Nat}{k d:Nat}(hs:k < p.size)(hd:d<=k)(j:Nat):G (bubble p k d) j=if j=k - d then G p k else if k - d < j/\j<=k then G p (j - 1) else G p j:=by
 rw[ykv,getElem?_bubble hs d hd,ykv,ykv,ykv]
 split
 ·rfl
 ·split<;>rfl
theorem yru {p:Array Nat}{i j:Nat}(hj:j<=p.size)(k:Nat):G (kas_rev p i j) k=if i<=k/\k < j then G p (i+j - 1 - k) else G p k:=by
 unfold kas_rev
 rw[ykv,getElem?_mirror_all hj,ykv,ykv]
 split<;>rfl
structure Shuf (n:Nat) (p:Array Nat):Prop where
 size:p.size=n
 perm:p.toList.Perm (List.range n)
theorem Shuf.lt {p:Array Nat}(b:Shuf n p){k:Nat}(h:k < n):G p k < n:=by
 have hk:k < p.size:=b.size▸h
 have:p[k]∈p.toList:=Array.getElem_mem_toList hk
 have:=b.perm.mem_iff.mp this
 rw[ykv,Array.getElem?_eq_getElem hk]
 exact List.mem_range.mp this
theorem Shuf.ne {p:Array Nat}(b:Shuf n p){j k:Nat}(hj:j < n)(hk:k < n)(h:G p j=G p k):j=k:=by
 have nd:p.toList.Nodup:=b.perm.nodup_iff.mpr List.nodup_range
 have h1:j < p.toList.length:=by rw[Array.length_toList,b.size];exact hj
 have h2:k < p.toList.length:=by rw[Array.length_toList,b.size];exact hk
 rw[ykv,ykv,Array.getElem?_eq_getElem (b.size▸hj),Array.getElem?_eq_getElem (b.size▸hk)] at h
 exact(List.getElem_inj nd (h₀:=h1) (h₁:=h2)).mp (by simpa using h)
theorem Shuf.rev {p:Array Nat}(b:Shuf n p)(i j:Nat):Shuf n (kas_rev p i j) :=
 ⟨(mirror_size _ _ _ _).trans b.size,(mirror_perm p i j _).toList.trans b.perm⟩
theorem Shuf.bub {p:Array Nat}(b:Shuf n p)(k d:Nat):Shuf n (bubble p k d) :=
 ⟨(bubble_size _ _ _).trans b.size,(bubble_perm p k d).toList.trans b.perm⟩
noncomputable def Up (c:Nat->Nat->Bool)(p:Array Nat)(k:Nat):Prop:=∀ a b,a<=b->b < k->c (G p b) (G p a)=false
noncomputable def Down (c:Nat->Nat->Bool)(p:Array Nat)(k:Nat):Prop:=∀ a b,a<=b->b < k->c (G p a) (G p b)=false
theorem Up.snoc (o:Strict c n){p:Array Nat}(b:Shuf n p){k:Nat}(h1:1<=k)(hk:k < n)(u:Up c p k)(h:c (G p k) (G p (k - 1))=false):Up c p (k+1):=λa d l z=>by
 by_cases e:d=k
 ·subst e
  by_cases e2:a=d
  ·rw[e2];exact o.irr _ (b.lt hk)
  ·exact o.le_trans (b.lt (by omega)) (b.lt (by omega)) (b.lt hk) (u a (d - 1) (by omega) (by omega)) h
 ·exact u a d l (by omega)
theorem Down.snoc (o:Strict c n){p:Array Nat}(b:Shuf n p){k:Nat}(h1:1<=k)(hk:k < n)(u:Down c p k)(h:c (G p (k - 1)) (G p k)=false):Down c p (k+1):=λa d l z=>by
 by_cases e:d=k
 ·subst e
  by_cases e2:a=d
  ·rw[e2];exact o.irr _ (b.lt hk)
  ·exact o.le_trans (b.lt hk) (b.lt (by omega)) (b.lt (by omega)) h (u a (d - 1) (by omega) (by omega))
 ·exact u a d l (by omega)
theorem yii (o:Strict c n){p:Array Nat}(b:Shuf n p){Q:Nat->Prop}:∀ (f a:Nat),1<=a->a+f<=n->Up c p a->(∀ m,a<=m->m<=a+f->Up c p m->(m=a+f∨c (G p m) (G p (m - 1))=true)->Q m)->Sat c n (kas_asc p f a) Q
 | 0,a,_,_,u,q=>q a (Nat.le_refl _) (Nat.le_refl _) u (.inl rfl)
 | f+1,a,h1,hn,u,q=>by
  refine⟨b.lt (by omega),b.lt (by omega),?_⟩
  show Sat c n (if c (G p a) (G p (a - 1))=true then _ else _) Q
  cases z:c (G p a) (G p (a - 1)) with
  | true=>exact q a (Nat.le_refl _) (by omega) u (.inr z)
  | false=>exact yii o b f (a+1) (by omega) (by omega) (u.snoc o b h1 (by omega) z) λm l1 l2 um e=>q m (by omega) (by omega) um (e.imp (λe=>by omega) λe=>e)
theorem yjr (o:Strict c n){p:Array Nat}(b:Shuf n p){Q:Array Nat×Nat×Nat->Prop}:∀ (f a:Nat),1<=a->a+f<=n->Down c p a->(∀ m,a<=m->m<=a+f->Down c p m->Q (p,m,0))->Sat c n (kas_desc f p a 0) Q
 | 0,a,_,_,u,q=>q a (Nat.le_refl _) (Nat.le_refl _) u
 | f+1,a,h1,hn,u,q=>by
  refine⟨b.lt (by omega),b.lt (by omega),?_⟩
  show Sat c n (if c (G p a) (G p (a - 1))=true then _ else _) Q
  cases z:c (G p a) (G p (a - 1)) with
  | true=>exact yjr o b f (a+1) (by omega) (by omega) (u.snoc o b h1 (by omega) (o.asy (b.lt (by omega)) (b.lt (by omega)) z)) λm l1 l2 um=>q m (by omega) (by omega) um
  | false =>
   refine⟨b.lt (by omega),b.lt (by omega),?_⟩
   show Sat c n (if c (G p (a - 1)) (G p a)=true then _ else _) Q
   cases y:c (G p (a - 1)) (G p a) with
   | true=>exact q a (Nat.le_refl _) (by omega) u
   | false =>
    have:=b.ne (by omega) (by omega) (o.tot _ _ (b.lt (by omega)) (b.lt (by omega)) z y)
    omega
theorem Down.rev {p:Array Nat}(b:Shuf n p){m:Nat}(hm:m<=n)(u:Down c p m):Up c (kas_rev p 0 m) m:=λa d l z=>by
 rw[yru (by rw[b.size];exact hm),yru (by rw[b.size];exact hm),if_pos (by omega),if_pos (by omega)]
 exact u _ _ (by omega) (by omega)
theorem yme (o:Strict c n){p:Array Nat}(b:Shuf n p)(h2:2<=n){Q:Nat×Array Nat->Prop}(q:∀ m p',Shuf n p'->1<=m->m<=n->Up c p' m->Q (m,p')):Sat c n (kas_count n p) Q:=by
 have one:Up c p 1:=λa d l z=>by
  have:a=d:=by omega
  rw[this]
  exact o.irr _ (b.lt (by omega))
 refine ydr (yii o b (n - 1) 1 (Nat.le_refl _) (by omega) one λm l1 l2 um e=>?_)
 by_cases hm:m=n
 ·rw[if_pos (by simp[hm])]
  exact q m p b l1 (by omega) um
 rw[if_neg (by simp[hm])]
 have hz:c (G p m) (G p (m - 1))=true:=e.resolve_left (by omega)
 by_cases h1:m > 1
 ·rw[if_pos h1]
  refine⟨b.lt (by omega),b.lt (by omega),?_⟩
  show Sat c n (if c (G p 0) (G p (m - 1))=true then _ else _) Q
  cases y:c (G p 0) (G p (m - 1)) with
  | true=>exact q m p b l1 (by omega) um
  | false =>
   have:=b.ne (by omega) (by omega) (o.tot _ _ (b.lt (by omega)) (b.lt (by omega)) y (um 0 (m - 1) (by omega) (by omega)))
   omega
 ·rw[if_neg h1]
  have m1:m=1:=by omega
  subst m1
  have two:Down c p 2:=Down.snoc o b (k:=1) (Nat.le_refl _) (by omega) (λa d l z=>by
   have:a=d:=by omega
   rw[this]
   exact o.irr _ (b.lt (by omega))) (o.asy (b.lt (by omega)) (b.lt (by omega)) hz)
  refine ydr (yjr o b (n - 2) 2 (by omega) (by omega) two λk k1 k2 uk=>?_)
  rw[if_neg (by simp)]
  refine ydr (yii o (b.rev 0 k) (n - k) k (by omega) (by omega) (uk.rev b (by omega)) λj j1 j2 uj _=>?_)
  exact q j _ (b.rev 0 k) (by omega) (by omega) uj
theorem yfe (o:Strict c n){p:Array Nat}(b:Shuf n p){k:Nat}(hk:k < n)(u:Up c p k){Q:Nat->Prop}(q:∀ l,l<=k->(∀ a,a < l->c (G p k) (G p a)=false)->(∀ a,l<=a->a < k->c (G p k) (G p a)=true)->Q l) :
  ∀ (f l r:Nat),r<=l+f->l<=r->r<=k->(∀ a,a < l->c (G p k) (G p a)=false)->(∀ a,r<=a->a < k->c (G p k) (G p a)=true)->Sat c n (kas_place p k f l r) Q
 | 0,l,r,hf,lr,rk,h1,h2=>q l (by omega) h1 λa l1 l2=>h2 a (by omega) l2
 | f+1,l,r,hf,lr,rk,h1,h2=>by
  unfold kas_place
  by_cases e:l≥r
  ·rw[if_pos e]
   exact q l (by omega) h1 λa l1 l2=>h2 a (by omega) l2
  ·rw[if_neg e]
   refine⟨b.lt hk,b.lt (by omega),?_⟩
   show Sat c n (if c (G p k) (G p ((l+r) / 2))=true then _ else _) Q
   cases z:c (G p k) (G p ((l+r) / 2)) with
   | true =>
    refine yfe o b hk u q f l ((l+r) / 2) (by omega) (by omega) (by omega) h1 λa l1 l2=>?_
    cases y:c (G p k) (G p a) with
    | true=>rfl
    | false =>
     have:=o.le_trans (i:=G p ((l+r) / 2)) (j:=G p a) (k:=G p k) (b.lt (by omega)) (b.lt (by omega)) (b.lt hk) (u _ _ l1 l2) y
     rw[z] at this
     cases this
   | false =>
    exact yfe o b hk u q f ((l+r) / 2+1) r (by omega) (by omega) rk (λa l1=>o.le_trans (b.lt (by omega)) (b.lt (by omega)) (b.lt hk) (u a ((l+r) / 2) (by omega) (by omega)) z) h2
theorem Up.put (o:Strict c n){p:Array Nat}(b:Shuf n p){k l:Nat}(hk:k < n)(hl:l<=k)(u:Up c p k)(h1:∀ a,a < l->c (G p k) (G p a)=false)(h2:∀ a,l<=a->a < k->c (G p k) (G p a)=true):Up c (bubble p k (k - l)) (k+1):=λa d le z=>by
 have hs:k < p.size:=b.size▸hk
 have e:k - (k - l)=l:=by omega
 rw[yjg hs (by omega),yjg hs (by omega),e]
 have asy:∀ a,l<=a->a < k->c (G p a) (G p k)=false:=λa q1 q2=>o.asy (b.lt hk) (b.lt (by omega)) (h2 a q1 q2)
 have ir:=o.irr _ (b.lt hk)
 repeat' split
 all_goals first
  | exact ir
  | (exfalso;omega)
  | exact h1 _ (by omega)
  | exact asy _ (by omega) (by omega)
  | exact u _ _ (by omega) (by omega)
theorem yly (o:Strict c n){Q:Array Nat->Prop}(q:∀ p,Shuf n p->Up c p n->Q p):∀ (f k:Nat) (p:Array Nat),k+f=n->Shuf n p->Up c p k->Sat c n (kas_bin f p k) Q
 | 0,k,p,e,b,u=>q p b (by rw[← e];exact u)
 | f+1,k,p,e,b,u=>ydr (yfe o b (by omega) u (λl lk h1 h2=>yly o q f (k+1) _ (by omega) (b.bub k (k - l)) (u.put o b (by omega) lk h1 h2)) k 0 k (by omega) (by omega) (Nat.le_refl _) (λa h=>nomatch h) λa h1 h2=>by omega)
theorem ymW (o:Strict c n)(h2:2<=n){Q:Array Nat->Prop}(q:∀ p,Shuf n p->Up c p n->Q p):Sat c n (kas_sort n) Q:=by
 refine ydr (yme o (p:=(List.range n).toArray) ⟨by simp,by simp⟩ h2 λm p' b l1 l2 u=>?_)
 show Sat c n (if m < n then kas_bin (n - max m 1) p' (max m 1) else .ret p') Q
 by_cases h:m < n
 ·rw[if_pos h,show max m 1=m by omega]
  exact yly o q (n - m) m p' (by omega) b u
 ·rw[if_neg h]
  have:m=n:=by omega
  exact q p' b (this▸u)
theorem yoU (o:Strict c n){p:Array Nat}(b:Shuf n p)(u:Up c p n):p.toList.Pairwise λi j=>c i j=true:=by
 rw[List.pairwise_iff_getElem]
 intro i j hi hj l
 rw[Array.length_toList,b.size] at hi hj
 have e1:p.toList[i]=G p i:=by rw[ykv,Array.getElem?_eq_getElem (b.size▸hi)];simp
 have e2:p.toList[j]=G p j:=by rw[ykv,Array.getElem?_eq_getElem (b.size▸hj)];simp
 rw[e1,e2]
 cases z:c (G p i) (G p j) with
 | true=>rfl
 | false =>
  have:=b.ne hi hj (o.tot _ _ (b.lt hi) (b.lt hj) z (u i j (by omega) hj))
  omega
end
end L2
namespace L2
open PySem PySem.Spec PySem.W PyProof.Rows
section
variable {X:Cx} {pins:List (Addr×Obj)} {σ:St} {H:Hp} {s:Shared} {A:Around} {E:Value->Shared->Prop} {a kS:Addr} {vs ks:List Value} {e e1 n:Nat} {f:Value}
structure yuz (X:Cx) (A:Around) (ks:List Value) (c:Nat->Nat->Bool) (n:Nat) (s:Shared):Prop where
 ord:Strict c n
 kind:2<=n->∃ κ,(∀ (Q:SortKind->Shared->Prop) (E:Value->Shared->Prop),Q κ s->wpAny (model X.prog X.w) A (keyKind' ks.toArray) Q E s)/\∀ i j C,i < n->j < n->C (c i j) s->kas_ask X.prog X.w A κ ks i j C s
structure yit (c:Nat->Nat->Bool) (n:Nat) (p:Array Nat):Prop where
 shuf:Shuf n p
 up:Up c p n
theorem yfT {α:Type}(vs:List α)(d:α):(List.range vs.length).map (λi=>vs.getD i d)=vs:=by
 apply List.ext_getElem (by simp)
 intro i h1 h2
 simp at h1
 simp[List.getD_eq_getElem?_getD,h1]
theorem ylP {c:Nat->Nat->Bool}(o:Strict c n)(h:n < 2):yit c n (List.range n).toArray:=by
 refine⟨⟨by simp,by simp⟩,λi j l z=>?_⟩
 have:i=j:=by omega
 subst this
 exact o.irr _ (Shuf.lt ⟨by simp,by simp⟩ z)
end
end L2
namespace L2
open PySem PySem.Spec PySem.W PyProof.Rows
section
variable {X:Cx} {pins:List (Addr×Obj)} {σ:St} {H:Hp} {s:Shared} {A:Around} {E:Value->Shared->Prop} {a kS:Addr} {vs:List Value} {e1 n:Nat} {f:Value}
theorem ymr {c:Nat->Nat->Bool}{P:PySem.Fin->Shared->Prop}(I:Inv X pins σ H s)(ga:s.heap.get? a=some (seqObj "list" vs.toArray n))(fa:yfs X pins H a)(h64:vs.length < 64)
  (q:∀ l s',Inv X l σ H s'->yuz X A vs c vs.length s')
  (h:∀ s3 p d,Inv X pins σ H s3->s3.heap.get? a=some (seqObj "list" (p.toList.map λi=>vs.getD i Value.none).toArray d)->yit c vs.length p->P (.done (.ret .none)) s3) :
  wpAny (model X.prog X.w) A (Builtin.«list.sort» ⟨[.ref a],[]⟩) P E s:=by
 have big:64<=sizeLine:=by decide
 have small:vs.toArray.size<=sizeLine:=by simp;omega
 have I0:Inv X (pins++[(a,seqObj "list" vs.toArray n)]) σ H s:=Inv.hold (l:=[]) (by rw[List.append_nil];exact I) fa ga λv=>nofun
 rw[list_sort_plain]
 refine wpAny_bind (listItems_at ga rfl (wpAny_bind (ygy (g:=λ_=>#[]) I0 fa (λp hp=>nomatch hp) small (Nat.zero_le _) λs1 e1 I1=>?_)))
 refine wpAny_bind (seqEpoch_at I1.held rfl (wpAny_bind (wpAny_newTuple (wpAny_bind (wpAny_newList (wpAny_holding ?_) (Nat.zero_le _))) (by simpa using small))))
 generalize hT:s1.heap.push { cls:=.type "tuple",data:=.seq vs.toArray.toList.toArray }=T
 have I2:Inv X (pins++[(a,seqObj "list" #[] e1)]) σ H { s1 with heap:=T }:=I1.kept (t':=s1.toks) λb o g=>hT▸Heap.get?_push_of_some _ g
 have I3:Inv X (pins++[(a,seqObj "list" #[] e1)]) σ H { s1 with heap:=T.push (seqObj "list" #[] 0) }:=I2.kept (t':=s1.toks) λb o g=>Heap.get?_push_of_some _ g
 have ask:=q _ _ I3
 dsimp only
 by_cases h2:vs.length < 2
 ·rw[if_pos (by simpa using h2),if_pos (by simpa using h2)]
  refine wpAny_bind (wpAny_pure (wpAny_bind (wpAny_pure ?_)))
  refine wpAny_bind (seqEpoch_at I3.held rfl (wpAny_bind (ygy I3 fa (λp hp=>nomatch hp) (Nat.zero_le _) (by show((vs.toArray.zip vs.toArray).map (·.2)).size<=sizeLine+1;simp;omega) λs3 d I4=>?_)))
  rw[show failedOf ((),SortSt.mk' general' (vs.toArray.zip vs.toArray) #[] 7 none).snd=none from rfl]
  simp only[bne_self_eq_false,reduceCtorEq,if_false,Bool.false_eq_true]
  have I5:=I4.lose
  rw[List.append_nil] at I5
  refine wpAny_pure (h s3 (List.range vs.length).toArray d I5 ?_ (ylP ask.ord h2))
  rw[I4.held,List.toList_toArray,yfT]
  have:(vs.toArray.zip vs.toArray).map (·.2)=vs.toArray:=by
   apply Array.ext'
   simp[List.map_snd_zip]
  rw[show(arrOf (SortSt.mk' general' (vs.toArray.zip vs.toArray) #[] 7 none)).map (·.2)=(vs.toArray.zip vs.toArray).map (·.2) from rfl,this]
 ·rw[if_neg (by simpa using h2),if_neg (by simpa using h2)]
  obtain⟨κ,hk,hc⟩:=ask.kind (by omega)
  refine wpAny_bind (hk _ _ (wpAny_bind (wpAny_mono (kat_run (A:=A) (ks:=vs) (vs:=vs) (Q:=λst' s'=>s'={ s1 with heap:=T.push (seqObj "list" #[] 0) }/\∃ p:Array Nat,yit c vs.length p/\arrOf st'=p.map (kas_item (vs.toArray.zip vs.toArray))/\failedOf st'=none) (G:=λp s'=>s'={ s1 with heap:=T.push (seqObj "list" #[] 0) }/\yit c vs.length p) rfl (by omega) h64
   (λp st' s' z1 z2 z3 z4=>⟨z4.1,p,z4.2,z2,z3⟩) (yoF hc (λp cp=>⟨rfl,cp⟩) (ymW ask.ord (by omega) λp b u=>⟨b,u⟩))) ?_ λ_ _ z=>z)))
  rintro⟨⟨⟩,st'⟩ s' ⟨es,p,cp,ea,ef⟩
  subst es
  refine wpAny_bind (seqEpoch_at I3.held rfl (wpAny_bind (ygy (g:=λ_=>(arrOf st').map (·.2)) I3 fa (λp hp=>nomatch hp) (Nat.zero_le _) (by rw[ea];simp[cp.shuf.size];omega) λs3 d I4=>?_)))
  dsimp only
  rw[ef]
  simp only[bne_self_eq_false,reduceCtorEq,if_false,Bool.false_eq_true]
  have I5:=I4.lose
  rw[List.append_nil] at I5
  refine wpAny_pure (h s3 p d I5 (by rw[I4.held,kat_snds rfl ea]) cp)
end
end L2
namespace L2
open PySem PySem.Spec PySem.W PyProof.Rows
section
variable {X:Cx} {pins l:List (Addr×Obj)} {σ:St} {H:Hp} {s:Shared} {A:Around} {E:Value->Shared->Prop}
theorem yjJ (h:Heap):∀ {ks:List Value},(∀ k∈ks,∃ a o xs n i t,k=.ref a/\h.get? a=some o/\o.cls=.type "tuple" /\ o.data=.seq xs n/\xs[0]?=some (.int i t))->∃ fs:List Value,KatTups h ks fs/\fs.length=ks.length/\∀ f∈fs,∃ i t,f=.int i t
 | [],_=>⟨[],trivial,rfl,λf hf=>nomatch hf⟩
 | k :: ks,hk=>by
  obtain⟨a,o,xs,n,i,t,rfl,g,c,d,f⟩:=hk k List.mem_cons_self
  obtain⟨fs,h1,h2,h3⟩:=yjJ h λk' hk'=>hk k' (List.mem_cons_of_mem _ hk')
  exact⟨.int i t :: fs,.cons g c d f h1,by rw[List.length_cons,List.length_cons,h2],λf' hf'=>(List.mem_cons.mp hf').elim (λz=>⟨i,t,z⟩) (h3 f')⟩
theorem yec:∀ ns:List Int,HT.lexLt ns ns=false
 | []=>rfl
 | n :: ns=>by rw[HT.lexLt_cons,if_pos rfl];exact yec ns
theorem yll:∀ {a b c:List Int},HT.lexLt a b=true->HT.lexLt b c=true->HT.lexLt a c=true
 | [],[],c,h1,h2=>h2
 | [],y :: b,[],h1,h2=>by rw[HT.lexLt_cons_nil] at h2;cases h2
 | [],y :: b,z :: c,h1,h2=>rfl
 | x :: a,[],c,h1,h2=>by rw[HT.lexLt_cons_nil] at h1;cases h1
 | x :: a,y :: b,[],h1,h2=>by rw[HT.lexLt_cons_nil] at h2;cases h2
 | x :: a,y :: b,z :: c,h1,h2=>by
  rw[HT.lexLt_cons] at h1 h2 ⊢
  by_cases e1:x=y<;>by_cases e2:y=z
  ·rw[if_pos e1] at h1
   rw[if_pos e2] at h2
   rw[if_pos (e1.trans e2)]
   exact yll h1 h2
  ·rw[if_neg e2] at h2
   rw[if_neg (e1▸e2),e1]
   exact h2
  ·rw[if_neg e1] at h1
   rw[if_neg (e2▸e1),← e2]
   exact h1
  ·rw[if_neg e1] at h1
   rw[if_neg e2] at h2
   have h1:x < y:=by simpa using h1
   have h2:y < z:=by simpa using h2
   rw[if_neg (by omega)]
   simp
   omega
theorem ylD:∀ {a b:List Int},HT.lexLt a b=false->HT.lexLt b a=false->a=b
 | [],[],_,_=>rfl
 | [],y :: b,h,_=>by rw[HT.lexLt_nil_cons] at h;cases h
 | x :: a,[],_,h=>by rw[HT.lexLt_nil_cons] at h;cases h
 | x :: a,y :: b,h1,h2=>by
  rw[HT.lexLt_cons] at h1 h2
  by_cases e:x=y
  ·rw[if_pos e] at h1
   rw[if_pos e.symm] at h2
   rw[e,ylD h1 h2]
  ·rw[if_neg e] at h1
   rw[if_neg (Ne.symm e)] at h2
   simp at h1 h2
   omega
theorem yfH {n:Nat}{N:Nat->List Int}(inj:∀ i j,i < n->j < n->N i=N j->i=j):Strict (λi j=>HT.lexLt (N i) (N j)) n :=
 ⟨λi _=>yec _,λi j k _ _ _ h1 h2=>yll h1 h2,λi j hi hj h1 h2=>inj i j hi hj (ylD h1 h2)⟩
end
end L2
namespace L2
open PySem PySem.Spec PySem.W PyProof.Rows
section
variable {X:Cx} {pins:List (Addr×Obj)} {σ:St} {H:Hp} {s:Shared} {A:Around} {E:Value->Shared->Prop}
noncomputable def Col (X:Cx)(A:Around)(pins:List (Addr×Obj))(σ:St)(H:Hp)(src:Value)(xs:List V)(s:Shared):Prop :=
 ∀ (Q:List Value->Shared->Prop) (E:Value->Shared->Prop),(∀ vs s',Vals xs vs->Inv X pins σ H s'->Q vs s')->wpAny (model X.prog X.w) A (collect src) Q E s
theorem ynl {l:Addr}{xs:List V}(I:Inv X pins σ H s)(h:SqL X.K H l xs):Col X A pins σ H (.ref l) xs s:=λQ E q=>by
 obtain⟨its,rv,pl,hz⟩:=I.list h
 refine collect_list (vs:=its) pl.isList (q _ _ rv (I.kept (t':=s.toks) λb o g=>?_)) (by rw[← rv.length];exact hz)
 exact(Heap.get?_update_other _ _ (Nat.ne_of_gt (Heap.lt_size g))).trans (Heap.get?_push_of_some _ g)
theorem yl4 {src:Value}{kw:List (Str×Value)}{xs:List V}{Q:VK}{R:Hp->Array Nat->Prop}(few:xs.length < 64)(col:Col X A.in1 pins σ H src xs s)
  (ha1:argsOk "sorted" ⟨[src],kw⟩) (ha2:∀ x,argsOk "list.sort" ⟨[.ref x],kw⟩)
  (body:∀ a vs s',Vals xs vs->vs.length=xs.length->Inv X pins σ H s'->s'.heap.get? a=some (seqObj "list" vs.toArray 0)->yfs X pins H a->∀ (P:PySem.Fin->Shared->Prop) (E:Value->Shared->Prop),
   (∀ s3 p d H',R H' p->Shuf xs.length p->yfs X pins H' a->Inv X pins σ H' s3->s3.heap.get? a=some (seqObj "list" (p.toList.map λi=>vs.getD i Value.none).toArray d)->P (.done (.ret .none)) s3) ->
   wpAny (model X.prog X.w) A.in1.in1 (Builtin.«list.sort» ⟨[.ref a],kw⟩) P E s')
  (h:∀ H' a p,R H' p->Shuf xs.length p->H' a=none->Q (.ref a) (upd H' a (.lst (p.toList.map λi=>xs.getD i .non)))) :
  wpAny (model X.prog X.w) A (call (.builtin "sorted") [src] kw) (EP X pins σ Q) E s:=by
 have big:64<=sizeLine:=by decide
 refine call_function_entry_kw kind_sorted plain_sorted entry_sorted ha1 (wpAny_bind (m:=checkCount "sorted" 1 1 _) (wpAny_pure (wpAny_bind (col _ _ λvs s1 rv I1=>?_))))
 have el:=rv.length
 refine wpAny_bind (wpAny_newList ?_ (by omega))
 have fa:yfs X pins H s1.heap.objs.size:=I1.fpOk (Nat.le_refl _) (I1.hok.fresh (Nat.le_refl _))
 have gN:(s1.heap.push (seqObj "list" vs.toArray 0)).get? s1.heap.objs.size=some (seqObj "list" vs.toArray 0):=Heap.get?_push_size _ rfl
 refine wpAny_bind (wpAny_holding (wpAny_call_entry_kw slot_list_sort ⟨_,gN,rfl⟩ entry_list_sort ?_ (ha2 _)))
 refine body _ vs _ rv el.symm (I1.kept (t':=s1.toks) λx o g=>Heap.get?_push_of_some _ g) gN fa _ _ λs3 p d H' hR sh fa3 I3 g3=>⟨_,rfl,wpAny_pure ⟨_,rfl,?_⟩⟩
 have ry:Vals (p.toList.map λi=>xs.getD i .non) (p.toList.map λi=>vs.getD i Value.none):=by
  have one:∀ i,RelV (xs.getD i .non) (vs.getD i Value.none):=λi=>by
   rw[List.getD_eq_getElem?_getD,List.getD_eq_getElem?_getD]
   cases e:xs[i]? with
   | none =>
    rw[List.getElem?_eq_none_iff.mpr (by rw[← el];exact List.getElem?_eq_none_iff.mp e)]
    rfl
   | some x =>
    obtain⟨u,eu,ru⟩:=rv.get e
    rw[eu]
    exact ru
  induction p.toList with
  | nil=>exact .nil
  | cons i l ih=>exact .cons (one i) ih
 have z:(p.toList.map λi=>xs.getD i V.non).length<=sizeLine:=by rw[List.length_map,Array.length_toList,sh.size];omega
 exact⟨.ref _,_,I3.note (u:=.lst (p.toList.map λi=>xs.getD i .non)) fa3.1 I1.sz fa3.2.1 fa3.2.2.2.2.1 fa3.2.2.2.2.2 g3 ⟨z,_,d,ry,g3⟩,rfl,h _ _ _ hR sh fa3.1⟩
end
end L2
namespace L2
open PySem PySem.Spec PyProof.Rows
section
variable {X:Cx}
end
end L2
namespace L2
open PySem
section
variable {prog:Program} {w:World} {A:Around} {E:Value->Shared->Prop} {s:Shared}
structure yux (z TO i1 i2:Addr) (f1 f2:List Addr):Prop where
 z1:z∉f1
 z2:z∉f2
 o1:TO∉f1
 o2:TO∉f2
 a2:i1∉f2
 b1:i2∉f1
 oz:TO≠z
 az:i1≠z
 bz:i2≠z
 oa:TO≠i1
 ob:TO≠i2
end
end L2
namespace L2
open PySem
section
variable {prog:Program} {w:World} {A:Around} {E:Value->Shared->Prop} {s:Shared}
end
end L2
namespace L2
open PySem PySem.Spec PyProof.Rows
section
variable {X:Cx}
end
end L2
namespace L2
open PySem PySem.Spec PyProof.Rows PySem.SeqAt
open AutoSeq1 (wpAny_loadPart')
open MeetsSeq MeetsSeq2 MeetsSeq3
end L2
namespace L2
open PySem PySem.Spec PyProof.Rows
section
variable {prog:Program} {w:World} {A:Around} {E:Value->Shared->Prop} {s:Shared}
noncomputable def yq8 (A:Around)(s:Shared)(y x:Value)(b:Bool):Prop:=∀ (prog:Program) (w:World) (E:Value->Shared->Prop) (Q:Value->Shared->Prop),Q (.bool b) s->wpAny (model prog w) A (richCompare .Lt y x) Q E s
end
section
variable {X:Cx} {pins l1 l2:List (Addr×Obj)} {σ:St} {H:Hp} {s:Shared} {h':Heap} {a:Addr} {o o':Obj}
end
structure yu0 (X:Cx) (σ:St) (A:Around) (f:Value) (vs:List Value) (H:Hp) (KV:Nat->V->Hp->Prop) (lt:Nat->Nat->Bool):Prop where
 call:∀ (i:Nat) (v:Value),vs[i]?=some v->∀ (pins:List (Addr×Obj)) (H1:Hp) (s:Shared),Same H H1->Inv X pins σ H1 s ->
  wpAny (model X.prog X.w) A (PySem.call f [v]) (λr s'=>∃ k H2,Same H1 H2/\Inv X pins σ H2 s'/\RelV k r/\KV i k H2) (λ_ _=>False) s
 same:∀ i k H1 H2,KV i k H1->Same H1 H2->KV i k H2
 cmp:∀ (i j:Nat) (k k':V) (r r':Value) (pins:List (Addr×Obj)) (H1:Hp) (s:Shared),KV i k H1->KV j k' H1->RelV k r->RelV k' r'->Inv X pins σ H1 s->yq8 A s r r' (lt i j)
section
variable {X:Cx} {pins:List (Addr×Obj)} {σ:St} {H:Hp} {A:Around} {B J l q:Addr} {vs:List Value} {KV:Nat->V->Hp->Prop} {lt:Nat->Nat->Bool} {R:Result->Shared->Prop}
structure yu5 (X:Cx) (pins:List (Addr×Obj)) (σ:St) (H:Hp) (A:Around) (B J l q:Addr) (vs:List Value) (KV:Nat->V->Hp->Prop) (lt:Nat->Nat->Bool):Prop where
 M:yu0 X σ A.in1 (.ref q) vs H KV lt
 hh:A.in1.handled=none
 hl:∀ (pins:List (Addr×Obj)) (H1:Hp) (s:Shared),Same H H1->Inv X pins σ H1 s->s.heap.IsList l vs.toArray
 ne:B≠J
 fB:∀ H1,Same H H1->H1 B=none->yfs X pins H1 B
 fJ:∀ H1,Same H H1->H1 J=none->yfs X pins H1 J
end
section
variable {X:Cx} {pins:List (Addr×Obj)} {σ:St} {H:Hp} {s:Shared} {A:Around} {E:Value->Shared->Prop} {l q:Addr} {vs:List Value} {KV:Nat->V->Hp->Prop} {lt:Nat->Nat->Bool} {Q:Value->Shared->Prop}
end
end L2
namespace L2
open PySem PySem.Spec PyProof.Rows PySem.SeqAt
section
variable {X:Cx} {pins:List (Addr×Obj)} {σ:St} {H:Hp} {s:Shared} {A:Around}
end
end L2
namespace L2
open PySem PySem.Spec PyProof.Rows
section
variable {X:Cx} {tg:Expr}
end
section
variable {prog:Program} {w:World} {A:Around} {E:Value->Shared->Prop} {s:Shared}
end
section
variable {X:Cx} {tg:Expr}
end
section
variable {prog:Program} {w:World} {A:Around} {E:Value->Shared->Prop} {s:Shared}
end
set_option maxHeartbeats 200000 in
set_option maxHeartbeats 200000 in
section
variable {X:Cx}
set_option maxHeartbeats 400000 in
theorem yjp:∀ {ns:List Int} {us:List Value},Vals (ns.map V.int) us->IntsAre us ns
 | [],_,.nil=>.nil
 | n :: ns,_,.cons ⟨t,e⟩ r=>by subst e;exact IntsAre.cons _ _ (yjp r)
noncomputable def yn5 (K:PySem.W.Frag)(R:Int->Int->Prop):List V->Hp->VK->Prop:=λxs H Q=>∃ (p:Addr) (ns:List Int),xs=[.ref p]/\SqL K H p (ns.map V.int)/\0 < ns.length/\∀ m,m∈ns->(∀ a∈ns,R a m)->Q (.int m) H
theorem ylT {ys:Array (Int×Tok)}{j:Nat}(h:j < ys.size):numAt ys j∈ys.toList.map (·.1) :=
 List.mem_map.mpr ⟨ys[j],by simp,by simp[numAt,h]⟩
theorem ykN {ys:Array (Int×Tok)}{a:Int}(h:a∈ys.toList.map (·.1)):∃ j,j < ys.size/\a=numAt ys j:=by
 obtain⟨q,hq,rfl⟩:=List.mem_map.mp h
 obtain⟨j,lt,e⟩:=List.getElem_of_mem hq
 have lt':j < ys.size:=by simpa using lt
 refine⟨j,lt',?_⟩
 rw[← e]
 simp only[numAt,Array.getElem_toList,Array.getElem?_eq_getElem lt']
 rfl
theorem ykb {nm:String}{pick:(Nat->Int)->Nat->Nat}{R:Int->Int->Prop}
  (rule:∀ {s:Shared} {l:Addr} {ys:Array (Int×Tok)} {E:Value->Shared->Prop} {Q:Value->Shared->Prop},s.heap.IsList l (intItems ys)->0 < ys.size->(∀ v h' tk,(intItems ys)[pick (numAt ys) (ys.size - 1)]?=some v->(∀ b o,s.heap.get? b=some o->h'.get? b=some o)->Q v { s with heap:=h',toks:=tk })->wpAny (model X.prog X.w) X.A (call (.builtin nm) [.ref l]) Q E s)
  (best:∀ num k,pick num k<=k/\∀ j,j<=k->R (num j) (num (pick num k))):ycC X (.builtin nm) (yn5 X.K R):=by
 intro pins s σ H xs us Q I r h
 obtain⟨p,ns,rfl,hq,one,q⟩:=h
 obtain⟨u,rfl,ru⟩:=yed r
 cases ru
 obtain⟨its,rv,pl,hz⟩:=I.list hq
 have ia:=yjp rv
 obtain⟨ys,e⟩:=ia.allInts.items
 have all:ns=ys.toList.map (·.1):=by
  rw[← ia.numsOf,show numsOf its=numsOf its.toArray.toList from rfl,e]
  exact nums_intItems ys
 subst all
 have many:0 < ys.size:=by simpa using one
 obtain⟨b1,b2⟩:=best (numAt ys) (ys.size - 1)
 refine rule (e▸pl.isList) many λv h' tk hv hk=>?_
 obtain⟨t,rfl⟩:=intItems_at hv
 refine⟨.int _,H,I.kept (t':=tk) hk,⟨t,rfl⟩,q _ (ylT (by omega)) λa ha=>?_⟩
 obtain⟨j,lt,rfl⟩:=ykN ha
 exact b2 j (by omega)
theorem yhW (hn:X.A.handled=none):ycC X (.builtin "max") (yn5 X.K (λa m=>a<=m)) :=
 ykb (pick:=λnum k=>argBest (λi j=>decide (num i > num j)) k) (λhl ne q=>max_intList hn hl ne q) λnum k=>argBest_gt num k
end
theorem ycc {K:PySem.W.Frag}{a:Addr}{xs:List V}{g:TG}{tb:TS}{D:yex}{σ:St}{H:Hp}(Pv:Nat->St->Hp->Prop)(h0:Pv 0 σ H)(hl:∀ i σ H,i<=xs.length->Pv i σ H->SqL K H a xs)
  (hs:∀ i x σ H (N:St->Hp->Prop),(∀ σ' H',Pv (i+1) σ' H'->N σ' H')->xs[i]?=some x->Pv i σ H->g x σ H fun σ2 H2=>tb { D with nx:=N,ct:=N,bk:=D.nx } σ2 H2) (hd:∀ σ H,Pv xs.length σ H->D.nx σ H) :
  ∃ W:Nat->Nat->St->Hp->Prop,(∃ m,W 0 m σ H)/\∀ i m σ H,W i m σ H ->
   ((Itl K a).stop i H/\D.nx σ H)∨((Itl K a).go i H/\∃ N:St->Hp->Prop,(∀ σ' H',N σ' H'->∃ m',m' < m/\W (i+1) m' σ' H')/\∀ x H',(Itl K a).yld i H x H'->g x σ H' fun σ2 H2=>tb { D with nx:=N,ct:=N,bk:=D.nx } σ2 H2) :=
 yna Pv h0 hl (λi x σ H hx p=>hs i x σ H _ (λ_ _ z=>z) hx p) hd
theorem ydp {lo:Int}{n:Nat}{g:TG}{tb:TS}{D:yex}{σ:St}{H:Hp}(Pv:Nat->St->Hp->Prop)(h0:Pv 0 σ H)
  (hs:∀ i σ H (N:St->Hp->Prop),(∀ σ' H',Pv (i+1) σ' H'->N σ' H')->i < n->Pv i σ H->g (.int (lo+i)) σ H fun σ2 H2=>tb { D with nx:=N,ct:=N,bk:=D.nx } σ2 H2) (hd:∀ σ H,Pv n σ H->D.nx σ H) :
  ∃ W:Nat->Nat->St->Hp->Prop,(∃ m,W 0 m σ H)/\∀ i m σ H,W i m σ H ->
   ((Itr lo n).stop i H/\D.nx σ H)∨((Itr lo n).go i H/\∃ N:St->Hp->Prop,(∀ σ' H',N σ' H'->∃ m',m' < m/\W (i+1) m' σ' H')/\∀ x H',(Itr lo n).yld i H x H'->g x σ H' fun σ2 H2=>tb { D with nx:=N,ct:=N,bk:=D.nx } σ2 H2) :=
 yls Pv h0 (λi σ H hx p=>hs i σ H _ (λ_ _ z=>z) hx p) hd
theorem ycm {K:PySem.W.Frag}{a D:Addr}{xs:List V}{g:TG}{tc:TT}{te:TE}{Fin:Hp->Prop}{σ:St}{H:Hp}(Pv:Nat->St->Hp->Prop)(h0:Pv 0 σ H)(hl:∀ i σ H,i<=xs.length->Pv i σ H->SqL K H a xs)
  (hs:∀ i x σ H (N:St->Hp->Prop),(∀ σ' H',Pv (i+1) σ' H'->N σ' H')->xs[i]?=some x->Pv i σ H->g x σ H fun σ2 H2=>tc σ2 H2 λb H3=>if b=true then te σ2 H3 λy H4=>∃ ys,H4 D=some (.lst ys)/\ys.length < sizeLine/\N σ2 (upd H4 D (.lst (ys++[y]))) else N σ2 H3)
  (hd:∀ σ H,Pv xs.length σ H->Fin H):∃ W:Nat->Nat->St->Hp->Prop,(∃ m,W 0 m σ H)/\ydG (Itl K a) g tc te D Fin W :=
 yk6 Pv h0 hl (λi x σ H hx p=>hs i x σ H _ (λ_ _ z=>z) hx p) hd
section
variable {σ:St} {H:Hp} {Q:VK} {D:yex} {ta tb tc te:TE} {r:R2} {v x y:V} {i:Nat} {K:PySem.W.Frag}
theorem ydf (e:σ[i]?=some (some v))(q:Q v H):ydD i σ H Q:=⟨v,e,q⟩
theorem i_c (q:Q v H):tC v σ H Q:=q
theorem yrY (q:ta σ H λx H1=>tb σ H1 λy H2=>r x y H2 Q):tOp r ta tb σ H Q:=q
theorem yuV {r:V->Hp->VK->Prop}(q:ta σ H λx H1=>r x H1 Q):tUn r ta σ H Q:=q
theorem ysd {g:Int->Int->V}{a b:Int}(q:Q (g a b) H):rI0 g (.int a) (.int b) H Q:=⟨a,b,rfl,rfl,q⟩
theorem i_I {C:Int->Int->Prop}{g:Int->Int->V}{a b:Int}(c:C a b)(q:Q (g a b) H):rI C g (.int a) (.int b) H Q:=⟨a,b,rfl,rfl,c,q⟩
theorem i_U {g:Int->V}{a:Int}(q:Q (g a) H):rU g (.int a) H Q:=⟨a,rfl,q⟩
theorem ypi {a b:Int}(q:Q (.bl (decide (a=b))) H):rEq (.int a) (.int b) H Q:=⟨rfl,by rw[show decide (V.int a=V.int b)=decide (a=b) by rw[Bool.eq_iff_iff];simp];exact q⟩
theorem ydc {tr:TA}{Q:List V->Hp->Prop}(q:ta σ H λx H1=>tr σ H1 λxs H2=>Q (x :: xs) H2):yb3 ta tr σ H Q:=q
theorem yc5 {Q:List V->Hp->Prop}(q:Q [] H):yh6 σ H Q:=q
theorem yha {sp:Sp}{E:XK}{t:TA}(q:t σ H λvs H1=>sp (vs++[]) H1 Q E):yfl sp [] E t σ H Q:=q
theorem yuR {r:List V->Hp->VK->Prop}{t:TA}(q:t σ H λvs H1=>r vs H1 Q):tCB r t σ H Q:=q
theorem ycw {t u:TS}(q:t { D with nx:=u D } σ H):ytu t u D σ H:=q
theorem ybn (q:D.nx σ H):ypx D σ H:=q
theorem yf9 {g:TG}(q:te σ H λx H1=>g x σ H1 D.nx):ysg te g D σ H:=q
theorem ybj {N:St->Hp->Prop}(q:N (σ.set i (some v)) H):ybZ i v σ H N:=q
theorem yo6 (q:te σ H D.rt):ysc te D σ H:=q
theorem yoB (q:te σ H λ_ H1=>D.nx σ H1):ynt te D σ H:=q
theorem ytz {c:TT}{t u:TS}(q:c σ H λb H1=>if b=true then t D σ H1 else u D σ H1):yip c t u D σ H:=q
theorem yuP {c:TT}(q:c σ H λb H1=>if b=true then ta σ H1 Q else tb σ H1 Q):tIf c ta tb σ H Q:=q
theorem yq7 {R:Bool->Hp->Prop}(q:te σ H λx H'=>∃ k,x=.bl k/\R k H'):ynx te σ H R:=q
theorem yuQ {R:Bool->Hp->Prop}(q:te σ H λx H'=>∃ k,x=.bl k/\R k H'):tB te σ H R:=q
theorem ya0 {b:Bool}{R:Bool->Prop}(q:R b):∃ k,V.bl b=V.bl k/\R k:=⟨b,rfl,q⟩
theorem ytr {t u:TT}{R:Bool->Hp->Prop}(q:t σ H λc H1=>if c=true then u σ H1 R else R false H1):ytf t u σ H R:=q
theorem yuO {t u:TT}{R:Bool->Hp->Prop}(q:t σ H λc H1=>if c=true then R true H1 else u σ H1 R):tOr t u σ H R:=q
theorem yt3 {t:TT}{R:Bool->Hp->Prop}(q:t σ H λc H1=>R (!c) H1):ysE t σ H R:=q
theorem yjf (q:ta σ H λx H1=>∃ c,x=.bl c/\if c=true then tb σ H1 Q else Q (.bl false) H1):yj5 ta tb σ H Q:=q
theorem yml (q:ta σ H λx H1=>∃ c,x=.bl c/\Q (.bl (!c)) H1):yk5 ta σ H Q:=q
theorem ybf {p:Addr}{xs:List V}{k:Int}(s:SqL K H p xs)(a:atI xs k=some v)(q:Q v H):ytO K (.ref p) (.int k) H Q:=⟨p,xs,k,v,rfl,rfl,s,a,q⟩
theorem yaE {p:Addr}{xs:List V}{k:Int}(s:SqT K H p xs)(a:atI xs k=some v)(q:Q v H):yjk K (.ref p) (.int k) H Q:=⟨p,xs,k,v,rfl,rfl,s,a,q⟩
theorem ydk {R:Bool->Hp->Prop}(q:R true H):yft σ H R:=q
theorem ykw {p:Addr}{a b:V}{m n:Nat}{N:St->Hp->Prop}(s:SqT K H p [a,b])(q:N ((σ.set m (some a)).set n (some b)) H):ykJ K 2 (ycF (ybZ m) (ycF (ybZ n) ykS)) (.ref p) σ H N:=⟨p,_,rfl,s,rfl,a,_,rfl,b,_,rfl,rfl,q⟩
theorem i_T {A B:Prop}(q:A):if true=true then A else B:=by rw[if_pos rfl];exact q
theorem i_F {A B:Prop}(q:B):if false=true then A else B:=by rw[if_neg (by simp)];exact q
theorem ysU {t:TA}(q:t σ H λxs H1=>xs.length<=sizeLine/\∀ p,H1 p=none->Q (.ref p) (upd H1 p (.lst xs))):ysl t σ H Q:=q
theorem ytA {t:TA}(q:t σ H λxs H1=>xs.length<=sizeLine/\∀ p,H1 p=none->Q (.ref p) (upd H1 p (.tup xs))):ypQ t σ H Q:=q
theorem ych {l:Addr}{xs:List V}(h:H l=some (.lst xs))(n:xs.length < sizeLine)(q:Q .non (upd H l (.lst (xs++[y])))):ygi (.ref l) [y] H Q:=⟨l,xs,y,rfl,rfl,h,n,q⟩
theorem i_d {p:Prop}[Decidable p]{A B:Prop}(h1:p->A)(h2:¬ p->B):if decide p=true then A else B:=by
 by_cases z:p
 ·rw[if_pos (decide_eq_true z)];exact h1 z
 ·rw[if_neg (by rw[decide_eq_false z];simp)];exact h2 z
theorem i_n {b:Bool}{A B:Prop}(h1:b=false->A)(h2:b=true->B):if (!b)=true then A else B:=by
 cases b
 ·exact h1 rfl
 ·exact h2 rfl
theorem i_b {b:Bool}{A B:Prop}(h1:b=true->A)(h2:b=false->B):if b=true then A else B:=by
 cases b
 ·exact h2 rfl
 ·exact h1 rfl
end
section
variable {X:Cx}
noncomputable def Its (z:Str):It:=⟨λi _=>i < z.cps.size,λi H x H'=>H'=H/\∃ c,z.cps.toList[i]?=some c/\x=.str ⟨#[c]⟩,λi _=>z.cps.size<=i⟩
theorem ym7 {P:Program}{w:World}{K:PySem.W.Frag}{tg:Expr}(z:Str)(t:Tok)(it:Addr):ynC P w K tg (Its z) [it] it (λi h=>h.IsStrIter it (strIterType z) z t i) where
 mem:=by simp
 obj:=λi h st b hb=>by
  have e:b=it:=by simpa using hb
  subst e
  obtain⟨o,e,c,d⟩:=st
  exact⟨o,e,λv z=>by rw[d] at z;cases z⟩
 keep:=λi h h' st k=>by
  obtain⟨o,e,r⟩:=st
  exact⟨o,k it (by simp) o e,r⟩
 item:=by
  intro X hP hw hK hc i pins s σ H E I hf st hg
  subst hP hw hK
  obtain⟨f0,f1,f2,f3,f4,f5⟩:=hf it (by simp)
  have hi:i < z.cps.size:=hg
  have fin:∀ h',h'.IsStrIter it (strIterType z) z t (i+1)->Heap.SameBut it s.heap h'->∃ u,some (Value.str ⟨#[z.cps[i]]⟩ s.toks)=some u /\
    wpAny (model X.prog X.w) X.A (letOwnedTupleGo tg (.ref it) u) (λ_ s2=>∃ x H',Inv X pins σ H' s2/\RelV x u/\(Its z).yld i H x H'/\s2.heap.IsStrIter it (strIterType z) z t (i+1)/\∀ b∈[it],H' b=none) E { s with heap:=h',toks:=s.toks+1 }:=λh' st' sb=>by
   have I1:Inv X pins σ H { s with heap:=h',toks:=s.toks+1 }:=I.turned (t':=s.toks+1) (λb o hb e=>(sb.2 b hb).trans e) f0 f1 f3 f4 f5
   obtain⟨o,e,c,d⟩:=id st'
   refine⟨_,rfl,ym8 (s:={ s with heap:=h',toks:=s.toks+1 }) e c d (by unfold strIterType;split<;>decide) ⟨.str ⟨#[z.cps[i]]⟩,H,I1,⟨_,rfl⟩,⟨rfl,z.cps[i],by simp[hi],rfl⟩,st',λb hb=>(hf b hb).1⟩⟩
  cases ha:z.cps.all (· < 128)
  ·have e:strIterType z="str_iterator":= by simp[strIterType,ha]
   rw[e] at st
   exact wpAny_pyNext_wide_item st (c:=z.cps[i]) (by simp[hi]) λh' a b=>fin h' (by rw[e];exact a) b
  ·have e:strIterType z="str_ascii_iterator":= by simp[strIterType,ha]
   rw[e] at st
   exact wpAny_pyNext_ascii_item st (c:=z.cps[i]) (by simp[hi]) λh' a b=>fin h' (by rw[e];exact a) b
 done:=by
  intro X hP hw hK hc i pins s σ H E I hf st hg
  subst hP hw hK
  obtain⟨f0,f1,f2,f3,f4,f5⟩:=hf it (by simp)
  have hi:z.cps.size<=i:=hg
  cases ha:z.cps.all (· < 128)
  ·have e:strIterType z="str_iterator":= by simp[strIterType,ha]
   rw[e] at st
   exact wpAny_pyNext_wide_end (I.ok.hd hc) st (by simp[hi]) λh' eb=>⟨rfl,I.turned (t':=s.toks) (λb o hb e=>eb b o hb e) f0 f1 f3 f4 f5⟩
  ·have e:strIterType z="str_ascii_iterator":= by simp[strIterType,ha]
   rw[e] at st
   exact wpAny_pyNext_ascii_end (I.ok.hd hc) st (by simp[hi]) λh' eb=>⟨rfl,I.turned (t':=s.toks) (λb o hb e=>eb b o hb e) f0 f1 f3 f4 f5⟩
 self:=λ_ _ _ _ _ st h=>by
  cases ha:z.cps.all (· < 128)
  ·have e:strIterType z="str_iterator":= by simp[strIterType,ha]
   rw[e] at st
   exact wpAny_pyIter_striter_wide st h
  ·have e:strIterType z="str_ascii_iterator":= by simp[strIterType,ha]
   rw[e] at st
   exact wpAny_pyIter_striter_ascii st h
noncomputable def yuq (tl:TE):TI:=fun σ H R=>tl σ H λx H1=>∃ z,x=.str z/\R (Its z) H1
theorem yob {tg l:Expr}{tl:TE}(hl:PE X l tl):PI X tg l (yuq tl):=by
 intro pins s σ H R I h
 refine thn (hl pins s σ H _ I h) λv s1 ⟨x,H1,I1,r1,q1⟩=>?_
 obtain⟨z,e,q⟩:=q1
 subst e
 obtain⟨t,rfl⟩:=r1
 refine wpAny_pyIter_strU ?_
 refine⟨s1.heap.objs.size,[s1.heap.objs.size],_,_,H1,rfl,I1.kept (t':=s1.toks) λb o e=>Heap.get?_push_of_some _ e,ym7 z t _,⟨_,Heap.get?_push_size _ rfl,rfl,rfl⟩,λb hb=>?_,q⟩
 have e:b=s1.heap.objs.size:=by simpa using hb
 subst e
 exact I1.fpOk (Nat.le_refl _) (I1.hok.fresh (Nat.le_refl _))
theorem yiS {z:Str}{D:Addr}{g:TG}{tc:TT}{te:TE}{Fin:Hp->Prop}{σ:St}{H:Hp}(Pv:Nat->St->Hp->Prop)(h0:Pv 0 σ H)
  (hs:∀ i c σ H,z.cps.toList[i]?=some c->Pv i σ H->g (.str ⟨#[c]⟩) σ H fun σ2 H2=>tc σ2 H2 λb H3=>if b=true then te σ2 H3 λy H4=>∃ ys,H4 D=some (.lst ys)/\ys.length < sizeLine/\Pv (i+1) σ2 (upd H4 D (.lst (ys++[y]))) else Pv (i+1) σ2 H3)
  (hd:∀ σ H,Pv z.cps.size σ H->Fin H):∃ W:Nat->Nat->St->Hp->Prop,(∃ m,W 0 m σ H)/\ydG (Its z) g tc te D Fin W:=by
 refine⟨λi m σ H=>m=z.cps.size - i/\i<=z.cps.size/\Pv i σ H,⟨z.cps.size,by simp,Nat.zero_le _,h0⟩,?_⟩
 rintro i m σ H ⟨rfl,hi,p⟩
 by_cases hlt:i < z.cps.size
 ·refine .inr ⟨hlt,Pv (i+1),fun σ' H' p'=>⟨z.cps.size - (i+1),by omega,rfl,hlt,p'⟩,λx H' y=>?_⟩
  obtain⟨e,c,hc,e2⟩:=y
  subst e e2
  exact hs i c σ _ hc p
 ·have e:i=z.cps.size:=by omega
  subst e
  exact .inl ⟨Nat.le_refl _,hd σ H p⟩
theorem yem:∀ {ts:List Str} {us:List Value},Vals (ts.map V.str) us->∃ l:List (Str×Tok),us=strValues l/\l.map (·.1)=ts
 | [],_,.nil=>⟨[],rfl,rfl⟩
 | x :: ts,_,.cons ⟨t,e⟩ r=>by
  subst e
  obtain⟨l,e1,e2⟩:=yem r
  exact⟨(x,t) :: l,by rw[e1];rfl,by rw[List.map_cons,e2]⟩
noncomputable def ymU (K:PySem.W.Frag):V->List V->Hp->VK->Prop:=λx vs H Q=>∃ (a:Str) (p:Addr) (ts:List Str),x=.str a/\vs=[.ref p]/\SqL K H p (ts.map V.str)/\JoinOk a ts=true/\Q (.str (Txt.join a ts)) H
theorem ycs:MtR X "str.join" (ymU X.K):=by
 intro pins s σ H x vs v us Q I rx rv h
 obtain⟨a,p,ts,rfl,rfl,hq,hj,q⟩:=h
 obtain⟨t,rfl⟩:=rx
 obtain⟨u,rfl,ru⟩:=rv.one
 cases ru
 obtain⟨its,rvs,pl,hz⟩:=I.list hq
 obtain⟨l,rfl,e2⟩:=yem rvs
 exact SC.join pl.isList e2 hj λt' k=>⟨.str _,H,I.tok _,⟨_,rfl⟩,q⟩
end
end L2
namespace TX
open PySem PySem.Builtin PySem.Builtin.Str PySem.StrLaws
noncomputable def one (c:Nat):Str:=⟨#[c]⟩
noncomputable def yc0 (c:Nat):Nat->List Nat->List Nat
 | _,[]=>[]
 | k,a :: l=>if a=c then k :: yc0 c (k+1) l else yc0 c (k+1) l
noncomputable def ya5 (c:Nat):List Nat->List (List Nat)
 | []=>[[]]
 | a :: l=>if a=c then [] :: ya5 c l else match ya5 c l with
  | []=>[[a]]
  | h :: t=>(a :: h) :: t
theorem yhv {x:Str}{pre L:List Nat}{a c:Nat}(h:x.cps.toList=pre++a :: L):subAt x (one c) pre.length=decide (a=c):=by
 unfold subAt one
 have e:x.cps.extract pre.length (pre.length+1)=#[a]:=by
  apply Array.toList_inj.mp
  rw[Array.toList_extract,List.extract_eq_take_drop,h]
  simp
 show(x.cps.extract pre.length (pre.length+1)==#[c])=_
 rw[e]
 by_cases q:a=c
 ·subst q;simp
 ·rw[decide_eq_false q]
  exact beq_eq_false_iff_ne.mpr λz=>q (by simpa using z)
theorem yjv (x:Str)(c limit:Nat):∀ (L pre:List Nat) (arr:Array Nat) (free:Nat),x.cps.toList=pre++L->free<=pre.length ->
  (forIn (List.range' pre.length (L.length+1)) (arr,free) (occBody x (one c) x.length limit)).run.fst.toList=arr.toList++(yc0 c pre.length L).take (limit - arr.size)
 | [],pre,arr,free,h,hf=>by
  have hl:x.length=pre.length:=by
   have:=congrArg List.length h
   simpa [Str.length] using this
  rw[List.length_nil,List.range'_succ,List.forIn_cons]
  unfold occBody
  have:¬ (((arr,free).fst.size < limit/\(arr,free).snd<=pre.length)/\pre.length+(one c).length<=x.length):=λz=>by
   have:=z.2
   rw[hl] at this
   simp[one,Str.length] at this
   omega
  rw[if_neg λz=>this z.1]
  simp[yc0]
 | a :: L,pre,arr,free,h,hf=>by
  have hl:x.length=pre.length+L.length+1:=by
   have:=congrArg List.length h
   simp[Str.length] at this
   show x.cps.size=_
   omega
  have h2:x.cps.toList=(pre++[a])++L:=by rw[h];simp
  have l2:(pre++[a]).length=pre.length+1:=by simp
  rw[List.length_cons,List.range'_succ,List.forIn_cons]
  unfold occBody
  rw[yhv h]
  have ol:(one c).length=1:=rfl
  by_cases q:a=c
  ·by_cases z:arr.size < limit
   ·rw[if_pos ⟨⟨⟨z,hf⟩,by rw[ol];omega⟩,by simp[q]⟩]
    have ih:=yjv x c limit L (pre++[a]) (arr.push pre.length) (pre.length+1) h2 (by omega)
    rw[l2] at ih
    refine ih.trans ?_
    rw[yc0,if_pos q]
    have e:limit - arr.size=(limit - (arr.push pre.length).size)+1:=by rw[Array.size_push];omega
    rw[e,List.take_succ_cons]
    simp
   ·rw[if_neg λw=>z w.1.1.1]
    have ih:=yjv x c limit L (pre++[a]) arr free h2 (by omega)
    rw[l2] at ih
    refine ih.trans ?_
    have e:limit - arr.size=0:=by omega
    rw[e]
    simp
  ·rw[if_neg λw=>q (by simpa using w.2)]
   have ih:=yjv x c limit L (pre++[a]) arr free h2 (by omega)
   rw[l2] at ih
   refine ih.trans ?_
   rw[yc0,if_neg q]
theorem ylK (x:Str)(c limit:Nat):occurrences x (one c) 0 x.length limit=(yc0 c 0 x.cps.toList).take limit:=by
 rw[occ_eq]
 have h:=yjv x c limit x.cps.toList [] #[] 0 rfl (Nat.le_refl _)
 have e:x.cps.toList.length+1=x.length+1 - 0:=by simp[Str.length]
 rw[e] at h
 simpa using h
theorem yjC (c:Nat):∀ (k:Nat) (L:List Nat),(yc0 c k L).length<=L.length
 | _,[]=>Nat.le_refl _
 | k,a :: L=>by
  have:=yjC c (k+1) L
  rw[yc0]
  split<;>simp<;>omega
theorem ypn (x:Str)(c:Nat):occurrences x (one c) 0 x.length (x.length+1)=yc0 c 0 x.cps.toList:=by
 rw[ylK,List.take_of_length_le]
 have:=yjC c 0 x.cps.toList
 have e:x.cps.toList.length=x.length:=by simp[Str.length]
 omega
theorem ycH (c:Nat):∀ (k:Nat) (L:List Nat),yc0 c (k+1) L=(yc0 c k L).map (·+1)
 | _,[]=>rfl
 | k,a :: L=>by
  have:=ycH c (k+1) L
  rw[yc0,yc0]
  split
  ·rw[List.map_cons,this]
  ·exact this
theorem posF_mem {c:Nat}:∀ {k:Nat} {L:List Nat},(yc0 c k L=[])↔c∉L
 | _,[]=>by simp[yc0]
 | k,a :: L=>by
  rw[yc0]
  split
  ·rename_i h;simp[h]
  ·rename_i h
   rw[posF_mem]
   simp[h]
   intro _ z
   exact h z.symm
theorem ye0 (c:Nat):∀ L:List Nat,ya5 c L≠[]
 | []=>by simp[ya5]
 | a :: L=>by
  rw[ya5]
  split
  ·simp
  ·split<;>simp
theorem ygg (c:Nat):∀ (L pre:List Nat) (st:Nat),st<=pre.length ->
  (((st :: (yc0 c pre.length L).map (·+1)).zip (yc0 c pre.length L++[(pre++L).length])).map λp=>((pre++L).drop p.1).take (p.2 - p.1)) =
   match ya5 c L with
   | []=>[]
   | h :: t=>(pre.drop st++h) :: t
 | [],pre,st,hs=>by
  simp[yc0,ya5]
  exact List.take_of_length_le (by simp)
 | a :: L,pre,st,hs=>by
  have ea:pre++a :: L=(pre++[a])++L:=by simp
  have el:(pre++[a]).length=pre.length+1:=by simp
  rw[yc0,ya5]
  by_cases q:a=c
  ·rw[if_pos q,if_pos q]
   have ih:=ygg c L (pre++[a]) (pre.length+1) (by omega)
   rw[el] at ih
   rw[List.map_cons,List.cons_append,List.zip_cons_cons,List.map_cons,ea,ih]
   have e1:((pre++[a]++L).drop st).take (pre.length - st)=pre.drop st++[]:=by
    rw[List.append_assoc,List.drop_append_of_le_length hs,List.take_append_of_le_length (by simp),List.take_of_length_le (by simp),List.append_nil]
   rw[e1]
   cases h:ya5 c L with
   | nil=>exact absurd h (ye0 c L)
   | cons p t =>
    have:(pre++[a]).drop (pre.length+1)=[]:=by simp
    simp only[this,List.nil_append]
  ·rw[if_neg q,if_neg q]
   have ih:=ygg c L (pre++[a]) st (by omega)
   rw[el] at ih
   rw[ea,ih]
   cases h:ya5 c L with
   | nil=>exact absurd h (ye0 c L)
   | cons p t =>
    simp only
    rw[List.drop_append_of_le_length hs,List.append_assoc]
    rfl
theorem ym9 (x:Str)(c:Nat):(partsBetween x (yc0 c 0 x.cps.toList) 1).map (λp=>p.cps.toList)=ya5 c x.cps.toList:=by
 have h:=ygg c x.cps.toList [] 0 (Nat.le_refl _)
 unfold partsBetween strSub
 rw[List.map_map]
 have e:x.length=x.cps.toList.length:=by simp[Str.length]
 rw[e]
 simp only[List.nil_append,List.length_nil,List.drop_nil] at h
 have e2:(match ya5 c x.cps.toList with | []=>[] | h :: t=>h :: t)=ya5 c x.cps.toList:=by
  cases ya5 c x.cps.toList<;>rfl
 rw[e2] at h
 rw[← h]
 apply List.map_congr_left
 rintro⟨i,j⟩ _
 show(x.cps.extract i j).toList=_
 rw[Array.toList_extract,List.extract_eq_take_drop]
end TX
namespace TX
open PySem PySem.Builtin PySem.Builtin.Str PySem.StrLaws PySem.NumText
theorem ycU {a b:Str}(h:a.cps.toList=b.cps.toList):a=b:=by
 cases a;cases b
 simp at h
 subst h
 rfl
noncomputable def ofL (l:List Nat):Str:=⟨l.toArray⟩
theorem yaN (l:List Nat):(ofL l).cps.toList=l:=rfl
theorem yr1 (x:Str):ofL x.cps.toList=x:=ycU (yaN _)
theorem ypz (x:Str):1<=Builtin.Str.strKind x:=by
 unfold Builtin.Str.strKind
 split
 ·exact Nat.le_refl _
 ·split<;>decide
theorem ynP {c:Nat}(h:c < 256):Builtin.Str.strKind (one c)=1:=by
 unfold Builtin.Str.strKind one
 rw[if_pos (by simp[h])]
theorem ydP (x:Str){c:Nat}(hc:c < 256):Txt.split x (one c)=(ya5 c x.cps.toList).map ofL:=by
 have key:(partsBetween x (yc0 c 0 x.cps.toList) 1)=(ya5 c x.cps.toList).map ofL:=by
  rw[← ym9,List.map_map]
  conv=>lhs;rw[← List.map_id (partsBetween x (yc0 c 0 x.cps.toList) 1)]
  apply List.map_congr_left
  intro p _
  exact(yr1 p).symm
 unfold Txt.split
 have ol:(one c).length=1:=rfl
 have nil_case:yc0 c 0 x.cps.toList=[]->(ya5 c x.cps.toList).map ofL=[x]:=λh=>by
  rw[← key,h]
  show[strSub x 0 x.length]=[x]
  unfold strSub
  congr 1
  refine ycU ?_
  show(x.cps.extract 0 x.cps.size).toList=_
  simp
 by_cases h0:x.length < 1
 ·rw[if_pos (by rw[ol];simp[h0])]
  refine(nil_case ?_).symm
  have:x.cps.toList=[]:=by
   have:x.cps.size=0:=by unfold Str.length at h0;omega
   simpa using this
  rw[this];rfl
 ·have k1:=ypz x
  rw[if_neg (by rw[ol,ynP hc];simp;omega),ypn,ol]
  split
  ·rename_i h
   refine(nil_case ?_).symm
   cases e:yc0 c 0 x.cps.toList with
   | nil=>rfl
   | cons a b=>rw[e] at h;cases h
  ·exact key
theorem yqp (x:Str)(c:Nat):(!(occurrences x (one c) 0 x.length 1).isEmpty)=decide (c∈x.cps.toList):=by
 rw[ylK]
 by_cases h:c∈x.cps.toList
 ·rw[decide_eq_true h]
  have:yc0 c 0 x.cps.toList≠[]:=λe=>posF_mem.mp e h
  cases e:yc0 c 0 x.cps.toList with
  | nil=>exact absurd e this
  | cons a b=>rfl
 ·rw[decide_eq_false h,posF_mem.mpr h]
  rfl
noncomputable def isF (c:Nat):Bool:=decide (48<=c)&&decide (c<=57)
theorem ylA:("0123456789" : Str).cps.toList=[48,49,50,51,52,53,54,55,56,57]:=by decide +kernel
theorem yqV (c:Nat):(decide (c∈("0123456789" : Str).cps.toList))=isF c:=by
 rw[ylA]
 by_cases h:isF c=true
 ·rw[h]
  unfold isF at h
  simp only[Bool.and_eq_true,decide_eq_true_eq] at h
  simp
  omega
 ·rw[Bool.not_eq_true] at h
  rw[h]
  unfold isF at h
  simp at h
  simp
  omega
theorem allDig {cs:List Nat}:cs.all isF=true↔AllDigits cs:=by
 rw[List.all_eq_true]
 constructor
 ·intro h c hc
  have:=h c hc
  unfold isF at this
  simpa using this
 ·intro h c hc
  have:=h c hc
  unfold isF
  simpa using this
noncomputable def ycd (f:List Nat):Bool:=decide (1<=f.length)&&decide (f.length<=4)&&f.all isF&&(decide (f=[48])||!decide (f.head?=some 48))
noncomputable def ycr (cs:List Nat):Option Int:=if cs=[45,48] then none else
 if cs.head?=some 45 then (if ycd cs.tail=true then some (-(digitsVal cs.tail:Nat)) else none)
 else if ycd cs=true then some (digitsVal cs:Nat) else none
end TX
namespace TX
open PySem PySem.Builtin PySem.Builtin.Str PySem.NumText
noncomputable def yeb (m:Nat):List Nat:=(Nat.toDigits 10 m).map Char.toNat
theorem yuN:∀ d:Nat,d < 10->(Nat.digitChar d).toNat=48+d:=by decide
theorem ygF {m:Nat}(h:m < 10):yeb m=[48+m]:=by
 unfold yeb
 rw[Nat.toDigits_of_lt_base h]
 show[(Nat.digitChar m).toNat]=_
 rw[yuN m h]
theorem ylZ {m:Nat}(h:10<=m):yeb m=yeb (m / 10)++[48+m%10]:=by
 have hm:m%10 < 10:=Nat.mod_lt m (by decide)
 have t:Nat.toDigits 10 (m / 10)++Nat.toDigits 10 (m%10)=Nat.toDigits 10 (10*(m / 10)+m%10):=Nat.toDigits_append_toDigits (by decide) (by omega) hm
 rw[Nat.div_add_mod] at t
 have:=ygF hm
 unfold yeb at this ⊢
 rw[← t,List.map_append,this]
theorem ypm (cs:List Nat)(c:Nat):digitsVal (cs++[c])=digitsVal cs*10+(c - 48):=by
 unfold digitsVal
 rw[List.foldl_append]
 rfl
structure yu3 (m:Nat) (cs:List Nat):Prop where
 all:AllDigits cs
 ne:cs≠[]
 hd:1<=m->cs.head?≠some 48
 val:digitsVal cs=m
theorem yds (m:Nat):yu3 m (yeb m):=by
 induction m using Nat.strongRecOn with
 | _ m ih =>
  by_cases h:m < 10
  ·rw[ygF h]
   refine⟨λc hc=>?_,by simp,λq e=>?_,?_⟩
   ·have:c=48+m:=by simpa using hc
    omega
   ·have:48+m=48:=by simpa using e
    omega
   ·show 0*10+(48+m - 48)=m
    omega
  ·rw[ylZ (by omega)]
   have i:=ih (m / 10) (by omega)
   have hm:m%10 < 10:=Nat.mod_lt m (by decide)
   refine⟨λc hc=>?_,by simp,λq e=>?_,?_⟩
   ·rcases List.mem_append.mp hc with z | z
    ·exact i.all c z
    ·have:c=48+m%10:=by simpa using z
     omega
   ·cases hh:yeb (m / 10) with
    | nil=>exact i.ne hh
    | cons a b =>
     rw[hh] at e
     refine i.hd (by omega) ?_
     rw[hh]
     exact e
   ·rw[ypm,i.val]
    omega
theorem ydq:∀ (k m:Nat),m < 10 ^ (k+1)->(yeb m).length<=k+1
 | 0,m,h=>by rw[ygF (by simpa using h)];simp
 | k+1,m,h=>by
  by_cases q:m < 10
  ·rw[ygF q];simp
  ·rw[ylZ (by omega)]
   have:=ydq k (m / 10) (by
    rw[Nat.pow_succ] at h
    exact Nat.div_lt_of_lt_mul (by rw[Nat.mul_comm];exact h))
   simp
   omega
theorem ynH {m:Nat}(h1:m<=9999):ycd (yeb m)=true:=by
 have d:=yds m
 have l1:=ydq 3 m (by omega)
 have l0:1<=(yeb m).length:=by
  cases e:yeb m with
  | nil=>exact absurd e d.ne
  | cons a b=>simp
 unfold ycd
 rw[allDig.mpr d.all]
 simp only[Bool.and_eq_true,decide_eq_true_eq,Bool.or_eq_true,Bool.not_eq_true',decide_eq_false_iff_not]
 refine⟨⟨⟨l0,by omega⟩,trivial⟩,?_⟩
 by_cases q:m=0
 ·subst q;exact .inl rfl
 ·exact .inr (d.hd (by omega))
end TX
namespace L2
open PySem PySem.Spec PyProof.Rows
section
variable {X:Cx}
noncomputable def yn8:V->List V->Hp->VK->Prop:=λx vs H Q=>∃ a b,x=.str a/\vs=[.str b]/\(b.length==0)=false/\a.length+2<=sizeLine/\∀ p,H p=none->Q (.ref p) (upd H p (.lst ((Txt.split a b).map V.str)))
theorem yg5:∀ (k:Nat) (ts:List Str),Vals (ts.map V.str) (strsFrom k ts)
 | _,[]=>.nil
 | k,x :: r=>.cons ⟨_,rfl⟩ (yg5 (k+1) r)
theorem ygV (x:Str)(l:List Nat)(n:Nat):(Builtin.Str.partsBetween x l n).length=l.length+1:=by
 unfold Builtin.Str.partsBetween
 simp
theorem ydQ:MtR X "str.split" yn8:=by
 intro pins s σ H x vs v us Q I rx rv h
 obtain⟨a,b,rfl,rfl,hy,hz,q⟩:=h
 obtain⟨t,rfl⟩:=rx
 obtain⟨u,rfl,ru⟩:=rv.one
 obtain⟨t',rfl⟩:=ru
 have ol:=StrLaws.occ_length_le_len a b 0 a.length (a.length+1)
 have one:∀ tk,Txt.split a b=[a]->EP X pins σ Q (.ref s.heap.objs.size) { s with heap:=s.heap.push { cls:=.type "list",data:=.seq [Value.str a t].toArray },toks:=tk }:=λtk e=>by
  have qq:=q s.heap.objs.size I.fresh
  rw[e] at qq
  exact⟨.ref _,_,I.lnew (t':=tk) (ys:=[.str a]) (its:=[Value.str a t]) (.cons ⟨_,rfl⟩ .nil) (by show 1<=sizeLine;decide),rfl,qq⟩
 cases h1:(decide (a.length < b.length)||decide (Builtin.Str.strKind a < Builtin.Str.strKind b))
 ·cases hf:(Builtin.Str.occurrences a b 0 a.length (a.length+1)).isEmpty
  ·refine call_meets F.slot_str_split (typeIs_str _ _ _) F.entry_str_split (F.args_str_split_2 _ _) (meets_str_split_sep a b t t' h1 hy hf (by omega) (by rw[ygV];omega)) ?_
   have e:Txt.split a b=Builtin.Str.partsBetween a (Builtin.Str.occurrences a b 0 a.length (a.length+1)) b.length:=(if_neg (ne_true_of_eq_false h1)).trans (if_neg (ne_true_of_eq_false hf))
   have qq:=q s.heap.objs.size I.fresh
   rw[e] at qq
   exact⟨.ref _,_,I.lnew (ys:=(Builtin.Str.partsBetween a (Builtin.Str.occurrences a b 0 a.length (a.length+1)) b.length).map V.str) (yg5 _ _) (by rw[List.length_map,ygV];omega),rfl,qq⟩
  ·exact call_meets F.slot_str_split (typeIs_str _ _ _) F.entry_str_split (F.args_str_split_2 _ _) (meets_str_split_not_found a b t t' h1 hy hf) (one s.toks ((if_neg (ne_true_of_eq_false h1)).trans (if_pos hf)))
 ·exact call_meets F.slot_str_split (typeIs_str _ _ _) F.entry_str_split (F.args_str_split_2 _ _) (meets_str_split_cannot_occur a b t t' h1) (one s.toks (if_pos h1))
noncomputable def yqr:V->List V->Hp->VK->Prop:=λx vs H Q=>∃ a b,x=.str a/\vs=[.str b]/\(b.length==0)=false/\a.length<=sizeLine/\∀ p,H p=none->Q (.ref p) (upd H p (.tup [.str (Txt.partition a b).1,.str (Txt.partition a b).2.1,.str (Txt.partition a b).2.2]))
theorem Inv.tnew {pins:List (Addr×Obj)}{σ:St}{H:Hp}{s:Shared}{ys:List V}{its:List Value}{t':Nat}(I:Inv X pins σ H s)(hv:Vals ys its)(hz:ys.length<=sizeLine) :
  Inv X pins σ (upd H s.heap.objs.size (.tup ys)) { s with heap:=s.heap.push { cls:=.type "tuple",data:=.seq its.toArray },toks:=t' } :=
 I.laid (t':=t') (λb u e=>Heap.get?_push_of_some _ e) (Nat.le_refl _) ⟨hz,its,hv,_,Heap.get?_push_size _ rfl,rfl,_,rfl⟩
theorem yhC:MtR X "str.partition" yqr:=by
 intro pins s σ H x vs v us Q I rx rv h
 obtain⟨a,b,rfl,rfl,hy,hz,q⟩:=h
 obtain⟨t,rfl⟩:=rx
 obtain⟨u,rfl,ru⟩:=rv.one
 obtain⟨t',rfl⟩:=ru
 have qq:=q s.heap.objs.size I.fresh
 refine call_meets F.slot_str_partition (typeIs_str _ _ _) F.entry_str_partition (F.args_str_partition_2 _ _) (meets_str_partition a b t t' hy hz) ?_
 unfold Txt.partition at qq
 revert qq
 cases Builtin.Str.occurrences a b 0 a.length 1 with
 | nil=>intro qq;exact⟨.ref _,_,I.tnew (ys:=[.str a,.str Str.empty,.str Str.empty]) (.cons ⟨_,rfl⟩ (.cons ⟨_,rfl⟩ (.cons ⟨_,rfl⟩ .nil))) (by show 3<=sizeLine;decide),rfl,qq⟩
 | cons i r=>intro qq;exact⟨.ref _,_,I.tnew (ys:=[.str (Builtin.Str.strSub a 0 i),.str b,.str (Builtin.Str.strSub a (i+b.length) a.length)]) (.cons ⟨_,rfl⟩ (.cons ⟨_,rfl⟩ (.cons ⟨_,rfl⟩ .nil))) (by show 3<=sizeLine;decide),rfl,qq⟩
theorem ymc:ycC X (.type "int") (λxs H Q=>∃ z n,xs=[.str z]/\z.length<=640/\PySem.intText? z=some n/\Q (.int n) H):=by
 intro pins s σ H xs us Q I r h
 obtain⟨z,n,rfl,hl,hn,q⟩:=h
 obtain⟨u,rfl,ru⟩:=yed r
 obtain⟨t,rfl⟩:=ru
 exact PySem.W.KIN.call_text hn hl ⟨.int n,H,I.tok _,⟨_,rfl⟩,q⟩
end
section
variable {X:Cx} {CX:CXT} {k:Nat} {E:XK} {x m:Str} {p pos apos:Pos} {e o:Expr} {es:List Expr} {ta:TE} {t:TA}
noncomputable def ypP (K:PySem.W.Frag):List V->Hp->VK->Prop:=λxs H Q=>∃ x C t b,xs=[x,.ref C]/\ygD K H x t/\PySem.W.kitOne K t (.ref C)=some b/\Q (.bl b) H
theorem ygE:ycC X (.builtin "isinstance") (ypP X.K):=by
 intro pins s σ H xs us Q I r h
 obtain⟨x,C,t,b,rfl,ty,hk,q⟩:=h
 obtain⟨u,v,rfl,ru,rv⟩:=ypF r
 cases (show v=Value.ref C from rv)
 exact ygK I ru ty hk λtk=>⟨.bl b,H,I.tok _,rfl,q⟩
noncomputable def ylG {ι:Type}(C:ι->Addr)(m:Str)(sp:ι->Sp)(E:XK)(ta:TE):TE:=fun σ H Q=>ta σ H λx H1=>∃ i a dx fs,x=.ref a/\H1 a=some (.ins (C i) dx fs)/\fs.lookup m=none/\sp i [x] H1 Q E
theorem yno {pl:Sem Bool}{ι:Type}{C f:ι->Addr}{fd:ι->FuncData}{ps:ι->List Str}{sp:ι->Sp}(he:PE X o ta)(c:∀ i,Cls X.K (C i))(hm:∀ i,yjz X.K (C i) m (f i))
  (F:∀ i,FnOk X.prog X.w X.K X.mg X.base CX k (f i) (fd i) (ps i) (sp i)) (hr:Room k X.A) (hb:∀ i,Binds X.K (fd i) (ps i) []) (hx:ydB CX X E)
  (ht:eval (.Call (.Attribute o m apos) [] [] pos) X.env=(do
   let ov ← eval o X.env
   standAt apos.atName
   let (f,first) ← holding [ov] (getMethod ov m pl)
   callWith pos f first (backTo pos (starEach [] X.env)) (backToKw pos (keywordEach [] X.env))):=by rfl) :
  PE X (.Call (.Attribute o m apos) [] [] pos) (ylG C m sp E ta):=by
 intro pins s σ H Q I h
 refine PySem.W.methodCall_KW (pl:=pl) (thn (he pins s σ H _ I h) λu s1 ⟨x,H1,I1,rx,i,a,dx,fs,ex,ea,l,q⟩=>?_) ht
 subst ex
 obtain rfl:u=Value.ref a:=rx
 exact yef I1 ea (c i) (hm i) l (PySem.W.callWith_K0 (first:=[.ref a]) I1.kIn (hm i).kp (yfD (us:=[.ref a]) (vs:=[.ref a]) (F i) hr (hb i) .nil hx I1 (.cons rfl .nil) q))
structure yoZ (K:PySem.W.Frag) (C:Addr) (m:Str) (f:Addr):Prop where
 ga:PySem.W.specialIn K (.ref C) "__getattribute__"=some (some (.builtin "type.__getattribute__"))
 rd:PySem.W.readsIn K C (.type "type")=true
 at_:PySem.W.findCls K (.ref C) (.type "type") m=some (.val (.ref f))
 hh:PySem.W.handedIn (.ref f)=true
 kp:PySem.W.keepIn K (.ref f)=true
theorem ynw {pl:Sem Bool}{C f:Addr}{fd:FuncData}{ps:List Str}{sp:Sp}(he:PE X o (tC (.ref C)))(c:yoZ X.K C m f)(F:FnOk X.prog X.w X.K X.mg X.base CX k f fd ps sp)(hr:Room k X.A)(hb:Binds X.K fd ps [])(hx:ydB CX X E)(ha:PA X (e :: es) t)
  (hst:starEach (e :: es) X.env=(false,eval e X.env) :: starEach es X.env:=by rfl) (hpl:(backTo pos (starEach es X.env)).any (·.1)=false:=by rfl)
  (ht:eval (.Call (.Attribute o m apos) (e :: es) [] pos) X.env=(do
   let ov ← eval o X.env
   standAt apos.atName
   let (f,first) ← holding [ov] (getMethod ov m pl)
   callWith pos f first (backTo pos (starEach (e :: es) X.env)) (backToKw pos (keywordEach [] X.env))):=by rfl) :
  PE X (.Call (.Attribute o m apos) (e :: es) [] pos) (yfl sp [] E t):=by
 intro pins s σ H Q I h
 refine PySem.W.methodCall_KW (pl:=pl) (thn (he pins s σ H (λx H1=>x=.ref C/\yfl sp [] E t σ H1 Q) I ⟨rfl,h⟩) λu s1 ⟨x,H1,I1,rx,ex,q⟩=>?_) ht
 subst ex
 obtain rfl:u=Value.ref C:=rx
 refine PySem.W.method_cls I1.kIn c.ga (PySem.W.cls_value I1.kIn c.rd c.at_ c.hh ?_)
 have I2:=I1.tok (s1.toks+1)
 refine PySem.W.callWith_K (first:=[]) (h₀:=X.base) I.ok.mod.kin c.kp (thn (ha pos pins _ σ H1 _ I2 q) λus s2 ⟨vs,H2,I3,r,q2⟩=>⟨I3.kIn,?_⟩) hst hpl
 exact yfD (us:=us) (vs:=vs) F hr hb .nil hx I3 r q2
end
structure ClsObj (K:PySem.W.Frag) (C:Addr):Prop where
 ha:PySem.W.findIn K (.ref C) "__class__"=some (some (.builtin "object.__class__"))
 hn:PySem.W.specialIn K (.builtin "object.__class__") "__get__"=some (some (.builtin "getset_descriptor.__get__"))
 htk:PySem.W.takesIn K (.builtin "object.__class__")=some true
 hm:PySem.W.mroIn K C (.type "object")=some true
theorem ClsObj.ty {K:PySem.W.Frag}{C a dx:Addr}{H:Hp}{fs:List (Str×V)}(o:ClsObj K C)(c:Cls K C)(e:H a=some (.ins C dx fs)):ygD K H (.ref a) (.ref C):=.ins e c o.ha o.hn o.htk o.hm
section
variable {K:PySem.W.Frag} {σ:St} {H:Hp} {Q:VK} {ta tb:TE} {f:Str} {a C dx:Addr} {fs:List (Str×V)} {v y:V} {D:yex}
theorem ysA (q:ta σ H λx H1=>∃ a C dx fs v,x=.ref a/\H1 a=some (.ins C dx fs)/\Cls K C/\NoAttr K C f/\fs.lookup f=some v/\Q v H1):yqX K ta f σ H Q:=q
theorem yrp (q:tb σ H λy H1=>ta σ H1 λx H2=>∃ a C dx fs,x=.ref a/\H2 a=some (.ins C dx fs)/\Cls K C/\NoAttr K C f/\fs.length < 1000/\D.nx σ (upd H2 a (.ins C dx (yfq f y fs)))):ytn K ta tb f D σ H:=q
end
section
variable {H:Hp} {Q:VK}
theorem ypl {g:Int->Int->V}{a b:Int}(h:0 < b/\b < 1073741824)(q:Q (g a b) H):rI yuG g (.int a) (.int b) H Q:=⟨a,b,rfl,rfl,h,q⟩
end
noncomputable def ypK (J:It)(g:TG)(tb:TS)(D:yex)(σ:St)(H:Hp):Prop:=yoO (λ_ H R=>R J H) g tb D σ H
noncomputable def yoL (J:It)(cap:List (Option Nat))(g:TG)(tc:TT)(te:TE)(σ:St)(H:Hp)(Q:VK):Prop:=yiI (λ_ H R=>R J H) cap g tc te σ H Q
section
variable {K:PySem.W.Frag} {σ:St} {H:Hp} {Q:VK} {ta:TA} {te to ti:TE} {g:TG} {tb:TS} {D:yex} {cap:List (Option Nat)} {tc:TT}
theorem ytd (q:ta σ H λvs H1=>∃ j:Int,vs=[.int j]/\-(2 ^ 62)<=j/\j < 2 ^ 62/\ypK (Itr 0 j.toNat) g tb D σ H1):yoO (ym3 ta) g tb D σ H:=q
theorem ytc (q:te σ H λx H1=>∃ a,x=.ref a/\(∃ xs,SqL K H1 a xs)/\ypK (Itl K a) g tb D σ H1):yoO (ynD K te) g tb D σ H:=q
theorem ys7 (q:ta σ H λvs H1=>∃ a,vs=[.ref a]/\(∃ xs,SqL K H1 a xs)/\ypK (Ite K a) g tb D σ H1):yoO (ypb K ta) g tb D σ H:=q
theorem ytH (q:to σ H λx H1=>∃ a,x=.ref a/\(∃ xs,SqL K H1 a xs)/\yoL (Itl K a) cap g tc te σ H1 Q):yiI (ynD K to) cap g tc te σ H Q:=q
theorem ytw (q:to σ H λx H1=>∃ a,x=.ref a/\(∃ xs,SqT K H1 a xs)/\yoL (Itt K a) cap g tc te σ H1 Q):yiI (ysz K to) cap g tc te σ H Q:=q
theorem yun (q:ta σ H λvs H1=>∃ j:Int,vs=[.int j]/\-(2 ^ 62)<=j/\j < 2 ^ 62/\yoL (Itr 0 j.toNat) cap g tc te σ H1 Q):yiI (ym3 ta) cap g tc te σ H Q:=q
theorem ypX {i:Nat}(q:te σ H λx H1=>D.nx (σ.set i (some x)) H1):yjU i te D σ H:=q
theorem ysR {T:String}{r:V->List V->Hp->VK->Prop}(q:to σ H λx H1=>tyV K T x H1/\ta σ H1 λxs H2=>r x xs H2 Q):tBM K T r to ta σ H Q:=q
theorem ysJ {T:String}{r:V->List V->Hp->VK->Prop}(q:to σ H λx H1=>tyV K T x H1/\r x [] H1 Q):ysP K T r to σ H Q:=q
theorem yt0 {t:ysb}{v:V}{N:St->Hp->Prop}(q:to σ H λo H1=>ti σ H1 λi H2=>t o i v H2 λH3=>N σ H3):ytJ to ti t v σ H N:=q
theorem yuJ {r:V->Option Int->Option Int->Hp->VK->Prop}{tl th:TO}(q:te σ H λx H1=>tl σ H1 λl H2=>th σ H2 λu H3=>r x l u H3 Q):tSl r te tl th σ H Q:=q
theorem ytV {i:Nat}{t:TIp}{x:V}(e:σ[i]?=some (some x))(q:te σ H λy H1=>t x y H1 λz H2=>D.nx (σ.set i (some z)) H2):ysq i te t D σ H:=⟨x,e,q⟩
theorem yuI {f:Int->Int->Int}{a b:Int}(q:Q (.int (f a b)) H):ipI f (.int a) (.int b) H Q:=⟨a,b,rfl,rfl,q⟩
theorem yri {C:Addr}{sp:Sp}{E:XK}(q:ta σ H λvs H1=>∀ x dx,H1 x=none->H1 dx=none->dx≠x->sp (.ref x :: (vs++[])) (upd (upd H1 dx (.own x)) x (.ins C dx [])) (λv H2=>v=.non/\Q (.ref x) H2) E):ypf C sp [] E ta σ H Q:=q
theorem yr0 {ι:Type}{C:ι->Addr}{m:Str}{sp:ι->Sp}{E:XK}(q:te σ H λx H1=>∃ i a dx fs,x=.ref a/\H1 a=some (.ins (C i) dx fs)/\fs.lookup m=none/\sp i [x] H1 Q E):ylG C m sp E te σ H Q:=q
theorem yeo {g:Int->Int->V}{a b:Int}(h:(-(2 ^ 62)<=a/\a<=2 ^ 62)∨(-(2 ^ 62)<=b/\b<=2 ^ 62))(q:Q (g a b) H):rI IntMulOk g (.int a) (.int b) H Q:=⟨a,b,rfl,rfl,CMul.ok (h.imp (λz=>⟨by omega,by omega⟩) λz=>⟨by omega,by omega⟩),q⟩
end
section
variable {X:Cx}
end
section
variable {X:Cx} {CX:CXT} {E:XK} {k i:Nat} {x:Str} {p pos:Pos} {e:Expr} {es:List Expr} {t:TA}
noncomputable def yoy {ι:Type}(i:Nat)(f:ι->Addr)(sp:ι->Sp)(E:XK)(t:TA):TE:=fun σ H Q=>∃ j,σ[i]?=some (some (.ref (f j)))/\t σ H λvs H1=>sp j vs H1 Q E
theorem ymS {ι:Type}{f:ι->Addr}{fd:ι->FuncData}{ps:ι->List Str}{sp:ι->Sp}(F:∀ j,FnOk X.prog X.w X.K X.mg X.base CX k (f j) (fd j) (ps j) (sp j))(hr:Room k X.A)(hN:X.N[i]?=some x)(hk:∀ j,PySem.W.keepIn X.K (.ref (f j))=true)(hb:∀ j,Binds X.K (fd j) (ps j) [])(hx:ydB CX X E)
  (ha:PA X (e :: es) t) (hv:Vis X.env.scope x:=by first | exact Or.inl rfl | exact Or.inr (Or.inl rfl) | exact Or.inr (Or.inr rfl)) (hd:(x==("__debug__" : Str))=false:=by decide) (hcd:(x==("__classdict__" : Str))=false:=by decide)
  (he:starEach (e :: es) X.env=(false,eval e X.env) :: starEach es X.env:=by rfl) (hpl:(backTo pos (starEach es X.env)).any (·.1)=false:=by rfl):PE X (.Call (.Name x p) (e :: es) [] pos) (yoy i f sp E t):=by
 intro pins s σ H Q I h
 obtain⟨j,eσ,h⟩:=h
 refine wpAny_Call_Name_kw (wpAny_mono (yn1 hN hv hd hcd pins s σ H (λv H'=>v=.ref (f j)/\H'=H) I ⟨_,eσ,rfl,rfl⟩) (λu s1 q=>?_) λ_ _ z=>z)
 obtain⟨v,H',I1,rv,rfl,rfl⟩:=q
 obtain rfl:u=.ref (f j):=rv
 refine PySem.W.callWith_K (h₀:=X.base) I1.ok.mod.kin (hk j) (thn (ha pos pins s1 σ H' _ I1 h) λus s2 ⟨vs,H2,I2,r,q⟩=>⟨I2.kIn,?_⟩) he hpl
 exact yfD (F j) hr (hb j) .nil hx I2 r (by rwa [List.append_nil])
theorem ype {ta tb:TE}{σ:St}{H:Hp}{Q:VK}(q:ta σ H λx H1=>∃ c,x=.bl c/\if c=true then Q (.bl true) H1 else tb σ H1 Q):yp2 ta tb σ H Q:=q
theorem yuW {C:Addr}{m:Str}{sp:Sp}{E:XK}{ta:TE}{t:TA}{σ:St}{H:Hp}{Q:VK}(q:ta σ H λx H1=>∃ a dx fs,x=.ref a/\H1 a=some (.ins C dx fs)/\fs.lookup m=none/\t σ H1 λvs H2=>sp (x :: (vs++[])) H2 Q E):ypt C m sp [] E ta t σ H Q:=q
theorem yuT {ι:Type}{i:Nat}{f:ι->Addr}{sp:ι->Sp}{E:XK}{t:TA}{σ:St}{H:Hp}{Q:VK}(j:ι)(e:σ[i]?=some (some (.ref (f j))))(q:t σ H λvs H1=>sp j vs H1 Q E):yoy i f sp E t σ H Q:=⟨j,e,q⟩
end
end L2
namespace K2
open PySem PySem.Builtin PySem.Builtin.Str PySem.NumText TX
noncomputable def yb1 (t b:Int):Option Int:=if t < 1∨b < 1∨96*t%b≠0 then none else if 96*t / b<=4608 then some (96*t / b) else none
noncomputable def yck (cs:List Nat):Option Int:=match ya5 47 cs with
 | [a]=>(ycr a).bind λt=>yb1 t 1
 | [a,b]=>(ycr a).bind λt=>(ycr b).bind λu=>yb1 t u
 | _=>none
theorem ycY:∀ cs:List Nat,(yc0 47 0 cs=[]/\ya5 47 cs=[cs])∨(∃ a b,cs=a++47 :: b/\yc0 47 0 a=[]/\ya5 47 cs=a :: ya5 47 b/\yc0 47 0 cs=a.length :: (yc0 47 0 b).map (·+(a.length+1)))
 | []=>.inl ⟨rfl,rfl⟩
 | c :: cs=>by
  by_cases h:c=47
  ·right
   subst h
   refine⟨[],cs,rfl,rfl,?_,?_⟩
   ·rw[ya5,if_pos rfl]
   ·rw[yc0,if_pos rfl,ycH];rfl
  ·rcases ycY cs with ⟨h1,h2⟩ | ⟨a,b,rfl,h2,h3,h4⟩
   ·left
    rw[yc0,if_neg h,ycH,h1,ya5,if_neg h,h2]
    exact⟨rfl,rfl⟩
   ·right
    refine⟨c :: a,b,rfl,?_,?_,?_⟩
    ·rw[yc0,if_neg h,ycH,h2];rfl
    ·rw[ya5,if_neg h,h3]
    ·rw[yc0,if_neg h,ycH,h4]
     simp
     intro _ _
     omega
theorem ym4 {b:List Nat}(h:yc0 47 0 b=[]):ya5 47 b=[b]:=by
 rcases ycY b with ⟨_,h2⟩ | ⟨a,c,rfl,_,_,h4⟩
 ·exact h2
 ·rw[h4] at h;cases h
end K2
namespace K2
open PySem PySem.NumText TX
theorem ynu {a b:Int}(ha:0<=a)(hb:0 < b):Nat.gcd b.toNat (a%b).toNat=Nat.gcd a.toNat b.toNat:=by
 have e:(a%b).toNat=a.toNat%b.toNat:=Int.toNat_emod ha (by omega)
 rw[e,Nat.gcd_comm,← Nat.gcd_rec,Nat.gcd_comm]
noncomputable def yeO (a b:Int):Int:=(Nat.gcd a.toNat b.toNat:Nat)
theorem ylW {a:Int}(ha:0<=a):yeO a 0=a:=by
 unfold yeO
 rw[show(0:Int).toNat=0 from rfl,Nat.gcd_zero_right]
 omega
theorem ymt {a b:Int}(ha:0<=a)(hb:0 < b):yeO b (a%b)=yeO a b:=by
 unfold yeO;rw[ynu ha hb]
theorem yjP {a b:Int}(ha:0<=a)(hb:0<=b):a%yeO a b=0/\b%yeO a b=0:=by
 unfold yeO
 obtain⟨m,rfl⟩:=Int.eq_ofNat_of_zero_le ha
 obtain⟨n,rfl⟩:=Int.eq_ofNat_of_zero_le hb
 have h1:=Nat.mod_eq_zero_of_dvd (Nat.gcd_dvd_left m n)
 have h2:=Nat.mod_eq_zero_of_dvd (Nat.gcd_dvd_right m n)
 simp only[Int.toNat_natCast]
 exact⟨by exact_mod_cast h1,by exact_mod_cast h2⟩
theorem ynk {a b:Int}(ha:0<=a)(hb:0<=b)(h:a≠0∨b≠0):1<=yeO a b:=by
 unfold yeO
 have:0 < Nat.gcd a.toNat b.toNat:=by
  rcases h with h | h
  ·exact Nat.gcd_pos_of_pos_left _ (by omega)
  ·exact Nat.gcd_pos_of_pos_right _ (by omega)
 omega
noncomputable def ybm (g:Int):Int:=g / yeO g 96
noncomputable def yc6 (g:Int):Int:=96 / yeO g 96
structure yqc (g t b p:Int):Prop where
 p1:1<=p
 gt:g=p*t
 gb:96=p*b
 b1:1<=b
 b2:b<=96
 t0:0<=t
 tg:t<=g
theorem yeM {g:Int}(h0:0<=g):yqc g (ybm g) (yc6 g) (yeO g 96):=by
 have p1:=ynk h0 (show(0:Int)<=96 by decide) (.inr (by decide))
 obtain⟨d1,d2⟩:=yjP h0 (show(0:Int)<=96 by decide)
 have e1:=Int.emod_add_mul_ediv g (yeO g 96)
 have e2:=Int.emod_add_mul_ediv 96 (yeO g 96)
 rw[d1] at e1
 rw[d2] at e2
 have gt:g=yeO g 96*ybm g:=by unfold ybm;omega
 have gb:96=yeO g 96*yc6 g:=by unfold yc6;omega
 have b1:1<=yc6 g:=by
  apply Classical.byContradiction
  intro q
  have:yeO g 96*yc6 g<=0:=Int.mul_nonpos_of_nonneg_of_nonpos (by omega) (by omega)
  omega
 have t0:0<=ybm g:=Int.ediv_nonneg h0 (by omega)
 refine⟨p1,gt,gb,b1,?_,t0,?_⟩
 ·have:=Int.mul_le_mul_of_nonneg_right p1 (show 0<=yc6 g by omega)
  omega
 ·have:=Int.mul_le_mul_of_nonneg_right p1 t0
  omega
theorem ykf {g:Int}(h0:0<=g):ybm g*96=g*yc6 g:=by
 have o:=yeM h0
 have e1:=o.gt
 have e2:=o.gb
 generalize ybm g=t at *
 generalize yc6 g=b at *
 generalize yeO g 96=p at *
 rw[e1]
 conv=>lhs;rw[e2]
 rw[Int.mul_comm t,Int.mul_assoc,Int.mul_assoc,Int.mul_comm b t]
noncomputable def yif (g:Int):List Nat:=if yc6 g=1 then yeb (ybm g).toNat else yeb (ybm g).toNat++47 :: yeb (yc6 g).toNat
end K2
namespace K2
open PySem PySem.Builtin PySem.Builtin.Str PySem.NumText TX
theorem ylq {α:Type}{l:List α}{i:Nat}{c:α}(h:l[i]?=some c):l.take (i+1)=l.take i++[c]:=by
 rw[List.take_succ,h]
 rfl
theorem yqO {g:Int}(h:0<=g):yeO g 96<=96:=by
 obtain⟨_,d⟩:=yjP h (show(0:Int)<=96 by decide)
 exact Int.le_of_dvd (by decide) (Int.dvd_of_emod_eq_zero d)
end K2
namespace K3
open PySem L2 PyProof.Rows
theorem yrJ {α:Type}{xs:List α}{i:Int}(h0:0<=i)(h1:i < xs.length):atI xs i=some (xs[i.toNat]'(by omega)):=by
 have e:i=((i.toNat:Nat):Int):=by omega
 have:=yai (xs:=xs) (j:=i.toNat) (v:=xs[i.toNat]'(by omega)) (List.getElem?_eq_getElem (by omega))
 rw[← e] at this
 exact this
theorem yms (a b c:Str):(a++b)++c=a++(b++c):=by
 show(⟨(a.cps++b.cps)++c.cps⟩:Str)=⟨a.cps++(b.cps++c.cps)⟩
 rw[Array.append_assoc]
theorem yeS (a b:Str):(a++b).length=a.length+b.length:=by
 show(a.cps++b.cps).size=a.cps.size+b.cps.size
 rw[Array.size_append]
noncomputable def leanW:List Str:=["--","-","","+","++"]
noncomputable def yfC (m:Str):Option Nat:=leanW.findIdx? λz=>z==m
noncomputable def c0 (w:Str):Str:=Txt.slice w none (some 1)
noncomputable def cl (w:Str):Str:=Txt.slice w (some ((w.length:Int) - 1)) none
noncomputable def mid (w:Str):Str:=Txt.slice w (some 1) (some ((w.length:Int) - 1))
noncomputable def yht (w:Str):Int:=Txt.find "cdefgab" (c0 w)
noncomputable def ypk (w:Str):Int:=Txt.find "012345678" (cl w)
noncomputable def yir (w:Str):Option (Int×Int×Int):=if (w.length:Int) < 2 then none else if yht w < 0 then none else if ypk w < 0 then none else (yfC (mid w)).map λj=>(yht w,(j:Int) - 2,ypk w)
theorem ybp (w:Str):w.cps.toList.length=w.length:=by simp[Str.length]
theorem ylH {α:Type}:∀ {l:List α},l≠[]->∃ ys c,l=ys++[c]
 | [x],_=>⟨[],x,rfl⟩
 | x :: y :: r,_=>by
  obtain⟨ys,c,e⟩:=ylH (l:=y :: r) (by simp)
  exact⟨x :: ys,c,by rw[e];rfl⟩
 | [],h=>absurd rfl h
theorem ytx {w:Str}(h:2<=(w.length:Int)):∃ c,atI w.cps.toList 0=some c/\(⟨#[c]⟩:Str)=c0 w:=by
 have hl:=ybp w
 have q:=eq_of_beq (slice_closes_to (x:=w) (j:=1) ⟨by omega,by omega⟩)
 unfold c0
 rw[q]
 generalize w.cps.toList=l at hl
 match l,hl with
 | [],hl=>simp at hl;omega
 | x :: r,hl=>exact⟨x,yai (xs:=x :: r) (j:=0) rfl,rfl⟩
theorem ytY {w:Str}(h:2<=(w.length:Int)):∃ c,atI w.cps.toList (-1)=some c/\(⟨#[c]⟩:Str)=cl w:=by
 have hl:=ybp w
 unfold cl
 rw[slice_from_eq (b:=(w.length:Int)) (by omega) (by omega) rfl]
 have e4:((w.length:Int) - ((w.length:Int) - 1)).toNat=1:=by omega
 rw[e4]
 generalize w.cps.toList=l at hl
 have hn:l≠[]:=by intro e;rw[e] at hl;simp at hl;omega
 obtain⟨ys,c,e⟩:=ylH hn
 subst e
 refine⟨c,ybY ys c,?_⟩
 have e3:((w.length:Int) - 1).toNat=ys.length:=by
  rw[List.length_append,List.length_singleton] at hl
  omega
 rw[e3]
 simp
theorem yqB {w:Str}(h:2<=(w.length:Int)):Txt.slice w (some 1) (some (-1))=mid w:=by
 unfold mid Txt.slice
 rw[StrLaws.sliceIdx_neg_hi (some 1) (j:=-1) w.length (by omega) (by omega)]
 have:(-1:Int)+(w.length:Int)=(w.length:Int) - 1:=by omega
 rw[this]
noncomputable def yfE (s:Int):Str:=⟨#[("cdefgab" : Str).cps.toList.getD s.toNat 0]⟩
noncomputable def fig (o:Int):Str:=⟨#[("012345678" : Str).cps.toList.getD o.toNat 0]⟩
noncomputable def ysh (l:Int):Str:=leanW.getD (l+2).toNat ""
noncomputable def yf1 (s l o:Int):Str:=yfE s++ysh l++fig o
theorem yg1 {s:Int}(h0:0<=s)(h1:s<=6):∃ c,atI ("cdefgab" : Str).cps.toList s=some c/\(⟨#[c]⟩:Str)=yfE s:=by
 have hl:("cdefgab" : Str).cps.toList.length=7:=by decide +kernel
 refine⟨_,yrJ h0 (by omega),?_⟩
 unfold yfE
 rw[List.getD_eq_getElem?_getD,List.getElem?_eq_getElem (by omega)]
 rfl
theorem yeW {l:Int}(h0:-2<=l)(h1:l<=2):l=-2∨l=-1∨l=0∨l=1∨l=2:=by omega
theorem ypp {l:Int}(h0:-2<=l)(h1:l<=2):Txt.mul "-" (-l)++Txt.mul "+" l=ysh l:=by
 rcases yeW h0 h1 with rfl | rfl | rfl | rfl | rfl<;>decide +kernel
theorem ypg {l:Int}(h0:-2<=l)(h1:l<=2):MulOk "-" (-l):=by
 rcases yeW h0 h1 with rfl | rfl | rfl | rfl | rfl<;>exact⟨by decide +kernel,by decide +kernel,by decide +kernel⟩
theorem yoX {l:Int}(h0:-2<=l)(h1:l<=2):MulOk "+" l:=by
 rcases yeW h0 h1 with rfl | rfl | rfl | rfl | rfl<;>exact⟨by decide +kernel,by decide +kernel,by decide +kernel⟩
theorem ykD {l:Int}(h0:-2<=l)(h1:l<=2):(Txt.mul "-" (-l)).length<=2:=by
 rcases yeW h0 h1 with rfl | rfl | rfl | rfl | rfl<;>decide +kernel
theorem ylI {l:Int}(h0:-2<=l)(h1:l<=2):(Txt.mul "+" l).length<=2:=by
 rcases yeW h0 h1 with rfl | rfl | rfl | rfl | rfl<;>decide +kernel
theorem ypa {l:Int}(h0:-2<=l)(h1:l<=2):atI [V.str "--",.str "-",.str "",.str "+",.str "++"] (l+2)=some (.str (ysh l)):=by
 rcases yeW h0 h1 with rfl | rfl | rfl | rfl | rfl<;>rfl
theorem ymI {l:Int}(h0:-2<=l)(h1:l<=2):(ysh l).length<=2:=by
 rcases yeW h0 h1 with rfl | rfl | rfl | rfl | rfl<;>decide +kernel
theorem yfK (s:Int):(yfE s).length=1:=rfl
theorem ylu (s:Int):(fig s).length=1:=rfl
noncomputable def LW:List V:=[.str "--",.str "-",.str "",.str "+",.str "++"]
theorem ysp (p:Str->Bool)(a b c d e:Str):[a,b,c,d,e].findIdx? p=if p a then some 0 else if p b then some 1 else if p c then some 2 else if p d then some 3 else if p e then some 4 else none:=by
 simp only[List.findIdx?_cons,List.findIdx?_nil]
 cases p a<;>cases p b<;>cases p c<;>cases p d<;>cases p e<;>rfl
theorem yoY (m:Str):(yfC m=none/\inV (.str m) LW=false)∨∃ j z,yfC m=some j/\inV (.str m) LW=true/\LW[j]?=some z/\eqV z (.str m)=true/\∀ k z',k < j->LW[k]?=some z'->eqV z' (.str m)=false:=by
 have e1:inV (.str m) LW=(("--" : Str)==m||(("-" : Str)==m||(("" : Str)==m||(("+" : Str)==m||(("++" : Str)==m||false))))):=rfl
 have e2:yfC m=_:=ysp (λz=>z==m) "--" "-" "" "+" "++"
 rw[e1,e2]
 cases h1:(("--" : Str)==m)
 ·cases h2:(("-" : Str)==m)
  ·cases h3:(("" : Str)==m)
   ·cases h4:(("+" : Str)==m)
    ·cases h5:(("++" : Str)==m)
     ·exact .inl ⟨rfl,rfl⟩
     ·refine .inr ⟨4,_,rfl,rfl,rfl,h5,λk z' hk hz=>?_⟩
      match k,hk,hz with
      | 0,_,hz=>cases hz;exact h1
      | 1,_,hz=>cases hz;exact h2
      | 2,_,hz=>cases hz;exact h3
      | 3,_,hz=>cases hz;exact h4
    ·refine .inr ⟨3,_,rfl,rfl,rfl,h4,λk z' hk hz=>?_⟩
     match k,hk,hz with
     | 0,_,hz=>cases hz;exact h1
     | 1,_,hz=>cases hz;exact h2
     | 2,_,hz=>cases hz;exact h3
   ·refine .inr ⟨2,_,rfl,rfl,rfl,h3,λk z' hk hz=>?_⟩
    match k,hk,hz with
    | 0,_,hz=>cases hz;exact h1
    | 1,_,hz=>cases hz;exact h2
  ·refine .inr ⟨1,_,rfl,rfl,rfl,h2,λk z' hk hz=>?_⟩
   match k,hk,hz with
   | 0,_,hz=>cases hz;exact h1
 ·exact .inr ⟨0,_,rfl,rfl,rfl,h1,λk z' hk hz=>absurd hk (Nat.not_lt_zero k)⟩
theorem ykx (w:Str)(l u:Option Int):(Txt.slice w l u).length<=w.length:=Txt.slice_le w l u
end K3
namespace HT
open PySem PyProof.Rows
inductive Pre:List Value->List Int->Prop
 | nil (vs:List Value):Pre vs []
 | cons (a:Int) (t:Tok) {vs:List Value} {ns:List Int}:Pre vs ns->Pre (.int a t :: vs) (a :: ns)
theorem ynB (A:Around)(s:Shared)(a:Int)(t:Tok)(c:Int)(u:Tok)(prog:Program)(w:World)(E:Value->Shared->Prop)(Q:Value->Shared->Prop)(h:Q (.bool (decide (a<=c))) s) :
  wpAny (model prog w) A (richCompare .LtE (.int a t) (.int c u)) Q E s :=
 (PyProof.Rows.le_int h:wpAny (model prog w) A (compareOp .LtE (.int a t) (.int c u)) Q E s)
section
open PySem.SeqAt
open PySem.AutoSeq1 (wpAny_loadPart')
open PySem.MeetsSeq PySem.MeetsSeq2 PySem.MeetsSeq3
theorem yhB (l b:Addr)(items items2:Array Value)(n n2:Nat)(dd dd2:Option Addr)(sl sl2:Array (Option Value))(ns ms:List Int)(hi:Pre items.toList ns)(hj:Pre items2.toList ms)(hl:ns.length=ms.length)(ne:ns≠ms) :
  Meets (Builtin.«tuple.__le__» ⟨[.ref l,.ref b],[]⟩)
   (λ_ R s=>s.heap.get? l=some { cls:=.type "tuple",dict:=dd,data:=.seq items n,slots:=sl }/\s.heap.get? b=some { cls:=.type "tuple",dict:=dd2,data:=.seq items2 n2,slots:=sl2 } /\
    R (.ok (.ret (.bool (lexLt ns ms)))) s) :=
 .of_wp λprog w A R s h=>by
  obtain⟨hp,g,d,tk,os⟩:=s;obtain⟨hl',hb,h⟩:=h
  have f2:=AutoSeq1.sub_tuple_tuple
  wp_walk using wpAny_loadPart' hl',wpAny_loadPart' hb,wpAny_forIn_list _ (λrest b s'=>b.1=none/\s'=⟨hp,g,d,tk,os⟩/\∃ (vs ws:List Value) (ns' ms':List Int),rest=vs.zip ws /\
   Pre vs ns'/\Pre ws ms'/\ns'.length=ms'.length/\ns'≠ms'/\R (.ok (.ret (.bool (lexLt ns' ms')))) ⟨hp,g,d,tk,os⟩) _
  case turn =>
   rintro⟨y,x⟩ rest b s' ⟨hb',rfl,vs,ws,ns',ms',hz,hvi,hwi,hlen,hne,hR⟩
   cases hvi with
   | nil=>cases hwi with
    | nil=>exact absurd rfl hne
    | cons=>cases hlen
   | cons a t hvi' =>
    cases hwi with
    | nil=>cases hlen
    | cons c u hwi' =>
     rw[List.zip_cons_cons] at hz
     injection hz with hyx hrest
     injection hyx with hy hx
     subst hy hx
     rw[lexLt_cons] at hR
     simp only[List.length_cons] at hlen
     obtain⟨e,he,hiff⟩:=ymY A.in1 ⟨hp,g,d,tk,os⟩ a t c u
     refine wpAny_bind (he prog w _ _ ?_)
     cases e with
     | true =>
      have eac:=hiff.mp rfl
      rw[if_pos eac] at hR
      wp_walk
      exact⟨rfl,rfl,_,_,_,_,hrest,hvi',hwi',by omega,λz=>hne (by rw[eac,z]),hR⟩
     | false =>
      have nac:¬ a=c:=λq=>absurd (hiff.mpr q) Bool.false_ne_true
      rw[if_neg nac,show decide (a < c)=decide (a<=c) by rw[decide_eq_decide];omega] at hR
      have hri:=ynB A.in1 ⟨hp,g,d,tk,os⟩ a t c u prog w
      wp_walk using hri
      exact⟨_,rfl,by simpa using hR⟩
  case fin =>
   rintro⟨b1,b2⟩ s' ⟨hb',rfl,vs,ws,ns',ms',hz,hvi,hwi,hlen,hne,hR⟩
   exfalso
   cases hvi with
   | nil=>cases hwi with
    | nil=>exact hne rfl
    | cons=>cases hlen
   | cons a t hvi' =>
    cases hwi with
    | nil=>cases hlen
    | cons c u hwi'=>rw[List.zip_cons_cons] at hz;cases hz
  case h =>
   exact⟨rfl,rfl,items.toList,items2.toList,ns,ms,rfl,hi,hj,hl,ne,h⟩
end
section
variable {prog:Program} {w:World} {A:Around} {E:Value->Shared->Prop} {s:Shared}
theorem le_tupPre {l b:Addr}{items items2:Array Value}{ns ms:List Int}{Q:Value->Shared->Prop}(hl:IsTup s.heap l items)(hb:IsTup s.heap b items2)(hi:Pre items.toList ns)(hj:Pre items2.toList ms)(hn:ns.length=ms.length)(ne:ns≠ms)
  (hu:A.units < cLine) (h:Q (.bool (lexLt ns ms)) s):wpAny (model prog w) A (compareOp .LtE (.ref l) (.ref b)) Q E s:=by
 obtain⟨⟨cls,dd,data,sl⟩,ho,hc,n,hd⟩:=id hl
 obtain⟨⟨cls2,dd2,data2,sl2⟩,ho2,hc2,n2,hd2⟩:=id hb
 simp only at hc hd hc2 hd2
 subst hc hd hc2 hd2
 exact richCompare_meets_room (op:=.LtE) ⟨_,ho,rfl⟩ ⟨_,ho2,rfl⟩ PySem.F.slot_tuple_le PySem.F.entry_tuple_le (PySem.F.args_tuple_le_2 _ _) (yhB l b items items2 n n2 dd dd2 sl sl2 ns ms hi hj hn ne)
  ⟨ho,ho2,show Value.bool (lexLt ns ms)≠Value.notImplemented/\Q (.bool (lexLt ns ms)) s from ⟨(λx=>nomatch x),h⟩⟩ hu
end
end HT
namespace L2
open PySem PySem.Spec PySem.W PyProof.Rows
section
variable {X:Cx}
theorem yiV:∀ {ns:List Int} {xs:List V} {vs:List Value},Vals (ns.map V.int++xs) vs->HT.Pre vs ns
 | [],_,vs,_=>.nil vs
 | n :: ns,xs,_,.cons r rr=>by
  obtain⟨t,rfl⟩:=r
  exact .cons n t (yiV rr)
noncomputable def yuL (K:PySem.W.Frag):R2:=λx y H Q=>∃ a b ns ms xs ys,x=.ref a/\y=.ref b/\SqT K H a (ns.map V.int++xs)/\SqT K H b (ms.map V.int++ys)/\ns.length=ms.length/\ns≠ms/\Q (.bl (HT.lexLt ns ms)) H
theorem yrx (hu:X.A.units < cLine):OpR X (compareOp .LtE) (yuL X.K):=by
 intro pins s σ H x y v u Q I rx ry h
 obtain⟨a,b,ns,ms,xs,ys,rfl,rfl,ha,hb,hn,ne,q⟩:=h
 cases rx
 cases ry
 obtain⟨its,r1,p1,_⟩:=I.tuple ha
 obtain⟨its2,r2,p2,_⟩:=I.tuple hb
 exact HT.le_tupPre p1 p2 (yiV r1) (yiV r2) hn ne hu ⟨.bl (HT.lexLt ns ms),H,I,rfl,q⟩
end
end L2
namespace L2
open PySem PySem.Spec PySem.W PyProof.Rows
section
variable {X:Cx} {pins l:List (Addr×Obj)} {σ:St} {H:Hp} {s:Shared} {A:Around} {E:Value->Shared->Prop}
theorem yin {prog:Program}{w:World}{v:Value}{Q:Bool->Shared->Prop}(h:Q true s):wpAny (model prog w) A (eqBool v v) Q E s:=by
 unfold eqBool
 try with_reducible refine wpAny_holding ?_
 show wpAny _ _ (if (v==v)=true then _ else _) Q E s
 rw[if_pos (beq_self_eq_true v)]
 exact wpAny_bind (wpAny_rule (wpAny_pure h))
theorem yjl {fin:Bool}{Q:Bool->Shared->Prop}:∀ (us:List Value) (i:Nat),Q false s->fin=false->KatLex X.prog X.w A true fin Q (us.zip us) i s
 | [],i,h,e=>by subst e;exact h
 | u :: us,i,h,e=>kat_cons (yin (kat_yes (yjl us (i+1) h e)))
theorem yji {fin:Bool}{Q:Bool->Shared->Prop}:∀ {us vs:List Value} {ns ms:List Int} (i:Nat),HT.Pre us ns->HT.Pre vs ms->ns.length=ms.length->ns≠ms->Q (HT.lexLt ns ms) s->KatLex X.prog X.w A true fin Q (us.zip vs) i s
 | _,_,_,_,i,.nil _,.nil _,_,ne,_=>absurd rfl ne
 | _,_,_,_,i,.cons x t a,.nil _,hl,ne,h=>nomatch hl
 | _,_,_,_,i,.nil _,.cons y u b,hl,ne,h=>nomatch hl
 | _,_,_,_,i,.cons x t a,.cons y u b,hl,ne,h=>by
  refine kat_cons (wpAny_eqBool_int (kat_go (λz=>kat_yes ?_) λz=>kat_no ?_))
  ·have z:x=y:=by simpa using z
   rw[HT.lexLt_cons,if_pos z] at h
   exact yji (i+1) a b (by simpa using hl) (λe=>ne (by rw[z,e])) h
  ·have z:x≠y:=by simpa using z
   rw[HT.lexLt_cons,if_neg z] at h
   cases i with
   | zero=>exact oneLt_int h
   | succ i=>exact kat_one _ _ (wpAny_lt_int h)
noncomputable def yn2 (K:PySem.W.Frag)(H:Hp)(n m:Nat)(N:Nat->List Int)(kv:List V):Prop:=kv.length=n/\0 < m/\(∀ i j,i < n->j < n->N i=N j->i=j)/\∀ i,i < n->∃ a xs,kv[i]?=some (.ref a)/\SqT K H a ((N i).map V.int++xs)/\(N i).length=m
theorem Pre.head {vs:List Value}{ns:List Int}(h:HT.Pre vs ns)(z:0 < ns.length):∃ i t,vs[0]?=some (.int i t):=by
 cases h with
 | nil=>cases z
 | cons a t h=>exact⟨a,t,rfl⟩
theorem ynn {n m:Nat}{N:Nat->List Int}{kv:List V}{ks:List Value}(o:Strict (λi j=>HT.lexLt (N i) (N j)) n)(tk:yn2 X.K H n m N kv)(rv:Vals kv ks)(I:Inv X l σ H s):yuz X A ks (λi j=>HT.lexLt (N i) (N j)) n s:=by
 obtain⟨hn,hm,inj,hk⟩:=tk
 have one:∀ i,i < n->∃ a its,ks[i]?=some (.ref a)/\IsTup s.heap a its/\HT.Pre its.toList (N i)/\(N i).length=m:=λi hi=>by
  obtain⟨a,xs,e,sq,z⟩:=hk i hi
  obtain⟨u,eu,ru⟩:=rv.get e
  cases ru
  obtain⟨its,r1,p1,_⟩:=I.tuple sq
  exact⟨a,its.toArray,eu,p1,yiV r1,z⟩
 refine⟨o,λh2=>⟨tuples' true,λQ E q=>?_,λi j C hi hj q=>?_⟩⟩
 ·obtain⟨fs,h1,hlen,h3⟩:=yjJ s.heap (ks:=ks) λk hk'=>by
   obtain⟨i,hi,e⟩:=List.getElem_of_mem hk'
   have hin:i < n:=by rw[← hn,rv.length];exact hi
   obtain⟨a,its,ea,⟨o',g,c,k',d⟩,ia,z⟩:=one i hin
   rw[List.getElem?_eq_getElem hi,e] at ea
   obtain⟨i0,t0,hv0⟩:=Pre.head ia (by omega)
   exact⟨a,o',its,k',i0,t0,by simpa using ea,g,c,d,by rw[← hv0,Array.getElem?_toList]⟩
  refine kat_kind (T:=.type "int") h1 (by rw[hlen,← rv.length,hn];omega) (λv hv=>?_) (by decide) q
  obtain⟨i,t,rfl⟩:=h3 v hv
  exact Looks.now
 ·obtain⟨a,its,ea,⟨o1,g1,c1,k1,d1⟩,ia,z1⟩:=one i hi
  obtain⟨b,its2,eb,⟨o2,g2,c2,k2,d2⟩,ib,z2⟩:=one j hj
  unfold kas_ask
  rw[List.getD_eq_getElem?_getD,List.getD_eq_getElem?_getD,ea,eb]
  by_cases eij:i=j
  ·subst eij
   rw[ea] at eb
   injection eb with eb
   injection eb with eb
   subst eb
   rw[g1] at g2
   injection g2 with g2
   subst g2
   rw[d1] at d2
   injection d2 with d2
   subst d2
   refine kat_lt g1 d1 g1 d1 (yjl its.toList 0 ?_ (by simp))
   rw[yec] at q
   exact q
  ·exact kat_lt g1 d1 g2 d2 (yji 0 ia ib (by omega) (λz=>eij (inj i j hi hj z)) q)
noncomputable def yqh (K:PySem.W.Frag):List V->Hp->VK->Prop:=λvs H Q=>∃ l xs m N,vs=[.ref l]/\SqL K H l xs/\xs.length < 64/\yn2 K H xs.length m N xs /\
 ∀ a p,H a=none->yit (λi j=>HT.lexLt (N i) (N j)) xs.length p->Q (.ref a) (upd H a (.lst (p.toList.map λi=>xs.getD i .non)))
theorem yko:ycC X (.builtin "sorted") (yqh X.K):=by
 intro pins s σ H vs us Q I rv h
 obtain⟨l,xs,m,N,rfl,hl,few,tk,q⟩:=h
 cases rv with
 | cons r rr =>
  cases rr
  cases r
  refine yl4 (kw:=[]) (R:=λH' p=>H'=H/\yit (λi j=>HT.lexLt (N i) (N j)) xs.length p) few (ynl I hl) (args_sorted1 _) (λx=>args_list_sort _) (λa vs s' rv el I' ga fa P E k=>?_) λH' a p hR sh hn=>?_
  ·refine ymr (c:=λi j=>HT.lexLt (N i) (N j)) I' ga fa (by omega) (λl s2 J=>?_) λs3 p d J g cp=>k s3 p d H ⟨rfl,el▸cp⟩ (el▸cp.shuf) fa J g
   rw[el]
   exact ynn (yfH tk.2.2.1) tk rv J
  ·obtain⟨rfl,cp⟩:=hR
   exact q a p hn cp
end
end L2
namespace L2
open PySem PySem.Spec PySem.W PyProof.Rows
section
variable {X:Cx}
theorem yhw {M:Model}{A:Around}{E:Value->Shared->Prop}{s:Shared}{env:Env}{pos:Pos}{T:String}{e:Expr}{rest:List Expr}{kws:List Keyword}{Q:Value->Shared->Prop}
  (h:wpAny M A (spliced (backTo pos (starEach (e :: rest) env))) (λvs s₁=>wpAny M A (evalAll ((backToKw pos (keywordEach kws env)).map (·.2))) (λkvs s₂=>wpAny M A (call (.type T) vs (((backToKw pos (keywordEach kws env)).filterMap (·.1)).zip kvs)) Q E s₂) E s₁) E s)
  (he:backTo pos (starEach (e :: rest) env)=(false,eval e env) :: backTo pos (starEach rest env)) (hp:(backTo pos (starEach (e :: rest) env)).any (·.1)=false)
  (ha:(backToKw pos (keywordEach kws env)).all (·.1.isSome)=true) (hk:(backToKw pos (keywordEach kws env)).any (·.1.isNone)=false) :
  wpAny M A (callWith pos (.type T) [] (backTo pos (starEach (e :: rest) env)) (backToKw pos (keywordEach kws env))) Q E s:=by
 rw[he] at h hp ⊢
 unfold callWith
 refine wpAny_bind (wpAny_holding (thn (evalArgs_kwB (f:=.type T) (Q:=λa s₁=>wpAny M A (call (.type T) ([]++a.pos) a.kw) Q E s₁) ha h) λa s₁ h₁=>wpAny_bind (wpAny_standAt ?_)))
 simp only[hp,hk,Bool.or_false]
 exact wpAny_bind (wpAny_pure (wpAny_bind (thn h₁ λr s₂ hr=>wpAny_bind (wpAny_holding (wpAny_point (wpAny_pure hr))))))
noncomputable def yox (K:PySem.W.Frag)(ta tk:TE):TI:=fun σ H R=>ta σ H λv H1=>∃ a,v=.ref a/\tk σ H1 λz H2=>∃ k:Nat,z=.int (k:Int)/\k < 1000000/\(∃ xs,SqL K H2 a xs)/\R (ItF K a k) H2
theorem yjA {elts:List Expr}{x1}{tp:Pos}{a ke:Expr}{ta tk:TE}{p pos kp:Pos}(hg:Gl X "enumerate")(hm:X.mg "enumerate"=none)(ha:PE X a ta)(hk:PE X ke tk)(hs:starEach [a] X.env=[(false,eval a X.env)]:=by rfl) :
  PI X (.Tuple elts x1 tp) (.Call (.Name "enumerate" p) [a] [⟨some "start",ke,kp⟩] pos) (yox X.K ta tk):=by
 intro pins s σ H R I h
 refine wpAny_Call_Name_kw (yen I hg hm boot_enumerate ?_)
 refine yhw ?_ (by rw[hs];rfl) (by rw[hs];rfl) rfl rfl
 rw[hs]
 show wpAny _ _ (spliced [(false,eval a X.env)]) _ _ s
 refine Calls.spliced_cons (thn (ha pins s σ H _ I h) λu s1 ⟨v,H1,I1,r1,l,e,q1⟩=>Calls.spliced_nil ?_)
 subst e
 cases r1
 refine kws_cons (thn (hk _ _ σ H1 _ I1 q1) λfv s2 ⟨z,H2,I2,rf,k,e,kb,⟨xs,hq⟩,q⟩=>kws_nil ?_)
 subst e
 obtain⟨t,rfl⟩:=rf
 obtain⟨its,rv,pl,hz⟩:=I2.list hq
 refine PB.call_start (by unfold Builtin.SmallTypes.fitsIndex;simp;omega) pl.isList λh' he hit hkp=>?_
 refine wpAny_pyIter_enum he ⟨s2.heap.objs.size+1,[s2.heap.objs.size+1,s2.heap.objs.size],_,_,H2,rfl,I2.kept (t':=s2.toks) hkp,yhk l _ _ k (Nat.succ_ne_self _),⟨_,by rw[Nat.zero_add];exact he,hit⟩,λb hb=>?_,q⟩
 rcases List.mem_cons.mp hb with rfl | hb
 ·exact I2.fpOk (Nat.le_succ _) (I2.hok.fresh (Nat.le_succ _))
 ·cases List.mem_singleton.mp hb
  exact I2.fpOk (Nat.le_refl _) (I2.hok.fresh (Nat.le_refl _))
noncomputable def yuu (K:PySem.W.Frag)(neg:Bool):R2:=λx y H Q=>∃ p xs t,y=.ref p/\SqL K H p xs/\Rep K H x t/\dep t<=60/\(∀ z∈xs,∃ u,Rep K H z u/\dep u<=60/\eqT u t=false)/\Q (.bl neg) H
theorem ydF {X:Cx}{pins:List (Addr×Obj)}{σ:St}{H:Hp}{s:Shared}{x:V}{v:Value}{t:Tr}(I:Inv X pins σ H s)(hu:X.A.units+64 < cLine)(hx:Rep X.K H x t)(dx:dep t<=60)(rx:RelV x v):∀ {xs:List V} {us:List Value},Vals xs us->(∀ z∈xs,∃ u,Rep X.K H z u/\dep u<=60/\eqT u t=false)->∀ u∈us,SeqAt.EqAt X.A.in1 s u v false
 | _,_,.nil,_=>λu hu=>by cases hu
 | y :: xs,u :: us,.cons r tl,f=>λu' h'=>by
  rcases List.mem_cons.mp h' with rfl | h'
  ·obtain⟨t',r',d',e'⟩:=f y (by simp)
   rw[← e']
   exact(ylX I 60 X.A.in1 t' t y x _ v d' dx r' hx r rx (by show X.A.units+1+60 < cLine;omega)).1
  ·exact ydF I hu hx dx rx tl (λz hz=>f z (by simp[hz])) u' h'
theorem yq1 {X:Cx}(hu:X.A.units+64 < cLine):OpR X (compareOp .In) (yuu X.K false):=by
 rintro pins s σ H x y v u Q I rx ry ⟨p,xs,t,rfl,hq,hx,dx,f,q⟩
 cases ry
 obtain⟨its,r,pl,hz⟩:=I.list hq
 refine SeqAt.in_listAt (λ_=>false) pl.isList (λw hw=>ydF I hu hx dx rx r f w (by simpa using hw)) ⟨.bl _,H,I,rfl,?_⟩
 rw[show its.toArray.any (λ_=>false)=false by simp]
 exact q
theorem yk9 {X:Cx}(hu:X.A.units+64 < cLine):OpR X (compareOp .NotIn) (yuu X.K true):=by
 rintro pins s σ H x y v u Q I rx ry ⟨p,xs,t,rfl,hq,hx,dx,f,q⟩
 cases ry
 obtain⟨its,r,pl,hz⟩:=I.list hq
 refine SeqAt.notIn_listAt (λ_=>false) pl.isList (λw hw=>ydF I hu hx dx rx r f w (by simpa using hw)) ⟨.bl _,H,I,rfl,?_⟩
 rw[show its.toArray.any (λ_=>false)=false by simp]
 exact q
theorem yhO {K:PySem.W.Frag}{a:Addr}{k:Nat}{xs:List V}{g:TG}{tb:TS}{D:yex}{σ:St}{H:Hp}(Pv:Nat->St->Hp->Prop)(h0:Pv 0 σ H)(hl:∀ i σ H,i<=xs.length->Pv i σ H->SqL K H a xs)
  (hs:∀ i x σ H p (N:St->Hp->Prop),(∀ σ' H',Pv (i+1) σ' H'->N σ' H')->xs[i]?=some x->Pv i σ H->H p=none->g (.ref p) σ (upd H p (.tup [.int ((i+k:Nat):Int),x])) fun σ2 H2=>tb { D with nx:=N,ct:=N,bk:=D.nx } σ2 H2) (hd:∀ σ H,Pv xs.length σ H->D.nx σ H):ypK (ItF K a k) g tb D σ H:=by
 refine⟨λi m σ H=>m=xs.length - i/\i<=xs.length/\Pv i σ H,⟨xs.length,by simp,Nat.zero_le _,h0⟩,?_⟩
 rintro i m σ H ⟨rfl,hi,p⟩
 have q:=hl i σ H hi p
 rcases Nat.lt_or_eq_of_le hi with hlt | rfl
 ·refine .inr ⟨⟨xs,xs[i],q,by simp[hlt]⟩,Pv (i+1),fun σ' H' p'=>⟨xs.length - (i+1),by omega,rfl,hlt,p'⟩,?_⟩
  rintro _ _ ⟨b,v,rfl,e2,rfl,y⟩
  exact hs i v σ H b _ (λ_ _ z=>z) (y xs q) p e2
 ·exact .inl ⟨⟨xs,q,Nat.le_refl _⟩,hd σ H p⟩
theorem yrG {K:PySem.W.Frag}{ta tk:TE}{g:TG}{tb:TS}{D:yex}{σ:St}{H:Hp}(q:ta σ H λv H1=>∃ a,v=.ref a/\tk σ H1 λz H2=>∃ k:Nat,z=.int (k:Int)/\k < 1000000/\(∃ xs,SqL K H2 a xs)/\ypK (ItF K a k) g tb D σ H2):yoO (yox K ta tk) g tb D σ H:=q
end
end L2
namespace KD
open PySem L2
theorem yam:bootBuiltins "isinstance"=some (.builtin "isinstance"):=by decide +kernel
theorem ycX:bootBuiltins "all"=some (.builtin "all"):=by decide +kernel
theorem yi7:bootBuiltins "max"=some (.builtin "max"):=by decide +kernel
theorem ygn:bootBuiltins "sum"=some (.builtin "sum"):=by decide +kernel
theorem yeB:bootBuiltins "int"=some (.type "int"):=by decide +kernel
theorem yeT:bootBuiltins "bool"=some (.type "bool"):=by decide +kernel
theorem ybS:bootBuiltins "tuple"=some (.type "tuple"):=by decide +kernel
theorem ybJ:bootBuiltins "list"=some (.type "list"):=by decide +kernel
theorem yaX:bootBuiltins "str"=some (.type "str"):=by decide +kernel
noncomputable def yuv (i:Nat):Stmt:=PySem.Challenge.pw_barwright_k10_whole_texts_of_tunes.main.body.getD i (.Pass ⟨0,0,0,0⟩)
noncomputable def yso:Stmt->List Stmt
 | .ClassDef _ _ _ body _ _ _ _ _ _ _=>body
 | _=>[]
noncomputable def top (i:Nat):Stmt:=cond (Nat.ble 1000 i) ((yso (yuv (i / 1000 - 1))).getD (i%1000) (.Pass ⟨0,0,0,0⟩)) (yuv i)
set_option genInjectivity false in
structure Ad where
 (f_zax f_zat f_zaF f_zav f_zy f_zaC f_zU f_zA f_zR f_zaz f_zaQ f_zaK f_zh f_zan f_zg f_zS f_zi f_zd f_zag f_zW f_zz f_zaN f_zaw f_zw f_zn f_zQ f_zae f_zaG f_zak f_zau f_zaO f_zr f_zad f_zao f_zL f_zV f_zai f_zO f_zaE f_zG f_zaj f_zX f_zo f_zk f_zD f_zM f_zaa f_zJ f_zE f_zu f_zC f_zI f_zal f_zF f_zay f_zaM f_zaI f_zB f_zaf f_zq f_zas f_zaD f_zK f_zaL f_zar f_zP f_zZ f_zb f_zf f_zap f_zaH f_zT f_zam f_zt f_zaq f_za f_zaJ f_zaB f_zab f_zx f_zN f_zac f_zH f_zaA f_ze f_zah f_zm f_zY f_zaR Rx Ry Rz RA RB RC RD RE RF:Addr)
 (d_zax d_zat d_zaF d_zav d_zy d_zaC d_zU d_zA d_zR d_zaz d_zaQ d_zaK d_zh d_zan d_zg d_zS d_zi d_zd d_zag d_zW d_zz d_zaN d_zaw d_zw d_zn d_zQ d_zae d_zaG d_zak d_zau d_zaO d_zr d_zad d_zao d_zL d_zV d_zai d_zO d_zaE d_zG d_zaj d_zX d_zo d_zk d_zD d_zM d_zaa d_zJ d_zE d_zu d_zC d_zI d_zal d_zF d_zay d_zaM d_zaI d_zB d_zaf d_zq d_zas d_zaD d_zK d_zaL d_zar d_zP d_zZ d_zb d_zf d_zap d_zaH d_zT d_zam d_zt d_zaq d_za d_zaJ d_zaB d_zab d_zx d_zN d_zac d_zH d_zaA d_ze d_zah d_zm d_zY d_zaR:FuncData)
structure FM (K:PySem.W.Frag) (mg:Str->Option Value) (n:Str) (m:Nat) (ps:List Str) (f:Addr) (d:FuncData):Prop where
 F:Fun K n n (top m) f d
 B:Binds K d ps []
 M:mg n=some (.ref f)
structure FN (K:PySem.W.Frag) (n q:Str) (m:Nat) (ps:List Str) (f:Addr) (d:FuncData):Prop where
 F:Fun K n q (top m) f d
 B:Binds K d ps []
structure Txt (K:PySem.W.Frag) (mg:Str->Option Value) (t:Ad):Prop where
 QB:mg "BadRow"=some (.ref t.RA)
 Qz:mg "BadTune"=some (.ref t.RB)
 Qn:mg "Sound"=some (.ref t.RC)
 JS:mg "Rest"=some (.ref t.RD)
 JY:mg "Tones"=some (.ref t.RE)
 Qg:mg "Tune"=some (.ref t.RF)
 Qh:Mk K t.RD t.f_zh
 Qo:Mk K t.RE t.f_zg
 Qi:Mk K t.RF t.f_zi
 QC:yjz K t.RD "told" t.f_zan
 QK:yjz K t.RE "told" t.f_zS
 QL:yjz K t.RF "frames" t.f_zz
 Qr:yjz K t.RF "many" t.f_zag
 QM:yjz K t.RF "lasts" t.f_zW
 Qw:yjz K t.RF "sounds_told" t.f_zd
 Qx:yjz K t.RF "metres_told" t.f_zb
 Qy:yjz K t.RF "keys_told" t.f_zf
 QN:yoZ K t.RC "__init__" t.f_zh
 QH:FM K mg "is_whole" 5 ["thing"] t.f_zax t.d_zax
 Qj:FM K mg "is_among" 6 ["thing","least","most"] t.f_zat t.d_zat
 QO:FM K mg "do_rise" 7 ["numbers"] t.f_zaF t.d_zaF
 QI:FM K mg "has_only" 8 ["text","signs"] t.f_zav t.d_zav
 zy:FM K mg "is_syllable" 9 ["thing"] t.f_zy t.d_zy
 QD:FM K mg "is_metre" 43 ["thing"] t.f_zaC t.d_zaC
 zU:FM K mg "are_groups" 44 ["thing","top"] t.f_zU t.d_zU
 zA:FM K mg "unit_grains" 48 ["bottom"] t.f_zA t.d_zA
 zR:FM K mg "bar_grains" 49 ["metre"] t.f_zR t.d_zR
 QU:FM K mg "is_pitch" 30 ["thing"] t.f_zaz t.d_zaz
 QV:FM K mg "line" 34 ["pitch"] t.f_zaQ t.d_zaQ
 QE:FM K mg "is_key" 37 ["thing"] t.f_zaK t.d_zaK
 zh:FN K "__init__" "Sound.__init__" 59000 ["self","length"] t.f_zh t.d_zh
 QW:FN K "told" "Rest.told" 60000 ["self"] t.f_zan t.d_zan
 zg:FN K "__init__" "Tones.__init__" 61000 ["self","pitches","length","word","opens","closes"] t.f_zg t.d_zg
 zS:FN K "told" "Tones.told" 61001 ["self"] t.f_zS t.d_zS
 zi:FN K "__init__" "Tune.__init__" 62000 ["self","metres","keys","voices"] t.f_zi t.d_zi
 zd:FN K "sounds_told" "Tune.sounds_told" 62003 ["self","voice"] t.f_zd t.d_zd
 QP:FN K "many" "Tune.many" 62004 ["self"] t.f_zag t.d_zag
 zW:FN K "lasts" "Tune.lasts" 62005 ["self"] t.f_zW t.d_zW
 zz:FN K "frames" "Tune.frames" 62006 ["self"] t.f_zz t.d_zz
 JZ:FM K mg "need" 62 ["is_so","why"] t.f_zaN t.d_zaN
 QX:FM K mg "sound_of" 63 ["told"] t.f_zaw t.d_zaw
 zw:FM K mg "is_rest_told" 64 ["thing"] t.f_zw t.d_zw
 zn:FM K mg "is_tones_told" 65 ["thing"] t.f_zn t.d_zn
 zQ:FM K mg "is_told_as" 66 ["name","parts","thing"] t.f_zQ t.d_zQ
 QY:FM K mg "are_tones" 67 ["thing"] t.f_zae t.d_zae
 QZ:FM K mg "is_word" 68 ["thing"] t.f_zaG t.d_zaG
 Ra:FM K mg "voices_of" 69 ["things"] t.f_zak t.d_zak
 Rb:FM K mg "voice_of" 70 ["thing"] t.f_zau t.d_zau
 Rc:FM K mg "tidy" 71 ["sounds"] t.f_zaO t.d_zaO
 zr:FM K mg "ends_in_rest" 72 ["sounds"] t.f_zr t.d_zr
 Re:FM K mg "grains_in" 73 ["sounds"] t.f_zad t.d_zad
 Rf:FM K mg "long_rest" 74 ["grains"] t.f_zao t.d_zao
 zL:FM K mg "need_slurs" 75 ["sounds"] t.f_zL t.d_zL
 zV:FM K mg "changes_of" 76 ["things","is_good"] t.f_zV t.d_zV
 Rh:FM K mg "is_change" 77 ["thing","is_good"] t.f_zai t.d_zai
 zO:FM K mg "frames_for" 78 ["metres","keys","lasts"] t.f_zO t.d_zO
 QQ:FM K mg "last_at" 79 ["bar","changes"] t.f_zaE t.d_zaE
 zG:FM K mg "need_within" 80 ["changes","bars"] t.f_zG t.d_zG
 JJ:FM K mg "_law_draw" 99 ["_law_script","_law_tape","_law_size"] t.f_zaj t.d_zaj
 zX:FM K mg "_law_metre" 100 ["_law_script","_law_tape"] t.f_zX t.d_zX
 zo:FM K mg "_law_pitches" 101 ["_law_script","_law_tape"] t.f_zo t.d_zo
 zk:FM K mg "_law_syllable" 102 ["_law_script","_law_tape"] t.f_zk t.d_zk
 zD:FM K mg "_law_length" 103 ["_law_script","_law_tape"] t.f_zD t.d_zD
 zM:FM K mg "_law_voice" 104 ["_law_script","_law_tape","_law_most"] t.f_zM t.d_zM
 Ri:FM K mg "_law_tidy" 105 ["_law_voice_here"] t.f_zaa t.d_zaa
 zJ:FM K mg "_law_lasts" 106 ["_law_voices_here"] t.f_zJ t.d_zJ
 zE:FM K mg "_law_frames" 107 ["_law_script","_law_tape","_law_lasts_here"] t.f_zE t.d_zE
 zu:FM K mg "_law_changes" 108 ["_law_frames_here","_law_part"] t.f_zu t.d_zu
 zC:FM K mg "_law_voices" 109 ["_law_script","_law_tape","_law_most"] t.f_zC t.d_zC
 zI:FM K mg "are_figures" 10 ["text"] t.f_zI t.d_zI
 QA:FM K mg "number_of" 11 ["word"] t.f_zal t.d_zal
 zF:FM K mg "number_text" 12 ["number"] t.f_zF t.d_zF
 QR:FM K mg "words_of" 13 ["row"] t.f_zay t.d_zay
 Rj:FM K mg "common" 17 ["one","other"] t.f_zaM t.d_zaM
 Rk:FM K mg "pair_of" 18 ["grains"] t.f_zaI t.d_zaI
 zB:FM K mg "amount_text" 19 ["grains"] t.f_zB t.d_zB
 Rl:FM K mg "grains_of" 20 ["word"] t.f_zaf t.d_zaf
 zq:FM K mg "whole_grains" 21 ["top","bottom"] t.f_zq t.d_zq
 Rm:FM K mg "pitch_of" 31 ["word"] t.f_zas t.d_zas
 Rn:FM K mg "parts_of" 32 ["word"] t.f_zaD t.d_zaD
 zK:FM K mg "pitch_text" 33 ["pitch"] t.f_zK t.d_zK
 Ro:FM K mg "key_of" 38 ["word"] t.f_zaL t.d_zaL
 Rp:FM K mg "metre_of" 45 ["word"] t.f_zar t.d_zar
 zP:FM K mg "numbers_of" 46 ["text","between"] t.f_zP t.d_zP
 zZ:FM K mg "metre_text" 47 ["metre"] t.f_zZ t.d_zZ
 zb:FN K "metres_told" "Tune.metres_told" 62001 ["self"] t.f_zb t.d_zb
 zf:FN K "keys_told" "Tune.keys_told" 62002 ["self"] t.f_zf t.d_zf
 QJ:FM K mg "read_tune" 85 ["text"] t.f_zap t.d_zap
 QS:FM K mg "of_kind" 86 ["kind","changes"] t.f_zaH t.d_zaH
 zT:FM K mg "changes_in" 87 ["rows"] t.f_zT t.d_zT
 Rq:FM K mg "change_in" 88 ["row","ahead"] t.f_zam t.d_zam
 zt:FM K mg "named_change" 89 ["bar","kind","words"] t.f_zt t.d_zt
 Rr:FM K mg "voices_in" 90 ["rows","first"] t.f_zaq t.d_zaq
 za:FM K mg "may_begin_another" 91 ["voices"] t.f_za t.d_za
 Rs:FM K mg "told_in" 92 ["row"] t.f_zaJ t.d_zaJ
 Rt:FM K mg "tones_in" 93 ["pitches","length","words"] t.f_zaB t.d_zaB
 QF:FM K mg "tune_text" 94 ["tune"] t.f_zab t.d_zab
 zx:FM K mg "changes_told" 95 ["tune"] t.f_zx t.d_zx
 zN:FM K mg "change_row" 96 ["change"] t.f_zN t.d_zN
 Ru:FM K mg "sound_row" 97 ["told"] t.f_zac t.d_zac
 zH:FM K mg "_law_amount" 110 ["_law_grains","_law_times"] t.f_zH t.d_zH
 Rv:FM K mg "_law_row" 111 ["_law_told","_law_times"] t.f_zaA t.d_zaA
 ze:FM K mg "_law_metre_text" 112 ["_law_metre_here"] t.f_ze t.d_ze
 QG:FM K mg "_law_rows" 113 ["_law_frames_here","_law_voices_here","_law_times"] t.f_zah t.d_zah
 zm:FM K mg "_law_all_told" 114 ["_law_tune"] t.f_zm t.d_zm
 zY:FM K mg "_law_drawn" 115 ["_law_script","_law_tape"] t.f_zY t.d_zY
 Rw:FM K mg "law" 116 ["_law_script"] t.f_zaR t.d_zaR
 Qp:mg "ValueError"=none
 JL:mg "all"=none
 JW:mg "bool"=none
 Jw:mg "enumerate"=none
 Qa:mg "int"=none
 Ja:mg "isinstance"=none
 Jc:mg "len"=none
 Jq:mg "list"=none
 Qs:mg "max"=none
 Jo:mg "range"=none
 Qk:mg "sorted"=none
 Jg:mg "str"=none
 Ql:mg "sum"=none
 Jp:mg "tuple"=none
 Qt:mg "zip"=none
 Qc:∃ k,mg "FIGURES"=some (.str "0123456789" k)
 JG:∃ k,mg "SYLLABLE_SIGNS"=some (.str "abcdefghijklmnopqrstuvwxyzABCDEFGHIJKLMNOPQRSTUVWXYZ-" k)
 JM:∃ k,mg "MOST_FIGURES"=some (.int (4) k)
 Jv:∃ k,mg "MOST_SYLLABLE_SIGNS"=some (.int (12) k)
 Jr:∃ k,mg "GRAINS"=some (.int (96) k)
 JO:∃ k,mg "MOST_GRAINS"=some (.int (4608) k)
 JR:∃ k,mg "LETTERS"=some (.str "cdefgab" k)
 JC:mg "LEAN_WORDS"=some (.ref t.Rx)
 Js:TupIn K t.Rx [.str "--",.str "-",.str "",.str "+",.str "++"]
 JH:∃ k,mg "OCTAVE_FIGURES"=some (.str "012345678" k)
 JD:∃ k,mg "MOST_SIGNS"=some (.int (7) k)
 JX:∃ k,mg "MOST_TOP"=some (.int (12) k)
 Qe:mg "BOTTOMS"=some (.ref t.Ry)
 Qf:TupIn K t.Ry [.int 2,.int 4,.int 8]
 JE:∃ k,mg "MOST_BAR_GRAINS"=some (.int (192) k)
 Jx:∃ k,mg "LEAST_GRAINS"=some (.int (2) k)
 Jl:∃ k,mg "MOST_REST_GRAINS"=some (.int (4608) k)
 Jz:∃ k,mg "MOST_TONES_GRAINS"=some (.int (384) k)
 JN:∃ k,mg "MOST_PITCHES"=some (.int (4) k)
 JP:∃ k,mg "MOST_SOUNDS"=some (.int (96) k)
 JA:∃ k,mg "MOST_VOICES"=some (.int (2) k)
 JI:∃ k,mg "MOST_BARS"=some (.int (24) k)
 Jy:mg "KINDS"=some (.ref t.Rz)
 Jt:TupIn K t.Rz [.str "metre",.str "key"]
 JK:∃ k,mg "METRE"=some (.int (0) k)
 Qu:∃ k,mg "KEY"=some (.int (1) k)
 JB:Cls K t.RD
 Qm:ClsObj K t.RD
 Jj:NoAttr K t.RD "length"
 JV:PySem.W.kitOne K (.ref t.RD) (.ref t.RD)=some true
 JT:PySem.W.kitOne K (.ref t.RD) (.ref t.RE)=some false
 Jd:Cls K t.RE
 Qb:ClsObj K t.RE
 Jm:NoAttr K t.RE "length"
 Ju:NoAttr K t.RE "pitches"
 JF:NoAttr K t.RE "word"
 Jk:NoAttr K t.RE "opens"
 Jn:NoAttr K t.RE "closes"
 JU:PySem.W.kitOne K (.ref t.RE) (.ref t.RD)=some false
 JQ:PySem.W.kitOne K (.ref t.RE) (.ref t.RE)=some true
 Jb:Cls K t.RF
 QT:ClsObj K t.RF
 Je:NoAttr K t.RF "metre_changes"
 Jf:NoAttr K t.RF "key_changes"
 Ji:NoAttr K t.RF "voices"
 Jh:NoAttr K t.RF "bar_frames"
 Qv:PySem.W.kitOne K (.ref t.RF) (.ref t.RD)=some false
 Qq:PySem.W.kitOne K (.ref t.RF) (.ref t.RE)=some false
theorem pcl {X:Cx}{k n m:Nat}{f:Addr}{fd:FuncData}{ps:List Str}{sp:Sp}{x:Str}{e:Expr}{es:List Expr}{t:TA}{p pos:Pos}(F:FnOk X.prog X.w X.K X.mg X.base CX0 k f fd ps sp)(hr:Room n X.A)(M:FM X.K X.mg x m ps f fd)(ha:PA X (e :: es) t)(le:k<=n:=by first | decide | omega)(hg:Gl X x:=by rfl)(hdb:(x==("__debug__" : Str))=false:=by decide)
  (he:starEach (e :: es) X.env=(false,eval e X.env) :: starEach es X.env:=by rfl) (hpl:(backTo pos (starEach es X.env)).any (·.1)=false:=by rfl):PE X (.Call (.Name x p) (e :: es) [] pos) (yfl sp [] E0 t):=ypC F (hr.mono le) hg M.M M.F.kp M.B .nil ycx ha hdb he hpl
theorem scm {N P:List Str}{sc:Scope}(a:sc.kind=.function:=by rfl)(b:sc.isCoroutine=false:=by rfl)(c:sc.isGenerator=false:=by rfl)(d:N.Nodup:=by decide +kernel)(e:N.take P.length=P:=by rfl)(f:∀ x∈P,sc.names.lookup x=some .local∨sc.names.lookup x=some .cell:=by decide +kernel)(g:∀ y∈sc.names,y.2≠.free:=by decide +kernel):yal N P sc:=⟨a,b,c,d,e,f,g⟩
theorem yqA:yal ["thing"] ["thing"] (yah (top 5)):=scm
theorem yqa:yal ["thing","least","most"] ["thing","least","most"] (yah (top 6)):=scm
theorem yqg:yal ["numbers"] ["numbers"] (yah (top 7)):=scm
theorem yow:yal ["text","signs"] ["text","signs"] (yah (top 8)):=scm
theorem ytB:yal ["thing"] ["thing"] (yah (top 9)):=scm
theorem sc_zaC:yal ["thing","top","bottom"] ["thing"] (yah (top 43)):=scm
theorem ys8:yal ["thing","top"] ["thing","top"] (yah (top 44)):=scm
theorem yug:yal ["bottom"] ["bottom"] (yah (top 48)):=scm
theorem ytE:yal ["metre"] ["metre"] (yah (top 49)):=scm
theorem yrO:yal ["thing"] ["thing"] (yah (top 30)):=scm
theorem yqH:yal ["pitch"] ["pitch"] (yah (top 34)):=scm
theorem yq0:yal ["thing"] ["thing"] (yah (top 37)):=scm
theorem ysZ:yal ["self","length"] ["self","length"] (yah (top 59000)):=scm
theorem yqG:yal ["self"] ["self"] (yah (top 60000)):=scm
theorem yt1:yal ["self","pitches","length","word","opens","closes"] ["self","pitches","length","word","opens","closes"] (yah (top 61000)):=scm
theorem yss:yal ["self"] ["self"] (yah (top 61001)):=scm
theorem ytl:yal ["self","metres","keys","voices"] ["self","metres","keys","voices"] (yah (top 62000)):=scm
theorem yud:yal ["self","voice"] ["self","voice"] (yah (top 62003)):=scm
theorem yqM:yal ["self"] ["self"] (yah (top 62004)):=scm
theorem ysn:yal ["self"] ["self"] (yah (top 62005)):=scm
theorem ytk:yal ["self"] ["self"] (yah (top 62006)):=scm
theorem yrm:yal ["is_so","why"] ["is_so","why"] (yah (top 62)):=scm
theorem yrX:yal ["told"] ["told"] (yah (top 63)):=scm
theorem ysx:yal ["thing"] ["thing"] (yah (top 64)):=scm
theorem ytN:yal ["thing"] ["thing"] (yah (top 65)):=scm
theorem ysy:yal ["name","parts","thing"] ["name","parts","thing"] (yah (top 66)):=scm
theorem yqC:yal ["thing"] ["thing"] (yah (top 67)):=scm
theorem yrg:yal ["thing"] ["thing"] (yah (top 68)):=scm
theorem ypT:yal ["things"] ["things"] (yah (top 69)):=scm
theorem sc_zau:yal ["thing","sounds"] ["thing"] (yah (top 70)):=scm
theorem sc_zaO:yal ["sounds","kept","sound"] ["sounds"] (yah (top 71)):=scm
theorem ytF:yal ["sounds"] ["sounds"] (yah (top 72)):=scm
theorem yp1:yal ["sounds"] ["sounds"] (yah (top 73)):=scm
theorem yr2:yal ["grains"] ["grains"] (yah (top 74)):=scm
theorem sc_zL:yal ["sounds","is_open","sound"] ["sounds"] (yah (top 75)):=scm
theorem sc_zV:yal ["things","is_good","bars","values"] ["things","is_good"] (yah (top 76)):=scm
theorem yqN:yal ["thing","is_good"] ["thing","is_good"] (yah (top 77)):=scm
theorem sc_zO:yal ["metres","keys","lasts","frames","begin","bar","metre"] ["metres","keys","lasts"] (yah (top 78)):=scm
theorem yrs:yal ["bar","changes"] ["bar","changes"] (yah (top 79)):=scm
theorem ytT:yal ["changes","bars"] ["changes","bars"] (yah (top 80)):=scm
theorem sc_zaj:yal ["_law_script","_law_tape","_law_size","_law_seed","_law_cell"] ["_law_script","_law_tape","_law_size"] (yah (top 99)):=scm
theorem sc_zX:yal ["_law_script","_law_tape","_law_some"] ["_law_script","_law_tape"] (yah (top 100)):=scm
theorem sc_zo:yal ["_law_script","_law_tape","_law_found","_law_at","_law_k"] ["_law_script","_law_tape"] (yah (top 101)):=scm
theorem sc_zk:yal ["_law_script","_law_tape","_law_letters","_law_size"] ["_law_script","_law_tape"] (yah (top 102)):=scm
theorem sc_zD:yal ["_law_script","_law_tape","_law_some"] ["_law_script","_law_tape"] (yah (top 103)):=scm
theorem sc_zM:yal ["_law_script","_law_tape","_law_most","_law_found","_law_is_open","_law_left","_law_count","_law_k","_law_length_here","_law_closes","_law_opens","_law_word"] ["_law_script","_law_tape","_law_most"] (yah (top 104)):=scm
theorem sc_zaa:yal ["_law_voice_here","_law_found","_law_told"] ["_law_voice_here"] (yah (top 105)):=scm
theorem sc_zJ:yal ["_law_voices_here","_law_sums","_law_voice_here"] ["_law_voices_here"] (yah (top 106)):=scm
theorem sc_zE:yal ["_law_script","_law_tape","_law_lasts_here","_law_found","_law_begin","_law_metre_here","_law_key"] ["_law_script","_law_tape","_law_lasts_here"] (yah (top 107)):=scm
theorem sc_zu:yal ["_law_frames_here","_law_part","_law_found","_law_place","_law_frame"] ["_law_frames_here","_law_part"] (yah (top 108)):=scm
theorem ytt:yal ["_law_script","_law_tape","_law_most"] ["_law_script","_law_tape","_law_most"] (yah (top 109)):=scm
theorem yuk:yal ["text"] ["text"] (yah (top 10)):=scm
theorem sc_zal:yal ["word","figures"] ["word"] (yah (top 11)):=scm
theorem yrq:yal ["number"] ["number"] (yah (top 12)):=scm
theorem sc_zay:yal ["row","words"] ["row"] (yah (top 13)):=scm
theorem sc_zaM:yal ["one","other","rest"] ["one","other"] (yah (top 17)):=scm
theorem sc_zaI:yal ["grains","part"] ["grains"] (yah (top 18)):=scm
theorem sc_zB:yal ["grains","pair","top"] ["grains"] (yah (top 19)):=scm
theorem sc_zaf:yal ["word","terms","top","bottom"] ["word"] (yah (top 20)):=scm
theorem sc_zq:yal ["top","bottom","grains"] ["top","bottom"] (yah (top 21)):=scm
theorem sc_zas:yal ["word","parts"] ["word"] (yah (top 31)):=scm
theorem sc_zaD:yal ["word","step","octave"] ["word"] (yah (top 32)):=scm
theorem sc_zK:yal ["pitch","lean"] ["pitch"] (yah (top 33)):=scm
theorem sc_zaL:yal ["word","key"] ["word"] (yah (top 38)):=scm
theorem sc_zar:yal ["word","halves","fraction","groups","metre"] ["word"] (yah (top 45)):=scm
theorem sc_zP:yal ["text","between","numbers"] ["text","between"] (yah (top 46)):=scm
theorem sc_zZ:yal ["metre","fraction"] ["metre"] (yah (top 47)):=scm
theorem ys9:yal ["self"] ["self"] (yah (top 62001)):=scm
theorem yt2:yal ["self"] ["self"] (yah (top 62002)):=scm
theorem sc_zap:yal ["text","rows","changes","voices"] ["text"] (yah (top 85)):=scm
theorem yrz:yal ["kind","changes"] ["kind","changes"] (yah (top 86)):=scm
theorem sc_zT:yal ["rows","changes","number","row","change"] ["rows"] (yah (top 87)):=scm
theorem sc_zam:yal ["row","ahead","words","bar","kind"] ["row","ahead"] (yah (top 88)):=scm
theorem sc_zt:yal ["bar","kind","words","value"] ["bar","kind","words"] (yah (top 89)):=scm
theorem sc_zaq:yal ["rows","first","voices","number","row","sound"] ["rows","first"] (yah (top 90)):=scm
theorem ysL:yal ["voices"] ["voices"] (yah (top 91)):=scm
theorem sc_zaJ:yal ["row","words","length","pitches"] ["row"] (yah (top 92)):=scm
theorem sc_zaB:yal ["pitches","length","words","opens","behind_opens","closes","syllables"] ["pitches","length","words"] (yah (top 93)):=scm
theorem sc_zab:yal ["tune","rows","voice"] ["tune"] (yah (top 94)):=scm
theorem sc_zx:yal ["tune","metres","keys"] ["tune"] (yah (top 95)):=scm
theorem sc_zN:yal ["change","value","row"] ["change"] (yah (top 96)):=scm
theorem sc_zac:yal ["told","words"] ["told"] (yah (top 97)):=scm
theorem sc_zH:yal ["_law_grains","_law_times","_law_top","_law_bottom","_law_one"] ["_law_grains","_law_times"] (yah (top 110)):=scm
theorem sc_zaA:yal ["_law_told","_law_times","_law_words","_law_step","_law_lean","_law_octave","_law_row_here"] ["_law_told","_law_times"] (yah (top 111)):=scm
theorem sc_ze:yal ["_law_metre_here","_law_text"] ["_law_metre_here"] (yah (top 112)):=scm
theorem sc_zah:yal ["_law_frames_here","_law_voices_here","_law_times","_law_rows_here","_law_place","_law_front","_law_voice_here"] ["_law_frames_here","_law_voices_here","_law_times"] (yah (top 113)):=scm
theorem sc_zm:yal ["_law_tune","_law_found"] ["_law_tune"] (yah (top 114)):=scm
theorem sc_zY:yal ["_law_script","_law_tape","_law_voices_here","_law_tidy_here"] ["_law_script","_law_tape"] (yah (top 115)):=scm
theorem sc_zaR:yal ["_law_script","_law_tape","_law_voices_here","_law_tidy_here","_law_frames_here","_law_times","_law_due","_law_text","_law_tune","_law_others","_law_neat","_law_bars","_law_other","_law_written","_law_again","_law_made"] ["_law_script"] (yah (top 116)):=scm
end KD
namespace KD
open PySem L2
seal PE PS PSs PT PW PA PG PGs PI ypN
local macro_rules | `(tactic| walk_at "rd") => `(tactic| simp only [ysc, yj5, yp2, yk5, ytf, tOr, ysE, tIf, yip, ynx, tB, tCB, yb3, yh6, ydD, tC, tOp, tUn, yjw, yfl, tSl, ypo, yik, ypQ, ysl, tBM, ysP, ytu, ypx, ysg, ybZ, ykS, ycF, ykJ, ytJ, ynt, rI, rI0, rU, rEq, rNe, ytb, ypR, yl9, yuC, ytO, yjk, yut, ymE, ypM, ysi, yrD, yuH, rIn, ygi, yrW, yuE, ynD, ysz, ym3, yoM, yuq, yn8, yqr, ymU, ypb, ymv, yqU, yop, yor, yui, ytW, yqX, ylG, ypf, ytn, ypP, ysq, ipI, ysF, ypq, yo3, L2.start, List.map_cons, List.map_nil, List.length_cons, List.length_nil, List.replicate, List.cons_append, List.nil_append, List.append_nil, List.getElem?_cons_zero, List.getElem?_cons_succ, List.set_cons_zero, List.set_cons_succ, Nat.reduceAdd, Nat.reduceSub, Option.some.injEq, List.cons.injEq, and_true, true_and, exists_eq_left', exists_eq_left, exists_eq_right, exists_eq_right', V.ty.injEq, V.int.injEq, V.bl.injEq, V.str.injEq, V.ref.injEq, and_assoc, exists_and_left, reduceCtorEq, false_and, and_false, exists_false, or_false, false_or, Bool.not_eq_true', Bool.false_eq_true, if_false, if_true, Bool.not_true, Bool.not_false, decide_eq_true_eq, decide_eq_false_iff_not, Bool.or_eq_true, Bool.and_eq_true, Int.reduceLT, Int.reduceNeg])
local macro_rules | `(tactic| walk_at "") => `(tactic| repeat (first | (with_reducible first | refine ycw ?_ | refine yf9 ?_ | refine yrY ?_ | refine i_c ?_ | refine ysd ?_ | refine ytz ?_ | refine yq7 ?_ | refine ya0 ?_ | refine ytr ?_ | refine yt3 ?_ | refine ybj ?_ | refine ydc ?_ | refine yc5 ?_ | refine yha ?_ | refine yuR ?_ | refine yuQ ?_ | refine ypi ?_ | refine yo6 ?_ | refine ybn ?_ | refine yuV ?_ | refine i_U ?_ | refine yuO ?_ | refine yjf ?_ | refine yml ?_ | refine yuP ?_ | refine yoB ?_ | refine ydk ?_ | refine i_T ?_ | refine i_F ?_ | refine ysU ?_ | refine ysA ?_ | refine ytd ?_ | refine ytc ?_ | refine i_itt ?_ | refine ys7 ?_ | refine ytH ?_ | refine ytw ?_ | refine yun ?_ | refine ypX ?_ | refine ysR ?_ | refine ysJ ?_ | refine yt0 ?_ | refine yuJ ?_ | refine yuI ?_ | refine yri ?_ | refine yr0 ?_ | refine i_dg ?_ | refine yrp ?_ | refine yeo (.inl (by decide)) ?_ | refine yeo (.inr (by decide)) ?_ | refine ytV (by with_unfolding_all rfl) ?_ | refine i_I (by decide) ?_ | refine ypl (by decide) ?_ | refine ytA ?_ | refine ydf (by with_unfolding_all rfl) ?_ | refine ype ?_ | refine yuW ?_) | dsimp only))
section
variable {P:Program} {w:World} {K:PySem.W.Frag} {mg:Str->Option Value} {base:Heap} {t:Ad}
theorem small {n:Nat}(h:n<=1000):n<=sizeLine:=Nat.le_of_lt (yaz h)
theorem yaS {H H':Hp}{D:Addr}{o:HO}(hD:H D=none)(sm:Same H H'):Same H (upd H' D o):=λb u hb=>by
 rw[yaB (yaL hb hD)]
 exact sm _ _ hb
inductive Th where
 | im (v:V) | ls (ts:List Th) | tp (ts:List Th) | dk
noncomputable def imV:V->Bool
 | .non=>true
 | .bl _=>true
 | .int _=>true
 | .str _=>true
 | _=>false
mutual
noncomputable def Is (H:Hp):V->Th->Prop
 | x,.im v=>x=v/\imV v=true
 | x,.ls ts=>∃ a xs,x=.ref a/\H a=some (.lst xs)/\Iss H xs ts
 | x,.tp ts=>∃ a xs,x=.ref a/\H a=some (.tup xs)/\Iss H xs ts
 | x,.dk=>∃ a kvs,x=.ref a/\H a=some (.dK kvs)
noncomputable def Iss (H:Hp):List V->List Th->Prop
 | xs,[]=>xs=[]
 | xs,t :: ts=>∃ x r,xs=x :: r/\Is H x t/\Iss H r ts
end
mutual
theorem Is.same {H H':Hp}(s:Same H H'):∀ {v:V} {t:Th},Is H v t->Is H' v t
 | v,.im w,h=>by rw[Is] at h ⊢;exact h
 | v,.ls ts,h=>by
  rw[Is] at h ⊢
  obtain⟨a,xs,e,q,r⟩:=h
  exact⟨a,xs,e,s _ _ q,Iss.same s r⟩
 | v,.tp ts,h=>by
  rw[Is] at h ⊢
  obtain⟨a,xs,e,q,r⟩:=h
  exact⟨a,xs,e,s _ _ q,Iss.same s r⟩
 | v,.dk,h=>by
  rw[Is] at h ⊢
  obtain⟨a,xs,e,q⟩:=h
  exact⟨a,xs,e,s _ _ q⟩
theorem Iss.same {H H':Hp}(s:Same H H'):∀ {xs:List V} {ts:List Th},Iss H xs ts->Iss H' xs ts
 | xs,[],h=>by rw[Iss] at h ⊢;exact h
 | xs,t :: ts,h=>by
  rw[Iss] at h ⊢
  obtain⟨x,r,e,q,z⟩:=h
  exact⟨x,r,e,Is.same s q,Iss.same s z⟩
end
theorem Iss.len {H:Hp}:∀ {xs:List V} {ts:List Th},Iss H xs ts->xs.length=ts.length
 | xs,[],h=>by rw[Iss] at h;rw[h];rfl
 | xs,t :: ts,h=>by
  rw[Iss] at h
  obtain⟨x,r,rfl,q,z⟩:=h
  rw[List.length_cons,List.length_cons,Iss.len z]
theorem Iss.app {H:Hp}:∀ {xs ys:List V} {ts us:List Th},Iss H xs ts->Iss H ys us->Iss H (xs++ys) (ts++us)
 | xs,ys,[],us,h,g=>by rw[Iss] at h;rw[h];exact g
 | xs,ys,t :: ts,us,h,g=>by
  rw[Iss] at h
  obtain⟨x,r,rfl,q,z⟩:=h
  rw[List.cons_append,List.cons_append,Iss]
  exact⟨x,_,rfl,q,Iss.app z g⟩
theorem Iss.at' {H:Hp}:∀ {xs:List V} {ts:List Th} (j:Nat) (h:Iss H xs ts) (hj:j < ts.length),∃ x,xs[j]?=some x/\Is H x ts[j]
 | xs,t :: ts,0,h,_=>by
  rw[Iss] at h
  obtain⟨x,r,rfl,q,z⟩:=h
  exact⟨x,rfl,q⟩
 | xs,t :: ts,j+1,h,hj=>by
  rw[Iss] at h
  obtain⟨x,r,rfl,q,z⟩:=h
  obtain⟨y,e,i⟩:=Iss.at' j z (by simpa using hj)
  exact⟨y,by rw[List.getElem?_cons_succ];exact e,by rw[List.getElem_cons_succ];exact i⟩
theorem Iss.knd {H:Hp}:∀ {xs:List V} {ts:List Th},Iss H xs ts->∀ y∈xs,∃ t∈ts,Is H y t
 | xs,[],h,y,hy=>by rw[Iss] at h;rw[h] at hy;cases hy
 | xs,t :: ts,h,y,hy=>by
  rw[Iss] at h
  obtain⟨x,r,rfl,q,z⟩:=h
  rcases List.mem_cons.mp hy with rfl | hy
  ·exact⟨t,List.mem_cons_self,q⟩
  ·obtain⟨u,hu,i⟩:=Iss.knd z y hy
   exact⟨u,List.mem_cons_of_mem _ hu,i⟩
noncomputable def nT (i:Int):Th:=.im (.int i)
theorem Iss.ints {H:Hp}:∀ {ns:List Int} {xs:List V},Iss H xs (ns.map nT)->xs=ns.map V.int
 | [],xs,h=>by rw[List.map_nil,Iss] at h;rw[h];rfl
 | n :: ns,xs,h=>by
  rw[List.map_cons,Iss] at h
  obtain⟨x,r,rfl,i,z⟩:=h
  rw[nT,Is] at i
  rw[i.1,Iss.ints z]
  rfl
theorem yny (xs:List V)(k:Nat)(h:k<=xs.length):yes xs none (some (k:Int))=xs.take k:=by
 unfold yes
 rw[HT.sIx_none,HT.sIx_nat,Nat.min_eq_left h]
 simp
theorem ydt (xs:List V)(k:Nat)(h:k<=xs.length):yes xs (some (k:Int)) none=xs.drop k:=by
 unfold yes
 rw[HT.sIx_none,HT.sIx_nat,Nat.min_eq_left h]
 exact List.take_of_length_le (by rw[List.length_drop];exact Nat.le_refl _)
noncomputable def rm (H:Hp)(c:Addr):Hp:=λb=>if b=c then none else H b
noncomputable def fr (H H':Hp):Hp:=λb=>if H b=none then H' b else none
theorem yeY {H:Hp}{b c:Addr}(h:b≠c):rm H c b=H b:=by unfold rm;rw[if_neg h]
theorem yk4 {H:Hp}{c:Addr}:rm H c c=none:=by unfold rm;rw[if_pos rfl]
theorem ydg {H:Hp}{b c:Addr}{u:HO}(h:rm H c b=some u):b≠c/\H b=some u:=by
 by_cases z:b=c
 ·rw[z,yk4] at h;cases h
 ·exact⟨z,by rw[yeY z] at h;exact h⟩
theorem ybB {H H':Hp}{b:Addr}(h:H b=none):fr H H' b=H' b:=by unfold fr;rw[if_pos h]
theorem ya9 {H H':Hp}{b:Addr}{u:HO}(h:fr H H' b=some u):H b=none/\H' b=some u:=by
 by_cases z:H b=none
 ·exact⟨z,by rw[ybB z] at h;exact h⟩
 ·unfold fr at h;rw[if_neg z] at h;cases h
theorem yio (H:Hp)(c:Addr):Same (rm H c) H:=λb u h=>(ydg h).2
theorem yaM (H H':Hp):Same (fr H H') H':=λb u h=>(ya9 h).2
theorem yay {H H1 H2:Hp}(s:Same H1 H2):Same (fr H H1) (fr H H2):=λb u h=>by
 obtain⟨n,e⟩:=ya9 h
 rw[ybB n]
 exact s _ _ e
theorem ydm {H H1 H2:Hp}(s:Same H H1):Same (fr H1 H2) (fr H H2):=λb u h=>by
 obtain⟨n,e⟩:=ya9 h
 rw[ybB (s.free n)]
 exact e
theorem ycO {H H':Hp}{c:Addr}(s:∀ b u,b≠c->H b=some u->H' b=some u):Same (rm H c) (rm H' c):=λb u h=>by
 obtain⟨n,e⟩:=ydg h
 rw[yeY n]
 exact s b u n e
theorem ygs (H:Hp):∀ ns:List Int,Iss H (ns.map V.int) (ns.map nT)
 | []=>by rw[List.map_nil,List.map_nil,Iss]
 | n :: ns=>by
  rw[List.map_cons,List.map_cons,Iss]
  exact⟨_,_,rfl,by rw[nT,Is];exact⟨rfl,rfl⟩,ygs H ns⟩
theorem ybC {H:Hp}{v:V}(h:imV v=true):Is H v (.im v):=by rw[Is];exact⟨rfl,h⟩
theorem yej (H:Hp)(i:Int):Is H (.int i) (nT i):=ybC rfl
theorem yaO (H:Hp):Iss H [] []:=by rw[Iss]
theorem yau {H:Hp}{x:V}{xs:List V}{tr:Th}{ts:List Th}(a:Is H x tr)(b:Iss H xs ts):Iss H (x :: xs) (tr :: ts):=by rw[Iss];exact⟨x,xs,rfl,a,b⟩
theorem ybU {H:Hp}{a:Addr}{xs:List V}{ts:List Th}(e:H a=some (.lst xs))(h:Iss H xs ts):Is H (.ref a) (.ls ts):=by rw[Is];exact⟨a,xs,rfl,e,h⟩
theorem ycR {H:Hp}{a:Addr}{xs:List V}{ts:List Th}(e:H a=some (.tup xs))(h:Iss H xs ts):Is H (.ref a) (.tp ts):=by rw[Is];exact⟨a,xs,rfl,e,h⟩
theorem yhQ {H H4:Hp}{D:Addr}{o:HO}:Same (rm (fr H H4) D) (rm (fr H (upd H4 D o)) D):=λb u h=>by
 obtain⟨n,e⟩:=ydg h
 obtain⟨n2,e2⟩:=ya9 e
 rw[yeY n,ybB n2,yaB n]
 exact e2
section
variable {C:St->Hp->Prop}
end
noncomputable def nTr (i:Int):L2.Tr:=.vl (.int i)
theorem SameT.trans {c:Addr}{H H1 H2:Hp}(a:SameT c H H1)(b:SameT c H1 H2):SameT c H H2:=λd u n e=>b d u n (a d u n e)
theorem ykj {c:Addr}{H H1:Hp}{o:HO}(a:SameT c H H1):SameT c H (upd H1 c o):=λd u n e=>by rw[yaB n];exact a d u n e
theorem yd6 {c f:Addr}{H H1:Hp}{o:HO}(a:SameT c H H1)(hf:H f=none):SameT c H (upd H1 f o):=λd u n e=>by rw[yaB (yaL e hf)];exact a d u n e
noncomputable def yq5 (c:Int):Prop:=Builtin.Int.intBits c<=2 ^ 20
theorem yoW {tp p:Addr}{H H':Hp}{o:HO}(s:SameT tp H H')(ht:H' tp=some o)(hp:H' p=none):H p=none:=by
 cases e:H p with
 | none=>rfl
 | some u =>
  have n:p≠tp:=λz=>by rw[z,ht] at hp;cases hp
  rw[s p u n e] at hp
  cases hp
theorem yuM {tp:Addr}{H H' H'':Hp}{o:HO}(ht:H tp=some o)(s:SameT tp H' H''):Same (fr H H') (fr H H''):=λb u h=>by
 obtain⟨n,e⟩:=ya9 h
 rw[ybB n]
 exact s b u (λz=>by rw[z,ht] at n;cases n) e
theorem h1 {n:Nat}(h:n+64 < cLine):n+1 < cLine:=Nat.lt_of_le_of_lt (by omega) h
noncomputable def Tape (H:Hp)(tp:Addr)(N:Nat):Prop:=∃ n:Nat,n<=N/\H tp=some (.lst [.int n])
noncomputable def Src (K:PySem.W.Frag)(a tp:Addr)(ns:List Int)(H:Hp):Prop:=∃ Hs,SqL K Hs a (ns.map V.int)/\Hs tp=none/\Same Hs H
theorem Src.sq {a tp:Addr}{ns:List Int}{H:Hp}(h:Src K a tp ns H):SqL K H a (ns.map V.int):=by
 obtain⟨Hs,h1,_,s⟩:=h
 exact s.seq h1
theorem Src.sameT {a tp:Addr}{ns:List Int}{H H':Hp}(h:Src K a tp ns H)(s:SameT tp H H'):Src K a tp ns H':=by
 obtain⟨Hs,h1,h2,sm⟩:=h
 exact⟨Hs,h1,h2,λb u e=>s b u (yaL e h2) (sm b u e)⟩
theorem Tape.same {tp:Addr}{N:Nat}{H H':Hp}(h:Tape H tp N)(s:Same H H'):Tape H' tp N:=by
 obtain⟨n,l,e⟩:=h
 exact⟨n,l,s _ _ e⟩
theorem Tape.up {tp:Addr}{N M:Nat}{H:Hp}(h:Tape H tp N)(l:N<=M):Tape H tp M:=by
 obtain⟨n,l',e⟩:=h
 exact⟨n,by omega,e⟩
theorem ykn {tp:Addr}{H:Hp}{o:HO}:SameT tp H (upd H tp o):=ykj λb u _ e=>e
noncomputable def ytR (ns:List Int):Prop:=∀ v∈ns,yq5 v
theorem yn0 {H:Hp}:∀ {xs:List V} {ts:List Th},xs.length=ts.length->(∀ (j:Nat) (u:Th),ts[j]?=some u->∃ x,xs[j]?=some x/\Is H x u)->Iss H xs ts
 | [],[],_,_=>yaO H
 | x :: xs,t :: ts,hl,h=>by
  obtain⟨y,e,i⟩:=h 0 t rfl
  cases e
  refine yau i (yn0 (by simpa using hl) λj u hj=>?_)
  obtain⟨z,e,i⟩:=h (j+1) u (by rw[List.getElem?_cons_succ];exact hj)
  exact⟨z,by rw[List.getElem?_cons_succ] at e;exact e,i⟩
 | [],_ :: _,hl,_=>nomatch hl
 | _ :: _,[],hl,_=>nomatch hl
noncomputable def nw (Hs H H':Hp):Hp:=λb=>if H b=none then H' b else Hs b
theorem yaI {Hs H H':Hp}{b:Addr}(h:H b=none):nw Hs H H' b=H' b:=by unfold nw;rw[if_pos h]
theorem ybM {Hs H H':Hp}{b:Addr}{u:HO}(h:H b=some u):nw Hs H H' b=Hs b:=by unfold nw;rw[if_neg (by rw[h];simp)]
theorem yeH {Hs H H':Hp}(a:Same Hs H)(b:Same H H'):Same (nw Hs H H') H':=λc u e=>by
 cases h:H c with
 | none=>rw[yaI h] at e;exact e
 | some v=>rw[ybM h] at e;exact b _ _ (a _ _ e)
theorem yee {Hs H H':Hp}(a:Same Hs H):Same Hs (nw Hs H H'):=λc u e=>by rw[ybM (a _ _ e)];exact e
theorem ycq {Hs H H' H'':Hp}(s:Same H' H''):Same (nw Hs H H') (nw Hs H H''):=λc u e=>by
 cases h:H c with
 | none=>rw[yaI h] at e ⊢;exact s _ _ e
 | some v=>rw[ybM h] at e ⊢;exact e
theorem yfR {Hs H H1 H2:Hp}(s:Same H H1)(s2:Same H1 H2):Same (nw (nw Hs H H1) H1 H2) (nw Hs H H2):=λc u e=>by
 cases h:H c with
 | none =>
  rw[yaI h]
  cases h1:H1 c with
  | none=>rw[yaI h1] at e;exact e
  | some v=>rw[ybM h1,yaI h] at e;exact s2 _ _ e
 | some v=>rw[ybM h];rw[ybM (s _ _ h),ybM h] at e;exact e
noncomputable def Al {α:Type}(S:V->α->Prop)(xs:List V)(us:List α):Prop:=xs.length=us.length/\∀ i (h:i < us.length),∃ x,xs[i]?=some x/\S x us[i]
section
variable {α β:Type}
theorem Al.nil {S:V->α->Prop}:Al S [] []:=⟨rfl,λ_ h=>nomatch h⟩
theorem Al.imp {S S':V->α->Prop}{xs:List V}{us:List α}(h:Al S xs us)(k:∀ x u,u∈us->S x u->S' x u):Al S' xs us :=
 ⟨h.1,λi hi=>let ⟨x,e,s⟩:=h.2 i hi;⟨x,e,k _ _ (List.getElem_mem hi) s⟩⟩
theorem Al.snoc {S:V->α->Prop}{xs:List V}{us:List α}{x:V}{u:α}(h:Al S xs us)(s:S x u):Al S (xs++[x]) (us++[u]):=by
 refine⟨by rw[List.length_append,List.length_append,h.1];rfl,λi hi=>?_⟩
 rw[List.length_append,List.length_singleton] at hi
 by_cases e:i < us.length
 ·obtain⟨y,e1,e2⟩:=h.2 i e
  exact⟨y,by rw[List.getElem?_append_left (by rw[h.1];exact e)];exact e1,by rw[List.getElem_append_left e];exact e2⟩
 ·have:i=us.length:=by omega
  subst this
  refine⟨x,by rw[List.getElem?_append_right (by rw[h.1];exact Nat.le_refl _),h.1];simp,by simpa using s⟩
theorem Al.app {S:V->α->Prop}{xs ys:List V}{us vs:List α}(h:Al S xs us)(g:Al S ys vs):Al S (xs++ys) (us++vs):=by
 refine⟨by rw[List.length_append,List.length_append,h.1,g.1],λi hi=>?_⟩
 rw[List.length_append] at hi
 by_cases e:i < us.length
 ·obtain⟨y,e1,e2⟩:=h.2 i e
  exact⟨y,by rw[List.getElem?_append_left (by rw[h.1];exact e)];exact e1,by rw[List.getElem_append_left e];exact e2⟩
 ·obtain⟨y,e1,e2⟩:=g.2 (i - us.length) (by omega)
  exact⟨y,by rw[List.getElem?_append_right (by rw[h.1];omega),h.1];exact e1,by rw[List.getElem_append_right (by omega)];exact e2⟩
theorem ybE {H:Hp}{f:α->Th}:∀ {xs:List V} {us:List α},Iss H xs (us.map f)->Al (λx u=>Is H x (f u)) xs us:=λ{xs us} h =>
 ⟨by rw[h.len,List.length_map],λi hi=>by
  obtain⟨x,e,s⟩:=h.at' i (by rw[List.length_map];exact hi)
  rw[List.getElem_map] at s
  exact⟨x,e,s⟩⟩
theorem yc1 {H:Hp}{f:α->Th}{xs:List V}{us:List α}(h:Al (λx u=>Is H x (f u)) xs us):Iss H xs (us.map f):=by
 refine yn0 (by rw[List.length_map,h.1]) λj u e=>?_
 rw[List.getElem?_map] at e
 have hj:j < us.length:=by
  cases z:us[j]? with
  | none=>rw[z] at e;cases e
  | some v=>exact(List.getElem?_eq_some_iff.mp z).1
 rw[List.getElem?_eq_getElem hj] at e
 obtain⟨x,e1,s⟩:=h.2 j hj
 cases e
 exact⟨x,e1,s⟩
noncomputable def yfr (R:Hp->V->α->Prop):Prop:=∀ {H H':Hp} {x:V} {u:α},Same H H'->R H x u->R H' x u
theorem ydU {f:α->Th}:yfr (λH x u=>Is H x (f u)):=λs h=>h.same s
theorem yge {K:PySem.W.Frag}{a D:Addr}{xs:List V}{us:List α}{te:TE}{Fin:Hp->Prop}{o:Option V}{r:St}{H Hs:Hp}{R:Hp->V->α->Prop}{S:Hp->V->β->Prop}(hR:yfr R)(hS:yfr S)(f:α->β)
  (sH:Same Hs H) (ha:H a=some (.lst xs)) (al:Al (R Hs) xs us) (hD:H D=none) (hz:us.length<=900)
  (hte:∀ x u (H' Hs':Hp) (Q':VK),u∈us->Same Hs Hs'->Same H H'->Same Hs' H'->R Hs' x u->(∀ y H'',Same H' H''->S (nw Hs' H' H'') y (f u)->Q' y H'')->te (some x :: r) H' Q')
  (fin:∀ ys H',Same H H'->H' D=some (.lst ys)->Al (S (nw Hs H (rm H' D))) ys (us.map f)->Fin H') :
  ∃ W:Nat->Nat->St->Hp->Prop,(∃ m,W 0 m (o :: r) (upd H D (.lst [])))/\ydG (Itl K a) (ybZ 0) yft te D Fin W:=by
 refine ycm (xs:=xs) (λi σ' H'=>(∃ o,σ'=o :: r)/\Same H H'/\∃ ys,H' D=some (.lst ys)/\Al (S (nw Hs H (rm H' D))) ys ((us.take i).map f)) ⟨⟨_,rfl⟩,yag hD _,[],yae,Al.nil⟩ (λ_ _ _ _ h=>SqL.of (h.2.1 _ _ ha)) ?_ ?_
 ·rintro i x σ' H' N hN hx ⟨⟨o,rfl⟩,sm,ys,hd,as⟩
  have hi:i < us.length:=by have:=(List.getElem?_eq_some_iff.mp hx).1;rw[al.1] at this;exact this
  obtain⟨x',e,rx⟩:=al.2 i hi
  rw[hx] at e
  cases e
  refine ybj (ydk (i_T ?_))
  have s1:Same Hs (nw Hs H (rm H' D)):=yee sH
  have s2:Same (nw Hs H (rm H' D)) H':=λc u e=>by
   cases h:H c with
   | none=>rw[yaI h] at e;exact(ydg e).2
   | some v=>rw[ybM h] at e;exact sm _ _ (sH _ _ e)
  refine hte x us[i] H' _ _ (List.getElem_mem hi) s1 sm s2 (hR s1 rx) λy H2 t2 sy=>⟨ys,t2 _ _ hd,?_,hN _ _ ⟨⟨_,rfl⟩,yaS hD (sm.trans t2),_,yae,?_⟩⟩
  ·rw[as.1,List.length_map,List.length_take]
   exact yaz (by omega)
  ·have up:Same (nw (nw Hs H (rm H' D)) H' H2) (nw Hs H (rm (upd H2 D (.lst (ys++[y]))) D)):=λc u e=>by
    have key:∀ {u},H2 c=some u->c≠D->H c=none->nw Hs H (rm (upd H2 D (.lst (ys++[y]))) D) c=some u:=λe n h=>by rw[yaI h,yeY n,yaB n];exact e
    cases h1:H' c with
    | none =>
     rw[yaI h1] at e
     exact key e (λz=>by rw[z,hd] at h1;cases h1) (sm.free h1)
    | some v =>
     rw[ybM h1] at e
     cases h:H c with
     | none =>
      rw[yaI h] at e
      obtain⟨n,e⟩:=ydg e
      exact key (t2 _ _ e) n h
     | some w=>rw[ybM h] at e ⊢;exact e
   rw[List.take_succ_eq_append_getElem hi,List.map_append]
   refine Al.snoc (as.imp λ_ _ _ z=>hS ?_ z) (hS up sy)
   exact λc u e=>up c u (yee s2 _ _ e)
 ·rintro σ' H' ⟨_,sm,ys,hd,as⟩
  rw[al.1,List.take_length] at as
  exact fin ys H' sm hd as
end
noncomputable def yos (te:TE)(tr:Th):Prop:=∀ σ H Q,(∀ x H',Same H H'->Is (fr H H') x tr->Q x H')->te σ H Q
noncomputable def ylz (ta:TA)(ts:List Th):Prop:=∀ σ H Q,(∀ xs H',Same H H'->Iss (fr H H') xs ts->Q xs H')->ta σ H Q
theorem yr9 {v:V}(h:imV v=true):yos (tC v) (.im v):=fun σ H Q q=>q v H (Same.refl H) (ybC h)
theorem ysa:ylz yh6 []:=fun σ H Q q=>q _ _ (Same.refl H) (yaO _)
theorem yr5 {ta:TE}{tr:TA}{t:Th}{ts:List Th}(a:yos ta t)(b:ylz tr ts):ylz (yb3 ta tr) (t :: ts):=fun σ H Q q =>
 a σ H _ λx H1 s1 i1=>b σ H1 _ λxs H2 s2 i2=>q _ _ (s1.trans s2) (yau (i1.same (yay s2)) (i2.same (ydm s1)))
theorem ypL {H H1:Hp}{p:Addr}{o:HO}(hp:H1 p=none):Same (fr H H1) (fr H (upd H1 p o)):=yay (yag hp o)
theorem ysk {tr:TA}{ts:List Th}(a:ylz tr ts)(h:ts.length<=1000):yos (ypQ tr) (.tp ts):=fun σ H Q q=>a σ H _ λxs H1 s1 i1 =>
 ⟨small (by rw[i1.len];exact h),λp hp=>q _ _ (s1.trans (yag hp _)) (ycR (by rw[ybB (s1.free hp)];exact yae) (i1.same (ypL hp)))⟩
theorem ysf {tr:TA}{ts:List Th}(a:ylz tr ts)(h:ts.length<=1000):yos (ysl tr) (.ls ts):=fun σ H Q q=>a σ H _ λxs H1 s1 i1 =>
 ⟨small (by rw[i1.len];exact h),λp hp=>q _ _ (s1.trans (yag hp _)) (ybU (by rw[ybB (s1.free hp)];exact yae) (i1.same (ypL hp)))⟩
theorem ys1 {v:V}(h:imV v=true):eqT (.vl v) (.vl v)=true:=by
 cases v with
 | non=>simp[eqT,eqV]
 | bl b=>cases b<;>simp[eqT,eqV]
 | int i=>simp[eqT,eqV]
 | str x=>simp[eqT,eqV]
 | _=>cases h
theorem yod {K:PySem.W.Frag}{H:Hp}{v:V}(h:imV v=true):Rep K H v (.vl v):=by
 rw[Rep]
 refine⟨rfl,?_⟩
 cases v<;>first | rfl | cases h
theorem ycu {x:V}{n:String}{k:Knd}{H:Hp}{Q:VK}(h:KndOf H x k)(q:Q (.bl (k.isA n)) H)(hn:ykl n:=by unfold ykl;decide):ytb [x,.ty n] H Q:=⟨x,n,k,rfl,hn,h,q⟩
noncomputable def ygb:Sp:=λvs H Q _=>∃ n:Int,vs=[.int n]/\Q (.bl true) H
theorem yqY (T:Txt K mg t):FnOk P w K mg base CX0 1 t.f_zax t.d_zax ["thing"] ygb:=by
 refine T.QH.F.ok yqA (λvs H Q E h=>?_) (λ_ _ _ s H vs Q E hr h=>?_)
 ·obtain⟨n,rfl,_⟩:=h;rfl
 obtain⟨n,rfl,q⟩:=h
 have hu:=ybs hr
 refine⟨_,(yaf (yaj (ybq (yak yaR rfl T.Ja yam (yaa (pv 0) (yaa (yb5 rfl T.Qa yeB) yab))) (ybo (yfA (yak yaR rfl T.Ja yam (yaa (pv 0) (yaa (yb5 rfl T.JW yeT) yab)))))))),?_⟩
 walk_at ""
 refine ycu (.int n) (ya0 (i_T ?_))
 walk_at ""
 exact ycu (.int n) (ya0 q)
theorem ye2 {a b c:Int}{ta tb tc:TE}{σ:St}{H:Hp}{Q:VK}(ha:∀ Q':VK,Q' (.int a) H->ta σ H Q')(hb:∀ Q':VK,Q' (.int b) H->tb σ H Q')(hc:∀ Q':VK,Q' (.int c) H->tc σ H Q')(q:Q (.bl (decide (a<=b/\b<=c))) H) :
  yjw (rI0 λi j=>V.bl (decide (i<=j))) (rI0 λi j=>V.bl (decide (i<=j))) ta tb tc σ H Q:=by
 refine ha _ (hb _ (ysd (ya0 ?_)))
 by_cases h:a<=b
 ·rw[if_pos (by simpa using h)]
  refine hc _ (ysd ?_)
  rw[show decide (b<=c)=decide (a<=b/\b<=c) by simp[h]]
  exact q
 ·rw[if_neg (by simpa using h)]
  rw[show decide (a<=b/\b<=c)=false by simp[h]] at q
  exact q
theorem iv {σ:St}{H:Hp}{v:V}(i:Nat)(h:σ[i]?=some (some v)):∀ Q':VK,Q' v H->ydD i σ H Q':=λ_ q=>⟨v,h,q⟩
noncomputable def ycE:Sp:=λvs H Q _=>∃ n lo hi:Int,vs=[.int n,.int lo,.int hi]/\Q (.bl (decide (lo<=n/\n<=hi))) H
theorem yqq (T:Txt K mg t)(G_zax:FnOk P w K mg base CX0 1 t.f_zax t.d_zax ["thing"] ygb):FnOk P w K mg base CX0 2 t.f_zat t.d_zat ["thing","least","most"] ycE:=by
 refine T.Qj.F.ok yqa (λvs H Q E h=>?_) (λ_ _ _ s H vs Q E hr h=>?_)
 ·obtain⟨n,lo,hi,rfl,_⟩:=h;rfl
 obtain⟨n,lo,hi,rfl,q⟩:=h
 have hu:=ybs hr
 refine⟨_,(yaf (yaj (ybq (pcl G_zax hr T.QH (yaa (pv 0) yab)) (ybo (yey ycI ycI (pv 1) (pv 0) (pv 2)))))),?_⟩
 walk_at ""
 exact⟨n,rfl,ya0 (i_T (ye2 (iv 1 rfl) (iv 0 rfl) (iv 2 rfl) q))⟩
theorem ynr {a b D:Addr}{xs ys:List V}{te:TE}{Fin:Hp->Prop}{H:Hp}{o1 o2:Option V}(ha:H a=some (.lst xs))(hb:H b=some (.lst ys))(hD:H D=none)(hz:xs.length<=900)
  (ht:∀ (i:Nat) (x y:V) (H':Hp) (Q:VK),xs[i]?=some x->ys[i]?=some y->Same H H'->(∀ H'',Same H' H''->Q (.bl true) H'')->te [some x,some y] H' Q)
  (fin:∀ n H',Same H H'->H' D=some (.lst ((List.replicate n true).map V.bl))->Fin H') :
  ∃ W:Nat->Nat->St->Hp->Prop,(∃ m,W 0 m [o1,o2] (upd H D (.lst [])))/\ydG (Itz K a b) (ykJ K 2 (ycF (ybZ 0) (ycF (ybZ 1) ykS))) yft te D Fin W:=by
 refine yni (xs:=xs) (ys:=ys) (λi σ H'=>(∃ o1 o2,σ=[o1,o2])/\Same H H'/\H' D=some (.lst ((List.replicate i true).map V.bl))) ⟨⟨_,_,rfl⟩,yag hD _,yae⟩ (λi σ H' h=>⟨SqL.of (h.2.1 _ _ ha),SqL.of (h.2.1 _ _ hb)⟩) ?_ ?_
 ·rintro i u v σ H' c hx hy ⟨⟨o1,o2,rfl⟩,sj,hF'⟩ hc
  have s3:=yag hc (.tup [u,v])
  refine ykw (SqT.of yae) (ydk (i_T ?_))
  refine ht i u v _ _ hx hy (sj.trans s3) λH4 s4=>⟨_,s4 _ _ (s3 _ _ hF'),?_,⟨_,_,rfl⟩,yaS hD ((sj.trans s3).trans s4),?_⟩
  ·rw[List.length_map,List.length_replicate]
   have:=(List.getElem?_eq_some_iff.mp hx).1
   exact yaz (by omega)
  ·rw[yae,List.map_replicate,← List.replicate_succ',List.map_replicate]
 ·rintro i σ H' hi ⟨⟨o1,o2,rfl⟩,sj,hF'⟩
  exact fin _ _ sj hF'
theorem ykX {a:Addr}{i:Nat}{xs:List V}{te:TE}{σ:St}{H:Hp}{Q:VK}(e:σ[i]?=some (some (.ref a)))(ea:H a=some (.lst xs))(hz:xs.length<=900)
  (ht:∀ (i:Nat) (x y:V) (H':Hp) (Q:VK),xs[i]?=some x->xs[i+1]?=some y->Same H H'->(∀ H'',Same H' H''->Q (.bl true) H'')->te [some x,some y] H' Q)
  (fin:∀ n D H',Same H H'->H' D=some (.lst ((List.replicate n true).map V.bl))->Q (.ref D) H') :
  yiI (ytW K (yb3 (ydD i) (yb3 (tSl (yui K) (ydD i) (ypo (tC (.int 1))) yik) yh6))) [none,none] (ykJ K 2 (ycF (ybZ 0) (ycF (ybZ 1) ykS))) yft te σ H Q:=by
 refine⟨_,e,_,e,1,rfl,a,_,rfl,SqL.of ea,λp hp=>?_⟩
 have s1:=yag hp (.lst (yes xs (some 1) none))
 refine⟨a,p,rfl,⟨_,SqL.of (s1 _ _ ea)⟩,⟨_,SqL.of yae⟩,λD hD=>ynr (s1 _ _ ea) yae hD hz (λi x y H' Q' hx hy sm q'=>?_) λn H' s2 hd=>fin n D H' (s1.trans s2) hd⟩
 have l0:=(List.getElem?_eq_some_iff.mp hx).1
 have e1:yes xs (some ((1:Nat):Int)) none=xs.drop 1:=ydt xs 1 (by omega)
 rw[show(1:Int)=((1:Nat):Int) from rfl,e1,List.getElem?_drop,Nat.add_comm] at hy
 exact ht i x y H' Q' hx hy (s1.trans sm) q'
theorem ynI {H:Hp}{D:Addr}{n:Nat}{Q:VK}(h:H D=some (.lst ((List.replicate n true).map V.bl)))(q:Q (.bl true) H):ysi K [.ref D] H Q:=⟨D,_,rfl,SqL.of h,by simpa using q⟩
noncomputable def ykG:Sp:=λvs H Q _=>∃ (a:Addr) (ns:List Int),vs=[.ref a]/\H a=some (.lst (ns.map V.int))/\ns.length<=100/\(∀ i (h:i+1 < ns.length),ns[i] < ns[i+1])/\∀ H',Same H H'->Q (.bl true) H'
theorem yrC (T:Txt K mg t):FnOk P w K mg base CX0 1 t.f_zaF t.d_zaF ["numbers"] ykG:=by
 refine T.QO.F.ok yqg (λvs H Q E h=>?_) (λ_ _ _ s H vs Q E hr h=>?_)
 ·obtain⟨_,_,rfl,_⟩:=h;rfl
 obtain⟨a,ns,rfl,ea,le,up,q⟩:=h
 have hu:=ybs hr
 refine⟨_,(yaf (yaj (yak (ycQ rfl) rfl T.JL ycX (yaa (ya8 (yaH (NB:=["one","other"]) (cap:=[none,none]) rfl) rfl (ynT rfl T.Qt (yaa (pv 0) (yaa (ybr ycf (pv 0) (ybF yad) ybX) yab))) (λ_ _ _ _=>by exact(show PG _ _ (ykJ K 2 (ycF (ybZ 0) (ycF (ybZ 1) ykS))) from ydy (n:=2) rfl (yaZ (yax (i:=0) (show List.Nodup (["one","other"]:List Str) by decide) rfl (Or.inl rfl)) (yaZ (yax (i:=1) (show List.Nodup (["one","other"]:List Str) by decide) rfl (Or.inl rfl)) ycD)))) (λ_ _ _ _=>yaJ) (λ_ _ _ _=>(ya4 ye6 (pv 0) (pv 1) (yao _)))) yab)))),?_⟩
 walk_at ""
 refine ykX rfl ea (by rw[List.length_map];omega) (λi x y H' Q' hx hy _ q'=>?_) λn D H' sm hd=>ynI hd (q _ sm)
 rw[List.getElem?_map] at hx hy
 cases ex:ns[i]? with
 | none=>rw[ex] at hx;cases hx
 | some u =>
  cases ey:ns[i+1]? with
  | none=>rw[ey] at hy;cases hy
  | some v =>
   rw[ex] at hx
   rw[ey] at hy
   cases hx
   cases hy
   obtain⟨l1,e1⟩:=List.getElem?_eq_some_iff.mp ey
   have:=up i l1
   rw[(List.getElem?_eq_some_iff.mp ex).2,e1] at this
   walk_at ""
   rw[show decide (u < v)=true by simpa using this]
   exact q' _ (Same.refl _)
section
variable {α:Type}
theorem ybD {a D:Addr}{xs:List V}{us:List α}{te:TE}{Fin:Hp->Prop}{o:Option V}{r:St}{H:Hp}{R:V->α->Prop}(f:α->V)(ha:H a=some (.lst xs))(al:Al R xs us)(hD:H D=none)(hz:us.length<=900)
  (hte:∀ x u (H':Hp) (Q':VK),u∈us->Same H H'->R x u->(∀ H'',Same H' H''->Q' (f u) H'')->te (some x :: r) H' Q') (fin:∀ H',Same H H'->H' D=some (.lst (us.map f))->Fin H') :
  ∃ W:Nat->Nat->St->Hp->Prop,(∃ m,W 0 m (o :: r) (upd H D (.lst [])))/\ydG (Itl K a) (ybZ 0) yft te D Fin W:=by
 refine ycm (xs:=xs) (λi σ' H'=>(∃ o,σ'=o :: r)/\Same H H'/\H' D=some (.lst ((us.take i).map f))) ⟨⟨_,rfl⟩,yag hD _,yae⟩ (λ_ _ _ _ h=>SqL.of (h.2.1 _ _ ha)) ?_ ?_
 ·rintro i x σ' H' N hN hx ⟨⟨o,rfl⟩,sm,hd⟩
  have hi:i < us.length:=by have:=(List.getElem?_eq_some_iff.mp hx).1;rw[al.1] at this;exact this
  obtain⟨x',e,rx⟩:=al.2 i hi
  rw[hx] at e
  cases e
  refine ybj (ydk (i_T (hte x us[i] H' _ (List.getElem_mem hi) sm rx λH2 t2=>⟨_,t2 _ _ hd,?_,hN _ _ ⟨⟨_,rfl⟩,yaS hD (sm.trans t2),?_⟩⟩)))
  ·rw[List.length_map,List.length_take]
   exact yaz (by omega)
  ·rw[yae,List.take_succ_eq_append_getElem hi,List.map_append]
   rfl
 ·rintro σ' H' ⟨_,sm,hd⟩
  rw[al.1,List.take_length] at hd
  exact fin H' sm hd
theorem yff {a D:Addr}{xs:List V}{us:List α}{te:TE}{Fin:Hp->Prop}{o:Option V}{r:St}{H:Hp}{R:V->α->Prop}(f:α->V)(ha:H a=some (.tup xs))(al:Al R xs us)(hD:H D=none)(hz:us.length<=900)
  (hte:∀ x u (H':Hp) (Q':VK),u∈us->Same H H'->R x u->(∀ H'',Same H' H''->Q' (f u) H'')->te (some x :: r) H' Q') (fin:∀ H',Same H H'->H' D=some (.lst (us.map f))->Fin H') :
  ∃ W:Nat->Nat->St->Hp->Prop,(∃ m,W 0 m (o :: r) (upd H D (.lst [])))/\ydG (Itt K a) (ybZ 0) yft te D Fin W:=by
 refine ymN (xs:=xs) (λi σ' H'=>(∃ o,σ'=o :: r)/\Same H H'/\H' D=some (.lst ((us.take i).map f))) ⟨⟨_,rfl⟩,yag hD _,yae⟩ (λ_ _ _ _ h=>SqT.of (h.2.1 _ _ ha)) ?_ ?_
 ·rintro i x σ' H' hx ⟨⟨o,rfl⟩,sm,hd⟩
  have hi:i < us.length:=by have:=(List.getElem?_eq_some_iff.mp hx).1;rw[al.1] at this;exact this
  obtain⟨x',e,rx⟩:=al.2 i hi
  rw[hx] at e
  cases e
  refine ybj (ydk (i_T (hte x us[i] H' _ (List.getElem_mem hi) sm rx λH2 t2=>⟨_,t2 _ _ hd,?_,⟨_,rfl⟩,yaS hD (sm.trans t2),?_⟩)))
  ·rw[List.length_map,List.length_take]
   exact yaz (by omega)
  ·rw[yae,List.take_succ_eq_append_getElem hi,List.map_append]
   rfl
 ·rintro σ' H' ⟨_,sm,hd⟩
  rw[al.1,List.take_length] at hd
  exact fin H' sm hd
theorem ymg {H:Hp}{D:Addr}{us:List α}{Q:VK}(h:H D=some (.lst (us.map λ_=>V.bl true)))(q:Q (.bl true) H):ysi K [.ref D] H Q:=ynI (n:=us.length) (by rw[h,List.map_const',List.map_replicate]) q
theorem yjs {f:α->V}(us:List α):Al (λx u=>x=f u) (us.map f) us:=⟨List.length_map _,λi h=>⟨_,by rw[List.getElem?_map,List.getElem?_eq_getElem h];rfl,rfl⟩⟩
end
mutual
noncomputable def yb8:Th->L2.Tr
 | .im v=>.vl v
 | .ls ts=>.ls (toTrs ts)
 | .tp ts=>.tp (toTrs ts)
 | .dk=>.vl .non
noncomputable def toTrs:List Th->List L2.Tr
 | []=>[]
 | t :: ts=>yb8 t :: toTrs ts
end
mutual
noncomputable def ycj:Th->Bool
 | .im v=>imV v
 | .ls ts=>cleans ts
 | .tp ts=>cleans ts
 | .dk=>false
noncomputable def cleans:List Th->Bool
 | []=>true
 | t :: ts=>ycj t&&cleans ts
end
mutual
theorem Is.rep {H:Hp}:∀ {x:V} {tr:Th},ycj tr=true->Is H x tr->Rep K H x (yb8 tr)
 | x,.im v,c,h=>by
  rw[Is] at h
  rw[h.1,yb8]
  exact yod h.2
 | x,.ls ts,c,h=>by
  rw[Is] at h
  obtain⟨a,xs,e,q,r⟩:=h
  rw[yb8,Rep]
  exact⟨a,xs,e,SqL.of q,Iss.rep (by rw[ycj] at c;exact c) r⟩
 | x,.tp ts,c,h=>by
  rw[Is] at h
  obtain⟨a,xs,e,q,r⟩:=h
  rw[yb8,Rep]
  exact⟨a,xs,e,SqT.of q,Iss.rep (by rw[ycj] at c;exact c) r⟩
 | x,.dk,c,_=>by rw[ycj] at c;cases c
theorem Iss.rep {H:Hp}:∀ {xs:List V} {ts:List Th},cleans ts=true->Iss H xs ts->Reps K H xs (toTrs ts)
 | xs,[],_,h=>by rw[Iss] at h;rw[toTrs,Reps];exact h
 | xs,t :: ts,c,h=>by
  rw[Iss] at h
  obtain⟨x,r,e,q,z⟩:=h
  rw[cleans,Bool.and_eq_true] at c
  rw[toTrs,Reps]
  exact⟨x,r,e,Is.rep c.1 q,Iss.rep c.2 z⟩
end
mutual
theorem yiG:∀ {tr:Th},ycj tr=true->eqT (yb8 tr) (yb8 tr)=true
 | .im v,c=>by rw[yb8];rw[ycj] at c;exact ys1 c
 | .ls ts,c=>by rw[yb8];rw[ycj] at c;exact eqs_self c
 | .tp ts,c=>by rw[yb8];rw[ycj] at c;exact eqs_self c
 | .dk,c=>by rw[ycj] at c;cases c
theorem eqs_self:∀ {ts:List Th},cleans ts=true->eqTs (toTrs ts) (toTrs ts)=true
 | [],_=>rfl
 | t :: ts,c=>by
  rw[cleans,Bool.and_eq_true] at c
  rw[toTrs]
  show(eqT (yb8 t) (yb8 t)&&eqTs (toTrs ts) (toTrs ts))=true
  rw[yiG c.1,eqs_self c.2]
  rfl
end
noncomputable def dpT (tr:Th):Nat:=dep (yb8 tr)
noncomputable def yon (ts:List Th):Nat:=deps (toTrs ts)
theorem ycb:∀ {ts:List Th},(∀ u∈ts,ycj u=true)->cleans ts=true
 | [],_=>rfl
 | t :: ts,h=>by rw[cleans,h t (by simp),ycb λu hu=>h u (by simp[hu])];rfl
theorem yc2 {k:Nat}:∀ {ts:List Th},(∀ u∈ts,dpT u<=k)->yon ts<=k
 | [],_=>Nat.zero_le _
 | t :: ts,h=>by
  show max (dpT t) (yon ts)<=k
  have a:=h t (by simp)
  have b:=yc2 (ts:=ts) λu hu=>h u (by simp[hu])
  omega
theorem yhK {ts:List Th}{k:Nat}(h:yon ts<=k):dpT (.ls ts)<=k+1:=by show deps (toTrs ts)+1<=k+1;exact Nat.succ_le_succ h
theorem yer {ts:List Th}{k:Nat}(h:yon ts<=k):dpT (.tp ts)<=k+1:=by show deps (toTrs ts)+1<=k+1;exact Nat.succ_le_succ h
theorem ybh {v:V}{k:Nat}:dpT (.im v)<=k:=by show dep (.vl v)<=k;rw[dep];exact Nat.zero_le _
theorem yea {k:Nat}:yon []<=k:=Nat.zero_le _
theorem ya7 {t:Th}{ts:List Th}{k:Nat}(a:dpT t<=k)(b:yon ts<=k):yon (t :: ts)<=k:=by show max (dpT t) (yon ts)<=k;omega
noncomputable def OkE (tr:Th):Prop:=ycj tr=true/\dpT tr<=60
theorem yeI {H:Hp}{x y:V}{tr tr':Th}{Q:VK}(a:OkE tr)(b:OkE tr')(ix:Is H x tr)(iy:Is H y tr')(q:Q (.bl (eqT (yb8 tr) (yb8 tr'))) H):ymE K x y H Q:=⟨_,_,ix.rep a.1,iy.rep b.1,a.2,b.2,q⟩
theorem yiv {H:Hp}{x y:V}{tr tr':Th}{Q:VK}(a:OkE tr)(b:OkE tr')(ix:Is H x tr)(iy:Is H y tr')(q:Q (.bl (!eqT (yb8 tr) (yb8 tr'))) H):ypM K x y H Q:=⟨_,_,ix.rep a.1,iy.rep b.1,a.2,b.2,q⟩
theorem ymK {H:Hp}{x y:V}{tr:Th}{Q:VK}(a:OkE tr)(ix:Is H x tr)(iy:Is H y tr)(q:Q (.bl true) H):ymE K x y H Q:=yeI a a ix iy (by rw[yiG a.1];exact q)
theorem yqk {H:Hp}{x y:V}{tr:Th}{Q:VK}(a:OkE tr)(ix:Is H x tr)(iy:Is H y tr)(q:Q (.bl false) H):ypM K x y H Q:=yiv a a ix iy (by rw[yiG a.1];exact q)
theorem ybP (ns:List Int):toTrs (ns.map nT)=ns.map nTr:=by
 induction ns with
 | nil=>rfl
 | cons n ns ih=>rw[List.map_cons,toTrs,ih];rfl
theorem ydn:∀ ns ms:List Int,eqTs (ns.map nTr) (ms.map nTr)=decide (ns=ms)
 | [],[]=>rfl
 | [],_ :: _=>rfl
 | _ :: _,[]=>rfl
 | n :: ns,m :: ms=>by
  show(eqT (nTr n) (nTr m)&&eqTs (ns.map nTr) (ms.map nTr))=_
  rw[ydn ns ms,show eqT (nTr n) (nTr m)=decide (n=m) by simp[eqT,nTr,eqV];rfl,Bool.eq_iff_iff]
  simp
theorem ycP (ns:List Int):OkE (.tp (ns.map nT)):=⟨ycb λu hu=>by obtain⟨n,_,rfl⟩:=List.mem_map.mp hu;rfl,yer (k:=59) (yc2 λu hu=>by obtain⟨n,_,rfl⟩:=List.mem_map.mp hu;exact ybh)⟩
structure Mt where
 (tp bt:Int)
 gs:List Int
 deriving DecidableEq
noncomputable def mtT (m:Mt):Th:=.tp [nT m.tp,nT m.bt,.tp (m.gs.map nT)]
noncomputable def ymD (m:Mt):Int:=m.tp*(96 / m.bt)
structure yih (m:Mt):Prop where
 t1:1<=m.tp
 t2:m.tp<=12
 b:m.bt=2∨m.bt=4∨m.bt=8
 g:m.tp*(96 / m.bt)<=192
 gs:∀ g∈m.gs,1<=g/\g<=m.tp
 sum:m.gs=[]∨m.gs.sum=m.tp
 len:m.gs.length<=12
theorem Is.mt {H:Hp}{x:V}{m:Mt}(h:Is H x (mtT m)):∃ a b,x=.ref a/\H a=some (.tup [.int m.tp,.int m.bt,.ref b])/\H b=some (.tup (m.gs.map V.int)):=by
 rw[mtT,Is] at h
 obtain⟨a,xs,rfl,e,is⟩:=h
 rw[Iss] at is
 obtain⟨x,r,rfl,i1,is⟩:=is
 rw[Iss] at is
 obtain⟨y,r,rfl,i2,is⟩:=is
 rw[Iss] at is
 obtain⟨z,r,rfl,i3,is⟩:=is
 rw[Iss] at is
 subst is
 rw[nT,Is] at i1 i2
 rw[Is] at i3
 obtain⟨b,ys,rfl,eb,ib⟩:=i3
 rw[i1.1,i2.1] at e
 rw[ib.ints] at eb
 exact⟨a,b,rfl,e,eb⟩
theorem yeU {H:Hp}{b:Addr}{ns:List Int}(e:H b=some (.tup (ns.map V.int))):Is H (.ref b) (.tp (ns.map nT)):=ycR e (ygs H ns)
noncomputable def ykK:Sp:=λvs H Q _=>∃ b:Int,vs=[.int b]/\0 < b/\b<=8/\Q (.int (96 / b)) H
theorem ysm (T:Txt K mg t):FnOk P w K mg base CX0 1 t.f_zA t.d_zA ["bottom"] ykK:=by
 refine T.zA.F.ok yug (λvs H Q E h=>?_) (λ_ _ _ s H vs Q E hr h=>?_)
 ·obtain⟨n,rfl,_⟩:=h;rfl
 obtain⟨b,rfl,hb,hb8,q⟩:=h
 have hu:=ybs hr
 refine⟨_,(yaf (yaj (yaC yc8 (ybW rfl T.Jr) (pv 0)))),?_⟩
 obtain⟨k,hk⟩:=T.Jr
 walk_at ""
 exact i_I ⟨hb,by omega⟩ q
noncomputable def yoh:Sp:=λvs H Q _=>∃ (x:V) (m:Mt),vs=[x]/\Is H x (mtT m)/\yih m/\Q (.int (ymD m)) H
theorem ysQ (T:Txt K mg t)(G_zA:FnOk P w K mg base CX0 1 t.f_zA t.d_zA ["bottom"] ykK):FnOk P w K mg base CX0 2 t.f_zR t.d_zR ["metre"] yoh:=by
 refine T.zR.F.ok ytE (λvs H Q E h=>?_) (λ_ _ _ s H vs Q E hr h=>?_)
 ·obtain⟨x,m,rfl,_⟩:=h;rfl
 obtain⟨x,m,rfl,im,gm,q⟩:=h
 have hu:=ybs hr
 obtain⟨a,b,rfl,ea,eb⟩:=im.mt
 have:=gm.b
 refine⟨_,(yaf (yaj (yaC ycp (yaq yar (pv 0) yad (λ_ _=>rfl)) (pcl G_zA hr T.zA (yaa (yaq yar (pv 0) yad (λ_ _=>rfl)) yab))))),?_⟩
 walk_at ""
 refine yaE (SqT.of ea) (yai (j:=0) rfl) ?_
 walk_at ""
 refine yaE (SqT.of ea) (yai (j:=1) rfl) (yc5 ⟨_,rfl,by omega,by omega,yeo (.inl ⟨by have:=gm.t1;omega,by have:=gm.t2;omega⟩) q⟩)
noncomputable def yjS:Sp:=λvs H Q _=>∃ (b:Addr) (m:Mt),vs=[.ref b,.int m.tp]/\H b=some (.tup (m.gs.map V.int))/\yih m/\∀ H',Same H H'->Q (.bl true) H'
theorem yt4 (T:Txt K mg t)(G_zat:FnOk P w K mg base CX0 2 t.f_zat t.d_zat ["thing","least","most"] ycE):FnOk P w K mg base CX0 3 t.f_zU t.d_zU ["thing","top"] yjS:=by
 refine T.zU.F.ok ys8 (λvs H Q E h=>?_) (λ_ _ _ s H vs Q E hr h=>?_)
 ·obtain⟨b,m,rfl,_⟩:=h;rfl
 obtain⟨b,m,rfl,eb,gm,q⟩:=h
 have hu:=ybs hr
 refine⟨_,(yac (yaK (ybl (yaU (yak yaR rfl T.Ja yam (yaa (pv 0) (yaa (yb5 rfl T.Jp ybS) yab))))) (yaf (yaj ycy)) yav) (yac (yaK (ybl (yaU (yak (ycQ rfl) rfl T.JL ycX (yaa (ya8 (yaH (NB:=["group","top"]) (cap:=[none,some 1]) rfl) rfl (yk2 (pv 0)) (λ_ _ _ _=>(yax (i:=0) (show List.Nodup (["group","top"]:List Str) by decide) rfl (Or.inl rfl))) (λ_ _ _ _=>yaJ) (λ_ _ _ _=>(pcl G_zat hr T.Qj (yaa (pv 0) (yaa yad (yaa (pv 1) yab)))))) yab)))) (yaf (yaj ycy)) yav) (yaf (yaj (ymy (ya4 (yb0 hu) (pv 0) (yaF yab) (yao _)) (ybo (ya4 yci (yak (yl0 rfl) rfl T.Ql ygn (yaa (pv 0) yab)) (pv 1) (yao _)))))))),?_⟩
 walk_at ""
 refine ycu (.tup eb) (ya0 (i_F ?_))
 walk_at ""
 refine⟨b,rfl,⟨_,SqT.of eb⟩,λD hD=>yff (λ_=>V.bl true) eb (yjs m.gs) hD (by have:=gm.len;omega) (λx g H' Q' hg sm rx q'=>?_) λH' sm hd=>?_⟩
 ·subst rx
  walk_at ""
  refine⟨_,_,_,rfl,?_⟩
  rw[show decide (1<=g/\g<=m.tp)=true by simpa using gm.gs g hg]
  exact q' _ (Same.refl _)
 ·refine yc5 (ymg hd (ya0 (i_F ?_)))
  walk_at ""
  refine⟨by decide,λp hp=>?_⟩
  have s2:=sm.trans (yag hp (.tup []))
  refine yeI (ycP m.gs) (ycP []) (yeU (s2 _ _ eb)) (ycR yae (yaO _)) (ya0 ?_)
  have eE:eqT (yb8 (.tp (m.gs.map nT))) (yb8 (.tp (([]:List Int).map nT)))=decide (m.gs=[]):=by
   rw[yb8,yb8,ybP,ybP]
   exact ydn _ _
  rw[eE]
  refine i_d (λ_=>q _ s2) λne=>?_
  walk_at ""
  refine⟨b,m.gs,rfl,SqT.of (s2 _ _ eb),λn hn=>by have:=gm.gs n hn;have:=gm.t2;omega,by have:=gm.len;omega,?_⟩
  walk_at ""
  rw[show decide (m.gs.sum=m.tp)=true by simpa using gm.sum.resolve_left ne]
  exact q _ s2
theorem ygT {a b:Int}{H:Hp}{Q:VK}(q:Q (.bl (!decide (a=b))) H):rNe (.int a) (.int b) H Q:=⟨rfl,by rw[show decide (V.int a=V.int b)=decide (a=b) by rw[Bool.eq_iff_iff];simp];exact q⟩
theorem am {n lo hi:Int}{H:Hp}{Q:VK}{E:XK}(h:lo<=n/\n<=hi)(q:Q (.bl true) H):ycE [.int n,.int lo,.int hi] H Q E:=⟨_,_,_,rfl,by rw[show decide (lo<=n/\n<=hi)=true by simpa using h];exact q⟩
noncomputable def yfb:Sp:=λvs H Q _=>∃ (x:V) (m:Mt),vs=[x]/\Is H x (mtT m)/\yih m/\∀ H',Same H H'->Q (.bl true) H'
theorem yql (T:Txt K mg t)(G_zax:FnOk P w K mg base CX0 1 t.f_zax t.d_zax ["thing"] ygb)(G_zat:FnOk P w K mg base CX0 2 t.f_zat t.d_zat ["thing","least","most"] ycE)(G_zA:FnOk P w K mg base CX0 1 t.f_zA t.d_zA ["bottom"] ykK)
  (G_zU:FnOk P w K mg base CX0 3 t.f_zU t.d_zU ["thing","top"] yjS):FnOk P w K mg base CX0 4 t.f_zaC t.d_zaC ["thing"] yfb:=by
 refine T.QD.F.ok sc_zaC (λvs H Q E h=>?_) (λ_ _ _ s H vs Q E hr h=>?_)
 ·obtain⟨x,m,rfl,_⟩:=h;rfl
 obtain⟨x,m,rfl,im,gm,q⟩:=h
 have hu:=ybs hr
 obtain⟨a,b,rfl,ea,eb⟩:=im.mt
 refine⟨_,(yac (yaK (PW.pt (yb4 (ybl (yaU (yak yaR rfl T.Ja yam (yaa (pv 0) (yaa (yb5 rfl T.Jp ybS) yab))))) (ybA (yan ydL (yak yas rfl T.Jc PySem.boot_len (yaa (pv 0) yab)) yad (yao _))))) (yaf (yaj ycy)) yav) (yac (yap (i:=1) sc_zaC.nd rfl (Or.inl rfl) (yaq yar (pv 0) yad (λ_ _=>rfl))) (yac (yap (i:=2) sc_zaC.nd rfl (Or.inl rfl) (yaq yar (pv 0) yad (λ_ _=>rfl))) (yac (yaK (PW.pt (yb4 (ybl (yaU (pcl G_zat hr T.Qj (yaa (pv 1) (yaa yad (yaa (ybW rfl T.JX) yab)))))) (yb4 (ybl (yaU (pcl G_zax hr T.QH (yaa (pv 2) yab)))) (ybA (yan ydl (pv 2) (ygl rfl T.Qe) rfl))))) (yaf (yaj ycy)) yav) (yaf (yaj (ybq (ya4 ycI (yaC ycp (pv 1) (pcl G_zA hr T.zA (yaa (pv 2) yab))) (ybW rfl T.JE) (yao _)) (ybo (pcl G_zU hr T.zU (yaa (yaq yar (pv 0) yad (λ_ _=>rfl)) (yaa (pv 1) yab))))))))))),?_⟩
 walk_at ""
 refine ycu (.tup ea) (ya0 (i_F ?_))
 walk_at ""
 refine⟨a,_,rfl,.inr (SqT.of ea),i_c (ygT (ya0 (i_F ?_)))⟩
 walk_at ""
 refine yaE (SqT.of ea) (yai (j:=0) rfl) ?_
 walk_at ""
 refine yaE (SqT.of ea) (yai (j:=1) rfl) ?_
 walk_at ""
 refine am ⟨gm.t1,gm.t2⟩ (ya0 (i_F ?_))
 walk_at ""
 refine⟨_,rfl,ya0 (i_F ?_)⟩
 walk_at ""
 refine⟨_,_,rfl,.inr (T.Qf.sq H),rfl,rfl,ya0 ?_⟩
 have inB:inV (.int m.bt) [V.int 2,V.int 4,V.int 8]=true:=by rcases gm.b with e | e | e<;>rw[e]<;>decide
 rw[if_pos rfl,inB]
 refine i_F ?_
 walk_at ""
 have:=gm.b
 refine⟨_,rfl,by omega,by omega,yeo (.inl ⟨by have:=gm.t1;omega,by have:=gm.t2;omega⟩) ?_⟩
 walk_at ""
 rw[show decide (m.tp*(96 / m.bt)<=192)=true by simpa using gm.g]
 refine i_T ?_
 walk_at ""
 refine yaE (SqT.of ea) (yai (j:=2) rfl) ?_
 walk_at ""
 exact⟨b,m,rfl,eb,gm,q⟩
noncomputable def yh9:Sp:=λvs H Q _=>∃ k:Int,vs=[.int k]/\-7<=k/\k<=7/\Q (.bl true) H
theorem ypY (T:Txt K mg t)(G_zat:FnOk P w K mg base CX0 2 t.f_zat t.d_zat ["thing","least","most"] ycE):FnOk P w K mg base CX0 3 t.f_zaK t.d_zaK ["thing"] yh9:=by
 refine T.QE.F.ok yq0 (λvs H Q E h=>?_) (λ_ _ _ s H vs Q E hr h=>?_)
 ·obtain⟨k,rfl,_⟩:=h;rfl
 obtain⟨k,rfl,k0,k7,q⟩:=h
 have hu:=ybs hr
 refine⟨_,(yaf (yaj (pcl G_zat hr T.Qj (yaa (pv 0) (yaa (ydj yca (ybW rfl T.JD)) (yaa (ybW rfl T.JD) yab)))))),?_⟩
 walk_at ""
 refine⟨_,_,_,rfl,?_⟩
 rw[show decide (-7<=k/\k<=7)=true by simpa using ⟨k0,k7⟩]
 exact q
structure Pit where
 (st ln oc:Int)
noncomputable def pT (p:Pit):Th:=.tp [nT p.st,nT p.ln,nT p.oc]
noncomputable def yiM (p:Pit):Int:=7*p.oc+p.st
structure ynj (p:Pit):Prop where
 s0:0<=p.st
 s6:p.st<=6
 l0:-2<=p.ln
 l2:p.ln<=2
 o0:0<=p.oc
 o8:p.oc<=8
theorem Is.pit {H:Hp}{x:V}{p:Pit}(h:Is H x (pT p)):∃ a,x=.ref a/\H a=some (.tup [.int p.st,.int p.ln,.int p.oc]):=by
 rw[pT,Is] at h
 obtain⟨a,xs,rfl,e,is⟩:=h
 have:=Iss.ints (ns:=[p.st,p.ln,p.oc]) is
 rw[this] at e
 exact⟨a,rfl,e⟩
theorem ykO {H:Hp}{a:Addr}{p:Pit}(e:H a=some (.tup [.int p.st,.int p.ln,.int p.oc])):Is H (.ref a) (pT p):=ycR e (ygs H [p.st,p.ln,p.oc])
noncomputable def ylO:Sp:=λvs H Q _=>∃ (x:V) (p:Pit),vs=[x]/\Is H x (pT p)/\ynj p/\Q (.bl true) H
theorem yqT (T:Txt K mg t)(G_zat:FnOk P w K mg base CX0 2 t.f_zat t.d_zat ["thing","least","most"] ycE):FnOk P w K mg base CX0 3 t.f_zaz t.d_zaz ["thing"] ylO:=by
 refine T.QU.F.ok yrO (λvs H Q E h=>?_) (λ_ _ _ s H vs Q E hr h=>?_)
 ·obtain⟨x,m,rfl,_⟩:=h;rfl
 obtain⟨x,p,rfl,ip,gp,q⟩:=h
 have hu:=ybs hr
 obtain⟨a,rfl,ea⟩:=ip.pit
 refine⟨_,(yac (yaK (PW.pt (yb4 (ybl (yaU (yak yaR rfl T.Ja yam (yaa (pv 0) (yaa (yb5 rfl T.Jp ybS) yab))))) (ybA (yan ydL (yak yas rfl T.Jc PySem.boot_len (yaa (pv 0) yab)) yad (yao _))))) (yaf (yaj ycy)) yav) (yaf (yaj (ybq (pcl G_zat hr T.Qj (yaa (yaq yar (pv 0) yad (λ_ _=>rfl)) (yaa yad (yaa yad yab)))) (ybq (pcl G_zat hr T.Qj (yaa (yaq yar (pv 0) yad (λ_ _=>rfl)) (yaa (ydj yca yad) (yaa yad yab)))) (ybo (pcl G_zat hr T.Qj (yaa (yaq yar (pv 0) yad (λ_ _=>rfl)) (yaa yad (yaa yad yab)))))))))),?_⟩
 walk_at ""
 refine ycu (.tup ea) (ya0 (i_F ?_))
 walk_at ""
 refine⟨a,_,rfl,.inr (SqT.of ea),i_c (ygT (ya0 (i_F ?_)))⟩
 walk_at ""
 refine yaE (SqT.of ea) (yai (j:=0) rfl) ?_
 walk_at ""
 refine am ⟨gp.s0,gp.s6⟩ (ya0 (i_T ?_))
 walk_at ""
 refine yaE (SqT.of ea) (yai (j:=1) rfl) ?_
 walk_at ""
 refine am ⟨gp.l0,gp.l2⟩ (ya0 (i_T ?_))
 walk_at ""
 refine yaE (SqT.of ea) (yai (j:=2) rfl) ?_
 walk_at ""
 exact am ⟨gp.o0,gp.o8⟩ q
noncomputable def yoG:Sp:=λvs H Q _=>∃ (x:V) (p:Pit),vs=[x]/\Is H x (pT p)/\Q (.int (yiM p)) H
theorem yqE (T:Txt K mg t):FnOk P w K mg base CX0 1 t.f_zaQ t.d_zaQ ["pitch"] yoG:=by
 refine T.QV.F.ok yqH (λvs H Q E h=>?_) (λ_ _ _ s H vs Q E hr h=>?_)
 ·obtain⟨x,m,rfl,_⟩:=h;rfl
 obtain⟨x,p,rfl,ip,q⟩:=h
 have hu:=ybs hr
 obtain⟨a,rfl,ea⟩:=ip.pit
 refine⟨_,(yaf (yaj (yaC yby (yaC ycp yad (yaq yar (pv 0) yad (λ_ _=>rfl))) (yaq yar (pv 0) yad (λ_ _=>rfl))))),?_⟩
 walk_at ""
 refine yaE (SqT.of ea) (yai (j:=2) rfl) ?_
 walk_at ""
 exact yaE (SqT.of ea) (yai (j:=0) rfl) (ysd q)
noncomputable def signsV:Str := "abcdefghijklmnopqrstuvwxyzABCDEFGHIJKLMNOPQRSTUVWXYZ-"
noncomputable def inW (c:Nat):Bool:=!(Builtin.Str.occurrences signsV ⟨#[c]⟩ 0 signsV.length 1).isEmpty
noncomputable def yeu (z:Str):Prop:=z.cps.size<=12/\∀ c∈z.cps.toList,inW c=true
noncomputable def ynV:Sp:=λvs H Q _=>∃ z:Str,vs=[.str z,.str signsV]/\yeu z/\∀ H',Same H H'->Q (.bl true) H'
theorem yqF (T:Txt K mg t):FnOk P w K mg base CX0 1 t.f_zav t.d_zav ["text","signs"] ynV:=by
 refine T.QI.F.ok yow (λvs H Q E h=>?_) (λ_ _ _ s H vs Q E hr h=>?_)
 ·obtain⟨z,rfl,_⟩:=h;rfl
 obtain⟨z,rfl,gz,q⟩:=h
 have hu:=ybs hr
 refine⟨_,(yaf (yaj (yak (ycQ rfl) rfl T.JL ycX (yaa (ya8 (yaH (NB:=["sign","signs"]) (cap:=[none,some 1]) rfl) rfl (yob (pv 0)) (λ_ _ _ _=>(yax (i:=0) (show List.Nodup (["sign","signs"]:List Str) by decide) rfl (Or.inl rfl))) (λ_ _ _ _=>yaJ) (λ_ _ _ _=>(ya4 ygZ (pv 0) (pv 1) rfl))) yab)))),?_⟩
 walk_at ""
 refine⟨_,rfl,z,rfl,λD hD=>yiS (λi σ' H'=>(∃ o,σ'=[o,some (.str signsV)])/\Same H H'/\H' D=some (.lst ((List.replicate i true).map V.bl))) ⟨⟨_,rfl⟩,yag hD _,yae⟩ ?_ ?_⟩
 ·rintro i c σ' H' hc ⟨⟨o,rfl⟩,sm,hd⟩
  refine ybj (ydk (i_T ?_))
  walk_at ""
  have lt:=(List.getElem?_eq_some_iff.mp hc).1
  refine⟨_,_,rfl,rfl,?_⟩
  rw[show(!(Builtin.Str.occurrences signsV ⟨#[c]⟩ 0 signsV.length 1).isEmpty)=true from gz.2 c (List.mem_of_getElem? hc)]
  refine⟨_,hd,?_,⟨_,rfl⟩,yaS hD sm,?_⟩
  ·rw[List.length_map,List.length_replicate]
   have:=gz.1
   rw[Array.length_toList] at lt
   exact yaz (by omega)
  ·rw[yae,List.map_replicate,← List.replicate_succ',List.map_replicate]
 ·rintro σ' H' ⟨_,sm,hd⟩
  exact yc5 (ynI hd (q _ sm))
noncomputable def ypI:Sp:=λvs H Q _=>∃ z:Str,vs=[.str z]/\yeu z/\z.cps.size≠0/\∀ H',Same H H'->Q (.bl true) H'
theorem yti (T:Txt K mg t)(G_zav:FnOk P w K mg base CX0 1 t.f_zav t.d_zav ["text","signs"] ynV):FnOk P w K mg base CX0 2 t.f_zy t.d_zy ["thing"] ypI:=by
 refine T.zy.F.ok ytB (λvs H Q E h=>?_) (λ_ _ _ s H vs Q E hr h=>?_)
 ·obtain⟨z,rfl,_⟩:=h;rfl
 obtain⟨z,rfl,gz,nz,q⟩:=h
 have hu:=ybs hr
 refine⟨_,(yac (yaK (ybl (yaU (yak yaR rfl T.Ja yam (yaa (pv 0) (yaa (yb5 rfl T.Jg yaX) yab))))) (yaf (yaj ycy)) yav) (yaf (yaj (ybq (yey ycI ycI yad (yak ydb rfl T.Jc PySem.boot_len (yaa (pv 0) yab)) (ybW rfl T.Jv)) (ybo (pcl G_zav hr T.QI (yaa (pv 0) (yaa (ylb rfl T.JG) yab)))))))),?_⟩
 walk_at ""
 refine ycu (.str z) (ya0 (i_F ?_))
 walk_at ""
 have:=gz.1
 have zl:z.length=z.cps.size:=rfl
 refine ye2 (a:=1) (b:=z.length) (c:=12) (λ_ q=>q) (λQ' q'=>⟨_,rfl,z,rfl,Nat.le_trans (by omega:z.length<=1000) (by decide),q'⟩) (λ_ q=>q) (ya0 ?_)
 rw[show decide ((1:Int)<=z.length/\(z.length:Int)<=12)=true by rw[decide_eq_true_eq];omega]
 refine i_T ?_
 walk_at ""
 exact⟨z,rfl,gz,q⟩
noncomputable def yoC:Sp:=λvs H Q _=>∃ z:Str,vs=[.str z]/\yeu z/\∀ H',Same H H'->Q (.bl true) H'
theorem yrA (T:Txt K mg t)(G_zy:FnOk P w K mg base CX0 2 t.f_zy t.d_zy ["thing"] ypI):FnOk P w K mg base CX0 3 t.f_zaG t.d_zaG ["thing"] yoC:=by
 refine T.QZ.F.ok yrg (λvs H Q E h=>?_) (λ_ _ _ s H vs Q E hr h=>?_)
 ·obtain⟨z,rfl,_⟩:=h;rfl
 obtain⟨z,rfl,gz,q⟩:=h
 have hu:=ybs hr
 refine⟨_,(yaf (yaj (ybq (yak yaR rfl T.Ja yam (yaa (pv 0) (yaa (yb5 rfl T.Jg yaX) yab))) (ybo (ymy (ya4 yci (pv 0) yat (yao _)) (ybo (pcl G_zy hr T.zy (yaa (pv 0) yab)))))))),?_⟩
 walk_at ""
 refine ycu (.str z) (ya0 (i_T ?_))
 walk_at ""
 refine⟨rfl,ya0 (i_d (λ_=>q _ (Same.refl _)) λne=>?_)⟩
 walk_at ""
 refine⟨z,rfl,gz,λe=>ne ?_,q⟩
 have:z.cps=#[]:=Array.eq_empty_of_size_eq_zero e
 cases z
 cases this
 rfl
noncomputable def ydY:Sp:=λvs H Q _=>∃ z:Str,vs=[.bl true,.str z]/\Q .non H
theorem yqd (T:Txt K mg t):FnOk P w K mg base CX0 1 t.f_zaN t.d_zaN ["is_so","why"] ydY:=by
 refine T.JZ.F.ok yrm (λvs H Q E h=>?_) (λ_ _ _ s H vs Q E hr h=>?_)
 ·obtain⟨z,rfl,_⟩:=h;rfl
 obtain⟨z,rfl,q⟩:=h
 have hu:=ybs hr
 refine⟨_,(yaf (yaK (ybl (yaU (pv 0))) (yaf ycT) yav)),?_⟩
 walk_at ""
 refine i_F (ybn q)
noncomputable def sT (z:Str):Th:=.im (.str z)
noncomputable def bT (b:Bool):Th:=.im (.bl b)
noncomputable def lT (ps:List Pit):Th:=.ls (ps.map pT)
inductive Sn where
 | rest (n:Int)
 | tones (ps:List Pit) (n:Int) (wd:Str) (op cl:Bool)
noncomputable def snT:Sn->Th
 | .rest n=>.tp [sT "rest",nT n]
 | .tones ps n wd op cl=>.tp [sT "tones",lT ps,nT n,sT wd,bT op,bT cl]
noncomputable def yoD (ps:List Pit):Prop:=∀ i (h:i+1 < ps.length),yiM ps[i] < yiM ps[i+1]
noncomputable def yi4 (ps:List Pit):Prop:=1<=ps.length/\ps.length<=4/\(∀ p∈ps,ynj p)/\yoD ps
noncomputable def yfm:Sn->Prop
 | .rest n=>2<=n/\n<=4608
 | .tones ps n wd _ _=>yi4 ps/\2<=n/\n<=384/\yeu wd
noncomputable def ylw:Sp:=λvs H Q _=>∃ (x:V) (ps:List Pit),vs=[x]/\Is H x (lT ps)/\yi4 ps/\∀ H',Same H H'->Q (.bl true) H'
theorem yq2 (T:Txt K mg t)(G_zaz:FnOk P w K mg base CX0 3 t.f_zaz t.d_zaz ["thing"] ylO)(G_zaQ:FnOk P w K mg base CX0 1 t.f_zaQ t.d_zaQ ["pitch"] yoG)(G_zaF:FnOk P w K mg base CX0 1 t.f_zaF t.d_zaF ["numbers"] ykG):FnOk P w K mg base CX0 4 t.f_zae t.d_zae ["thing"] ylw:=by
 refine T.QY.F.ok yqC (λvs H Q E h=>?_) (λ_ _ _ s H vs Q E hr h=>?_)
 ·obtain⟨x,ps,rfl,_⟩:=h;rfl
 obtain⟨x,ps,rfl,ip,gp,q⟩:=h
 have hu:=ybs hr
 rw[lT,Is] at ip
 obtain⟨a,xs,rfl,ea,ip⟩:=ip
 have al:=ybE ip
 refine⟨_,(yac (yaK (PW.pt (yb4 (ybl (yaU (yak yaR rfl T.Ja yam (yaa (pv 0) (yaa (yb5 rfl T.Jq ybJ) yab))))) (ybA (ybl (yjI ycI ycI yad (yak yas rfl T.Jc PySem.boot_len (yaa (pv 0) yab)) (ybW rfl T.JN)))))) (yaf (yaj ycy)) yav) (yaf (yaj (ybq (yak (ycQ rfl) rfl T.JL ycX (yaa (ya8 (yaH (NB:=["pitch"]) (cap:=[none]) rfl) rfl (yaY (pv 0)) (λ_ _ _ _=>(yax (i:=0) (show List.Nodup (["pitch"]:List Str) by decide) rfl (Or.inl rfl))) (λ_ _ _ _=>yaJ) (λ_ _ _ _=>(pcl G_zaz hr T.QU (yaa (pv 0) yab)))) yab)) (ybo (pcl G_zaF hr T.QO (yaa (ya8 (yaH (NB:=["pitch"]) (cap:=[none]) rfl) rfl (yaY (pv 0)) (λ_ _ _ _=>(yax (i:=0) (show List.Nodup (["pitch"]:List Str) by decide) rfl (Or.inl rfl))) (λ_ _ _ _=>yaJ) (λ_ _ _ _=>(pcl G_zaQ hr T.QV (yaa (pv 0) yab)))) yab))))))),?_⟩
 walk_at ""
 refine ycu (.lst ea) (ya0 (i_F ?_))
 walk_at ""
 have l:=al.1
 refine ye2 (a:=1) (b:=xs.length) (c:=4) (λ_ q=>q) (λQ' q'=>⟨_,rfl,a,xs,rfl,.inl (SqL.of ea),q'⟩) (λ_ q=>q) (ya0 ?_)
 rw[show decide ((1:Int)<=xs.length/\(xs.length:Int)<=4)=true by rw[decide_eq_true_eq];have:=gp.1;have:=gp.2.1;omega]
 refine i_F ?_
 walk_at ""
 refine⟨a,rfl,⟨_,SqL.of ea⟩,λD hD=>ybD (λ_=>V.bl true) ea al hD (by have:=gp.2.1;omega) (λx p H' Q' hp sm rx q'=>?_) λH' sm hd=>yc5 (ymg hd (ya0 (i_T ?_)))⟩
 ·walk_at ""
  exact⟨x,p,rfl,rx.same sm,gp.2.2.1 p hp,q' _ (Same.refl _)⟩
 ·walk_at ""
  refine⟨a,rfl,⟨_,SqL.of (sm _ _ ea)⟩,λD2 hD2=>ybD (λp=>V.int (yiM p)) (sm _ _ ea) al hD2 (by have:=gp.2.1;omega) (λx p H2 Q' hp sm2 rx q'=>?_) λH2 sm2 hd2=>yc5 ?_⟩
  ·walk_at ""
   exact⟨x,p,rfl,rx.same (sm.trans sm2),q' _ (Same.refl _)⟩
  ·refine⟨D2,ps.map yiM,rfl,by rw[List.map_map];exact hd2,by rw[List.length_map];have:=gp.2.1;omega,λi h=>?_,λH3 s3=>q _ ((sm.trans sm2).trans s3)⟩
   rw[List.length_map] at h
   simpa using gp.2.2.2 i h
theorem ygo {H:Hp}{a:Addr}{o o':HO}:upd (upd H a o) a o'=upd H a o':=by
 funext b
 by_cases e:b=a
 ·rw[e,yae,yae]
 ·rw[yaB e,yaB e,yaB e]
noncomputable def yew (t:Ad):Sp:=λvs H Q _=>∃ (C a dx:Addr) (n:Int),vs=[.ref a,.int n]/\(C=t.RD∨C=t.RE)/\H a=some (.ins C dx [])/\Q .non (upd H a (.ins C dx [("length",.int n)]))
theorem yue (T:Txt K mg t):FnOk P w K mg base CX0 1 t.f_zh t.d_zh ["self","length"] (yew t):=by
 refine T.zh.F.ok ysZ (λvs H Q E h=>?_) (λ_ _ _ s H vs Q E hr h=>?_)
 ·obtain⟨_,_,_,_,rfl,_⟩:=h;rfl
 have hu:=ybs hr
 obtain⟨C,a,dx,z,rfl,hC,ea,q⟩:=h
 refine⟨_,(yaf (yd1 (pv 0) (pv 1) rfl)),?_⟩
 walk_at ""
 rcases hC with rfl | rfl
 ·exact⟨a,_,dx,_,rfl,ea,T.JB,T.Jj,by decide,q⟩
 ·exact⟨a,_,dx,_,rfl,ea,T.Jd,T.Jm,by decide,q⟩
theorem ypJ {H:Hp}{x:V}{c:Addr}{ty:Value}{b:Bool}{Q:VK}(h:ygD K H x ty)(k:PySem.W.kitOne K ty (.ref c)=some b)(q:Q (.bl b) H):ypP K [x,.ref c] H Q:=⟨x,c,ty,b,rfl,h,k,q⟩
noncomputable abbrev made (H:Hp)(C a dx:Addr):Hp:=upd (upd H dx (.own a)) a (.ins C dx [])
theorem ydd {H:Hp}{C a dx:Addr}(ha:H a=none)(hd:H dx=none)(ne:dx≠a):Same H (made H C a dx):=λb u e=>by
 unfold made
 rw[yaB (yaL e ha),yaB (yaL e hd)]
 exact e
theorem ykB {H:Hp}{C a dx b:Addr}(h:made H C a dx b=none):b≠a/\H b=none:=by
 unfold made at h
 by_cases e:b=a
 ·rw[e,yae] at h;cases h
 ·rw[yaB e] at h
  by_cases e2:b=dx
  ·rw[e2,yae] at h;cases h
  ·rw[yaB e2] at h;exact⟨e,h⟩
theorem yoH {H:Hp}{C a dx:Addr}{o:HO}(ha:H a=none)(hd:H dx=none)(ne:dx≠a):Same H (upd (made H C a dx) a o)/\∀ Hs,nw Hs H (upd (made H C a dx) a o) a=some o :=
 ⟨λb u e=>by rw[yaB (yaL e ha)];exact ydd ha hd ne b u e,λHs=>by rw[yaI ha];exact yae⟩
theorem Is.tones {H:Hp}{x:V}{ps:List Pit}{n:Int}{wd:Str}{op cl:Bool}(h:Is H x (snT (.tones ps n wd op cl))):∃ a y,x=.ref a/\H a=some (.tup [.str "tones",y,.int n,.str wd,.bl op,.bl cl])/\Is H y (lT ps):=by
 unfold snT at h
 rw[Is] at h
 obtain⟨a,ys,rfl,e,is⟩:=h
 rw[Iss] at is
 obtain⟨y0,r0,rfl,i0,is⟩:=is
 rw[Iss] at is
 obtain⟨y1,r1,rfl,i1,is⟩:=is
 rw[Iss] at is
 obtain⟨y2,r2,rfl,i2,is⟩:=is
 rw[Iss] at is
 obtain⟨y3,r3,rfl,i3,is⟩:=is
 rw[Iss] at is
 obtain⟨y4,r4,rfl,i4,is⟩:=is
 rw[Iss] at is
 obtain⟨y5,r5,rfl,i5,is⟩:=is
 rw[Iss] at is
 rw[sT,Is] at i0 i3
 rw[nT,Is] at i2
 rw[bT,Is] at i4 i5
 rw[is,i0.1,i2.1,i3.1,i4.1,i5.1] at e
 exact⟨a,y1,rfl,e,i1⟩
theorem Is.rest {H:Hp}{x:V}{n:Int}(h:Is H x (snT (.rest n))):∃ a,x=.ref a/\H a=some (.tup [.str "rest",.int n]):=by
 unfold snT at h
 rw[Is] at h
 obtain⟨a,ys,rfl,e,is⟩:=h
 rw[Iss] at is
 obtain⟨y0,r0,rfl,i0,is⟩:=is
 rw[Iss] at is
 obtain⟨y1,r1,rfl,i1,is⟩:=is
 rw[Iss] at is
 rw[sT,Is] at i0
 rw[nT,Is] at i1
 rw[is,i0.1,i1.1] at e
 exact⟨a,rfl,e⟩
theorem yj0 {H:Hp}{a:Addr}{y:V}{ps:List Pit}{n:Int}{wd:Str}{op cl:Bool}(e:H a=some (.tup [.str "tones",y,.int n,.str wd,.bl op,.bl cl]))(i:Is H y (lT ps)):Is H (.ref a) (snT (.tones ps n wd op cl)) :=
 ycR e (yau (ybC rfl) (yau i (yau (yej _ _) (yau (ybC rfl) (yau (ybC rfl) (yau (ybC rfl) (yaO _)))))))
theorem ymn {H:Hp}{a:Addr}{n:Int}(e:H a=some (.tup [.str "rest",.int n])):Is H (.ref a) (snT (.rest n)):=ycR e (yau (ybC rfl) (yau (yej _ _) (yaO _)))
noncomputable def tFs (l:Addr)(n:Int)(wd:Str)(op cl:Bool):List (Str×V):=[("length",.int n),("pitches",.ref l),("word",.str wd),("opens",.bl op),("closes",.bl cl)]
noncomputable def So (t:Ad)(H:Hp)(x:V):Sn->Prop
 | .rest n=>∃ a dx,x=.ref a/\H a=some (.ins t.RD dx [("length",.int n)])
 | .tones ps n wd op cl=>∃ a dx l,x=.ref a/\H a=some (.ins t.RE dx (tFs l n wd op cl))/\Is H (.ref l) (lT ps)
theorem So.same {H H':Hp}{x:V}{sn:Sn}(s:Same H H')(h:So t H x sn):So t H' x sn:=by
 cases sn with
 | rest n=>obtain⟨a,dx,e,ea⟩:=h;exact⟨a,dx,e,s _ _ ea⟩
 | tones ps n wd op cl=>obtain⟨a,dx,l,e,ea,i⟩:=h;exact⟨a,dx,l,e,s _ _ ea,i.same s⟩
noncomputable def yi6 (t:Ad):Sp:=λvs H Q _=>∃ (a dx l:Addr) (xs:List V) (n:Int) (wd:Str) (op cl:Bool),vs=[.ref a,.ref l,.int n,.str wd,.bl op,.bl cl]/\H a=some (.ins t.RE dx [])/\H l=some (.lst xs)/\l≠a /\
 ∀ l',H l'=none->Q .non (upd (upd H l' (.lst xs)) a (.ins t.RE dx (tFs l' n wd op cl)))
theorem ysT (T:Txt K mg t)(G_zh:FnOk P w K mg base CX0 1 t.f_zh t.d_zh ["self","length"] (yew t)):FnOk P w K mg base CX0 2 t.f_zg t.d_zg ["self","pitches","length","word","opens","closes"] (yi6 t):=by
 refine T.zg.F.ok yt1 (λvs H Q E h=>?_) (λ_ _ _ s H vs Q E hr h=>?_)
 ·obtain⟨_,_,_,_,_,_,_,_,rfl,_⟩:=h;rfl
 have hu:=ybs hr
 obtain⟨a,dx,l,xs,n,wd,op,cl,rfl,ea,el,nl,q⟩:=h
 refine⟨_,(yac (yaG (ynw (ycV (v:=.ref t.RC) rfl T.Qn rfl) T.QN G_zh (hr.mono (by first | decide | omega)) T.zh.B ycx (yaa (pv 0) (yaa (pv 2) yab)))) (yac (yd1 (pv 0) (yaT ybR rfl T.Jq ybJ (yaa (pv 1) yab)) rfl) (yac (yd1 (pv 0) (pv 3) rfl) (yac (yd1 (pv 0) (pv 4) rfl) (yaf (yd1 (pv 0) (pv 5) rfl)))))),?_⟩
 walk_at ""
 refine⟨t.RE,a,dx,n,rfl,.inr rfl,ea,?_⟩
 walk_at ""
 refine⟨l,xs,rfl,.inl (SqL.of (by rw[yaB nl];exact el)),λl' hl'=>?_⟩
 have n1:l'≠a:=λz=>by rw[z,yae] at hl';cases hl'
 rw[yaB n1] at hl'
 have fin:=q l' hl'
 have sw:upd (upd H a (.ins t.RE dx [("length",.int n)])) l' (.lst xs)=upd (upd H l' (.lst xs)) a (.ins t.RE dx [("length",.int n)]):=by
  funext b
  by_cases e:b=a
  ·rw[e,yaB n1.symm,yae,yae]
  ·by_cases e2:b=l'
   ·rw[e2,yae,yaB n1,yae]
   ·rw[yaB e2,yaB e,yaB e,yaB e2]
 rw[sw]
 generalize upd H l' (.lst xs)=H1 at fin ⊢
 refine ydf rfl ⟨a,_,dx,_,rfl,yae,T.Jd,T.Ju,by show 1 < 1000;decide,?_⟩
 walk_at ""
 refine⟨a,_,dx,_,rfl,yae,T.Jd,T.JF,by show 2 < 1000;decide,?_⟩
 walk_at ""
 refine⟨a,_,dx,_,rfl,yae,T.Jd,T.Jk,by show 3 < 1000;decide,?_⟩
 walk_at ""
 refine⟨a,_,dx,_,rfl,yae,T.Jd,T.Jn,by show 4 < 1000;decide,?_⟩
 show Q .non _
 rw[ygo,ygo,ygo,ygo]
 exact fin
noncomputable def tpo (H:Hp):Hp:=λb=>match H b with
 | some (.tup xs)=>some (.tup xs)
 | _=>none
theorem ynh {H:Hp}{b:Addr}{u:HO}(h:tpo H b=some u):H b=some u/\∃ xs,u=.tup xs:=by
 unfold tpo at h
 cases e:H b with
 | none=>rw[e] at h;cases h
 | some v =>
  rw[e] at h
  cases v<;>first | (cases h;exact⟨rfl,_,rfl⟩) | cases h
theorem yr4 {H:Hp}{b:Addr}{xs:List V}(h:H b=some (.tup xs)):tpo H b=some (.tup xs):=by unfold tpo;rw[h]
theorem yjo (H:Hp):Same (tpo H) H:=λb u h=>(ynh h).1
theorem ynf {H:Hp}{xs:List V}{ps:List Pit}(h:Iss H xs (ps.map pT)):Iss (tpo H) xs (ps.map pT):=yc1 ((ybE h).imp λy p _ iy=>by
 obtain⟨a,rfl,ea⟩:=iy.pit
 exact ykO (yr4 ea))
inductive TK2 where
 | r | t
noncomputable def tC2 (t:Ad):TK2->Addr
 | .r=>t.RD
 | .t=>t.RE
noncomputable def tF2 (t:Ad):TK2->Addr
 | .r=>t.f_zan
 | .t=>t.f_zS
noncomputable def tD2 (t:Ad):TK2->FuncData
 | .r=>t.d_zan
 | .t=>t.d_zS
theorem ypj (T:Txt K mg t):∀ i,Cls K (tC2 t i)
 | .r=>T.JB
 | .t=>T.Jd
theorem yo2 (T:Txt K mg t):∀ i,yjz K (tC2 t i) "told" (tF2 t i)
 | .r=>T.QC
 | .t=>T.QK
theorem ypc (T:Txt K mg t):∀ i,Binds K (tD2 t i) ["self"] []
 | .r=>T.QW.B
 | .t=>T.zS.B
noncomputable def yu2:Sn->TK2
 | .rest _=>.r
 | .tones ..=>.t
noncomputable def ygR (t:Ad)(i:TK2):Sp:=λvs H Q _=>∃ x sn Hs,vs=[x]/\yu2 sn=i/\Same Hs H/\So t Hs x sn/\∀ y H',Same H H'->Is (nw (tpo Hs) H H') y (snT sn)->Q y H'
theorem ytj (T:Txt K mg t):FnOk P w K mg base CX0 1 t.f_zan t.d_zan ["self"] (ygR t .r):=by
 refine T.QW.F.ok yqG (λvs H Q E h=>?_) (λ_ _ _ s H vs Q E hr h=>?_)
 ·obtain⟨_,_,_,rfl,_⟩:=h;rfl
 have hu:=ybs hr
 obtain⟨x,sn,Hs,rfl,hk,sH,h,q⟩:=h
 cases sn with
 | tones=>cases hk
 | rest n =>
  obtain⟨a,dx,rfl,ea⟩:=h
  refine⟨_,(yaf (yaj (yaF (yaa yat (yaa (ybx (pv 0) rfl) yab))))),?_⟩
  walk_at ""
  refine⟨a,_,dx,_,_,rfl,sH _ _ ea,T.JB,T.Jj,rfl,?_⟩
  walk_at ""
  refine⟨by show 2<=sizeLine;decide,λp hp=>q _ _ (yag hp _) (ycR (by rw[yaI hp];exact yae) (yau (ybC rfl) (yau (yej _ _) (yaO _))))⟩
theorem ysO (T:Txt K mg t):FnOk P w K mg base CX0 1 t.f_zS t.d_zS ["self"] (ygR t .t):=by
 refine T.zS.F.ok yss (λvs H Q E h=>?_) (λ_ _ _ s H vs Q E hr h=>?_)
 ·obtain⟨_,_,_,rfl,_⟩:=h;rfl
 have hu:=ybs hr
 obtain⟨x,sn,Hs,rfl,hk,sH,h,q⟩:=h
 cases sn with
 | rest=>cases hk
 | tones ps n wd op cl =>
  obtain⟨a,dx,l,rfl,ea,i⟩:=h
  obtain⟨l2,xs,e,el,il⟩:∃ l2 xs,V.ref l=.ref l2/\Hs l2=some (.lst xs)/\Iss Hs xs (ps.map pT):=by rw[lT,Is] at i;exact i
  cases e
  have ea':=sH _ _ ea
  refine⟨_,(yaf (yaj (yaF (yaa yat (yaa (yaT ybR rfl T.Jq ybJ (yaa (ybx (pv 0) rfl) yab)) (yaa (ybx (pv 0) rfl) (yaa (ybx (pv 0) rfl) (yaa (ybx (pv 0) rfl) (yaa (ybx (pv 0) rfl) yab))))))))),?_⟩
  walk_at ""
  refine⟨a,_,dx,_,_,rfl,ea',T.Jd,T.Ju,rfl,?_⟩
  walk_at ""
  refine⟨l,xs,rfl,.inl (SqL.of (sH _ _ el)),λl' hl'=>?_⟩
  have s2:=yag hl' (.lst xs)
  have ea2:=s2 _ _ ea'
  show yqX _ _ _ _ _ _
  walk_at ""
  refine⟨a,_,dx,_,_,rfl,ea2,T.Jd,T.Jm,rfl,?_⟩
  walk_at ""
  refine⟨a,_,dx,_,_,rfl,ea2,T.Jd,T.JF,rfl,?_⟩
  walk_at ""
  refine⟨a,_,dx,_,_,rfl,ea2,T.Jd,T.Jk,rfl,?_⟩
  walk_at ""
  refine⟨a,_,dx,_,_,rfl,ea2,T.Jd,T.Jn,rfl,?_⟩
  walk_at ""
  refine⟨by show 6<=sizeLine;decide,λp hp=>?_⟩
  have s3:=s2.trans (yag hp (.tup [.str "tones",.ref l',.int n,.str wd,.bl op,.bl cl]))
  refine q _ _ s3 (ycR (by rw[yaI (s2.free hp)];exact yae) (yau (ybC rfl) (yau (ybU (xs:=xs) ?_ ((ynf il).same (yee ((yjo Hs).trans sH)))) (yau (yej _ _) (yau (ybC rfl) (yau (ybC rfl) (yau (ybC rfl) (yaO _))))))))
  rw[yaI hl']
  exact yag hp _ _ _ yae
theorem yqe (T:Txt K mg t):∀ i,FnOk P w K mg base CX0 1 (tF2 t i) (tD2 t i) ["self"] (ygR t i)
 | .r=>ytj T
 | .t=>ysO T
theorem yp7 {H Hs:Hp}{x:V}{sn:Sn}{Q:VK}{E:XK}(sH:Same Hs H)(h:So t Hs x sn)(q:∀ y H',Same H H'->Is (nw (tpo Hs) H H') y (snT sn)->Q y H'):∃ (i:TK2) (a dx:Addr) (fs:List (Str×V)),x=.ref a/\H a=some (.ins (tC2 t i) dx fs)/\fs.lookup (Str.ofString "told")=none/\ygR t i [x] H Q E:=by
 cases sn with
 | rest n =>
  obtain⟨a,dx,rfl,ea⟩:=id h
  exact⟨.r,a,dx,_,rfl,sH _ _ ea,rfl,_,_,Hs,rfl,rfl,sH,h,q⟩
 | tones ps n wd op cl =>
  obtain⟨a,dx,l,rfl,ea,i⟩:=id h
  exact⟨.t,a,dx,_,rfl,sH _ _ ea,rfl,_,_,Hs,rfl,rfl,sH,h,q⟩
noncomputable def isR:Sn->Bool
 | .rest _=>true
 | _=>false
noncomputable def ycG (sns:List Sn):Bool:=match sns.getLast? with
 | some sn=>isR sn
 | none=>false
theorem So.isa (T:Txt K mg t){H:Hp}{x:V}{sn:Sn}(h:So t H x sn):∃ C,ygD K H x C/\PySem.W.kitOne K C (.ref t.RD)=some (isR sn):=by
 cases sn with
 | rest n=>obtain⟨a,dx,rfl,ea⟩:=h;exact⟨_,T.Qm.ty T.JB ea,T.JV⟩
 | tones ps n wd op cl=>obtain⟨a,dx,l,rfl,ea,i⟩:=h;exact⟨_,T.Qb.ty T.Jd ea,T.JU⟩
theorem yde {α:Type}{S:V->α->Prop}{xs:List V}{us:List α}{u:α}(h:Al S xs us)(e:us.getLast?=some u):∃ ys x,xs=ys++[x]/\S x u/\∃ vs,us=vs++[u]/\Al S ys vs:=by
 obtain⟨vs,rfl⟩:=List.getLast?_eq_some_iff.mp e
 have l:=h.1
 rw[List.length_append,List.length_singleton] at l
 obtain⟨x,e1,s1⟩:=h.2 vs.length (by rw[List.length_append,List.length_singleton];omega)
 have ex:xs=xs.take vs.length++[x]:=by
  have:=List.take_append_drop vs.length xs
  rw[List.drop_eq_getElem_cons (by omega),List.drop_eq_nil_of_le (by omega)] at this
  rw[List.getElem?_eq_getElem (by omega)] at e1
  rw[← Option.some.inj e1]
  exact this.symm
 refine⟨xs.take vs.length,x,ex,by simpa using s1,vs,rfl,by rw[List.length_take];omega,λi hi=>?_⟩
 obtain⟨y,e2,s2⟩:=h.2 i (by rw[List.length_append,List.length_singleton];omega)
 exact⟨y,by rw[List.getElem?_take_of_lt hi];exact e2,by rw[List.getElem_append_left hi] at s2;exact s2⟩
noncomputable def you (t:Ad):Sp:=λvs H Q _=>∃ (l:Addr) (xs:List V) (sns:List Sn),vs=[.ref l]/\H l=some (.lst xs)/\Al (So t H) xs sns/\∀ H',Same H H'->Q (.bl (ycG sns)) H'
theorem ysu (T:Txt K mg t):FnOk P w K mg base CX0 1 t.f_zr t.d_zr ["sounds"] (you t):=by
 refine T.zr.F.ok ytF (λvs H Q E h=>?_) (λ_ _ _ s H vs Q E hr h=>?_)
 ·obtain⟨_,_,_,rfl,_⟩:=h;rfl
 have hu:=ybs hr
 obtain⟨l,xs,sns,rfl,el,al,q⟩:=h
 refine⟨_,(yaf (yaj (ybq (ya4 (yd3 hu) (pv 0) (yaV yab) (yao _)) (ybo (yak (show ycC _ _ (ypP K) from ygE) rfl T.Ja yam (yaa (yaq yaD (pv 0) (ydj yca yad) (λ_ _=>rfl)) (yaa (ycV (v:=.ref t.RD) rfl T.JS rfl) yab))))))),?_⟩
 walk_at ""
 refine⟨Nat.zero_le _,λp hp=>?_⟩
 have s2:=yag hp (.lst [])
 have el2:=s2 _ _ el
 refine⟨l,p,xs,rfl,rfl,SqL.of el2,SqL.of yae,ya0 ?_⟩
 cases e:sns.getLast? with
 | none =>
  have hs:sns=[]:=List.getLast?_eq_none_iff.mp e
  have hx:xs=[]:=by have:=al.1;rw[hs] at this;exact List.eq_nil_of_length_eq_zero this
  rw[hx]
  refine i_F ?_
  have:=q _ s2
  unfold ycG at this
  rw[e] at this
  exact this
 | some sn =>
  obtain⟨ys,x,ex,sx,vs,_,_⟩:=yde al e
  have ne:(!xs.isEmpty)=true:=by rw[ex];cases ys<;>rfl
  rw[ne]
  refine i_T ?_
  walk_at ""
  rw[ex] at el2
  refine ybf (SqL.of el2) (ybY ys x) ?_
  walk_at ""
  obtain⟨C,ty,k⟩:=(sx.same s2).isa T
  refine ypJ ty k ?_
  have:=q _ s2
  unfold ycG at this
  rw[e] at this
  exact this
theorem ynv (ys:List V)(x:V):yes (ys++[x]) none (some (-1))=ys:=by
 unfold yes
 rw[HT.sIx_none]
 simp[HT.sIx]
 rw[show(-1+((ys.length:Int)+1)).toNat=ys.length by omega]
 exact List.take_left
noncomputable def ygf:Sp:=λvs H Q _=>∃ (x:V) (s:Sn),Is H x (snT s)/\((vs=[.str "rest",.int 2,x]/\Q (.bl (isR s)) H)∨(vs=[.str "tones",.int 6,x]/\isR s=false/\Q (.bl true) H))
theorem ysB (T:Txt K mg t):FnOk P w K mg base CX0 1 t.f_zQ t.d_zQ ["name","parts","thing"] ygf:=by
 refine T.zQ.F.ok ysy (λvs H Q E h=>?_) (λ_ _ _ s H vs Q E hr h=>?_)
 ·obtain⟨x,s,_,⟨rfl,_⟩ | ⟨rfl,_⟩⟩:=h<;>rfl
 have hu:=ybs hr
 obtain⟨x,s,i,h⟩:=h
 cases s with
 | rest n =>
  obtain⟨a,rfl,ea⟩:=i.rest
  rcases h with ⟨rfl,q⟩ | ⟨rfl,r,_⟩
  ·refine⟨_,(yac (yaK (PW.pt (yb4 (ybl (yaU (yak yaR rfl T.Ja yam (yaa (pv 2) (yaa (yb5 rfl T.Jp ybS) yab))))) (ybA (yan ydL (yak yas rfl T.Jc PySem.boot_len (yaa (pv 2) yab)) (pv 1) (yao _))))) (yaf (yaj ycy)) yav) (yaf (yaj (ybq (yak yaR rfl T.Ja yam (yaa (yaq yar (pv 2) yad (λ_ _=>rfl)) (yaa (yb5 rfl T.Jg yaX) yab))) (ybo (ya4 (yb0 hu) (yaq yar (pv 2) yad (λ_ _=>rfl)) (pv 0) (yao _))))))),?_⟩
   walk_at ""
   refine ycu (.tup ea) (ya0 (i_F ?_))
   walk_at ""
   refine⟨a,_,rfl,.inr (SqT.of ea),?_⟩
   walk_at ""
   refine ygT (ya0 (i_F ?_))
   walk_at ""
   refine yaE (SqT.of ea) (yai (j:=0) rfl) ?_
   walk_at ""
   refine ycu (.str _) (ya0 (i_T ?_))
   walk_at ""
   refine yaE (SqT.of ea) (yai (j:=0) rfl) ?_
   walk_at ""
   exact ymK ⟨rfl,ybh⟩ (ybC rfl) (ybC rfl) q
  ·cases r
 | tones ps n wd op cl =>
  obtain⟨a,y,rfl,ea,iy⟩:=i.tones
  rcases h with ⟨rfl,q⟩ | ⟨rfl,r,q⟩
  ·refine⟨_,(yac (yaK (PW.pt (yb4 (ybl (yaU (yak yaR rfl T.Ja yam (yaa (pv 2) (yaa (yb5 rfl T.Jp ybS) yab))))) (ybA (yan ydL (yak yas rfl T.Jc PySem.boot_len (yaa (pv 2) yab)) (pv 1) (yao _))))) (yaf (yaj ycy)) yav) (yaf (yaj (ybq (yak yaR rfl T.Ja yam (yaa (yaq yar (pv 2) yad (λ_ _=>rfl)) (yaa (yb5 rfl T.Jg yaX) yab))) (ybo (ya4 (yb0 hu) (yaq yar (pv 2) yad (λ_ _=>rfl)) (pv 0) (yao _))))))),?_⟩
   walk_at ""
   refine ycu (.tup ea) (ya0 (i_F ?_))
   walk_at ""
   refine⟨a,_,rfl,.inr (SqT.of ea),?_⟩
   walk_at ""
   refine ygT (ya0 (i_T ?_))
   exact q
  ·refine⟨_,(yac (yaK (PW.pt (yb4 (ybl (yaU (yak yaR rfl T.Ja yam (yaa (pv 2) (yaa (yb5 rfl T.Jp ybS) yab))))) (ybA (yan ydL (yak yas rfl T.Jc PySem.boot_len (yaa (pv 2) yab)) (pv 1) (yao _))))) (yaf (yaj ycy)) yav) (yaf (yaj (ybq (yak yaR rfl T.Ja yam (yaa (yaq yar (pv 2) yad (λ_ _=>rfl)) (yaa (yb5 rfl T.Jg yaX) yab))) (ybo (ya4 (yb0 hu) (yaq yar (pv 2) yad (λ_ _=>rfl)) (pv 0) (yao _))))))),?_⟩
   walk_at ""
   refine ycu (.tup ea) (ya0 (i_F ?_))
   walk_at ""
   refine⟨a,_,rfl,.inr (SqT.of ea),?_⟩
   walk_at ""
   refine ygT (ya0 (i_F ?_))
   walk_at ""
   refine yaE (SqT.of ea) (yai (j:=0) rfl) ?_
   walk_at ""
   refine ycu (.str _) (ya0 (i_T ?_))
   walk_at ""
   refine yaE (SqT.of ea) (yai (j:=0) rfl) ?_
   walk_at ""
   exact ymK ⟨rfl,ybh⟩ (ybC rfl) (ybC rfl) q
noncomputable def ylx:Sp:=λvs H Q _=>∃ (x:V) (s:Sn),vs=[x]/\Is H x (snT s)/\yfm s/\Q (.bl (isR s)) H
theorem ytp (T:Txt K mg t)(G_zQ:FnOk P w K mg base CX0 1 t.f_zQ t.d_zQ ["name","parts","thing"] ygf)(G_zat:FnOk P w K mg base CX0 2 t.f_zat t.d_zat ["thing","least","most"] ycE):FnOk P w K mg base CX0 3 t.f_zw t.d_zw ["thing"] ylx:=by
 refine T.zw.F.ok ysx (λvs H Q E h=>?_) (λ_ _ _ s H vs Q E hr h=>?_)
 ·obtain⟨x,s,rfl,_⟩:=h;rfl
 have hu:=ybs hr
 obtain⟨x,s,rfl,i,gs,q⟩:=h
 refine⟨_,(yaf (yaj (ybq (pcl G_zQ hr T.zQ (yaa yat (yaa yad (yaa (pv 0) yab)))) (ybo (pcl G_zat hr T.Qj (yaa (yaq yar (pv 0) yad (λ_ _=>rfl)) (yaa (ybW rfl T.Jx) (yaa (ybW rfl T.Jl) yab)))))))),?_⟩
 walk_at ""
 refine⟨x,s,i,.inl ⟨rfl,ya0 ?_⟩⟩
 cases s with
 | tones=>exact i_F q
 | rest n =>
  obtain⟨a,rfl,ea⟩:=i.rest
  refine i_T ?_
  walk_at ""
  refine yaE (SqT.of ea) (yai (j:=1) rfl) ?_
  walk_at ""
  exact am ⟨gs.1,by have:=gs.2;omega⟩ q
noncomputable def yjc:Sp:=λvs H Q _=>∃ (x:V) (s:Sn),vs=[x]/\Is H x (snT s)/\yfm s/\isR s=false/\∀ H',Same H H'->Q (.bl true) H'
theorem yts (T:Txt K mg t)(G_zQ:FnOk P w K mg base CX0 1 t.f_zQ t.d_zQ ["name","parts","thing"] ygf)(G_zat:FnOk P w K mg base CX0 2 t.f_zat t.d_zat ["thing","least","most"] ycE)
  (G_zae:FnOk P w K mg base CX0 4 t.f_zae t.d_zae ["thing"] ylw) (G_zaG:FnOk P w K mg base CX0 3 t.f_zaG t.d_zaG ["thing"] yoC):FnOk P w K mg base CX0 5 t.f_zn t.d_zn ["thing"] yjc:=by
 refine T.zn.F.ok ytN (λvs H Q E h=>?_) (λ_ _ _ s H vs Q E hr h=>?_)
 ·obtain⟨x,s,rfl,_⟩:=h;rfl
 have hu:=ybs hr
 obtain⟨x,s,rfl,i,gs,r,q⟩:=h
 cases s with
 | rest=>cases r
 | tones ps n wd op cl =>
  obtain⟨gp,n2,n3,gw⟩:=gs
  obtain⟨a,y,rfl,ea,iy⟩:=i.tones
  refine⟨_,(yac (yaK (PW.pt (yb4 (ybl (yaU (pcl G_zQ hr T.zQ (yaa yat (yaa yad (yaa (pv 0) yab)))))) (ybA (ybl (yaU (pcl G_zae hr T.QY (yaa (yaq yar (pv 0) yad (λ_ _=>rfl)) yab))))))) (yaf (yaj ycy)) yav) (yac (yaK (ybl (yaU (pcl G_zat hr T.Qj (yaa (yaq yar (pv 0) yad (λ_ _=>rfl)) (yaa (ybW rfl T.Jx) (yaa (ybW rfl T.Jz) yab)))))) (yaf (yaj ycy)) yav) (yaf (yaj (ybq (pcl G_zaG hr T.QZ (yaa (yaq yar (pv 0) yad (λ_ _=>rfl)) yab)) (ybq (yak yaR rfl T.Ja yam (yaa (yaq yar (pv 0) yad (λ_ _=>rfl)) (yaa (yb5 rfl T.JW yeT) yab))) (ybo (yak yaR rfl T.Ja yam (yaa (yaq yar (pv 0) yad (λ_ _=>rfl)) (yaa (yb5 rfl T.JW yeT) yab)))))))))),?_⟩
  walk_at ""
  refine⟨_,_,i,.inr ⟨rfl,rfl,ya0 (i_F ?_)⟩⟩
  walk_at ""
  refine yaE (SqT.of ea) (yai (j:=1) rfl) ?_
  walk_at ""
  refine⟨y,ps,rfl,iy,gp,λH1 s1=>ya0 (i_F ?_)⟩
  have e1:=s1 _ _ ea
  walk_at ""
  refine yaE (SqT.of e1) (yai (j:=2) rfl) ?_
  walk_at ""
  refine am ⟨n2,n3⟩ (ya0 (i_F ?_))
  walk_at ""
  refine yaE (SqT.of e1) (yai (j:=3) rfl) ?_
  walk_at ""
  refine⟨wd,rfl,gw,λH2 s2=>ya0 (i_T ?_)⟩
  have e2:=s2 _ _ e1
  walk_at ""
  refine yaE (SqT.of e2) (yai (j:=4) rfl) ?_
  walk_at ""
  refine ycu (.bl _) (ya0 (i_T ?_))
  walk_at ""
  refine yaE (SqT.of e2) (yai (j:=5) rfl) ?_
  walk_at ""
  exact ycu (.bl _) (q _ (s1.trans s2))
noncomputable def yhE (t:Ad):Sp:=λvs H Q _=>∃ (x:V) (s:Sn) (Hs:Hp),vs=[x]/\Same Hs H/\Is Hs x (snT s)/\yfm s/\∀ y H',Same H H'->So t (nw Hs H H') y s->Q y H'
theorem yrS (T:Txt K mg t)(G_zw:FnOk P w K mg base CX0 3 t.f_zw t.d_zw ["thing"] ylx)(G_zn:FnOk P w K mg base CX0 5 t.f_zn t.d_zn ["thing"] yjc)
  (G_zh:FnOk P w K mg base CX0 1 t.f_zh t.d_zh ["self","length"] (yew t)) (G_zg:FnOk P w K mg base CX0 2 t.f_zg t.d_zg ["self","pitches","length","word","opens","closes"] (yi6 t)):FnOk P w K mg base CX0 6 t.f_zaw t.d_zaw ["told"] (yhE t):=by
 refine T.QX.F.ok yrX (λvs H Q E h=>?_) (λ_ _ _ s H vs Q E hr h=>?_)
 ·obtain⟨x,s,Hs,rfl,_⟩:=h;rfl
 have hu:=ybs hr
 obtain⟨x,s,Hs,rfl,sH,i,gs,q⟩:=h
 refine⟨_,(yac (yaK (yaU (pcl G_zw hr T.zw (yaa (pv 0) yab))) (yaf (yaj (yeE T.Qh G_zh (hr.mono (by first | decide | omega)) rfl T.JS T.zh.B .nil ycx (yaa (yaq yar (pv 0) yad (λ_ _=>rfl)) yab)))) yav) (yac (yaK (yaU (pcl G_zn hr T.zn (yaa (pv 0) yab))) (yaf (yaj (yeE T.Qo G_zg (hr.mono (by first | decide | omega)) rfl T.JY T.zg.B .nil ycx (yaa (yaq yar (pv 0) yad (λ_ _=>rfl)) (yaa (yaq yar (pv 0) yad (λ_ _=>rfl)) (yaa (yaq yar (pv 0) yad (λ_ _=>rfl)) (yaa (yaq yar (pv 0) yad (λ_ _=>rfl)) (yaa (yaq yar (pv 0) yad (λ_ _=>rfl)) yab)))))))) yav) (yaf ycT))),?_⟩
 walk_at ""
 refine⟨x,s,rfl,i.same sH,gs,ya0 ?_⟩
 cases s with
 | rest n =>
  obtain⟨a,rfl,ea⟩:=i.rest
  refine i_T ?_
  walk_at ""
  refine yaE (SqT.of (sH _ _ ea)) (yai (j:=1) rfl) ?_
  walk_at ""
  intro a2 dx ha hd ne
  refine⟨t.RD,a2,dx,n,rfl,.inl rfl,yae,rfl,?_⟩
  obtain⟨s2,e2⟩:=yoH (C:=t.RD) (o:=.ins t.RD dx [("length",.int n)]) ha hd ne
  exact q _ _ s2 ⟨a2,dx,rfl,e2 Hs⟩
 | tones ps n wd op cl =>
  obtain⟨a,y,rfl,ea,iy⟩:=i.tones
  obtain⟨l,xs,rfl,el,il⟩:∃ l xs,y=.ref l/\Hs l=some (.lst xs)/\Iss Hs xs (ps.map pT):=by rw[lT,Is] at iy;exact iy
  refine i_F ?_
  walk_at ""
  refine⟨_,_,rfl,i.same sH,gs,rfl,λH1 s1=>ya0 (i_T ?_)⟩
  have e1:=s1 _ _ (sH _ _ ea)
  walk_at ""
  refine yaE (SqT.of e1) (yai (j:=1) rfl) ?_
  walk_at ""
  refine yaE (SqT.of e1) (yai (j:=2) rfl) ?_
  walk_at ""
  refine yaE (SqT.of e1) (yai (j:=3) rfl) ?_
  walk_at ""
  refine yaE (SqT.of e1) (yai (j:=4) rfl) ?_
  walk_at ""
  refine yaE (SqT.of e1) (yai (j:=5) rfl) ?_
  walk_at ""
  intro a2 dx ha hd ne
  have el1:=s1 _ _ (sH _ _ el)
  refine⟨a2,dx,l,xs,n,wd,op,cl,rfl,yae,ydd ha hd ne _ _ el1,yaL el1 ha,λl' hl'=>⟨rfl,?_⟩⟩
  obtain⟨n1,n2⟩:=ykB hl'
  have sm:Same H1 (upd (upd (made H1 t.RE a2 dx) l' (.lst xs)) a2 (.ins t.RE dx (tFs l' n wd op cl))):=λb u e=>by
   rw[yaB (yaL e ha),yaB (yaL e n2)]
   exact ydd ha hd ne b u e
  refine q _ _ (s1.trans sm) ⟨a2,dx,l',rfl,by rw[yaI (s1.free ha)];exact yae,ybU ?_ (il.same (yee sH))⟩
  rw[yaI (s1.free n2),yaB n1]
  exact yae
noncomputable def gp (Hs H0 H:Hp)(D:Addr):Hp:=nw Hs H0 (rm H D)
section
variable {Hs H0 H H':Hp} {D:Addr}
theorem ycz (sH:Same Hs H0)(sm:Same H0 H):Same (gp Hs H0 H D) H:=λc u e=>by
 unfold gp at e
 cases h:H0 c with
 | none=>rw[yaI h] at e;exact(ydg e).2
 | some v=>rw[ybM h] at e;exact sm _ _ (sH _ _ e)
theorem yfk (sH:Same Hs H0):Same Hs (gp Hs H0 H D):=yee sH
theorem ykz (s:∀ b u,b≠D->H b=some u->H' b=some u):Same (gp Hs H0 H D) (gp Hs H0 H' D):=ycq (ycO s)
theorem ybc (s:Same H H'):Same (gp Hs H0 H D) (gp Hs H0 H' D):=ykz λb u _ e=>s b u e
theorem ydX {o:HO}:Same (gp Hs H0 H D) (gp Hs H0 (upd H D o) D):=ykz λb u n e=>by rw[yaB n];exact e
theorem yil (sH:Same Hs H0)(sm:Same H0 H){u0:HO}(hd:H D=some u0)(t2:Same H H'):Same (nw (gp Hs H0 H D) H H') (gp Hs H0 H' D):=λc u e=>by
 cases h1:H c with
 | none =>
  rw[yaI h1] at e
  unfold gp
  rw[yaI (sm.free h1),yeY (λz=>by rw[z,hd] at h1;cases h1)]
  exact e
 | some v =>
  rw[ybM h1] at e
  exact ybc t2 _ _ e
theorem yhA {p:Addr}{o:HO}(hD:p≠D)(hp:H0 p=none)(e:H p=some o):gp Hs H0 H D p=some o:=by unfold gp;rw[yaI hp,yeY hD];exact e
theorem yc4:Same (gp Hs H0 H D) (nw Hs H0 H):=ycq (yio _ _)
end
noncomputable def Acc {α:Type}(R:Hp->V->α->Prop)(Hs H0 H:Hp)(D:Addr)(us:List α):Prop:=Same H0 H/\∃ ks,H D=some (.lst ks)/\Al (R (gp Hs H0 H D)) ks us
section
variable {α:Type} {R:Hp->V->α->Prop} {Hs H0 H H':Hp} {D:Addr} {us:List α}
theorem Acc.nil (hD:H0 D=none):Acc R Hs H0 (upd H0 D (.lst [])) D []:=⟨yag hD _,[],yae,Al.nil⟩
theorem Acc.same (hR:yfr R)(h:Acc R Hs H0 H D us)(s:Same H H'):Acc R Hs H0 H' D us:=by
 obtain⟨sm,ks,hd,al⟩:=h
 exact⟨sm.trans s,ks,s _ _ hd,al.imp λ_ _ _ z=>hR (ybc s) z⟩
theorem Acc.put (hR:yfr R)(hD:H0 D=none){ks:List V}{x:V}{u:α}(sm:Same H0 H)(al:Al (R (gp Hs H0 H D)) ks us)(rx:R (gp Hs H0 H D) x u):Acc R Hs H0 (upd H D (.lst (ks++[x]))) D (us++[u]) :=
 ⟨yaS hD sm,_,yae,(al.snoc rx).imp λ_ _ _ z=>hR ydX z⟩
end
noncomputable def snL:Sn->Int
 | .rest n=>n
 | .tones _ n _ _ _=>n
noncomputable def ydE (ks:List Sn)(s:Sn):List Sn:=match isR s&&ycG ks with
 | true=>ks.dropLast++[.rest (snL (ks.getLastD (.rest 0))+snL s)]
 | false=>ks++[s]
noncomputable def ya2 (ss:List Sn):List Sn:=ss.foldl ydE []
noncomputable def ycW (ss:List Sn):List Sn:=if ycG ss then ss.dropLast else ss
noncomputable def yaQ (ss:List Sn):List Sn:=ycW (ya2 ss)
noncomputable def ybu (ss:List Sn):Int:=(ss.map snL).sum
theorem yd8:yfr (So t):=λs h=>h.same s
theorem So.len {H:Hp}{x:V}{s:Sn}(h:So t H x s)(T:Txt K mg t):∃ a C dx fs,x=.ref a/\H a=some (.ins C dx fs)/\Cls K C/\NoAttr K C "length" /\ fs.lookup (Str.ofString "length")=some (.int (snL s)):=by
 cases s with
 | rest n=>obtain⟨a,dx,rfl,ea⟩:=h;exact⟨a,_,dx,_,rfl,ea,T.JB,T.Jj,rfl⟩
 | tones ps n wd op cl=>obtain⟨a,dx,l,rfl,ea,_⟩:=h;exact⟨a,_,dx,_,rfl,ea,T.Jd,T.Jm,rfl⟩
theorem yrk {H:Hp}{x:V}{s:Sn}{Q:V->Prop}(T:Txt K mg t)(h:So t H x s)(q:Q (.int (snL s))):∃ a C dx fs v,x=.ref a/\H a=some (.ins C dx fs)/\Cls K C/\NoAttr K C "length" /\ fs.lookup (Str.ofString "length")=some v/\Q v:=by
 obtain⟨a,C,dx,fs,e,ea,c,n,l⟩:=h.len T
 exact⟨a,C,dx,fs,_,e,ea,c,n,l,q⟩
noncomputable def yiX (t:Ad):Sp:=λvs H Q _=>∃ (a:Addr) (xs:List V) (ss:List Sn),vs=[.ref a]/\H a=some (.lst xs)/\Al (So t H) xs ss/\ss.length<=100/\(∀ s∈ss,0<=snL s/\snL s<=1000)/\∀ H',Same H H'->Q (.int (ybu ss)) H'
theorem yrF (T:Txt K mg t):FnOk P w K mg base CX0 1 t.f_zad t.d_zad ["sounds"] (yiX t):=by
 refine T.Re.F.ok yp1 (λvs H Q E h=>?_) (λ_ _ _ s H vs Q E hr h=>?_)
 ·obtain⟨_,_,_,rfl,_⟩:=h;rfl
 have hu:=ybs hr
 obtain⟨a,xs,ss,rfl,ea,al,len,hs,q⟩:=h
 refine⟨_,(yaf (yaj (yak (yhm rfl) rfl T.Ql ygn (yaa (ya8 (yaH (NB:=["sound"]) (cap:=[none]) rfl) rfl (yaY (pv 0)) (λ_ _ _ _=>(yax (i:=0) (show List.Nodup (["sound"]:List Str) by decide) rfl (Or.inl rfl))) (λ_ _ _ _=>yaJ) (λ_ _ _ _=>(show PE _ _ (yqX K _ "length") from ybx (pv 0) rfl))) yab)))),?_⟩
 walk_at ""
 refine⟨a,rfl,⟨_,SqL.of ea⟩,λD hD=>ybD (λs=>V.int (snL s)) ea al hD (by omega) (λx s H' Q' hs sm rx q'=>?_) λH' sm hd=>yc5 ⟨D,ss.map snL,rfl,SqL.of (by rw[List.map_map];exact hd),?_,by rw[List.length_map];omega,q _ sm⟩⟩
 ·walk_at ""
  exact yrk T (rx.same sm) (q' _ (Same.refl _))
 ·intro n hn
  obtain⟨s,hs',rfl⟩:=List.mem_map.mp hn
  exact hs s hs'
noncomputable def yoz (t:Ad):Sp:=λvs H Q _=>∃ n:Int,vs=[.int n]/\n<=4608/\∀ y H',Same H H'->(∀ Hs,So t (nw Hs H H') y (.rest n))->Q y H'
theorem yqP (T:Txt K mg t)(G_zaN:FnOk P w K mg base CX0 1 t.f_zaN t.d_zaN ["is_so","why"] ydY)(G_zh:FnOk P w K mg base CX0 1 t.f_zh t.d_zh ["self","length"] (yew t)):FnOk P w K mg base CX0 3 t.f_zao t.d_zao ["grains"] (yoz t):=by
 refine T.Rf.F.ok yr2 (λvs H Q E h=>?_) (λ_ _ _ s H vs Q E hr h=>?_)
 ·obtain⟨_,rfl,_⟩:=h;rfl
 have hu:=ybs hr
 obtain⟨n,rfl,hn,q⟩:=h
 refine⟨_,(yac (yaG (pcl G_zaN hr T.JZ (yaa (ya4 ycI (pv 0) (ybW rfl T.Jl) (yao _)) (yaa yat yab)))) (yaf (yaj (yeE T.Qh G_zh (hr.mono (by first | decide | omega)) rfl T.JS T.zh.B .nil ycx (yaa (pv 0) yab))))),?_⟩
 walk_at ""
 rw[show decide (n<=4608)=true by simpa using hn]
 refine⟨_,rfl,?_⟩
 walk_at ""
 intro a2 dx ha hd ne
 refine⟨t.RD,a2,dx,n,rfl,.inl rfl,yae,rfl,?_⟩
 obtain⟨s2,e2⟩:=yoH (C:=t.RD) (o:=.ins t.RD dx [("length",.int n)]) ha hd ne
 exact q _ _ s2 λHs=>⟨a2,dx,rfl,e2 Hs⟩
theorem ydv {α:Type}{p:List α->Prop}(h0:p [])(h1:∀ ss s,p ss->p (ss++[s]))(l:List α):p l:=by
 have z:∀ n,p (l.take n):=λn=>by
  induction n with
  | zero=>rw[List.take_zero];exact h0
  | succ n ih =>
   by_cases h:n < l.length
   ·rw[List.take_succ_eq_append_getElem h];exact h1 _ _ ih
   ·rw[List.take_of_length_le (by omega)]
    rw[List.take_of_length_le (by omega)] at ih
    exact ih
 have:=z l.length
 rwa [List.take_length] at this
theorem ybz {ks:List Sn}(h:ycG ks=true):∃ vs m,ks=vs++[.rest m]:=by
 unfold ycG at h
 cases e:ks.getLast? with
 | none=>rw[e] at h;cases h
 | some s =>
  rw[e] at h
  cases s with
  | tones=>cases h
  | rest m =>
   obtain⟨vs,rfl⟩:=List.getLast?_eq_some_iff.mp e
   exact⟨vs,m,rfl⟩
theorem ybk {vs:List Sn}{m n:Int}:ydE (vs++[.rest m]) (.rest n)=vs++[.rest (m+n)]:=by
 have:ycG (vs++[.rest m])=true:=by unfold ycG;rw[List.getLast?_append];rfl
 unfold ydE
 rw[this]
 simp[isR,snL]
theorem ybv {ks:List Sn}{s:Sn}(h:(isR s&&ycG ks)=false):ydE ks s=ks++[s]:=by unfold ydE;rw[h]
theorem ybL (a b:List Sn):ybu (a++b)=ybu a+ybu b:=by unfold ybu;rw[List.map_append,List.sum_append]
theorem yb9 (s:Sn):ybu [s]=snL s:=by simp[ybu]
theorem ygI (ks:List Sn)(s:Sn):ybu (ydE ks s)=ybu ks+snL s:=by
 by_cases h:(isR s&&ycG ks)=true
 ·rw[Bool.and_eq_true] at h
  obtain⟨vs,m,rfl⟩:=ybz h.2
  cases s with
  | tones=>cases h.1
  | rest n =>
   rw[ybk,ybL,ybL,yb9,yb9]
   show ybu vs+(m+n)=ybu vs+m+n
   omega
 ·rw[ybv (by simpa using h),ybL,yb9]
theorem ya1 (ss:List Sn)(s:Sn):ya2 (ss++[s])=ydE (ya2 ss) s:=by unfold ya2;rw[List.foldl_append];rfl
theorem ycN (ss:List Sn):ybu (ya2 ss)=ybu ss:=by
 refine ydv (p:=λss=>ybu (ya2 ss)=ybu ss) rfl (λss s ih=>?_) ss
 rw[ya1,ygI,ih,ybL,yb9]
noncomputable def Pos (ss:List Sn):Prop:=∀ s∈ss,2<=snL s
theorem ynQ {ks:List Sn}{s:Sn}(h:Pos ks)(hs:2<=snL s):Pos (ydE ks s):=by
 by_cases g:(isR s&&ycG ks)=true
 ·rw[Bool.and_eq_true] at g
  obtain⟨vs,m,rfl⟩:=ybz g.2
  cases s with
  | tones=>cases g.1
  | rest n =>
   rw[ybk]
   intro z hz
   rcases List.mem_append.mp hz with hz | hz
   ·exact h z (List.mem_append_left _ hz)
   ·have:z=.rest (m+n):=by simpa using hz
    subst this
    have:=h (.rest m) (by simp)
    have e1:snL (.rest m)=m:=rfl
    have e2:snL (.rest n)=n:=rfl
    show 2<=m+n
    omega
 ·rw[ybv (by simpa using g)]
  intro z hz
  rcases List.mem_append.mp hz with hz | hz
  ·exact h z hz
  ·have:z=s:=by simpa using hz
   rw[this];exact hs
theorem yc9 {ss:List Sn}(h:Pos ss):Pos (ya2 ss):=by
 refine ydv (p:=λss=>Pos ss->Pos (ya2 ss)) (λ_ s hs=>nomatch hs) (λss s ih h=>?_) ss h
 rw[ya1]
 exact ynQ (ih λz hz=>h z (List.mem_append_left _ hz)) (h s (by simp))
theorem ybO {ss:List Sn}(h:Pos ss):0<=ybu ss:=by
 induction ss with
 | nil=>exact Int.le_refl _
 | cons s ss ih =>
  have:=ih λz hz=>h z (List.mem_cons_of_mem _ hz)
  have:=h s (by simp)
  have e:ybu (s :: ss)=snL s+ybu ss:=by simp[ybu]
  omega
theorem yhc {ss:List Sn}(h:Pos ss)(i:Nat):ybu (ss.take i)<=ybu ss:=by
 have e:=ybL (ss.take i) (ss.drop i)
 rw[List.take_append_drop] at e
 have:=ybO (ss:=ss.drop i) λz hz=>h z (List.mem_of_mem_drop hz)
 omega
theorem ynd (ks:List Sn)(s:Sn):(ydE ks s).length<=ks.length+1:=by
 unfold ydE
 split
 ·rw[List.length_append,List.length_dropLast];simp
 ·rw[List.length_append];simp
theorem yc7 (ss:List Sn):(ya2 ss).length<=ss.length:=by
 refine ydv (p:=λss=>(ya2 ss).length<=ss.length) (Nat.le_refl _) (λss s ih=>?_) ss
 rw[ya1,List.length_append]
 have:=ynd (ya2 ss) s
 simp
 omega
noncomputable def yoa (t:Ad):Sp:=λvs H Q _=>∃ (a:Addr) (xs:List V) (ss:List Sn) (Hs:Hp),vs=[.ref a]/\Same Hs H/\H a=some (.lst xs)/\Al (So t Hs) xs ss/\ss.length<=100/\Pos ss/\ybu ss<=1000 /\
 ∀ D ys H',Same H H'->H D=none->H' D=some (.lst ys)->Al (So t (nw Hs H H')) ys (yaQ ss)->Q (.ref D) H'
theorem yp4 (T:Txt K mg t)(G_zr:FnOk P w K mg base CX0 1 t.f_zr t.d_zr ["sounds"] (you t))(G_zao:FnOk P w K mg base CX0 3 t.f_zao t.d_zao ["grains"] (yoz t)):FnOk P w K mg base CX0 4 t.f_zaO t.d_zaO ["sounds"] (yoa t):=by
 refine T.Rc.F.ok sc_zaO (λvs H Q E h=>?_) (λ_ _ _ s H vs Q E hr h=>?_)
 ·obtain⟨_,_,_,_,rfl,_⟩:=h;rfl
 have hu:=ybs hr
 obtain⟨a,xs,ss,Hs,rfl,sH,ea,al,len,pos,sum,q⟩:=h
 refine⟨_,(yac (yap (i:=1) sc_zaO.nd rfl (Or.inl rfl) (yaV yab)) (yac (yco PassesOwn.never rfl (yaY (pv 0)) (yax (i:=2) sc_zaO.nd rfl (Or.inl rfl)) (yaf (yaK (PW.pt (yd5 (yaU (yak (show ycC _ _ (ypP K) from ygE) rfl T.Ja yam (yaa (pv 2) (yaa (ycV (v:=.ref t.RD) rfl T.JS rfl) yab)))) (yda (yaU (pcl G_zr hr T.zr (yaa (pv 1) yab)))))) (yaf (yaG (ybe F.plainAttrs_list F.slot_list_append F.type_list_append yaP (pv 1) (yaa (pcl G_zao hr T.Rf (yaa (yaC yby (ybx (yol F.plainAttrs_list F.slot_list_pop F.type_list_pop yoI (pv 1)) rfl) (ybx (pv 2) rfl)) yab)) yab)))) (yaf (yaG (ybe F.plainAttrs_list F.slot_list_append F.type_list_append yaP (pv 1) (yaa (pv 2) yab))))))) (yaf (yaj (ybd (yaU (pcl G_zr hr T.zr (yaa (pv 1) yab))) (ybr ycf (pv 1) ybX (ybF (ydj yca yad))) (pv 1)))))),?_⟩
 walk_at ""
 refine⟨Nat.zero_le _,λD hD=>?_⟩
 walk_at ""
 refine⟨a,rfl,⟨_,SqL.of (yag hD _ _ _ ea)⟩,ycc (xs:=xs) (λi σ H'=>(∃ o,σ=[some (.ref a),some (.ref D),o])/\Acc (So t) Hs H H' D (ya2 (ss.take i))) ⟨⟨_,rfl⟩,Acc.nil hD⟩ (λi σ H' _ p=>SqL.of (p.2.1 _ _ ea)) ?_ ?_⟩
 ·rintro i x σ H' N hN hx ⟨⟨o,rfl⟩,acc⟩
  have hi:i < ss.length:=by have:=(List.getElem?_eq_some_iff.mp hx).1;rw[al.1] at this;exact this
  obtain⟨x',e,rx⟩:=al.2 i hi
  rw[hx] at e
  cases e
  have tk:ya2 (ss.take (i+1))=ydE (ya2 (ss.take i)) ss[i]:=by rw[List.take_succ_eq_append_getElem hi,ya1]
  have p1:=pos ss[i] (List.getElem_mem hi)
  have lk:=yc7 (ss.take i)
  rw[List.length_take] at lk
  have ps:=yc9 (ss:=ss.take i) λz hz=>pos z (List.mem_of_mem_take hz)
  have sk:=ycN (ss.take (i+1))
  have sk2:=yhc pos (i+1)
  rw[tk,ygI] at sk
  generalize ya2 (ss.take i)=ks at acc tk lk ps sk
  generalize ss[i]=sn at rx tk p1 sk
  obtain⟨sm,kv,hd,ak⟩:=acc
  have sH':=sH.trans sm
  have go:gp Hs H H' D=gp Hs H H' D:=rfl
  walk_at ""
  obtain⟨C,ty,k⟩:=(rx.same sH').isa T
  refine ypJ ty k ?_
  walk_at ""
  have lkv:=ak.1
  have add:∀ H2,Same H' H2->(isR sn&&ycG ks)=false->N [some (.ref a),some (.ref D),some x] (upd H2 D (.lst (kv++[x]))):=λH2 s2 hf=>by
   refine hN _ _ ⟨⟨_,rfl⟩,?_⟩
   rw[tk,ybv hf]
   have ak2:Al (So t (gp Hs H H2 D)) kv ks:=ak.imp λ_ _ _ z=>z.same (ybc s2)
   exact Acc.put (R:=So t) yd8 hD (sm.trans s2) ak2 (rx.same (yfk sH))
  cases hr':isR sn with
  | false =>
   refine i_F ?_
   walk_at ""
   refine⟨.inl ⟨rfl,_,SqL.of hd⟩,?_⟩
   walk_at ""
   exact ych hd (yaz (by omega)) (add _ (Same.refl _) (by rw[hr'];rfl))
  | true =>
   refine i_T ?_
   walk_at ""
   refine⟨D,kv,ks,rfl,hd,ak.imp λ_ _ _ z=>yd8 (ycz sH sm) z,λH2 s2=>ya0 ?_⟩
   have hd2:=s2 _ _ hd
   cases he:ycG ks with
   | false =>
    refine i_F ?_
    walk_at ""
    refine⟨.inl ⟨rfl,_,SqL.of hd2⟩,?_⟩
    walk_at ""
    exact ych hd2 (yaz (by omega)) (add _ s2 (by rw[he,Bool.and_false]))
   | true =>
    obtain⟨vs,m,rfl⟩:=ybz he
    cases sn with
    | tones=>cases hr'
    | rest n =>
     obtain⟨ys,y,rfl,sy,vs',e,ay⟩:=yde ak (by rw[List.getLast?_append];rfl:(vs++[Sn.rest m]).getLast?=some (.rest m))
     obtain⟨e,_⟩:=List.append_inj' e rfl
     subst e
     refine i_T ?_
     walk_at ""
     refine⟨.inl ⟨rfl,_,SqL.of hd2⟩,?_⟩
     walk_at ""
     have sm2:=sm.trans s2
     have ya:=sy.same (ybc s2)
     refine⟨.inl ⟨rfl,_,SqL.of hd2⟩,D,_,y,rfl,rfl,hd2,by rw[List.length_append,List.length_singleton,Nat.add_sub_cancel];simp,?_⟩
     rw[List.dropLast_concat]
     obtain⟨a0,dx,rfl,e0⟩:=id ya
     have n0:a0≠D:=λz=>by rw[z] at e0;unfold gp at e0;rw[yaI hD,yk4] at e0;cases e0
     have e2:=ycz sH sm2 _ _ e0
     refine⟨a0,_,dx,_,_,rfl,by rw[yaB n0];exact e2,T.JB,T.Jj,rfl,?_⟩
     walk_at ""
     have s3:Same H (upd H2 D (.lst ys)):=yaS hD sm2
     refine yrk T (rx.same (sH.trans s3)) ?_
     walk_at ""
     refine⟨m+n,rfl,?_,λy2 H3 s4 so=>?_⟩
     ·have z0:snL (.rest n)=n:=rfl
      have z1:=ybL vs [.rest m]
      rw[yb9] at z1
      have z2:snL (.rest m)=m:=rfl
      have z3:=ybO (ss:=vs) λz hz=>ps z (List.mem_append_left _ hz)
      omega
     walk_at ""
     have ly:=ay.1
     have h4:H3 D=some (.lst ys):=s4 _ _ yae
     refine ych h4 (yaz ?_) (hN _ _ ⟨⟨_,rfl⟩,?_⟩)
     ·rw[List.length_append,List.length_singleton] at lkv
      omega
     rw[tk,ybk]
     refine Acc.put (R:=So t) yd8 hD (s3.trans s4) (ay.imp λ_ _ _ z=>z.same (((ybc s2).trans ydX).trans (ybc s4))) ((so _).same (yil sH s3 yae s4))
 ·rintro σ H' ⟨⟨o,rfl⟩,acc⟩
  walk_at ""
  rw[al.1,List.take_length] at acc
  obtain⟨sm,kv,hd,ak⟩:=acc
  have lkv:=ak.1
  have lt:=yc7 ss
  refine⟨D,kv,ya2 ss,rfl,hd,ak.imp λ_ _ _ z=>z.same (ycz sH sm),λH2 s2=>ya0 ?_⟩
  have hd2:=s2 _ _ hd
  have sm2:=sm.trans s2
  have fin:Same (gp Hs H H' D) (nw Hs H H2):=(ybc s2).trans yc4
  cases he:ycG (ya2 ss) with
  | false =>
   refine i_F ?_
   walk_at ""
   refine q D kv H2 sm2 hD hd2 ?_
   unfold yaQ ycW
   rw[if_neg (by rw[he];simp)]
   exact ak.imp λ_ _ _ z=>z.same fin
  | true =>
   obtain⟨vs,m,e⟩:=ybz he
   obtain⟨ys,y,rfl,sy,vs',e',ay⟩:=yde ak (by rw[e,List.getLast?_append];rfl:(ya2 ss).getLast?=some (.rest m))
   refine i_T ?_
   walk_at ""
   refine⟨1,rfl,_,rfl,D,_,rfl,SqL.of hd2,λp hp=>?_⟩
   rw[show(-1:Int)=-1 from rfl,ynv]
   have s3:=yag hp (.lst ys)
   refine q p ys _ (sm2.trans s3) (sm2.free hp) yae ?_
   unfold yaQ ycW
   rw[if_pos he,e',List.dropLast_concat]
   exact ay.imp λ_ _ _ z=>z.same (fin.trans (ycq s3))
noncomputable def ycl (ss:List Sn):List (Bool×Bool):=ss.filterMap λs=>match s with
 | .rest _=>none
 | .tones _ _ _ op cl=>some (op,cl)
noncomputable def ydW:Bool->List (Bool×Bool)->Prop
 | o,[]=>o=false
 | o,(op,cl) :: r=>(cl=true->o=true)/\(op=true->(o&&!cl)=false)/\ydW (op||(o&&!cl)) r
theorem ybV (a b:List Sn):ycl (a++b)=ycl a++ycl b:=List.filterMap_append
theorem ykh (ks:List Sn)(s:Sn):ycl (ydE ks s)=ycl ks++ycl [s]:=by
 by_cases g:(isR s&&ycG ks)=true
 ·rw[Bool.and_eq_true] at g
  obtain⟨vs,m,rfl⟩:=ybz g.2
  cases s with
  | tones=>cases g.1
  | rest n=>rw[ybk,ybV,ybV];simp[ycl]
 ·rw[ybv (by simpa using g),ybV]
theorem ye1 (ss:List Sn):ycl (yaQ ss)=ycl ss:=by
 have a:ycl (ya2 ss)=ycl ss:=by
  refine ydv (p:=λss=>ycl (ya2 ss)=ycl ss) rfl (λss s ih=>?_) ss
  rw[ya1,ykh,ih,ybV]
 unfold yaQ ycW
 by_cases h:ycG (ya2 ss)=true
 ·obtain⟨vs,m,e⟩:=ybz h
  rw[if_pos h,← a,e,List.dropLast_concat,ybV]
  simp[ycl]
 ·rw[if_neg h,a]
theorem So.isT (T:Txt K mg t){H:Hp}{x:V}{sn:Sn}(h:So t H x sn):∃ C,ygD K H x C/\PySem.W.kitOne K C (.ref t.RE)=some (!isR sn):=by
 cases sn with
 | rest n=>obtain⟨a,dx,rfl,ea⟩:=h;exact⟨_,T.Qm.ty T.JB ea,T.JT⟩
 | tones ps n wd op cl=>obtain⟨a,dx,l,rfl,ea,i⟩:=h;exact⟨_,T.Qb.ty T.Jd ea,T.JQ⟩
theorem nd {b:Bool}{z:Str}{H:Hp}{Q:VK}{E:XK}(h:b=true)(q:Q .non H):ydY [.bl b,.str z] H Q E:=by rw[h];exact⟨z,rfl,q⟩
noncomputable def ymd (t:Ad):Sp:=λvs H Q _=>∃ (a:Addr) (xs:List V) (ss:List Sn),vs=[.ref a]/\H a=some (.lst xs)/\Al (So t H) xs ss/\ydW false (ycl ss)/\Q .non H
theorem yt8 (T:Txt K mg t)(G_zaN:FnOk P w K mg base CX0 1 t.f_zaN t.d_zaN ["is_so","why"] ydY):FnOk P w K mg base CX0 2 t.f_zL t.d_zL ["sounds"] (ymd t):=by
 refine T.zL.F.ok sc_zL (λvs H Q E h=>?_) (λ_ _ _ s H vs Q E hr h=>?_)
 ·obtain⟨_,_,_,rfl,_⟩:=h;rfl
 have hu:=ybs hr
 obtain⟨a,xs,ss,rfl,ea,al,sl,q⟩:=h
 refine⟨_,(yac (yap (i:=1) sc_zL.nd rfl (Or.inl rfl) ycy) (yac (yco PassesOwn.never rfl (yaY (pv 0)) (yax (i:=2) sc_zL.nd rfl (Or.inl rfl)) (yaf (yaK (yaU (yak (show ycC _ _ (ypP K) from ygE) rfl T.Ja yam (yaa (pv 2) (yaa (ycV (v:=.ref t.RE) rfl T.JY rfl) yab)))) (yac (yaK (yaU (ybx (pv 2) rfl)) (yac (yaG (pcl G_zaN hr T.JZ (yaa (pv 1) (yaa yat yab)))) (yaf (yap (i:=1) sc_zL.nd rfl (Or.inl rfl) ycy))) yav) (yaf (yaK (yaU (ybx (pv 2) rfl)) (yac (yaG (pcl G_zaN hr T.JZ (yaa (yfA (pv 1)) (yaa yat yab)))) (yaf (yap (i:=1) sc_zL.nd rfl (Or.inl rfl) ycy))) yav))) yav))) (yaf (yaG (pcl G_zaN hr T.JZ (yaa (yfA (pv 1)) (yaa yat yab))))))),?_⟩
 walk_at ""
 refine⟨a,rfl,⟨_,SqL.of ea⟩,ycc (xs:=xs) (λi σ H'=>H'=H/\∃ o b,σ=[some (.ref a),some (.bl b),o]/\ydW b (ycl (ss.drop i))) ⟨rfl,_,false,rfl,sl⟩ (λi σ H' _ p=>by rw[p.1];exact SqL.of ea) ?_ ?_⟩
 ·rintro i x σ H' N hN hx ⟨rfl,o,b,rfl,sb⟩
  have hi:i < ss.length:=by have:=(List.getElem?_eq_some_iff.mp hx).1;rw[al.1] at this;exact this
  obtain⟨x',e,rx⟩:=al.2 i hi
  rw[hx] at e
  cases e
  rw[List.drop_eq_getElem_cons hi] at sb
  generalize ss[i]=sn at rx sb
  walk_at ""
  obtain⟨C,ty,k⟩:=rx.isT T
  refine ypJ ty k ?_
  walk_at ""
  cases sn with
  | rest n =>
   refine i_F (ybn (hN _ _ ⟨rfl,_,b,rfl,sb⟩))
  | tones ps n wd op cl =>
   obtain⟨h1,h2,h3⟩:=sb
   obtain⟨ax,dx,l,rfl,ex,_⟩:=rx
   refine i_T ?_
   walk_at ""
   refine⟨ax,_,dx,_,_,rfl,ex,T.Jd,T.Jn,rfl,ya0 ?_⟩
   cases cl with
   | true =>
    refine i_T ?_
    walk_at ""
    refine nd (h1 rfl) ?_
    walk_at ""
    refine⟨ax,_,dx,_,_,rfl,ex,T.Jd,T.Jk,rfl,ya0 ?_⟩
    cases op with
    | true =>
     refine i_T ?_
     walk_at ""
     refine nd rfl ?_
     walk_at ""
     exact hN _ _ ⟨rfl,_,true,rfl,h3⟩
    | false=>exact i_F (ybn (hN _ _ ⟨rfl,_,false,rfl,by simpa [ycl] using h3⟩))
   | false =>
    refine i_F ?_
    walk_at ""
    refine⟨ax,_,dx,_,_,rfl,ex,T.Jd,T.Jk,rfl,ya0 ?_⟩
    cases op with
    | true =>
     refine i_T ?_
     walk_at ""
     refine nd (by have:=h2 rfl;simpa using this) ?_
     walk_at ""
     exact hN _ _ ⟨rfl,_,true,rfl,h3⟩
    | false=>exact i_F (ybn (hN _ _ ⟨rfl,_,b,rfl,by simpa [ycl] using h3⟩))
 ·rintro σ H' ⟨rfl,o,b,rfl,sb⟩
  rw[al.1,List.drop_length] at sb
  have:b=false:=sb
  walk_at ""
  refine nd (by rw[this];rfl) ?_
  walk_at ""
  exact q
noncomputable def vT (ss:List Sn):Th:=.ls (ss.map snT)
structure GoodV (ss:List Sn):Prop where
 n1:1<=ss.length
 n2:ss.length<=96
 g:∀ s∈ss,yfm s
 sum:ybu ss<=1000
 ne:yaQ ss≠[]
 sl:ydW false (ycl ss)
theorem GoodV.pos {ss:List Sn}(h:GoodV ss):Pos ss:=λs hs=>by
 have:=h.g s hs
 cases s with
 | rest n=>exact this.1
 | tones=>exact this.2.1
noncomputable def ysj (t:Ad)(H:Hp)(x:V)(ss:List Sn):Prop:=∃ l ys,x=.ref l/\H l=some (.lst ys)/\Al (So t H) ys ss
theorem yfW:yfr (ysj t):=λs h=>by
 obtain⟨l,ys,e,el,al⟩:=h
 exact⟨l,ys,e,s _ _ el,al.imp λ_ _ _ z=>z.same s⟩
theorem ygH (ss:List Sn):(yaQ ss).length<=ss.length:=by
 have:=yc7 ss
 unfold yaQ ycW
 split
 ·rw[List.length_dropLast];omega
 ·exact this
noncomputable def yh3 (t:Ad):Sp:=λvs H Q _=>∃ (x:V) (ss:List Sn) (Hs:Hp),vs=[x]/\Same Hs H/\Is Hs x (vT ss)/\GoodV ss/\∀ y H',Same H H'->ysj t (nw Hs H H') y (yaQ ss)->Q y H'
theorem yqJ (T:Txt K mg t)(G_zaN:FnOk P w K mg base CX0 1 t.f_zaN t.d_zaN ["is_so","why"] ydY)(G_zaO:FnOk P w K mg base CX0 4 t.f_zaO t.d_zaO ["sounds"] (yoa t))(G_zaw:FnOk P w K mg base CX0 6 t.f_zaw t.d_zaw ["told"] (yhE t))(G_zL:FnOk P w K mg base CX0 2 t.f_zL t.d_zL ["sounds"] (ymd t)):FnOk P w K mg base CX0 7 t.f_zau t.d_zau ["thing"] (yh3 t):=by
 refine T.Rb.F.ok sc_zau (λvs H Q E h=>?_) (λ_ _ _ s H vs Q E hr h=>?_)
 ·obtain⟨_,_,_,rfl,_⟩:=h;rfl
 have hu:=ybs hr
 obtain⟨x,ss,Hs,rfl,sH,ix,gv,q⟩:=h
 rw[vT,Is] at ix
 obtain⟨a,xs,rfl,ea,ix⟩:=ix
 have ea':=sH _ _ ea
 have al:=ybE ix
 have n1:=gv.n1
 have n2:=gv.n2
 have lx:=al.1
 refine⟨_,(yac (yaG (pcl G_zaN hr T.JZ (yaa (ybq (yak yaR rfl T.Ja yam (yaa (pv 0) (yaa (yb5 rfl T.Jq ybJ) yab))) (ybo (yey ycI ycI yad (yak yas rfl T.Jc PySem.boot_len (yaa (pv 0) yab)) (ybW rfl T.JP)))) (yaa yat yab)))) (yac (yap (i:=1) sc_zau.nd rfl (Or.inl rfl) (pcl G_zaO hr T.Rc (yaa (ya8 (yaH (NB:=["told"]) (cap:=[none]) rfl) rfl (yaY (pv 0)) (λ_ _ _ _=>(yax (i:=0) (show List.Nodup (["told"]:List Str) by decide) rfl (Or.inl rfl))) (λ_ _ _ _=>yaJ) (λ_ _ _ _=>(pcl G_zaw hr T.QX (yaa (pv 0) yab)))) yab))) (yac (yaG (pcl G_zaN hr T.JZ (yaa (ya4 (yd3 hu) (pv 1) (yaV yab) (yao _)) (yaa yat yab)))) (yac (yaG (pcl G_zL hr T.zL (yaa (pv 1) yab))) (yaf (yaj (pv 1))))))),?_⟩
 walk_at ""
 refine ycu (.lst ea') (ya0 (i_T ?_))
 refine ye2 (a:=1) (b:=xs.length) (c:=96) (λ_ q=>q) (λQ' q'=>⟨_,rfl,a,xs,rfl,.inl (SqL.of ea'),q'⟩) (λ_ q=>q) ?_
 walk_at ""
 refine nd (by rw[decide_eq_true_eq];omega) ?_
 walk_at ""
 refine⟨a,rfl,⟨_,SqL.of ea'⟩,λD hD=>yge (R:=λH x s=>Is H x (snT s)) (S:=So t) ydU yd8 (λs=>s) sH ea' al hD (by omega) (λx s H' Hs' Q' hs s1 s2 s3 rx q'=>?_) λys H' sm hd ay=>?_⟩
 ·walk_at ""
  exact⟨x,s,Hs',rfl,s3,rx,gv.g s hs,q'⟩
 ·rw[List.map_id'] at ay
  walk_at ""
  refine⟨D,ys,ss,gp Hs H H' D,rfl,ycz sH sm,hd,ay,by omega,gv.pos,gv.sum,λD2 zs H2 s2 hD2 hd2 az=>?_⟩
  walk_at ""
  have az2:Al (So t (nw Hs H H2)) zs (yaQ ss):=az.imp λ_ _ _ z=>z.same ((yil sH sm hd s2).trans yc4)
  have sm2:=sm.trans s2
  refine⟨Nat.zero_le _,λp hp=>?_⟩
  have s3:=yag hp (.lst [])
  have hd3:=s3 _ _ hd2
  refine⟨D2,p,zs,rfl,rfl,SqL.of hd3,SqL.of yae,?_⟩
  walk_at ""
  have ne:zs.isEmpty=false:=by
   cases zs with
   | nil=>exact(gv.ne (List.eq_nil_of_length_eq_zero az.1.symm)).elim
   | cons=>rfl
  refine nd (by rw[ne];rfl) ?_
  walk_at ""
  refine⟨D2,zs,yaQ ss,rfl,hd3,az2.imp λ_ _ _ z=>z.same ((yeH sH sm2).trans s3),by rw[ye1];exact gv.sl,?_⟩
  walk_at ""
  refine q _ _ (sm2.trans s3) ⟨D2,zs,rfl,by rw[yaI (sm.free hD2)];exact hd3,az2.imp λ_ _ _ z=>z.same (ycq s3)⟩
noncomputable def vsT (vss:List (List Sn)):Th:=.ls (vss.map vT)
noncomputable def GoodVs (vss:List (List Sn)):Prop:=1<=vss.length/\vss.length<=2/\∀ ss∈vss,GoodV ss
noncomputable def VosIs (t:Ad)(H:Hp)(x:V)(vss:List (List Sn)):Prop:=∃ l ys,x=.ref l/\H l=some (.lst ys)/\Al (ysj t H) ys vss
theorem VosIs.same {H H':Hp}{x:V}{vss:List (List Sn)}(h:VosIs t H x vss)(s:Same H H'):VosIs t H' x vss:=by
 obtain⟨l,ys,e,el,al⟩:=h
 exact⟨l,ys,e,s _ _ el,al.imp λ_ _ _ z=>yfW s z⟩
noncomputable def yfB (t:Ad):Sp:=λvs H Q _=>∃ (x:V) (vss:List (List Sn)) (Hs:Hp),vs=[x]/\Same Hs H/\Is Hs x (vsT vss)/\GoodVs vss/\∀ y H',Same H H'->VosIs t (nw Hs H H') y (vss.map yaQ)->Q y H'
theorem yq3 (T:Txt K mg t)(G_zaN:FnOk P w K mg base CX0 1 t.f_zaN t.d_zaN ["is_so","why"] ydY)(G_zau:FnOk P w K mg base CX0 7 t.f_zau t.d_zau ["thing"] (yh3 t)):FnOk P w K mg base CX0 8 t.f_zak t.d_zak ["things"] (yfB t):=by
 refine T.Ra.F.ok ypT (λvs H Q E h=>?_) (λ_ _ _ s H vs Q E hr h=>?_)
 ·obtain⟨_,_,_,rfl,_⟩:=h;rfl
 have hu:=ybs hr
 obtain⟨x,vss,Hs,rfl,sH,ix,gv,q⟩:=h
 rw[vsT,Is] at ix
 obtain⟨a,xs,rfl,ea,ix⟩:=ix
 have ea':=sH _ _ ea
 have al:=ybE ix
 obtain⟨n1,n2,gv⟩:=gv
 have lx:=al.1
 refine⟨_,(yac (yaG (pcl G_zaN hr T.JZ (yaa (ybq (yak yaR rfl T.Ja yam (yaa (pv 0) (yaa (yb5 rfl T.Jq ybJ) yab))) (ybo (yey ycI ycI yad (yak yas rfl T.Jc PySem.boot_len (yaa (pv 0) yab)) (ybW rfl T.JA)))) (yaa yat yab)))) (yaf (yaj (ya8 (yaH (NB:=["thing"]) (cap:=[none]) rfl) rfl (yaY (pv 0)) (λ_ _ _ _=>(yax (i:=0) (show List.Nodup (["thing"]:List Str) by decide) rfl (Or.inl rfl))) (λ_ _ _ _=>yaJ) (λ_ _ _ _=>(pcl G_zau hr T.Rb (yaa (pv 0) yab))))))),?_⟩
 walk_at ""
 refine ycu (.lst ea') (ya0 (i_T ?_))
 refine ye2 (a:=1) (b:=xs.length) (c:=2) (λ_ q=>q) (λQ' q'=>⟨_,rfl,a,xs,rfl,.inl (SqL.of ea'),q'⟩) (λ_ q=>q) ?_
 walk_at ""
 refine nd (by rw[decide_eq_true_eq];omega) ?_
 walk_at ""
 refine⟨a,rfl,⟨_,SqL.of ea'⟩,λD hD=>yge (R:=λH x ss=>Is H x (vT ss)) (S:=ysj t) ydU yfW yaQ sH ea' al hD (by omega) (λx s H' Hs' Q' hs s1 s2 s3 rx q'=>?_) λys H' sm hd ay=>?_⟩
 ·walk_at ""
  exact⟨x,s,Hs',rfl,s3,rx,gv s hs,q'⟩
 ·exact q _ _ sm ⟨D,ys,rfl,by rw[yaI hD];exact hd,ay.imp λ_ _ _ z=>yfW yc4 z⟩
inductive Cv where
 | m (m:Mt) | k (i:Int)
 deriving DecidableEq
noncomputable def cvT:Cv->Th
 | .m m=>mtT m
 | .k i=>nT i
noncomputable def yix:Bool->Cv->Prop
 | true,.m m=>yih m
 | false,.k i=>-7<=i/\i<=7
 | _,_=>False
theorem yi3 (m:Mt):OkE (mtT m):=⟨by
 have:=(ycP m.gs).1
 show(true&&(true&&(ycj (.tp (m.gs.map nT))&&true)))=true
 rw[this];rfl,yer (k:=59) (ya7 ybh (ya7 ybh (ya7 (yer (k:=58) (yc2 λu hu=>by obtain⟨n,_,rfl⟩:=List.mem_map.mp hu;exact ybh)) yea)))⟩
theorem yg2 (c:Cv):OkE (cvT c):=by
 cases c with
 | m m=>exact yi3 m
 | k i=>exact⟨rfl,ybh⟩
theorem eq_int (a b:Int):eqT (.vl (.int a)) (.vl (.int b))=decide (a=b):=by simp[eqT,eqV];rfl
theorem yrw (a b:Mt):eqT (yb8 (mtT a)) (yb8 (mtT b))=decide (a=b):=by
 show(eqT (.vl (.int a.tp)) (.vl (.int b.tp))&&(eqT (.vl (.int a.bt)) (.vl (.int b.bt))&&(eqTs (toTrs (a.gs.map nT)) (toTrs (b.gs.map nT))&&true)))=_
 rw[eq_int,eq_int,ybP,ybP,ydn,Bool.eq_iff_iff]
 cases a
 cases b
 simp
theorem yrZ {j:Bool}{a b:Cv}(ha:yix j a)(hb:yix j b):eqT (yb8 (cvT a)) (yb8 (cvT b))=decide (a=b):=by
 cases a with
 | m a =>
  cases b with
  | m b=>rw[show yb8 (cvT (.m a))=yb8 (mtT a) from rfl,show yb8 (cvT (.m b))=yb8 (mtT b) from rfl,yrw,Bool.eq_iff_iff];simp
  | k b=>cases j<;>first | exact ha.elim | exact hb.elim
 | k a =>
  cases b with
  | m b=>cases j<;>first | exact ha.elim | exact hb.elim
  | k b=>show eqT (.vl (.int a)) (.vl (.int b))=_;rw[eq_int,Bool.eq_iff_iff];simp
noncomputable def chT (c:Nat×Cv):Th:=.tp [nT c.1,cvT c.2]
theorem Is.ch {H:Hp}{x:V}{c:Nat×Cv}(h:Is H x (chT c)):∃ a y,x=.ref a/\H a=some (.tup [.int c.1,y])/\Is H y (cvT c.2):=by
 rw[chT,Is] at h
 obtain⟨a,xs,rfl,e,is⟩:=h
 rw[Iss] at is
 obtain⟨x,r,rfl,i1,is⟩:=is
 rw[Iss] at is
 obtain⟨y,r,rfl,i2,is⟩:=is
 rw[Iss] at is
 subst is
 rw[nT,Is] at i1
 rw[i1.1] at e
 exact⟨a,y,rfl,e,i2⟩
theorem ytS {H:Hp}{a:Addr}{y:V}{n:Nat}{c:Cv}(e:H a=some (.tup [.int n,y]))(i:Is H y (cvT c)):Is H (.ref a) (chT (n,c)):=ycR e (yau (yej _ _) (yau i (yaO _)))
noncomputable def goF (t:Ad):Bool->Addr
 | true=>t.f_zaC
 | false=>t.f_zaK
noncomputable def goD (t:Ad):Bool->FuncData
 | true=>t.d_zaC
 | false=>t.d_zaK
noncomputable def ynU (j:Bool):Sp:=λvs H Q _=>∃ (x:V) (c:Cv),vs=[x]/\Is H x (cvT c)/\yix j c/\∀ H',Same H H'->Q (.bl true) H'
theorem ypE (G_zaC:FnOk P w K mg base CX0 4 t.f_zaC t.d_zaC ["thing"] yfb)(G_zaK:FnOk P w K mg base CX0 4 t.f_zaK t.d_zaK ["thing"] yh9):∀ j,FnOk P w K mg base CX0 4 (goF t j) (goD t j) ["thing"] (ynU j)
 | true=>G_zaC.imp λvs H Q E h=>by
  obtain⟨x,c,rfl,ic,gc,q⟩:=h
  cases c with
  | m m=>exact⟨x,m,rfl,ic,gc,q⟩
  | k i=>exact gc.elim
 | false=>G_zaK.imp λvs H Q E h=>by
  obtain⟨x,c,rfl,ic,gc,q⟩:=h
  cases c with
  | m m=>exact gc.elim
  | k i =>
   have:x=.int i:=by rw[cvT,nT,Is] at ic;exact ic.1
   subst this
   exact⟨i,rfl,gc.1,gc.2,q _ (Same.refl _)⟩
theorem ylk (T:Txt K mg t):∀ j,PySem.W.keepIn K (.ref (goF t j))=true
 | true=>T.QD.F.kp
 | false=>T.QE.F.kp
theorem ykV (T:Txt K mg t):∀ j,Binds K (goD t j) ["thing"] []
 | true=>T.QD.B
 | false=>T.QE.B
noncomputable def yjD (t:Ad):Sp:=λvs H Q _=>∃ (x:V) (c:Nat×Cv) (j:Bool),vs=[x,.ref (goF t j)]/\Is H x (chT c)/\yix j c.2/\∀ H',Same H H'->Q (.bl true) H'
theorem yrf (T:Txt K mg t)(G_zax:FnOk P w K mg base CX0 1 t.f_zax t.d_zax ["thing"] ygb)(C_is_good:∀ j,FnOk P w K mg base CX0 4 (goF t j) (goD t j) ["thing"] (ynU j)):FnOk P w K mg base CX0 5 t.f_zai t.d_zai ["thing","is_good"] (yjD t):=by
 have D_is_good:=ylk T
 have E_is_good:=ykV T
 refine T.Rh.F.ok yqN (λvs H Q E h=>?_) (λ_ _ _ s H vs Q E hr h=>?_)
 ·obtain⟨_,_,_,rfl,_⟩:=h;rfl
 have hu:=ybs hr
 obtain⟨x,c,j,rfl,ic,gc,q⟩:=h
 obtain⟨a,y,rfl,ea,iy⟩:=ic.ch
 refine⟨_,(yaf (yaj (ybq (yak yaR rfl T.Ja yam (yaa (pv 0) (yaa (yb5 rfl T.Jp ybS) yab))) (ybq (ya4 yci (yak yas rfl T.Jc PySem.boot_len (yaa (pv 0) yab)) yad (yao _)) (ybq (pcl G_zax hr T.QH (yaa (yaq yar (pv 0) yad (λ_ _=>rfl)) yab)) (ybo (ymS (i:=1) C_is_good (hr.mono (by decide)) rfl D_is_good E_is_good ycx (yaa (yaq yar (pv 0) yad (λ_ _=>rfl)) yab)))))))),?_⟩
 walk_at ""
 refine ycu (.tup ea) (ya0 (i_T ?_))
 walk_at ""
 refine⟨a,_,rfl,.inr (SqT.of ea),?_⟩
 walk_at ""
 refine i_T ?_
 walk_at ""
 refine yaE (SqT.of ea) (yai (j:=0) rfl) ?_
 walk_at ""
 refine⟨_,rfl,ya0 (i_T ?_)⟩
 refine yuT j rfl ?_
 walk_at ""
 refine yaE (SqT.of ea) (yai (j:=1) rfl) ?_
 walk_at ""
 exact⟨y,c.2,rfl,iy,gc,q⟩
noncomputable def yr7 (H:Hp):V->V
 | .ref a=>match H a with
  | some (.tup [_,y])=>y
  | _=>.non
 | _=>.non
theorem yma {H:Hp}{x:V}{c:Nat×Cv}(h:Is H x (chT c)):Is H (yr7 H x) (cvT c.2)/\∃ a,x=.ref a/\H a=some (.tup [.int c.1,yr7 H x]):=by
 obtain⟨a,y,rfl,ea,iy⟩:=h.ch
 have:yr7 H (.ref a)=y:=by show(match H a with | some (.tup [_,y])=>y | _=>.non)=y;rw[ea]
 rw[this]
 exact⟨iy,a,rfl,ea⟩
structure yjL (j:Bool) (cs:List (Nat×Cv)):Prop where
 len:cs.length<=30
 one:(cs.map (·.1)).take 1=[1]
 up:∀ i (h:i+1 < cs.length),cs[i].1 < cs[i+1].1
 ne:∀ i (h:i+1 < cs.length),cs[i].2≠cs[i+1].2
 g:∀ c∈cs,yix j c.2
noncomputable def csT (cs:List (Nat×Cv)):Th:=.ls (cs.map chT)
theorem yo9 {xs:List V}:Al (λx u=>x=u) xs xs:=⟨rfl,λi h=>⟨_,List.getElem?_eq_getElem h,rfl⟩⟩
noncomputable def yhi (t:Ad):Sp:=λvs H Q _=>∃ (x:V) (cs:List (Nat×Cv)) (j:Bool) (Hs:Hp),vs=[x,.ref (goF t j)]/\Same Hs H/\Is Hs x (csT cs)/\yjL j cs/\∀ y H',Same H H'->Is (nw Hs H H') y (csT cs)->Q y H'
theorem ysY (T:Txt K mg t)(G_zaN:FnOk P w K mg base CX0 1 t.f_zaN t.d_zaN ["is_so","why"] ydY)(G_zai:FnOk P w K mg base CX0 5 t.f_zai t.d_zai ["thing","is_good"] (yjD t))(G_zaF:FnOk P w K mg base CX0 1 t.f_zaF t.d_zaF ["numbers"] ykG):FnOk P w K mg base CX0 6 t.f_zV t.d_zV ["things","is_good"] (yhi t):=by
 refine T.zV.F.ok sc_zV (λvs H Q E h=>?_) (λ_ _ _ s H vs Q E hr h=>?_)
 ·obtain⟨_,_,_,_,rfl,_⟩:=h;rfl
 have hu:=ybs hr
 obtain⟨x,cs,j,Hs,rfl,sH,ix,gc,q⟩:=h
 rw[csT,Is] at ix
 obtain⟨a,xs,rfl,ea,ix⟩:=ix
 have ea':=sH _ _ ea
 have al:=ybE ix
 have lx:=al.1
 have hl:=gc.len
 refine⟨_,(yac (yaG (pcl G_zaN hr T.JZ (yaa (yak yaR rfl T.Ja yam (yaa (pv 0) (yaa (yb5 rfl T.Jq ybJ) yab))) (yaa yat yab)))) (yac (yaG (pcl G_zaN hr T.JZ (yaa (yak (ycQ rfl) rfl T.JL ycX (yaa (ya8 (yaH (NB:=["thing","is_good"]) (cap:=[none,some 1]) rfl) rfl (yaY (pv 0)) (λ_ _ _ _=>(yax (i:=0) (show List.Nodup (["thing","is_good"]:List Str) by decide) rfl (Or.inl rfl))) (λ_ _ _ _=>yaJ) (λ_ _ _ _=>(pcl G_zai hr T.Rh (yaa (pv 0) (yaa (pv 1) yab))))) yab)) (yaa yat yab)))) (yac (ybQ (i:=2) sc_zV.nd rfl (Or.inl rfl) (yaH (NB:=["thing"]) (cap:=[none]) rfl) rfl (yaY (pv 0)) (λ_ _ _ _=>(yax (i:=0) (show List.Nodup (["thing"]:List Str) by decide) rfl (Or.inl rfl))) (λ_ _ _ _=>yaJ) (λ_ _ _ _=>(yaq (show IxR _ (yjk K) from yar) (pv 0) yad (λ_ _=>rfl)))) (yac (yaG (pcl G_zaN hr T.JZ (yaa (ybq (ya4 (yb0 hu) (ybr ycf (pv 2) ybX (ybF yad)) (yaV (yaa yad yab)) (yao _)) (ybo (pcl G_zaF hr T.QO (yaa (pv 2) yab)))) (yaa yat yab)))) (yac (ybQ (i:=3) sc_zV.nd rfl (Or.inl rfl) (yaH (NB:=["thing"]) (cap:=[none]) rfl) rfl (yaY (pv 0)) (λ_ _ _ _=>(yax (i:=0) (show List.Nodup (["thing"]:List Str) by decide) rfl (Or.inl rfl))) (λ_ _ _ _=>yaJ) (λ_ _ _ _=>(yaq (show IxR _ (yjk K) from yar) (pv 0) yad (λ_ _=>rfl)))) (yac (yaG (pcl G_zaN hr T.JZ (yaa (yak (ycQ rfl) rfl T.JL ycX (yaa (ya8 (yaH (NB:=["one","other"]) (cap:=[none,none]) rfl) rfl (ynT rfl T.Qt (yaa (pv 3) (yaa (ybr ycf (pv 3) (ybF yad) ybX) yab))) (λ_ _ _ _=>by exact(show PG _ _ (ykJ K 2 (ycF (ybZ 0) (ycF (ybZ 1) ykS))) from ydy (n:=2) rfl (yaZ (yax (i:=0) (show List.Nodup (["one","other"]:List Str) by decide) rfl (Or.inl rfl)) (yaZ (yax (i:=1) (show List.Nodup (["one","other"]:List Str) by decide) rfl (Or.inl rfl)) ycD)))) (λ_ _ _ _=>yaJ) (λ_ _ _ _=>(ya4 (show OpR _ _ (ypM K) from ydZ hu) (pv 0) (pv 1) (yao _)))) yab)) (yaa yat yab)))) (yaf (yaj (yaT ybR rfl T.Jq ybJ (yaa (pv 0) yab)))))))))),?_⟩
 walk_at ""
 refine ycu (.lst ea') ?_
 walk_at ""
 refine nd rfl ?_
 walk_at ""
 refine⟨a,rfl,⟨_,SqL.of ea'⟩,λD1 hD1=>ybD (λ_=>V.bl true) ea' al hD1 (by omega) (λx c H' Q' hc sm rx q'=>?_) λH1 s1 hd1=>yc5 (ymg hd1 ?_)⟩
 ·walk_at ""
  exact⟨x,c,j,rfl,rx.same (sH.trans sm),gc.g c hc,q'⟩
 walk_at ""
 refine nd rfl ?_
 have sH1:=sH.trans s1
 walk_at ""
 refine⟨a,rfl,⟨_,SqL.of (s1 _ _ ea')⟩,λD2 hD2=>ybD (λc=>V.int (c.1:Nat)) (s1 _ _ ea') al hD2 (by omega) (λx c H' Q' hc sm rx q'=>?_) λH2 s2 hd2=>?_⟩
 ·obtain⟨b,y,rfl,eb,_⟩:=rx.ch
  walk_at ""
  exact yaE (SqT.of (sH1.trans sm _ _ eb)) (yai (j:=0) rfl) (q' _ (Same.refl _))
 have sH2:=sH1.trans s2
 walk_at ""
 have c1:1<=cs.length:=by
  cases e:cs with
  | nil=>have:=gc.one;rw[e] at this;cases this
  | cons=>simp
 refine⟨1,rfl,D2,_,rfl,SqL.of hd2,λp hp=>?_⟩
 have ct:yes (cs.map λc=>V.int (c.1:Nat)) none (some ((1:Nat):Int))=[V.int 1]:=by
  rw[yny _ 1 (by rw[List.length_map];exact c1)]
  have:=congrArg (List.map λn:Nat=>V.int n) gc.one
  rw[← List.map_take,List.map_map] at this
  rw[← List.map_take]
  exact this
 rw[show(1:Int)=((1:Nat):Int) from rfl,ct]
 have s3:=yag hp (.lst [V.int 1])
 walk_at ""
 refine⟨by decide,λp2 hp2=>?_⟩
 have s4:=yag hp2 (.lst [V.int 1])
 refine ymK (tr:=.ls [nT 1]) ⟨rfl,yhK (k:=59) (ya7 ybh yea)⟩ (ybU (s4 _ _ yae) (yau (yej _ _) (yaO _))) (ybU yae (yau (yej _ _) (yaO _))) (ya0 (i_T ?_))
 have s24:=s3.trans s4
 generalize upd (upd H2 p (.lst [V.int 1])) p2 (.lst [V.int 1])=H4 at s24 ⊢
 walk_at ""
 refine⟨D2,cs.map λc=>(c.1:Int),rfl,by rw[List.map_map];exact s24 _ _ hd2,by rw[List.length_map];omega,λi h=>?_,λH5 s5=>?_⟩
 ·rw[List.length_map] at h
  have:=gc.up i h
  simp only[List.getElem_map]
  omega
 walk_at ""
 refine nd rfl ?_
 have s15:=(s1.trans s2).trans (s24.trans s5)
 have sH5:=sH.trans s15
 walk_at ""
 refine⟨a,rfl,⟨_,SqL.of (s15 _ _ ea')⟩,λD3 hD3=>ybD (yr7 Hs) (s15 _ _ ea') (yo9 (xs:=xs)) hD3 (by omega) (λx u H' Q' hc sm rx q'=>?_) λH6 s6 hd6=>?_⟩
 ·subst rx
  obtain⟨i,hi,e⟩:=List.mem_iff_getElem.mp hc
  obtain⟨x',e',rx⟩:=al.2 i (by omega)
  rw[List.getElem?_eq_getElem hi,e] at e'
  cases e'
  obtain⟨_,b,rfl,eb⟩:=yma rx
  walk_at ""
  exact yaE (SqT.of (sH5.trans sm _ _ eb)) (yai (j:=1) rfl) (q' _ (Same.refl _))
 have sH6:=sH5.trans s6
 walk_at ""
 refine ykX rfl hd6 (by rw[List.length_map];omega) (λi x y H' Q' hx hy sm q'=>?_) λn D H' sm hd=>yc5 (ynI hd ?_)
 ·rw[List.getElem?_map] at hx hy
  have hi:i+1 < xs.length:=by
   cases e:xs[i+1]? with
   | none=>rw[e] at hy;cases hy
   | some v=>exact(List.getElem?_eq_some_iff.mp e).1
  obtain⟨x',e1,r1⟩:=al.2 i (by omega)
  obtain⟨y',e2,r2⟩:=al.2 (i+1) (by omega)
  rw[e1] at hx
  rw[e2] at hy
  cases hx
  cases hy
  have sm':=sH6.trans sm
  walk_at ""
  refine yiv (yg2 _) (yg2 _) ((yma r1).1.same sm') ((yma r2).1.same sm') ?_
  rw[yrZ (gc.g _ (List.getElem_mem (by omega))) (gc.g _ (List.getElem_mem (by omega))),show decide (cs[i].2=cs[i+1].2)=false by simpa using gc.ne i (by omega)]
  exact q' _ (Same.refl _)
 walk_at ""
 refine nd rfl ?_
 have s16:=(s15.trans s6).trans sm
 walk_at ""
 refine⟨a,xs,rfl,.inl (SqL.of (s16 _ _ ea')),λl hl=>?_⟩
 have s7:=s16.trans (yag hl (.lst xs))
 refine q _ _ s7 (ybU (by rw[yaI (s16.free hl)];exact yae) (ix.same (yee sH)))
noncomputable def yd0 (bar:Nat)(cs:List (Nat×Cv)):Option Cv:=((cs.filter λc=>decide (c.1<=bar)).getLast?).map (·.2)
noncomputable def yjZ:Sp:=λvs H Q _=>∃ (bar:Nat) (x:V) (cs:List (Nat×Cv)) (c:Cv) (Hs:Hp),vs=[.int bar,x]/\Same Hs H/\Is Hs x (csT cs)/\cs.length<=30/\yd0 bar cs=some c/\∀ y H',Same H H'->Is Hs y (cvT c)->Q y H'
theorem yqs (T:Txt K mg t):FnOk P w K mg base CX0 1 t.f_zaE t.d_zaE ["bar","changes"] yjZ:=by
 refine T.QQ.F.ok yrs (λvs H Q E h=>?_) (λ_ _ _ s H vs Q E hr h=>?_)
 ·obtain⟨_,_,_,_,_,rfl,_⟩:=h;rfl
 have hu:=ybs hr
 obtain⟨bar,x,cs,c,Hs,rfl,sH,ix,len,la,q⟩:=h
 rw[csT,Is] at ix
 obtain⟨a,xs,rfl,ea,ix⟩:=ix
 have ea':=sH _ _ ea
 have al:=ybE ix
 have lx:=al.1
 refine⟨_,(yaf (yaj (yaq yaD (ya8 (yaH (NB:=["change","bar"]) (cap:=[none,some 0]) rfl) rfl (yaY (pv 1)) (λ_ _ _ _=>(yax (i:=0) (show List.Nodup (["change","bar"]:List Str) by decide) rfl (Or.inl rfl))) (λ_ _ _ _=>(yja (yan ycI (yaq (show IxR _ (yjk K) from yar) (pv 0) yad (λ_ _=>rfl)) (pv 1) (yao _)))) (λ_ _ _ _=>(yaq (show IxR _ (yjk K) from yar) (pv 0) yad (λ_ _=>rfl)))) (ydj yca yad) (λ_ _=>rfl)))),?_⟩
 walk_at ""
 refine⟨a,rfl,⟨_,SqL.of ea'⟩,λD hD=>ycm (xs:=xs) (λi σ' H'=>(∃ o,σ'=[o,some (.int bar)])/\Same H H'/\∃ ys,H' D=some (.lst ys)/\Al (λy c=>Is Hs y (cvT c.2)) ys ((cs.take i).filter λc=>decide (c.1<=bar))) ⟨⟨_,rfl⟩,yag hD _,[],yae,Al.nil⟩ (λ_ _ _ _ h=>SqL.of (h.2.1 _ _ ea')) ?_ ?_⟩
 ·rintro i x σ' H' N hN hx ⟨⟨o,rfl⟩,sm,ys,hd,ay⟩
  have hi:i < cs.length:=by have:=(List.getElem?_eq_some_iff.mp hx).1;omega
  obtain⟨x',e,rx⟩:=al.2 i hi
  rw[hx] at e
  cases e
  obtain⟨b,y,rfl,eb,iy⟩:=rx.ch
  have eb':=sH.trans sm _ _ eb
  have tk:(cs.take (i+1)).filter (λc=>decide (c.1<=bar))=(cs.take i).filter (λc=>decide (c.1<=bar))++if cs[i].1<=bar then [cs[i]] else []:=by
   rw[List.take_succ_eq_append_getElem hi,List.filter_append]
   by_cases h:cs[i].1<=bar<;>simp[h]
  walk_at ""
  refine yaE (SqT.of eb') (yai (j:=0) rfl) ?_
  walk_at ""
  refine i_d (λh=>?_) λh=>?_
  ·walk_at ""
   refine yaE (SqT.of eb') (yai (j:=1) rfl) ⟨ys,hd,?_,hN _ _ ⟨⟨_,rfl⟩,yaS hD sm,_,yae,?_⟩⟩
   ·have:=ay.1
    have l2:=List.length_filter_le (λc:Nat×Cv=>decide (c.1<=bar)) (cs.take i)
    rw[List.length_take] at l2
    exact yaz (by omega)
   ·rw[tk,if_pos (by omega)]
    exact ay.snoc iy
  ·refine hN _ _ ⟨⟨_,rfl⟩,sm,ys,hd,?_⟩
   rw[tk,if_neg (by omega),List.append_nil]
   exact ay
 ·rintro σ' H' ⟨_,sm,ys,hd,ay⟩
  rw[lx,List.take_length] at ay
  unfold yd0 at la
  cases e:(cs.filter λc=>decide (c.1<=bar)).getLast? with
  | none=>rw[e] at la;cases la
  | some c' =>
   rw[e] at la
   cases la
   obtain⟨zs,y,rfl,sy,_⟩:=yde ay e
   walk_at ""
   exact ybf (SqL.of hd) (ybY zs y) (q _ _ sm sy)
noncomputable def yjW:Sp:=λvs H Q _=>∃ (x:V) (cs:List (Nat×Cv)) (n:Nat) (c:Nat×Cv),vs=[x,.int n]/\Is H x (csT cs)/\cs.getLast?=some c/\c.1<=n/\Q .non H
theorem ys3 (T:Txt K mg t)(G_zaN:FnOk P w K mg base CX0 1 t.f_zaN t.d_zaN ["is_so","why"] ydY):FnOk P w K mg base CX0 2 t.f_zG t.d_zG ["changes","bars"] yjW:=by
 refine T.zG.F.ok ytT (λvs H Q E h=>?_) (λ_ _ _ s H vs Q E hr h=>?_)
 ·obtain⟨_,_,_,_,rfl,_⟩:=h;rfl
 have hu:=ybs hr
 obtain⟨x,cs,n,c,rfl,ix,hc,hn,q⟩:=h
 rw[csT,Is] at ix
 obtain⟨a,xs,rfl,ea,ix⟩:=ix
 obtain⟨zs,y,rfl,sy,_⟩:=yde (ybE ix) hc
 obtain⟨b,y,rfl,eb,iy⟩:=sy.ch
 refine⟨_,(yaf (yaG (pcl G_zaN hr T.JZ (yaa (ya4 ycI (yaq yar (yaq yaD (pv 0) (ydj yca yad) (λ_ _=>rfl)) yad (λ_ _=>rfl)) (pv 1) (yao _)) (yaa yat yab))))),?_⟩
 walk_at ""
 refine ybf (SqL.of ea) (ybY zs _) ?_
 walk_at ""
 refine yaE (SqT.of eb) (yai (j:=0) rfl) ?_
 walk_at ""
 refine nd (by rw[decide_eq_true_eq];omega) ?_
 walk_at ""
 exact q
noncomputable abbrev Fr:=Mt×Int
noncomputable def bg (fr:List Fr)(i:Nat):Int:=((fr.take i).map λf=>ymD f.1).sum
noncomputable def frT (b:Int)(f:Fr):Th:=.tp [nT b,mtT f.1,nT f.2]
noncomputable def yjn (fr:List Fr)(n:Nat):List Th:=(List.range n).map λi=>frT (bg fr i) (fr.getD i (⟨0,0,[]⟩,0))
noncomputable def ybG (fr:List Fr):Th:=.ls (yjn fr fr.length)
structure OkF (fr:List Fr) (lasts:Int):Prop where
 len:fr.length<=24
 lo:∀ i,i < fr.length->bg fr i < lasts
 hi:lasts<=bg fr fr.length
 m:∀ f∈fr,yih f.1
 k:∀ f∈fr,-7<=f.2/\f.2<=7
theorem yiC {fr:List Fr}{i:Nat}(h:i < fr.length):bg fr (i+1)=bg fr i+ymD fr[i].1:=by
 unfold bg
 rw[List.take_succ_eq_append_getElem h,List.map_append,List.sum_append]
 simp
theorem ymZ {fr:List Fr}{i:Nat}(h:i < fr.length):yjn fr (i+1)=yjn fr i++[frT (bg fr i) fr[i]]:=by
 unfold yjn
 rw[List.range_succ,List.map_append,List.map_singleton,List.getD_eq_getElem?_getD,List.getElem?_eq_getElem h]
 rfl
theorem yrj {H:Hp}{a:Addr}{y:V}{b:Int}{f:Fr}(e:H a=some (.tup [.int b,y,.int f.2]))(i:Is H y (mtT f.1)):Is H (.ref a) (frT b f):=ycR e (yau (yej _ _) (yau i (yau (yej _ _) (yaO _))))
theorem Is.fr {H:Hp}{x:V}{b:Int}{f:Fr}(h:Is H x (frT b f)):∃ a y,x=.ref a/\H a=some (.tup [.int b,y,.int f.2])/\Is H y (mtT f.1):=by
 rw[frT,Is] at h
 obtain⟨a,xs,rfl,e,is⟩:=h
 rw[Iss] at is
 obtain⟨x,r,rfl,i1,is⟩:=is
 rw[Iss] at is
 obtain⟨y,r,rfl,i2,is⟩:=is
 rw[Iss] at is
 obtain⟨z,r,rfl,i3,is⟩:=is
 rw[Iss] at is
 subst is
 rw[nT,Is] at i1 i3
 rw[i1.1,i3.1] at e
 exact⟨a,y,rfl,e,i2⟩
noncomputable def yjh:Sp:=λvs H Q _=>∃ (x y:V) (ms ks:List (Nat×Cv)) (fr:List Fr) (lasts:Int) (Hs:Hp),vs=[x,y,.int lasts]/\Same Hs H/\Is Hs x (csT ms)/\Is Hs y (csT ks)/\ms.length<=30/\ks.length<=30/\OkF fr lasts /\
 (∀ i (h:i < fr.length),yd0 (i+1) ms=some (.m fr[i].1)/\yd0 (i+1) ks=some (.k fr[i].2))/\∀ z H',Same H H'->Is (nw Hs H H') z (ybG fr)->Q z H'
theorem ytM (T:Txt K mg t)(G_zaN:FnOk P w K mg base CX0 1 t.f_zaN t.d_zaN ["is_so","why"] ydY)(G_zaE:FnOk P w K mg base CX0 1 t.f_zaE t.d_zaE ["bar","changes"] yjZ)(G_zR:FnOk P w K mg base CX0 2 t.f_zR t.d_zR ["metre"] yoh):FnOk P w K mg base CX0 3 t.f_zO t.d_zO ["metres","keys","lasts"] yjh:=by
 refine T.zO.F.ok sc_zO (λvs H Q E h=>?_) (λ_ _ _ s H vs Q E hr h=>?_)
 ·obtain⟨_,_,_,_,_,_,_,rfl,_⟩:=h;rfl
 have hu:=ybs hr
 obtain⟨x,y,ms,ks,fr,lasts,Hs,rfl,sH,ix,iy,lm,lk,ok,la,q⟩:=h
 refine⟨_,(yac (yap (i:=3) sc_zO.nd rfl (Or.inl rfl) (yaV yab)) (yac (yap (i:=4) sc_zO.nd rfl (Or.inl rfl) yad) (yac (ygm PassesOwn.never (yan ye6 (pv 4) (pv 2) (yao _)) (yac (yap (i:=5) sc_zO.nd rfl (Or.inl rfl) (yaC yby (yak yas rfl T.Jc PySem.boot_len (yaa (pv 3) yab)) yad)) (yac (yaG (pcl G_zaN hr T.JZ (yaa (ya4 ycI (pv 5) (ybW rfl T.JI) (yao _)) (yaa yat yab)))) (yac (yap (i:=6) sc_zO.nd rfl (Or.inl rfl) (pcl G_zaE hr T.QQ (yaa (pv 5) (yaa (pv 0) yab)))) (yac (yaG (ybe F.plainAttrs_list F.slot_list_append F.type_list_append yaP (pv 3) (yaa (yaF (yaa (pv 4) (yaa (pv 6) (yaa (pcl G_zaE hr T.QQ (yaa (pv 5) (yaa (pv 1) yab))) yab)))) yab))) (yaf (yqL (i:=4) sc_zO.nd rfl (Or.inl rfl) (pcl G_zR hr T.zR (yaa (pv 6) yab)) yrh))))))) (yaf (yaj (pv 3)))))),?_⟩
 walk_at ""
 refine⟨Nat.zero_le _,λD hD=>?_⟩
 walk_at ""
 refine⟨λm σ H'=>∃ i,m=fr.length - i/\i<=fr.length/\(∃ o1 o2,σ=[some x,some y,some (.int lasts),some (.ref D),some (.int (bg fr i)),o1,o2])/\Same H H'/\∃ ys,H' D=some (.lst ys)/\Iss (gp Hs H H' D) ys (yjn fr i),⟨fr.length,0,rfl,Nat.zero_le _,⟨_,_,rfl⟩,yag hD _,[],yae,yaO _⟩,?_⟩
 rintro m σ H' ⟨i,rfl,hi,⟨o1,o2,rfl⟩,sm,ys,hd,iss⟩
 walk_at ""
 refine i_d (λh=>?_) λh=>?_
 ·have hi:i < fr.length:=by
   rcases Nat.lt_or_ge i fr.length with z | z
   ·exact z
   ·have e:i=fr.length:=by omega
    rw[e] at h
    have:=ok.hi
    omega
  have l1:=iss.len
  have l2:(yjn fr i).length=i:=by unfold yjn;rw[List.length_map,List.length_range]
  have l3:=ok.len
  refine⟨fun σ' H''=>∃ o1 o2,σ'=[some x,some y,some (.int lasts),some (.ref D),some (.int (bg fr (i+1))),o1,o2]/\Same H H''/\∃ ys,H'' D=some (.lst ys)/\Iss (gp Hs H H'' D) ys (yjn fr (i+1)),fun σ' H'' ⟨o1,o2,e,z⟩=>⟨fr.length - (i+1),by omega,i+1,rfl,by omega,⟨o1,o2,e⟩,z⟩,?_⟩
  walk_at ""
  refine⟨D,ys,rfl,.inl (SqL.of hd),?_⟩
  walk_at ""
  rw[show((ys.length:Int)+1)=((i+1:Nat):Int) by omega]
  refine nd (by rw[decide_eq_true_eq];omega) ?_
  obtain⟨la1,la2⟩:=la i hi
  have sH':=sH.trans sm
  walk_at ""
  refine⟨i+1,x,ms,_,Hs,rfl,sH',ix,lm,la1,λmv H1 s1 im=>?_⟩
  have hd1:=s1 _ _ hd
  walk_at ""
  refine⟨.inl ⟨rfl,_,SqL.of hd1⟩,?_⟩
  walk_at ""
  refine⟨i+1,y,ks,_,Hs,rfl,sH'.trans s1,iy,lk,la2,λkv H2 s2 ik=>?_⟩
  have:kv=.int fr[i].2:=by rw[cvT,nT,Is] at ik;exact ik.1
  subst this
  walk_at ""
  refine⟨by show 3<=sizeLine;decide,λp hp=>?_⟩
  have s3:=yag hp (.tup [.int (bg fr i),mv,.int fr[i].2])
  have s13:=(s1.trans s2).trans s3
  walk_at ""
  have hd3:=s13 _ _ hd
  refine ych hd3 (yaz (by omega)) ?_
  have sm3:=sm.trans s13
  have sm4:Same H (upd (upd H2 p (.tup [.int (bg fr i),mv,.int fr[i].2])) D (.lst (ys++[.ref p]))):=yaS hD sm3
  walk_at ""
  refine⟨mv,fr[i].1,rfl,im.same (sH.trans sm4),ok.m _ (List.getElem_mem hi),?_⟩
  walk_at ""
  refine⟨_,_,by rw[yiC hi];rfl,sm4,_,yae,?_⟩
  rw[ymZ hi]
  have g1:Same (gp Hs H H' D) (gp Hs H (upd (upd H2 p (.tup [.int (bg fr i),mv,.int fr[i].2])) D (.lst (ys++[.ref p]))) D):=(ybc s13).trans ydX
  have np:p≠D:=λz=>by rw[z,s2 _ _ hd1] at hp;cases hp
  exact(iss.same g1).app (yau (yrj (yhA np ((sm.trans (s1.trans s2)).free hp) (by rw[yaB np];exact yae)) (im.same (yfk sH))) (yaO _))
 ·have e:i=fr.length:=by
   rcases Nat.lt_or_ge i fr.length with z | z
   ·exact absurd (ok.lo i z) h
   ·omega
  subst e
  walk_at ""
  exact q _ _ sm (ybU (by rw[yaI hD];exact hd) (iss.same yc4))
noncomputable def yeq (m k v f:V):List (Str×V):=[("metre_changes",m),("key_changes",k),("voices",v),("bar_frames",f)]
noncomputable def TuneIs (t:Ad)(H:Hp)(x:V)(vss:List (List Sn))(fr:List Fr):Prop:=∃ a dx m k v f,x=.ref a/\H a=some (.ins t.RF dx (yeq m k v f))/\VosIs t H v vss/\Is H f (ybG fr)
theorem TuneIs.same {H H':Hp}{x:V}{vss:List (List Sn)}{fr:List Fr}(h:TuneIs t H x vss fr)(s:Same H H'):TuneIs t H' x vss fr:=by
 obtain⟨a,dx,m,k,v,f,e,ea,hv,hf⟩:=h
 exact⟨a,dx,m,k,v,f,e,s _ _ ea,hv.same s,hf.same s⟩
theorem yhF {A B H H':Hp}(s:Same A B):Same (nw A H H') (nw B H H'):=λc u e=>by
 cases h:H c with
 | none=>rw[yaI h] at e ⊢;exact e
 | some v=>rw[ybM h] at e ⊢;exact s _ _ e
structure yfv (vss:List (List Sn)):Prop where
 n1:1<=vss.length
 n2:vss.length<=2
 len:∀ ss∈vss,ss.length<=96
 pos:∀ ss∈vss,Pos ss
 sum:∀ ss∈vss,ybu ss<=1000
noncomputable def ycZ (vss:List (List Sn)):Int:=vss.foldl (λm ss=>max m (ybu ss)) 0
theorem yfP {vss:List (List Sn)}(n1:1<=vss.length)(pos:∀ ss∈vss,Pos ss){m:Int}(h1:m∈vss.map ybu)(h2:∀ a∈vss.map ybu,a<=m):m=ycZ vss:=by
 have key:∀ (l:List (List Sn)) (z:Int),l.foldl (λm ss=>max m (ybu ss)) z=z∨l.foldl (λm ss=>max m (ybu ss)) z∈l.map ybu:=λl=>by
  induction l with
  | nil=>exact λz=>.inl rfl
  | cons s l ih =>
   intro z
   rcases ih (max z (ybu s)) with e | e
   ·rw[List.foldl_cons,e]
    rcases Int.le_total z (ybu s) with q | q
    ·rw[Int.max_eq_right q];exact .inr (by simp)
    ·rw[Int.max_eq_left q];exact .inl rfl
   ·exact .inr (List.mem_cons_of_mem _ e)
 have ge:∀ (l:List (List Sn)) (z:Int),z<=l.foldl (λm ss=>max m (ybu ss)) z/\∀ a∈l.map ybu,a<=l.foldl (λm ss=>max m (ybu ss)) z:=λl=>by
  induction l with
  | nil=>exact λz=>⟨Int.le_refl _,λa h=>nomatch h⟩
  | cons s l ih =>
   intro z
   obtain⟨a,b⟩:=ih (max z (ybu s))
   have:=Int.le_max_left z (ybu s)
   have:=Int.le_max_right z (ybu s)
   refine⟨by rw[List.foldl_cons];omega,λc hc=>?_⟩
   rw[List.map_cons] at hc
   rcases List.mem_cons.mp hc with rfl | hc
   ·rw[List.foldl_cons];omega
   ·exact b c hc
 have g:=(ge vss 0).2 m h1
 have m0:0<=m:=by obtain⟨ss,hs,rfl⟩:=List.mem_map.mp h1;exact ybO (pos ss hs)
 unfold ycZ
 rcases key vss 0 with e | e
 ·rw[e] at g ⊢;omega
 ·have:=h2 _ e;omega
theorem yof {ss:List Sn}(h:Pos ss){s:Sn}(hs:s∈ss):snL s<=ybu ss:=by
 obtain⟨a,b,rfl⟩:=List.append_of_mem hs
 have h1:=ybO (ss:=a) λz hz=>h z (List.mem_append_left _ hz)
 have h2:=ybO (ss:=b) λz hz=>h z (List.mem_append_right _ (List.mem_cons_of_mem _ hz))
 have e:ybu (s :: b)=snL s+ybu b:=by simp[ybu]
 rw[ybL,e]
 omega
noncomputable def ykA (t:Ad):Sp:=λvs H Q _=>∃ (a dx:Addr) (fs:List (Str×V)) (v:V) (vss:List (List Sn)),vs=[.ref a]/\H a=some (.ins t.RF dx fs)/\fs.lookup (Str.ofString "voices")=some v/\VosIs t H v vss/\yfv vss/\∀ H',Same H H'->Q (.int (ycZ vss)) H'
theorem yte (T:Txt K mg t)(G_zad:FnOk P w K mg base CX0 1 t.f_zad t.d_zad ["sounds"] (yiX t)):FnOk P w K mg base CX0 2 t.f_zW t.d_zW ["self"] (ykA t):=by
 refine T.zW.F.ok ysn (λvs H Q E h=>?_) (λ_ _ _ s H vs Q E hr h=>?_)
 ·obtain⟨_,_,_,_,_,rfl,_⟩:=h;rfl
 have hu:=ybs hr
 obtain⟨a,dx,fs,v,vss,rfl,ea,lk,⟨l,ys,rfl,el,al⟩,gv,q⟩:=h
 refine⟨_,(yaf (yaj (yak (yhW hr.hd) rfl T.Qs yi7 (yaa (ya8 (yaH (NB:=["sounds"]) (cap:=[none]) rfl) rfl (yaY (ybx (pv 0) rfl)) (λ_ _ _ _=>(yax (i:=0) (show List.Nodup (["sounds"]:List Str) by decide) rfl (Or.inl rfl))) (λ_ _ _ _=>yaJ) (λ_ _ _ _=>(pcl G_zad hr T.Re (yaa (pv 0) yab)))) yab)))),?_⟩
 walk_at ""
 refine⟨a,_,dx,_,_,rfl,ea,T.Jb,T.Ji,lk,?_⟩
 walk_at ""
 have:=gv.n2
 refine⟨l,rfl,⟨_,SqL.of el⟩,λD hD=>ybD (λss=>V.int (ybu ss)) el al hD (by omega) (λx ss H' Q' hs sm rx q'=>?_) λH' sm hd=>yc5 ⟨D,vss.map ybu,rfl,SqL.of (by rw[List.map_map];exact hd),by rw[List.length_map];exact gv.n1,λm h1 h2=>?_⟩⟩
 ·obtain⟨b,zs,rfl,eb,az⟩:=rx
  walk_at ""
  have p:=gv.pos ss hs
  have sm0:=gv.sum ss hs
  exact⟨b,zs,ss,rfl,sm _ _ eb,az.imp λ_ _ _ z=>z.same sm,by have:=gv.len ss hs;omega,λs h=>⟨by have:=p s h;omega,by have:=yof p h;omega⟩,q'⟩
 ·rw[yfP gv.n1 gv.pos h1 h2]
  exact q _ sm
noncomputable def ymx (t:Ad):Sp:=λvs H Q _=>∃ (x:V) (vss:List (List Sn)) (fr:List Fr),vs=[x]/\TuneIs t H x vss fr/\Q (.int vss.length) H
theorem yro (T:Txt K mg t):FnOk P w K mg base CX0 1 t.f_zag t.d_zag ["self"] (ymx t):=by
 refine T.QP.F.ok yqM (λvs H Q E h=>?_) (λ_ _ _ s H vs Q E hr h=>?_)
 ·obtain⟨_,_,_,rfl,_⟩:=h;rfl
 have hu:=ybs hr
 obtain⟨x,vss,fr,rfl,⟨a,dx,m,k,v,f,rfl,ea,⟨l,ys,rfl,el,al⟩,hf⟩,q⟩:=h
 refine⟨_,(yaf (yaj (yak yas rfl T.Jc PySem.boot_len (yaa (ybx (pv 0) rfl) yab)))),?_⟩
 walk_at ""
 refine⟨a,_,dx,_,_,rfl,ea,T.Jb,T.Ji,rfl,?_⟩
 walk_at ""
 refine⟨l,ys,rfl,.inl (SqL.of el),?_⟩
 rw[al.1]
 exact q
noncomputable def yrU (t:Ad):Sp:=λvs H Q _=>∃ (x:V) (vss:List (List Sn)) (fr:List Fr) (Hs:Hp),vs=[x]/\Same Hs H/\TuneIs t Hs x vss fr/\∀ y H',Same H H'->Is (nw Hs H H') y (ybG fr)->Q y H'
theorem ytQ (T:Txt K mg t):FnOk P w K mg base CX0 1 t.f_zz t.d_zz ["self"] (yrU t):=by
 refine T.zz.F.ok ytk (λvs H Q E h=>?_) (λ_ _ _ s H vs Q E hr h=>?_)
 ·obtain⟨_,_,_,_,rfl,_⟩:=h;rfl
 have hu:=ybs hr
 obtain⟨x,vss,fr,Hs,rfl,sH,⟨a,dx,m,k,v,f,rfl,ea,hv,hf⟩,q⟩:=h
 obtain⟨l,ys,rfl,el,is⟩:∃ l ys,f=.ref l/\Hs l=some (.lst ys)/\Iss Hs ys (yjn fr fr.length):=by rw[ybG,Is] at hf;exact hf
 refine⟨_,(yaf (yaj (yaT ybR rfl T.Jq ybJ (yaa (ybx (pv 0) rfl) yab)))),?_⟩
 walk_at ""
 refine⟨a,_,dx,_,_,rfl,sH _ _ ea,T.Jb,T.Jh,rfl,?_⟩
 walk_at ""
 refine⟨l,ys,rfl,.inl (SqL.of (sH _ _ el)),λp hp=>q _ _ (yag hp _) (ybU (by rw[yaI hp];exact yae) (is.same (yee sH)))⟩
noncomputable def ygB (t:Ad):Sp:=λvs H Q _=>∃ (x:V) (vss:List (List Sn)) (fr:List Fr) (n:Nat) (h:n < vss.length) (Hs:Hp),vs=[x,.int (n+1:Nat)]/\Same Hs H/\TuneIs t Hs x vss fr/\yfv vss/\∀ y H',Same H H'->Is (nw Hs H H') y (vT vss[n])->Q y H'
theorem yto (T:Txt K mg t)(G_zat:FnOk P w K mg base CX0 2 t.f_zat t.d_zat ["thing","least","most"] ycE)(G_zaP:∀ i,FnOk P w K mg base CX0 1 (tF2 t i) (tD2 t i) ["self"] (ygR t i)):FnOk P w K mg base CX0 3 t.f_zd t.d_zd ["self","voice"] (ygB t):=by
 refine T.zd.F.ok yud (λvs H Q E h=>?_) (λ_ _ _ s H vs Q E hr h=>?_)
 ·obtain⟨_,_,_,_,_,_,rfl,_⟩:=h;rfl
 have hu:=ybs hr
 obtain⟨x,vss,fr,n,hn,Hs,rfl,sH,⟨a,dx,m,k,v,f,rfl,ea,⟨l,ys,rfl,el,al⟩,hf⟩,gv,q⟩:=h
 have ea':=sH _ _ ea
 have el':=sH _ _ el
 refine⟨_,(yac (yaK (ybl (yaU (pcl G_zat hr T.Qj (yaa (pv 1) (yaa yad (yaa (yak yas rfl T.Jc PySem.boot_len (yaa (ybx (pv 0) rfl) yab)) yab)))))) (yaf (yaj (yaV yab))) yav) (yaf (yaj (ya8 (yaH (NB:=["sound"]) (cap:=[none]) rfl) rfl (yaY (yaq yaD (ybx (pv 0) rfl) (yaC ydC (pv 1) yad) (λ_ _=>rfl))) (λ_ _ _ _=>(yax (i:=0) (show List.Nodup (["sound"]:List Str) by decide) rfl (Or.inl rfl))) (λ_ _ _ _=>yaJ) (λ_ _ _ _=>(yno (pv 0) (ypj T) (yo2 T) G_zaP (hr.mono (by first | decide | omega)) (ypc T) ycx)))))),?_⟩
 walk_at ""
 refine⟨a,_,dx,_,_,rfl,ea',T.Jb,T.Ji,rfl,?_⟩
 walk_at ""
 refine⟨l,ys,rfl,.inl (SqL.of el'),?_⟩
 have ly:=al.1
 refine yc5 (am ⟨by omega,by omega⟩ (ya0 (i_F ?_)))
 walk_at ""
 refine⟨a,_,dx,_,_,rfl,ea',T.Jb,T.Ji,rfl,?_⟩
 walk_at ""
 obtain⟨z,ez,b,zs,rfl,eb,az⟩:=al.2 n hn
 rw[show((n+1:Nat):Int) - 1=(n:Nat) by omega]
 refine ybf (SqL.of el') (yai ez) ?_
 walk_at ""
 have eb':=sH _ _ eb
 refine⟨b,rfl,⟨_,SqL.of eb'⟩,λD hD=>yge (R:=So t) (S:=λH y s=>Is H y (snT s)) yd8 ydU (λs=>s) sH eb' az hD (by have:=gv.len _ (List.getElem_mem hn);omega) (λx s H' Hs' Q' hs s1 s2 s3 rx q'=>?_) λzs H' sm hd ay=>?_⟩
 ·walk_at ""
  exact yp7 s3 rx λy H'' s4 i4=>q' _ _ s4 (i4.same (yhF (yjo _)))
 ·rw[List.map_id'] at ay
  exact q _ _ sm (ybU (by rw[yaI hD];exact hd) ((yc1 ay).same yc4))
structure yoi (ms ks:List (Nat×Cv)) (vss:List (List Sn)) (fr:List Fr):Prop where
 m:yjL true ms
 k:yjL false ks
 v:GoodVs vss
 f:OkF fr (ycZ (vss.map yaQ))
 at_:∀ i (h:i < fr.length),yd0 (i+1) ms=some (.m fr[i].1)/\yd0 (i+1) ks=some (.k fr[i].2)
 lm:∃ c,ms.getLast?=some c/\c.1<=fr.length
 lk:∃ c,ks.getLast?=some c/\c.1<=fr.length
theorem ykC {ss:List Sn}(h:Pos ss):Pos (ycW ss):=by
 unfold ycW
 split
 ·exact λs hs=>h s (List.dropLast_subset _ hs)
 ·exact h
theorem yfQ {ss:List Sn}(h:Pos ss):ybu (ycW ss)<=ybu ss:=by
 unfold ycW
 split
 ·rw[List.dropLast_eq_take];exact yhc h _
 ·exact Int.le_refl _
theorem ydo {vss:List (List Sn)}(h:GoodVs vss):yfv (vss.map yaQ) where
 n1:=by rw[List.length_map];exact h.1
 n2:=by rw[List.length_map];exact h.2.1
 len ss hs:=by
  obtain⟨s,h1,rfl⟩:=List.mem_map.mp hs
  have:=ygH s
  have:=(h.2.2 s h1).n2
  omega
 pos ss hs:=by
  obtain⟨s,h1,rfl⟩:=List.mem_map.mp hs
  exact ykC (yc9 (h.2.2 s h1).pos)
 sum ss hs:=by
  obtain⟨s,h1,rfl⟩:=List.mem_map.mp hs
  have p:=(h.2.2 s h1).pos
  have a:=yfQ (yc9 p)
  have b:=ycN s
  have c:=(h.2.2 s h1).sum
  show ybu (ycW (ya2 s))<=1000
  omega
noncomputable def TuneHas (t:Ad)(H:Hp)(x:V)(ms ks:List (Nat×Cv)):Prop:=∃ a dx m k v f,x=.ref a/\H a=some (.ins t.RF dx (yeq m k v f))/\Is H m (csT ms)/\Is H k (csT ks)
theorem TuneHas.same {H H':Hp}{x:V}{ms ks:List (Nat×Cv)}(h:TuneHas t H x ms ks)(s:Same H H'):TuneHas t H' x ms ks:=by
 obtain⟨a,dx,m,k,v,f,e,ea,hm,hk⟩:=h
 exact⟨a,dx,m,k,v,f,e,s _ _ ea,hm.same s,hk.same s⟩
noncomputable def yiq (t:Ad):Sp:=λvs H Q _=>∃ (a dx:Addr) (mx kx vx:V) (ms ks:List (Nat×Cv)) (vss:List (List Sn)) (fr:List Fr) (Hs H0:Hp),vs=[.ref a,mx,kx,vx]/\H a=some (.ins t.RF dx [])/\H0 a=none/\Same H0 H/\Same Hs H0 /\
 Is Hs mx (csT ms)/\Is Hs kx (csT ks)/\Is Hs vx (vsT vss)/\yoi ms ks vss fr/\∀ H',Same H0 H'->TuneIs t (nw Hs H0 H') (.ref a) (vss.map yaQ) fr->TuneHas t (nw Hs H0 H') (.ref a) ms ks->Q .non H'
theorem ys6 (T:Txt K mg t)(G_zV:FnOk P w K mg base CX0 6 t.f_zV t.d_zV ["things","is_good"] (yhi t))(G_zak:FnOk P w K mg base CX0 8 t.f_zak t.d_zak ["things"] (yfB t))(G_zO:FnOk P w K mg base CX0 3 t.f_zO t.d_zO ["metres","keys","lasts"] yjh)
  (G_zW:FnOk P w K mg base CX0 2 t.f_zW t.d_zW ["self"] (ykA t)) (G_zG:FnOk P w K mg base CX0 2 t.f_zG t.d_zG ["changes","bars"] yjW):FnOk P w K mg base CX0 9 t.f_zi t.d_zi ["self","metres","keys","voices"] (yiq t):=by
 refine T.zi.F.ok ytl (λvs H Q E h=>?_) (λ_ _ _ s H vs Q E hr h=>?_)
 ·obtain⟨_,_,_,_,_,_,_,_,_,_,_,rfl,_⟩:=h;rfl
 have hu:=ybs hr
 obtain⟨a,dx,mx,kx,vx,ms,ks,vss,fr,Hs,H0,rfl,ea,a0,s0,sH,im,ik,iv,ok,q⟩:=h
 refine⟨_,(yac (yd1 (pv 0) (pcl G_zV hr T.zV (yaa (pv 1) (yaa (ycV (v:=.ref t.f_zaC) rfl T.QD.M rfl) yab))) rfl) (yac (yd1 (pv 0) (pcl G_zV hr T.zV (yaa (pv 2) (yaa (ycV (v:=.ref t.f_zaK) rfl T.QE.M rfl) yab))) rfl) (yac (yd1 (pv 0) (pcl G_zak hr T.Ra (yaa (pv 3) yab)) rfl) (yac (yd1 (pv 0) (pcl G_zO hr T.zO (yaa (ybx (pv 0) rfl) (yaa (ybx (pv 0) rfl) (yaa (yb7 (pv 0) T.Jb T.QM G_zW (hr.mono (by first | decide | omega)) T.zW.B .nil ycx) yab)))) rfl) (yac (yaG (pcl G_zG hr T.zG (yaa (ybx (pv 0) rfl) (yaa (yak yas rfl T.Jc PySem.boot_len (yaa (ybx (pv 0) rfl) yab)) yab)))) (yaf (yaG (pcl G_zG hr T.zG (yaa (ybx (pv 0) rfl) (yaa (yak yas rfl T.Jc PySem.boot_len (yaa (ybx (pv 0) rfl) yab)) yab)))))))))),?_⟩
 walk_at ""
 refine⟨mx,ms,true,gp Hs H0 H a,rfl,ycz sH s0,im.same (yfk sH),ok.m,λy1 H1 s1 i1=>?_⟩
 have j1:=i1.same (yil sH s0 ea s1)
 have ea1:=s1 _ _ ea
 have s01:=s0.trans s1
 walk_at ""
 refine⟨a,_,dx,_,rfl,ea1,T.Jb,T.Je,by decide,?_⟩
 have w1:Same H0 (upd H1 a (.ins t.RF dx [("metre_changes",y1)])):=yaS a0 s01
 have e1:upd H1 a (.ins t.RF dx [("metre_changes",y1)]) a=some (.ins t.RF dx [("metre_changes",y1)]):=yae
 have k1:=j1.same (ydX (o:=.ins t.RF dx [("metre_changes",y1)]))
 rw[show yfq "metre_changes" y1 []=([("metre_changes",y1)]:List (Str×V)) from rfl]
 generalize upd H1 a (.ins t.RF dx [("metre_changes",y1)])=G1 at w1 e1 k1 ⊢
 walk_at ""
 refine⟨kx,ks,false,gp Hs H0 G1 a,rfl,ycz sH w1,ik.same (yfk sH),ok.k,λy2 H2 s2 i2=>?_⟩
 have j2:=i2.same (yil sH w1 e1 s2)
 walk_at ""
 refine⟨a,_,dx,_,rfl,s2 _ _ e1,T.Jb,T.Jf,by show 1 < 1000;decide,?_⟩
 have w2:Same H0 (upd H2 a (.ins t.RF dx [("metre_changes",y1),("key_changes",y2)])):=yaS a0 (w1.trans s2)
 have e2:upd H2 a (.ins t.RF dx [("metre_changes",y1),("key_changes",y2)]) a=some (.ins t.RF dx [("metre_changes",y1),("key_changes",y2)]):=yae
 have k2:=j2.same (ydX (o:=.ins t.RF dx [("metre_changes",y1),("key_changes",y2)]))
 have k12:=k1.same ((ybc s2).trans (ydX (o:=.ins t.RF dx [("metre_changes",y1),("key_changes",y2)])))
 rw[show yfq "key_changes" y2 [("metre_changes",y1)]=([("metre_changes",y1),("key_changes",y2)]:List (Str×V)) from rfl]
 generalize upd H2 a (.ins t.RF dx [("metre_changes",y1),("key_changes",y2)])=G2 at w2 e2 k2 k12 ⊢
 walk_at ""
 refine⟨vx,vss,gp Hs H0 G2 a,rfl,ycz sH w2,iv.same (yfk sH),ok.v,λy3 H3 s3 i3=>?_⟩
 have j3:=i3.same (yil sH w2 e2 s3)
 walk_at ""
 refine⟨a,_,dx,_,rfl,s3 _ _ e2,T.Jb,T.Ji,by show 2 < 1000;decide,?_⟩
 rw[show yfq "voices" y3 [("metre_changes",y1),("key_changes",y2)]=([("metre_changes",y1),("key_changes",y2),("voices",y3)]:List (Str×V)) from rfl]
 have w3:Same H0 (upd H3 a (.ins t.RF dx [("metre_changes",y1),("key_changes",y2),("voices",y3)])):=yaS a0 (w2.trans s3)
 have e3:upd H3 a (.ins t.RF dx [("metre_changes",y1),("key_changes",y2),("voices",y3)]) a=some (.ins t.RF dx [("metre_changes",y1),("key_changes",y2),("voices",y3)]):=yae
 have g3:Same (gp Hs H0 H3 a) (gp Hs H0 (upd H3 a (.ins t.RF dx [("metre_changes",y1),("key_changes",y2),("voices",y3)])) a):=ydX
 have k3:=j3.same g3
 have k13:=k12.same ((ybc s3).trans g3)
 have k23:=k2.same ((ybc s3).trans g3)
 generalize upd H3 a (.ins t.RF dx [("metre_changes",y1),("key_changes",y2),("voices",y3)])=G3 at w3 e3 k3 k13 k23 g3 ⊢
 have o3:Same (gp Hs H0 G3 a) G3:=ycz sH w3
 walk_at ""
 refine⟨a,_,dx,_,_,rfl,e3,T.Jb,T.Je,rfl,?_⟩
 walk_at ""
 refine⟨a,_,dx,_,_,rfl,e3,T.Jb,T.Jf,rfl,?_⟩
 walk_at ""
 refine⟨a,dx,_,rfl,e3,rfl,?_⟩
 walk_at ""
 refine⟨a,dx,_,_,_,rfl,e3,rfl,k3.same o3,ydo ok.v,λH4 s4=>?_⟩
 walk_at ""
 have w4:=w3.trans s4
 have g4:Same (gp Hs H0 G3 a) (gp Hs H0 H4 a):=ybc s4
 refine⟨y1,y2,ms,ks,fr,_,gp Hs H0 H4 a,rfl,ycz sH w4,k13.same g4,k23.same g4,ok.m.len,ok.k.len,ok.f,ok.at_,λy5 H5 s5 i5=>?_⟩
 have e4:=s4 _ _ e3
 have j5:=i5.same (yil sH w4 e4 s5)
 have e5:=s5 _ _ e4
 walk_at ""
 refine⟨a,_,dx,_,rfl,e5,T.Jb,T.Jh,by show 3 < 1000;decide,?_⟩
 rw[show yfq "bar_frames" y5 [("metre_changes",y1),("key_changes",y2),("voices",y3)]=yeq y1 y2 y3 y5 from rfl]
 have w5:Same H0 (upd H5 a (.ins t.RF dx (yeq y1 y2 y3 y5))):=yaS a0 (w4.trans s5)
 have e6:upd H5 a (.ins t.RF dx (yeq y1 y2 y3 y5)) a=some (.ins t.RF dx (yeq y1 y2 y3 y5)):=yae
 have g5:Same (gp Hs H0 H5 a) (gp Hs H0 (upd H5 a (.ins t.RF dx (yeq y1 y2 y3 y5))) a):=ydX
 have f1:=k13.same (g4.trans ((ybc s5).trans g5))
 have f2:=k23.same (g4.trans ((ybc s5).trans g5))
 have f3:=k3.same (g4.trans ((ybc s5).trans g5))
 have f5:=j5.same g5
 generalize upd H5 a (.ins t.RF dx (yeq y1 y2 y3 y5))=G5 at w5 e6 f1 f2 f3 f5 ⊢
 have o5:Same (gp Hs H0 G5 a) G5:=ycz sH w5
 obtain⟨l5,ys5,rfl,el5,is5⟩:∃ l ys,y5=.ref l/\G5 l=some (.lst ys)/\Iss G5 ys (yjn fr fr.length):=by have:=f5.same o5;rw[ybG,Is] at this;exact this
 have ln:ys5.length=fr.length:=by rw[is5.len];unfold yjn;rw[List.length_map,List.length_range]
 obtain⟨cm,hm1,hm2⟩:=ok.lm
 obtain⟨ck,hk1,hk2⟩:=ok.lk
 walk_at ""
 refine⟨a,_,dx,_,_,rfl,e6,T.Jb,T.Je,rfl,?_⟩
 walk_at ""
 refine⟨a,_,dx,_,_,rfl,e6,T.Jb,T.Jh,rfl,?_⟩
 walk_at ""
 refine⟨l5,ys5,rfl,.inl (SqL.of el5),?_⟩
 walk_at ""
 refine⟨y1,ms,ys5.length,cm,rfl,f1.same o5,hm1,by omega,?_⟩
 walk_at ""
 refine⟨a,_,dx,_,_,rfl,e6,T.Jb,T.Jf,rfl,?_⟩
 walk_at ""
 refine⟨a,_,dx,_,_,rfl,e6,T.Jb,T.Jh,rfl,?_⟩
 walk_at ""
 refine⟨l5,ys5,rfl,.inl (SqL.of el5),?_⟩
 walk_at ""
 refine⟨y2,ks,ys5.length,ck,rfl,f2.same o5,hk1,by omega,?_⟩
 exact q _ w5 ⟨a,dx,y1,y2,y3,_,rfl,by rw[yaI a0];exact e6,f3.same yc4,f5.same yc4⟩ ⟨a,dx,y1,y2,y3,_,rfl,by rw[yaI a0];exact e6,f1.same yc4,f2.same yc4⟩
noncomputable def eH:Hp:=λ_=>none
theorem yt5 {H:Hp}:Same eH H:=λ_ _ e=>nomatch e
theorem ybw {α:Type}{l:List α}{i:Nat}{d:α}(h:i < l.length):l.getD i d=l[i]:=by rw[List.getD_eq_getElem?_getD,List.getElem?_eq_getElem h];rfl
theorem yl3 {a:Addr}{xs:List V}{g:TG}{tb:TS}{D:yex}{σ:St}{H:Hp}(Pv:Nat->St->Hp->Prop)(h0:Pv 0 σ H)(hl:∀ i σ H,i<=xs.length->Pv i σ H->SqL K H a xs)
  (hs:∀ i x σ H p (N:St->Hp->Prop),(∀ σ' H',Pv (i+1) σ' H'->N σ' H')->xs[i]?=some x->Pv i σ H->H p=none->g (.ref p) σ (upd H p (.tup [.int (i:Nat),x])) fun σ2 H2=>tb { D with nx:=N,ct:=N,bk:=D.nx } σ2 H2) (hd:∀ σ H,Pv xs.length σ H->D.nx σ H):ypK (Ite K a) g tb D σ H :=
 ynG Pv h0 hl (λi x σ H p hx pv hp=>hs i x σ H p _ (λ_ _ z=>z) hx pv hp) hd
theorem yuU {x:V}{s:Sn}{H:Hp}(h:Is H x (snT s)):∃ a ys,x=.ref a/\H a=some (.tup (.str (if isR s then "rest" else "tones") :: ys))/\(isR s=true->ys[0]?=some (.int (snL s)))/\(isR s=false->ys[1]?=some (.int (snL s))):=by
 cases s with
 | rest n=>obtain⟨a,rfl,ea⟩:=h.rest;exact⟨a,_,rfl,ea,λ_=>rfl,nofun⟩
 | tones ps n wd op cl=>obtain⟨a,y,rfl,ea,_⟩:=h.tones;exact⟨a,_,rfl,ea,nofun,λ_=>rfl⟩
theorem yqf {Hs H0 H H':Hp}{D:Addr}{u0:HO}(sm:Same H0 H)(hd:H D=some u0):Same (fr H H') (gp Hs H0 H' D):=λc u e=>by
 obtain⟨n,e⟩:=ya9 e
 unfold gp
 rw[yaI (sm.free n),yeY (λz=>by rw[z,hd] at n;cases n)]
 exact e
theorem ycM {α:Type}{f:α->Th}:yfr (λH x u=>Is H x (f u)):=λs h=>h.same s
section
variable {α:Type}
theorem ynb {a D:Addr}{xs:List V}{us:List α}{te:TE}{Fin:Hp->Prop}{o:Option V}{r:St}{H:Hp}{R:V->α->Prop}(f:α->Th)(ha:H a=some (.lst xs))(al:Al R xs us)(hD:H D=none)(hz:us.length<=900)
  (hte:∀ x u (H':Hp) (Q':VK),u∈us->Same H H'->R x u->(∀ y H'',Same H' H''->Is (fr H' H'') y (f u)->Q' y H'')->te (some x :: r) H' Q') (fin:∀ H',Same H H'->Is (fr H H') (.ref D) (.ls (us.map f))->Fin H') :
  ∃ W:Nat->Nat->St->Hp->Prop,(∃ m,W 0 m (o :: r) (upd H D (.lst [])))/\ydG (Itl K a) (ybZ 0) yft te D Fin W:=by
 refine ycm (xs:=xs) (λi σ' H'=>(∃ o,σ'=o :: r)/\Acc (λH x u=>Is H x (f u)) eH H H' D (us.take i)) ⟨⟨_,rfl⟩,Acc.nil hD⟩ (λ_ _ _ _ h=>SqL.of (h.2.1 _ _ ha)) ?_ ?_
 ·rintro i x σ' H' N hN hx ⟨⟨o,rfl⟩,sm,kv,hd,ak⟩
  have hi:i < us.length:=by have:=(List.getElem?_eq_some_iff.mp hx).1;rw[al.1] at this;exact this
  obtain⟨x',e,rx⟩:=al.2 i hi
  rw[hx] at e
  cases e
  refine ybj (ydk (i_T (hte x us[i] H' _ (List.getElem_mem hi) sm rx λy H2 t2 iy=>⟨kv,t2 _ _ hd,?_,hN _ _ ⟨⟨_,rfl⟩,?_⟩⟩)))
  ·rw[ak.1,List.length_take]
   exact yaz (by omega)
  ·rw[List.take_succ_eq_append_getElem hi]
   exact Acc.put (R:=λH x u=>Is H x (f u)) ycM hD (sm.trans t2) (ak.imp λ_ _ _ z=>z.same (ybc t2)) (iy.same (yqf sm hd))
 ·rintro σ' H' ⟨_,sm,kv,hd,ak⟩
  rw[al.1,List.take_length] at ak
  exact fin _ sm (ybU (by rw[ybB hD];exact hd) ((yc1 ak).same yc4))
end
structure Dr (K:PySem.W.Frag) (a tp:Addr) (ns:List Int) (H:Hp) (N:Nat):Prop where
 src:Src K a tp ns H
 sm:ytR ns
 tape:Tape H tp N
section
variable {a tp:Addr} {ns:List Int} {H H':Hp} {N M:Nat}
theorem Same.tt {c:Addr}(s:Same H H'):SameT c H H':=λb u _ e=>s b u e
theorem Dr.same (d:Dr K a tp ns H N)(s:Same H H'):Dr K a tp ns H' N:=⟨d.src.sameT (Same.tt s),d.sm,d.tape.same s⟩
theorem Dr.up (d:Dr K a tp ns H N)(l:N<=M):Dr K a tp ns H M:=⟨d.src,d.sm,d.tape.up l⟩
theorem Dr.some (d:Dr K a tp ns H N):∃ u,H tp=some u:=by obtain⟨n,_,e⟩:=d.tape;exact⟨_,e⟩
theorem Dr.free (d:Dr K a tp ns H' N)(s:SameT tp H H'){p:Addr}(hp:H' p=none):H p=none:=by obtain⟨u,e⟩:=d.some;exact yoW s e hp
theorem Dr.fr (d:Dr K a tp ns H N){H'':Hp}(s:SameT tp H' H''):Same (KD.fr H H') (KD.fr H H''):=by obtain⟨u,e⟩:=d.some;exact yuM e s
theorem ybK (d:Dr K a tp ns H' N)(s:SameT tp H H'){H'':Hp}:Same (KD.fr H' H'') (KD.fr H H''):=λb u h=>by
 obtain⟨n,e⟩:=ya9 h
 rw[ybB (d.free s n)]
 exact e
end
theorem ydT (xs:List V)(k:Nat):yes xs none (some (k:Int))=xs.take k:=by
 unfold yes
 rw[HT.sIx_none,HT.sIx_nat,List.drop_zero,Nat.sub_zero]
 rcases Nat.le_total k xs.length with h | h
 ·rw[Nat.min_eq_left h]
 ·rw[Nat.min_eq_right h,List.take_length,List.take_of_length_le h]
noncomputable def ycL (K:PySem.W.Frag):Sp:=λvs H Q _=>∃ (a tp:Addr) (ns:List Int) (N:Nat) (size:Int),vs=[.ref a,.ref tp,.int size]/\Dr K a tp ns H N/\N<=100000/\0 < size/\size<=1000/\∀ (v:Int) (H':Hp),0<=v->v < size->SameT tp H H'->Dr K a tp ns H' (N+1)->Q (.int v) H'
theorem yrd (T:Txt K mg t):FnOk P w K mg base CX0 1 t.f_zaj t.d_zaj ["_law_script","_law_tape","_law_size"] (ycL K):=by
 refine T.JJ.F.ok sc_zaj (λvs H Q E h=>?_) (λ_ _ _ s H vs Q E hr h=>?_)
 ·obtain⟨_,_,_,_,_,rfl,_⟩:=h;rfl
 obtain⟨a,tp,ns,N,size,rfl,⟨sc,sm,⟨n,nl,ht⟩⟩,hN,hs,hs2,q⟩:=h
 have hu:=ybs hr
 refine⟨_,(yac (yjR (yaC yby (yaq yaD (pv 1) yad (λ_ _=>rfl)) yad) (yoe (pv 1) yad yjV)) (yac (yaK (yan ycI (yaq yaD (pv 1) yad (λ_ _=>rfl)) (yak yas rfl T.Jc PySem.boot_len (yaa (pv 0) yab)) (yao _)) (yaf (yaj (yaC ydw (yaq yaD (pv 0) (yaC ydC (yaq yaD (pv 1) yad (λ_ _=>rfl)) yad) (λ_ _=>rfl)) (pv 2)))) yav) (yac (yap (i:=3) sc_zaj.nd rfl (Or.inl rfl) (yak yas rfl T.Jc PySem.boot_len (yaa (pv 0) yab))) (yac (yco PassesOwn.never rfl (yaY (ybr ycf (pv 0) ybX (ybF yad))) (yax (i:=4) sc_zaj.nd rfl (Or.inl rfl)) (yaf (yap (i:=3) sc_zaj.nd rfl (Or.inl rfl) (yaC ydw (yaC yby (yaC ycp (pv 3) yad) (pv 4)) yad)))) (yaf (yaj (yaC ydw (yaC ydw (yaC ycp (yaC yby (pv 3) yad) (yaC yby (yaC ycp (yaq yaD (pv 1) yad (λ_ _=>rfl)) (yaq yaD (pv 1) yad (λ_ _=>rfl))) yad)) yad) (pv 2)))))))),?_⟩
 walk_at ""
 refine ybf (SqL.of ht) (yai (j:=0) rfl) ?_
 walk_at ""
 refine⟨tp,_,0,0,rfl,rfl,ht,rfl,?_⟩
 rw[show([V.int (n:Int)]:List V).set 0 (V.int ((n:Int)+1))=[V.int ((n+1:Nat):Int)] by rw[Int.natCast_add];rfl]
 have s2:SameT tp H (upd H tp (.lst [V.int ((n+1:Nat):Int)])):=ykn
 have t2:upd H tp (.lst [V.int ((n+1:Nat):Int)]) tp=some (.lst [V.int ((n+1:Nat):Int)]):=yae
 generalize upd H tp (.lst [V.int ((n+1:Nat):Int)])=H2 at s2 t2 ⊢
 have sq:=(sc.sameT s2).sq
 have dr:Dr K a tp ns H2 (N+1):=⟨sc.sameT s2,sm,n+1,by omega,t2⟩
 have fin:∀ z:Int,0<=z%size/\z%size < size:=λz=>⟨Int.emod_nonneg _ (Int.ne_of_gt hs),Int.emod_lt_of_pos _ hs⟩
 walk_at ""
 refine ybf (SqL.of t2) (yai (j:=0) rfl) ?_
 walk_at ""
 refine⟨a,_,rfl,.inl sq,?_⟩
 walk_at ""
 refine i_d (λh=>?_) λh=>?_
 ·walk_at ""
  refine ybf (SqL.of t2) (yai (j:=0) rfl) ?_
  walk_at ""
  rw[List.length_map] at h
  have hn:n < ns.length:=by omega
  rw[show((n+1:Nat):Int) - 1=(n:Nat) by omega]
  refine ybf sq (yai (j:=n) (v:=.int ns[n]) (by rw[List.getElem?_map,List.getElem?_eq_getElem hn];rfl)) ?_
  walk_at ""
  exact i_I hs (q _ _ (fin _).1 (fin _).2 s2 dr)
 ·walk_at ""
  refine⟨a,_,rfl,.inl sq,?_⟩
  walk_at ""
  refine⟨4,rfl,a,_,rfl,sq,λp hp=>?_⟩
  rw[show(4:Int)=((4:Nat):Int) from rfl,ydT,← List.map_take]
  have s3:=SameT.trans s2 (Same.tt (yag hp (.lst ((ns.take 4).map V.int))))
  have t3:=yag hp (.lst ((ns.take 4).map V.int)) _ _ t2
  have dr3:=dr.same (yag hp (.lst ((ns.take 4).map V.int)))
  have p3:upd H2 p (.lst ((ns.take 4).map V.int)) p=some (.lst ((ns.take 4).map V.int)):=yae
  generalize upd H2 p (.lst ((ns.take 4).map V.int))=H3 at s3 t3 dr3 p3 ⊢
  refine⟨p,rfl,⟨_,SqL.of p3⟩,ycc (xs:=(ns.take 4).map V.int) (λi σ H'=>H'=H3/\∃ (z:Int) (o:Option V),σ=[some (.ref a),some (.ref tp),some (.int size),some (.int z),o]) ⟨rfl,_,_,rfl⟩ (λi σ H' _ p'=>by rw[p'.1];exact SqL.of p3) ?_ ?_⟩
  ·rintro i x σ H' N hN' hx ⟨rfl,z,o,rfl⟩
   rw[List.getElem?_map] at hx
   cases e:(ns.take 4)[i]? with
   | none=>rw[e] at hx;cases hx
   | some c =>
    rw[e] at hx
    cases hx
    walk_at ""
    exact hN' _ _ ⟨rfl,_,_,rfl⟩
  ·rintro σ H' ⟨rfl,z,o,rfl⟩
   walk_at ""
   refine ybf (SqL.of t3) (yai (j:=0) rfl) ?_
   walk_at ""
   refine ybf (SqL.of t3) (yai (j:=0) rfl) ?_
   have b0:((n+1:Nat):Int)*((n+1:Nat):Int)<=100001*100001:=Int.mul_le_mul (by omega) (by omega) (by omega) (by omega)
   have b1:0<=((n+1:Nat):Int)*((n+1:Nat):Int):=Int.mul_nonneg (by omega) (by omega)
   refine yeo (.inl ⟨by omega,by omega⟩) ?_
   walk_at ""
   refine yeo (.inr ⟨by omega,by omega⟩) ?_
   walk_at ""
   exact i_I hs (q _ _ (fin _).1 (fin _).2 s3 dr3)
noncomputable def metresL:List Mt:=[⟨4,4,[]⟩,⟨3,4,[]⟩,⟨2,4,[]⟩,⟨6,8,[]⟩,⟨7,8,[3,2,2]⟩,⟨5,8,[]⟩,⟨3,8,[]⟩,⟨2,2,[]⟩,⟨12,8,[]⟩,⟨3,4,[1,2]⟩,⟨9,8,[]⟩,⟨4,2,[]⟩,⟨7,8,[]⟩,⟨4,4,[1,1,1,1]⟩,⟨7,8,[2,2,3]⟩]
theorem yb6:∀ m∈metresL,yih m/\36<=ymD m:=by
 have key:∀ m∈metresL,(1<=m.tp/\m.tp<=12/\(m.bt=2∨m.bt=4∨m.bt=8)/\m.tp*(96 / m.bt)<=192/\(∀ g∈m.gs,1<=g/\g<=m.tp)/\(m.gs=[]∨m.gs.sum=m.tp)/\m.gs.length<=12)/\36<=m.tp*(96 / m.bt):=by decide
 exact λm hm=>let ⟨⟨a,b,c,d,e,f,g⟩,h⟩:=key m hm;⟨⟨a,b,c,d,e,f,g⟩,h⟩
noncomputable def yle (K:PySem.W.Frag):Sp:=λvs H Q _=>∃ (a tp:Addr) (ns:List Int) (N:Nat),vs=[.ref a,.ref tp]/\Dr K a tp ns H N/\N<=100000/\∀ (y:V) (m:Mt) (H':Hp),m∈metresL->SameT tp H H'->Dr K a tp ns H' (N+1)->Is (fr H H') y (mtT m)->Q y H'
theorem yuo (T:Txt K mg t)(G_zaj:FnOk P w K mg base CX0 1 t.f_zaj t.d_zaj ["_law_script","_law_tape","_law_size"] (ycL K)):FnOk P w K mg base CX0 2 t.f_zX t.d_zX ["_law_script","_law_tape"] (yle K):=by
 refine T.zX.F.ok sc_zX (λvs H Q E h=>?_) (λ_ _ _ s' H vs Q E hr h=>?_)
 ·obtain⟨_,_,_,_,rfl,_⟩:=h;rfl
 have hu:=ybs hr
 obtain⟨a,tp,ns,N,rfl,dr,hN,q⟩:=h
 refine⟨_,(yac (yap (i:=2) sc_zX.nd rfl (Or.inl rfl) (yaV (yaa (yaF (yaa yad (yaa yad (yaa (yaF yab) yab)))) (yaa (yaF (yaa yad (yaa yad (yaa (yaF yab) yab)))) (yaa (yaF (yaa yad (yaa yad (yaa (yaF yab) yab)))) (yaa (yaF (yaa yad (yaa yad (yaa (yaF yab) yab)))) (yaa (yaF (yaa yad (yaa yad (yaa (yaF (yaa yad (yaa yad (yaa yad yab)))) yab)))) (yaa (yaF (yaa yad (yaa yad (yaa (yaF yab) yab)))) (yaa (yaF (yaa yad (yaa yad (yaa (yaF yab) yab)))) (yaa (yaF (yaa yad (yaa yad (yaa (yaF yab) yab)))) yab)))))))))) (yac (yap (i:=2) sc_zX.nd rfl (Or.inl rfl) (yaC ygU (pv 2) (yaV (yaa (yaF (yaa yad (yaa yad (yaa (yaF yab) yab)))) (yaa (yaF (yaa yad (yaa yad (yaa (yaF (yaa yad (yaa yad yab))) yab)))) (yaa (yaF (yaa yad (yaa yad (yaa (yaF yab) yab)))) (yaa (yaF (yaa yad (yaa yad (yaa (yaF yab) yab)))) (yaa (yaF (yaa yad (yaa yad (yaa (yaF yab) yab)))) (yaa (yaF (yaa yad (yaa yad (yaa (yaF (yaa yad (yaa yad (yaa yad (yaa yad yab))))) yab)))) yab))))))))) (yaf (yaj (yaq yaD (yaC ygU (pv 2) (yaV (yaa (yaF (yaa yad (yaa yad (yaa (yaF (yaa yad (yaa yad (yaa yad yab)))) yab)))) yab))) (pcl G_zaj hr T.JJ (yaa (pv 0) (yaa (pv 1) (yaa yad yab)))) (λ_ _=>rfl)))))),?_⟩
 refine ycw (yf9 ?_)
 refine(show yos _ (.ls ((metresL.take 8).map mtT)) from ?_) _ _ _ λx H1 s1 i1=>?_
 ·refine ysf ?_ (by decide)
  repeat (first | exact ysa | refine yr5 ?_ ?_ | refine ysk ?_ (by decide) | exact yr9 rfl)
 rw[Is] at i1
 obtain⟨a1,xs,rfl,e1,is1⟩:=i1
 refine ybj (ycw (yf9 (yrY (ydf rfl ?_))))
 refine(show yos _ (.ls (((metresL.drop 8).take 6).map mtT)) from ?_) _ _ _ λy H2 s2 i2=>?_
 ·refine ysf ?_ (by decide)
  repeat (first | exact ysa | refine yr5 ?_ ?_ | refine ysk ?_ (by decide) | exact yr9 rfl)
 rw[Is] at i2
 obtain⟨b1,ys,rfl,e2,is2⟩:=i2
 have la:=is1.len
 have lb:=is2.len
 have l8:xs.length=8:=la
 have l6:ys.length=6:=lb
 have is12:Iss (fr H H2) (xs++ys) ((metresL.take 14).map mtT):=(is1.same (yay s2)).app (is2.same (ydm s1))
 refine⟨a1,b1,xs,ys,rfl,rfl,s2 _ _ (ya9 e1).2,(ya9 e2).2,by rw[l8,l6];decide,λc hc=>?_⟩
 have s3:=yag hc (.lst (xs++ys))
 have ec:upd H2 c (.lst (xs++ys)) c=some (.lst (xs++ys)):=yae
 have is3:=is12.same (yay s3)
 have s13:=(s1.trans s2).trans s3
 generalize upd H2 c (.lst (xs++ys))=H3 at s3 s13 ec is3 ⊢
 refine ybj (yo6 (yrY (yrY (ydf rfl ?_))))
 refine(show yos _ (.ls ((metresL.drop 14).map mtT)) from ?_) _ _ _ λz H4 s4 i4=>?_
 ·refine ysf ?_ (by decide)
  repeat (first | exact ysa | refine yr5 ?_ ?_ | refine ysk ?_ (by decide) | exact yr9 rfl)
 rw[Is] at i4
 obtain⟨d1,zs,rfl,e4,is4⟩:=i4
 have l1:zs.length=1:=is4.len
 have s14:=s13.trans s4
 have is5:Iss (fr H H4) (xs++ys++zs) (metresL.map mtT):=(is3.same (yay s4)).app (is4.same (ydm s13))
 refine⟨c,d1,_,zs,rfl,rfl,s4 _ _ ec,(ya9 e4).2,by rw[List.length_append,l8,l6,l1];decide,λp hp=>?_⟩
 have s5:=yag hp (.lst (xs++ys++zs))
 have ep:upd H4 p (.lst (xs++ys++zs)) p=some (.lst (xs++ys++zs)):=yae
 have is6:=is5.same (yay s5)
 have s15:=s14.trans s5
 generalize upd H4 p (.lst (xs++ys++zs))=H5 at s15 ep is6 ⊢
 walk_at ""
 refine⟨a,tp,ns,N,15,rfl,dr.same s15,hN,by decide,by decide,λv H6 v0 v1 s6 d6=>?_⟩
 obtain⟨u,et⟩:=dr.some
 have np:p≠tp:=λe=>by rw[e] at hp;rw[s14 _ _ et] at hp;cases hp
 obtain⟨y,ey,iy⟩:=is6.at' v.toNat (by rw[List.length_map];show v.toNat < 15;omega)
 rw[List.getElem_map] at iy
 have ea:=yai ey
 rw[Int.toNat_of_nonneg v0] at ea
 exact ybf (SqL.of (s6 _ _ np ep)) ea (q y _ H6 (List.getElem_mem _) (SameT.trans (Same.tt s15) s6) d6 (iy.same (dr.fr s6)))
theorem yfc {L:List Int}{v:Int}(v0:0<=v)(v1:v < L.length):atI (L.map V.int) v=some (.int (L[v.toNat]'(by omega))):=by
 have:=yai (xs:=L.map V.int) (j:=v.toNat) (v:=.int (L[v.toNat]'(by omega))) (by rw[List.getElem?_map,List.getElem?_eq_getElem (by omega)];rfl)
 rwa [Int.toNat_of_nonneg v0] at this
theorem Dr.ne {a tp p:Addr}{ns:List Int}{H:Hp}{N:Nat}(d:Dr K a tp ns H N)(hp:H p=none):p≠tp:=λe=>by
 obtain⟨u,et⟩:=d.some
 rw[e,et] at hp
 cases hp
theorem Dr.put {a tp D:Addr}{ns:List Int}{H H':Hp}{N M:Nat}{o:HO}(d:Dr K a tp ns H N)(hD:H D=none)(s:SameT tp H H')(d':Dr K a tp ns H' M):Dr K a tp ns (upd H' D o) M:=by
 refine⟨d.src.sameT (yd6 s hD),d.sm,?_⟩
 obtain⟨n,l,e⟩:=d'.tape
 exact⟨n,l,by rw[yaB (d.ne hD).symm];exact e⟩
noncomputable def yjj (K:PySem.W.Frag):Sp:=λvs H Q _=>∃ (a tp:Addr) (ns:List Int) (N:Nat),vs=[.ref a,.ref tp]/\Dr K a tp ns H N/\N<=90000/\∀ (n:Int) (H':Hp),2<=n->n<=150->SameT tp H H'->Dr K a tp ns H' (N+2)->Q (.int n) H'
theorem ysX (T:Txt K mg t)(G_zaj:FnOk P w K mg base CX0 1 t.f_zaj t.d_zaj ["_law_script","_law_tape","_law_size"] (ycL K)):FnOk P w K mg base CX0 2 t.f_zD t.d_zD ["_law_script","_law_tape"] (yjj K):=by
 refine T.zD.F.ok sc_zD (λvs H Q E h=>?_) (λ_ _ _ s' H vs Q E hr h=>?_)
 ·obtain⟨_,_,_,_,rfl,_⟩:=h;rfl
 have hu:=ybs hr
 obtain⟨a,tp,ns,N,rfl,dr,hN,q⟩:=h
 refine⟨_,(yac (yap (i:=2) sc_zD.nd rfl (Or.inl rfl) (yaV (yaa yad (yaa yad (yaa yad (yaa yad (yaa yad (yaa yad (yaa yad (yaa yad (yaa yad (yaa yad (yaa yad (yaa yad (yaa yad (yaa (yaC yby yad (pcl G_zaj hr T.JJ (yaa (pv 0) (yaa (pv 1) (yaa yad yab))))) yab)))))))))))))))) (yaf (yaj (yaq yaD (pv 2) (pcl G_zaj hr T.JJ (yaa (pv 0) (yaa (pv 1) (yaa yad yab)))) (λ_ _=>rfl))))),?_⟩
 walk_at ""
 refine⟨a,tp,ns,N,60,rfl,dr,by omega,by decide,by decide,λv H1 v0 v1 s1 d1=>?_⟩
 walk_at ""
 refine⟨by show 14<=sizeLine;decide,λp hp=>?_⟩
 walk_at ""
 have s2:=yag hp (.lst ([24,12,48,8,16,6,36,3,2,96,5,150,24,2+v].map V.int))
 refine⟨a,tp,ns,N+1,14,rfl,d1.same s2,by omega,by decide,by decide,λu H3 u0 u1 s3 d3=>?_⟩
 have lt:u.toNat < ([24,12,48,8,16,6,36,3,2,96,5,150,24,2+v]:List Int).length:=by show u.toNat < 14;omega
 have g:∀ x∈([24,12,48,8,16,6,36,3,2,96,5,150,24,2+v]:List Int),2<=x/\x<=150:=λx hx=>by
  simp at hx
  omega
 have gx:=g _ (List.getElem_mem lt)
 exact ybf (SqL.of (s3 _ _ (d1.ne hp) yae)) (yfc (L:=[24,12,48,8,16,6,36,3,2,96,5,150,24,2+v]) u0 (by show u < 14;exact u1)) (q _ _ gx.1 gx.2 (SameT.trans s1 (SameT.trans (Same.tt s2) s3)) d3)
noncomputable def ynA (c:Nat):Str:=⟨#[c]⟩
theorem yiP:∀ (cs:List Nat) (acc:Array Nat),((cs.map ynA).foldl (λacc p=>acc++(Str.ofString "").cps++p.cps) acc).toList=acc.toList++cs
 | [],acc=>by simp
 | c :: cs,acc=>by
  rw[List.map_cons,List.foldl_cons,yiP cs]
  simp[ynA,show(Str.ofString "").cps=#[] from rfl]
theorem yjE (cs:List Nat):(PySem.Txt.join "" (cs.map ynA)).cps.toList=cs:=by
 cases cs with
 | nil=>rfl
 | cons c cs =>
  show((cs.map ynA).foldl (λacc p=>acc++(Str.ofString "").cps++p.cps) (ynA c).cps).toList=_
  rw[yiP]
  rfl
theorem ypy (cs:List Nat)(h:cs.length<=12):JoinOk "" (cs.map ynA)=true:=by
 have f:∀ (cs:List Nat) (k:Nat),(cs.map ynA).foldl (λx1 x2=>x1+x2.length+(Str.ofString "").length) k=k+cs.length:=λcs=>by
  induction cs with
  | nil=>exact λ_=>rfl
  | cons c cs ih =>
   intro k
   rw[List.map_cons,List.foldl_cons,ih,List.length_cons]
   show k+1+0+cs.length=_
   omega
 unfold JoinOk Builtin.Str.tooLong
 rw[List.foldl_toArray,f,decide_eq_false (by have:=(by decide:(12:Nat)<=sizeLine);omega)]
 rfl
theorem yke:∀ i,i < 53->∃ c,signsV.cps.toList[i]?=some c/\inW c=true:=by
 have key:(List.range 53).all (λi=>match signsV.cps.toList[i]? with | some c=>inW c | none=>false)=true:=by decide +kernel
 intro i h
 have:=List.all_eq_true.mp key i (List.mem_range.mpr h)
 cases e:signsV.cps.toList[i]? with
 | none=>rw[e] at this;cases this
 | some c=>rw[e] at this;exact⟨c,rfl,this⟩
noncomputable def yfz (K:PySem.W.Frag):Sp:=λvs H Q _=>∃ (a tp:Addr) (ns:List Int) (N:Nat),vs=[.ref a,.ref tp]/\Dr K a tp ns H N/\N<=90000/\∀ (z:Str) (H':Hp),yeu z->SameT tp H H'->Dr K a tp ns H' (N+13)->Q (.str z) H'
theorem yuf (T:Txt K mg t)(G_zaj:FnOk P w K mg base CX0 1 t.f_zaj t.d_zaj ["_law_script","_law_tape","_law_size"] (ycL K)):FnOk P w K mg base CX0 2 t.f_zk t.d_zk ["_law_script","_law_tape"] (yfz K):=by
 refine T.zk.F.ok sc_zk (λvs H Q E h=>?_) (λ_ _ _ s' H vs Q E hr h=>?_)
 ·obtain⟨_,_,_,_,rfl,_⟩:=h;rfl
 have hu:=ybs hr
 obtain⟨a,tp,ns,N,rfl,dr,hN,q⟩:=h
 refine⟨_,(yac (yap (i:=2) sc_zk.nd rfl (Or.inr rfl) yat) (yac (yap (i:=3) sc_zk.nd rfl (Or.inl rfl) (yaq yaD (yaV (yaa yad (yaa yad (yaa yad (yaa yad (yaa yad yab)))))) (pcl G_zaj hr T.JJ (yaa (pv 0) (yaa (pv 1) (yaa yad yab)))) (λ_ _=>rfl))) (yaf (yaj (ybe F.plainAttrs_str F.slot_str_join F.type_str_join ycs yat (yaa (ya8 (yaH (NB:=["_law_k","_law_letters","_law_script","_law_tape"]) (cap:=[none,some 2,some 0,some 1]) rfl) rfl (ycJ rfl T.Jo (yaa (pv 3) yab)) (λ_ _ _ _=>(yax (i:=0) (show List.Nodup (["_law_k","_law_letters","_law_script","_law_tape"]:List Str) by decide) rfl (Or.inl rfl))) (λ_ _ _ _=>yaJ) (λ_ _ _ _=>(yaq ygG (pv 1) (pcl G_zaj hr T.JJ (yaa (pv 2) (yaa (pv 3) (yaa yad yab)))) (λ_ _=>rfl)))) yab)))))),?_⟩
 walk_at ""
 refine⟨by show 5<=sizeLine;decide,λp hp=>?_⟩
 walk_at ""
 have s1:=yag hp (.lst ([0,0,1,3,12].map V.int))
 refine⟨a,tp,ns,N,5,rfl,dr.same s1,by omega,by decide,by decide,λv H1 v0 v1 s2 d2=>?_⟩
 have s12:=SameT.trans (Same.tt s1) s2
 refine ybf (SqL.of (s2 _ _ (dr.ne hp) yae)) (yfc (L:=[0,0,1,3,12]) v0 (by show v < 5;exact v1)) ?_
 have g:∀ x∈([0,0,1,3,12]:List Int),0<=x/\x<=12:=by decide
 have gx:=g _ (List.getElem_mem (by show v.toNat < 5;omega:v.toNat < ([0,0,1,3,12]:List Int).length))
 generalize ([0,0,1,3,12]:List Int)[v.toNat]'_=n at gx ⊢
 walk_at ""
 refine⟨rfl,?_⟩
 walk_at ""
 refine⟨n,rfl,by omega,by omega,λD hD=>yei (λi σ' H'=>(∃ o,σ'=[o,some (.str signsV),some (.ref a),some (.ref tp)])/\SameT tp H1 H'/\Dr K a tp ns H' (N+1+i)/\∃ cs:List Nat,cs.length=i/\(∀ c∈cs,inW c=true)/\H' D=some (.lst (cs.map λc=>V.str (ynA c)))) ⟨⟨_,rfl⟩,Same.tt (yag hD _),d2.same (yag hD _),[],rfl,nofun,yae⟩ ?_ ?_⟩
 ·rintro i σ' H' hi ⟨⟨o,rfl⟩,sm,dd,cs,lc,gc,hd⟩
  refine ybj (ydk (i_T ?_))
  walk_at ""
  refine⟨a,tp,ns,_,53,rfl,dd,by omega,by decide,by decide,λu H3 u0 u1 s3 d3=>?_⟩
  obtain⟨c,ec,ic⟩:=yke u.toNat (by omega)
  have hD3:=s3 _ _ (d2.ne hD) hd
  refine⟨signsV,u,c,rfl,rfl,by decide,by have:=yai ec;rwa [Int.toNat_of_nonneg u0] at this,_,hD3,?_,⟨_,rfl⟩,?_,?_,cs++[c],by rw[List.length_append,lc];rfl,?_,?_⟩
  ·rw[List.length_map]
   exact yaz (by omega)
  ·exact yd6 (SameT.trans sm s3) hD
  ·exact d2.put hD (SameT.trans sm s3) d3
  ·intro z hz
   rcases List.mem_append.mp hz with hz | hz
   ·exact gc z hz
   ·rw[List.mem_singleton.mp hz];exact ic
  ·rw[yae,List.map_append]
   rfl
 ·rintro σ' H' ⟨⟨o,rfl⟩,sm,dd,cs,lc,gc,hd⟩
  walk_at ""
  refine⟨"",D,cs.map ynA,rfl,rfl,SqL.of (by rw[List.map_map];exact hd),ypy cs (by omega),q _ _ ⟨?_,?_⟩ (SameT.trans s12 sm) (dd.up (by omega))⟩
  ·rw[← Array.length_toList,yjE];omega
  ·rw[yjE];exact gc
noncomputable def AccT {α:Type}(f:α->Th)(tp:Addr)(H0 H:Hp)(D:Addr)(us:List α):Prop:=SameT tp H0 H/\∃ ks,H D=some (.lst ks)/\Iss (rm (fr H0 H) D) ks (us.map f)
section
variable {α:Type} {f:α->Th} {a tp D:Addr} {ns:List Int} {N:Nat} {H0 H H':Hp} {us:List α}
theorem AccT.nil (hD:H0 D=none):AccT f tp H0 (upd H0 D (.lst [])) D []:=⟨Same.tt (yag hD _),[],yae,yaO _⟩
theorem AccT.tt (d:Dr K a tp ns H0 N)(hD:H0 D=none)(h:AccT f tp H0 H D us)(s:SameT tp H H'):AccT f tp H0 H' D us:=by
 obtain⟨sm,ks,hd,is⟩:=h
 exact⟨SameT.trans sm s,ks,s _ _ (d.ne hD) hd,is.same (ycO λb u _ e=>d.fr s b u e)⟩
theorem AccT.new (d:Dr K a tp ns H N)(h:AccT f tp H0 H D us):Same (fr H H') (rm (fr H0 H') D):=λb u e=>by
 obtain⟨sm,ks,hd,_⟩:=h
 obtain⟨n,e⟩:=ya9 e
 rw[yeY (λz=>by rw[z,hd] at n;cases n),ybB (d.free sm n)]
 exact e
theorem AccT.put (d:Dr K a tp ns H0 N)(hD:H0 D=none)(h:AccT f tp H0 H D us){y:V}{u:α}(iy:Is (rm (fr H0 H) D) y (f u)):∃ ks,H D=some (.lst ks)/\ks.length=us.length/\AccT f tp H0 (upd H D (.lst (ks++[y]))) D (us++[u]):=by
 obtain⟨sm,ks,hd,is⟩:=h
 refine⟨ks,hd,by rw[is.len,List.length_map],yd6 sm hD,_,yae,?_⟩
 rw[List.map_append]
 exact(is.same yhQ).app (yau (iy.same yhQ) (yaO _))
theorem AccT.fin (hD:H0 D=none)(h:AccT f tp H0 H D us):Is (fr H0 H) (.ref D) (.ls (us.map f)):=by
 obtain⟨sm,ks,hd,is⟩:=h
 exact ybU (by rw[ybB hD];exact hd) (is.same (yio _ _))
end
noncomputable def yhL (K:PySem.W.Frag):Sp:=λvs H Q _=>∃ (a tp:Addr) (ns:List Int) (N:Nat),vs=[.ref a,.ref tp]/\Dr K a tp ns H N/\N<=90000/\∀ (y:V) (ps:List Pit) (H':Hp),yi4 ps->SameT tp H H'->Dr K a tp ns H' (N+10)->Is (fr H H') y (lT ps)->Q y H'
theorem yty (T:Txt K mg t)(G_zaj:FnOk P w K mg base CX0 1 t.f_zaj t.d_zaj ["_law_script","_law_tape","_law_size"] (ycL K)):FnOk P w K mg base CX0 2 t.f_zo t.d_zo ["_law_script","_law_tape"] (yhL K):=by
 refine T.zo.F.ok sc_zo (λvs H Q E h=>?_) (λ_ _ _ s' H vs Q E hr h=>?_)
 ·obtain⟨_,_,_,_,rfl,_⟩:=h;rfl
 have hu:=ybs hr
 obtain⟨a,tp,ns,N,rfl,dr,hN,q⟩:=h
 refine⟨_,(yac (yap (i:=2) sc_zo.nd rfl (Or.inl rfl) (yaV yab)) (yac (yap (i:=3) sc_zo.nd rfl (Or.inl rfl) (yaC yby yad (pcl G_zaj hr T.JJ (yaa (pv 0) (yaa (pv 1) (yaa yad yab)))))) (yac (yco PassesOwn.never rfl (ycJ rfl T.Jo (yaa (yaq yaD (yaV (yaa yad (yaa yad (yaa yad (yaa yad (yaa yad yab)))))) (pcl G_zaj hr T.JJ (yaa (pv 0) (yaa (pv 1) (yaa yad yab)))) (λ_ _=>rfl)) yab)) (yax (i:=4) sc_zo.nd rfl (Or.inl rfl)) (yac (yaG (ybe F.plainAttrs_list F.slot_list_append F.type_list_append yaP (pv 2) (yaa (yaF (yaa (yaC ydw (pv 3) yad) (yaa (yaC ydC (pcl G_zaj hr T.JJ (yaa (pv 0) (yaa (pv 1) (yaa yad yab)))) yad) (yaa (yaC yc8 (pv 3) yad) yab)))) yab))) (yaf (yap (i:=3) sc_zo.nd rfl (Or.inl rfl) (yaC yby (yaC yby (pv 3) yad) (pcl G_zaj hr T.JJ (yaa (pv 0) (yaa (pv 1) (yaa yad yab))))))))) (yaf (yaj (pv 2)))))),?_⟩
 walk_at ""
 refine⟨Nat.zero_le _,λD hD=>?_⟩
 walk_at ""
 have s1:=yag hD (.lst [])
 refine⟨a,tp,ns,N,40,rfl,dr.same s1,by omega,by decide,by decide,λv H1 v0 v1 s2 d2=>?_⟩
 have s12:=SameT.trans (Same.tt s1) s2
 have hd1:=s2 _ _ (dr.ne hD) yae
 walk_at ""
 refine⟨by show 5<=sizeLine;decide,λp hp=>?_⟩
 walk_at ""
 have s3:=yag hp (.lst ([1,1,2,3,4].map V.int))
 refine⟨a,tp,ns,N+1,5,rfl,d2.same s3,by omega,by decide,by decide,λu H2 u0 u1 s4 d4=>?_⟩
 refine ybf (SqL.of (s4 _ _ (d2.ne hp) yae)) (yfc (L:=[1,1,2,3,4]) u0 (by show u < 5;exact u1)) ?_
 have g:∀ x∈([1,1,2,3,4]:List Int),1<=x/\x<=4:=by decide
 have gx:=g _ (List.getElem_mem (by show u.toNat < 5;omega:u.toNat < ([1,1,2,3,4]:List Int).length))
 generalize ([1,1,2,3,4]:List Int)[u.toNat]'_=n at gx ⊢
 have s14:=SameT.trans s12 (SameT.trans (Same.tt s3) s4)
 have hd2:=s4 _ _ (dr.ne hD) (s3 _ _ hd1)
 walk_at ""
 have acc0:AccT pT tp H H2 D []:=AccT.tt dr hD (AccT.tt dr hD (AccT.nil hD) s2) (SameT.trans (Same.tt s3) s4)
 refine⟨n,rfl,by omega,by omega,ydp (λi σ H'=>(∃ (x:Int) (o:Option V),σ=[some (.ref a),some (.ref tp),some (.ref D),some (.int x),o]/\7+v+i<=x/\x<=7+v+5*i/\∃ ps:List Pit,ps.length=i/\(∀ p∈ps,ynj p)/\yoD ps/\(∀ p∈ps,yiM p < x)/\AccT pT tp H H' D ps)/\Dr K a tp ns H' (N+2+2*i)) ?_ ?_ ?_⟩
 ·exact⟨⟨_,_,rfl,by omega,by omega,[],rfl,by simp,λi h=>absurd h (by simp),by simp,acc0⟩,d4⟩
 ·rintro i σ H' N' hN' hi ⟨⟨x,o,rfl,x1,x2,ps,lp,gp,ri,up,acc⟩,dd⟩
  obtain⟨_,ks,hd,_⟩:=id acc
  walk_at ""
  refine⟨.inl ⟨rfl,_,SqL.of hd⟩,?_⟩
  walk_at ""
  refine⟨a,tp,ns,_,5,rfl,dd,by omega,by decide,by decide,λl H3 l0 l1 s5 d5=>?_⟩
  have acc3:=AccT.tt dr hD acc s5
  walk_at ""
  refine⟨by show 3<=sizeLine;decide,λp hp=>?_⟩
  have s6:=yag hp (.tup [.int (x%7),.int (l - 2),.int (x / 7)])
  have ip:Is (fr H3 (upd H3 p (.tup [.int (x%7),.int (l - 2),.int (x / 7)]))) (.ref p) (pT ⟨x%7,l - 2,x / 7⟩):=ykO (by rw[ybB hp];exact yae)
  have acc4:=AccT.tt dr hD acc3 (Same.tt s6)
  obtain⟨ks',hd',lk,acc5⟩:=acc4.put dr hD (ip.same (AccT.new d5 acc3))
  have dd5:=dr.put (o:=.lst (ks'++[.ref p])) hD acc4.1 (d5.same s6)
  generalize upd H3 p (.tup [.int (x%7),.int (l - 2),.int (x / 7)])=H4 at hd' acc5 dd5 ⊢
  walk_at ""
  refine ych hd' (yaz (by omega)) ?_
  walk_at ""
  refine⟨a,tp,ns,_,4,rfl,dd5,by omega,by decide,by decide,λm H5 m0 m1 s7 d7=>?_⟩
  walk_at ""
  have ex:yiM ⟨x%7,l - 2,x / 7⟩=x:=by show 7*(x / 7)+x%7=x;omega
  have lp1:(ps++[(⟨x%7,l - 2,x / 7⟩:Pit)]).length=i+1:=by rw[List.length_append,lp];rfl
  refine hN' _ _ ⟨⟨_,_,rfl,by omega,by omega,_,lp1,?_,?_,?_,AccT.tt dr hD acc5 s7⟩,d7.up (by omega)⟩
  ·intro z hz
   rcases List.mem_append.mp hz with hz | hz
   ·exact gp z hz
   ·rw[List.mem_singleton.mp hz]
    exact⟨by show 0<=x%7;omega,by show x%7<=6;omega,by show -2<=l - 2;omega,by show l - 2<=2;omega,by show 0<=x / 7;omega,by show x / 7<=8;omega⟩
  ·intro j hj
   rw[List.length_append,List.length_singleton] at hj
   by_cases e:j+1 < ps.length
   ·rw[List.getElem_append_left (by omega),List.getElem_append_left e]
    exact ri j e
   ·have e2:j+1=ps.length:=by omega
    rw[List.getElem_append_left (by omega),List.getElem_append_right (by omega)]
    simp only[e2,Nat.sub_self,List.getElem_singleton]
    rw[ex]
    exact up _ (List.getElem_mem _)
  ·intro z hz
   rcases List.mem_append.mp hz with hz | hz
   ·have:=up z hz;omega
   ·rw[List.mem_singleton.mp hz,ex];omega
 ·rintro σ H' ⟨⟨x,o,rfl,x1,x2,ps,lp,gp,ri,up,acc⟩,dd⟩
  walk_at ""
  exact q _ ps _ ⟨by omega,by omega,gp,ri⟩ acc.1 (dd.up (by omega)) (acc.fin hD)
theorem yku {te:TS}{D:yex}{σ:St}{H:Hp}(P:St->Hp->Prop)(h1:∀ D':yex,(∀ σ H,P σ H->D'.nx σ H)->te D' σ H)(h2:∀ σ H,P σ H->D.nx σ H):te D σ H:=h1 D h2
section
variable {a tp:Addr} {ns:List Int} {σ:St} {H:Hp} {N:Nat} {Q:VK} {b cl op:Bool}
theorem yoN {k:Int}(d:Dr K a tp ns H N)(hN:N<=100000)(k0:0 < k)(k1:k<=1000)(e0:σ[0]?=some (some (.ref a)))(e1:σ[1]?=some (some (.ref tp)))(q:∀ c H',SameT tp H H'->Dr K a tp ns H' (N+1)->Q (.bl c) H') :
  tOp rEq (yfl (ycL K) [] E0 (yb3 (ydD 0) (yb3 (ydD 1) (yb3 (tC (V.int k)) yh6)))) (tC (V.int 1)) σ H Q :=
 yrY (yha (ydc (ydf e0 (ydc (ydf e1 (ydc (i_c (yc5 ⟨a,tp,ns,N,k,rfl,d,hN,k0,k1,λv H' v0 v1 s d'=>i_c (ypi (q _ _ s d'))⟩))))))))
theorem ynN {i:Nat}(d:Dr K a tp ns H N)(hN:N<=90000)(e0:σ[0]?=some (some (.ref a)))(e1:σ[1]?=some (some (.ref tp)))(ei:σ[i]?=some (some (.bl b)))(q:∀ cl H',(cl=true->b=true)->SameT tp H H'->Dr K a tp ns H' (N+1)->Q (.bl cl) H') :
  yj5 (ydD i) (tOp rEq (yfl (ycL K) [] E0 (yb3 (ydD 0) (yb3 (ydD 1) (yb3 (tC (V.int 2)) yh6)))) (tC (V.int 1))) σ H Q:=by
 refine yjf (ydf ei (ya0 ?_))
 cases b with
 | true=>exact i_T (yoN d (by omega) (by decide) (by decide) e0 e1 λc H' s d'=>q c H' (λ_=>rfl) s d')
 | false=>exact i_F (q false H (λz=>nomatch z) (λ_ _ _ e=>e) (d.up (by omega)))
theorem yoQ {i j:Nat}(d:Dr K a tp ns H N)(hN:N<=90000)(e0:σ[0]?=some (some (.ref a)))(e1:σ[1]?=some (some (.ref tp)))(ei:σ[i]?=some (some (.bl b)))(ej:σ[j]?=some (some (.bl cl)))(q:∀ op H',(op=true->(b&&!cl)=false)->SameT tp H H'->Dr K a tp ns H' (N+1)->Q (.bl op) H') :
  yj5 (yp2 (ydD j) (yk5 (ydD i))) (tOp rEq (yfl (ycL K) [] E0 (yb3 (ydD 0) (yb3 (ydD 1) (yb3 (tC (V.int 4)) yh6)))) (tC (V.int 1))) σ H Q:=by
 refine yjf (ype (ydf ej (ya0 ?_)))
 cases cl with
 | true=>exact i_T (ya0 (i_T (yoN d (by omega) (by decide) (by decide) e0 e1 λc H' s d'=>q c H' (λ_=>by simp) s d')))
 | false =>
  refine i_F (yml (ydf ei (ya0 (ya0 ?_))))
  cases b with
  | true=>exact i_F (q false H (λz=>nomatch z) (λ_ _ _ e=>e) (d.up (by omega)))
  | false=>exact i_T (yoN d (by omega) (by decide) (by decide) e0 e1 λc H' s d'=>q c H' (λ_=>rfl) s d')
theorem ypV {i j k:Nat}(ei:σ[i]?=some (some (.bl b)))(ej:σ[j]?=some (some (.bl cl)))(ek:σ[k]?=some (some (.bl op)))(q:Q (.bl (op||(b&&!cl))) H):yp2 (ydD k) (yj5 (ydD i) (yk5 (ydD j))) σ H Q:=by
 refine ype (ydf ek (ya0 ?_))
 cases op with
 | true=>exact i_T q
 | false =>
  refine i_F (yjf (ydf ei (ya0 ?_)))
  cases b with
  | true=>exact i_T (yml (ydf ej (ya0 q)))
  | false=>exact i_F q
end
structure VInv (most:Int) (ss:List Sn) (b:Bool) (left:Int):Prop where
 g:∀ s∈ss,yfm s
 sum:ybu ss=most - 48 - left
 l0:0<=left
 sl:∀ r,ydW b r->ydW false (ycl ss++r)
theorem VInv.add {most left:Int}{ss:List Sn}{b b':Bool}{s:Sn}(h:VInv most ss b left)(gs:yfm s)(l:snL s<=left)(sl:∀ r,ydW b' r->ydW b (ycl [s]++r)):VInv most (ss++[s]) b' (left - snL s) where
 g z hz:=by
  rcases List.mem_append.mp hz with hz | hz
  ·exact h.g z hz
  ·rw[List.mem_singleton.mp hz];exact gs
 sum:=by rw[ybL,yb9,h.sum];omega
 l0:=by omega
 sl r hr:=by rw[ybV,List.append_assoc];exact h.sl _ (sl r hr)
theorem ymF (ss:List Sn)(ps:List Pit)(n:Int)(wd:Str)(op cl:Bool):yaQ (ss++[.tones ps n wd op cl])=ya2 ss++[.tones ps n wd op cl]/\yaQ (ss++[.tones ps n wd op cl]++[.rest 24]++[.rest 5])=ya2 ss++[.tones ps n wd op cl]:=by
 have e1:ya2 (ss++[.tones ps n wd op cl])=ya2 ss++[.tones ps n wd op cl]:=by rw[ya1,ybv rfl]
 have r1:ycG (ya2 ss++[.tones ps n wd op cl])=false:=by unfold ycG;rw[List.getLast?_append];rfl
 constructor
 ·unfold yaQ ycW
  rw[e1,if_neg (by rw[r1];simp)]
 ·unfold yaQ ycW
  have e2:ydE (ya2 ss++[.tones ps n wd op cl]) (.rest 24)=ya2 ss++[.tones ps n wd op cl]++[.rest 24]:=ybv (by rw[r1];rfl)
  rw[ya1,ya1,e1,e2,ybk,if_pos (by unfold ycG;rw[List.getLast?_append];rfl),List.dropLast_concat]
theorem ypU {most left:Int}{ss:List Sn}{b:Bool}{ps:List Pit}{n:Int}(vi:VInv most ss b left)(gl:yfm (.tones ps n "" false b))(ln:ss.length<=93)(hn:n<=41)(hm:most<=780) :
  (GoodV (ss++[.tones ps n "" false b])/\ycG (yaQ (ss++[.tones ps n "" false b]))=false/\ybu (yaQ (ss++[.tones ps n "" false b]))<=773) /\
  (GoodV (ss++[.tones ps n "" false b]++[.rest 24]++[.rest 5])/\ycG (yaQ (ss++[.tones ps n "" false b]++[.rest 24]++[.rest 5]))=false/\ybu (yaQ (ss++[.tones ps n "" false b]++[.rest 24]++[.rest 5]))<=773):=by
 obtain⟨e1,e2⟩:=ymF ss ps n "" false b
 have r1:ycG (ya2 ss++[.tones ps n "" false b])=false:=by unfold ycG;rw[List.getLast?_append];rfl
 have sn:snL (.tones ps n "" false b)=n:=rfl
 have su:ybu (ya2 ss++[.tones ps n "" false b])<=773:=by
  have:=vi.sum
  have:=vi.l0
  rw[ybL,yb9,ycN,sn]
  omega
 have s2:ybu (ss++[.tones ps n "" false b])<=773:=by
  have:=vi.sum
  have:=vi.l0
  rw[ybL,yb9,sn]
  omega
 have sl:ydW false (ycl (ss++[.tones ps n "" false b])):=by
  rw[ybV]
  exact vi.sl _ (show(b=true->b=true)/\(false=true->(b&&!b)=false)/\(false||(b&&!b))=false from ⟨λh=>h,(λz=>nomatch z),by cases b<;>rfl⟩)
 have g:∀ s∈ss++[.tones ps n "" false b],yfm s:=λz hz=>by
  rcases List.mem_append.mp hz with hz | hz
  ·exact vi.g z hz
  ·rw[List.mem_singleton.mp hz];exact gl
 refine⟨⟨⟨by simp,by simp;omega,g,by omega,by rw[e1];simp,sl⟩,by rw[e1];exact r1,by rw[e1];exact su⟩,⟨by simp,by simp;omega,λz hz=>?_,?_,by rw[e2];simp,?_⟩,by rw[e2];exact r1,by rw[e2];exact su⟩
 ·rcases List.mem_append.mp hz with hz | hz
  ·rcases List.mem_append.mp hz with hz | hz
   ·exact g z hz
   ·rw[List.mem_singleton.mp hz];exact⟨by decide,by decide⟩
  ·rw[List.mem_singleton.mp hz];exact⟨by decide,by decide⟩
 ·rw[ybL,ybL,yb9,yb9]
  show _+(24:Int)+5<=1000
  omega
 ·rw[ybV,ybV,show ycl [.rest 24]=[] from rfl,show ycl [.rest 5]=[] from rfl,List.append_nil,List.append_nil]
  exact sl
noncomputable def yl6 (K:PySem.W.Frag):Sp:=λvs H Q _=>∃ (a tp:Addr) (ns:List Int) (N:Nat) (most:Int),vs=[.ref a,.ref tp,.int most]/\Dr K a tp ns H N/\N<=80000/\200<=most/\most<=780/\∀ (y:V) (ss:List Sn) (H':Hp),GoodV ss->ycG (yaQ ss)=false->ybu (yaQ ss)<=773->SameT tp H H'->Dr K a tp ns H' (N+5000)->Is (fr H H') y (vT ss)->Q y H'
theorem yt6 (T:Txt K mg t)(G_zaj:FnOk P w K mg base CX0 1 t.f_zaj t.d_zaj ["_law_script","_law_tape","_law_size"] (ycL K))(G_zD:FnOk P w K mg base CX0 2 t.f_zD t.d_zD ["_law_script","_law_tape"] (yjj K))(G_zk:FnOk P w K mg base CX0 2 t.f_zk t.d_zk ["_law_script","_law_tape"] (yfz K))(G_zo:FnOk P w K mg base CX0 2 t.f_zo t.d_zo ["_law_script","_law_tape"] (yhL K)):FnOk P w K mg base CX0 3 t.f_zM t.d_zM ["_law_script","_law_tape","_law_most"] (yl6 K):=by
 refine T.zM.F.ok sc_zM (λvs H Q E h=>?_) (λ_ _ _ s' H vs Q E hr h=>?_)
 ·obtain⟨_,_,_,_,_,rfl,_⟩:=h;rfl
 have hu:=ybs hr
 obtain⟨a,tp,ns,N,most,rfl,dr,hN,hm,hm2,q⟩:=h
 refine⟨_,(yac (yap (i:=3) sc_zM.nd rfl (Or.inl rfl) (yaV yab)) (yac (yap (i:=4) sc_zM.nd rfl (Or.inl rfl) ycy) (yac (yap (i:=5) sc_zM.nd rfl (Or.inl rfl) (yaC ydC (pv 2) yad)) (yac (yap (i:=6) sc_zM.nd rfl (Or.inl rfl) (pcl G_zaj hr T.JJ (yaa (pv 0) (yaa (pv 1) (yaa yad yab))))) (yac (yaK (yan yci (pcl G_zaj hr T.JJ (yaa (pv 0) (yaa (pv 1) (yaa yad yab)))) yad (yao _)) (yaf (yap (i:=6) sc_zM.nd rfl (Or.inl rfl) (pcl G_zaj hr T.JJ (yaa (pv 0) (yaa (pv 1) (yaa yad yab)))))) yav) (yac (yco PassesOwn.never rfl (ycJ rfl T.Jo (yaa (pv 6) yab)) (yax (i:=7) sc_zM.nd rfl (Or.inl rfl)) (yac (yap (i:=8) sc_zM.nd rfl (Or.inl rfl) (pcl G_zD hr T.zD (yaa (pv 0) (yaa (pv 1) yab)))) (yac (yaK (yan ymQ (pv 6) yad (yao _)) (yaf (yap (i:=8) sc_zM.nd rfl (Or.inl rfl) (yaC yby yad (yaC ydw (pv 8) yad)))) yav) (yaf (yaK (yan ycI (pv 8) (pv 5) (yao _)) (yac (yap (i:=5) sc_zM.nd rfl (Or.inl rfl) (yaC ydC (pv 5) (pv 8))) (yaf (yaK (yan yci (pcl G_zaj hr T.JJ (yaa (pv 0) (yaa (pv 1) (yaa yad yab)))) yad (yao _)) (yaf (yaG (ybe F.plainAttrs_list F.slot_list_append F.type_list_append yaP (pv 3) (yaa (yaF (yaa yat (yaa (pv 8) yab))) yab)))) (yac (yap (i:=9) sc_zM.nd rfl (Or.inl rfl) (ybq (pv 4) (ybo (ya4 yci (pcl G_zaj hr T.JJ (yaa (pv 0) (yaa (pv 1) (yaa yad yab)))) yad (yao _))))) (yac (yap (i:=10) sc_zM.nd rfl (Or.inl rfl) (ybq (ymy (pv 9) (ybo (yfA (pv 4)))) (ybo (ya4 yci (pcl G_zaj hr T.JJ (yaa (pv 0) (yaa (pv 1) (yaa yad yab)))) yad (yao _))))) (yac (yap (i:=4) sc_zM.nd rfl (Or.inl rfl) (ymy (pv 10) (ybo (ybq (pv 4) (ybo (yfA (pv 9))))))) (yac (yap (i:=11) sc_zM.nd rfl (Or.inl rfl) (pcl G_zk hr T.zk (yaa (pv 0) (yaa (pv 1) yab)))) (yaf (yaG (ybe F.plainAttrs_list F.slot_list_append F.type_list_append yaP (pv 3) (yaa (yaF (yaa yat (yaa (pcl G_zo hr T.zo (yaa (pv 0) (yaa (pv 1) yab))) (yaa (pv 8) (yaa (pv 11) (yaa (pv 10) (yaa (pv 9) yab))))))) yab))))))))))) yav))))) (yac (yaG (ybe F.plainAttrs_list F.slot_list_append F.type_list_append yaP (pv 3) (yaa (yaF (yaa yat (yaa (pcl G_zo hr T.zo (yaa (pv 0) (yaa (pv 1) yab))) (yaa (yaC yby yad (pcl G_zaj hr T.JJ (yaa (pv 0) (yaa (pv 1) (yaa yad yab))))) (yaa yat (yaa ycy (yaa (pv 4) yab))))))) yab))) (yac (yaK (yan yci (pcl G_zaj hr T.JJ (yaa (pv 0) (yaa (pv 1) (yaa yad yab)))) yad (yao _)) (yaf (yaG (ybe F.plainAttrs_list F.slot_list_extend F.type_list_extend yfg (pv 3) (yaa (yaV (yaa (yaF (yaa yat (yaa yad yab))) (yaa (yaF (yaa yat (yaa yad yab))) yab))) yab)))) yav) (yaf (yaj (pv 3))))))))))),?_⟩
 walk_at ""
 refine⟨Nat.zero_le _,λD hD=>?_⟩
 have s1:=yag hD (.lst [])
 walk_at ""
 refine⟨a,tp,ns,N,9,rfl,dr.same s1,by omega,by decide,by decide,λv H1 v0 v1 s2 d2=>?_⟩
 refine ybj (ycw (yku (te:=yip _ _ _) (fun σ H'=>∃ n:Int,0<=n/\n<=93/\σ=[some (.ref a),some (.ref tp),some (.int most),some (.ref D),some (.bl false),some (.int (most - 48)),some (.int n),none,none,none,none,none]/\SameT tp (upd H D (.lst [])) H'/\Dr K a tp ns H' (N+3)) (λD' hD'=>?_) fun σ H2 p=>?_))
 ·walk_at ""
  refine⟨a,tp,ns,_,12,rfl,d2,by omega,by decide,by decide,λu H2 u0 u1 s3 d3=>?_⟩
  walk_at ""
  refine i_d (λ_=>?_) λ_=>?_
  ·walk_at ""
   refine⟨a,tp,ns,_,94,rfl,d3,by omega,by decide,by decide,λw H3 w0 w1 s4 d4=>?_⟩
   walk_at ""
   exact hD' _ _ ⟨w,w0,by omega,rfl,SameT.trans s2 (SameT.trans s3 s4),d4⟩
  ·exact ybn (hD' _ _ ⟨v,v0,by omega,rfl,SameT.trans s2 s3,d3.up (by omega)⟩)
 obtain⟨n,n0,n93,rfl,s3,d3⟩:=p
 have acc0:AccT snT tp H H2 D []:=AccT.tt dr hD (AccT.nil hD) s3
 walk_at ""
 refine⟨n,rfl,by omega,by omega,ydp (λi σ H'=>∃ (ss:List Sn) (b:Bool) (left:Int) (o7 o8 o9 o10 o11:Option V),σ=[some (.ref a),some (.ref tp),some (.int most),some (.ref D),some (.bl b),some (.int left),some (.int n),o7,o8,o9,o10,o11]/\ss.length<=i/\VInv most ss b left/\AccT snT tp H H' D ss/\Dr K a tp ns H' (N+3+40*i)) ⟨[],false,_,_,_,_,_,_,rfl,Nat.le_refl _,⟨by simp,by show(0:Int)=_;omega,by omega,λr h=>h⟩,acc0,d3⟩ ?_ ?_⟩
 ·rintro i σ H' N' hN' hi ⟨ss,b,left,o7,o8,o9,o10,o11,rfl,ln,vi,acc,dd⟩
  walk_at ""
  refine⟨a,tp,ns,_,rfl,dd,by omega,λm H3 m0 m1 s4 d4=>?_⟩
  have acc3:=AccT.tt dr hD acc s4
  refine ybj (ycw (yku (te:=yip _ _ _) (fun σ H5=>H5=H3/\∃ m:Int,2<=m/\m<=150/\σ=[some (.ref a),some (.ref tp),some (.int most),some (.ref D),some (.bl b),some (.int left),some (.int n),some (.int (0+i)),some (.int m),o9,o10,o11]) (λD' hD'=>?_) fun σ H5 p=>?_))
  ·walk_at ""
   refine i_d (λ_=>?_) λ_=>?_
   ·walk_at ""
    exact hD' _ _ ⟨rfl,_,by omega,by omega,rfl⟩
   ·exact ybn (hD' _ _ ⟨rfl,m,m0,m1,rfl⟩)
  obtain⟨rfl,m,m0,m1,rfl⟩:=p
  walk_at ""
  refine i_d (λhm=>?_) λ_=>?_
  ·walk_at ""
   refine⟨a,tp,ns,_,3,rfl,d4,by omega,by decide,by decide,λw H6 w0 w1 s5 d5=>?_⟩
   have acc5:=AccT.tt dr hD acc3 s5
   obtain⟨_,ks,hd,_⟩:=id acc5
   walk_at ""
   refine i_d (λ_=>?_) λ_=>?_
   ·walk_at ""
    refine⟨.inl ⟨rfl,_,SqL.of hd⟩,?_⟩
    walk_at ""
    refine⟨by show 2<=sizeLine;decide,λp hp=>?_⟩
    have s6:=yag hp (.tup [.str "rest",.int m])
    have ip:Is (fr H6 (upd H6 p (.tup [.str "rest",.int m]))) (.ref p) (snT (.rest m)):=ymn (by rw[ybB hp];exact yae)
    have acc6:=AccT.tt dr hD acc5 (Same.tt s6)
    obtain⟨ks',hd',lk,acc7⟩:=acc6.put dr hD (ip.same (AccT.new d5 acc5))
    have dd7:=dr.put (o:=.lst (ks'++[.ref p])) hD acc6.1 (d5.same s6)
    walk_at ""
    refine ych hd' (yaz (by omega)) (hN' _ _ ⟨_,b,left - m,_,_,_,_,_,rfl,by rw[List.length_append,List.length_singleton];omega,vi.add (s:=.rest m) ⟨m0,by omega⟩ hm (λr h=>h),acc7,dd7.up (by omega)⟩)
   ·refine ycw (yf9 (ynN d5 (by omega) rfl rfl rfl λcl H7 hcl s6 d6=>ybj ?_))
    dsimp only
    refine ycw (yf9 (yoQ d6 (by omega) rfl rfl rfl rfl λop H8 hop s7 d7=>ybj ?_))
    dsimp only
    refine ycw (yf9 (ypV rfl rfl rfl (ybj ?_)))
    walk_at ""
    refine⟨a,tp,ns,_,rfl,d7,by omega,λwd H9 gw s8 d8=>?_⟩
    have acc8:=AccT.tt dr hD acc5 (SameT.trans s6 (SameT.trans s7 s8))
    obtain⟨_,ks8,hd8,_⟩:=id acc8
    walk_at ""
    refine⟨.inl ⟨rfl,_,SqL.of hd8⟩,?_⟩
    walk_at ""
    refine⟨a,tp,ns,_,rfl,d8,by omega,λy ps H10 gps s9 d9 iy=>?_⟩
    have acc9:=AccT.tt dr hD acc8 s9
    walk_at ""
    refine⟨by show 6<=sizeLine;decide,λp hp=>?_⟩
    have s10:=yag hp (.tup [.str "tones",y,.int m,.str wd,.bl op,.bl cl])
    have np:=d9.free s9 hp
    have ip:Is (fr H9 (upd H10 p (.tup [.str "tones",y,.int m,.str wd,.bl op,.bl cl]))) (.ref p) (snT (.tones ps m wd op cl)):=yj0 (by rw[ybB np];exact yae) (iy.same (yay s10))
    have acc10:=AccT.tt dr hD acc9 (Same.tt s10)
    obtain⟨ks',hd',lk,acc11⟩:=acc10.put dr hD (ip.same (AccT.new d8 acc8))
    have dd11:=dr.put (o:=.lst (ks'++[.ref p])) hD acc10.1 (d9.same s10)
    walk_at ""
    refine ych hd' (yaz (by omega)) (hN' _ _ ⟨_,_,left - m,_,_,_,_,_,rfl,by rw[List.length_append,List.length_singleton];omega,vi.add (s:=.tones ps m wd op cl) ⟨gps,m0,by omega,gw⟩ hm (λr h=>⟨hcl,hop,h⟩),acc11,dd11.up (by omega)⟩)
  ·exact ybn (hN' _ _ ⟨ss,b,left,_,_,_,_,_,rfl,by omega,vi,acc3,d4.up (by omega)⟩)
 ·rintro σ H' ⟨ss,b,left,o7,o8,o9,o10,o11,rfl,ln,vi,acc,dd⟩
  have ln93:ss.length<=93:=by omega
  have dd:=dd.up (M:=N+3+40*93) (by omega)
  obtain⟨_,ks8,hd8,_⟩:=id acc
  walk_at ""
  refine⟨.inl ⟨rfl,_,SqL.of hd8⟩,?_⟩
  walk_at ""
  refine⟨a,tp,ns,_,rfl,dd,by omega,λy ps H10 gps s9 d9 iy=>?_⟩
  walk_at ""
  refine⟨a,tp,ns,_,40,rfl,d9,by omega,by decide,by decide,λw H11 w0 w1 s10 d10=>?_⟩
  have s910:=SameT.trans s9 s10
  have acc10:=AccT.tt dr hD acc s910
  walk_at ""
  refine⟨by show 6<=sizeLine;decide,λp hp=>?_⟩
  have s11:=yag hp (.tup [.str "tones",y,.int (2+w),.str "",.bl false,.bl b])
  have ip:Is (fr H' (upd H11 p (.tup [.str "tones",y,.int (2+w),.str "",.bl false,.bl b]))) (.ref p) (snT (.tones ps (2+w) "" false b)):=yj0 (by rw[ybB (d10.free s910 hp)];exact yae) (iy.same ((dd.fr s10).trans (yay s11)))
  have acc11:=AccT.tt dr hD acc10 (Same.tt s11)
  obtain⟨ks',hd',lk,acc12⟩:=acc11.put dr hD (ip.same (AccT.new dd acc))
  have dd12:=dr.put (o:=.lst (ks'++[.ref p])) hD acc11.1 (d10.same s11)
  have gl:yfm (.tones ps (2+w) "" false b):=⟨gps,by omega,by omega,by decide,λc h=>nomatch h⟩
  generalize upd H11 p (.tup [.str "tones",y,.int (2+w),.str "",.bl false,.bl b])=H12 at hd' acc12 dd12 ⊢
  walk_at ""
  refine ych hd' (yaz (by omega)) ?_
  generalize upd H12 D (.lst (ks'++[.ref p]))=H13 at acc12 dd12 ⊢
  have fin:=ypU vi gl ln93 (by show 2+w<=41;omega) hm2
  refine ycw (yku (te:=yip _ _ _) (fun σ H14=>σ=[some (.ref a),some (.ref tp),some (.int most),some (.ref D),some (.bl b),some (.int left),some (.int n),o7,o8,o9,o10,o11]/\∃ ss2,(GoodV ss2/\ycG (yaQ ss2)=false/\ybu (yaQ ss2)<=773)/\AccT snT tp H H14 D ss2/\Dr K a tp ns H14 (N+5000)) (λD' hD'=>?_) fun σ H14 p=>?_)
  ·walk_at ""
   refine⟨a,tp,ns,_,4,rfl,dd12,by omega,by decide,by decide,λu2 H14 u0 u1 s13 d13=>?_⟩
   have acc13:=AccT.tt dr hD acc12 s13
   obtain⟨_,ks13,hd13,is13⟩:=id acc13
   walk_at ""
   refine i_d (λ_=>?_) λ_=>?_
   ·walk_at ""
    refine⟨.inl ⟨rfl,_,SqL.of hd13⟩,ydc ?_⟩
    refine(show yos _ (.ls [snT (.rest 24),snT (.rest 5)]) from ?_) _ _ _ λx H15 s14 i14=>?_
    ·refine ysf ?_ (by decide)
     repeat (first | exact ysa | refine yr5 ?_ ?_ | refine ysk ?_ (by decide) | exact yr9 rfl)
    rw[Is] at i14
    obtain⟨b1,zs,rfl,eb,is14⟩:=i14
    have acc15:=AccT.tt dr hD acc13 (Same.tt s14)
    obtain⟨sm15,ks15,hd15,is15⟩:=id acc15
    have lz:zs.length=2:=is14.len
    have lk15:=is15.len
    rw[List.length_map,List.length_append,List.length_singleton] at lk15
    refine yc5 ⟨D,b1,ks15,zs,rfl,rfl,hd15,(ya9 eb).2,?_,?_⟩
    ·rw[lz,lk15]
     exact small (by omega)
    refine hD' _ _ ⟨rfl,_,fin.2,⟨yd6 sm15 hD,_,yae,?_⟩,?_⟩
    ·rw[List.map_append,List.map_append,List.append_assoc]
     exact(is15.same yhQ).app ((is14.same (AccT.new d13 acc13)).same yhQ)
    ·exact(dr.put hD sm15 (d13.same s14)).up (by omega)
   ·exact ybn (hD' _ _ ⟨rfl,_,fin.1,acc13,d13.up (by omega)⟩)
  obtain⟨rfl,ss2,⟨g2,e2,m2⟩,acc14,d14⟩:=p
  walk_at ""
  exact q _ ss2 _ g2 e2 m2 acc14.1 d14 (acc14.fin hD)
theorem ynR {n:Nat}(h:0 < n):ixN n (-1)=some (n - 1):=by
 unfold ixN
 rw[if_neg (by omega)]
 simp
 omega
theorem ymT {ys:List V}{x v:V}:(ys++[x]).set ((ys++[x]).length - 1) v=ys++[v]:=by
 rw[List.length_append,List.length_singleton,Nat.add_sub_cancel,List.set_append_right _ _ (Nat.le_refl _),Nat.sub_self]
 rfl
theorem ygc (b:Bool):eqT (yb8 (.im (.str (if b then "rest" else "tones")))) (yb8 (.im (.str "rest")))=b:=by cases b<;>rfl
theorem yiT:yfr (λH x s=>Is H x (snT s)):=λs h=>h.same s
noncomputable def ykY:Sp:=λvs H Q _=>∃ (x:V) (ss:List Sn) (Hs:Hp),vs=[x]/\Same Hs H/\Is Hs x (vT ss)/\1<=ss.length/\ss.length<=96/\∀ y H',Same H H'->Is (nw Hs H H') y (vT (yaQ ss))->Q y H'
theorem yse {x:V}{s:Sn}{H:Hp}(h:Is H x (snT s)):∃ a ys,x=.ref a/\H a=some (.tup ys)/\ys[0]?=some (.str (if isR s then "rest" else "tones"))/\(isR s=true->ys[1]?=some (.int (snL s)))/\(isR s=false->ys[2]?=some (.int (snL s))):=by
 obtain⟨a,ys,e,ea,h1,h2⟩:=yuU h
 exact⟨a,_,e,ea,rfl,h1,h2⟩
theorem ynq {ss:List Sn}(h:1<=ss.length):ya2 ss≠[]:=by
 obtain⟨s,hs⟩:∃ s,ss.getLast?=some s:=by
  cases e:ss.getLast? with
  | none=>rw[List.getLast?_eq_none_iff.mp e] at h;simp at h
  | some s=>exact⟨s,rfl⟩
 obtain⟨vs,rfl⟩:=List.getLast?_eq_some_iff.mp hs
 rw[ya1]
 unfold ydE
 split<;>simp
theorem yrb (T:Txt K mg t):FnOk P w K mg base CX0 1 t.f_zaa t.d_zaa ["_law_voice_here"] ykY:=by
 refine T.Ri.F.ok sc_zaa (λvs H Q E h=>?_) (λ_ _ _ s H vs Q E hr h=>?_)
 ·obtain⟨_,_,_,rfl,_⟩:=h;rfl
 have hu:=ybs hr
 obtain⟨x,ss,Hs,rfl,sH,ix,n1,n2,q⟩:=h
 rw[vT,Is] at ix
 obtain⟨a,xs,rfl,ea,ix⟩:=ix
 have ea':=sH _ _ ea
 have al:=ybE ix
 refine⟨_,(yac (yap (i:=1) sc_zaa.nd rfl (Or.inl rfl) (yaV yab)) (yac (yco PassesOwn.never rfl (yaY (pv 0)) (yax (i:=2) sc_zaa.nd rfl (Or.inl rfl)) (yaf (yaK (PW.pt (yd5 (yan (yb0 hu) (yaq yar (pv 2) yad (λ_ _=>rfl)) yat (yao _)) (yd5 (yan (yd3 hu) (pv 1) (yaV yab) (yao _)) (yda (yan (yb0 hu) (yaq yar (yaq yaD (pv 1) (ydj yca yad) (λ_ _=>rfl)) yad (λ_ _=>rfl)) yat (yao _)))))) (yaf (yjR (yaF (yaa yat (yaa (yaC yby (yaq yar (yaq yaD (pv 1) (ydj yca yad) (λ_ _=>rfl)) yad (λ_ _=>rfl)) (yaq yar (pv 2) yad (λ_ _=>rfl))) yab))) (yoe (pv 1) (ydj yca yad) yjV))) (yaf (yaG (ybe F.plainAttrs_list F.slot_list_append F.type_list_append yaP (pv 1) (yaa (pv 2) yab))))))) (yac (yaK (yan (yb0 hu) (yaq yar (yaq yaD (pv 1) (ydj yca yad) (λ_ _=>rfl)) yad (λ_ _=>rfl)) yat (yao _)) (yaf (yaG (yol F.plainAttrs_list F.slot_list_pop F.type_list_pop yoI (pv 1)))) yav) (yaf (yaj (pv 1)))))),?_⟩
 walk_at ""
 refine⟨Nat.zero_le _,λD hD=>?_⟩
 walk_at ""
 refine⟨a,rfl,⟨_,SqL.of (yag hD _ _ _ ea')⟩,ycc (xs:=xs) (λi σ H'=>(∃ o,σ=[some (.ref a),some (.ref D),o])/\Acc (λH x s=>Is H x (snT s)) Hs H H' D (ya2 (ss.take i))) ⟨⟨_,rfl⟩,Acc.nil hD⟩ (λi σ H' _ p=>SqL.of (p.2.1 _ _ ea')) ?_ ?_⟩
 ·rintro i x σ H' N hN hx ⟨⟨o,rfl⟩,sm,kv,hd,ak⟩
  have hi:i < ss.length:=by have:=(List.getElem?_eq_some_iff.mp hx).1;rw[al.1] at this;exact this
  obtain⟨x',e,rx⟩:=al.2 i hi
  rw[hx] at e
  cases e
  have tk:ya2 (ss.take (i+1))=ydE (ya2 (ss.take i)) ss[i]:=by rw[List.take_succ_eq_append_getElem hi,ya1]
  have lk:=yc7 (ss.take i)
  rw[List.length_take] at lk
  generalize ya2 (ss.take i)=ks at ak tk lk
  generalize ss[i]=sn at rx tk
  have lkv:=ak.1
  obtain⟨b,ys,rfl,eb,y0,y1,y2⟩:=yse (rx.same (sH.trans sm))
  have add:∀ H2,Same H' H2->(isR sn&&ycG ks)=false->N [some (.ref a),some (.ref D),some (.ref b)] (upd H2 D (.lst (kv++[.ref b]))):=λH2 s2 hf=>by
   refine hN _ _ ⟨⟨_,rfl⟩,?_⟩
   rw[tk,ybv hf]
   exact Acc.put (R:=λH x s=>Is H x (snT s)) yiT hD (sm.trans s2) (ak.imp λ_ _ _ z=>z.same (ybc s2)) (rx.same (yfk sH))
  walk_at ""
  refine yaE (SqT.of eb) (yai (j:=0) y0) ?_
  walk_at ""
  refine yeI ⟨rfl,ybh⟩ ⟨rfl,ybh⟩ (ybC rfl) (ybC rfl) ?_
  rw[ygc]
  walk_at ""
  cases hr':isR sn with
  | false =>
   refine i_F ?_
   walk_at ""
   refine⟨.inl ⟨rfl,_,SqL.of hd⟩,?_⟩
   walk_at ""
   exact ych hd (yaz (by omega)) (add _ (Same.refl _) (by rw[hr'];rfl))
  | true =>
   refine i_T ?_
   walk_at ""
   refine⟨Nat.zero_le _,λp hp=>?_⟩
   have s2:=yag hp (.lst [])
   have hd2:=s2 _ _ hd
   have eb2:=s2 _ _ eb
   refine⟨D,p,kv,rfl,rfl,SqL.of hd2,SqL.of yae,ya0 ?_⟩
   generalize upd H' p (.lst [])=H2 at s2 hd2 eb2 ⊢
   cases e:ks.getLast? with
   | none =>
    have:kv=[]:=List.eq_nil_of_length_eq_zero (by rw[lkv,List.getLast?_eq_none_iff.mp e];rfl)
    subst this
    refine i_F ?_
    walk_at ""
    refine⟨.inl ⟨rfl,_,SqL.of hd2⟩,?_⟩
    walk_at ""
    exact ych hd2 (yaz (by omega)) (add _ s2 (by unfold ycG;rw[e,Bool.and_false]))
   | some sl =>
    obtain⟨zs,z,rfl,sz,vs',ev,az⟩:=yde ak e
    obtain⟨c,ws,rfl,ec,w0,w1,w2⟩:=yse ((sz.same (ycz sH sm)).same s2)
    rw[show(!(zs++[V.ref c]).isEmpty)=true by cases zs<;>rfl]
    refine i_T ?_
    walk_at ""
    refine ybf (SqL.of hd2) (ybY zs _) ?_
    walk_at ""
    refine yaE (SqT.of ec) (yai (j:=0) w0) ?_
    walk_at ""
    refine yeI ⟨rfl,ybh⟩ ⟨rfl,ybh⟩ (ybC rfl) (ybC rfl) ?_
    rw[ygc]
    walk_at ""
    have er:ycG ks=isR sl:=by unfold ycG;rw[e]
    cases hl:isR sl with
    | false =>
     refine i_F ?_
     walk_at ""
     refine⟨.inl ⟨rfl,_,SqL.of hd2⟩,?_⟩
     walk_at ""
     exact ych hd2 (yaz (by omega)) (add _ s2 (by rw[er,hl,Bool.and_false]))
    | true =>
     refine i_T ?_
     walk_at ""
     refine ybf (SqL.of hd2) (ybY zs _) ?_
     walk_at ""
     refine yaE (SqT.of ec) (yai (j:=1) (w1 hl)) ?_
     walk_at ""
     refine yaE (SqT.of eb2) (yai (j:=1) (y1 hr')) ?_
     walk_at ""
     refine⟨by show 2<=sizeLine;decide,λp2 hp2=>?_⟩
     have s3:=yag hp2 (.tup [.str "rest",.int (snL sl+snL sn)])
     have np:p2≠D:=λz=>by rw[z,hd2] at hp2;cases hp2
     have sm2:=sm.trans s2
     have e3:upd H2 p2 (.tup [.str "rest",.int (snL sl+snL sn)]) p2=some (.tup [.str "rest",.int (snL sl+snL sn)]):=yae
     walk_at ""
     refine⟨D,_,-1,_,rfl,rfl,s3 _ _ hd2,ynR (by simp),?_⟩
     rw[ymT]
     refine hN _ _ ⟨⟨_,rfl⟩,?_⟩
     cases sn with
     | tones=>cases hr'
     | rest n =>
      cases sl with
      | tones=>cases hl
      | rest m =>
       rw[tk,ev,ybk]
       exact Acc.put (R:=λH x s=>Is H x (snT s)) yiT hD (sm2.trans s3) (az.imp λ_ _ _ z=>z.same (ybc (s2.trans s3))) (ymn (yhA np (sm2.free hp2) e3))
 ·rintro σ H' ⟨⟨o,rfl⟩,sm,kv,hd,ak⟩
  rw[al.1,List.take_length] at ak
  obtain⟨sl,e⟩:∃ s,(ya2 ss).getLast?=some s:=by
   cases e:(ya2 ss).getLast? with
   | none=>exact(ynq n1 (List.getLast?_eq_none_iff.mp e)).elim
   | some s=>exact⟨s,rfl⟩
  have er:ycG (ya2 ss)=isR sl:=by unfold ycG;rw[e]
  obtain⟨zs,z,rfl,sz,vs',ev,az⟩:=yde ak e
  obtain⟨c,ws,rfl,ec,w0,w1,w2⟩:=yse (sz.same (ycz sH sm))
  walk_at ""
  refine ybf (SqL.of hd) (ybY zs _) ?_
  walk_at ""
  refine yaE (SqT.of ec) (yai (j:=0) w0) ?_
  walk_at ""
  refine yeI ⟨rfl,ybh⟩ ⟨rfl,ybh⟩ (ybC rfl) (ybC rfl) ?_
  rw[ygc]
  walk_at ""
  cases hl:isR sl with
  | false =>
   refine i_F ?_
   walk_at ""
   refine q _ _ sm (ybU (by rw[yaI hD];exact hd) ?_)
   rw[show yaQ ss=ya2 ss by unfold yaQ ycW;rw[er,hl];rfl]
   exact(yc1 ak).same yc4
  | true =>
   refine i_T ?_
   walk_at ""
   refine⟨.inl ⟨rfl,_,SqL.of hd⟩,D,_,V.ref c,rfl,rfl,hd,by rw[List.length_append,List.length_singleton,Nat.add_sub_cancel];simp,?_⟩
   rw[List.dropLast_concat]
   walk_at ""
   refine q _ _ (yaS hD sm) (ybU (by rw[yaI hD];exact yae) ?_)
   rw[show yaQ ss=vs' by unfold yaQ ycW;rw[er,hl,ev,List.dropLast_concat];rfl]
   exact(yc1 (az.imp λ_ _ _ z=>z.same ydX)).same yc4
noncomputable def yjX:Sp:=λvs H Q _=>∃ (x:V) (vss:List (List Sn)),vs=[x]/\Is H x (vsT vss)/\yfv vss/\∀ H',Same H H'->Q (.int (ycZ vss)) H'
theorem ysN (T:Txt K mg t):FnOk P w K mg base CX0 1 t.f_zJ t.d_zJ ["_law_voices_here"] yjX:=by
 refine T.zJ.F.ok sc_zJ (λvs H Q E h=>?_) (λ_ _ _ s H vs Q E hr h=>?_)
 ·obtain⟨_,_,rfl,_⟩:=h;rfl
 have hu:=ybs hr
 obtain⟨x,vss,rfl,ix,gv,q⟩:=h
 rw[vsT,Is] at ix
 obtain⟨a,xs,rfl,ea,ix⟩:=ix
 have al:=ybE ix
 have n2:=gv.n2
 refine⟨_,(yac (yap (i:=1) sc_zJ.nd rfl (Or.inl rfl) (yaV yab)) (yac (yco PassesOwn.never rfl (yaY (pv 0)) (yax (i:=2) sc_zJ.nd rfl (Or.inl rfl)) (yaf (yaG (ybe F.plainAttrs_list F.slot_list_append F.type_list_append yaP (pv 1) (yaa (yak (yhm rfl) rfl T.Ql ygn (yaa (ya8 (yaH (NB:=["_law_told"]) (cap:=[none]) rfl) rfl (yaY (pv 2)) (λ_ _ _ _=>(yax (i:=0) (show List.Nodup (["_law_told"]:List Str) by decide) rfl (Or.inl rfl))) (λ_ _ _ _=>yaJ) (λ_ _ _ _=>(ybd (yan (show OpR _ _ (ymE K) from yb0 hu) (yaq (show IxR _ (yjk K) from yar) (pv 0) yad (λ_ _=>rfl)) yat (yao _)) (yaq (show IxR _ (yjk K) from yar) (pv 0) yad (λ_ _=>rfl)) (yaq (show IxR _ (yjk K) from yar) (pv 0) yad (λ_ _=>rfl))))) yab)) yab))))) (yaf (yaj (yak (yhW hr.hd) rfl T.Qs yi7 (yaa (pv 1) yab)))))),?_⟩
 walk_at ""
 refine⟨Nat.zero_le _,λD hD=>?_⟩
 walk_at ""
 refine⟨a,rfl,⟨_,SqL.of (yag hD _ _ _ ea)⟩,ycc (xs:=xs) (λi σ H'=>(∃ o,σ=[some (.ref a),some (.ref D),o])/\Same H H'/\H' D=some (.lst (((vss.take i).map ybu).map V.int))) ⟨⟨_,rfl⟩,yag hD _,yae⟩ (λi σ H' _ p=>SqL.of (p.2.1 _ _ ea)) ?_ ?_⟩
 ·rintro i x σ H' N hN hx ⟨⟨o,rfl⟩,sm,hd⟩
  have hi:i < vss.length:=by have:=(List.getElem?_eq_some_iff.mp hx).1;rw[al.1] at this;exact this
  obtain⟨x',e,rx⟩:=al.2 i hi
  rw[hx] at e
  cases e
  rw[vT,Is] at rx
  obtain⟨b,ys,rfl,eb,iy⟩:=rx
  have eb':=sm _ _ eb
  have as:=ybE iy
  have hv:=List.getElem_mem hi
  have tk:(vss.take (i+1)).map ybu=(vss.take i).map ybu++[ybu vss[i]]:=by rw[List.take_succ_eq_append_getElem hi,List.map_append];rfl
  walk_at ""
  refine⟨.inl ⟨rfl,_,SqL.of hd⟩,?_⟩
  walk_at ""
  refine⟨b,rfl,⟨_,SqL.of eb'⟩,λD2 hD2=>ybD (λs=>V.int (snL s)) eb' as hD2 (by have:=gv.len _ hv;omega) (λx s H2 Q' hs s2 rx q'=>?_) λH2 s2 hd2=>yc5 ⟨D2,vss[i].map snL,rfl,SqL.of (by rw[List.map_map];exact hd2),?_,by rw[List.length_map];have:=gv.len _ hv;omega,?_⟩⟩
  ·obtain⟨c,ws,rfl,ec,w0,w1,w2⟩:=yse (rx.same (sm.trans s2))
   walk_at ""
   refine yaE (SqT.of ec) (yai (j:=0) w0) ?_
   walk_at ""
   refine yeI ⟨rfl,ybh⟩ ⟨rfl,ybh⟩ (ybC rfl) (ybC rfl) ?_
   rw[ygc]
   walk_at ""
   cases hs:isR s with
   | true =>
    refine i_T ?_
    walk_at ""
    exact yaE (SqT.of ec) (yai (j:=1) (w1 hs)) (q' _ (Same.refl _))
   | false =>
    refine i_F ?_
    walk_at ""
    exact yaE (SqT.of ec) (yai (j:=2) (w2 hs)) (q' _ (Same.refl _))
  ·intro n hn
   obtain⟨s,hs',rfl⟩:=List.mem_map.mp hn
   have p:=gv.pos _ hv
   have:=p s hs'
   have:=yof p hs'
   have:=gv.sum _ hv
   omega
  ·walk_at ""
   refine ych (s2 _ _ hd) (by rw[List.length_map,List.length_map,List.length_take];exact yaz (by omega)) (hN _ _ ⟨⟨_,rfl⟩,yaS hD (sm.trans s2),?_⟩)
   rw[yae,tk,List.map_append]
   rfl
 ·rintro σ H' ⟨⟨o,rfl⟩,sm,hd⟩
  rw[al.1,List.take_length] at hd
  walk_at ""
  refine⟨D,vss.map ybu,rfl,SqL.of hd,by rw[List.length_map];exact gv.n1,λm h1 h2=>?_⟩
  rw[yfP gv.n1 gv.pos h1 h2]
  exact q _ sm
noncomputable def OkVs (vss:List (List Sn)):Prop:=GoodVs vss/\∀ ss∈vss,ycG (yaQ ss)=false/\ybu (yaQ ss)<=773
noncomputable def yhb (K:PySem.W.Frag):Sp:=λvs H Q _=>∃ (a tp:Addr) (ns:List Int) (N:Nat) (most:Int),vs=[.ref a,.ref tp,.int most]/\Dr K a tp ns H N/\N<=60000/\200<=most/\most<=780/\∀ (y:V) (vss:List (List Sn)) (H':Hp),OkVs vss->SameT tp H H'->Dr K a tp ns H' (N+10001)->Is (fr H H') y (vsT vss)->Q y H'
theorem ytq (T:Txt K mg t)(G_zaj:FnOk P w K mg base CX0 1 t.f_zaj t.d_zaj ["_law_script","_law_tape","_law_size"] (ycL K))(G_zM:FnOk P w K mg base CX0 3 t.f_zM t.d_zM ["_law_script","_law_tape","_law_most"] (yl6 K)):FnOk P w K mg base CX0 4 t.f_zC t.d_zC ["_law_script","_law_tape","_law_most"] (yhb K):=by
 refine T.zC.F.ok ytt (λvs H Q E h=>?_) (λ_ _ _ s' H vs Q E hr h=>?_)
 ·obtain⟨_,_,_,_,_,rfl,_⟩:=h;rfl
 have hu:=ybs hr
 obtain⟨a,tp,ns,N,most,rfl,dr,hN,hm,hm2,q⟩:=h
 refine⟨_,(yaf (yaj (ya8 (yaH (NB:=["_law_k","_law_script","_law_tape","_law_most"]) (cap:=[none,some 0,some 1,some 2]) rfl) rfl (ycJ rfl T.Jo (yaa (yaC yby yad (pcl G_zaj hr T.JJ (yaa (pv 0) (yaa (pv 1) (yaa yad yab))))) yab)) (λ_ _ _ _=>(yax (i:=0) (show List.Nodup (["_law_k","_law_script","_law_tape","_law_most"]:List Str) by decide) rfl (Or.inl rfl))) (λ_ _ _ _=>yaJ) (λ_ _ _ _=>(pcl G_zM hr T.zM (yaa (pv 1) (yaa (pv 2) (yaa (pv 3) yab)))))))),?_⟩
 walk_at ""
 refine⟨a,tp,ns,N,2,rfl,dr,by omega,by decide,by decide,λv H1 v0 v1 s1 d1=>?_⟩
 walk_at ""
 refine⟨_,rfl,by omega,by omega,λD hD=>yei (λi σ' H'=>(∃ o,σ'=[o,some (.ref a),some (.ref tp),some (.int most)])/\Dr K a tp ns H' (N+1+5000*i)/\∃ vss:List (List Sn),vss.length=i/\(∀ ss∈vss,GoodV ss/\ycG (yaQ ss)=false/\ybu (yaQ ss)<=773)/\AccT vT tp H1 H' D vss) ⟨⟨_,rfl⟩,d1.same (yag hD _),[],rfl,by simp,AccT.nil hD⟩ ?_ ?_⟩
 ·rintro i σ' H' hi ⟨⟨o,rfl⟩,dd,vss,lv,gv,acc⟩
  refine ybj (ydk (i_T ?_))
  walk_at ""
  refine⟨a,tp,ns,_,most,rfl,dd,by omega,hm,hm2,λy ss H3 g1 g2 g3 s3 d3 iy=>?_⟩
  have acc3:=AccT.tt d1 hD acc s3
  obtain⟨ks,hd,lk,acc4⟩:=acc3.put d1 hD (iy.same (AccT.new dd acc))
  refine⟨ks,hd,yaz (by omega),⟨_,rfl⟩,(d1.put hD acc3.1 d3).up (by omega),_,by rw[List.length_append,lv];rfl,λz hz=>?_,acc4⟩
  rcases List.mem_append.mp hz with hz | hz
  ·exact gv z hz
  ·rw[List.mem_singleton.mp hz];exact⟨g1,g2,g3⟩
 ·rintro σ' H' ⟨⟨o,rfl⟩,dd,vss,lv,gv,acc⟩
  refine q _ vss _ ⟨⟨by omega,by omega,λss h=>(gv ss h).1⟩,λss h=>(gv ss h).2⟩ (SameT.trans s1 acc.1) (dd.up (by omega)) ((acc.fin hD).same (ybK d1 s1))
noncomputable def chg (vs:List Cv):Nat->List (Nat×Cv)
 | 0=>[]
 | n+1=>if ((chg vs n).getLast?).map (·.2)=some (vs.getD n (.k 0)) then chg vs n else chg vs n++[(n+1,vs.getD n (.k 0))]
structure yra (vs:List Cv) (n:Nat) (cs:List (Nat×Cv)):Prop where
 len:cs.length<=n
 le:∀ c∈cs,c.1<=n
 one:1<=n->(cs.map (·.1)).take 1=[1]
 up:∀ i (h:i+1 < cs.length),cs[i].1 < cs[i+1].1
 ne:∀ i (h:i+1 < cs.length),cs[i].2≠cs[i+1].2
 mem:∀ c∈cs,c.2∈vs
 last:1<=n->(cs.getLast?).map (·.2)=some (vs.getD (n - 1) (.k 0))
 at_:∀ i,i < n->yd0 (i+1) cs=some (vs.getD i (.k 0))
theorem yct {α:Type}(l:List α)(x:α):(l++[x]).getLast?=some x:=by rw[List.getLast?_append];rfl
theorem yfN {cs:List (Nat×Cv)}{n:Nat}(h:∀ c∈cs,c.1<=n):cs.filter (λc=>decide (c.1<=n))=cs:=List.filter_eq_self.mpr λc hc=>by simpa using h c hc
theorem yi9 {vs:List Cv}:∀ n,n<=vs.length->yra vs n (chg vs n)
 | 0,_=>⟨Nat.le_refl _,(λc h=>nomatch h),(λh=>absurd h (by omega)),(λi h=>absurd h (by simp[chg])),(λi h=>absurd h (by simp[chg])),(λc h=>nomatch h),(λh=>absurd h (by omega)),(λi h=>absurd h (by omega))⟩
 | n+1,h=>by
  have ih:=yi9 (vs:=vs) n (by omega)
  have vm:vs.getD n (.k 0)∈vs:=by rw[ybw (show n < vs.length by omega)];exact List.getElem_mem _
  by_cases e:((chg vs n).getLast?).map (·.2)=some (vs.getD n (.k 0))
  ·have ec:chg vs (n+1)=chg vs n:=by rw[chg,if_pos e]
   have n1:1<=n:=by
    cases n with
    | zero=>cases e
    | succ n=>omega
   rw[ec]
   refine⟨by have:=ih.len;omega,λc hc=>by have:=ih.le c hc;omega,λ_=>ih.one n1,ih.up,ih.ne,ih.mem,λ_=>e,λi hi=>?_⟩
   by_cases z:i < n
   ·exact ih.at_ i z
   ·have:i=n:=by omega
    subst this
    unfold yd0
    rw[yfN λc hc=>by have:=ih.le c hc;omega]
    exact e
  ·have ec:chg vs (n+1)=chg vs n++[(n+1,vs.getD n (.k 0))]:=by rw[chg,if_neg e]
   rw[ec]
   generalize hcs:chg vs n=cs at ih e
   have last_le:∀ i (h:i+1=cs.length),cs[i].1 < n+1/\cs[i].2≠vs.getD n (.k 0):=λi h=>by
    have m:=List.getElem_mem (show i < cs.length by omega)
    have:=ih.le _ m
    refine⟨by omega,λz=>e ?_⟩
    have:cs.getLast?=some cs[i]:=by
     rw[List.getLast?_eq_getElem?,List.getElem?_eq_getElem (by omega)]
     simp only[← h,Nat.add_sub_cancel]
    rw[this]
    exact congrArg some z
   refine⟨by rw[List.length_append,List.length_singleton];have:=ih.len;omega,λc hc=>?_,λ_=>?_,λi h=>?_,λi h=>?_,λc hc=>?_,λ_=>by rw[yct];rfl,λi hi=>?_⟩
   ·rcases List.mem_append.mp hc with hc | hc
    ·have:=ih.le c hc;omega
    ·rw[List.mem_singleton.mp hc];exact Nat.le_refl _
   ·cases n with
    | zero =>
     have:cs=[]:=List.eq_nil_of_length_eq_zero (by have:=ih.len;omega)
     rw[this]
     rfl
    | succ n =>
     have o:=ih.one (by omega)
     cases cs with
     | nil=>cases o
     | cons c cs=>exact o
   ·rw[List.length_append,List.length_singleton] at h
    by_cases z:i+1 < cs.length
    ·rw[List.getElem_append_left (by omega),List.getElem_append_left z];exact ih.up i z
    ·rw[List.getElem_append_left (by omega),List.getElem_append_right (by omega)]
     simp only[List.getElem_singleton]
     exact(last_le i (by omega)).1
   ·rw[List.length_append,List.length_singleton] at h
    by_cases z:i+1 < cs.length
    ·rw[List.getElem_append_left (by omega),List.getElem_append_left z];exact ih.ne i z
    ·rw[List.getElem_append_left (by omega),List.getElem_append_right (by omega)]
     simp only[List.getElem_singleton]
     exact(last_le i (by omega)).2
   ·rcases List.mem_append.mp hc with hc | hc
    ·exact ih.mem c hc
    ·rw[List.mem_singleton.mp hc];exact vm
   ·unfold yd0
    by_cases z:i < n
    ·rw[List.filter_append,show[((n+1:Nat),vs.getD n (.k 0))].filter (λc=>decide (c.1<=i+1))=[] by simp;omega,List.append_nil]
     exact ih.at_ i z
    ·have:i=n:=by omega
     subst this
     rw[yfN λc hc=>?_,yct]
     ·rfl
     ·rcases List.mem_append.mp hc with hc | hc
      ·have:=ih.le c hc;omega
      ·rw[List.mem_singleton.mp hc];exact Nat.le_refl _
noncomputable def yb2:Bool->Fr->Cv
 | true,f=>.m f.1
 | false,f=>.k f.2
noncomputable def ydR (j:Bool)(fw:List Fr):List (Nat×Cv):=chg (fw.map (yb2 j)) fw.length
theorem ykH {vss:List (List Sn)}{fw:List Fr}(v:GoodVs vss)(f:OkF fw (ycZ (vss.map yaQ)))(ne:fw≠[]):yoi (ydR true fw) (ydR false fw) vss fw:=by
 have l1:1<=fw.length:=by
  cases fw with
  | nil=>exact(ne rfl).elim
  | cons=>simp
 have l24:=f.len
 have ok:∀ j,yra (fw.map (yb2 j)) fw.length (ydR j fw):=λj=>yi9 _ (by rw[List.length_map];exact Nat.le_refl _)
 have gd:∀ j i (h:i < fw.length),(fw.map (yb2 j)).getD i (.k 0)=yb2 j fw[i]:=λj i h=>by rw[ybw (by rw[List.length_map];exact h),List.getElem_map]
 have gc:∀ j,yjL j (ydR j fw):=λj=>⟨by have:=(ok j).len;omega,(ok j).one l1,(ok j).up,(ok j).ne,λc hc=>by
  obtain⟨g,hg,e⟩:=List.mem_map.mp ((ok j).mem c hc)
  rw[← e]
  cases j with
  | true=>exact f.m g hg
  | false=>exact f.k g hg⟩
 have ls:∀ j,∃ c,(ydR j fw).getLast?=some c/\c.1<=fw.length:=λj=>by
  cases e:(ydR j fw).getLast? with
  | none=>have:=(ok j).last l1;rw[e] at this;cases this
  | some c=>exact⟨c,rfl,(ok j).le c (List.mem_of_getLast? e)⟩
 exact⟨gc true,gc false,v,f,λi h=>⟨by rw[(ok true).at_ i h,gd true i h];rfl,by rw[(ok false).at_ i h,gd false i h];rfl⟩,ls true,ls false⟩
noncomputable def pI:Bool->Int
 | true=>1
 | false=>2
theorem ypw {H:Hp}{x:V}{b:Int}{f:Fr}(j:Bool)(h:Is H x (frT b f)):∃ a ys y,x=.ref a/\H a=some (.tup ys)/\atI ys (pI j)=some y/\Is H y (cvT (yb2 j f)):=by
 obtain⟨a,mv,rfl,ea,im⟩:=h.fr
 cases j with
 | true=>exact⟨a,_,mv,rfl,ea,yai (j:=1) rfl,im⟩
 | false=>exact⟨a,_,_,rfl,ea,yai (j:=2) rfl,yej _ _⟩
theorem yjB:yfr (λH x c=>Is H x (chT c)):=λs h=>h.same s
noncomputable def yoE:Sp:=λvs H Q _=>∃ (x:V) (j:Bool) (fw:List Fr) (Hs:Hp),vs=[x,.int (pI j)]/\Same Hs H/\Is Hs x (ybG fw)/\fw.length<=24/\(∀ f∈fw,yix j (yb2 j f))/\∀ y H',Same H H'->Is (nw Hs H H') y (csT (ydR j fw))->Q y H'
theorem ysG (T:Txt K mg t):FnOk P w K mg base CX0 1 t.f_zu t.d_zu ["_law_frames_here","_law_part"] yoE:=by
 refine T.zu.F.ok sc_zu (λvs H Q E h=>?_) (λ_ _ _ s H vs Q E hr h=>?_)
 ·obtain⟨_,_,_,_,rfl,_⟩:=h;rfl
 have hu:=ybs hr
 obtain⟨x,j,fw,Hs,rfl,sH,ix,l24,gd,q⟩:=h
 rw[ybG,Is] at ix
 obtain⟨a,xs,rfl,ea,ix⟩:=ix
 have ea':=sH _ _ ea
 have al:Al (λz i=>Is Hs z (frT (bg fw i) (fw.getD i (⟨0,0,[]⟩,0)))) xs (List.range fw.length):=ybE ix
 have lx:=al.1
 rw[List.length_range] at lx
 refine⟨_,(yac (yap (i:=2) sc_zu.nd rfl (Or.inl rfl) (yaV yab)) (yac (yco PassesOwn.never rfl (yo8 rfl T.Jw (yaa (pv 0) yab)) (ydy (n:=2) rfl (yaZ (yax (i:=3) sc_zu.nd rfl (Or.inl rfl)) (yaZ (yax (i:=4) sc_zu.nd rfl (Or.inl rfl)) ycD))) (yaf (yaK (PW.pt (yb4 (yan (yf5 hu) (pv 2) (yaV yab) (yao _)) (ybA (yan (ydZ hu) (yaq yar (yaq yaD (pv 2) (ydj yca yad) (λ_ _=>rfl)) yad (λ_ _=>rfl)) (yaq yar (pv 4) (pv 1) (λ_ _=>rfl)) (yao _))))) (yaf (yaG (ybe F.plainAttrs_list F.slot_list_append F.type_list_append yaP (pv 2) (yaa (yaF (yaa (yaC yby (pv 3) yad) (yaa (yaq yar (pv 4) (pv 1) (λ_ _=>rfl)) yab))) yab)))) yav))) (yaf (yaj (pv 2))))),?_⟩
 walk_at ""
 refine⟨Nat.zero_le _,λD hD=>?_⟩
 walk_at ""
 refine⟨a,rfl,⟨_,SqL.of (yag hD _ _ _ ea')⟩,yl3 (xs:=xs) (λi σ H'=>(∃ o1 o2,σ=[some (.ref a),some (.int (pI j)),some (.ref D),o1,o2])/\Acc (λH x c=>Is H x (chT c)) Hs H H' D (chg (fw.map (yb2 j)) i)) ⟨⟨_,_,rfl⟩,Acc.nil hD⟩ (λi σ H' _ p=>SqL.of (p.2.1 _ _ ea')) ?_ ?_⟩
 ·rintro i x σ H' p N hN hx ⟨⟨o1,o2,rfl⟩,acc⟩ hp
  have hi:i < fw.length:=by have:=(List.getElem?_eq_some_iff.mp hx).1;omega
  obtain⟨x',e,rx⟩:=al.2 i (by rw[List.length_range];exact hi)
  rw[hx] at e
  cases e
  rw[List.getElem_range,ybw hi] at rx
  have ok:=yi9 (vs:=fw.map (yb2 j)) i (by rw[List.length_map];omega)
  have vi:(fw.map (yb2 j)).getD i (.k 0)=yb2 j fw[i]:=by rw[ybw (by rw[List.length_map];exact hi),List.getElem_map]
  have cs1:chg (fw.map (yb2 j)) (i+1)=if ((chg (fw.map (yb2 j)) i).getLast?).map (·.2)=some (yb2 j fw[i]) then chg (fw.map (yb2 j)) i else chg (fw.map (yb2 j)) i++[(i+1,yb2 j fw[i])]:=by rw[chg,vi]
  have gi:=gd _ (List.getElem_mem hi)
  have gm:∀ c∈chg (fw.map (yb2 j)) i,yix j c.2:=λc hc=>by
   obtain⟨g,hg,e⟩:=List.mem_map.mp (ok.mem c hc)
   rw[← e]
   exact gd g hg
  have lc:=ok.len
  generalize chg (fw.map (yb2 j)) i=cs at acc cs1 gm lc
  have acc:=Acc.same (R:=λH x c=>Is H x (chT c)) yjB acc (yag hp (.tup [.int (i:Nat),x]))
  have ep:upd H' p (.tup [.int (i:Nat),x]) p=some (.tup [.int (i:Nat),x]):=yae
  generalize upd H' p (.tup [.int (i:Nat),x])=G at acc ep ⊢
  obtain⟨sm,kv,hd,ak⟩:=acc
  have lk:=ak.1
  obtain⟨b,ys,y,rfl,eb,ey,iy⟩:=ypw j rx
  have sG:=sH.trans sm
  have add:∀ (En:yex) G2,(∀ σ H,N σ H->En.nx σ H)->Same G G2->((cs.getLast?).map (·.2)≠some (yb2 j fw[i]))->ynt (tBM K "list" ygi (ydD 2) (yb3 (ypQ (yb3 (tOp (rI0 λi j=>V.int (i+j)) (ydD 3) (tC (V.int 1))) (yb3 (tOp (yjk K) (ydD 4) (ydD 1)) yh6))) yh6)) En [some (.ref a),some (.int (pI j)),some (.ref D),some (.int (i:Nat)),some (.ref b)] G2:=λEn G2 hE s2 hne=>by
   have hd2:=s2 _ _ hd
   refine yoB (ysR (ydf rfl ⟨.inl ⟨rfl,_,SqL.of hd2⟩,?_⟩))
   walk_at ""
   refine yaE (SqT.of (sG.trans s2 _ _ eb)) ey ?_
   walk_at ""
   refine⟨by show 2<=sizeLine;decide,λp2 hp2=>?_⟩
   walk_at ""
   have np:p2≠D:=λz=>by rw[z,hd2] at hp2;cases hp2
   have s3:=yag hp2 (.tup [.int ((i:Int)+1),y])
   refine ych (s3 _ _ hd2) (yaz (by omega)) (hE _ _ (hN _ _ ⟨⟨_,_,rfl⟩,?_⟩))
   rw[cs1,if_neg hne]
   refine Acc.put (R:=λH x c=>Is H x (chT c)) yjB hD ((sm.trans s2).trans s3) (ak.imp λ_ _ _ z=>z.same (ybc (s2.trans s3))) (ytS ?_ (iy.same (yfk sH)))
   refine yhA np ((sm.trans s2).free hp2) ?_
   rw[yae,Int.natCast_add]
   rfl
  refine ykw (SqT.of ep) ?_
  walk_at ""
  refine⟨Nat.zero_le _,λp2 hp2=>?_⟩
  have s2:=yag hp2 (.lst [])
  have hd2:=s2 _ _ hd
  refine⟨D,p2,kv,rfl,rfl,SqL.of hd2,SqL.of yae,ya0 ?_⟩
  generalize upd G p2 (.lst [])=G2 at s2 hd2 ⊢
  cases e:cs.getLast? with
  | none =>
   have:kv=[]:=List.eq_nil_of_length_eq_zero (by rw[lk,List.getLast?_eq_none_iff.mp e];rfl)
   subst this
   exact i_T (i_T (add _ G2 (λ_ _ z=>z) s2 (by rw[e];simp)))
  | some c =>
   obtain⟨zs,z,rfl,sz,_⟩:=yde ak e
   obtain⟨b2,y2,rfl,eb2,iy2⟩:=((sz.same (ycz sH sm)).same s2).ch
   rw[show(zs++[V.ref b2]).isEmpty=false by cases zs<;>rfl]
   refine i_F ?_
   walk_at ""
   refine ybf (SqL.of hd2) (ybY zs _) ?_
   walk_at ""
   refine yaE (SqT.of eb2) (yai (j:=1) rfl) ?_
   walk_at ""
   refine yaE (SqT.of (sG.trans s2 _ _ eb)) ey ?_
   refine yiv (yg2 _) (yg2 _) iy2 (iy.same (sG.trans s2)) ?_
   rw[yrZ (gm c (List.mem_of_getLast? e)) gi]
   walk_at ""
   refine i_n (λh=>add _ G2 (λ_ _ z=>z) s2 ?_) λh=>ybn (hN _ _ ⟨⟨_,_,rfl⟩,?_⟩)
   ·rw[e]
    simpa using h
   ·rw[cs1,if_pos (by rw[e];simpa using h)]
    exact⟨sm.trans s2,_,hd2,ak.imp λ_ _ _ z=>z.same (ybc s2)⟩
 ·rintro σ H' ⟨⟨o1,o2,rfl⟩,sm,kv,hd,ak⟩
  rw[lx] at ak
  walk_at ""
  exact q _ _ sm (ybU (by rw[yaI hD];exact hd) ((yc1 ak).same yc4))
noncomputable def frP (fw:List Fr):List (Int×Fr):=(List.range fw.length).map λi=>(bg fw i,fw.getD i (⟨0,0,[]⟩,0))
theorem yjy {fw:List Fr}{f:Fr}{i:Nat}(h:i<=fw.length):bg (fw++[f]) i=bg fw i:=by unfold bg;rw[List.take_append_of_le_length h]
theorem ym5 (fw:List Fr)(f:Fr):frP (fw++[f])=frP fw++[(bg fw fw.length,f)]:=by
 unfold frP
 rw[List.length_append,List.length_singleton,List.range_succ,List.map_append]
 have h1:(List.range fw.length).map (λi=>(bg (fw++[f]) i,(fw++[f]).getD i (⟨0,0,[]⟩,0)))=(List.range fw.length).map λi=>(bg fw i,fw.getD i (⟨0,0,[]⟩,0)):=List.map_congr_left λi hi=>by
  have:=List.mem_range.mp hi
  rw[yjy (by omega),ybw (by rw[List.length_append];omega),List.getElem_append_left this,ybw this]
 rw[h1,List.map_singleton,yjy (Nat.le_refl _),ybw (by rw[List.length_append];simp),List.getElem_append_right (Nat.le_refl _)]
 simp
theorem yta (fw:List Fr):(frP fw).map (λp=>frT p.1 p.2)=yjn fw fw.length:=by unfold frP yjn;rw[List.map_map];rfl
theorem yoc {fw:List Fr}{f:Fr}:bg (fw++[f]) (fw++[f]).length=bg fw fw.length+ymD f.1:=by
 have h:fw.length < (fw++[f]).length:=by simp
 rw[List.length_append,List.length_singleton,yiC h,yjy (Nat.le_refl _)]
 simp
theorem yq6 {m:Mt}(g:yih m):m.tp*96 / m.bt=ymD m:=by
 unfold ymD
 rcases g.b with e | e | e<;>rw[e]<;>omega
theorem ypB {fw:List Fr}(h:∀ f∈fw,36<=ymD f.1):∀ i,i<=fw.length->36*(i:Int)<=bg fw i
 | 0,_=>by simp[bg]
 | i+1,hi=>by
  have:=ypB h i (by omega)
  have:=h _ (List.getElem_mem (show i < fw.length by omega))
  rw[yiC (by omega)]
  omega
noncomputable def yhJ (K:PySem.W.Frag):Sp:=λvs H Q _=>∃ (a tp:Addr) (ns:List Int) (N:Nat) (lasts:Int),vs=[.ref a,.ref tp,.int lasts]/\Dr K a tp ns H N/\N<=80000/\0 < lasts/\lasts<=773/\∀ (y:V) (fw:List Fr) (H':Hp),OkF fw lasts->(∀ f∈fw,f.1∈metresL)->fw≠[]->SameT tp H H'->Dr K a tp ns H' (N+100)->Is (fr H H') y (ybG fw)->Q y H'
theorem yua (T:Txt K mg t)(G_zaj:FnOk P w K mg base CX0 1 t.f_zaj t.d_zaj ["_law_script","_law_tape","_law_size"] (ycL K))(G_zX:FnOk P w K mg base CX0 2 t.f_zX t.d_zX ["_law_script","_law_tape"] (yle K)):FnOk P w K mg base CX0 3 t.f_zE t.d_zE ["_law_script","_law_tape","_law_lasts_here"] (yhJ K):=by
 refine T.zE.F.ok sc_zE (λvs H Q E h=>?_) (λ_ _ _ s' H vs Q E hr h=>?_)
 ·obtain⟨_,_,_,_,_,rfl,_⟩:=h;rfl
 have hu:=ybs hr
 obtain⟨a,tp,ns,N,lasts,rfl,dr,hN,l0,l1,q⟩:=h
 refine⟨_,(yac (yap (i:=3) sc_zE.nd rfl (Or.inl rfl) (yaV yab)) (yac (yap (i:=4) sc_zE.nd rfl (Or.inl rfl) yad) (yac (yap (i:=5) sc_zE.nd rfl (Or.inl rfl) (pcl G_zX hr T.zX (yaa (pv 0) (yaa (pv 1) yab)))) (yac (yap (i:=6) sc_zE.nd rfl (Or.inl rfl) (yaC ydC (pcl G_zaj hr T.JJ (yaa (pv 0) (yaa (pv 1) (yaa yad yab)))) yad)) (yac (ygm PassesOwn.never (yan ye6 (pv 4) (pv 2) (yao _)) (yac (yaK (PW.pt (yd5 (yan (yd3 hu) (pv 3) (yaV yab) (yao _)) (yda (yan yci (pcl G_zaj hr T.JJ (yaa (pv 0) (yaa (pv 1) (yaa yad yab)))) yad (yao _))))) (yaf (yap (i:=5) sc_zE.nd rfl (Or.inl rfl) (pcl G_zX hr T.zX (yaa (pv 0) (yaa (pv 1) yab))))) yav) (yac (yaK (PW.pt (yd5 (yan (yd3 hu) (pv 3) (yaV yab) (yao _)) (yda (yan yci (pcl G_zaj hr T.JJ (yaa (pv 0) (yaa (pv 1) (yaa yad yab)))) yad (yao _))))) (yaf (yap (i:=6) sc_zE.nd rfl (Or.inl rfl) (yaC ydC (pcl G_zaj hr T.JJ (yaa (pv 0) (yaa (pv 1) (yaa yad yab)))) yad))) yav) (yac (yaG (ybe F.plainAttrs_list F.slot_list_append F.type_list_append yaP (pv 3) (yaa (yaF (yaa (pv 4) (yaa (pv 5) (yaa (pv 6) yab)))) yab))) (yaf (yap (i:=4) sc_zE.nd rfl (Or.inl rfl) (yaC yby (pv 4) (yaC yc8 (yaC ycp (yaq yar (pv 5) yad (λ_ _=>rfl)) yad) (yaq yar (pv 5) yad (λ_ _=>rfl)))))))))) (yaf (yaj (pv 3)))))))),?_⟩
 walk_at ""
 refine⟨Nat.zero_le _,λD hD=>?_⟩
 have s1:=yag hD (.lst [])
 have dr1:=dr.same s1
 have acc0:AccT (λp:Int×Fr=>frT p.1 p.2) tp H (upd H D (.lst [])) D []:=AccT.nil hD
 walk_at ""
 refine⟨a,tp,ns,N,rfl,dr1,by omega,λmv m H1 hm s2 d2 im=>?_⟩
 walk_at ""
 refine⟨a,tp,ns,_,15,rfl,d2,by omega,by decide,by decide,λv H2 v0 v1 s3 d3=>?_⟩
 walk_at ""
 have acc2:=AccT.tt dr hD acc0 (SameT.trans s2 s3)
 have im2:Is (rm (fr H H2) D) mv (mtT m):=im.same ((AccT.new dr1 acc0).trans (ycO λb u _ e=>dr.fr s3 b u e))
 refine⟨λn σ H'=>∃ (fw:List Fr) (mv:V) (m:Mt) (k:Int),n=(lasts - bg fw fw.length).toNat/\σ=[some (.ref a),some (.ref tp),some (.int lasts),some (.ref D),some (.int (bg fw fw.length)),some mv,some (.int k)]/\Is (rm (fr H H') D) mv (mtT m)/\m∈metresL/\-7<=k/\k<=7/\(∀ f∈fw,f.1∈metresL/\-7<=f.2/\f.2<=7)/\(∀ i,i < fw.length->bg fw i < lasts)/\AccT (λp:Int×Fr=>frT p.1 p.2) tp H H' D (frP fw)/\Dr K a tp ns H' (N+2+4*fw.length),⟨_,[],mv,m,_,rfl,rfl,im2,hm,by omega,by omega,by simp,λi h=>absurd h (by simp),acc2,d3⟩,?_⟩
 rintro n σ H' ⟨fw,mv,m,k,rfl,rfl,im,hm,k0,k7,gf,gl,acc,dd⟩
 have g36:∀ f∈fw,36<=ymD f.1:=λf hf=>(yb6 f.1 (gf f hf).1).2
 walk_at ""
 refine i_d (λh=>?_) λh=>?_
 ·have ln:fw.length<=21:=by
   have:=ypB g36 fw.length (Nat.le_refl _)
   omega
  refine⟨fun σ' H''=>∃ (fw2:List Fr) (mv:V) (m:Mt) (k:Int),bg fw fw.length < bg fw2 fw2.length/\σ'=[some (.ref a),some (.ref tp),some (.int lasts),some (.ref D),some (.int (bg fw2 fw2.length)),some mv,some (.int k)]/\Is (rm (fr H H'') D) mv (mtT m)/\m∈metresL/\-7<=k/\k<=7/\(∀ f∈fw2,f.1∈metresL/\-7<=f.2/\f.2<=7)/\(∀ i,i < fw2.length->bg fw2 i < lasts)/\AccT (λp:Int×Fr=>frT p.1 p.2) tp H H'' D (frP fw2)/\Dr K a tp ns H'' (N+2+4*fw2.length),fun σ' H'' ⟨fw2,mv,m,k,lt,z⟩=>⟨_,by omega,fw2,mv,m,k,rfl,z⟩,?_⟩
  obtain⟨_,ks0,hd0,is0⟩:=id acc
  have lk0:=is0.len
  rw[List.length_map,show(frP fw).length=fw.length by unfold frP;rw[List.length_map,List.length_range]] at lk0
  refine ycw (yku (te:=yip _ _ _) (fun σ H2=>∃ (mv:V) (m:Mt),σ=[some (.ref a),some (.ref tp),some (.int lasts),some (.ref D),some (.int (bg fw fw.length)),some mv,some (.int k)]/\Is (rm (fr H H2) D) mv (mtT m)/\m∈metresL/\AccT (λp:Int×Fr=>frT p.1 p.2) tp H H2 D (frP fw)/\Dr K a tp ns H2 (N+2+4*fw.length+2)) (λD' hD'=>?_) fun σ H2 p=>?_)
  ·walk_at ""
   refine⟨Nat.zero_le _,λp hp=>?_⟩
   have s4:=yag hp (.lst [])
   have acc4:=AccT.tt dr hD acc (Same.tt s4)
   have d4:=dd.same s4
   have im4:=im.same (ycO λb u _ e=>dr.fr (Same.tt s4) b u e)
   refine⟨D,p,ks0,rfl,rfl,SqL.of (s4 _ _ hd0),SqL.of yae,ya0 ?_⟩
   generalize upd H' p (.lst [])=H4 at acc4 d4 im4 ⊢
   refine i_b (λ_=>?_) λ_=>?_
   ·walk_at ""
    refine⟨a,tp,ns,_,5,rfl,d4,by omega,by decide,by decide,λu H5 u0 u1 s5 d5=>?_⟩
    have acc5:=AccT.tt dr hD acc4 s5
    have im5:=im4.same (ycO λb u _ e=>dr.fr s5 b u e)
    walk_at ""
    refine i_d (λ_=>?_) λ_=>?_
    ·walk_at ""
     refine⟨a,tp,ns,_,rfl,d5,by omega,λmv2 m2 H6 hm2 s6 d6 im6=>?_⟩
     exact hD' _ _ ⟨mv2,m2,rfl,im6.same (AccT.new d5 acc5),hm2,AccT.tt dr hD acc5 s6,d6⟩
    ·exact ybn (hD' _ _ ⟨mv,m,rfl,im5,hm,acc5,d5.up (by omega)⟩)
   ·exact ybn (hD' _ _ ⟨mv,m,rfl,im4,hm,acc4,d4.up (by omega)⟩)
  obtain⟨mv,m,rfl,im,hm,acc,dd⟩:=p
  obtain⟨_,ks0,hd0,is0⟩:=id acc
  dsimp only
  refine ycw (yku (te:=yip _ _ _) (fun σ H3=>∃ (k:Int),σ=[some (.ref a),some (.ref tp),some (.int lasts),some (.ref D),some (.int (bg fw fw.length)),some mv,some (.int k)]/\-7<=k/\k<=7/\Is (rm (fr H H3) D) mv (mtT m)/\AccT (λp:Int×Fr=>frT p.1 p.2) tp H H3 D (frP fw)/\Dr K a tp ns H3 (N+2+4*fw.length+4)) (λD' hD'=>?_) fun σ H3 p=>?_)
  ·walk_at ""
   refine⟨Nat.zero_le _,λp hp=>?_⟩
   have s4:=yag hp (.lst [])
   have acc4:=AccT.tt dr hD acc (Same.tt s4)
   have d4:=dd.same s4
   have im4:=im.same (ycO λb u _ e=>dr.fr (Same.tt s4) b u e)
   refine⟨D,p,ks0,rfl,rfl,SqL.of (s4 _ _ hd0),SqL.of yae,ya0 ?_⟩
   generalize upd H2 p (.lst [])=H4 at acc4 d4 im4 ⊢
   refine i_b (λ_=>?_) λ_=>?_
   ·walk_at ""
    refine⟨a,tp,ns,_,5,rfl,d4,by omega,by decide,by decide,λu H5 u0 u1 s5 d5=>?_⟩
    have acc5:=AccT.tt dr hD acc4 s5
    have im5:=im4.same (ycO λb u _ e=>dr.fr s5 b u e)
    walk_at ""
    refine i_d (λ_=>?_) λ_=>?_
    ·walk_at ""
     refine⟨a,tp,ns,_,15,rfl,d5,by omega,by decide,by decide,λk2 H6 k0 k1 s6 d6=>?_⟩
     walk_at ""
     exact hD' _ _ ⟨k2 - 7,rfl,by omega,by omega,im5.same (ycO λb u _ e=>dr.fr s6 b u e),AccT.tt dr hD acc5 s6,d6⟩
    ·exact ybn (hD' _ _ ⟨k,rfl,k0,k7,im5,acc5,d5.up (by omega)⟩)
   ·exact ybn (hD' _ _ ⟨k,rfl,k0,k7,im4,acc4,d4.up (by omega)⟩)
  obtain⟨k,rfl,k0,k7,im,acc,dd⟩:=p
  obtain⟨_,ks1,hd1,is1⟩:=id acc
  walk_at ""
  refine⟨.inl ⟨rfl,_,SqL.of hd1⟩,?_⟩
  walk_at ""
  refine⟨by show 3<=sizeLine;decide,λp hp=>?_⟩
  have s4:=yag hp (.tup [.int (bg fw fw.length),mv,.int k])
  have acc4:=AccT.tt dr hD acc (Same.tt s4)
  have d4:=dd.same s4
  have im4:=im.same (ycO λb u _ e=>dr.fr (Same.tt s4) b u e)
  have np:p≠D:=λz=>by rw[z,hd1] at hp;cases hp
  have ip:Is (rm (fr H (upd H3 p (.tup [.int (bg fw fw.length),mv,.int k]))) D) (.ref p) (frT (bg fw fw.length) (m,k)):=yrj (by rw[yeY np,ybB (dd.free acc.1 hp)];exact yae) im4
  obtain⟨ks',hd',lk,acc5⟩:=acc4.put dr hD (u:=(bg fw fw.length,(m,k))) ip
  have dd5:=dr.put (o:=.lst (ks'++[.ref p])) hD acc4.1 d4
  have im5:=im4.same (yhQ (o:=.lst (ks'++[.ref p])))
  have lf:(frP fw).length=fw.length:=by unfold frP;rw[List.length_map,List.length_range]
  generalize upd H3 p (.tup [.int (bg fw fw.length),mv,.int k])=H4 at hd' acc5 dd5 im5 ⊢
  walk_at ""
  refine ych hd' (yaz (by omega)) ?_
  generalize upd H4 D (.lst (ks'++[.ref p]))=H5 at acc5 dd5 im5 ⊢
  have gm:=yb6 m hm
  have so:Same (rm (fr H H5) D) H5:=(yio _ _).trans (yaM _ _)
  obtain⟨c,c2,rfl,ec,ec2⟩:=(im5.same so).mt
  walk_at ""
  refine yaE (SqT.of ec) (yai (j:=0) rfl) ?_
  walk_at ""
  refine yaE (SqT.of ec) (yai (j:=1) rfl) ?_
  have b8:=gm.1.b
  refine i_I ⟨by omega,by omega⟩ ?_
  walk_at ""
  rw[yq6 gm.1]
  refine⟨fw++[(m,k)],_,m,k,by rw[yoc];have:=gm.2;show _ < _+ymD m;omega,by rw[yoc];rfl,im5,hm,k0,k7,λf hf=>?_,λi hi=>?_,by rw[ym5];exact acc5,dd5.up (by rw[List.length_append,List.length_singleton];omega)⟩
  ·rcases List.mem_append.mp hf with hf | hf
   ·exact gf f hf
   ·rw[List.mem_singleton.mp hf];exact⟨hm,k0,k7⟩
  ·rw[List.length_append,List.length_singleton] at hi
   rw[yjy (by omega)]
   by_cases e:i < fw.length
   ·exact gl i e
   ·have:i=fw.length:=by omega
    rw[this];exact h
 ·walk_at ""
  have ne:fw≠[]:=λe=>by
   subst e
   have:bg [] ([]:List Fr).length=0:=rfl
   rw[this] at h
   omega
  have ln:fw.length<=22:=by
   cases e:fw.length with
   | zero=>omega
   | succ n =>
    have a1:=ypB g36 n (by omega)
    have a2:=gl n (by omega)
    omega
  refine q _ fw _ ⟨by omega,gl,by omega,λf hf=>(yb6 _ (gf f hf).1).1,λf hf=>(gf f hf).2⟩ (λf hf=>(gf f hf).1) ne acc.1 (dd.up (by omega)) ?_
  have:=acc.fin hD
  rw[yta] at this
  exact this
theorem yeC {a tp:Addr}{ns:List Int}{H H1 H2:Hp}{N:Nat}(d:Dr K a tp ns H1 N)(s1:SameT tp H H1)(s2:Same H1 H2):Same (nw (fr H H1) H1 H2) (fr H H2):=λc u e=>by
 cases h:H1 c with
 | none=>rw[yaI h] at e;rw[ybB (d.free s1 h)];exact e
 | some v =>
  rw[ybM h] at e
  obtain⟨n,e⟩:=ya9 e
  rw[ybB n]
  exact s2 _ _ e
theorem ymR {vss:List (List Sn)}(h:OkVs vss):0 < ycZ (vss.map yaQ)/\ycZ (vss.map yaQ)<=773:=by
 obtain⟨⟨n1,n2,gv⟩,h2⟩:=h
 obtain⟨ss,hs⟩:∃ ss,ss∈vss:=by
  cases vss with
  | nil=>simp at n1
  | cons s _=>exact⟨s,by simp⟩
 have gw:=ydo ⟨n1,n2,gv⟩
 have p:0 < ybu (yaQ ss):=by
  have:=gw.pos _ (List.mem_map_of_mem hs)
  have ne:=(gv ss hs).ne
  cases e:yaQ ss with
  | nil=>exact(ne e).elim
  | cons s r =>
   rw[e] at this
   have a:=ybO (ss:=r) λz hz=>this z (List.mem_cons_of_mem _ hz)
   have b:=this s (by simp)
   have:ybu (s :: r)=snL s+ybu r:=by simp[ybu]
   omega
 have key:∀ (l:List (List Sn)) (z:Int),(∀ s∈l,ybu s<=773)->z<=773->l.foldl (λm ss=>max m (ybu ss)) z<=773/\z<=l.foldl (λm ss=>max m (ybu ss)) z/\∀ s∈l,ybu s<=l.foldl (λm ss=>max m (ybu ss)) z:=λl=>by
  induction l with
  | nil=>exact λz _ hz=>⟨hz,Int.le_refl _,λs h=>nomatch h⟩
  | cons s l ih =>
   intro z h hz
   have hs:=h s (by simp)
   obtain⟨a,b,c⟩:=ih (max z (ybu s)) (λu hu=>h u (List.mem_cons_of_mem _ hu)) (by omega)
   refine⟨a,by rw[List.foldl_cons];omega,λu hu=>?_⟩
   rcases List.mem_cons.mp hu with rfl | hu
   ·rw[List.foldl_cons];omega
   ·exact c u hu
 obtain⟨k1,_,k3⟩:=key (vss.map yaQ) 0 (λs hs=>by obtain⟨z,hz,rfl⟩:=List.mem_map.mp hs;exact(h2 z hz).2) (by decide)
 have:=k3 _ (List.mem_map_of_mem hs)
 exact⟨by unfold ycZ;omega,k1⟩
open TX K2 K3
noncomputable def ygN:Sp:=λvs H Q _=>∃ x:Str,vs=[.str x,.str "0123456789"]/\x.length<=1000/\∀ H',Same H H'->Q (.bl (x.cps.toList.all isF)) H'
theorem yh1 (T:Txt K mg t):FnOk P w K mg base CX0 1 t.f_zav t.d_zav ["text","signs"] ygN:=by
 refine T.QI.F.ok yow (λvs H Q E h=>?_) (λ_ _ _ s' H vs Q E hr h=>?_)
 ·obtain⟨x,rfl,_⟩:=h;rfl
 obtain⟨x,rfl,hx,q⟩:=h
 have hl:=ybp x
 refine⟨_,(yaf (yaj (yak (ycQ rfl) rfl T.JL ycX (yaa (ya8 (yaH (NB:=["sign","signs"]) (cap:=[none,some 1]) rfl) rfl (yob (pv 0)) (λ_ _ _ _=>(yax (i:=0) (show List.Nodup (["sign","signs"]:List Str) by decide) rfl (Or.inl rfl))) (λ_ _ _ _=>yaJ) (λ_ _ _ _=>(ya4 ygZ (pv 0) (pv 1) rfl))) yab)))),?_⟩
 refine⟨_,rfl,x,rfl,λD hD=>yiS (z:=x) (λi σ H'=>(∃ o,σ=[o,some (.str "0123456789")])/\Same H H'/\H' D=some (.lst (((x.cps.toList.take i).map isF).map V.bl)))
  ⟨⟨_,rfl⟩,yag hD _,yae⟩ ?_ ?_⟩
 ·rintro i c σ H' hc ⟨⟨o,rfl⟩,sm,hd⟩
  have hi:i < x.cps.toList.length:=(List.getElem?_eq_some_iff.mp hc).1
  refine⟨_,rfl,_,rfl,_,_,rfl,rfl,_,hd,?_,⟨_,rfl⟩,yaS hD sm,?_⟩
  ·rw[List.length_map,List.length_map,List.length_take]
   exact yaz (by omega)
  ·rw[yae,ylq hc,List.map_append,List.map_append]
   show some (HO.lst (_++[V.bl (!(Builtin.Str.occurrences "0123456789" (one c) 0 (Str.length "0123456789") 1).isEmpty)]))=_
   rw[yqp,yqV]
   rfl
 ·rintro σ H' ⟨_,sm,hd⟩
  refine⟨_,(x.cps.toList.map isF),rfl,SqL.of ?_,?_⟩
  ·rw[hd,List.take_of_length_le (by rw[hl];exact Nat.le_refl _)]
  ·have e:(x.cps.toList.map isF).all id=x.cps.toList.all isF:=by rw[List.all_map];rfl
   rw[e]
   exact q _ sm
theorem yhp (x:Str)(c:Nat):Txt.startswith x (one c)=decide (x.cps.toList.head?=some c):=by
 unfold Txt.startswith
 cases h:x.cps.toList with
 | nil =>
  have:x.length=0:=by rw[← ybp,h];rfl
  have o1:(one c).length=1:=rfl
  rw[this,o1]
  rfl
 | cons a r =>
  have hl:x.length=r.length+1:=by rw[← ybp,h];rfl
  have:Builtin.Str.subAt x (one c) 0=decide (a=c):=yhv (x:=x) (pre:=[]) (L:=r) (a:=a) (c:=c) h
  have o1:(one c).length=1:=rfl
  rw[o1]
  show(decide (0+1<=x.length)&&Builtin.Str.subAt x (one c) 0)=_
  rw[this,decide_eq_true (by omega)]
  simp
noncomputable def yiZ:Sp:=λvs H Q _=>∃ x:Str,vs=[.str x]/\x.length<=1000/\∀ H',Same H H'->Q (.bl (ycd x.cps.toList)) H'
theorem ylj (x:Str):(x="0")↔x.cps.toList=[48]:=by
 constructor
 ·rintro rfl;decide +kernel
 ·intro h
  refine ycU ?_
  rw[h]
  decide +kernel
theorem ysW (T:Txt K mg t)(G_zav:FnOk P w K mg base CX0 1 t.f_zav t.d_zav ["text","signs"] ygN):FnOk P w K mg base CX0 2 t.f_zI t.d_zI ["text"] yiZ:=by
 refine T.zI.F.ok yuk (λvs H Q E h=>?_) (λ_ _ _ s' H vs Q E hr h=>?_)
 ·obtain⟨x,rfl,_⟩:=h;rfl
 obtain⟨x,rfl,hx,q⟩:=h
 have hl:=ybp x
 refine⟨_,(yac (yaK (PW.pt (yb4 (ybl (yjI ycI ycI yad (yak ydb rfl T.Jc PySem.boot_len (yaa (pv 0) yab)) (ybW rfl T.JM))) (ybA (ybl (yaU (pcl G_zav hr T.QI (yaa (pv 0) (yaa (ylb rfl T.Qc) yab)))))))) (yaf (yaj ycy)) yav) (yaf (yaj (ymy (ya4 yci (pv 0) yat (yao _)) (ybo (yfA (ybe F.plainAttrs_str F.slot_str_startswith F.type_str_startswith yhg (pv 0) (yaa yat yab)))))))),?_⟩
 walk_at "rd"
 have hB:∀ b H1,Same H H1->ycd x.cps.toList=b->Q (.bl b) H1:=λb H1 sm e=>by rw[← e];exact q _ sm
 have e0:("0" : Str)=one 48:=by decide +kernel
 refine⟨small hx,yh5 (λc1=>yh5 (λc2=>?_) (λc2=>?_)) (λc1=>?_)⟩
 ·refine hB _ _ (Same.refl H) ?_
  unfold ycd
  rw[decide_eq_false (p:=x.cps.toList.length<=4) (by omega)]
  simp
 ·refine⟨x,rfl,hx,λH1 sm=>⟨_,rfl,?_⟩⟩
  have d1:decide (1<=x.cps.toList.length)=true:=decide_eq_true (by omega)
  have d2:decide (x.cps.toList.length<=4)=true:=decide_eq_true (by omega)
  cases hf:x.cps.toList.all isF with
  | false =>
   rw[if_pos rfl]
   refine hB _ _ sm ?_
   unfold ycd
   rw[hf]
   simp
  | true =>
   rw[if_neg (by decide)]
   refine yh5 (λz=>?_) (λz=>⟨rfl,?_⟩)
   ·refine hB _ _ sm ?_
    unfold ycd
    rw[d1,d2,hf,decide_eq_true ((ylj x).mp z)]
    rfl
   ·refine hB _ _ sm ?_
    unfold ycd
    rw[d1,d2,hf,decide_eq_false (λe=>z ((ylj x).mpr e))]
    show _=!Txt.startswith x ("0" : Str)
    rw[e0,yhp]
    rfl
 ·refine hB _ _ (Same.refl H) ?_
  unfold ycd
  rw[decide_eq_false (p:=1<=x.cps.toList.length) (by omega)]
  simp
open TX K2 K3
theorem yqt:∀ (cs:List Nat) (a:Nat),PySem.NumText.AllDigits cs->cs.foldl (λacc c=>acc*10+(c - 48)) a < (a+1)*10 ^ cs.length
 | [],a,_=>by simp
 | c :: cs,a,h=>by
  have ih:=yqt cs (a*10+(c - 48)) h.tail
  have hc:=h.head
  rw[List.foldl_cons,List.length_cons,Nat.pow_succ]
  refine Nat.lt_of_lt_of_le ih ?_
  have:a*10+(c - 48)+1<=(a+1)*10:=by omega
  calc (a*10+(c - 48)+1)*10 ^ cs.length<=((a+1)*10)*10 ^ cs.length:=Nat.mul_le_mul_right _ this
   _=(a+1)*(10 ^ cs.length*10):=by rw[Nat.mul_assoc,Nat.mul_comm 10]
theorem yqn {f:List Nat}(h:ycd f=true):PySem.NumText.digitsVal f<=9999:=by
 unfold ycd at h
 simp only[Bool.and_eq_true,decide_eq_true_eq] at h
 have d:=yqt f 0 (allDig.mp h.1.2)
 have l:=h.1.1.2
 have p:(10:Nat) ^ f.length<=10 ^ 4:=Nat.pow_le_pow_right (by decide) l
 have e:(10:Nat) ^ 4=10000:=by decide
 unfold PySem.NumText.digitsVal
 omega
theorem yeQ {cs:List Nat}{n:Int}(h:ycr cs=some n):-9999<=n/\n<=9999:=by
 unfold ycr at h
 split at h
 ·cases h
 ·split at h
  ·split at h
   ·rename_i ha
    cases h
    have:=yqn ha
    omega
   ·cases h
  ·split at h
   ·rename_i ha
    cases h
    have:=yqn ha
    omega
   ·cases h
theorem yhh {f:List Nat}(h:ycd f=true):PySem.NumText.AllDigits f/\f≠[]:=by
 unfold ycd at h
 simp only[Bool.and_eq_true,decide_eq_true_eq] at h
 refine⟨allDig.mp h.1.2,λe=>?_⟩
 have:=h.1.1.1
 rw[e] at this
 simp at this
theorem ymz (x:Str):(x="-0")↔x.cps.toList=[45,48]:=by
 constructor
 ·rintro rfl;decide +kernel
 ·intro h
  refine ycU ?_
  rw[h]
  decide +kernel
theorem yo7 {x:Str}{r:List Nat}(h:x.cps.toList=45 :: r):(Txt.slice x (some 1) none).cps.toList=r:=by
 have hl:x.length=r.length+1:=by rw[← ybp,h];rfl
 rw[PyProof.Rows.slice_from_eq (b:=(x.length:Int)) (by decide) (by omega) rfl,h]
 show((45 :: r).drop 1).take ((x.length:Int) - 1).toNat=r
 rw[List.drop_one,List.tail_cons,List.take_of_length_le (by omega)]
theorem yjt {i:Int}(h:0<=i):Str.ofString (toString i)=ofL (yeb i.toNat):=by
 obtain⟨m,rfl⟩:=Int.eq_ofNat_of_zero_le h
 refine ycU ?_
 rw[PySem.W.KIN.signs_num]
 rfl
noncomputable def ykt:Option Int->V
 | none=>.non
 | some n=>.int n
noncomputable def yis:Sp:=λvs H Q _=>∃ x k,vs=[x]/\KndOf H x k/\(k≠.str->Q .non H)/\∀ w:Str,x=.str w->w.length<=600/\∀ H',Same H H'->Q (ykt (ycr w.cps.toList)) H'
noncomputable def yhU:Sp:=λvs H Q _=>∃ i,vs=[.int i]/\0<=i/\i<=9999/\Q (.str (ofL (yeb i.toNat))) H
noncomputable def yjd:Sp:=λvs H Q _=>∃ a b,vs=[.int a,.int b]/\0<=a/\0<=b/\Q (.int (yeO a b)) H
noncomputable def ynW:Sp:=λvs H Q _=>∃ g,vs=[.int g]/\0<=g/\∀ p,H p=none->Q (.ref p) (upd H p (.tup [.int (ybm g),.int (yc6 g)]))
noncomputable def yjO:Sp:=λvs H Q _=>∃ g,vs=[.int g]/\0<=g/\g<=4608/\∀ H',Same H H'->Q (.str (ofL (yif g))) H'
noncomputable def yjY:Sp:=λvs H Q _=>∃ a b,vs=[.int a,.int b]/\(-9999<=a/\a<=9999)/\(-9999<=b/\b<=9999)/\Q (ykt (yb1 a b)) H
noncomputable def ygJ:Sp:=λvs H Q _=>∃ x k,vs=[x]/\KndOf H x k/\(k≠.str->Q .non H)/\∀ w:Str,x=.str w->w.length<=600/\∀ H',Same H H'->Q (ykt (yck w.cps.toList)) H'
theorem yry (T:Txt K mg t)(G_zI:FnOk P w K mg base CX0 2 t.f_zI t.d_zI ["text"] yiZ):FnOk P w K mg base CX0 3 t.f_zal t.d_zal ["word"] yis:=by
 refine T.QA.F.ok sc_zal (λvs H Q E h=>?_) (λ_ _ _ s' H vs Q E hr h=>?_)
 ·obtain⟨x,k,rfl,_⟩:=h;rfl
 obtain⟨x,k,rfl,hk,qn,qs⟩:=h
 refine⟨_,(yac (yaK (ybl (yaU (yak yaR rfl T.Ja yam (yaa (pv 0) (yaa (yb5 rfl T.Jg yaX) yab))))) (yaf (yaj yaW)) yav) (yac (yaK (yan yci (pv 0) yat (yao _)) (yaf (yaj yaW)) yav) (yac (yap (i:=1) sc_zal.nd rfl (Or.inl rfl) (ybd (yaU (ybe F.plainAttrs_str F.slot_str_startswith F.type_str_startswith yhg (pv 0) (yaa yat yab))) (ybr yot (pv 0) (ybF yad) ybX) (pv 0))) (yaf (yaj (ybd (yaU (pcl G_zI hr T.zI (yaa (pv 1) yab))) (yaT ymc rfl T.Qa yeB (yaa (pv 0) yab)) yaW)))))),?_⟩
 walk_at "rd"
 refine⟨k,hk,?_⟩
 cases hk with
 | str w =>
  obtain⟨hw,q⟩:=qs w rfl
  have e45:("-" : Str)=one 45:=by decide +kernel
  have qq:∀ o H1,Same H H1->ycr w.cps.toList=o->Q (ykt o) H1:=λo H1 sm e=>by rw[← e];exact q _ sm
  rw[if_neg (by simp)]
  refine⟨rfl,yh5 (λz=>?_) (λz=>?_)⟩
  ·refine qq none _ (Same.refl H) ?_
   unfold ycr
   rw[if_pos ((ymz w).mp (V.str.inj z))]
  have z':¬ w.cps.toList=[45,48]:=λe=>z (congrArg V.str ((ymz w).mpr e))
  refine⟨rfl,w,rfl,?_⟩
  show if Txt.startswith w ("-" : Str)=true then _ else _
  rw[e45,yhp]
  refine yh5 (λc=>?_) (λc=>?_)
  ·have c:=of_decide_eq_true c
   obtain⟨r,hr0⟩:∃ r,w.cps.toList=45 :: r:=by
    cases e:w.cps.toList with
    | nil=>rw[e] at c;cases c
    | cons a r=>rw[e] at c;cases c;exact⟨r,rfl⟩
   have te:=yo7 hr0
   refine⟨w,rfl,small (by omega),_,rfl,Nat.le_trans (ykx _ _ _) (by omega),λH1 sm=>⟨_,rfl,?_⟩⟩
   rw[te]
   refine yh5 (λd=>?_) (λd=>?_)
   ·obtain⟨f1,f2⟩:=yhh d
    refine⟨w,rfl,by omega,_,intText_neg hr0 f1 f2 (by omega),qq (some _) H1 sm ?_⟩
    unfold ycr
    rw[if_neg z',hr0,if_pos (show(45 :: r).head?=some 45 from rfl)]
    show(if ycd r=true then some (-((PySem.NumText.digitsVal r:Nat):Int)) else none)=_
    rw[if_pos d]
   ·refine qq none H1 sm ?_
    unfold ycr
    rw[if_neg z',hr0,if_pos (show(45 :: r).head?=some 45 from rfl)]
    show(if ycd r=true then some (-((PySem.NumText.digitsVal r:Nat):Int)) else none)=_
    rw[if_neg d]
  ·have c:¬ w.cps.toList.head?=some 45:=λe=>c (decide_eq_true e)
   refine⟨w,rfl,by omega,λH1 sm=>⟨_,rfl,?_⟩⟩
   refine yh5 (λd=>?_) (λd=>?_)
   ·obtain⟨f1,f2⟩:=yhh d
    refine⟨w,rfl,by omega,_,intText_digits f1 f2 (by omega),qq (some _) H1 sm ?_⟩
    unfold ycr
    rw[if_neg z',if_neg c,if_pos d]
   ·refine qq none H1 sm ?_
    unfold ycr
    rw[if_neg z',if_neg c,if_neg d]
 | _=>exact qn (by simp)
theorem ys0 (T:Txt K mg t):FnOk P w K mg base CX0 1 t.f_zF t.d_zF ["number"] yhU:=by
 refine T.zF.F.ok yrq (λvs H Q E h=>?_) (λ_ _ _ s' H vs Q E hr h=>?_)
 ·obtain⟨i,rfl,_⟩:=h;rfl
 obtain⟨i,rfl,h0,h1,q⟩:=h
 refine⟨_,(yaf (yaj (yaT ya3 rfl T.Jg yaX (yaa (pv 0) yab)))),?_⟩
 walk_at "rd"
 refine⟨?_,?_⟩
 ·by_cases e:i.natAbs=0
  ·rw[e];decide
  ·rw[Nat.log2_lt e]
   have:(2:Nat) ^ 14<=2 ^ 1920:=Nat.pow_le_pow_right (by decide) (by decide)
   have e14:(2:Nat) ^ 14=16384:=by decide
   omega
 ·rw[yjt h0]
  exact q
theorem yre (T:Txt K mg t):FnOk P w K mg base CX0 1 t.f_zaM t.d_zaM ["one","other"] yjd:=by
 refine T.Rj.F.ok sc_zaM (λvs H Q E h=>?_) (λ_ _ _ s' H vs Q E hr h=>?_)
 ·obtain⟨a,b,rfl,_⟩:=h;rfl
 obtain⟨a,b,rfl,h0,h1,q⟩:=h
 refine⟨_,(yac (ygm PassesOwn.never (yan ymQ (pv 1) yad (yao _)) (yac (yap (i:=2) sc_zaM.nd rfl (Or.inl rfl) (yaC ydw (pv 0) (pv 1))) (yac (yap (i:=0) sc_zaM.nd rfl (Or.inl rfl) (pv 1)) (yaf (yap (i:=1) sc_zaM.nd rfl (Or.inl rfl) (pv 2)))))) (yaf (yaj (pv 0)))),?_⟩
 refine ymL (fun σ H'=>H'=H/\∃ a' b' r,σ=[some (.int a'),some (.int b'),r]/\0<=a'/\0<=b'/\yeO a' b'=yeO a b)
  (fun σ _=>match σ with | [_,some (.int b'),_]=>b'.toNat | _=>0) ⟨rfl,a,b,_,rfl,h0,h1,rfl⟩ ?_ ?_
 ·rintro σ H' ⟨rfl,a',b',r,rfl,ha,hb,hg⟩
  walk_at "rd"
  refine yh5 (λc=>?_) (λc=>?_)
  ·have m1:=Int.emod_nonneg a' (b:=b') (by omega)
   have m2:=Int.emod_lt_of_pos a' c
   refine⟨c,hb,m1,?_,?_⟩
   ·rw[ymt ha c];exact hg
   ·omega
  ·have e:b'=0:=by omega
   subst e
   rw[ylW ha] at hg
   rw[hg]
   exact q
 ·rintro σ H' Q1 Q2 hq ⟨v,hv,i,j,e1,e2,k,ek,h⟩
  exact⟨v,hv,i,j,e1,e2,k,ek,hq _ _ h⟩
theorem yrE (T:Txt K mg t)(G_zaM:FnOk P w K mg base CX0 1 t.f_zaM t.d_zaM ["one","other"] yjd):FnOk P w K mg base CX0 2 t.f_zaI t.d_zaI ["grains"] ynW:=by
 refine T.Rk.F.ok sc_zaI (λvs H Q E h=>?_) (λ_ _ _ s' H vs Q E hr h=>?_)
 ·obtain⟨g,rfl,_⟩:=h;rfl
 obtain⟨g,rfl,h0,q⟩:=h
 refine⟨_,(yac (yap (i:=1) sc_zaI.nd rfl (Or.inl rfl) (pcl G_zaM hr T.Rj (yaa (pv 0) (yaa (ybW rfl T.Jr) yab)))) (yaf (yaj (yaF (yaa (yaC yc8 (pv 0) (pv 1)) (yaa (yaC yc8 (ybW rfl T.Jr) (pv 1)) yab)))))),?_⟩
 walk_at "rd"
 have p1:=(yeM h0).p1
 have p2:=yqO h0
 exact⟨g,96,rfl,h0,by decide,_,rfl,⟨by omega,by omega⟩,_,rfl,⟨by omega,by omega⟩,by decide,q⟩
theorem yth (T:Txt K mg t)(G_zaI:FnOk P w K mg base CX0 2 t.f_zaI t.d_zaI ["grains"] ynW)(G_zF:FnOk P w K mg base CX0 1 t.f_zF t.d_zF ["number"] yhU):FnOk P w K mg base CX0 3 t.f_zB t.d_zB ["grains"] yjO:=by
 refine T.zB.F.ok sc_zB (λvs H Q E h=>?_) (λ_ _ _ s' H vs Q E hr h=>?_)
 ·obtain⟨g,rfl,_⟩:=h;rfl
 obtain⟨g,rfl,h0,h1,q⟩:=h
 refine⟨_,(yac (yap (i:=1) sc_zB.nd rfl (Or.inl rfl) (pcl G_zaI hr T.Rk (yaa (pv 0) yab))) (yac (yap (i:=2) sc_zB.nd rfl (Or.inl rfl) (pcl G_zF hr T.zF (yaa (yaq yar (pv 1) yad (λ_ _=>rfl)) yab))) (yac (yaK (yan yci (yaq yar (pv 1) yad (λ_ _=>rfl)) yad (yao _)) (yaf (yaj (pv 2))) yav) (yaf (yaj (yaC yaw (yaC yaw (pv 2) yat) (pcl G_zF hr T.zF (yaa (yaq yar (pv 1) yad (λ_ _=>rfl)) yab)))))))),?_⟩
 walk_at "rd"
 have o:=yeM h0
 have o1:=o.b1
 have o2:=o.b2
 have o3:=o.t0
 have o4:=o.tg
 have l1:=ydq 3 (ybm g).toNat (by omega)
 have l2:=ydq 3 (yc6 g).toNat (by omega)
 have ls:(Str.ofString "/").length=1:=by decide +kernel
 have lo:∀ l:List Nat,(ofL l).length=l.length:=λl=>by rw[← ybp,yaN]
 refine⟨g,rfl,h0,λp hp=>⟨p,rfl,_,SqT.of yae,_,rfl,ybm g,rfl,o3,by omega,p,rfl,_,SqT.of yae,_,rfl,rfl,yh5 (λz=>?_) (λz=>?_)⟩⟩
 ·have z:=V.int.inj z
  have e:yif g=yeb (ybm g).toNat:=by unfold yif;rw[if_pos z]
  rw[← e]
  exact q _ (yag hp _)
 ·refine⟨_,rfl,by rw[lo,ls];exact small (by omega),p,rfl,_,SqT.of yae,_,rfl,yc6 g,rfl,by omega,by omega,_,rfl,by rw[yeS,lo,ls,lo];exact small (by omega),?_⟩
  have e:ofL (yif g)=ofL (yeb (ybm g).toNat)++Str.ofString "/" ++ ofL (yeb (yc6 g).toNat):=by
   unfold yif
   rw[if_neg λe=>z (congrArg V.int e)]
   refine ycU ?_
   show yeb (ybm g).toNat++47 :: yeb (yc6 g).toNat=((yeb (ybm g).toNat).toArray++(Str.ofString "/").cps++(yeb (yc6 g).toNat).toArray).toList
   have:(Str.ofString "/").cps.toList=[47]:=by decide +kernel
   rw[Array.toList_append,Array.toList_append,this]
   simp
  rw[← e]
  exact q _ (yag hp _)
theorem yt9 (T:Txt K mg t):FnOk P w K mg base CX0 1 t.f_zq t.d_zq ["top","bottom"] yjY:=by
 refine T.zq.F.ok sc_zq (λvs H Q E h=>?_) (λ_ _ _ s' H vs Q E hr h=>?_)
 ·obtain⟨a,b,rfl,_⟩:=h;rfl
 obtain⟨a,b,rfl,ha,hb,q⟩:=h
 refine⟨_,(yac (yaK (PW.pt (yb4 (yan ye6 (pv 0) yad (yao _)) (yb4 (yan ye6 (pv 1) yad (yao _)) (ybA (yan ydL (yaC ydw (yaC ycp (ybW rfl T.Jr) (pv 0)) (pv 1)) yad (yao _)))))) (yaf (yaj yaW)) yav) (yac (yap (i:=2) sc_zq.nd rfl (Or.inl rfl) (yaC yc8 (yaC ycp (ybW rfl T.Jr) (pv 0)) (pv 1))) (yaf (yaj (ybd (yan ycI (pv 2) (ybW rfl T.JO) (yao _)) (pv 2) yaW))))),?_⟩
 walk_at "rd"
 have qq:∀ o,yb1 a b=o->Q (ykt o) H:=λo e=>by rw[← e];exact q
 have mk:IntMulOk 96 a:=CMul.ok (.inl ⟨by decide,by decide⟩)
 refine yh5 (λc1=>?_) (λc1=>yh5 (λc2=>?_) (λc2=>⟨mk,by omega,yh5 (λc3=>?_) (λc3=>⟨mk,⟨by omega,by omega⟩,yh5 (λc4=>?_) (λc4=>?_)⟩)⟩))
 ·exact qq none (by unfold yb1;rw[if_pos (.inl c1)])
 ·exact qq none (by unfold yb1;rw[if_pos (.inr (.inl c2))])
 ·exact qq none (by unfold yb1;rw[if_pos (.inr (.inr c3))])
 ·exact qq (some _) (by unfold yb1;rw[if_neg (by omega),if_pos c4])
 ·exact qq none (by unfold yb1;rw[if_neg (by omega),if_neg c4])
theorem yqy (T:Txt K mg t)(G_zal:FnOk P w K mg base CX0 3 t.f_zal t.d_zal ["word"] yis)(G_zq:FnOk P w K mg base CX0 1 t.f_zq t.d_zq ["top","bottom"] yjY):FnOk P w K mg base CX0 4 t.f_zaf t.d_zaf ["word"] ygJ:=by
 refine T.Rl.F.ok sc_zaf (λvs H Q E h=>?_) (λ_ _ _ s' H vs Q E hr h=>?_)
 ·obtain⟨x,k,rfl,_⟩:=h;rfl
 obtain⟨x,k,rfl,hk,qn,qs⟩:=h
 refine⟨_,(yac (yaK (ybl (yaU (yak yaR rfl T.Ja yam (yaa (pv 0) (yaa (yb5 rfl T.Jg yaX) yab))))) (yaf (yaj yaW)) yav) (yac (yap (i:=1) sc_zaf.nd rfl (Or.inl rfl) (ybe F.plainAttrs_str F.slot_str_split F.type_str_split ydQ (pv 0) (yaa yat yab))) (yac (yaK (yan ymQ (yak yas rfl T.Jc PySem.boot_len (yaa (pv 1) yab)) yad (yao _)) (yaf (yaj yaW)) yav) (yac (yap (i:=2) sc_zaf.nd rfl (Or.inl rfl) (pcl G_zal hr T.QA (yaa (yaq yaD (pv 1) yad (λ_ _=>rfl)) yab))) (yac (yap (i:=3) sc_zaf.nd rfl (Or.inl rfl) (ybd (yan yci (yak yas rfl T.Jc PySem.boot_len (yaa (pv 1) yab)) yad (yao _)) (pcl G_zal hr T.QA (yaa (yaq yaD (pv 1) yad (λ_ _=>rfl)) yab)) yad)) (yac (yaK (PW.pt (yb4 (yan ydx (pv 2) yaW (yao _)) (ybA (yan ydx (pv 3) yaW (yao _))))) (yaf (yaj yaW)) yav) (yaf (yaj (pcl G_zq hr T.zq (yaa (pv 2) (yaa (pv 3) yab))))))))))),?_⟩
 walk_at "rd"
 refine⟨k,hk,?_⟩
 cases hk with
 | str w =>
  obtain⟨hw,q⟩:=qs w rfl
  have hl:=ybp w
  have e47:("/" : Str)=one 47:=by decide +kernel
  have qq:∀ o H1,Same H H1->yck w.cps.toList=o->Q (ykt o) H1:=λo H1 sm e=>by rw[← e];exact q _ sm
  have lo:∀ l:List Nat,(ofL l).length=l.length:=λl=>by rw[← ybp,yaN]
  rw[if_neg (by simp)]
  refine⟨rfl,w,rfl,by decide +kernel,by have:=small (n:=602) (by decide);omega,λp hp=>?_⟩
  have es:Txt.split w (Str.ofString "/")=(ya5 47 w.cps.toList).map ofL:=by
   show Txt.split w ("/" : Str)=_
   rw[e47,ydP w (by decide)]
  rw[es]
  refine⟨_,.inl (SqL.of yae),?_⟩
  rw[List.length_map,List.length_map]
  rcases ycY w.cps.toList with ⟨h1,h2⟩ | ⟨a,b,e0,h2,h3,h4⟩
  ·have g0:yck w.cps.toList=(ycr w.cps.toList).bind λt=>yb1 t 1:=by unfold yck;rw[h2]
   rw[h2]
   rw[if_neg (by simp)]
   refine⟨_,SqL.of yae,_,yai (j:=0) rfl,_,_,rfl,.str _,λh=>absurd rfl h,λw' e=>?_⟩
   cases e
   refine⟨by rw[lo];omega,λH1 sm1=>⟨_,.inl (sm1.seq (SqL.of yae)),?_⟩⟩
   have sm:=(yag hp _).trans sm1
   rw[if_neg (by simp),yaN]
   cases hn:ycr w.cps.toList with
   | none =>
    rw[if_pos (show ykt none=V.non from rfl)]
    exact qq none _ sm (by rw[g0,hn];rfl)
   | some n =>
    rw[if_neg (by simp[ykt])]
    have nb:=yeQ hn
    have qf:=qq (yb1 n 1) _ sm (by rw[g0,hn];rfl)
    exact⟨n,1,rfl,nb,⟨by decide,by decide⟩,qf⟩
  ·by_cases hb:yc0 47 0 b=[]
   ·have hs:=ym4 hb
    have la:w.cps.toList.length=a.length+b.length+1:=by rw[e0];simp;omega
    have g0:yck w.cps.toList=(ycr a).bind λt=>(ycr b).bind λu=>yb1 t u:=by unfold yck;rw[h3,hs]
    rw[h3,hs]
    rw[if_neg (by simp)]
    refine⟨_,SqL.of yae,_,yai (j:=0) rfl,_,_,rfl,.str _,λh=>absurd rfl h,λw' e=>?_⟩
    cases e
    refine⟨by rw[lo];omega,λH1 sm1=>⟨_,.inl (sm1.seq (SqL.of yae)),?_⟩⟩
    rw[if_pos (by simp),yaN]
    refine⟨_,sm1.seq (SqL.of yae),_,yai (j:=1) rfl,_,_,rfl,.str _,λh=>absurd rfl h,λw' e=>?_⟩
    cases e
    refine⟨by rw[lo];omega,λH2 sm2=>?_⟩
    have sm:=(yag hp _).trans (sm1.trans sm2)
    rw[yaN]
    dsimp only
    cases hn:ycr a with
    | none =>
     rw[if_pos (show ykt none=V.non from rfl)]
     exact qq none _ sm (by rw[g0,hn];rfl)
    | some n =>
     rw[if_neg (by simp[ykt])]
     cases hm:ycr b with
     | none =>
      rw[if_pos (show ykt none=V.non from rfl)]
      exact qq none _ sm (by rw[g0,hn,hm];rfl)
     | some m =>
      rw[if_neg (by simp[ykt])]
      have qf:=qq (yb1 n m) _ sm (by rw[g0,hn,hm];rfl)
      exact⟨n,m,rfl,yeQ hn,yeQ hm,qf⟩
   ·have hl3:∃ x y r,ya5 47 b=x :: y :: r:=by
     rcases ycY b with ⟨z,_⟩ | ⟨a',b',_,_,z3,_⟩
     ·exact absurd z hb
     ·cases e:ya5 47 b' with
      | nil=>exact absurd e (ye0 47 b')
      | cons y r=>exact⟨a',y,r,by rw[z3,e]⟩
    obtain⟨x,y,r,e3⟩:=hl3
    rw[h3,e3]
    rw[if_pos (by simp;omega)]
    exact qq none _ (yag hp _) (by unfold yck;rw[h3,e3])
 | _=>exact qn (by simp)
open TX K2 K3
noncomputable def yf8 (w:Str):Option (Int×Int):=if (w.length:Int) < 2 then none else if yht w < 0 then none else if ypk w < 0 then none else some (yht w,ypk w)
theorem yhl (w:Str):yir w=(yf8 w).bind λq=>(yfC (mid w)).map λj=>(q.1,(j:Int) - 2,q.2):=by
 unfold yir yf8
 split
 ·rfl
 ·split
  ·rfl
  ·split<;>rfl
noncomputable def yg9:Sp:=λvs H Q _=>∃ x k,vs=[x]/\KndOf H x k/\(k≠.str->Q .non H) /\
 ∀ w:Str,x=.str w->w.length<=1000/\(yf8 w=none->Q .non H)/\∀ a c,yf8 w=some (a,c)->∀ p,H p=none->Q (.ref p) (upd H p (.tup [.int a,.str (mid w),.int c]))
theorem yrc (T:Txt K mg t):FnOk P w K mg base CX0 1 t.f_zaD t.d_zaD ["word"] yg9:=by
 refine T.Rn.F.ok sc_zaD (λvs H Q E h=>?_) (λ_ _ _ s H vs Q E hr h=>?_)
 ·obtain⟨x,k,rfl,_⟩:=h;rfl
 obtain⟨x,k,rfl,hk,qn,qs⟩:=h
 refine⟨_,(yac (yaK (PW.pt (yb4 (ybl (yaU (yak yaR rfl T.Ja yam (yaa (pv 0) (yaa (yb5 rfl T.Jg yaX) yab))))) (ybA (yan ye6 (yak ydb rfl T.Jc PySem.boot_len (yaa (pv 0) yab)) yad (yao _))))) (yaf (yaj yaW)) yav) (yac (yap (i:=1) sc_zaD.nd rfl (Or.inl rfl) (ybe F.plainAttrs_str F.slot_str_find F.type_str_find ylL (ylb rfl T.JR) (yaa (yaq ygG (pv 0) yad (λ_ _=>rfl)) yab))) (yac (yap (i:=2) sc_zaD.nd rfl (Or.inl rfl) (ybe F.plainAttrs_str F.slot_str_find F.type_str_find ylL (ylb rfl T.JH) (yaa (yaq ygG (pv 0) (ydj yca yad) (λ_ _=>rfl)) yab))) (yac (yaK (PW.pt (yb4 (yan ye6 (pv 1) yad (yao _)) (ybA (yan ye6 (pv 2) yad (yao _))))) (yaf (yaj yaW)) yav) (yaf (yaj (yaF (yaa (pv 1) (yaa (ybr yot (pv 0) (ybF yad) (ybF (ydj yca yad))) (yaa (pv 2) yab)))))))))),?_⟩
 walk_at "rd"
 refine⟨k,hk,?_⟩
 cases hk with
 | str w =>
  obtain⟨hw,q0,q1⟩:=qs w rfl
  walk_at "rd"
  simp only[not_true_eq_false,if_false]
  refine⟨small hw,yh5 (λz=>q0 (by unfold yf8;rw[if_pos z])) (λz=>?_)⟩
  have z':2<=(w.length:Int):=by omega
  obtain⟨c,hc,ec⟩:=ytx z'
  obtain⟨d,hd,ed⟩:=ytY z'
  refine⟨rfl,small hw,c,hc,rfl,small hw,d,hd,?_⟩
  rw[ec,ed]
  refine yh5 (λy=>q0 (by unfold yf8;rw[if_neg z,if_pos (show yht w < 0 from y)])) (λy=>?_)
  refine yh5 (λx=>q0 (by unfold yf8;rw[if_neg z,if_neg (show ¬ yht w < 0 from y),if_pos (show ypk w < 0 from x)])) (λx=>?_)
  have rw1:yf8 w=some (yht w,ypk w):=by
   unfold yf8;rw[if_neg z,if_neg (show ¬ yht w < 0 from y),if_neg (show ¬ ypk w < 0 from x)]
  refine⟨small hw,by decide,?_⟩
  rw[yqB z']
  exact q1 _ _ rw1
 | _=>exact qn (by simp)
noncomputable def yhs:Sp:=λvs H Q _=>∃ x k,vs=[x]/\KndOf H x k/\(k≠.str->Q .non H) /\
 ∀ w:Str,x=.str w->w.length<=1000/\(yir w=none->∀ H',Same H H'->Q .non H')/\∀ a b c,yir w=some (a,b,c)->∀ p H',Same H H'->H p=none->H' p=some (.tup [.int a,.int b,.int c])->Q (.ref p) H'
theorem yqD (T:Txt K mg t)(G_zaD:FnOk P w K mg base CX0 1 t.f_zaD t.d_zaD ["word"] yg9):FnOk P w K mg base CX0 2 t.f_zas t.d_zas ["word"] yhs:=by
 refine T.Rm.F.ok sc_zas (λvs H Q E h=>?_) (λ_ _ _ s H vs Q E hr h=>?_)
 ·obtain⟨x,k,rfl,_⟩:=h;rfl
 obtain⟨x,k,rfl,hk,qn,qs⟩:=h
 refine⟨_,(yac (yap (i:=1) sc_zas.nd rfl (Or.inl rfl) (pcl G_zaD hr T.Rn (yaa (pv 0) yab))) (yac (yaK (PW.pt (yb4 (yan ydx (pv 1) yaW (yao _)) (ybA (yan ydl (yaq yar (pv 1) yad (λ_ _=>rfl)) (ygl rfl T.JC) rfl)))) (yaf (yaj yaW)) yav) (yaf (yaj (yaF (yaa (yaq yar (pv 1) yad (λ_ _=>rfl)) (yaa (yaC ydC (ybe F.plainAttrs_tuple F.slot_tuple_index F.type_tuple_index yhV (ygl rfl T.JC) (yaa (yaq yar (pv 1) yad (λ_ _=>rfl)) yab)) yad) (yaa (yaq yar (pv 1) yad (λ_ _=>rfl)) yab)))))))),?_⟩
 walk_at "rd"
 refine⟨x,k,rfl,hk,λhn=>?_,λw e=>?_⟩
 ·dsimp only
  rw[if_pos rfl]
  exact qn hn
 subst e
 obtain⟨hw,q0,q1⟩:=qs w rfl
 refine⟨hw,λe=>?_,λa c e p hp=>?_⟩
 ·dsimp only
  rw[if_pos rfl]
  exact q0 (by rw[yhl,e];rfl) H (Same.refl H)
 dsimp only
 rw[if_neg (by simp)]
 have s1:=yag hp (.tup [.int a,.str (mid w),.int c])
 have e1:=SqT.of (K:=K) (yae (H:=H) (a:=p) (o:=.tup [.int a,.str (mid w),.int c]))
 refine⟨p,rfl,_,e1,_,rfl,LW,.inr (T.Js.sq _),rfl,rfl,?_⟩
 have rw1:yir w=(yfC (mid w)).map λj=>(a,(j:Int) - 2,c):=by rw[yhl,e];rfl
 rcases yoY (mid w) with ⟨l1,l2⟩ | ⟨j,zj,l1,l2,l3,l4,l5⟩
 ·rw[l2,if_pos rfl]
  exact q0 (by rw[rw1,l1];rfl) _ s1
 ·rw[l2,if_neg (by simp)]
  refine⟨p,rfl,_,e1,_,rfl,T.Js.ty _,p,rfl,_,e1,_,rfl,LW,T.Js.sq _,rfl,rfl,j,zj,l3,l4,l5,p,rfl,_,e1,_,rfl,by decide,λp2 h2=>?_⟩
  exact q1 _ _ _ (by rw[rw1,l1];rfl) p2 _ (s1.trans (yag h2 _)) (by cases e:H p2 with | none=>rfl | some u=>rw[s1 _ _ e] at h2;cases h2) yae
open TX K2 K3
noncomputable def ybb (c:Nat):List (List Nat)->List Nat
 | []=>[]
 | [w]=>w
 | w :: v :: ws=>w++c :: ybb c (v :: ws)
theorem yeX {c:Nat}:∀ (a b:List Nat),c∉a->ya5 c (a++c :: b)=a :: ya5 c b
 | [],b,_=>by simp[ya5]
 | x :: a,b,h=>by
  have hx:x≠c:=λe=>h (by simp[e])
  have ih:=yeX a b (λz=>h (List.mem_cons_of_mem _ z))
  rw[List.cons_append,ya5,if_neg hx,ih]
theorem ydJ {c:Nat}:∀ (a:List Nat),c∉a->ya5 c a=[a]
 | [],_=>by simp[ya5]
 | x :: a,h=>by
  have hx:x≠c:=λe=>h (by simp[e])
  have ih:=ydJ a (λz=>h (List.mem_cons_of_mem _ z))
  rw[ya5,if_neg hx,ih]
theorem ycK {c:Nat}:∀ (ws:List (List Nat)),ws≠[]->(∀ w∈ws,c∉w)->ya5 c (ybb c ws)=ws
 | [],h,_=>(h rfl).elim
 | [w],_,h=>ydJ w (h w (by simp))
 | w :: v :: ws,_,h=>by
  rw[ybb,yeX _ _ (h w (by simp)),ycK (v :: ws) (by simp) λu hu=>h u (by simp[hu])]
theorem yjG (c:Nat):∀ (ws:List (List Nat)) (acc:Array Nat),((ws.map ofL).foldl (λacc p=>acc++(one c).cps++p.cps) acc).toList=acc.toList++(ws.map λw=>c :: w).flatten
 | [],acc=>by simp
 | w :: ws,acc=>by
  rw[List.map_cons,List.foldl_cons,yjG c ws]
  simp[one,ofL]
theorem yeg (c:Nat):∀ (w:List Nat) (ws:List (List Nat)),ybb c (w :: ws)=w++(ws.map λw=>c :: w).flatten
 | w,[]=>by simp[ybb]
 | w,v :: ws=>by rw[ybb,yeg c v ws];simp
theorem ylm (c:Nat)(ws:List (List Nat)):PySem.Txt.join (one c) (ws.map ofL)=ofL (ybb c ws):=by
 cases ws with
 | nil=>rfl
 | cons w ws =>
  apply ycU
  show((ws.map ofL).foldl (λacc p=>acc++(one c).cps++p.cps) (ofL w).cps).toList=_
  rw[yjG,yeg,yaN]
  rfl
theorem ycg (l:List Nat):(ofL l).length=l.length:=by rw[← ybp,yaN]
theorem ynp {c:Nat}{ws:List (List Nat)}(h:(ws.map List.length).sum+ws.length<=100000):JoinOk (one c) (ws.map ofL)=true:=by
 have f:∀ (ws:List (List Nat)) (k:Nat),(ws.map ofL).foldl (λx1 x2=>x1+x2.length+(one c).length) k=k+(ws.map List.length).sum+ws.length:=λws=>by
  induction ws with
  | nil=>intro k;simp
  | cons w ws ih =>
   intro k
   rw[List.map_cons,List.foldl_cons,ih,List.map_cons,List.sum_cons,List.length_cons,ycg]
   show k+w.length+1+_+_=_
   omega
 unfold JoinOk Builtin.Str.tooLong
 rw[List.foldl_toArray,f,decide_eq_false (by have:=(by decide:(100000:Nat)<=sizeLine);omega)]
 rfl
noncomputable def tV (w:List Nat):V:=.str (ofL w)
theorem yuY:(" " : Str)=one 32:=by decide +kernel
noncomputable def yl7 (ws:List (List Nat)):Prop:=ws≠[]/\ws.length<=10/\∀ w∈ws,w≠[]/\32∉w/\w.length<=100
theorem ydi {c:Nat}:∀ {ws:List (List Nat)},(∀ w∈ws,w.length<=100)->(ybb c ws).length<=101*ws.length
 | [],_=>Nat.zero_le _
 | [w],h=>by have:=h w (by simp);show w.length<=101*1;omega
 | w :: v :: ws,h=>by
  have:=h w (by simp)
  have ih:=ydi (c:=c) (ws:=v :: ws) λu hu=>h u (by simp[hu])
  rw[ybb,List.length_append,List.length_cons]
  rw[List.length_cons (a:=w)]
  omega
noncomputable def yeL:Sp:=λvs H Q _=>∃ ws,vs=[tV (ybb 32 ws)]/\yl7 ws/\∀ D H',Same H H'->H D=none->H' D=some (.lst (ws.map tV))->Q (.ref D) H'
theorem yqo (T:Txt K mg t):FnOk P w K mg base CX0 1 t.f_zay t.d_zay ["row"] yeL:=by
 refine T.QR.F.ok sc_zay (λvs H Q E h=>?_) (λ_ _ _ s H vs Q E hr h=>?_)
 ·obtain⟨_,rfl,_⟩:=h;rfl
 have hu:=ybs hr
 obtain⟨ws,rfl,hw,q⟩:=h
 refine⟨_,(yac (yaK (ybl (yaU (yak yaR rfl T.Ja yam (yaa (pv 0) (yaa (yb5 rfl T.Jg yaX) yab))))) (yaf (yaj yaW)) yav) (yac (yap (i:=1) sc_zay.nd rfl (Or.inl rfl) (ybe F.plainAttrs_str F.slot_str_split F.type_str_split ydQ (pv 0) (yaa yat yab))) (yaf (yaj (ybd (yan ygM yat (pv 1) rfl) yaW (pv 1)))))),?_⟩
 walk_at ""
 refine ycu (.str _) (ya0 (i_F ?_))
 walk_at ""
 obtain⟨ne,l10,hw⟩:=hw
 have jl:=ydi (c:=32) λw h=>(hw w h).2.2
 refine⟨rfl,?_⟩
 walk_at ""
 refine⟨_,_,rfl,rfl,by decide +kernel,by rw[ycg];exact Nat.le_trans (by omega:_<=2000) (by decide),λp hp=>?_⟩
 have es:(Txt.split (ofL (ybb 32 ws)) (Str.ofString " ")).map V.str=ws.map tV:=by
  show(Txt.split (ofL (ybb 32 ws)) (" " : Str)).map V.str=_
  rw[yuY,ydP _ (by decide),yaN,ycK ws ne λw h=>(hw w h).2.1,List.map_map]
  rfl
 rw[es]
 walk_at ""
 refine⟨p,ws.map tV,rfl,.inl (SqL.of yae),rfl,?_,?_⟩
 ·rw[List.all_map]
  exact List.all_eq_true.mpr λ_ _=>rfl
 walk_at ""
 have ni:inV (.str "") (ws.map tV)=false:=by
  unfold inV
  rw[List.any_eq_false]
  intro y hy
  obtain⟨v,hv,rfl⟩:=List.mem_map.mp hy
  have:=(hw v hv).1
  show ¬ eqV (.str (ofL v)) (.str "")=true
  simp only[eqV,beq_iff_eq]
  intro e
  apply this
  have e2:=congrArg (λz:Str=>z.cps.toList) e
  exact e2
 rw[ni]
 refine i_F ?_
 walk_at ""
 exact q p _ (yag hp _) hp yae
open TX K2 K3
noncomputable def nW (i:Int):List Nat:=if i < 0 then 45 :: yeb (-i).toNat else yeb i.toNat
noncomputable def Num (i:Int):Prop:=-7<=i/\i<=9999
theorem yj1 {m x:Nat}(h:x∈yeb m):48<=x/\x<=57:=by
 have:=allDig.mpr (yds m).all
 have:=List.all_eq_true.mp this x h
 unfold isF at this
 simpa using this
theorem yg8 {i:Int}(h:-7<=i)(h0:i < 0):i=-1∨i=-2∨i=-3∨i=-4∨i=-5∨i=-6∨i=-7:=by omega
theorem ymB {i:Int}(h:Num i):Str.ofString (toString i)=ofL (nW i):=by
 unfold nW
 by_cases e:i < 0
 ·rcases yg8 h.1 e with rfl | rfl | rfl | rfl | rfl | rfl | rfl<;>decide +kernel
 ·rw[if_neg e];exact yjt (by omega)
theorem yiO {i:Int}(h:Num i):ycr (nW i)=some i:=by
 unfold nW
 by_cases e:i < 0
 ·rcases yg8 h.1 e with rfl | rfl | rfl | rfl | rfl | rfl | rfl<;>decide +kernel
 ·rw[if_neg e]
  have d:=yds i.toNat
  have hd:(yeb i.toNat).head?≠some 45:=λz=>by
   have:=yj1 (List.mem_of_head? z)
   omega
  unfold ycr
  rw[if_neg (λz=>hd (by rw[z];rfl)),if_neg hd,if_pos (ynH (by have:=h.2;omega)),d.val]
  congr 1
  omega
theorem yqj (i:Int):nW i≠[]:=by
 unfold nW
 split
 ·simp
 ·exact(yds _).ne
theorem ylt {i:Int}{x:Nat}(h:x∈nW i):x=45∨(48<=x/\x<=57):=by
 unfold nW at h
 split at h
 ·rcases List.mem_cons.mp h with h | h
  ·exact .inl h
  ·exact .inr (yj1 h)
 ·exact .inr (yj1 h)
theorem ybH {i:Int}(h:Num i):(nW i).length<=5:=by
 unfold nW
 split
 ·have:=ydq 3 (-i).toNat (by have:=h.1;omega)
  rw[List.length_cons]
  omega
 ·have:=ydq 3 i.toNat (by have:=h.2;omega)
  omega
noncomputable def yjK:Sp:=λvs H Q _=>∃ i,vs=[.int i]/\Num i/\Q (tV (nW i)) H
theorem yeD (T:Txt K mg t):FnOk P w K mg base CX0 1 t.f_zF t.d_zF ["number"] yjK:=by
 refine T.zF.F.ok yrq (λvs H Q E h=>?_) (λ_ _ _ s' H vs Q E hr h=>?_)
 ·obtain⟨i,rfl,_⟩:=h;rfl
 obtain⟨i,rfl,hi,q⟩:=h
 have hu:=ybs hr
 refine⟨_,(yaf (yaj (yaT ya3 rfl T.Jg yaX (yaa (pv 0) yab)))),?_⟩
 walk_at ""
 refine⟨i,rfl,?_,?_⟩
 ·by_cases e:i.natAbs=0
  ·rw[e];decide
  ·rw[Nat.log2_lt e]
   have:(2:Nat) ^ 14<=2 ^ 1920:=Nat.pow_le_pow_right (by decide) (by decide)
   have h14:(2:Nat) ^ 14=16384:=by decide
   have:=hi.1
   have:=hi.2
   omega
 ·unfold tV at q
  rw[← ymB hi] at q
  exact q
noncomputable def yjH:Sp:=λvs H Q _=>∃ i,vs=[tV (nW i)]/\Num i/\∀ H',Same H H'->Q (.int i) H'
theorem yrn (G_zal:FnOk P w K mg base CX0 3 t.f_zal t.d_zal ["word"] yis):FnOk P w K mg base CX0 3 t.f_zal t.d_zal ["word"] yjH:=G_zal.imp λvs H Q E h=>by
 obtain⟨i,rfl,hi,q⟩:=h
 refine⟨_,.str,rfl,.str _,λz=>absurd rfl z,λw e=>?_⟩
 cases e
 have:=ybH hi
 refine⟨by rw[ycg];omega,λH' s=>?_⟩
 rw[yaN,yiO hi]
 exact q H' s
noncomputable def ymC:Sp:=λvs H Q _=>∃ i,vs=[tV (nW i)]/\-7<=i/\i<=7/\∀ H',Same H H'->Q (.int i) H'
theorem yqR (T:Txt K mg t)(G_zal:FnOk P w K mg base CX0 3 t.f_zal t.d_zal ["word"] yjH)(G_zaK:FnOk P w K mg base CX0 3 t.f_zaK t.d_zaK ["thing"] yh9):FnOk P w K mg base CX0 4 t.f_zaL t.d_zaL ["word"] ymC:=by
 refine T.Ro.F.ok sc_zaL (λvs H Q E h=>?_) (λ_ _ _ s H vs Q E hr h=>?_)
 ·obtain⟨_,rfl,_⟩:=h;rfl
 have hu:=ybs hr
 obtain⟨i,rfl,i0,i7,q⟩:=h
 refine⟨_,(yac (yap (i:=1) sc_zaL.nd rfl (Or.inl rfl) (pcl G_zal hr T.QA (yaa (pv 0) yab))) (yaf (yaj (ybd (yaU (pcl G_zaK hr T.QE (yaa (pv 1) yab))) (pv 1) yaW)))),?_⟩
 walk_at ""
 refine⟨i,rfl,⟨i0,by omega⟩,λH1 s1=>?_⟩
 walk_at ""
 refine⟨i,rfl,i0,i7,?_⟩
 walk_at ""
 exact q _ s1
noncomputable def yhY:Sp:=λvs H Q _=>∃ (c:Nat) (is:List Int),vs=[tV (ybb c (is.map nW)),.str (one c)]/\(c=47∨c=43)/\is≠[]/\is.length<=12/\(∀ i∈is,0<=i/\i<=9999)/\∀ D H',Same H H'->H' D=some (.lst (is.map V.int))->Q (.ref D) H'
theorem ytP (T:Txt K mg t)(G_zal:FnOk P w K mg base CX0 3 t.f_zal t.d_zal ["word"] yjH):FnOk P w K mg base CX0 4 t.f_zP t.d_zP ["text","between"] yhY:=by
 refine T.zP.F.ok sc_zP (λvs H Q E h=>?_) (λ_ _ _ s H vs Q E hr h=>?_)
 ·obtain⟨_,_,rfl,_⟩:=h;rfl
 have hu:=ybs hr
 obtain⟨c,is,rfl,hc,ne,l12,hi,q⟩:=h
 have nm:∀ i∈is,Num i:=λi h=>⟨by have:=hi i h;omega,(hi i h).2⟩
 have jl:=ydi (c:=c) (ws:=is.map nW) λw h=>by obtain⟨i,h2,rfl⟩:=List.mem_map.mp h;have:=ybH (nm i h2);omega
 rw[List.length_map] at jl
 refine⟨_,(yac (ybQ (i:=2) sc_zP.nd rfl (Or.inl rfl) (yaH (NB:=["part"]) (cap:=[none]) rfl) rfl (yaY (ybe F.plainAttrs_str F.slot_str_split F.type_str_split ydQ (pv 0) (yaa (pv 1) yab))) (λ_ _ _ _=>(yax (i:=0) (show List.Nodup (["part"]:List Str) by decide) rfl (Or.inl rfl))) (λ_ _ _ _=>yaJ) (λ_ _ _ _=>(pcl G_zal hr T.QA (yaa (pv 0) yab)))) (yaf (yaj (ybd (yan ygM yaW (pv 2) rfl) yaW (pv 2))))),?_⟩
 walk_at ""
 refine⟨rfl,?_⟩
 walk_at ""
 have hne:one c≠"":= by rcases hc with rfl | rfl<;>decide +kernel
 refine⟨_,_,rfl,rfl,by rcases hc with rfl | rfl<;>decide +kernel,by rw[ycg];exact Nat.le_trans (by omega:_<=2000) (by decide),λp hp=>?_⟩
 have es:(Txt.split (ofL (ybb c (is.map nW))) (one c)).map V.str=is.map λi=>tV (nW i):=by
  rw[ydP _ (by rcases hc with rfl | rfl<;>decide),yaN,ycK (is.map nW) (by simpa using ne) (λw h=>by
   obtain⟨i,h2,rfl⟩:=List.mem_map.mp h
   intro z
   unfold nW at z
   rw[if_neg (by have:=hi i h2;omega)] at z
   have:=yj1 z
   omega),List.map_map,List.map_map]
  rfl
 rw[es]
 have s1:=yag hp (.lst (is.map λi=>tV (nW i)))
 refine⟨p,rfl,⟨_,SqL.of yae⟩,λD hD=>ybD V.int yae (yjs (f:=λi=>tV (nW i)) is) hD (by omega) (λx i H' Q' hx sm rx q'=>?_) λH2 s2 hd2=>?_⟩
 ·subst rx
  walk_at ""
  exact⟨i,rfl,nm i hx,λH3 s3=>q' _ s3⟩
 walk_at ""
 have ni:inV .non (is.map V.int)=false:=by
  unfold inV
  rw[List.any_eq_false]
  intro y hy
  obtain⟨v,hv,rfl⟩:=List.mem_map.mp hy
  exact Bool.false_ne_true
 refine⟨D,is.map V.int,rfl,.inl (SqL.of hd2),rfl,?_,?_⟩
 ·rw[List.all_map]
  exact List.all_eq_true.mpr λ_ _=>rfl
 walk_at ""
 rw[ni]
 refine i_F ?_
 walk_at ""
 exact q D _ (s1.trans s2) hd2
open TX K2 K3
theorem ya6 {H H1:Hp}{p:Addr}(s:Same H H1)(h:H1 p=none):H p=none:=by
 cases e:H p with
 | none=>rfl
 | some u=>rw[s _ _ e] at h;cases h
noncomputable def gW (m:Mt):List Nat:=if m.gs=[] then [] else 58 :: ybb 43 (m.gs.map nW)
noncomputable def mW (m:Mt):List Nat:=ybb 47 ([m.tp,m.bt].map nW)++gW m
theorem yrK:∀ m∈metresL,Txt.partition (ofL (mW m)) (Str.ofString ":")=(ofL (ybb 47 ([m.tp,m.bt].map nW)),if m.gs=[] then Str.ofString "" else Str.ofString ":",if m.gs=[] then Str.ofString "" else ofL (ybb 43 (m.gs.map nW))):=by decide +kernel
theorem yjT:∀ m∈metresL,(mW m).length<=20:=by decide +kernel
theorem ymi (H:Hp):∀ ns:List Int,Iss H (ns.map V.int) (ns.map nT)
 | []=>yaO H
 | n :: ns=>yau (yej H n) (ymi H ns)
theorem ylg {te tf:TE}{σ:St}{H:Hp}{Q:VK}{b:Bool}(R:V->Hp->Prop)(h1:b=true->∀ Q':VK,(∀ v H',R v H'->Q' v H')->te σ H Q')(h2:b=false->∀ Q':VK,(∀ v H',R v H'->Q' v H')->tf σ H Q')(q:∀ v H',R v H'->Q v H'):if b=true then te σ H Q else tf σ H Q:=by
 cases b
 ·exact i_F (h2 rfl Q q)
 ·exact i_T (h1 rfl Q q)
noncomputable def yhP:Sp:=λvs H Q _=>∃ m,vs=[tV (mW m)]/\m∈metresL/\∀ y H',Same H H'->Is (fr H H') y (mtT m)->Q y H'
theorem yrt (T:Txt K mg t)(G_zP:FnOk P w K mg base CX0 4 t.f_zP t.d_zP ["text","between"] yhY)(G_zaC:FnOk P w K mg base CX0 4 t.f_zaC t.d_zaC ["thing"] yfb):FnOk P w K mg base CX0 5 t.f_zar t.d_zar ["word"] yhP:=by
 refine T.Rp.F.ok sc_zar (λvs H Q E h=>?_) (λ_ _ _ s H vs Q E hr h=>?_)
 ·obtain⟨_,rfl,_⟩:=h;rfl
 have hu:=ybs hr
 obtain⟨m,rfl,hm,q⟩:=h
 have gm:=(yb6 m hm).1
 refine⟨_,(yac (yaK (ybl (yaU (yak yaR rfl T.Ja yam (yaa (pv 0) (yaa (yb5 rfl T.Jg yaX) yab))))) (yaf (yaj yaW)) yav) (yac (yap (i:=1) sc_zar.nd rfl (Or.inl rfl) (ybe F.plainAttrs_str F.slot_str_partition F.type_str_partition yhC (pv 0) (yaa yat yab))) (yac (yap (i:=2) sc_zar.nd rfl (Or.inl rfl) (pcl G_zP hr T.zP (yaa (yaq yar (pv 1) yad (λ_ _=>rfl)) (yaa yat yab)))) (yac (yap (i:=3) sc_zar.nd rfl (Or.inl rfl) (ybd (yan yci (yaq yar (pv 1) yad (λ_ _=>rfl)) yat (yao _)) (yaV yab) (pcl G_zP hr T.zP (yaa (yaq yar (pv 1) yad (λ_ _=>rfl)) (yaa yat yab))))) (yac (yaK (PW.pt (yb4 (yan ydx (pv 2) yaW (yao _)) (yb4 (yan ydx (pv 3) yaW (yao _)) (ybA (yan ydL (yak yas rfl T.Jc PySem.boot_len (yaa (pv 2) yab)) yad (yao _)))))) (yaf (yaj yaW)) yav) (yac (yap (i:=4) sc_zar.nd rfl (Or.inl rfl) (yaF (yaa (yaq yaD (pv 2) yad (λ_ _=>rfl)) (yaa (yaq yaD (pv 2) yad (λ_ _=>rfl)) (yaa (yaT yf6 rfl T.Jp ybS (yaa (pv 3) yab)) yab))))) (yaf (yaj (ybd (yaU (pcl G_zaC hr T.QD (yaa (pv 4) yab))) (pv 4) yaW))))))))),?_⟩
 walk_at ""
 refine ycu (.str _) (ya0 (i_F ?_))
 walk_at ""
 refine⟨rfl,?_⟩
 walk_at ""
 refine⟨_,_,rfl,rfl,by decide +kernel,by rw[ycg];exact Nat.le_trans (yjT m hm) (by decide),λp hp=>?_⟩
 rw[yrK m hm]
 have s1:=yag hp (.tup [.str (ofL (ybb 47 ([m.tp,m.bt].map nW))),.str (if m.gs=[] then Str.ofString "" else Str.ofString ":"),.str (if m.gs=[] then Str.ofString "" else ofL (ybb 43 (m.gs.map nW)))])
 have e1:=yae (H:=H) (a:=p) (o:=.tup [.str (ofL (ybb 47 ([m.tp,m.bt].map nW))),.str (if m.gs=[] then Str.ofString "" else Str.ofString ":"),.str (if m.gs=[] then Str.ofString "" else ofL (ybb 43 (m.gs.map nW)))])
 dsimp only
 generalize upd H p _=H1 at s1 e1 ⊢
 walk_at ""
 refine yaE (SqT.of e1) (yai (j:=0) rfl) ?_
 walk_at ""
 refine⟨47,[m.tp,m.bt],rfl,.inl rfl,by simp,by simp,λi hi=>?_,λD2 H2 s2 e2=>?_⟩
 ·have:=gm.t1
  have:=gm.t2
  have:=gm.b
  simp only[List.mem_cons,List.not_mem_nil,or_false] at hi
  omega
 walk_at ""
 refine yaE (SqT.of (s2 _ _ e1)) (yai (j:=1) rfl) ?_
 walk_at ""
 have eg:decide (V.str (if m.gs=[] then Str.ofString "" else Str.ofString ":")=V.str (Str.ofString ""))=decide (m.gs=[]):=by
  by_cases e:m.gs=[]
  ·rw[if_pos e,decide_eq_true e];decide +kernel
  ·rw[if_neg e,decide_eq_false e];decide +kernel
 refine⟨rfl,ya0 ?_⟩
 rw[show decide (V.str (if m.gs=[] then "" else ":")=V.str "")=decide (m.gs=[]) from eg]
 refine ylg (λv H3=>∃ D3,v=.ref D3/\Same H2 H3/\H3 D3=some (.lst (m.gs.map V.int))) (λe Q' q'=>?_) (λe Q' q'=>?_) ?_
 ·walk_at ""
  have e:=of_decide_eq_true e
  refine⟨by decide,λD3 h3=>?_⟩
  exact q' _ _ ⟨D3,rfl,yag h3 _,by rw[e];exact yae⟩
 ·walk_at ""
  have e:=of_decide_eq_false e
  rw[if_neg e,if_neg e] at e1
  refine yaE (SqT.of (s2 _ _ e1)) (yai (j:=2) rfl) ?_
  walk_at ""
  refine⟨43,m.gs,rfl,.inr rfl,e,gm.len,λi hi=>?_,λD3 H3 s3 e3=>q' _ _ ⟨D3,rfl,s3,e3⟩⟩
  have:=gm.gs i hi
  have:=gm.t2
  omega
 rintro _ H3 ⟨D3,rfl,s3,e3⟩
 walk_at ""
 refine⟨rfl,ya0 (i_F ?_)⟩
 walk_at ""
 refine⟨rfl,ya0 (i_F ?_)⟩
 walk_at ""
 refine⟨D2,_,rfl,.inl (SqL.of (s3 _ _ e2)),i_c (ygT (ya0 (i_F ?_)))⟩
 walk_at ""
 refine ybf (SqL.of (s3 _ _ e2)) (yai (j:=0) rfl) ?_
 walk_at ""
 refine ybf (SqL.of (s3 _ _ e2)) (yai (j:=1) rfl) ?_
 walk_at ""
 refine⟨D3,_,rfl,.inl ⟨SqL.of e3,λl hl=>?_⟩⟩
 walk_at ""
 refine⟨(by decide:(3:Nat)<=_),λl2 hl2=>?_⟩
 have s4:=yag hl (.tup (m.gs.map V.int))
 have s5:=yag hl2 (.tup [V.int m.tp,V.int m.bt,V.ref l])
 have sA:=s1.trans (s2.trans s3)
 have hl':=ya6 sA hl
 have hl2':=ya6 (sA.trans s4) hl2
 have im:Is (fr H (upd (upd H3 l (HO.tup (m.gs.map V.int))) l2 (HO.tup [V.int m.tp,V.int m.bt,V.ref l]))) (.ref l2) (mtT m) :=
  ycR (by rw[ybB hl2'];exact yae) (yau (yej _ _) (yau (yej _ _) (yau (ycR (by rw[ybB hl'];exact s5 _ _ yae) (ymi _ _)) (yaO _))))
 walk_at ""
 refine⟨_,m,rfl,im.same (yaM _ _),gm,λH6 s6=>?_⟩
 walk_at ""
 exact q _ _ (sA.trans (s4.trans (s5.trans s6))) (im.same (yay s6))
open TX K2 K3
theorem ybi (a b:List Nat):V.str (ofL a++ofL b)=tV (a++b):=by
 unfold tV
 congr 1
 apply ycU
 show((ofL a).cps++(ofL b).cps).toList=_
 rw[Array.toList_append,yaN,yaN,yaN]
theorem ybT {x y:V}{a b:List Nat}{Q:Str->Str->Prop}(hx:x=tV a)(hy:y=tV b)(h:a.length+b.length<=90000)(q:Q (ofL a) (ofL b)):∃ i j,x=V.str i/\y=V.str j/\i.length+j.length<=sizeLine/\Q i j :=
 ⟨_,_,hx,hy,by rw[ycg,ycg];exact Nat.le_trans h (by decide),q⟩
theorem lit {s:Str}{w:List Nat}(h:s=ofL w):V.str s=tV w:=by rw[h];rfl
theorem yeR {s:Str}{H:Hp}{Q:VK}{p:Addr}(c:Nat)(ws:List (List Nat))(hs:s=one c)(e:H p=some (.lst (ws.map tV)))(l:(ws.map List.length).sum+ws.length<=100000)(q:Q (tV (ybb c ws)) H):ymU K (.str s) [.ref p] H Q:=by
 subst hs
 refine⟨one c,p,ws.map ofL,rfl,rfl,?_,ynp l,?_⟩
 ·rw[List.map_map];exact SqL.of e
 ·rw[ylm];exact q
theorem yek {k:Nat}:∀ {ws:List (List Nat)},(∀ w∈ws,w.length<=k)->(ws.map List.length).sum<=k*ws.length
 | [],_=>Nat.zero_le _
 | w :: ws,h=>by
  have:=h w (by simp)
  have:=yek (ws:=ws) λv hv=>h v (by simp[hv])
  rw[List.map_cons,List.sum_cons,List.length_cons,Nat.mul_succ]
  omega
noncomputable def ycS:Sp:=λvs H Q _=>∃ x m,vs=[x]/\Is H x (mtT m)/\m∈metresL/\∀ H',Same H H'->Q (tV (mW m)) H'
theorem ysV (T:Txt K mg t)(G_zF:FnOk P w K mg base CX0 1 t.f_zF t.d_zF ["number"] yjK):FnOk P w K mg base CX0 2 t.f_zZ t.d_zZ ["metre"] ycS:=by
 refine T.zZ.F.ok sc_zZ (λvs H Q E h=>?_) (λ_ _ _ s H vs Q E hr h=>?_)
 ·obtain⟨_,_,rfl,_⟩:=h;rfl
 have hu:=ybs hr
 obtain⟨x,m,rfl,im,hm,q⟩:=h
 have gm:=(yb6 m hm).1
 obtain⟨a,b,rfl,ea,eb⟩:=im.mt
 have nt:Num m.tp:=⟨by have:=gm.t1;omega,by have:=gm.t2;omega⟩
 have nb:Num m.bt:=⟨by have:=gm.b;omega,by have:=gm.b;omega⟩
 refine⟨_,(yac (yap (i:=1) sc_zZ.nd rfl (Or.inl rfl) (yaC yaw (yaC yaw (pcl G_zF hr T.zF (yaa (yaq yar (pv 0) yad (λ_ _=>rfl)) yab)) yat) (pcl G_zF hr T.zF (yaa (yaq yar (pv 0) yad (λ_ _=>rfl)) yab)))) (yac (yaK (yan (yb0 hu) (yaq yar (pv 0) yad (λ_ _=>rfl)) (yaF yab) (yao _)) (yaf (yaj (pv 1))) yav) (yaf (yaj (yaC yaw (yaC yaw (pv 1) yat) (ybe F.plainAttrs_str F.slot_str_join F.type_str_join ycs yat (yaa (ya8 (yaH (NB:=["group"]) (cap:=[none]) rfl) rfl (yk2 (yaq yar (pv 0) yad (λ_ _=>rfl))) (λ_ _ _ _=>(yax (i:=0) (show List.Nodup (["group"]:List Str) by decide) rfl (Or.inl rfl))) (λ_ _ _ _=>yaJ) (λ_ _ _ _=>(pcl G_zF hr T.zF (yaa (pv 0) yab)))) yab))))))),?_⟩
 walk_at ""
 refine yaE (SqT.of ea) (yai (j:=0) rfl) ?_
 walk_at ""
 refine⟨_,rfl,nt,?_⟩
 walk_at ""
 have lt:=ybH nt
 have lb:=ybH nb
 refine ybT rfl (lit (w:=[47]) (by decide +kernel)) (by show _+1<=_;omega) ?_
 walk_at ""
 refine yaE (SqT.of ea) (yai (j:=1) rfl) ?_
 walk_at ""
 refine⟨_,rfl,nb,?_⟩
 refine ybT (ybi _ _) rfl (by rw[List.length_append];show _+1+_<=_;omega) ?_
 rw[ybi]
 have e47:nW m.tp++[47]++nW m.bt=ybb 47 ([m.tp,m.bt].map nW):=by
  show _=nW m.tp++47 :: nW m.bt
  simp
 rw[e47]
 walk_at ""
 refine yaE (SqT.of ea) (yai (j:=2) rfl) ?_
 walk_at ""
 refine⟨by decide,λp hp=>?_⟩
 have s1:=yag hp (.tup [])
 refine yeI (ycP m.gs) (ycP []) (yeU (s1 _ _ eb)) (ycR yae (yaO _)) (ya0 ?_)
 have eE:eqT (yb8 (.tp (m.gs.map nT))) (yb8 (.tp (([]:List Int).map nT)))=decide (m.gs=[]):=by
  rw[yb8,yb8,ybP,ybP]
  exact ydn _ _
 rw[eE]
 generalize upd H p (.tup [])=H1 at s1 ⊢
 refine i_d (λe=>?_) λne=>?_
 ·walk_at ""
  have z:=q _ s1
  unfold mW gW at z
  rw[if_pos e,List.append_nil] at z
  exact z
 walk_at ""
 have jl:(ybb 47 ([m.tp,m.bt].map nW)).length<=202:=ydi λw h=>by
  simp only[List.map_cons,List.map_nil,List.mem_cons,List.not_mem_nil,or_false] at h
  rcases h with rfl | rfl<;>omega
 refine ybT rfl (lit (w:=[58]) (by decide +kernel)) (by show _+1<=_;omega) ?_
 walk_at ""
 refine⟨rfl,?_⟩
 walk_at ""
 refine yaE (SqT.of (s1 _ _ ea)) (yai (j:=2) rfl) ?_
 walk_at ""
 have ng:∀ g∈m.gs,(nW g).length<=5:=λg h=>ybH ⟨by have:=gm.gs g h;omega,by have:=gm.gs g h;have:=gm.t2;omega⟩
 refine⟨b,rfl,⟨_,SqT.of (s1 _ _ eb)⟩,λD hD=>yff (λg=>tV (nW g)) (s1 _ _ eb) (yjs m.gs) hD (by have:=gm.len;omega) (λx g H' Q' hg sm rx q'=>?_) λH2 s2 hd=>?_⟩
 ·subst rx
  walk_at ""
  exact⟨g,rfl,⟨by have:=gm.gs g hg;omega,by have:=gm.gs g hg;have:=gm.t2;omega⟩,q' _ (Same.refl _)⟩
 have l5:=yek (k:=5) (ws:=m.gs.map nW) λw h=>by obtain⟨g,hg,rfl⟩:=List.mem_map.mp h;exact ng g hg
 rw[List.length_map] at l5
 have j5:=ydi (c:=43) (ws:=m.gs.map nW) λw h=>by obtain⟨g,hg,rfl⟩:=List.mem_map.mp h;have:=ng g hg;omega
 rw[List.length_map] at j5
 have gl:=gm.len
 walk_at ""
 refine yeR 43 (m.gs.map nW) (by decide +kernel) (by rw[List.map_map];exact hd) (by rw[List.length_map];omega) ?_
 refine ybT (ybi _ _) rfl (by rw[List.length_append];show _+1+_<=_;omega) ?_
 rw[ybi]
 have z:=q _ (s1.trans s2)
 unfold mW gW at z
 rw[if_neg ne] at z
 rw[List.append_assoc]
 exact z
open TX K2 K3
noncomputable def kdI:Cv->Int
 | .m _=>0
 | .k _=>1
noncomputable def kW:Cv->List Nat
 | .m _=>[109,101,116,114,101]
 | .k _=>[107,101,121]
noncomputable def vW:Cv->List Nat
 | .m m=>mW m
 | .k i=>nW i
noncomputable def GV:Cv->Prop
 | .m m=>m∈metresL
 | .k i=>-7<=i/\i<=7
noncomputable def c3T (c:Nat×Cv):Th:=.tp [nT c.1,nT (kdI c.2),cvT c.2]
theorem ylM (c:Cv):atI [V.str "metre",V.str "key"] (kdI c)=some (tV (kW c)):=by
 cases c
 ·show some (V.str "metre")=_;rw[lit (s := "metre") (w:=[109,101,116,114,101]) (by decide +kernel)];rfl
 ·show some (V.str "key")=_;rw[lit (s := "key") (w:=[107,101,121]) (by decide +kernel)];rfl
theorem yk1 {a b:List Nat}{H:Hp}{Q:VK}(q:Q (.bl (!decide (a=b))) H):rNe (tV a) (tV b) H Q:=⟨rfl,by rw[show decide (tV a=tV b)=decide (a=b) by rw[decide_eq_decide];exact⟨λe=>by have:=congrArg (λv=>match v with | V.str s=>s.cps.toList | _=>[]) e;exact this,λe=>by rw[e]⟩];exact q⟩
theorem ykr {a b:List Nat}{H:Hp}{Q:VK}(q:Q (.bl (decide (a=b))) H):rEq (tV a) (tV b) H Q:=⟨rfl,by rw[show decide (tV a=tV b)=decide (a=b) by rw[decide_eq_decide];exact⟨λe=>by have:=congrArg (λv=>match v with | V.str s=>s.cps.toList | _=>[]) e;exact this,λe=>by rw[e]⟩];exact q⟩
noncomputable def ylp:Sp:=λvs H Q _=>∃ (b:Nat) (c:Cv) (l:Addr),vs=[.int b,.int (kdI c),.ref l]/\H l=some (.lst [tV (kW c),tV (vW c)])/\GV c/\∀ y H',Same H H'->Is (fr H H') y (c3T (b,c))->Q y H'
theorem ysD (T:Txt K mg t)(G_zar:FnOk P w K mg base CX0 5 t.f_zar t.d_zar ["word"] yhP)(G_zaL:FnOk P w K mg base CX0 4 t.f_zaL t.d_zaL ["word"] ymC):FnOk P w K mg base CX0 6 t.f_zt t.d_zt ["bar","kind","words"] ylp:=by
 refine T.zt.F.ok sc_zt (λvs H Q E h=>?_) (λ_ _ _ s H vs Q E hr h=>?_)
 ·obtain⟨_,_,_,rfl,_⟩:=h;rfl
 have hu:=ybs hr
 obtain⟨b,c,l,rfl,el,gc,q⟩:=h
 refine⟨_,(yac (yaK (PW.pt (yb4 (yan ydL (yak yas rfl T.Jc PySem.boot_len (yaa (pv 2) yab)) yad (yao _)) (ybA (yan ydL (yaq yaD (pv 2) yad (λ_ _=>rfl)) (yaq yar (ygl rfl T.Jy) (pv 1) (λ_ _=>rfl)) (yao _))))) (yaf (yaj yaW)) yav) (yac (yap (i:=3) sc_zt.nd rfl (Or.inl rfl) (ybd (yan yci (pv 1) (ybW rfl T.JK) (yao _)) (pcl G_zar hr T.Rp (yaa (yaq yaD (pv 2) yad (λ_ _=>rfl)) yab)) (pcl G_zaL hr T.Ro (yaa (yaq yaD (pv 2) yad (λ_ _=>rfl)) yab)))) (yaf (yaj (ybd (yan ydx (pv 3) yaW (yao _)) yaW (yaF (yaa (pv 0) (yaa (pv 1) (yaa (pv 3) yab))))))))),?_⟩
 walk_at ""
 refine⟨l,_,rfl,.inl (SqL.of el),i_c (ygT (ya0 (i_F ?_)))⟩
 walk_at ""
 refine ybf (SqL.of el) (yai (j:=0) rfl) ?_
 walk_at ""
 refine yaE (T.Jt.sq H) (ylM c) ?_
 refine yk1 (ya0 ?_)
 rw[decide_eq_true rfl]
 refine i_F ?_
 walk_at ""
 refine ylg (λy H2=>Same H H2/\y≠.non/\Is (fr H H2) y (cvT c)) (λe Q' q'=>?_) (λe Q' q'=>?_) ?_
 ·cases c with
  | k i=>exact absurd (show decide ((1:Int)=0)=true from e) (by decide)
  | m m =>
   walk_at ""
   refine ybf (SqL.of el) (yai (j:=1) rfl) ?_
   walk_at ""
   exact⟨m,rfl,gc,λy H' s i=>q' _ _ ⟨s,(by obtain⟨_,_,rfl,_⟩:=i.mt;simp),i⟩⟩
 ·cases c with
  | m m=>exact absurd (show decide ((0:Int)=0)=false from e) (by decide)
  | k i =>
   walk_at ""
   refine ybf (SqL.of el) (yai (j:=1) rfl) ?_
   walk_at ""
   exact⟨i,rfl,gc.1,gc.2,λH' s=>q' _ _ ⟨s,by simp,yej _ _⟩⟩
 rintro y H1 ⟨s1,ny,iy⟩
 walk_at ""
 refine⟨rfl,ya0 ?_⟩
 rw[decide_eq_false ny]
 refine i_F ?_
 walk_at ""
 refine⟨(by decide:(3:Nat)<=_),λp hp=>?_⟩
 exact q _ _ (s1.trans (yag hp _)) (ycR (by rw[ybB (ya6 s1 hp)];exact yae) (yau (yej _ _) (yau (yej _ _) (yau (iy.same (ypL hp)) (yaO _)))))
open TX K2 K3
noncomputable def atW:List Nat:=[97,116]
noncomputable def cWs (c:Nat×Cv):List (List Nat):=if c.1=1 then [kW c.2,vW c.2] else [atW,nW c.1,kW c.2,vW c.2]
noncomputable def ydV (c:Nat×Cv):List Nat:=ybb 32 (cWs c)
noncomputable def yeA (c:Nat×Cv):List Int:=[(c.1:Int),kdI c.2]
noncomputable def Behind (cs:List (Nat×Cv))(c:Nat×Cv):Prop:=if cs.length < 2 then c.1=1/\kdI c.2=cs.length else 2<=c.1/\c.1<=24/\∃ d,cs.getLast?=some d/\HT.lexLt (yeA d) (yeA c)=true
theorem yrI (c:Cv):kW c≠[]/\32∉kW c/\(kW c).length<=100:=by
 cases c
 ·exact(by decide:([109,101,116,114,101]:List Nat)≠[]/\32∉([109,101,116,114,101]:List Nat)/\([109,101,116,114,101]:List Nat).length<=100)
 ·exact(by decide:([107,101,121]:List Nat)≠[]/\32∉([107,101,121]:List Nat)/\([107,101,121]:List Nat).length<=100)
theorem yul (c:Cv):inV (tV (kW c)) [V.str "metre",V.str "key"]=true:=by
 cases c
 ·exact(by decide +kernel:inV (tV [109,101,116,114,101]) [V.str "metre",V.str "key"]=true)
 ·exact(by decide +kernel:inV (tV [107,101,121]) [V.str "metre",V.str "key"]=true)
theorem ypD (c:Cv):∃ (j:Nat) (z:V),(j:Int)=kdI c/\[V.str "metre",V.str "key"][j]?=some z/\eqV z (tV (kW c))=true/\∀ m z',m < j->[V.str "metre",V.str "key"][m]?=some z'->eqV z' (tV (kW c))=false:=by
 cases c
 ·exact⟨0,_,rfl,rfl,(by decide +kernel:eqV (V.str "metre") (tV [109,101,116,114,101])=true),λm z' h=>absurd h (Nat.not_lt_zero _)⟩
 ·refine⟨1,_,rfl,rfl,(by decide +kernel:eqV (V.str "key") (tV [107,101,121])=true),λm z' h e=>?_⟩
  have:m=0:=by omega
  subst this
  cases e
  exact(by decide +kernel:eqV (V.str "metre") (tV [107,101,121])=false)
theorem yqW {i:Int}(h:Num i):nW i≠[]/\32∉nW i/\(nW i).length<=100:=⟨yqj i,λz=>by have:=ylt z;omega,by have:=ybH h;omega⟩
theorem ysC:∀ m∈metresL,mW m≠[]/\32∉mW m/\(mW m).length<=100:=by decide +kernel
theorem yrQ {c:Cv}(h:GV c):vW c≠[]/\32∉vW c/\(vW c).length<=100:=by
 cases c with
 | m m=>exact ysC m h
 | k i=>exact yqW ⟨h.1,by have:=h.2;omega⟩
theorem yp6 {c:Nat×Cv}(g:GV c.2)(h:c.1<=24):yl7 (cWs c):=by
 have a:=yrI c.2
 have b:=yrQ g
 have d:=yqW (i:=(c.1:Int)) ⟨by omega,by omega⟩
 have e:atW≠[]/\32∉atW/\atW.length<=100:=by decide
 unfold cWs
 split
 ·refine⟨by simp,by simp,λw hw=>?_⟩
  simp only[List.mem_cons,List.not_mem_nil,or_false] at hw
  rcases hw with rfl | rfl
  ·exact a
  ·exact b
 ·refine⟨by simp,by simp,λw hw=>?_⟩
  simp only[List.mem_cons,List.not_mem_nil,or_false] at hw
  rcases hw with rfl | rfl | rfl | rfl
  ·exact e
  ·exact d
  ·exact a
  ·exact b
theorem Behind.le {cs:List (Nat×Cv)}{c:Nat×Cv}(h:Behind cs c):c.1<=24:=by
 unfold Behind at h
 split at h
 ·omega
 ·exact h.2.1
theorem Is.c3 {H:Hp}{x:V}{c:Nat×Cv}(h:Is H x (c3T c)):∃ a y,x=.ref a/\H a=some (.tup [.int c.1,.int (kdI c.2),y])/\Is H y (cvT c.2):=by
 rw[c3T,Is] at h
 obtain⟨a,xs,rfl,ea,h⟩:=h
 rw[Iss] at h
 obtain⟨x1,xs,rfl,h1,h⟩:=h
 rw[Iss] at h
 obtain⟨x2,xs,rfl,h2,h⟩:=h
 rw[Iss] at h
 obtain⟨x3,xs,rfl,h3,h⟩:=h
 rw[Iss] at h
 subst h
 rw[nT,Is] at h1 h2
 obtain⟨rfl,_⟩:=h1
 obtain⟨rfl,_⟩:=h2
 exact⟨a,x3,rfl,ea,h3⟩
theorem yiR {a b:List Int}(h:HT.lexLt a b=true):HT.lexLt b a=false:=by
 cases e:HT.lexLt b a
 ·rfl
 ·have:=yll h e
  rw[yec] at this
  cases this
noncomputable def yfI:Sp:=λvs H Q _=>∃ (l:Addr) (xs:List V) (cs:List (Nat×Cv)) (c:Nat×Cv),vs=[tV (ydV c),.ref l]/\H l=some (.lst xs)/\Iss H xs (cs.map c3T)/\GV c.2/\Behind cs c/\∀ y H',Same H H'->Is (fr H H') y (c3T c)->Q y H'
theorem yqv (T:Txt K mg t)(G_zay:FnOk P w K mg base CX0 1 t.f_zay t.d_zay ["row"] yeL)(G_zt:FnOk P w K mg base CX0 6 t.f_zt t.d_zt ["bar","kind","words"] ylp)(G_zal:FnOk P w K mg base CX0 3 t.f_zal t.d_zal ["word"] yjH)(G_zat:FnOk P w K mg base CX0 2 t.f_zat t.d_zat ["thing","least","most"] ycE):FnOk P w K mg base CX0 7 t.f_zam t.d_zam ["row","ahead"] yfI:=by
 refine T.Rq.F.ok sc_zam (λvs H Q E h=>?_) (λ_ _ _ s H vs Q E hr h=>?_)
 ·obtain⟨_,_,_,_,rfl,_⟩:=h;rfl
 have hu:=ybs hr
 obtain⟨l,xs,cs,c,rfl,el,ix,gc,bh,q⟩:=h
 have wd:yl7 (cWs c):=yp6 gc bh.le
 refine⟨_,(yac (yap (i:=2) sc_zam.nd rfl (Or.inl rfl) (pcl G_zay hr T.QR (yaa (pv 0) yab))) (yac (yaK (yan ydx (pv 2) yaW (yao _)) (yaf (yaj yaW)) yav) (yac (yaK (yan ye6 (yak yas rfl T.Jc PySem.boot_len (yaa (pv 1) yab)) (yak yas rfl T.Jc PySem.boot_len (yaa (ygl rfl T.Jy) yab)) (yao _)) (yaf (yaj (pcl G_zt hr T.zt (yaa yad (yaa (yak yas rfl T.Jc PySem.boot_len (yaa (pv 1) yab)) (yaa (pv 2) yab)))))) yav) (yac (yaK (PW.pt (yb4 (yan ydL (yak yas rfl T.Jc PySem.boot_len (yaa (pv 2) yab)) yad (yao _)) (yb4 (yan ydL (yaq yaD (pv 2) yad (λ_ _=>rfl)) yat (yao _)) (ybA (yan ydl (yaq yaD (pv 2) yad (λ_ _=>rfl)) (ygl rfl T.Jy) rfl))))) (yaf (yaj yaW)) yav) (yac (yap (i:=3) sc_zam.nd rfl (Or.inl rfl) (pcl G_zal hr T.QA (yaa (yaq yaD (pv 2) yad (λ_ _=>rfl)) yab))) (yac (yap (i:=4) sc_zam.nd rfl (Or.inl rfl) (ybe F.plainAttrs_tuple F.slot_tuple_index F.type_tuple_index yhV (ygl rfl T.Jy) (yaa (yaq yaD (pv 2) yad (λ_ _=>rfl)) yab))) (yac (yaK (PW.pt (yb4 (ybl (yaU (pcl G_zat hr T.Qj (yaa (pv 3) (yaa yad (yaa (ybW rfl T.JI) yab)))))) (ybA (yan (yrx (Nat.lt_of_le_of_lt (Nat.le_add_right _ 64) hu)) (yaF (yaa (pv 3) (yaa (pv 4) yab))) (ybr ypW (yaq yaD (pv 1) (ydj yca yad) (λ_ _=>rfl)) ybX (ybF yad)) (yao _))))) (yaf (yaj yaW)) yav) (yaf (yaj (pcl G_zt hr T.zt (yaa (pv 3) (yaa (pv 4) (yaa (ybr ycf (pv 2) (ybF yad) ybX) yab))))))))))))),?_⟩
 walk_at ""
 refine⟨cWs c,rfl,wd,λD H1 s1 hD e1=>?_⟩
 walk_at ""
 refine⟨rfl,ya0 (i_F ?_)⟩
 walk_at ""
 have xl:=ix.len
 rw[List.length_map] at xl
 refine⟨l,_,rfl,.inl (SqL.of (s1 _ _ el)),?_⟩
 walk_at ""
 refine⟨_,_,rfl,.inr (T.Jt.sq H1),?_⟩
 walk_at ""
 rw[show decide ((xs.length:Int) < (([V.str "metre",V.str "key"].length:Nat):Int))=decide (cs.length < 2) by rw[decide_eq_decide,xl];show _ < (2:Int)↔_;omega]
 unfold Behind at bh
 refine i_d (λe=>?_) λe=>?_
 ·rw[if_pos e] at bh
  walk_at ""
  refine⟨l,_,rfl,.inl (SqL.of (s1 _ _ el)),?_⟩
  walk_at ""
  unfold cWs at e1
  rw[if_pos bh.1] at e1
  refine⟨1,c.2,D,by rw[bh.2,xl];rfl,e1,gc,λy H2 s2 iy=>?_⟩
  have ec:(1,c.2)=c:=by rw[← bh.1]
  rw[ec] at iy
  exact q _ _ (s1.trans s2) (iy.same (ydm s1))
 rw[if_neg e] at bh
 obtain⟨b2,b24,d,hd,lt⟩:=bh
 unfold cWs at e1
 rw[if_neg (by omega)] at e1
 walk_at ""
 refine⟨D,_,rfl,.inl (SqL.of e1),i_c (ygT (ya0 (i_F ?_)))⟩
 walk_at ""
 refine ybf (SqL.of e1) (yai (j:=0) rfl) ?_
 walk_at ""
 rw[show V.str "at"=tV atW from lit (by decide +kernel)]
 refine yk1 (ya0 ?_)
 rw[decide_eq_true rfl]
 refine i_F ?_
 walk_at ""
 refine ybf (SqL.of e1) (yai (j:=2) rfl) ?_
 walk_at ""
 refine⟨_,_,rfl,.inr (T.Jt.sq H1),rfl,rfl,ya0 ?_⟩
 rw[if_pos rfl,yul]
 refine i_F ?_
 walk_at ""
 refine ybf (SqL.of e1) (yai (j:=1) rfl) ?_
 walk_at ""
 refine⟨c.1,rfl,⟨by omega,by omega⟩,λH2 s2=>?_⟩
 walk_at ""
 refine⟨T.Jt.ty _,?_⟩
 walk_at ""
 refine ybf (SqL.of (s2 _ _ e1)) (yai (j:=2) rfl) ?_
 walk_at ""
 obtain⟨j,z,ej,hj,hz,hm⟩:=ypD c.2
 refine⟨_,_,_,j,z,rfl,rfl,T.Jt.sq H2,rfl,rfl,hj,hz,hm,?_⟩
 rw[ej]
 walk_at ""
 refine am ⟨by omega,by omega⟩ (ya0 (i_F ?_))
 walk_at ""
 refine⟨(by decide:(2:Nat)<=_),λp hp=>?_⟩
 have s3:=yag hp (.tup [V.int c.1,V.int (kdI c.2)])
 have e3:=yae (H:=H2) (a:=p) (o:=.tup [V.int c.1,V.int (kdI c.2)])
 generalize upd H2 p _=H3 at s3 e3 ⊢
 walk_at ""
 have l2:2<=cs.length:=by omega
 have ed:cs[cs.length - 1]?=some d:=by rw[← List.getLast?_eq_getElem?];exact hd
 obtain⟨yd,hyd,iyd⟩:=ix.at' (cs.length - 1) (by rw[List.length_map];omega)
 have s13:=s1.trans (s2.trans s3)
 have eT:(cs.map c3T)[cs.length - 1]?=some (c3T d):=by rw[List.getElem?_map,ed];rfl
 rw[(List.getElem?_eq_some_iff.mp eT).2] at iyd
 obtain⟨a,y3,rfl,ea,_⟩:=iyd.c3
 refine ybf (SqL.of (s13 _ _ el)) (v:=.ref a) ?_ ?_
 ·have g:xs.getLast?=some (.ref a):=by rw[List.getLast?_eq_getElem?,xl];exact hyd
  obtain⟨zs,z⟩:=List.getLast?_eq_some_iff.mp g
  rw[z]
  exact ybY _ _
 walk_at ""
 refine⟨2,rfl,a,_,rfl,SqT.of (s13 _ _ ea),(by decide:¬ (HT.sIx 3 0 none=0/\HT.sIx 3 3 (some 2)=3)),λp4 hp4=>?_⟩
 have ct:yes [V.int d.1,V.int (kdI d.2),y3] none (some ((2:Nat):Int))=[V.int d.1,V.int (kdI d.2)]:=ydT _ 2
 rw[show(2:Int)=((2:Nat):Int) from rfl,ct]
 have s4:=yag hp4 (.tup [V.int d.1,V.int (kdI d.2)])
 have e4:=yae (H:=H3) (a:=p4) (o:=.tup [V.int d.1,V.int (kdI d.2)])
 generalize upd H3 p4 _=H4 at s4 e4 ⊢
 have ne:yeA c≠yeA d:=λz=>by rw[z,yec] at lt;cases lt
 refine⟨p,p4,yeA c,yeA d,[],[],rfl,rfl,SqT.of (s4 _ _ e3),SqT.of e4,rfl,ne,ya0 ?_⟩
 rw[yiR lt]
 refine i_F ?_
 walk_at ""
 refine⟨2,rfl,D,_,rfl,SqL.of (s4 _ _ (s3 _ _ (s2 _ _ e1))),λp5 hp5=>?_⟩
 have cd:yes ([atW,nW c.1,kW c.2,vW c.2].map tV) (some ((2:Nat):Int)) none=[tV (kW c.2),tV (vW c.2)]:=ydt _ 2 (by simp)
 rw[show(2:Int)=((2:Nat):Int) from rfl,cd]
 have s5:=yag hp5 (.lst [tV (kW c.2),tV (vW c.2)])
 walk_at ""
 refine⟨c.1,c.2,p5,rfl,yae,gc,λy H6 s6 iy=>?_⟩
 have s05:=s13.trans (s4.trans s5)
 exact q _ _ (s05.trans s6) (iy.same (ydm s05))
open TX K2 K3
structure ypA (H:Hp) (p:Addr) (s l o:Int):Prop where
 at':H p=some (.tup [.int s,.int l,.int o])
 s0:0<=s
 s1:s<=6
 l0:-2<=l
 l1:l<=2
 o0:0<=o
 o1:o<=8
theorem yoA {o:Int}(h0:0<=o)(h1:o<=8):tV (nW o)=.str (fig o):=by
 have:o=0∨o=1∨o=2∨o=3∨o=4∨o=5∨o=6∨o=7∨o=8:=by omega
 rcases this with rfl | rfl | rfl | rfl | rfl | rfl | rfl | rfl | rfl<;>(unfold tV;congr 1)
noncomputable def yeZ:Sp:=λvs H Q _=>∃ p s l o,vs=[.ref p]/\ypA H p s l o/\Q (.str (yf1 s l o)) H
theorem yst (T:Txt K mg t)(G_zF:FnOk P w K mg base CX0 1 t.f_zF t.d_zF ["number"] yjK):FnOk P w K mg base CX0 2 t.f_zK t.d_zK ["pitch"] yeZ:=by
 refine T.zK.F.ok sc_zK (λvs H Q E h=>?_) (λ_ _ _ s' H vs Q E hr h=>?_)
 ·obtain⟨p,s,l,o,rfl,_⟩:=h;rfl
 obtain⟨p,s,l,o,rfl,hp,q⟩:=h
 refine⟨_,(yac (yap (i:=1) sc_zK.nd rfl (Or.inl rfl) (yaq yar (pv 0) yad (λ_ _=>rfl))) (yaf (yaj (yaC yaw (yaC yaw (yaC yaw (yaq ygG (ylb rfl T.JR) (yaq yar (pv 0) yad (λ_ _=>rfl)) (λ_ _=>rfl)) (yaC ygA yat (ydj yca (pv 1)))) (yaC ygA yat (pv 1))) (pcl G_zF hr T.zF (yaa (yaq yar (pv 0) yad (λ_ _=>rfl)) yab)))))),?_⟩
 walk_at "rd"
 have hq:=SqT.of (K:=K) hp.at'
 obtain⟨c,hc,ec⟩:=yg1 hp.s0 hp.s1
 have b1:=ykD hp.l0 hp.l1
 have b2:=ylI hp.l0 hp.l1
 have bl:=yfK s
 refine⟨_,hq,_,rfl,_,hq,_,rfl,s,rfl,by decide +kernel,c,hc,l,rfl,ypg hp.l0 hp.l1,?_⟩
 rw[ec]
 refine⟨small (by omega),l,rfl,yoX hp.l0 hp.l1,small (by rw[yeS];omega),_,hq,_,rfl,o,rfl,⟨by have:=hp.o0;omega,by have:=hp.o1;omega⟩,fig o,yoA hp.o0 hp.o1,?_,?_⟩
 ·rw[yeS,yeS]
  exact small (by have:=ylu o;omega)
 ·have e:yfE s++Txt.mul "-" (-l)++Txt.mul "+" l++fig o=yf1 s l o:=by
   rw[yms (yfE s),ypp hp.l0 hp.l1]
   rfl
  rw[← e] at q
  exact q
open TX K2 K3
noncomputable def wTh (w:List Nat):Th:=.im (tV w)
noncomputable def wTr (w:List Nat):L2.Tr:=.vl (tV w)
theorem ye5 (H:Hp):∀ ws:List (List Nat),Iss H (ws.map tV) (ws.map wTh)
 | []=>yaO H
 | w :: ws=>yau (ybC rfl) (ye5 H ws)
theorem yeG (ws:List (List Nat)):toTrs (ws.map wTh)=ws.map wTr:=by
 induction ws with
 | nil=>rfl
 | cons n ns ih=>rw[List.map_cons,toTrs,ih];rfl
theorem yeN (a b:List Nat):eqV (tV a) (tV b)=decide (a=b):=by
 unfold tV
 simp only[eqV]
 rw[Bool.eq_iff_iff,beq_iff_eq,decide_eq_true_eq]
 exact⟨λe=>congrArg (λz:Str=>z.cps.toList) e,λe=>by rw[e]⟩
theorem yhT:∀ us vs:List (List Nat),eqTs (us.map wTr) (vs.map wTr)=decide (us=vs)
 | [],[]=>rfl
 | [],_ :: _=>rfl
 | _ :: _,[]=>rfl
 | u :: us,v :: vs=>by
  rw[List.map_cons,List.map_cons,eqTs,yhT us vs]
  show(eqV (tV u) (tV v)&&_)=_
  rw[yeN,Bool.eq_iff_iff]
  simp
theorem yhn (ws:List (List Nat)):OkE (.ls (ws.map wTh)):=⟨ycb λu hu=>by obtain⟨n,_,rfl⟩:=List.mem_map.mp hu;rfl,yhK (k:=59) (yc2 λu hu=>by obtain⟨n,_,rfl⟩:=List.mem_map.mp hu;exact ybh)⟩
theorem yn4 {H:Hp}{Q:VK}{p p2:Addr}(us vs:List (List Nat))(e1:H p=some (.lst (us.map tV)))(e2:H p2=some (.lst (vs.map tV)))(q:Q (.bl (decide (us=vs))) H):ymE K (.ref p) (.ref p2) H Q:=by
 refine yeI (yhn us) (yhn vs) (ybU e1 (ye5 H us)) (ybU e2 (ye5 H vs)) ?_
 rw[show eqT (yb8 (.ls (us.map wTh))) (yb8 (.ls (vs.map wTh)))=decide (us=vs) by rw[yb8,yb8,yeG,yeG];exact yhT us vs]
 exact q
open TX K2 K3
noncomputable def tcW (c:Bool)(w:List Nat):List (List Nat):=(if c then [[41]] else [])++if w=[] then [] else [w]
noncomputable def tlW (o c:Bool)(w:List Nat):List (List Nat):=(if o then [[40]] else [])++tcW c w
theorem ylf {w:List Nat}(g:yeu (ofL w)):w≠[40]/\w≠[41]:=by
 refine⟨λe=>?_,λe=>?_⟩
 ·have:=g.2 40 (by rw[yaN,e];simp)
  exact absurd this (by decide +kernel)
 ·have:=g.2 41 (by rw[yaN,e];simp)
  exact absurd this (by decide +kernel)
theorem ypu {o c:Bool}{w:List Nat}(g:yeu (ofL w)):decide ((tlW o c w).take 1=[[40]])=o:=by
 have:=(ylf g).1
 cases o<;>cases c<;>by_cases e:w=[]<;>simp[tlW,tcW,e,this]
theorem ym0 {c:Bool}{w:List Nat}(g:yeu (ofL w)):decide ((tcW c w).take 1=[[41]])=c:=by
 have:=(ylf g).2
 cases c<;>by_cases e:w=[]<;>simp[tcW,e,this]
noncomputable def yhZ:Sp:=λvs H Q _=>∃ (x:V) (g:Int) (l:Addr) (o c:Bool) (w:List Nat),vs=[x,.int g,.ref l]/\H l=some (.lst ((tlW o c w).map tV))/\yeu (ofL w)/\∀ p H',Same H H'->H p=none->H' p=some (.tup [.str "tones",x,.int g,tV w,.bl o,.bl c])->Q (.ref p) H'
theorem yqw (T:Txt K mg t)(G_zy:FnOk P w K mg base CX0 2 t.f_zy t.d_zy ["thing"] ypI):FnOk P w K mg base CX0 3 t.f_zaB t.d_zaB ["pitches","length","words"] yhZ:=by
 refine T.Rt.F.ok sc_zaB (λvs H Q E h=>?_) (λ_ _ _ s H vs Q E hr h=>?_)
 ·obtain⟨_,_,_,_,_,_,rfl,_⟩:=h;rfl
 have hu:=ybs hr
 obtain⟨x,g,l,o,c,w,rfl,el,gw,q⟩:=h
 refine⟨_,(yac (yap (i:=3) sc_zaB.nd rfl (Or.inl rfl) (ya4 (yb0 hu) (ybr ycf (pv 2) ybX (ybF yad)) (yaV (yaa yat yab)) (yao _))) (yac (yap (i:=4) sc_zaB.nd rfl (Or.inl rfl) (ybd (yaU (pv 3)) (ybr ycf (pv 2) (ybF yad) ybX) (pv 2))) (yac (yap (i:=5) sc_zaB.nd rfl (Or.inl rfl) (ya4 (yb0 hu) (ybr ycf (pv 4) ybX (ybF yad)) (yaV (yaa yat yab)) (yao _))) (yac (yap (i:=6) sc_zaB.nd rfl (Or.inl rfl) (ybd (yaU (pv 5)) (ybr ycf (pv 4) (ybF yad) ybX) (pv 4))) (yac (yaK (yan (yf5 hu) (pv 6) (yaV yab) (yao _)) (yaf (yaj (yaF (yaa yat (yaa (pv 0) (yaa (pv 1) (yaa yat (yaa (pv 3) (yaa (pv 5) yab))))))))) yav) (yac (yaK (PW.pt (yb4 (yan ymQ (yak yas rfl T.Jc PySem.boot_len (yaa (pv 6) yab)) yad (yao _)) (ybA (ybl (yaU (pcl G_zy hr T.zy (yaa (yaq yaD (pv 6) yad (λ_ _=>rfl)) yab))))))) (yaf (yaj yaW)) yav) (yaf (yaj (yaF (yaa yat (yaa (pv 0) (yaa (pv 1) (yaa (yaq yaD (pv 6) yad (λ_ _=>rfl)) (yaa (pv 3) (yaa (pv 5) yab))))))))))))))),?_⟩
 walk_at ""
 refine⟨1,rfl,l,_,rfl,SqL.of el,λp1 hp1=>?_⟩
 have ct:yes ((tlW o c w).map tV) none (some 1)=((tlW o c w).take 1).map tV:=by rw[List.map_take];exact ydT _ 1
 rw[ct]
 have s1:=yag hp1 (.lst (((tlW o c w).take 1).map tV))
 have e1:=yae (H:=H) (a:=p1) (o:=.lst (((tlW o c w).take 1).map tV))
 generalize upd H p1 _=H1 at s1 e1 ⊢
 walk_at ""
 refine⟨(by decide:(1:Nat)<=_),λp2 hp2=>?_⟩
 have s2:=yag hp2 (.lst [V.str "("])
 have e2:upd H1 p2 (.lst [V.str "("]) p2=some (.lst ([[40]].map tV)):=by rw[yae,lit (s := "(") (w:=[40]) (by decide +kernel)];rfl
 generalize upd H1 p2 _=H2 at s2 e2 ⊢
 refine yn4 _ [[40]] (s2 _ _ e1) e2 ?_
 rw[ypu gw]
 walk_at ""
 have s02:=s1.trans s2
 refine ylg (λv H3=>∃ l3,v=.ref l3/\Same H2 H3/\H3 l3=some (.lst ((tcW c w).map tV))) (λe Q' q'=>?_) (λe Q' q'=>?_) ?_
 ·subst e
  walk_at ""
  refine⟨1,rfl,l,_,rfl,SqL.of (s02 _ _ el),λp3 hp3=>q' _ _ ⟨p3,rfl,yag hp3 _,?_⟩⟩
  rw[yae,show yes ((tlW true c w).map tV) (some 1) none=(tcW c w).map tV from ydt _ 1 (by simp[tlW])]
 ·subst e
  walk_at ""
  exact q' _ _ ⟨l,rfl,Same.refl _,s02 _ _ el⟩
 rintro _ H3 ⟨l3,rfl,s3,e3⟩
 walk_at ""
 refine⟨1,rfl,l3,_,rfl,SqL.of e3,λp4 hp4=>?_⟩
 have ct2:yes ((tcW c w).map tV) none (some 1)=((tcW c w).take 1).map tV:=by rw[List.map_take];exact ydT _ 1
 rw[ct2]
 have s4:=yag hp4 (.lst (((tcW c w).take 1).map tV))
 have e4:=yae (H:=H3) (a:=p4) (o:=.lst (((tcW c w).take 1).map tV))
 generalize upd H3 p4 _=H4 at s4 e4 ⊢
 walk_at ""
 refine⟨(by decide:(1:Nat)<=_),λp5 hp5=>?_⟩
 have s5:=yag hp5 (.lst [V.str ")"])
 have e5:upd H4 p5 (.lst [V.str ")"]) p5=some (.lst ([[41]].map tV)):=by rw[yae,lit (s := ")") (w:=[41]) (by decide +kernel)];rfl
 generalize upd H4 p5 _=H5 at s5 e5 ⊢
 refine yn4 _ [[41]] (s5 _ _ e4) e5 ?_
 rw[ym0 gw]
 walk_at ""
 have s35:=s4.trans s5
 refine ylg (λv H6=>∃ l6,v=.ref l6/\Same H5 H6/\H6 l6=some (.lst ((if w=[] then [] else [w]).map tV))) (λe Q' q'=>?_) (λe Q' q'=>?_) ?_
 ·subst e
  walk_at ""
  refine⟨1,rfl,l3,_,rfl,SqL.of (s35 _ _ e3),λp6 hp6=>q' _ _ ⟨p6,rfl,yag hp6 _,?_⟩⟩
  rw[yae,show yes ((tcW true w).map tV) (some 1) none=(if w=[] then [] else [w]).map tV from ydt _ 1 (by simp[tcW])]
 ·subst e
  walk_at ""
  exact q' _ _ ⟨l3,rfl,Same.refl _,s35 _ _ e3⟩
 rintro _ H6 ⟨l6,rfl,s6,e6⟩
 have s06:=s02.trans (s3.trans (s35.trans s6))
 walk_at ""
 refine⟨by decide,λp7 hp7=>?_⟩
 have s7:=yag hp7 (.lst [])
 have e7:=yae (H:=H6) (a:=p7) (o:=.lst [])
 generalize upd H6 p7 _=H7 at s7 e7 ⊢
 have s07:=s06.trans s7
 refine⟨l6,p7,_,rfl,rfl,SqL.of (s7 _ _ e6),SqL.of e7,ya0 ?_⟩
 by_cases e:w=[]
 ·rw[if_pos e]
  refine i_T ?_
  walk_at ""
  refine⟨(by decide:(6:Nat)<=_),λp8 hp8=>q _ _ (s07.trans (yag hp8 _)) (ya6 s07 hp8) ?_⟩
  rw[yae,e]
  rfl
 ·rw[if_neg e] at e6 ⊢
  refine i_F ?_
  walk_at ""
  refine⟨l6,_,rfl,.inl (SqL.of (s7 _ _ e6)),?_⟩
  walk_at ""
  refine i_F ?_
  walk_at ""
  refine ybf (SqL.of (s7 _ _ e6)) (yai (j:=0) rfl) ?_
  walk_at ""
  refine⟨ofL w,rfl,gw,λz=>e (by have z2:=ycg w;rw[show(ofL w).length=(ofL w).cps.size from rfl,z] at z2;exact List.length_eq_zero_iff.mp z2.symm),λH8 s8=>ya0 (i_F ?_)⟩
  walk_at ""
  refine ybf (SqL.of (s8 _ _ (s7 _ _ e6))) (yai (j:=0) rfl) ?_
  walk_at ""
  exact⟨(by decide:(6:Nat)<=_),λp8 hp8=>q _ _ (s07.trans (s8.trans (yag hp8 _))) (ya6 (s07.trans s8) hp8) yae⟩
open TX K2 K3
noncomputable def ybI:List Nat:=[118,111,105,99,101]
structure yqZ (cs:List (Nat×Cv)):Prop where
 l2:2<=cs.length
 l60:cs.length<=60
 g:∀ i (h:i < cs.length),GV cs[i].2/\Behind (cs.take i) cs[i]
theorem ynS {c:Nat}{u v:List Nat}{ws:List (List Nat)}:c∈ybb c (u :: v :: ws):=by rw[ybb];simp
theorem ymP (c:Nat×Cv):ydV c≠ybI:=λe=>by
 have h:32∈ydV c:=by
  unfold ydV cWs
  split<;>exact ynS
 rw[e] at h
 exact absurd h (by decide)
noncomputable def ye7:Sp:=λvs H Q _=>∃ (l:Addr) (cs:List (Nat×Cv)) (rest:List (List Nat)),vs=[.ref l]/\H l=some (.lst ((cs.map ydV++ybI :: rest).map tV))/\yqZ cs/\∀ y H',Same H H'->Is (fr H H') y (.ls (cs.map c3T))->Q y H'
theorem ytg (T:Txt K mg t)(G_zam:FnOk P w K mg base CX0 7 t.f_zam t.d_zam ["row","ahead"] yfI):FnOk P w K mg base CX0 8 t.f_zT t.d_zT ["rows"] ye7:=by
 refine T.zT.F.ok sc_zT (λvs H Q E h=>?_) (λ_ _ _ s H vs Q E hr h=>?_)
 ·obtain⟨_,_,_,rfl,_⟩:=h;rfl
 have hu:=ybs hr
 obtain⟨l,cs,rest,rfl,el,rw_,q⟩:=h
 refine⟨_,(yac (yap (i:=1) sc_zT.nd rfl (Or.inl rfl) (yaV yab)) (yac (yco PassesOwn.never rfl (yjA rfl T.Jw (pv 0) yad) (ydy (n:=2) rfl (yaZ (yax (i:=2) sc_zT.nd rfl (Or.inl rfl)) (yaZ (yax (i:=3) sc_zT.nd rfl (Or.inl rfl)) ycD))) (yac (yaK (PW.pt (yd5 (yan yci (pv 3) yat (yao _)) (yda (yan yuh (yak yas rfl T.Jc PySem.boot_len (yaa (pv 1) yab)) (yak yas rfl T.Jc PySem.boot_len (yaa (ygl rfl T.Jy) yab)) (yao _))))) (yaf (yaj (pv 1))) yav) (yac (yap (i:=4) sc_zT.nd rfl (Or.inl rfl) (pcl G_zam hr T.Rq (yaa (pv 3) (yaa (pv 1) yab)))) (yac (yaK (yan ydx (pv 4) yaW (yao _)) (yaf ycT) yav) (yaf (yaG (ybe F.plainAttrs_list F.slot_list_append F.type_list_append yaP (pv 1) (yaa (pv 4) yab)))))))) (yaf ycT))),?_⟩
 walk_at ""
 refine⟨Nat.zero_le _,λD hD=>?_⟩
 walk_at ""
 refine yrG ?_
 walk_at ""
 have s0:=yag hD (.lst [])
 have l2:=rw_.l2
 have l60:=rw_.l60
 refine⟨l,rfl,i_c ⟨1,rfl,by decide,⟨_,SqL.of (s0 _ _ el)⟩,yhO (xs:=(cs.map ydV++ybI :: rest).map tV) (λi σ H'=>i<=cs.length/\(∃ o1 o2 o3,σ=[some (.ref l),some (.ref D),o1,o2,o3])/\Acc (λH x c=>Is H x (c3T c)) eH H H' D (cs.take i)) ⟨Nat.zero_le _,⟨_,_,_,rfl⟩,Acc.nil hD⟩ (λi σ H' _ p=>SqL.of (p.2.2.1 _ _ el)) ?_ ?_⟩⟩
 ·rintro i x σ H' p N hN hx ⟨hi,⟨o1,o2,o3,rfl⟩,acc⟩ hp
  have acc:=Acc.same (R:=λH x c=>Is H x (c3T c)) ycM acc (yag hp (.tup [.int ((i+1:Nat):Int),x]))
  have ep:upd H' p (.tup [.int ((i+1:Nat):Int),x]) p=some (.tup [.int ((i+1:Nat):Int),x]):=yae
  generalize upd H' p (.tup [.int ((i+1:Nat):Int),x])=G at acc ep ⊢
  obtain⟨sm,kv,hd,ak⟩:=acc
  have lk:=ak.1
  rw[List.length_take] at lk
  refine ykw (SqT.of ep) ?_
  walk_at ""
  rcases Nat.lt_or_eq_of_le hi with hi | rfl
  ·have ex:x=tV (ydV cs[i]):=by
    rw[List.getElem?_map,List.getElem?_append_left (by rw[List.length_map];exact hi),List.getElem?_map,List.getElem?_eq_getElem hi] at hx
    exact(Option.some.inj hx).symm
   subst ex
   rw[show V.str "voice"=tV ybI from lit (by decide +kernel)]
   refine ykr (ya0 ?_)
   rw[decide_eq_false (ymP _)]
   refine i_F ?_
   walk_at ""
   obtain⟨g1,g2⟩:=rw_.g i hi
   refine⟨D,kv,cs.take i,cs[i],rfl,hd,(yc1 ak).same (ycz yt5 sm),g1,g2,λy G2 s2 iy=>?_⟩
   walk_at ""
   have ny:y≠.non:=by obtain⟨_,_,rfl,_⟩:=iy.c3;simp
   refine⟨rfl,ya0 ?_⟩
   rw[decide_eq_false ny]
   refine i_F ?_
   walk_at ""
   have hd2:=s2 _ _ hd
   refine⟨.inl ⟨rfl,_,SqL.of hd2⟩,?_⟩
   walk_at ""
   refine ych hd2 (yaz (by omega)) (hN _ _ ⟨hi,⟨_,_,_,rfl⟩,?_⟩)
   rw[List.take_succ_eq_append_getElem hi]
   exact Acc.put (R:=λH x c=>Is H x (c3T c)) ycM hD (sm.trans s2) (ak.imp λ_ _ _ z=>z.same (ybc s2)) (iy.same (yqf sm hd))
  ·have ex:x=tV ybI:=by
    rw[List.getElem?_map,List.getElem?_append_right (by rw[List.length_map];exact Nat.le_refl _),List.length_map,Nat.sub_self] at hx
    exact(Option.some.inj hx).symm
   subst ex
   rw[show V.str "voice"=tV ybI from lit (by decide +kernel)]
   refine ykr (ya0 ?_)
   rw[decide_eq_true rfl]
   refine i_T ?_
   walk_at ""
   refine⟨D,_,rfl,.inl (SqL.of hd),?_⟩
   walk_at ""
   refine⟨_,_,rfl,.inr (T.Jt.sq G),?_⟩
   walk_at ""
   rw[decide_eq_true (by show(2:Int)<=_;omega)]
   refine i_T ?_
   walk_at ""
   rw[List.take_length] at ak
   exact q _ _ sm (ybU (by rw[ybB hD];exact hd) ((yc1 ak).same yc4))
 ·rintro σ H' ⟨h,_⟩
  rw[List.length_map,List.length_append,List.length_map,List.length_cons] at h
  omega
open TX K2 K3
noncomputable def aW (k g:Int):List Nat:=if yc6 g=1/\k=1 then nW (ybm g) else nW (ybm g*k)++47 :: nW (yc6 g*k)
theorem yog {g:Int}(h0:0<=g):yif g=aW 1 g:=by
 have o:=yeM h0
 have e:∀ i:Int,0<=i->nW i=yeb i.toNat:=λi hi=>by unfold nW;rw[if_neg (by omega)]
 unfold yif aW
 rw[Int.mul_one,Int.mul_one,e _ o.t0,e _ (by have:=o.b1;omega)]
 by_cases q:yc6 g=1
 ·rw[if_pos q,if_pos ⟨q,rfl⟩]
 ·rw[if_neg q,if_neg (λz=>q z.1)]
theorem ylh {k g:Int}(h1:1<=k)(h7:k<=7)(g1:1<=g)(g2:g<=1000):(1<=ybm g/\ybm g<=1000)/\(1<=ybm g*k/\ybm g*k<=7000)/\(1<=yc6 g*k/\yc6 g*k<=700):=by
 have o:=yeM (show 0<=g by omega)
 have t1:1<=ybm g:=by
  rcases Int.lt_or_le 0 (ybm g) with h | h
  ·omega
  ·have e:=o.gt
   have:=o.t0
   rw[show ybm g=0 by omega,Int.mul_zero] at e
   omega
 have t2:=o.tg
 have b1:=o.b1
 have b2:=o.b2
 have m1:ybm g*k<=1000*7:=Int.mul_le_mul (by omega) h7 (by omega) (by decide)
 have m2:1*1<=ybm g*k:=Int.mul_le_mul t1 h1 (by decide) (by omega)
 have m3:yc6 g*k<=96*7:=Int.mul_le_mul b2 h7 (by omega) (by decide)
 have m4:1*1<=yc6 g*k:=Int.mul_le_mul b1 h1 (by decide) (by omega)
 omega
theorem ykQ {i:Int}{c:Nat}(h:c < 45∨c=47∨57 < c):c∉nW i:=λz=>by have:=ylt z;omega
theorem ymk {k g:Int}(h1:1<=k)(h7:k<=7)(g1:1<=g)(g2:g<=1000):yck (aW k g)=some g:=by
 obtain⟨n1,n2,n3⟩:=ylh h1 h7 g1 g2
 have c:=ykf (show 0<=g by omega)
 unfold aW yck
 by_cases q:yc6 g=1/\k=1
 ·rw[if_pos q,ydJ _ (ykQ (by omega))]
  show(ycr (nW (ybm g))).bind _=_
  rw[yiO ⟨by omega,by omega⟩]
  show yb1 (ybm g) 1=some g
  rw[q.1] at c
  unfold yb1
  rw[if_neg (by omega),if_pos (by omega)]
  congr 1
  omega
 ·rw[if_neg q,yeX _ _ (ykQ (by omega)),ydJ _ (ykQ (by omega))]
  show(ycr (nW (ybm g*k))).bind (λt=>(ycr (nW (yc6 g*k))).bind λu=>yb1 t u)=_
  rw[yiO ⟨by omega,by omega⟩,yiO ⟨by omega,by omega⟩]
  show yb1 (ybm g*k) (yc6 g*k)=some g
  have e:96*(ybm g*k)=g*(yc6 g*k):=by rw[← Int.mul_assoc,← Int.mul_assoc,← c,Int.mul_comm 96]
  unfold yb1
  rw[e,Int.mul_emod_left,Int.mul_ediv_cancel _ (by omega),if_neg (by omega),if_pos (by omega)]
theorem yoJ {k g:Int}{x:Nat}(h:x∈aW k g):x=45∨(47<=x/\x<=57):=by
 unfold aW at h
 split at h
 ·have:=ylt h;omega
 ·rcases List.mem_append.mp h with h | h
  ·have:=ylt h;omega
  ·rcases List.mem_cons.mp h with h | h
   ·omega
   ·have:=ylt h;omega
theorem yiK {k g:Int}(h1:1<=k)(h7:k<=7)(g1:1<=g)(g2:g<=1000):aW k g≠[]/\32∉aW k g/\(aW k g).length<=20:=by
 obtain⟨n1,n2,n3⟩:=ylh h1 h7 g1 g2
 refine⟨?_,λz=>by have:=yoJ z;omega,?_⟩<;>unfold aW
 ·split
  ·exact yqj _
  ·simp
 ·have a1:=ybH (i:=ybm g) ⟨by omega,by omega⟩
  have a2:=ybH (i:=ybm g*k) ⟨by omega,by omega⟩
  have a3:=ybH (i:=yc6 g*k) ⟨by omega,by omega⟩
  split
  ·omega
  ·rw[List.length_append,List.length_cons];omega
noncomputable def pW (p:Pit):List Nat:=(yf1 p.st p.ln p.oc).cps.toList
theorem ytC:∀ s∈List.range 7,∀ l∈List.range 5,∀ o∈List.range 9,yir (yf1 (s:Int) ((l:Int) - 2) (o:Int))=some ((s:Int),(l:Int) - 2,(o:Int))/\(yf1 (s:Int) ((l:Int) - 2) (o:Int)).cps.toList.all (λc=>decide (c=43∨c=45∨48<=c))=true/\2<=(yf1 (s:Int) ((l:Int) - 2) (o:Int)).cps.toList.length/\(yf1 (s:Int) ((l:Int) - 2) (o:Int)).cps.toList.length<=4:=by decide +kernel
theorem yeF (z:Str):ofL z.cps.toList=z:=by apply ycU;rw[yaN]
theorem yiw {p:Pit}(g:ynj p):yir (ofL (pW p))=some (p.st,p.ln,p.oc)/\(∀ c∈pW p,c=43∨c=45∨48<=c)/\2<=(pW p).length/\(pW p).length<=4:=by
 obtain⟨s,l,o⟩:=p
 have h:=ytC s.toNat (by have:=g.s0;have:=g.s6;simp only at *;exact List.mem_range.mpr (by omega)) (l+2).toNat (by have:=g.l0;have:=g.l2;simp only at *;exact List.mem_range.mpr (by omega)) o.toNat (by have:=g.o0;have:=g.o8;simp only at *;exact List.mem_range.mpr (by omega))
 have e1:((s.toNat:Nat):Int)=s:=by have:=g.s0;simp only at *;omega
 have e2:(((l+2).toNat:Nat):Int) - 2=l:=by have:=g.l0;simp only at *;omega
 have e3:((o.toNat:Nat):Int)=o:=by have:=g.o0;simp only at *;omega
 rw[e1,e2,e3] at h
 unfold pW
 rw[yeF]
 exact⟨h.1,λc hc=>of_decide_eq_true (List.all_eq_true.mp h.2.1 c hc),h.2.2⟩
theorem yiE {c x:Nat}:∀ {ws:List (List Nat)},x∈ybb c ws->x=c∨∃ w∈ws,x∈w
 | [],h=>nomatch h
 | [w],h=>.inr ⟨w,by simp,h⟩
 | w :: v :: ws,h=>by
  rw[ybb] at h
  rcases List.mem_append.mp h with h | h
  ·exact .inr ⟨w,by simp,h⟩
  rcases List.mem_cons.mp h with h | h
  ·exact .inl h
  rcases yiE h with h | ⟨u,hu,h⟩
  ·exact .inl h
  ·exact .inr ⟨u,by simp[List.mem_cons.mp hu],h⟩
theorem yez {c m:Nat}:∀ {ws:List (List Nat)},(∀ w∈ws,w.length<=m)->(ybb c ws).length<=(m+1)*ws.length
 | [],_=>Nat.zero_le _
 | [w],h=>by have:=h w (by simp);show w.length<=(m+1)*1;omega
 | w :: v :: ws,h=>by
  have:=h w (by simp)
  have ih:=yez (c:=c) (ws:=v :: ws) λu hu=>h u (by simp[List.mem_cons.mp hu])
  rw[ybb,List.length_append,List.length_cons,List.length_cons (a:=w),Nat.mul_succ]
  omega
theorem ypr {c:Nat}{w:List Nat}{ws:List (List Nat)}:w.length<=(ybb c (w :: ws)).length:=by
 cases ws with
 | nil=>exact Nat.le_refl _
 | cons v ws=>rw[ybb,List.length_append];omega
noncomputable def psW (ps:List Pit):List Nat:=ybb 44 (ps.map pW)
theorem ygQ {ps:List Pit}(g:yi4 ps):(∀ c∈psW ps,c=43∨c=44∨c=45∨48<=c)/\2<=(psW ps).length/\(psW ps).length<=20:=by
 obtain⟨n1,n4,gp,_⟩:=g
 refine⟨λc hc=>?_,?_,?_⟩
 ·rcases yiE hc with h | ⟨w,hw,h⟩
  ·omega
  ·obtain⟨p,hp,rfl⟩:=List.mem_map.mp hw
   have:=(yiw (gp p hp)).2.1 c h
   omega
 ·cases ps with
  | nil=>simp at n1
  | cons p ps =>
   have:=(yiw (gp p (by simp))).2.2.1
   exact Nat.le_trans this ypr
 ·have:=yez (c:=44) (m:=4) (ws:=ps.map pW) λw hw=>by obtain⟨p,hp,rfl⟩:=List.mem_map.mp hw;exact(yiw (gp p hp)).2.2.2
  rw[List.length_map] at this
  unfold psW
  omega
noncomputable def sWs (k:Int):Sn->List (List Nat)
 | .rest n=>[[114],aW k n]
 | .tones ps n wd op cl=>psW ps :: aW k n :: tlW op cl wd.cps.toList
noncomputable def ylS (k:Int)(s:Sn):List Nat:=ybb 32 (sWs k s)
theorem ylr {z:Str}(g:yeu z){c:Nat}(h:c∈z.cps.toList):c≠32/\c≠10:=by
 have:=g.2 c h
 refine⟨λe=>?_,λe=>?_⟩<;>(rw[e] at this;exact absurd this (by decide +kernel))
theorem yqK {op cl:Bool}{z:Str}(g:yeu z):(tlW op cl z.cps.toList).length<=3/\∀ w∈tlW op cl z.cps.toList,w≠[]/\32∉w/\10∉w/\w.length<=20:=by
 refine⟨?_,λw hw=>?_⟩
 ·unfold tlW tcW
  cases op<;>cases cl<;>by_cases e:z.cps.toList=[]<;>simp[e]
 ·have key:w=[40]∨w=[41]∨(w=z.cps.toList/\w≠[]):=by
   unfold tlW tcW at hw
   rcases List.mem_append.mp hw with h | h
   ·cases op
    ·exact nomatch h
    ·exact .inl (List.mem_singleton.mp h)
   rcases List.mem_append.mp h with h | h
   ·cases cl
    ·exact nomatch h
    ·exact .inr (.inl (List.mem_singleton.mp h))
   ·by_cases e:z.cps.toList=[]
    ·rw[if_pos e] at h;exact nomatch h
    ·rw[if_neg e] at h;have:=List.mem_singleton.mp h;subst this;exact .inr (.inr ⟨rfl,e⟩)
  rcases key with rfl | rfl | ⟨rfl,ne⟩
  ·decide
  ·decide
  ·have:=g.1
   exact⟨ne,λz=>(ylr g z).1 rfl,λz=>(ylr g z).2 rfl,by rw[Array.length_toList];omega⟩
noncomputable def GoodR (s:Sn):Prop:=yfm s/\snL s<=1000
theorem GoodR.g2 {s:Sn}(g:GoodR s):2<=snL s:=by
 obtain⟨g,_⟩:=g
 cases s with
 | rest n=>exact g.1
 | tones=>exact g.2.1
theorem ylJ {k:Int}{s:Sn}(h1:1<=k)(h7:k<=7)(g:GoodR s):yl7 (sWs k s)/\∀ w∈sWs k s,10∉w/\w.length<=20:=by
 have g2:=g.g2
 obtain⟨g,gl⟩:=g
 cases s with
 | rest n =>
  have a:=yiK h1 h7 (show 1<=n by have:2<=n:=g2;omega) gl
  refine⟨⟨by simp[sWs],by simp[sWs],λw hw=>?_⟩,λw hw=>?_⟩<;>rcases List.mem_cons.mp hw with rfl | hw
  ·decide
  ·rw[List.mem_singleton.mp hw];exact⟨a.1,a.2.1,by omega⟩
  ·decide
  ·rw[List.mem_singleton.mp hw];exact⟨λz=>by have:=yoJ z;omega,a.2.2⟩
 | tones ps n wd op cl =>
  have a:=yiK h1 h7 (show 1<=n by have:2<=n:=g2;omega) gl
  have b:=ygQ g.1
  have c:=yqK (op:=op) (cl:=cl) g.2.2.2
  refine⟨⟨by simp[sWs],by have:=c.1;simp only[sWs,List.length_cons];omega,λw hw=>?_⟩,λw hw=>?_⟩<;>rcases List.mem_cons.mp hw with rfl | hw
  ·exact⟨λz=>by rw[z] at b;have:=b.2.1;simp at this,λz=>by have:=b.1 _ z;omega,by omega⟩
  ·rcases List.mem_cons.mp hw with rfl | hw
   ·exact⟨a.1,a.2.1,by omega⟩
   ·have:=c.2 w hw
    exact⟨this.1,this.2.1,by omega⟩
  ·exact⟨λz=>by have:=b.1 _ z;omega,b.2.2⟩
  ·rcases List.mem_cons.mp hw with rfl | hw
   ·exact⟨λz=>by have:=yoJ z;omega,a.2.2⟩
   ·have:=c.2 w hw
    exact⟨this.2.2.1,this.2.2.2⟩
open TX K2 K3
noncomputable def frD:Fr:=(⟨0,0,[]⟩,0)
noncomputable def stC (j:Bool)(fw:List Fr)(n:Nat):List (Nat×Cv):=if n=0∨yb2 j (fw.getD n frD)≠yb2 j (fw.getD (n - 1) frD) then [(n+1,yb2 j (fw.getD n frD))] else []
noncomputable def yce (fw:List Fr):Nat->List (Nat×Cv)
 | 0=>[]
 | n+1=>yce fw n++(stC true fw n++stC false fw n)
noncomputable def isJ:Bool->Cv->Bool
 | true,.m _=>true
 | false,.k _=>true
 | _,_=>false
theorem yov (j:Bool)(f:Fr):isJ j (yb2 j f)=true/\isJ (!j) (yb2 j f)=false:=by cases j<;>exact⟨rfl,rfl⟩
theorem yo1 (c:Cv):isJ false c=!isJ true c:=by cases c<;>rfl
theorem yia {j:Bool}{fw:List Fr}{n:Nat}{c:Nat×Cv}(h:c∈stC j fw n):c=(n+1,yb2 j (fw.getD n frD)):=by
 unfold stC at h
 split at h
 ·exact List.mem_singleton.mp h
 ·exact nomatch h
theorem yg6 (j:Bool)(fw:List Fr)(n:Nat):(stC j fw n).filter (λc=>isJ j c.2)=stC j fw n:=List.filter_eq_self.mpr λc hc=>by rw[yia hc];exact(yov j _).1
theorem yfw (j:Bool)(fw:List Fr)(n:Nat):(stC j fw n).filter (λc=>isJ (!j) c.2)=[]:=List.filter_eq_nil_iff.mpr λc hc=>by rw[yia hc];show ¬ isJ (!j) (yb2 j _)=true;rw[(yov j _).2];simp
theorem yi0 {fw:List Fr}(j:Bool):∀ n,n<=fw.length->(yce fw n).filter (λc=>isJ j c.2)=chg (fw.map (yb2 j)) n
 | 0,_=>rfl
 | n+1,h=>by
  have gd:∀ i,i < fw.length->(fw.map (yb2 j)).getD i (.k 0)=yb2 j (fw.getD i frD):=λi h=>by rw[ybw (by rw[List.length_map];exact h),List.getElem_map,ybw h]
  have e:(stC true fw n++stC false fw n).filter (λc=>isJ j c.2)=stC j fw n:=by
   rw[List.filter_append]
   cases j with
   | true=>rw[yg6 true,show(stC false fw n).filter (λc=>isJ true c.2)=[] from yfw false fw n,List.append_nil]
   | false=>rw[yg6 false,show(stC true fw n).filter (λc=>isJ false c.2)=[] from yfw true fw n,List.nil_append]
  rw[yce,List.filter_append,yi0 j n (by omega),e,chg,gd n (by omega)]
  unfold stC
  rcases Nat.eq_zero_or_pos n with z | z
  ·subst z
   rw[if_pos (.inl rfl),if_neg (by simp[chg])]
  ·have l:=(yi9 (vs:=fw.map (yb2 j)) n (by rw[List.length_map];omega)).last z
   rw[gd _ (by omega)] at l
   rw[l]
   by_cases q:yb2 j (fw.getD n frD)=yb2 j (fw.getD (n - 1) frD)
   ·rw[if_neg (by rintro(h | h);omega;exact h q),if_pos (by rw[q]),List.append_nil]
   ·rw[if_pos (.inr q),if_neg (λz=>q (Option.some.inj z).symm)]
theorem ydM (j:Bool)(fw:List Fr):ydR j fw=(yce fw fw.length).filter (λc=>isJ j c.2):=(yi0 j _ (Nat.le_refl _)).symm
theorem yd9 (fw:List Fr):(ydR true fw++ydR false fw).Perm (yce fw fw.length):=by
 rw[ydM,ydM]
 have:=List.filter_append_perm (λc:Nat×Cv=>isJ true c.2) (yce fw fw.length)
 rwa [show(λc:Nat×Cv=>!isJ true c.2)=(λc:Nat×Cv=>isJ false c.2) from funext λc=>(yo1 c.2).symm] at this
theorem ymb {a b:Nat×Cv}(h:a.1 < b.1):HT.lexLt (yeA a) (yeA b)=true:=by
 unfold yeA
 rw[HT.lexLt_cons,if_neg (by omega)]
 exact decide_eq_true (by omega)
theorem yi8 {n:Nat}{x y:Fr}:HT.lexLt (yeA (n,yb2 true x)) (yeA (n,yb2 false y))=true:=by
 show HT.lexLt [(n:Int),0] [(n:Int),1]=true
 rw[HT.lexLt_cons,if_pos rfl]
 decide
theorem yl5 (fw:List Fr):∀ n,∀ c∈yce fw n,1<=c.1/\c.1<=n/\∃ j i,c.2=yb2 j (fw.getD i frD)/\i < n
 | 0,c,h=>nomatch h
 | n+1,c,h=>by
  rw[yce] at h
  rcases List.mem_append.mp h with h | h
  ·obtain⟨a,b,j,i,e,l⟩:=yl5 fw n c h
   exact⟨a,by omega,j,i,e,by omega⟩
  ·rcases List.mem_append.mp h with h | h
   ·rw[yia h];exact⟨by simp,Nat.le_refl _,true,n,rfl,Nat.lt_succ_self n⟩
   ·rw[yia h];exact⟨by simp,Nat.le_refl _,false,n,rfl,Nat.lt_succ_self n⟩
theorem ykF (fw:List Fr):∀ n,(yce fw n).Pairwise λa b=>HT.lexLt (yeA a) (yeA b)=true
 | 0=>List.Pairwise.nil
 | n+1=>by
  rw[yce,List.pairwise_append]
  refine⟨ykF fw n,?_,λa ha b hb=>?_⟩
  ·rw[List.pairwise_append]
   have one:∀ j,(stC j fw n).Pairwise λa b=>HT.lexLt (yeA a) (yeA b)=true:=λj=>by
    unfold stC
    split
    ·exact List.pairwise_singleton _ _
    ·exact List.Pairwise.nil
   refine⟨one true,one false,λa ha b hb=>?_⟩
   rw[yia ha,yia hb]
   exact yi8
  ·have h1:=(yl5 fw n a ha).2.1
   have h2:b.1=n+1:=by rcases List.mem_append.mp hb with h | h<;>rw[yia h]
   exact ymb (by omega)
noncomputable def Rg (cs:List (Nat×Cv)):Prop:=∀ i (h:i < cs.length),GV cs[i].2/\Behind (cs.take i) cs[i]
theorem yid {cs:List (Nat×Cv)}{c:Nat×Cv}(h:Rg cs)(g:GV c.2)(b:Behind cs c):Rg (cs++[c]):=λi hi=>by
 rw[List.length_append,List.length_singleton] at hi
 rcases Nat.lt_or_eq_of_le (Nat.le_of_lt_succ hi) with z | rfl
 ·rw[List.getElem_append_left z,List.take_append_of_le_length (Nat.le_of_lt z)]
  exact h i z
 ·rw[List.getElem_append_right (Nat.le_refl _),List.take_append_of_le_length (Nat.le_refl _),List.take_length]
  simp only[Nat.sub_self,List.getElem_singleton]
  exact⟨g,b⟩
structure FwOk (fw:List Fr):Prop where
 ne:fw≠[]
 len:fw.length<=24
 m:∀ f∈fw,f.1∈metresL
 k:∀ f∈fw,-7<=f.2/\f.2<=7
theorem FwOk.gv {fw:List Fr}(h:FwOk fw)(j:Bool){i:Nat}(hi:i < fw.length):GV (yb2 j (fw.getD i frD)):=by
 rw[ybw hi]
 have hm:=List.getElem_mem hi
 cases j with
 | true=>exact h.m _ hm
 | false=>exact h.k _ hm
theorem yky {fw:List Fr}(ok:FwOk fw):∀ n,1<=n->n<=fw.length->Rg (yce fw n)/\2<=(yce fw n).length/\(yce fw n).length<=2*n/\∃ d,(yce fw n).getLast?=some d/\d.1<=n
 | 0,h,_=>absurd h (by omega)
 | 1,_,h1=>by
  have e:yce fw 1=[]++[(1,yb2 true (fw.getD 0 frD))]++[(1,yb2 false (fw.getD 0 frD))]:=by
   rw[yce,yce]
   unfold stC
   rw[if_pos (.inl rfl),if_pos (.inl rfl)]
   rfl
  refine⟨?_,by rw[e];simp,by rw[e];simp,_,by rw[e];exact yct _ _,Nat.le_refl _⟩
  rw[e]
  refine yid (yid (λi h=>absurd h (by simp)) (ok.gv true (by omega)) ?_) (ok.gv false (by omega)) ?_
  ·unfold Behind
   rw[if_pos (by simp)]
   exact⟨rfl,rfl⟩
  ·unfold Behind
   rw[if_pos (by simp)]
   exact⟨rfl,rfl⟩
 | n+2,_,h2=>by
  obtain⟨ih,l2,l3,d,hd,dn⟩:=yky ok (n+1) (by omega) (by omega)
  have len:=ok.len
  rw[yce]
  generalize yce fw (n+1)=cs at ih l2 l3 hd
  have key:∀ (cs:List (Nat×Cv)) j d,Rg cs->2<=cs.length->cs.getLast?=some d->HT.lexLt (yeA d) (yeA (n+1+1,yb2 j (fw.getD (n+1) frD)))=true->Rg (cs++[(n+1+1,yb2 j (fw.getD (n+1) frD))]):=λcs j d r l hd lt=>by
   refine yid r (ok.gv j (by omega)) ?_
   unfold Behind
   rw[if_neg (by omega)]
   exact⟨by simp,by show n+1+1<=24;omega,d,hd,lt⟩
  have lb:∀ j,HT.lexLt (yeA d) (yeA (n+1+1,yb2 j (fw.getD (n+1) frD)))=true:=λj=>ymb (by show d.1 < n+1+1;omega)
  unfold stC
  by_cases q1:n+1=0∨yb2 true (fw.getD (n+1) frD)≠yb2 true (fw.getD (n+1 - 1) frD)
  ·rw[if_pos q1]
   have r1:=key cs true d ih l2 hd (lb true)
   by_cases q2:n+1=0∨yb2 false (fw.getD (n+1) frD)≠yb2 false (fw.getD (n+1 - 1) frD)
   ·rw[if_pos q2,← List.append_assoc]
    exact⟨key _ false _ r1 (by simp<;>omega) (yct _ _) yi8,by simp<;>omega,by simp<;>omega,_,yct _ _,Nat.le_refl _⟩
   ·rw[if_neg q2,List.append_nil]
    exact⟨r1,by simp<;>omega,by simp<;>omega,_,yct _ _,Nat.le_refl _⟩
  ·rw[if_neg q1,List.nil_append]
   by_cases q2:n+1=0∨yb2 false (fw.getD (n+1) frD)≠yb2 false (fw.getD (n+1 - 1) frD)
   ·rw[if_pos q2]
    exact⟨key cs false d ih l2 hd (lb false),by simp<;>omega,by simp<;>omega,_,yct _ _,Nat.le_refl _⟩
   ·rw[if_neg q2,List.append_nil]
    exact⟨ih,l2,by omega,d,hd,by omega⟩
theorem ydh {fw:List Fr}(ok:FwOk fw):yqZ (yce fw fw.length):=by
 have l1:1<=fw.length:=by
  have:=ok.ne
  cases fw with
  | nil=>exact(this rfl).elim
  | cons=>simp
 obtain⟨r,l2,l3,_⟩:=yky ok _ l1 (Nat.le_refl _)
 exact⟨l2,by have:=ok.len;omega,r⟩
open TX K2 K3
noncomputable def yjx:Sp:=λvs H Q _=>(vs=[tV ybI]/\∀ H',Same H H'->Q .non H')∨∃ (k:Int) (s:Sn),vs=[tV (ylS k s)]/\1<=k/\k<=7/\GoodR s/\∀ y H',Same H H'->Is (fr H H') y (snT s)->Q y H'
theorem yh7:yl7 [ybI]:=⟨by simp,by simp,λw hw=>by rw[List.mem_singleton.mp hw];decide⟩
theorem yij (p:Pit):ycj (pT p)=true/\dpT (pT p)<=1:=⟨rfl,yer (k:=0) (ya7 ybh (ya7 ybh (ya7 ybh yea)))⟩
theorem yp5 (T:Txt K mg t)(G_zay:FnOk P w K mg base CX0 1 t.f_zay t.d_zay ["row"] yeL)(G_zaf:FnOk P w K mg base CX0 4 t.f_zaf t.d_zaf ["word"] ygJ)(G_zas:FnOk P w K mg base CX0 2 t.f_zas t.d_zas ["word"] yhs)(G_zaB:FnOk P w K mg base CX0 3 t.f_zaB t.d_zaB ["pitches","length","words"] yhZ):FnOk P w K mg base CX0 5 t.f_zaJ t.d_zaJ ["row"] yjx:=by
 refine T.Rs.F.ok sc_zaJ (λvs H Q E h=>?_) (λ_ _ _ s H vs Q E hr h=>?_)
 ·rcases h with ⟨rfl,_⟩ | ⟨_,_,rfl,_⟩<;>rfl
 have hu:=ybs hr
 refine⟨_,(yac (yap (i:=1) sc_zaJ.nd rfl (Or.inl rfl) (pcl G_zay hr T.QR (yaa (pv 0) yab))) (yac (yaK (PW.pt (yb4 (yan ydx (pv 1) yaW (yao _)) (ybA (yan ye6 (yak yas rfl T.Jc PySem.boot_len (yaa (pv 1) yab)) yad (yao _))))) (yaf (yaj yaW)) yav) (yac (yap (i:=2) sc_zaJ.nd rfl (Or.inl rfl) (pcl G_zaf hr T.Rl (yaa (yaq yaD (pv 1) yad (λ_ _=>rfl)) yab))) (yac (yaK (yan ydx (pv 2) yaW (yao _)) (yaf (yaj yaW)) yav) (yac (yaK (yan yci (yaq yaD (pv 1) yad (λ_ _=>rfl)) yat (yao _)) (yaf (yaj (ybd (yan yci (yak yas rfl T.Jc PySem.boot_len (yaa (pv 1) yab)) yad (yao _)) (yaF (yaa yat (yaa (pv 2) yab))) yaW))) yav) (yac (ybQ (i:=3) sc_zaJ.nd rfl (Or.inl rfl) (yaH (NB:=["word"]) (cap:=[none]) rfl) rfl (yaY (ybe F.plainAttrs_str F.slot_str_split F.type_str_split ydQ (yaq yaD (pv 1) yad (λ_ _=>rfl)) (yaa yat yab))) (λ_ _ _ _=>(yax (i:=0) (show List.Nodup (["word"]:List Str) by decide) rfl (Or.inl rfl))) (λ_ _ _ _=>yaJ) (λ_ _ _ _=>(pcl G_zas hr T.Rm (yaa (pv 0) yab)))) (yaf (yaj (ybd (yan (yq1 hu) yaW (pv 3) rfl) yaW (pcl G_zaB hr T.Rt (yaa (pv 3) (yaa (pv 2) (yaa (ybr ycf (pv 1) (ybF yad) ybX) yab))))))))))))),?_⟩
 rcases h with ⟨rfl,q⟩ | ⟨k,s,rfl,h1,h7,g,q⟩
 ·walk_at ""
  refine⟨[ybI],rfl,yh7,λD H1 s1 hD e1=>?_⟩
  walk_at ""
  refine⟨rfl,ya0 (i_F ?_)⟩
  walk_at ""
  refine⟨D,_,rfl,.inl (SqL.of e1),?_⟩
  walk_at ""
  refine i_T ?_
  walk_at ""
  exact q _ s1
 have wd0:=(ylJ h1 h7 g).1
 walk_at ""
 refine⟨sWs k s,rfl,wd0,λD H1 s1 hD e1=>?_⟩
 walk_at ""
 refine⟨rfl,ya0 (i_F ?_)⟩
 walk_at ""
 refine⟨D,_,rfl,.inl (SqL.of e1),?_⟩
 have l2:2<=(sWs k s).length:=by cases s<;>simp[sWs]
 have a1:(sWs k s)[1]?=some (aW k (snL s)):=by cases s<;>rfl
 walk_at ""
 rw[decide_eq_false (by rw[List.length_map];omega)]
 refine i_F ?_
 walk_at ""
 refine ybf (SqL.of e1) (yai (j:=1) (by rw[List.getElem?_map,a1];rfl)) ?_
 walk_at ""
 have g2:=g.g2
 have al:=yiK h1 h7 (show 1<=snL s by omega) g.2
 refine⟨_,_,rfl,.str _,λz=>absurd rfl z,λw e=>?_⟩
 cases e
 refine⟨by rw[ycg];omega,λH2 s2=>?_⟩
 rw[yaN,ymk h1 h7 (show 1<=snL s by omega) g.2]
 walk_at ""
 refine⟨rfl,ya0 (i_F ?_)⟩
 walk_at ""
 cases s with
 | rest n =>
  refine ybf (SqL.of (s2 _ _ e1)) (yai (j:=0) rfl) ?_
  walk_at ""
  rw[show V.str "r"=tV [114] from lit (by decide +kernel)]
  refine ykr (ya0 ?_)
  rw[decide_eq_true rfl]
  refine i_T ?_
  walk_at ""
  refine⟨D,_,rfl,.inl (SqL.of (s2 _ _ e1)),i_c (ypi (ya0 (i_T ?_)))⟩
  walk_at ""
  exact⟨(by decide:(2:Nat)<=_),λp hp=>q _ _ (s1.trans (s2.trans (yag hp _))) (ycR (by rw[ybB (ya6 (s1.trans s2) hp)];exact yae) (yau (ybC rfl) (yau (yej _ _) (yaO _))))⟩
 | tones ps n wd op cl =>
  refine ybf (SqL.of (s2 _ _ e1)) (yai (j:=0) rfl) ?_
  walk_at ""
  rw[show V.str "r"=tV [114] from lit (by decide +kernel)]
  refine ykr (ya0 ?_)
  have nr:psW ps≠[114]:=λz=>by have:=(ygQ g.1.1).2.1;rw[z] at this;simp at this
  rw[decide_eq_false nr]
  refine i_F ?_
  walk_at ""
  refine ybf (SqL.of (s2 _ _ e1)) (yai (j:=0) rfl) ?_
  walk_at ""
  refine⟨rfl,?_⟩
  walk_at ""
  have pl:=ygQ g.1.1
  have gps:=g.1.1
  refine⟨_,_,rfl,rfl,by decide +kernel,by rw[ycg];exact small (by omega),λp hp=>?_⟩
  have es:(Txt.split (ofL (psW ps)) (Str.ofString ",")).map V.str=(ps.map pW).map tV:=by
   rw[show Str.ofString ","=one 44 by decide +kernel,ydP _ (by decide),yaN]
   unfold psW
   rw[ycK (ps.map pW) (by have:=gps.1;intro z;rw[List.map_eq_nil_iff] at z;rw[z] at this;simp at this) λw h=>by obtain⟨p,hp,rfl⟩:=List.mem_map.mp h;intro z;have:=(yiw (gps.2.2.1 p hp)).2.1 _ z;omega]
   rw[List.map_map]
   rfl
  rw[show Txt.split (ofL (psW ps)) ","=Txt.split (ofL (psW ps)) (Str.ofString ",") from rfl,es]
  have s3:=yag hp (.lst ((ps.map pW).map tV))
  have e3:=yae (H:=H2) (a:=p) (o:=.lst ((ps.map pW).map tV))
  generalize upd H2 p _=H3 at s3 e3 ⊢
  refine⟨p,rfl,⟨_,SqL.of e3⟩,λD4 hD4=>ynb (R:=λx u=>x=tV (pW u)) pT e3 ⟨by rw[List.length_map,List.length_map],λi hi=>⟨_,by rw[List.getElem?_map,List.getElem?_map,List.getElem?_eq_getElem hi];rfl,rfl⟩⟩ hD4 (by have:=gps.2.1;omega) (λx u H' Q' hu' sm rx q'=>?_) λH4 s4 i4=>?_⟩
  ·walk_at ""
   subst rx
   have pu:=yiw (gps.2.2.1 u hu')
   refine⟨_,_,rfl,.str _,λz=>absurd rfl z,λw e=>?_⟩
   cases e
   refine⟨by rw[ycg];omega,(λz=>by rw[pu.1] at z;exact nomatch z),λa b c e p5 H5 s5 hp5 e5=>?_⟩
   rw[pu.1] at e
   cases e
   exact q' _ _ s5 (ykO (by rw[ybB hp5];exact e5))
  have i4':=i4.same (yaM _ _)
  rw[Is] at i4'
  obtain⟨D5,ys,e,e4,is4⟩:=i4'
  cases e
  walk_at ""
  refine⟨D4,ys,.vl .non,rfl,SqL.of e4,yod rfl,by show dep (.vl .non)<=60;rw[dep];decide,λz hz=>?_,ya0 (i_F ?_)⟩
  ·obtain⟨tt,ht,iz⟩:=is4.knd z hz
   obtain⟨pp,_,rfl⟩:=List.mem_map.mp ht
   have ok:=yij pp
   exact⟨_,iz.rep ok.1,Nat.le_trans ok.2 (by decide),rfl⟩
  walk_at ""
  have s24:=s2.trans (s3.trans s4)
  refine⟨2,rfl,D,_,rfl,SqL.of (s24 _ _ e1),λp6 hp6=>?_⟩
  have cd:yes ((sWs k (.tones ps n wd op cl)).map tV) (some ((2:Nat):Int)) none=(tlW op cl wd.cps.toList).map tV:=ydt _ 2 (by simp[sWs])
  rw[show(2:Int)=((2:Nat):Int) from rfl,cd]
  have s6:=yag hp6 (.lst ((tlW op cl wd.cps.toList).map tV))
  have e6:=yae (H:=H4) (a:=p6) (o:=.lst ((tlW op cl wd.cps.toList).map tV))
  generalize upd H4 p6 _=H6 at s6 e6 ⊢
  walk_at ""
  have gw:yeu wd:=g.1.2.2.2
  refine⟨.ref D4,n,p6,op,cl,wd.cps.toList,rfl,e6,by rw[yeF];exact gw,λp7 H7 s7 hp7 e7=>?_⟩
  have s02:=s1.trans s2
  have s06:=s02.trans (s3.trans (s4.trans s6))
  have s03:=s02.trans s3
  refine q _ _ (s06.trans s7) (ycR (by rw[ybB (ya6 s06 hp7)];exact e7) (yau (ybC rfl) (yau ((i4.same (ydm s03)).same (yay (s6.trans s7))) (yau (yej _ _) (yau ?_ (yau (ybC rfl) (yau (ybC rfl) (yaO _))))))))
  unfold tV
  rw[yeF]
  exact ybC rfl
open TX K2 K3
noncomputable def ybg (k:Int)(vss:List (List Sn)):List (List Nat):=(vss.map λss=>ybI :: ss.map (ylS k)).flatten
noncomputable def bl:List (List Sn)->Nat->List (List Sn)
 | [],_=>[]
 | _ :: _,0=>[]
 | ss :: r,i+1=>if i<=ss.length then [ss.take i] else ss :: bl r (i - ss.length)
theorem yiA (vss:List (List Sn)):bl vss 0=[]:=by cases vss<;>rfl
theorem ydH (ss:List Sn)(r:List (List Sn))(i:Nat):bl (ss :: r) (i+1)=if i<=ss.length then [ss.take i] else ss :: bl r (i - ss.length):=rfl
theorem ynY {k:Int}:∀ {vss:List (List Sn)} {i:Nat} {w:List Nat},(∀ ss∈vss,ss≠[])->(ybg k vss)[i]?=some w ->
  (w=ybI/\bl vss (i+1)=bl vss i++[[]]/\(∀ ss∈bl vss i,ss≠[])/\(bl vss i).length < vss.length)∨∃ s a b,(∃ ss∈vss,s∈ss)/\w=ylS k s/\bl vss i=a++[b]/\bl vss (i+1)=a++[b++[s]]
 | [],i,w,_,h=>by simp[ybg] at h
 | ss :: r,0,w,_,h=>by
  refine .inl ⟨?_,?_,(λs hs=>nomatch hs),by simp[bl]⟩
  ·simp[ybg] at h;exact h.symm
  ·rw[ydH,if_pos (Nat.zero_le _),yiA];rfl
 | ss :: r,i+1,w,ne,h=>by
  have e:ybg k (ss :: r)=ybI :: (ss.map (ylS k)++ybg k r):=by simp[ybg]
  rw[e,List.getElem?_cons_succ] at h
  rcases Nat.lt_or_ge i ss.length with hi | hi
  ·rw[List.getElem?_append_left (by rw[List.length_map];exact hi),List.getElem?_map,List.getElem?_eq_getElem hi] at h
   refine .inr ⟨ss[i],[],ss.take i,⟨ss,by simp,List.getElem_mem hi⟩,(Option.some.inj h).symm,?_,?_⟩
   ·rw[ydH,if_pos (Nat.le_of_lt hi)];rfl
   ·rw[ydH,if_pos (show i+1<=ss.length from hi),List.take_succ_eq_append_getElem hi];rfl
  ·rw[List.getElem?_append_right (by rw[List.length_map];exact hi),List.length_map] at h
   obtain⟨j,rfl⟩:∃ j,i=ss.length+j:=⟨i - ss.length,by omega⟩
   rw[Nat.add_sub_cancel_left] at h
   have ih:=ynY (vss:=r) (i:=j) (λs hs=>ne s (by simp[hs])) h
   have e2:bl (ss :: r) (ss.length+j+1+1)=ss :: bl r (j+1):=by rw[ydH,if_neg (by omega),show ss.length+j+1 - ss.length=j+1 by omega]
   have e1:bl (ss :: r) (ss.length+j+1)=ss :: bl r j:=by
    rw[ydH]
    rcases Nat.eq_zero_or_pos j with z | z
    ·subst z
     rw[Nat.add_zero,if_pos (Nat.le_refl _),List.take_of_length_le (Nat.le_refl _),yiA]
    ·rw[if_neg (by omega),Nat.add_sub_cancel_left]
   rw[e1,e2]
   rcases ih with ⟨h1,h2,h3,h4⟩ | ⟨s,a,b,⟨z,hz,hs⟩,h1,h2,h3⟩
   ·refine .inl ⟨h1,by rw[h2];rfl,λs hs=>?_,by simp;omega⟩
    rcases List.mem_cons.mp hs with rfl | hs
    ·exact ne _ (by simp)
    ·exact h3 s hs
   ·exact .inr ⟨s,ss :: a,b,⟨z,by simp[hz],hs⟩,h1,by rw[h2];rfl,by rw[h3];rfl⟩
theorem yok {k:Int}:∀ (vss:List (List Sn)),bl vss (ybg k vss).length=vss
 | []=>rfl
 | ss :: r=>by
  have e:(ybg k (ss :: r)).length=ss.length+(ybg k r).length+1:=by simp[ybg]
  rw[e,ydH]
  have ih:=yok (k:=k) r
  cases r with
  | nil=>rw[if_pos (by simp[ybg]),List.take_of_length_le (by simp)]
  | cons z r =>
   rw[if_neg (by simp[ybg]),Nat.add_sub_cancel_left,ih]
noncomputable def pt (H H':Hp)(D c:Addr):Hp:=rm (rm (fr H H') D) c
section
variable {H G G':Hp} {D c:Addr}
theorem ygz {b:Addr}{u:HO}(e:pt H G D c b=some u):b≠c/\b≠D/\H b=none/\G b=some u:=by
 unfold pt at e
 obtain⟨n1,e⟩:=ydg e
 obtain⟨n2,e⟩:=ydg e
 obtain⟨n3,e⟩:=ya9 e
 exact⟨n1,n2,n3,e⟩
theorem ymj {b:Addr}(n1:b≠c)(n2:b≠D)(n3:H b=none):pt H G D c b=G b:=by
 unfold pt
 rw[yeY n1,yeY n2,ybB n3]
theorem yiB (s:Same G G'):Same (pt H G D c) (pt H G' D c):=λb u e=>by
 obtain⟨n1,n2,n3,e⟩:=ygz e
 rw[ymj n1 n2 n3]
 exact s _ _ e
theorem yjb {b:Addr}{o:HO}(h:b=c∨b=D):Same (pt H G D c) (pt H (upd G b o) D c):=λx u e=>by
 obtain⟨n1,n2,n3,e⟩:=ygz e
 rw[ymj n1 n2 n3,yaB (by rcases h with rfl | rfl<;>assumption)]
 exact e
theorem yrH {u v:HO}(sm:Same H G)(h1:G D=some u)(h2:G c=some v):Same (fr G G') (pt H G' D c):=λx w e=>by
 obtain⟨n,e⟩:=ya9 e
 rw[ymj (λz=>by rw[z,h2] at n;cases n) (λz=>by rw[z,h1] at n;cases n) (ya6 sm n)]
 exact e
theorem ypZ:Same (pt H G D c) (fr H G):=λx u e=>by
 obtain⟨n1,n2,n3,e⟩:=ygz e
 rw[ybB n3]
 exact e
theorem yph {d:Addr}(hd:G d=none):Same (pt H G D c) (pt H G D d):=λx u e=>by
 obtain⟨n1,n2,n3,e⟩:=ygz e
 rw[ymj (λz=>by rw[z,hd] at e;cases e) n2 n3]
 exact e
end
noncomputable def yfx:Sp:=λvs H Q _=>∃ (x:V) (vss:List (List Sn)),vs=[x]/\Is H x (vsT vss)/\vss.length < 2/\(∀ ss∈vss,ss≠[]/\ss.length<=96)/\∀ H',Same H H'->Q (.bl true) H'
theorem ylv (s:Sn):ycj (snT s)=true/\dpT (snT s)<=3:=by
 cases s with
 | rest n=>exact⟨rfl,yer (k:=2) (ya7 ybh (ya7 ybh yea))⟩
 | tones ps n wd op cl =>
  have h:ycj (.ls (ps.map pT))=true/\dpT (.ls (ps.map pT))<=2:=⟨ycb λu hu=>by obtain⟨x,_,rfl⟩:=List.mem_map.mp hu;exact(yij x).1,yhK (yc2 λu hu=>by obtain⟨x,_,rfl⟩:=List.mem_map.mp hu;exact(yij x).2)⟩
  refine⟨?_,yer (k:=2) (ya7 ybh (ya7 h.2 (ya7 ybh (ya7 ybh (ya7 ybh (ya7 ybh yea))))))⟩
  show(true&&(ycj (.ls (ps.map pT))&&(true&&(true&&(true&&(true&&true))))))=true
  rw[h.1]
  rfl
theorem yk8 (ss:List Sn):OkE (vT ss):=⟨ycb λu hu=>by obtain⟨x,_,rfl⟩:=List.mem_map.mp hu;exact(ylv x).1,Nat.le_trans (yhK (k:=3) (yc2 λu hu=>by obtain⟨x,_,rfl⟩:=List.mem_map.mp hu;exact(ylv x).2)) (by decide)⟩
theorem ysv (T:Txt K mg t):FnOk P w K mg base CX0 1 t.f_za t.d_za ["voices"] yfx:=by
 refine T.za.F.ok ysL (λvs H Q E h=>?_) (λ_ _ _ s H vs Q E hr h=>?_)
 ·obtain⟨_,_,rfl,_⟩:=h;rfl
 have hu:=ybs hr
 obtain⟨x,vss,rfl,ix,lv,ne,q⟩:=h
 rw[vsT,Is] at ix
 obtain⟨a,xs,rfl,ea,is⟩:=ix
 have lx:=is.len
 rw[List.length_map] at lx
 refine⟨_,(yaf (yaj (ybq (ya4 ye6 (yak yas rfl T.Jc PySem.boot_len (yaa (pv 0) yab)) (ybW rfl T.JA) (yao _)) (ybo (ya4 (yk9 hu) (yaV yab) (pv 0) rfl))))),?_⟩
 walk_at ""
 refine⟨a,xs,rfl,.inl (SqL.of ea),?_⟩
 walk_at ""
 rw[decide_eq_true (by omega)]
 refine i_T ?_
 walk_at ""
 refine⟨Nat.zero_le _,λp hp=>?_⟩
 have s1:=yag hp (.lst [])
 walk_at ""
 have rp:Rep K (upd H p (.lst [])) (.ref p) (yb8 (vT [])):=(show Is (upd H p (.lst [])) (.ref p) (vT []) from ybU yae (yaO _)).rep (yk8 []).1
 refine⟨a,xs,_,rfl,SqL.of (s1 _ _ ea),rp,(yk8 []).2,λz hz=>?_,q _ s1⟩
 obtain⟨tt,ht,iz⟩:=is.knd z hz
 obtain⟨ss,hs,rfl⟩:=List.mem_map.mp ht
 refine⟨_,(iz.same s1).rep (yk8 ss).1,(yk8 ss).2,?_⟩
 have:=(ne ss hs).1
 cases ss with
 | nil=>exact(this rfl).elim
 | cons s ss=>rfl
structure GoodVR (vss:List (List Sn)):Prop where
 n1:1<=vss.length
 n2:vss.length<=2
 v:∀ ss∈vss,ss≠[]/\ss.length<=96/\∀ s∈ss,GoodR s
theorem GoodVR.bl_len {vss:List (List Sn)}(g:GoodVR vss):∀ i,∀ ss∈bl vss i,ss.length<=96:=by
 have key:∀ (vss:List (List Sn)),(∀ ss∈vss,ss.length<=96)->∀ i,∀ ss∈bl vss i,ss.length<=96:=λvss=>by
  induction vss with
  | nil=>exact λ_ i ss h=>nomatch h
  | cons s r ih =>
   intro h i ss hs
   cases i with
   | zero=>exact nomatch hs
   | succ i =>
    rw[ydH] at hs
    have h0:=h s (by simp)
    split at hs
    ·rw[List.mem_singleton.mp hs,List.length_take];omega
    ·rcases List.mem_cons.mp hs with rfl | hs
     ·exact h0
     ·exact ih (λz hz=>h z (by simp[hz])) _ ss hs
 exact key vss λss hs=>(g.v ss hs).2.1
theorem yd2 {k:Int}{vss:List (List Sn)}(g:GoodVR vss):(ybg k vss).length<=194/\1<=(ybg k vss).length:=by
 obtain⟨n1,n2,v⟩:=g
 match vss,n1,n2,v with
 | [a],_,_,v=>have:=v a (by simp);simp[ybg];omega
 | [a,b],_,_,v=>have:=v a (by simp);have:=v b (by simp);simp[ybg];omega
noncomputable def VI (H:Hp)(D p1:Addr)(rs:List V)(bs:List (List Sn))(H':Hp):Prop:=Same H H'/\H' p1=some (.lst rs)/\((bs=[]/\H' D=some (.lst []))∨∃ a b ya c zs,bs=a++[b]/\H' D=some (.lst (ya++[.ref c]))/\H' c=some (.lst zs)/\H c=none/\c≠D/\c≠p1/\Iss (pt H H' D c) ya (a.map vT)/\Iss (pt H H' D c) zs (b.map snT))
theorem VI.same {H H' H2:Hp}{D p1:Addr}{rs:List V}{bs:List (List Sn)}(h:VI H D p1 rs bs H')(s:Same H' H2):VI H D p1 rs bs H2:=by
 obtain⟨s0,e,h⟩:=h
 refine⟨s0.trans s,s _ _ e,?_⟩
 rcases h with ⟨h1,h2⟩ | ⟨a,b,ya,c,zs,h1,h2,h3,h4,h5,h6,h7,h8⟩
 ·exact .inl ⟨h1,s _ _ h2⟩
 ·exact .inr ⟨a,b,ya,c,zs,h1,s _ _ h2,s _ _ h3,h4,h5,h6,h7.same (yiB s),h8.same (yiB s)⟩
theorem ye4 {H:Hp}{xs ys:List V}{ts us:List Th}(h:Iss H xs ts)(g:Iss H ys us):Iss H (xs++ys) (ts++us):=by
 induction ts generalizing xs with
 | nil=>rw[Iss] at h;subst h;exact g
 | cons t ts ih =>
  rw[Iss] at h
  obtain⟨x,r,rfl,i,z⟩:=h
  exact yau i (ih z)
theorem VI.tree {H H':Hp}{D p1:Addr}{rs:List V}{bs:List (List Sn)}(h:VI H D p1 rs bs H')(hD:H D=none):Is (fr H H') (.ref D) (vsT bs):=by
 obtain⟨s0,e,h⟩:=h
 rcases h with ⟨rfl,h2⟩ | ⟨a,b,ya,c,zs,rfl,h2,h3,h4,h5,h6,h7,h8⟩
 ·exact ybU (by rw[ybB hD];exact h2) (yaO _)
 ·refine ybU (by rw[ybB hD];exact h2) ?_
  rw[List.map_append]
  exact ye4 (h7.same ypZ) (yau (ybU (by rw[ybB h4];exact h3) (h8.same ypZ)) (yaO _))
theorem VI.begin {H H':Hp}{D p1 q:Addr}{rs:List V}{bs:List (List Sn)}(h:VI H D p1 rs bs H')(hD:H D=none)(pd:p1≠D)(hq:H' q=none):∃ ks,H' D=some (.lst ks)/\ks.length=bs.length/\VI H D p1 rs (bs++[[]]) (upd (upd H' q (.lst [])) D (.lst (ks++[.ref q]))):=by
 obtain⟨s0,e,h⟩:=h
 have s1:=yag hq (.lst [])
 have qH:=ya6 s0 hq
 have qp:q≠p1:=λz=>by rw[z,e] at hq;cases hq
 have ss:Same H (upd (upd H' q (.lst [])) D (.lst ([]:List V))):=yaS hD (s0.trans s1)
 rcases h with ⟨rfl,h2⟩ | ⟨a,b,ya,c,zs,rfl,h2,h3,h4,h5,h6,h7,h8⟩
 ·have qD:q≠D:=λz=>by rw[z,h2] at hq;cases hq
  refine⟨[],h2,rfl,yaS hD (s0.trans s1),by rw[yaB pd];exact s1 _ _ e,.inr ⟨[],[],[],q,[],rfl,yae,by rw[yaB qD];exact yae,qH,qD,qp,yaO _,yaO _⟩⟩
 ·have qD:q≠D:=λz=>by rw[z,h2] at hq;cases hq
  have qc:c≠q:=λz=>by rw[← z,h3] at hq;cases hq
  have up:Same (pt H H' D c) (pt H (upd (upd H' q (.lst [])) D (.lst ((ya++[.ref c])++[.ref q]))) D q):=(yph hq).trans ((yjb (.inl rfl)).trans (yjb (.inr rfl)))
  refine⟨_,h2,by have:=h7.len;simp at this ⊢;exact this,yaS hD (s0.trans s1),by rw[yaB pd];exact s1 _ _ e,.inr ⟨a++[b],[],ya++[.ref c],q,[],rfl,yae,by rw[yaB qD];exact yae,qH,qD,qp,?_,yaO _⟩⟩
  rw[List.map_append]
  exact ye4 (h7.same up) (yau (ybU (by rw[ymj qc h5 h4,yaB h5];exact s1 _ _ h3) (h8.same up)) (yaO _))
theorem VI.at' {H H':Hp}{D p1:Addr}{rs:List V}{bs:List (List Sn)}(h:VI H D p1 rs bs H'):∃ ks,H' D=some (.lst ks):=by
 rcases h.2.2 with ⟨_,h2⟩ | ⟨_,_,_,_,_,_,h2,_⟩<;>exact⟨_,h2⟩
theorem VI.add {H G G2:Hp}{D p1:Addr}{rs:List V}{a:List (List Sn)}{b:List Sn}{s:Sn}{y:V}(h:VI H D p1 rs (a++[b]) G)(s2:Same G G2)(iy:Is (fr G G2) y (snT s)):∃ ya c zs,G2 D=some (.lst (ya++[.ref c]))/\G2 c=some (.lst zs)/\zs.length=b.length/\VI H D p1 rs (a++[b++[s]]) (upd G2 c (.lst (zs++[y]))):=by
 obtain⟨s0,e,h⟩:=h
 rcases h with ⟨h1,_⟩ | ⟨a',b',ya,c,zs,h1,h2,h3,h4,h5,h6,h7,h8⟩
 ·simp at h1
 obtain⟨rfl,e1⟩:=List.append_inj' h1 rfl
 cases e1
 have up:Same (pt H G D c) (pt H (upd G2 c (.lst (zs++[y]))) D c):=(yiB s2).trans (yjb (.inl rfl))
 have un:Same (fr G G2) (pt H (upd G2 c (.lst (zs++[y]))) D c):=(yrH s0 h2 h3).trans (yjb (.inl rfl))
 refine⟨ya,c,zs,s2 _ _ h2,s2 _ _ h3,by have:=h8.len;simpa using this,yaS h4 (s0.trans s2),by rw[yaB (Ne.symm h6)];exact s2 _ _ e,.inr ⟨a,b++[s],ya,c,_,rfl,by rw[yaB (Ne.symm h5)];exact s2 _ _ h2,yae,h4,h5,h6,h7.same up,?_⟩⟩
 rw[List.map_append]
 exact ye4 (h8.same up) (yau (iy.same un) (yaO _))
noncomputable def yfG:Sp:=λvs H Q _=>∃ (l:Addr) (cs:List (Nat×Cv)) (k:Int) (vss:List (List Sn)),vs=[.ref l,.int cs.length]/\H l=some (.lst ((cs.map ydV++ybg k vss).map tV))/\cs.length<=60/\1<=k/\k<=7/\GoodVR vss/\∀ y H',Same H H'->Is (fr H H') y (vsT vss)->Q y H'
theorem yp9 (T:Txt K mg t)(G_zaJ:FnOk P w K mg base CX0 5 t.f_zaJ t.d_zaJ ["row"] yjx)(G_za:FnOk P w K mg base CX0 1 t.f_za t.d_za ["voices"] yfx):FnOk P w K mg base CX0 6 t.f_zaq t.d_zaq ["rows","first"] yfG:=by
 refine T.Rr.F.ok sc_zaq (λvs H Q E h=>?_) (λ_ _ _ s H vs Q E hr h=>?_)
 ·obtain⟨_,_,_,_,rfl,_⟩:=h;rfl
 have hu:=ybs hr
 obtain⟨l,cs,k,vss,rfl,el,l60,h1,h7,gv,q⟩:=h
 have rl:=yd2 (k:=k) gv
 refine⟨_,(yac (yap (i:=2) sc_zaq.nd rfl (Or.inl rfl) (yaV yab)) (yac (yco PassesOwn.never rfl (yjA rfl T.Jw (ybr ycf (pv 0) (ybF (pv 1)) ybX) (yaC yby (pv 1) yad)) (ydy (n:=2) rfl (yaZ (yax (i:=3) sc_zaq.nd rfl (Or.inl rfl)) (yaZ (yax (i:=4) sc_zaq.nd rfl (Or.inl rfl)) ycD))) (yac (yap (i:=5) sc_zaq.nd rfl (Or.inl rfl) (pcl G_zaJ hr T.Rs (yaa (pv 4) yab))) (yaf (yaK (yan yo4 (pv 5) yaW (yao _)) (yaf (yaG (ybe F.plainAttrs_list F.slot_list_append F.type_list_append yaP (yaq yaD (pv 2) (ydj yca yad) (λ_ _=>rfl)) (yaa (pv 5) yab)))) (yaf (yaK (PW.pt (yd5 (yan yci (pv 4) yat (yao _)) (yda (yaU (pcl G_za hr T.za (yaa (pv 2) yab)))))) (yaf (yaG (ybe F.plainAttrs_list F.slot_list_append F.type_list_append yaP (pv 2) (yaa (yaV yab) yab)))) (yaf ycT))))))) (yac (yaK (yan (yf5 hu) (yaq yaD (pv 2) (ydj yca yad) (λ_ _=>rfl)) (yaV yab) (yao _)) (yaf ycT) yav) (yaf (yaj (pv 2)))))),?_⟩
 walk_at ""
 refine⟨Nat.zero_le _,λD hD=>?_⟩
 have s0:=yag hD (.lst [])
 have e0:=yae (H:=H) (a:=D) (o:=.lst [])
 generalize upd H D (.lst [])=H0 at s0 e0 ⊢
 walk_at ""
 refine yrG ?_
 walk_at ""
 refine⟨.int cs.length,rfl,cs.length,rfl,l,_,rfl,SqL.of (s0 _ _ el),λp1 hp1=>?_⟩
 have cd:yes ((cs.map ydV++ybg k vss).map tV) (some ((cs.length:Nat):Int)) none=(ybg k vss).map tV:=by
  rw[ydt _ cs.length (by simp),← List.map_drop,List.drop_left' (by simp)]
 rw[cd]
 have s1:=yag hp1 (.lst ((ybg k vss).map tV))
 have e1:=yae (H:=H0) (a:=p1) (o:=.lst ((ybg k vss).map tV))
 generalize upd H0 p1 _=H1 at s1 e1 ⊢
 walk_at ""
 refine⟨p1,rfl,?_⟩
 walk_at ""
 have pd:p1≠D:=λz=>by rw[z,e0] at hp1;cases hp1
 have ne:=λss hs=>(gv.v ss hs).1
 have s01:=s0.trans s1
 refine⟨cs.length+1,by simp,by omega,⟨_,SqL.of e1⟩,yhO (xs:=(ybg k vss).map tV) (λi σ H'=>(∃ o1 o2 o3,σ=[some (.ref l),some (.int cs.length),some (.ref D),o1,o2,o3])/\VI H D p1 ((ybg k vss).map tV) (bl vss i) H') ⟨⟨_,_,_,rfl⟩,s01,e1,.inl ⟨yiA _,s1 _ _ e0⟩⟩ (λi σ H' _ p=>SqL.of p.2.2.1) ?_ ?_⟩
 ·rintro i x σ H' p N hN hx ⟨⟨o1,o2,o3,rfl⟩,vi⟩ hp
  have vi:=vi.same (yag hp (.tup [.int ((i+(cs.length+1):Nat):Int),x]))
  have ep:=yae (H:=H') (a:=p) (o:=.tup [.int ((i+(cs.length+1):Nat):Int),x])
  generalize upd H' p _=G at vi ep ⊢
  rw[List.getElem?_map] at hx
  obtain⟨w,hw,rfl⟩:=Option.map_eq_some_iff.mp hx
  have bn:=gv.bl_len i
  have bn1:=gv.bl_len (i+1)
  refine ykw (SqT.of ep) ?_
  walk_at ""
  rcases ynY ne hw with ⟨rfl,b1,b2,b3⟩ | ⟨sn,a,b,⟨ss,hss,hsn⟩,rfl,b1,b2⟩
  ·refine .inl ⟨rfl,λG2 s2=>?_⟩
   have vi:=vi.same s2
   walk_at ""
   refine⟨rfl,ya0 (i_F ?_)⟩
   walk_at ""
   rw[show V.str "voice"=tV ybI from lit (by decide +kernel)]
   refine ykr (ya0 ?_)
   rw[decide_eq_true rfl]
   refine i_T ?_
   walk_at ""
   refine⟨_,_,rfl,(vi.tree hD).same (yaM _ _),by have:=gv.n2;omega,λss hs=>⟨b2 ss hs,bn ss hs⟩,λG3 s3=>ya0 (i_T ?_)⟩
   have vi:=vi.same s3
   obtain⟨ks0,hk0⟩:=vi.at'
   walk_at ""
   refine⟨.inl ⟨rfl,_,SqL.of hk0⟩,?_⟩
   walk_at ""
   refine⟨Nat.zero_le _,λq2 hq2=>?_⟩
   obtain⟨ks,hk,lk,vb⟩:=vi.begin hD pd hq2
   walk_at ""
   refine ych (yag hq2 (.lst []) _ _ hk) (yaz (by have:=gv.n2;omega)) (hN _ _ ⟨⟨_,_,_,rfl⟩,?_⟩)
   rw[b1]
   exact vb
  ·refine .inr ⟨k,sn,rfl,h1,h7,(gv.v ss hss).2.2 sn hsn,λy G2 s2 iy=>?_⟩
   rw[b1] at vi
   obtain⟨ya,c,zs,hd2,hc2,lz,vb⟩:=vi.add s2 iy
   have ny:y≠.non:=by
    cases sn with
    | rest n=>obtain⟨_,rfl,_⟩:=iy.rest;simp
    | tones=>obtain⟨_,_,rfl,_⟩:=iy.tones;simp
   walk_at ""
   refine⟨rfl,ya0 ?_⟩
   rw[decide_eq_false ny]
   refine i_T ?_
   walk_at ""
   refine ybf (SqL.of hd2) (ybY _ _) ?_
   walk_at ""
   refine⟨.inl ⟨rfl,_,SqL.of hc2⟩,?_⟩
   walk_at ""
   have lb:=bn b (by rw[b1];simp)
   refine ych hc2 (yaz (by omega)) (hN _ _ ⟨⟨_,_,_,rfl⟩,?_⟩)
   rw[b2]
   exact vb
 ·rintro σ H' ⟨⟨o1,o2,o3,rfl⟩,vi⟩
  rw[List.length_map,yok] at vi
  have tr:=vi.tree hD
  have sm:=vi.1
  rcases vi.2.2 with ⟨z,_⟩ | ⟨a,b,ya,c,zs,z,h2,h3,h4,h5,h6,h7,h8⟩
  ·have:=gv.n1
   rw[z] at this
   simp at this
  have nb:=(gv.v b (by rw[z];simp)).1
  have nz:zs≠[]:=λe=>by
   have:=h8.len
   rw[e,List.length_map] at this
   exact nb (List.length_eq_zero_iff.mp this.symm)
  walk_at ""
  refine ybf (SqL.of h2) (ybY _ _) ?_
  walk_at ""
  refine⟨Nat.zero_le _,λq2 hq2=>?_⟩
  have s2:=yag hq2 (.lst [])
  refine⟨c,q2,_,rfl,rfl,SqL.of (s2 _ _ h3),SqL.of yae,ya0 ?_⟩
  rw[show zs.isEmpty=false by cases zs with | nil=>exact(nz rfl).elim | cons=>rfl]
  refine i_F ?_
  walk_at ""
  exact q _ _ (sm.trans s2) (tr.same (yay s2))
open TX K2 K3
noncomputable def kI (j:Bool):Int:=if j then 0 else 1
theorem yqx (j:Bool)(c:Cv):decide (kdI c=kI j)=isJ j c:=by cases j<;>cases c<;>rfl
theorem yiF (a b:Int):eqV (.int a) (.int b)=decide (a=b):=by show(a==b)=_;rw[Bool.eq_iff_iff,beq_iff_eq,decide_eq_true_eq]
noncomputable def yjQ:Sp:=λvs H Q _=>∃ (x:V) (cs:List (Nat×Cv)) (j:Bool) (Hs:Hp),vs=[.int (kI j),x]/\Same Hs H/\Is Hs x (.ls (cs.map c3T))/\cs.length<=60/\∀ y H',Same H H'->Is (nw Hs H H') y (csT (cs.filter λc=>isJ j c.2))->Q y H'
theorem ypS (T:Txt K mg t):FnOk P w K mg base CX0 1 t.f_zaH t.d_zaH ["kind","changes"] yjQ:=by
 refine T.QS.F.ok yrz (λvs H Q E h=>?_) (λ_ _ _ s H vs Q E hr h=>?_)
 ·obtain⟨_,_,_,_,rfl,_⟩:=h;rfl
 have hu:=ybs hr
 obtain⟨x,cs,j,Hs,rfl,sH,ix,l60,q⟩:=h
 rw[Is] at ix
 obtain⟨a,xs,rfl,ea,is⟩:=ix
 have ea':=sH _ _ ea
 have al:=ybE is
 refine⟨_,(yaf (yaj (ya8 (yaH (NB:=["change","kind"]) (cap:=[none,some 0]) rfl) rfl (yaY (pv 1)) (λ_ _ _ _=>(yax (i:=0) (show List.Nodup (["change","kind"]:List Str) by decide) rfl (Or.inl rfl))) (λ_ _ _ _=>(yja (yan (show OpR _ _ (ymE K) from yb0 hu) (yaq (show IxR _ (yjk K) from yar) (pv 0) yad (λ_ _=>rfl)) (pv 1) (yao _)))) (λ_ _ _ _=>(yaF (yaa (yaq (show IxR _ (yjk K) from yar) (pv 0) yad (λ_ _=>rfl)) (yaa (yaq (show IxR _ (yjk K) from yar) (pv 0) yad (λ_ _=>rfl)) yab))))))),?_⟩
 walk_at ""
 refine⟨a,rfl,⟨_,SqL.of ea'⟩,λD hD=>?_⟩
 refine ycm (xs:=xs) (λi σ' H'=>(∃ o,σ'=[o,some (.int (kI j))])/\Acc (λH x c=>Is H x (chT c)) Hs H H' D ((cs.take i).filter λc=>isJ j c.2)) ⟨⟨_,rfl⟩,Acc.nil hD⟩ (λ_ _ _ _ h=>SqL.of (h.2.1 _ _ ea')) ?_ ?_
 ·rintro i x σ' H' N hN hx ⟨⟨o,rfl⟩,sm,kv,hd,ak⟩
  have hi:i < cs.length:=by have:=(List.getElem?_eq_some_iff.mp hx).1;rw[al.1] at this;exact this
  obtain⟨x',e,rx⟩:=al.2 i hi
  rw[hx] at e
  cases e
  have lk:=ak.1
  have lf:=List.length_filter_le (λc=>isJ j c.2) (cs.take i)
  rw[List.length_take] at lf
  obtain⟨b,y,rfl,eb,iy⟩:=rx.c3
  have sG:=sH.trans sm
  have eb':=sG _ _ eb
  refine ybj ?_
  walk_at ""
  refine yaE (SqT.of eb') (yai (j:=1) rfl) ?_
  walk_at ""
  refine yeI (tr:=nT (kdI cs[i].2)) (tr':=nT (kI j)) ⟨rfl,ybh⟩ ⟨rfl,ybh⟩ (yej _ _) (yej _ _) (ya0 ?_)
  rw[show eqT (yb8 (nT (kdI cs[i].2))) (yb8 (nT (kI j)))=isJ j cs[i].2 by rw[← yqx];exact yiF _ _]
  have tk:(cs.take (i+1)).filter (λc=>isJ j c.2)=(cs.take i).filter (λc=>isJ j c.2)++if isJ j cs[i].2=true then [cs[i]] else []:=by rw[List.take_succ_eq_append_getElem hi,List.filter_append,List.filter_cons,List.filter_nil]
  refine i_b (λe=>?_) λe=>?_
  ·walk_at ""
   refine yaE (SqT.of eb') (yai (j:=0) rfl) ?_
   walk_at ""
   refine yaE (SqT.of eb') (yai (j:=2) rfl) ?_
   walk_at ""
   refine⟨(by decide:(2:Nat)<=_),λp hp=>?_⟩
   have s3:=yag hp (.tup [.int cs[i].1,y])
   have np:p≠D:=λz=>by rw[z,hd] at hp;cases hp
   refine⟨kv,s3 _ _ hd,yaz (by omega),hN _ _ ⟨⟨_,rfl⟩,?_⟩⟩
   rw[tk,if_pos e]
   refine Acc.put (R:=λH x c=>Is H x (chT c)) ycM hD (sm.trans s3) (ak.imp λ_ _ _ z=>z.same (ybc s3)) ?_
   exact ycR (yhA np (ya6 sm hp) yae) (yau (yej _ _) (yau (iy.same (yfk sH)) (yaO _)))
  ·refine hN _ _ ⟨⟨_,rfl⟩,sm,kv,hd,?_⟩
   rw[tk,if_neg (by rw[e];simp),List.append_nil]
   exact ak
 ·rintro σ' H' ⟨_,sm,kv,hd,ak⟩
  rw[al.1,List.take_length] at ak
  exact q _ _ sm (ybU (by rw[yaI hD];exact hd) ((yc1 ak).same yc4))
open TX K2 K3
noncomputable def ydK (k:Int)(fw:List Fr)(vss:List (List Sn)):List (List Nat):=(yce fw fw.length).map ydV++ybg k vss
noncomputable def yeh (k:Int)(fw:List Fr)(vss:List (List Sn)):List Nat:=ybb 10 (ydK k fw vss)
theorem yup:∀ m∈metresL,10∉mW m:=by decide +kernel
theorem yqb {c:Nat×Cv}(g:GV c.2)(h:c.1<=24):∀ w∈cWs c,10∉w/\w.length<=20:=by
 have a:10∉kW c.2/\(kW c.2).length<=20:=by
  cases c.2
  ·exact(by decide:10∉([109,101,116,114,101]:List Nat)/\([109,101,116,114,101]:List Nat).length<=20)
  ·exact(by decide:10∉([107,101,121]:List Nat)/\([107,101,121]:List Nat).length<=20)
 have b:10∉vW c.2/\(vW c.2).length<=20:=by
  cases e:c.2 with
  | m m=>rw[e] at g;exact⟨yup m g,yjT m g⟩
  | k i=>rw[e] at g;exact⟨ykQ (by omega),by have:=ybH (i:=i) ⟨g.1,by have:=g.2;omega⟩;exact Nat.le_trans this (by decide)⟩
 have d:10∉nW (c.1:Int)/\(nW (c.1:Int)).length<=20:=⟨ykQ (by omega),by have:=ybH (i:=(c.1:Int)) ⟨by omega,by omega⟩;omega⟩
 have e:10∉atW/\atW.length<=20:=by decide
 intro w hw
 unfold cWs at hw
 split at hw
 ·simp only[List.mem_cons,List.not_mem_nil,or_false] at hw
  rcases hw with rfl | rfl
  ·exact a
  ·exact b
 ·simp only[List.mem_cons,List.not_mem_nil,or_false] at hw
  rcases hw with rfl | rfl | rfl | rfl
  ·exact e
  ·exact d
  ·exact a
  ·exact b
theorem yn9 {ws:List (List Nat)}(n:ws.length<=5)(h:∀ w∈ws,10∉w/\w.length<=20):10∉ybb 32 ws/\(ybb 32 ws).length<=105:=by
 refine⟨λz=>?_,?_⟩
 ·rcases yiE z with e | ⟨w,hw,e⟩
  ·exact absurd e (by decide)
  ·exact(h w hw).1 e
 ·have:=yez (c:=32) (m:=20) λw hw=>(h w hw).2
  omega
theorem ylR (k:Int)(s:Sn):(sWs k s).length<=5:=by
 cases s with
 | rest n=>simp[sWs]
 | tones ps n wd op cl =>
  simp only[sWs,List.length_cons]
  unfold tlW tcW
  cases op<;>cases cl<;>by_cases e:wd.cps.toList=[]<;>simp[e]
theorem yf3 {k:Int}{fw:List Fr}{vss:List (List Sn)}(h1:1<=k)(h7:k<=7)(ok:FwOk fw)(g:GoodVR vss):ydK k fw vss≠[]/\(ydK k fw vss).length<=254/\∀ w∈ydK k fw vss,10∉w/\w.length<=105:=by
 have r:=ydh ok
 have v:=yd2 (k:=k) g
 refine⟨λz=>?_,?_,λw hw=>?_⟩
 ·have e:=congrArg List.length z
  unfold ydK at e
  rw[List.length_append,List.length_nil] at e
  omega
 ·unfold ydK
  rw[List.length_append,List.length_map]
  have:=r.l60
  omega
 ·unfold ydK at hw
  rcases List.mem_append.mp hw with hw | hw
  ·obtain⟨c,hc,rfl⟩:=List.mem_map.mp hw
   obtain⟨i,hi,rfl⟩:=List.mem_iff_getElem.mp hc
   obtain⟨g1,g2⟩:=r.g i hi
   exact yn9 (by unfold cWs;split<;>simp) (yqb g1 g2.le)
  ·unfold ybg at hw
   obtain⟨l,hl,hw⟩:=List.mem_flatten.mp hw
   obtain⟨ss,hs,rfl⟩:=List.mem_map.mp hl
   rcases List.mem_cons.mp hw with rfl | hw
   ·decide
   ·obtain⟨s,hs2,rfl⟩:=List.mem_map.mp hw
    exact yn9 (ylR k s) (ylJ h1 h7 ((g.v ss hs).2.2 s hs2)).2
theorem yju {H H1 H2:Hp}(s1:Same H H1)(s2:Same H1 H2):Same (nw (fr H H1) H1 H2) (fr H H2):=λc u e=>by
 cases h:H1 c with
 | none=>rw[yaI h] at e;rw[ybB (ya6 s1 h)];exact e
 | some v =>
  rw[ybM h] at e
  obtain⟨n,e⟩:=ya9 e
  rw[ybB n]
  exact s2 _ _ e
theorem yqi {ss:List Sn}(p:Pos ss){s:Sn}(h:s∈ss):snL s<=ybu ss:=by
 induction ss with
 | nil=>exact nomatch h
 | cons z r ih =>
  have e:ybu (z :: r)=snL z+ybu r:=by simp[ybu]
  have pz:=p z (by simp)
  have pr:Pos r:=λu hu=>p u (by simp[hu])
  have nn:=ybO pr
  rcases List.mem_cons.mp h with rfl | h
  ·omega
  ·have:=ih pr h;omega
theorem GoodVs.vr {vss:List (List Sn)}(g:GoodVs vss):GoodVR vss:=⟨g.1,g.2.1,λss hs=>by
 have v:=g.2.2 ss hs
 refine⟨λz=>by have:=v.n1;rw[z] at this;simp at this,v.n2,λs h=>⟨v.g s h,?_⟩⟩
 have:=yqi v.pos h
 have:=v.sum
 omega⟩
noncomputable def yfO (t:Ad):Sp:=λvs H Q _=>∃ (k:Int) (fw:List Fr) (vss:List (List Sn)),vs=[tV (yeh k fw vss)]/\1<=k/\k<=7/\FwOk fw/\GoodVs vss/\OkF fw (ycZ (vss.map yaQ))/\∀ y H',Same H H'->TuneIs t (fr H H') y (vss.map yaQ) fw->TuneHas t (fr H H') y (ydR true fw) (ydR false fw)->Q y H'
theorem yrV (T:Txt K mg t)(G_zT:FnOk P w K mg base CX0 8 t.f_zT t.d_zT ["rows"] ye7)(G_zaq:FnOk P w K mg base CX0 6 t.f_zaq t.d_zaq ["rows","first"] yfG)(G_zaH:FnOk P w K mg base CX0 1 t.f_zaH t.d_zaH ["kind","changes"] yjQ)(G_zi:FnOk P w K mg base CX0 9 t.f_zi t.d_zi ["self","metres","keys","voices"] (yiq t)):FnOk P w K mg base CX0 11 t.f_zap t.d_zap ["text"] (yfO t):=by
 refine T.QJ.F.ok sc_zap (λvs H Q E h=>?_) (λ_ _ _ s H vs Q E hr h=>?_)
 ·obtain⟨_,_,_,rfl,_⟩:=h;rfl
 have hu:=ybs hr
 obtain⟨k,fw,vss,rfl,h1,h7,ok,gv,okf,q⟩:=h
 have rk:=yf3 h1 h7 ok gv.vr
 have rd:=ydh ok
 refine⟨_,(yac (yaK (ybl (yaU (yak yaR rfl T.Ja yam (yaa (pv 0) (yaa (yb5 rfl T.Jg yaX) yab))))) (yaf ycT) yav) (yac (yap (i:=1) sc_zap.nd rfl (Or.inl rfl) (ybe F.plainAttrs_str F.slot_str_split F.type_str_split ydQ (pv 0) (yaa yat yab))) (yac (yap (i:=2) sc_zap.nd rfl (Or.inl rfl) (pcl G_zT hr T.zT (yaa (pv 1) yab))) (yac (yap (i:=3) sc_zap.nd rfl (Or.inl rfl) (pcl G_zaq hr T.Rr (yaa (pv 1) (yaa (yak yas rfl T.Jc PySem.boot_len (yaa (pv 2) yab)) yab)))) (yaf (yaj (yeE T.Qi G_zi (hr.mono (by first | decide | omega)) rfl T.Qg T.zi.B .nil ycx (yaa (pcl G_zaH hr T.QS (yaa (ybW rfl T.JK) (yaa (pv 2) yab))) (yaa (pcl G_zaH hr T.QS (yaa (ybW rfl T.Qu) (yaa (pv 2) yab))) (yaa (pv 3) yab)))))))))),?_⟩
 walk_at ""
 refine ycu (.str _) (ya0 (i_F ?_))
 walk_at ""
 refine⟨rfl,?_⟩
 walk_at ""
 have tl:(yeh k fw vss).length<=106*254:=by
  have:=yez (c:=10) (m:=105) λw hw=>(rk.2.2 w hw).2
  have:=rk.2.1
  unfold yeh
  omega
 refine⟨_,_,rfl,rfl,by decide +kernel,by rw[ycg];exact Nat.le_trans (by omega:_<=30000) (by decide),λp hp=>?_⟩
 have es:(Txt.split (ofL (yeh k fw vss)) (Str.ofString "\n")).map V.str=(ydK k fw vss).map tV:=by
  rw[show Str.ofString "\n"=one 10 by decide +kernel,ydP _ (by decide),yaN]
  unfold yeh
  rw[ycK _ rk.1 λw h=>(rk.2.2 w h).1,List.map_map]
  rfl
 rw[show Txt.split (ofL (yeh k fw vss)) "\n"=Txt.split (ofL (yeh k fw vss)) (Str.ofString "\n") from rfl,es]
 have s1:=yag hp (.lst ((ydK k fw vss).map tV))
 have e1:=yae (H:=H) (a:=p) (o:=.lst ((ydK k fw vss).map tV))
 generalize upd H p _=H1 at s1 e1 ⊢
 obtain⟨r0,er0⟩:∃ rest,ybg k vss=ybI :: rest:=by
  have:=gv.1
  cases vss with
  | nil=>simp at this
  | cons a r=>exact⟨_,rfl⟩
 walk_at ""
 refine⟨p,yce fw fw.length,r0,rfl,by rw[e1];unfold ydK;rw[er0],rd,λy2 H2 s2 i2=>?_⟩
 have i2':=i2.same (ydm s1)
 obtain⟨a2,xs2,rfl,ea2,is2⟩:∃ a xs,y2=.ref a/\fr H1 H2 a=some (.lst xs)/\Iss (fr H1 H2) xs ((yce fw fw.length).map c3T):=by rw[Is] at i2;exact i2
 have lx2:=is2.len
 rw[List.length_map] at lx2
 walk_at ""
 refine⟨a2,_,rfl,.inl (SqL.of (ya9 ea2).2),?_⟩
 walk_at ""
 rw[lx2]
 refine⟨p,yce fw fw.length,k,vss,rfl,s2 _ _ e1,rd.l60,h1,h7,gv.vr,λy3 H3 s3 i3=>?_⟩
 have s02:=s1.trans s2
 have s03:=s02.trans s3
 have i3':=i3.same (ydm s02)
 have i23:=i2'.same (yay s3)
 walk_at ""
 refine⟨.ref a2,yce fw fw.length,true,fr H H3,rfl,yaM _ _,i23,rd.l60,λy4 H4 s4 i4=>?_⟩
 rw[← ydM] at i4
 have i4':=i4.same (yju s03 s4)
 have s04:=s03.trans s4
 walk_at ""
 refine⟨.ref a2,yce fw fw.length,false,fr H H4,rfl,yaM _ _,i23.same (yay s4),rd.l60,λy5 H5 s5 i5=>?_⟩
 rw[← ydM] at i5
 have i5':=i5.same (yju s04 s5)
 have s05:=s04.trans s5
 walk_at ""
 intro x dx hx hdx ndx
 refine⟨x,dx,y4,y5,_,_,_,vss,fw,fr H H5,H5,rfl,yae,hx,ydd hx hdx ndx,yaM _ _,i4'.same (yay s5),i5',i3'.same (yay (s4.trans s5)),ykH gv okf ok.ne,λH6 s6 tu th=>?_⟩
 exact⟨rfl,q _ _ (s05.trans s6) (tu.same (yju s05 s6)) (th.same (yju s05 s6))⟩
open TX K2 K3
noncomputable def yd4 (t:Ad):Sp:=λvs H Q _=>∃ (x:V) (ms ks:List (Nat×Cv)) (Hs:Hp),vs=[x]/\Same Hs H/\TuneHas t Hs x ms ks/\∀ y H',Same H H'->Is (nw Hs H H') y (csT ms)->Q y H'
theorem yuc (T:Txt K mg t):FnOk P w K mg base CX0 1 t.f_zb t.d_zb ["self"] (yd4 t):=by
 refine T.zb.F.ok ys9 (λvs H Q E h=>?_) (λ_ _ _ s H vs Q E hr h=>?_)
 ·obtain⟨_,_,_,_,rfl,_⟩:=h;rfl
 have hu:=ybs hr
 obtain⟨x,ms,ks,Hs,rfl,sH,⟨a,dx,m,k,v,f,rfl,ea,hm,hk⟩,q⟩:=h
 obtain⟨l,ys,rfl,el,is⟩:∃ l ys,m=.ref l/\Hs l=some (.lst ys)/\Iss Hs ys (ms.map chT):=by rw[csT,Is] at hm;exact hm
 refine⟨_,(yaf (yaj (yaT ybR rfl T.Jq ybJ (yaa (ybx (pv 0) rfl) yab)))),?_⟩
 walk_at ""
 refine⟨a,_,dx,_,_,rfl,sH _ _ ea,T.Jb,T.Je,rfl,?_⟩
 walk_at ""
 refine⟨l,ys,rfl,.inl (SqL.of (sH _ _ el)),λp hp=>q _ _ (yag hp _) (ybU (by rw[yaI hp];exact yae) (is.same (yee sH)))⟩
noncomputable def yf4 (t:Ad):Sp:=λvs H Q _=>∃ (x:V) (ms ks:List (Nat×Cv)) (Hs:Hp),vs=[x]/\Same Hs H/\TuneHas t Hs x ms ks/\∀ y H',Same H H'->Is (nw Hs H H') y (csT ks)->Q y H'
theorem ytK (T:Txt K mg t):FnOk P w K mg base CX0 1 t.f_zf t.d_zf ["self"] (yf4 t):=by
 refine T.zf.F.ok yt2 (λvs H Q E h=>?_) (λ_ _ _ s H vs Q E hr h=>?_)
 ·obtain⟨_,_,_,_,rfl,_⟩:=h;rfl
 have hu:=ybs hr
 obtain⟨x,ms,ks,Hs,rfl,sH,⟨a,dx,m,k,v,f,rfl,ea,hm,hk⟩,q⟩:=h
 obtain⟨l,ys,rfl,el,is⟩:∃ l ys,k=.ref l/\Hs l=some (.lst ys)/\Iss Hs ys (ks.map chT):=by rw[csT,Is] at hk;exact hk
 refine⟨_,(yaf (yaj (yaT ybR rfl T.Jq ybJ (yaa (ybx (pv 0) rfl) yab)))),?_⟩
 walk_at ""
 refine⟨a,_,dx,_,_,rfl,sH _ _ ea,T.Jb,T.Jf,rfl,?_⟩
 walk_at ""
 refine⟨l,ys,rfl,.inl (SqL.of (sH _ _ el)),λp hp=>q _ _ (yag hp _) (ybU (by rw[yaI hp];exact yae) (is.same (yee sH)))⟩
theorem yqu {H:Hp}{Q:VK}{a b:Int}(q:Q (.bl (decide (a=b))) H):ymE K (.int a) (.int b) H Q:=by
 refine yeI (tr:=nT a) (tr':=nT b) ⟨rfl,ybh⟩ ⟨rfl,ybh⟩ (yej _ _) (yej _ _) ?_
 rw[show eqT (yb8 (nT a)) (yb8 (nT b))=decide (a=b) from yiF a b]
 exact q
theorem sp1:V.str " "=tV [32]:=lit (by decide +kernel)
noncomputable def ye8:Sp:=λvs H Q _=>∃ (x:V) (c:Nat×Cv),vs=[x]/\Is H x (c3T c)/\GV c.2/\1<=c.1/\c.1<=24/\∀ H',Same H H'->Q (tV (ydV c)) H'
theorem ysw (T:Txt K mg t)(G_zZ:FnOk P w K mg base CX0 2 t.f_zZ t.d_zZ ["metre"] ycS)(G_zF:FnOk P w K mg base CX0 1 t.f_zF t.d_zF ["number"] yjK):FnOk P w K mg base CX0 3 t.f_zN t.d_zN ["change"] ye8:=by
 refine T.zN.F.ok sc_zN (λvs H Q E h=>?_) (λ_ _ _ s H vs Q E hr h=>?_)
 ·obtain⟨_,_,rfl,_⟩:=h;rfl
 have hu:=ybs hr
 obtain⟨x,c,rfl,ix,gc,b1,b24,q⟩:=h
 obtain⟨a,y,rfl,ea,iy⟩:=ix.c3
 refine⟨_,(yac (yap (i:=1) sc_zN.nd rfl (Or.inl rfl) (ybd (yan (yb0 hu) (yaq yar (pv 0) yad (λ_ _=>rfl)) (ybW rfl T.JK) (yao _)) (pcl G_zZ hr T.zZ (yaa (yaq yar (pv 0) yad (λ_ _=>rfl)) yab)) (pcl G_zF hr T.zF (yaa (yaq yar (pv 0) yad (λ_ _=>rfl)) yab)))) (yac (yap (i:=2) sc_zN.nd rfl (Or.inl rfl) (yaC yaw (yaC yaw (yaq yar (ygl rfl T.Jy) (yaq yar (pv 0) yad (λ_ _=>rfl)) (λ_ _=>rfl)) yat) (pv 1))) (yaf (yaj (ybd (yan (yb0 hu) (yaq yar (pv 0) yad (λ_ _=>rfl)) yad (yao _)) (pv 2) (yaC yaw (yaC yaw (yaC yaw yat (pcl G_zF hr T.zF (yaa (yaq yar (pv 0) yad (λ_ _=>rfl)) yab))) yat) (pv 2))))))),?_⟩
 walk_at ""
 refine yaE (SqT.of ea) (yai (j:=1) rfl) ?_
 walk_at ""
 refine yqu (ya0 ?_)
 refine ylg (λv H1=>v=tV (vW c.2)/\Same H H1) (λe Q' q'=>?_) (λe Q' q'=>?_) ?_
 ·walk_at ""
  refine yaE (SqT.of ea) (yai (j:=2) rfl) ?_
  walk_at ""
  cases h:c.2 with
  | k i=>rw[h] at e;exact absurd (show decide ((1:Int)=0)=true from e) (by decide)
  | m m =>
   rw[h] at iy gc
   exact⟨y,m,rfl,iy,gc,λH' s=>q' _ _ ⟨by rw[h];rfl,s⟩⟩
 ·walk_at ""
  refine yaE (SqT.of ea) (yai (j:=2) rfl) ?_
  walk_at ""
  cases h:c.2 with
  | m m=>rw[h] at e;exact absurd (show decide ((0:Int)=0)=false from e) (by decide)
  | k i =>
   rw[h] at iy gc
   have iy:y=.int i:=by rw[cvT,nT,Is] at iy;exact iy.1
   subst iy
   exact⟨i,rfl,⟨gc.1,by have:=gc.2;omega⟩,q' _ _ ⟨by rw[h];rfl,Same.refl _⟩⟩
 rintro _ H1 ⟨rfl,s1⟩
 have wl:=yrI c.2
 have vl:=yrQ gc
 walk_at ""
 refine yaE (SqT.of (s1 _ _ ea)) (yai (j:=1) rfl) ?_
 refine yaE (T.Jt.sq H1) (ylM c.2) ?_
 walk_at ""
 refine ybT rfl sp1 (by simp;omega) ?_
 rw[ybi]
 walk_at ""
 refine ybT rfl rfl (by simp;omega) ?_
 rw[ybi]
 walk_at ""
 refine yaE (SqT.of (s1 _ _ ea)) (yai (j:=0) rfl) ?_
 walk_at ""
 refine yqu (ya0 ?_)
 have e2:(kW c.2++[32])++vW c.2=ybb 32 [kW c.2,vW c.2]:=by rw[ybb,ybb,List.append_assoc];rfl
 rw[e2]
 by_cases e:c.1=1
 ·rw[decide_eq_true (by rw[e];rfl)]
  refine i_T ?_
  walk_at ""
  have:=q H1 s1
  unfold ydV cWs at this
  rw[if_pos e] at this
  exact this
 ·rw[decide_eq_false (λz=>e (by omega))]
  refine i_F ?_
  walk_at ""
  refine yaE (SqT.of (s1 _ _ ea)) (yai (j:=0) rfl) ?_
  walk_at ""
  have nl:=ybH (i:=(c.1:Int)) ⟨by omega,by omega⟩
  refine⟨c.1,rfl,⟨by omega,by omega⟩,?_⟩
  have jl:(ybb 32 [kW c.2,vW c.2]).length<=202:=ydi (by intro w hw;simp only[List.mem_cons,List.not_mem_nil,or_false] at hw;rcases hw with rfl | rfl;exact wl.2.2;exact vl.2.2)
  refine ybT (a:=[97,116,32]) (lit (by decide +kernel)) rfl (by simp;omega) ?_
  rw[ybi]
  walk_at ""
  refine ybT rfl sp1 (by simp;omega) ?_
  rw[ybi]
  walk_at ""
  refine ybT rfl rfl (by simp;omega) ?_
  rw[ybi]
  have:=q H1 s1
  unfold ydV cWs at this
  rw[if_neg e] at this
  rw[show[97,116,32]++nW (c.1:Int)++[32]++ybb 32 [kW c.2,vW c.2]=ybb 32 [atW,nW (c.1:Int),kW c.2,vW c.2] by simp[ybb,atW]]
  exact this
open TX K2 K3
theorem yiD:bootBuiltins "sorted"=some (.builtin "sorted"):=by decide +kernel
theorem ylV {a D:Addr}{xs:List V}{ms:List (Nat×Cv)}{Fin:Hp->Prop}{H Hs:Hp}{σ:St}(j:Bool)(sH:Same Hs H)(ha:H a=some (.lst xs))(al:Al (λx c=>Is Hs x (chT c)) xs ms)(hD:H D=none)(hz:ms.length<=60)(hj:∀ c∈ms,kdI c.2=kI j)(hσ:σ=[none,none])
  (fin:∀ ys H',Same H H'->H' D=some (.lst ys)->Al (λx c=>Is (nw Hs H H') x (c3T c)) ys ms->Fin H'):∃ W:Nat->Nat->St->Hp->Prop,(∃ m,W 0 m σ (upd H D (.lst [])))/\ydG (Itl K a) (ykJ K 2 (ycF (ybZ 0) (ycF (ybZ 1) ykS))) yft (ypQ (yb3 (ydD 0) (yb3 (tC (V.int (kI j))) (yb3 (ydD 1) yh6)))) D Fin W:=by
 subst hσ
 refine ycm (xs:=xs) (λi σ' H'=>(∃ o1 o2,σ'=[o1,o2])/\Acc (λH x c=>Is H x (c3T c)) Hs H H' D (ms.take i)) ⟨⟨_,_,rfl⟩,Acc.nil hD⟩ (λ_ _ _ _ h=>SqL.of (h.2.1 _ _ ha)) ?_ ?_
 ·rintro i x σ' H' N hN hx ⟨⟨o1,o2,rfl⟩,sm,kv,hd,ak⟩
  have hi:i < ms.length:=by have:=(List.getElem?_eq_some_iff.mp hx).1;rw[al.1] at this;exact this
  obtain⟨x',e,rx⟩:=al.2 i hi
  rw[hx] at e
  cases e
  have lk:=ak.1
  rw[List.length_take] at lk
  have sG:=sH.trans sm
  rw[chT,Is] at rx
  obtain⟨b,ys,rfl,eb,iz⟩:=rx
  rw[Iss] at iz
  obtain⟨y1,_,rfl,i1,iz⟩:=iz
  rw[Iss] at iz
  obtain⟨y2,_,rfl,i2,iz⟩:=iz
  rw[Iss] at iz
  subst iz
  rw[nT,Is] at i1
  obtain⟨rfl,_⟩:=i1
  refine ykw (SqT.of (sG _ _ eb)) (ydk (i_T ?_))
  walk_at ""
  refine⟨(by decide:(3:Nat)<=_),λp hp=>?_⟩
  have s3:=yag hp (.tup [.int ms[i].1,.int (kI j),y2])
  have np:p≠D:=λz=>by rw[z,hd] at hp;cases hp
  refine⟨kv,s3 _ _ hd,yaz (by omega),hN _ _ ⟨⟨_,_,rfl⟩,?_⟩⟩
  rw[List.take_succ_eq_append_getElem hi]
  refine Acc.put (R:=λH x c=>Is H x (c3T c)) ycM hD (sm.trans s3) (ak.imp λ_ _ _ z=>z.same (ybc s3)) ?_
  refine ycR (yhA np (ya6 sm hp) yae) (yau (yej _ _) (yau ?_ (yau (i2.same (yfk sH)) (yaO _))))
  rw[hj _ (List.getElem_mem hi)]
  exact yej _ _
 ·rintro σ' H' ⟨_,sm,kv,hd,ak⟩
  rw[al.1,List.take_length] at ak
  exact fin _ _ sm hd (ak.imp λ_ _ _ z=>z.same yc4)
theorem yk0 {fw:List Fr}{j:Bool}{c:Nat×Cv}(h:c∈ydR j fw):kdI c.2=kI j/\c∈yce fw fw.length:=by
 rw[ydM] at h
 obtain⟨h1,h2⟩:=List.mem_filter.mp h
 have h2:isJ j c.2=true:=h2
 rw[← yqx] at h2
 exact⟨of_decide_eq_true h2,h1⟩
theorem ymV (fw:List Fr):(ydR true fw).length+(ydR false fw).length=(yce fw fw.length).length:=by
 have:=(yd9 fw).length_eq
 rwa [List.length_append] at this
noncomputable def c0:Nat×Cv:=(0,.k 0)
noncomputable def yev (fw:List Fr):List (Nat×Cv):=ydR true fw++ydR false fw
noncomputable def yoq (fw:List Fr)(i:Nat):List Int:=yeA ((yev fw).getD i c0)
theorem yki (fw:List Fr):((yev fw).map yeA).Nodup:=by
 refine((yd9 fw).map yeA).nodup_iff.mpr ?_
 rw[List.nodup_iff_pairwise_ne,List.pairwise_map]
 exact(ykF fw _).imp λ{a b} h e=>by rw[e,yec] at h;cases h
theorem yjm {fw:List Fr}{i j:Nat}(hi:i < (yev fw).length)(hj:j < (yev fw).length)(e:yoq fw i=yoq fw j):i=j:=by
 have nd:=yki fw
 rw[List.nodup_iff_pairwise_ne,List.pairwise_iff_getElem] at nd
 unfold yoq at e
 rw[ybw hi,ybw hj] at e
 rcases Nat.lt_trichotomy i j with h | h | h
 ·have:=nd i j (by rw[List.length_map];exact hi) (by rw[List.length_map];exact hj) h
  rw[List.getElem_map,List.getElem_map] at this
  exact(this e).elim
 ·exact h
 ·have:=nd j i (by rw[List.length_map];exact hj) (by rw[List.length_map];exact hi) h
  rw[List.getElem_map,List.getElem_map] at this
  exact(this e.symm).elim
theorem yng {fw:List Fr}{p:Array Nat}(h:yit (λi j=>HT.lexLt (yoq fw i) (yoq fw j)) (yev fw).length p):p.toList.map (λi=>(yev fw).getD i c0)=yce fw fw.length:=by
 have st:=yfH (N:=yoq fw) (n:=(yev fw).length) λi j hi hj e=>yjm hi hj e
 refine List.Perm.eq_of_pairwise (le:=λa b=>HT.lexLt (yeA a) (yeA b)=true) (λa b _ _ h1 h2=>?_) ?_ (ykF fw _) ?_
 ·rw[yiR h1] at h2
  cases h2
 ·rw[List.pairwise_map]
  exact yoU st h.shuf h.up
 ·have:=h.shuf.perm.map (λi=>(yev fw).getD i c0)
  rw[yfT] at this
  exact this.trans (yd9 fw)
noncomputable def ydN (t:Ad):Sp:=λvs H Q _=>∃ (x:V) (fw:List Fr) (Hs:Hp),vs=[x]/\Same Hs H/\TuneHas t Hs x (ydR true fw) (ydR false fw)/\FwOk fw/\∀ y H',Same H H'->Is (nw Hs H H') y (.ls ((yce fw fw.length).map c3T))->Q y H'
theorem yt7 (T:Txt K mg t)(G_zb:FnOk P w K mg base CX0 1 t.f_zb t.d_zb ["self"] (yd4 t))(G_zf:FnOk P w K mg base CX0 1 t.f_zf t.d_zf ["self"] (yf4 t)):FnOk P w K mg base CX0 2 t.f_zx t.d_zx ["tune"] (ydN t):=by
 refine T.zx.F.ok sc_zx (λvs H Q E h=>?_) (λ_ _ _ s H vs Q E hr h=>?_)
 ·obtain⟨_,_,_,rfl,_⟩:=h;rfl
 have hu:=ybs hr
 obtain⟨x,fw,Hs,rfl,sH,th,ok,q⟩:=h
 obtain⟨ta,dx,m,k,v,f,rfl,ea,hm,hk⟩:=id th
 refine⟨_,(yac (ybQ (i:=1) sc_zx.nd rfl (Or.inl rfl) (yaH (NB:=["bar","metre"]) (cap:=[none,none]) rfl) rfl (yaY (yb7 (pv 0) T.Jb T.Qx G_zb (hr.mono (by first | decide | omega)) T.zb.B .nil ycx)) (λ_ _ _ _=>by exact(show PG _ _ (ykJ K 2 (ycF (ybZ 0) (ycF (ybZ 1) ykS))) from ydy (n:=2) rfl (yaZ (yax (i:=0) (show List.Nodup (["bar","metre"]:List Str) by decide) rfl (Or.inl rfl)) (yaZ (yax (i:=1) (show List.Nodup (["bar","metre"]:List Str) by decide) rfl (Or.inl rfl)) ycD)))) (λ_ _ _ _=>yaJ) (λ_ _ _ _=>(yaF (yaa (pv 0) (yaa (ybW rfl T.JK) (yaa (pv 1) yab)))))) (yac (ybQ (i:=2) sc_zx.nd rfl (Or.inl rfl) (yaH (NB:=["bar","key"]) (cap:=[none,none]) rfl) rfl (yaY (yb7 (pv 0) T.Jb T.Qy G_zf (hr.mono (by first | decide | omega)) T.zf.B .nil ycx)) (λ_ _ _ _=>by exact(show PG _ _ (ykJ K 2 (ycF (ybZ 0) (ycF (ybZ 1) ykS))) from ydy (n:=2) rfl (yaZ (yax (i:=0) (show List.Nodup (["bar","key"]:List Str) by decide) rfl (Or.inl rfl)) (yaZ (yax (i:=1) (show List.Nodup (["bar","key"]:List Str) by decide) rfl (Or.inl rfl)) ycD)))) (λ_ _ _ _=>yaJ) (λ_ _ _ _=>(yaF (yaa (pv 0) (yaa (ybW rfl T.Qu) (yaa (pv 1) yab)))))) (yaf (yaj (yak yko rfl T.Qk yiD (yaa (yaC ygU (pv 1) (pv 2)) yab)))))),?_⟩
 walk_at ""
 refine⟨ta,dx,_,rfl,sH _ _ ea,rfl,?_⟩
 walk_at ""
 have al60:=(ydh ok).l60
 have lens:=ymV fw
 refine⟨_,_,_,Hs,rfl,sH,th,λy1 H1 s1 i1=>?_⟩
 obtain⟨a1,xs1,rfl,e1,is1⟩:∃ a xs,y1=.ref a/\nw Hs H H1 a=some (.lst xs)/\Iss (nw Hs H H1) xs ((ydR true fw).map chT):=by rw[csT,Is] at i1;exact i1
 have o1:Same (nw Hs H H1) H1:=yeH sH s1
 refine⟨a1,rfl,⟨_,SqL.of (o1 _ _ e1)⟩,λD hD=>ylV true o1 (o1 _ _ e1) (ybE is1) hD (by omega) (λc hc=>(yk0 hc).1) rfl λys2 H2 s2 e2 al2=>?_⟩
 have al2:=al2.imp λ_ _ _ z=>z.same (yfR s1 s2)
 have s02:=s1.trans s2
 walk_at ""
 refine⟨ta,dx,_,rfl,s02 _ _ (sH _ _ ea),rfl,?_⟩
 walk_at ""
 refine⟨_,_,_,nw Hs H H2,rfl,yeH sH s02,th.same (yee sH),λy3 H3 s3 i3=>?_⟩
 have i3:=i3.same (yfR s02 s3)
 have s03:=s02.trans s3
 obtain⟨a3,xs3,rfl,e3,is3⟩:∃ a xs,y3=.ref a/\nw Hs H H3 a=some (.lst xs)/\Iss (nw Hs H H3) xs ((ydR false fw).map chT):=by rw[csT,Is] at i3;exact i3
 have o3:Same (nw Hs H H3) H3:=yeH sH s03
 refine⟨a3,rfl,⟨_,SqL.of (o3 _ _ e3)⟩,λD4 hD4=>ylV false o3 (o3 _ _ e3) (ybE is3) hD4 (by omega) (λc hc=>(yk0 hc).1) rfl λys4 H4 s4 e4 al4=>?_⟩
 have al4:=al4.imp λ_ _ _ z=>z.same (yfR s03 s4)
 have s04:=s03.trans s4
 have al24:Al (λx c=>Is (nw Hs H H4) x (c3T c)) (ys2++ys4) (yev fw):=(al2.imp λ_ _ _ z=>z.same (ycq (s3.trans s4))).app al4
 have ln:=al24.1
 have lb:(yev fw).length=(yce fw fw.length).length:=(yd9 fw).length_eq
 walk_at ""
 refine⟨D,D4,ys2,ys4,rfl,rfl,(s3.trans s4) _ _ e2,e4,small (by rw[← List.length_append,ln,lb];omega),λp5 hp5=>?_⟩
 have s5:=yag hp5 (.lst (ys2++ys4))
 have e5:=yae (H:=H4) (a:=p5) (o:=.lst (ys2++ys4))
 generalize upd H4 p5 _=H5 at s5 e5 ⊢
 have s05:=s04.trans s5
 have al5:=al24.imp λ_ _ _ z=>z.same (ycq s5)
 have o5:Same (nw Hs H H5) H5:=yeH sH s05
 generalize ys2++ys4=ks at ln e5 al5
 walk_at ""
 refine⟨p5,ks,2,yoq fw,rfl,SqL.of e5,by rw[ln,lb];omega,⟨rfl,by decide,λi j hi hj e=>yjm (by omega) (by omega) e,λi hi=>?_⟩,λp6 pp hp6 cm=>?_⟩
 ·obtain⟨x,ex,ix⟩:=al5.2 i (by omega)
  obtain⟨b,y,rfl,eb,_⟩:=ix.c3
  refine⟨b,[y],ex,?_,rfl⟩
  unfold yoq
  rw[ybw (by omega)]
  exact SqT.of (o5 _ _ eb)
 rw[ln] at cm
 have s6:=yag hp6 (.lst (pp.toList.map λi=>ks.getD i .non))
 refine q _ _ (s05.trans s6) (ybU (by rw[yaI (ya6 s05 hp6)];exact yae) ?_)
 rw[← yng cm]
 refine yc1 (us:=pp.toList.map λi=>(yev fw).getD i c0) ⟨by rw[List.length_map,List.length_map],λi hi=>?_⟩
 rw[List.length_map] at hi
 have hm:pp.toList[i] < (yev fw).length:=List.mem_range.mp (cm.shuf.perm.mem_iff.mp (List.getElem_mem hi))
 obtain⟨x,ex,ix⟩:=al5.2 _ hm
 refine⟨x,by rw[List.getElem?_map,List.getElem?_eq_getElem hi,Option.map_some,List.getD_eq_getElem?_getD,ex];rfl,?_⟩
 rw[List.getElem_map,ybw hm]
 exact ix.same (ycq s6)
open TX K2 K3
theorem yiU {H:Hp}{Q:VK}{a b:List Nat}(q:Q (.bl (decide (a=b))) H):ymE K (tV a) (tV b) H Q:=by
 refine yeI (tr:=wTh a) (tr':=wTh b) ⟨rfl,ybh⟩ ⟨rfl,ybh⟩ (ybC rfl) (ybC rfl) ?_
 rw[show eqT (yb8 (wTh a)) (yb8 (wTh b))=decide (a=b) from yeN a b]
 exact q
theorem yoj {H:Hp}{Q:VK}{a b:List Nat}(q:Q (.bl (!decide (a=b))) H):ypM K (tV a) (tV b) H Q:=by
 refine yiv (tr:=wTh a) (tr':=wTh b) ⟨rfl,ybh⟩ ⟨rfl,ybh⟩ (ybC rfl) (ybC rfl) ?_
 rw[show eqT (yb8 (wTh a)) (yb8 (wTh b))=decide (a=b) from yeN a b]
 exact q
noncomputable def ytm:List Nat:=[114,101,115,116]
noncomputable def yrT:List Nat:=[116,111,110,101,115]
theorem yjN:V.str "rest"=tV ytm:=lit (by decide +kernel)
theorem ymp:V.str "tones"=tV yrT:=lit (by decide +kernel)
noncomputable def Grown (H:Hp)(a D:Addr)(ws:List (List Nat))(σ:St)(H2:Hp):Prop:=σ=[some (.ref a),some (.ref D)]/\Same H H2/\H2 D=some (.lst (ws.map tV))
theorem Grown.put {H H2:Hp}{a D:Addr}{ws:List (List Nat)}{σ:St}{w:List Nat}(hD:H D=none)(h:Grown H a D ws σ H2):Grown H a D (ws++[w]) σ (upd H2 D (.lst (ws.map tV++[tV w]))):=⟨h.1,yaS hD h.2.1,by rw[yae,List.map_append];rfl⟩
noncomputable def yfL:Sp:=λvs H Q _=>∃ (x:V) (s:Sn),vs=[x]/\Is H x (snT s)/\GoodR s/\∀ H',Same H H'->Q (tV (ylS 1 s)) H'
theorem yp8 (T:Txt K mg t)(G_zB:FnOk P w K mg base CX0 3 t.f_zB t.d_zB ["grains"] yjO)(G_zK:FnOk P w K mg base CX0 2 t.f_zK t.d_zK ["pitch"] yeZ):FnOk P w K mg base CX0 4 t.f_zac t.d_zac ["told"] yfL:=by
 refine T.Ru.F.ok sc_zac (λvs H Q E h=>?_) (λ_ _ _ s H vs Q E hr h=>?_)
 ·obtain⟨_,_,rfl,_⟩:=h;rfl
 have hu:=ybs hr
 obtain⟨x,s,rfl,ix,g,q⟩:=h
 have g2:=g.g2
 have gl:=g.2
 refine⟨_,(yac (yaK (yan (yb0 hu) (yaq yar (pv 0) yad (λ_ _=>rfl)) yat (yao _)) (yaf (yaj (yaC yaw yat (pcl G_zB hr T.zB (yaa (yaq yar (pv 0) yad (λ_ _=>rfl)) yab))))) yav) (yac (yap (i:=1) sc_zac.nd rfl (Or.inl rfl) (yaV (yaa (ybe F.plainAttrs_str F.slot_str_join F.type_str_join ycs yat (yaa (ya8 (yaH (NB:=["pitch"]) (cap:=[none]) rfl) rfl (yaY (yaq yar (pv 0) yad (λ_ _=>rfl))) (λ_ _ _ _=>(yax (i:=0) (show List.Nodup (["pitch"]:List Str) by decide) rfl (Or.inl rfl))) (λ_ _ _ _=>yaJ) (λ_ _ _ _=>(pcl G_zK hr T.zK (yaa (pv 0) yab)))) yab)) (yaa (pcl G_zB hr T.zB (yaa (yaq yar (pv 0) yad (λ_ _=>rfl)) yab)) yab)))) (yac (yaK (yaU (yaq yar (pv 0) yad (λ_ _=>rfl))) (yaf (yaG (ybe F.plainAttrs_list F.slot_list_append F.type_list_append yaP (pv 1) (yaa yat yab)))) yav) (yac (yaK (yaU (yaq yar (pv 0) yad (λ_ _=>rfl))) (yaf (yaG (ybe F.plainAttrs_list F.slot_list_append F.type_list_append yaP (pv 1) (yaa yat yab)))) yav) (yac (yaK (yan (ydZ hu) (yaq yar (pv 0) yad (λ_ _=>rfl)) yat (yao _)) (yaf (yaG (ybe F.plainAttrs_list F.slot_list_append F.type_list_append yaP (pv 1) (yaa (yaq yar (pv 0) yad (λ_ _=>rfl)) yab)))) yav) (yaf (yaj (ybe F.plainAttrs_str F.slot_str_join F.type_str_join ycs yat (yaa (pv 1) yab))))))))),?_⟩
 walk_at ""
 cases s with
 | rest n =>
  obtain⟨a,rfl,ea⟩:=ix.rest
  refine yaE (SqT.of ea) (yai (j:=0) rfl) ?_
  walk_at ""
  rw[yjN]
  refine yiU (ya0 ?_)
  rw[decide_eq_true rfl]
  refine i_T ?_
  walk_at ""
  refine yaE (SqT.of ea) (yai (j:=1) rfl) ?_
  walk_at ""
  have n2:2<=n:=g2
  have nl:n<=1000:=gl
  have al:=yiK (k:=1) (by decide) (by decide) (show 1<=n by omega) nl
  refine⟨n,rfl,by omega,by omega,λH1 s1=>?_⟩
  rw[yog (by omega)]
  refine ybT (a:=[114,32]) (b:=aW 1 n) (lit (by decide +kernel)) rfl (by simp;omega) ?_
  rw[ybi]
  exact q _ s1
 | tones ps n wd op cl =>
  obtain⟨a,y,rfl,ea,iy⟩:=ix.tones
  refine yaE (SqT.of ea) (yai (j:=0) rfl) ?_
  walk_at ""
  rw[ymp,yjN]
  refine yiU (ya0 ?_)
  rw[decide_eq_false (by decide)]
  refine i_F ?_
  have gps:=g.1.1
  have n2:2<=n:=g2
  have nl:n<=1000:=gl
  have al:=yiK (k:=1) (by decide) (by decide) (show 1<=n by omega) nl
  have pl:=ygQ gps
  obtain⟨b,xs,rfl,eb,is⟩:∃ b xs,y=.ref b/\H b=some (.lst xs)/\Iss H xs (ps.map pT):=by rw[lT,Is] at iy;exact iy
  walk_at ""
  refine⟨rfl,?_⟩
  walk_at ""
  refine yaE (SqT.of ea) (yai (j:=1) rfl) ?_
  refine⟨b,rfl,⟨_,SqL.of eb⟩,λD1 hD1=>ybD (R:=λx p=>Is H x (pT p)) (λp=>tV (pW p)) eb (ybE is) hD1 (by have:=gps.2.1;omega) (λx p H' Q' hp sm rx q'=>?_) λH1 s1 e1=>?_⟩
  ·walk_at ""
   obtain⟨c,rfl,ec⟩:=rx.pit
   have gp:=gps.2.2.1 p hp
   refine⟨c,_,_,_,rfl,⟨sm _ _ ec,gp.s0,gp.s6,gp.l0,gp.l2,gp.o0,gp.o8⟩,?_⟩
   have:=q' H' (Same.refl _)
   unfold tV pW at this
   rw[yeF] at this
   exact this
  walk_at ""
  have wl:∀ w∈ps.map pW,w.length<=4:=λw hw=>by obtain⟨p,hp,rfl⟩:=List.mem_map.mp hw;exact(yiw (gps.2.2.1 p hp)).2.2.2
  refine yeR 44 (ps.map pW) (by decide +kernel) (by rw[e1,List.map_map];rfl) (by have:=yek wl;rw[List.length_map] at this ⊢;have:=gps.2.1;omega) ?_
  walk_at ""
  refine yaE (SqT.of (s1 _ _ ea)) (yai (j:=2) rfl) ?_
  walk_at ""
  refine⟨n,rfl,by omega,by omega,λH2 s2=>?_⟩
  rw[yog (by omega)]
  walk_at ""
  have s02:=s1.trans s2
  refine⟨(by decide:(2:Nat)<=_),λD hD=>?_⟩
  have gr:Grown H a D [psW ps,aW 1 n] [some (.ref a),some (.ref D)] (upd H2 D (.lst [tV (psW ps),tV (aW 1 n)])):=⟨rfl,s02.trans (yag hD _),yae⟩
  have hD0:=ya6 s02 hD
  refine ybj ?_
  have gr:Grown H a D [psW ps,aW 1 n] _ (upd H2 D (.lst [tV (psW ps),tV (aW 1 n)])):=gr
  refine ycw (yku (te:=yip _ _ _) (Grown H a D ([psW ps,aW 1 n]++if op then [[40]] else [])) (λD' hD'=>?_) fun σ H4 gr=>?_)
  ·walk_at ""
   refine yaE (SqT.of (gr.2.1 _ _ ea)) (yai (j:=4) rfl) (ya0 ?_)
   cases op
   ·exact i_F (ybn (hD' _ _ (by rw[show(if false=true then [[40]] else [])=([]:List (List Nat)) from rfl,List.append_nil];exact gr)))
   ·refine i_T ?_
    walk_at ""
    refine⟨.inl ⟨rfl,_,SqL.of gr.2.2⟩,?_⟩
    walk_at ""
    rw[show V.str "("=tV [40] from lit (by decide +kernel)]
    exact ych gr.2.2 (yaz (by simp)) (hD' _ _ (gr.put hD0))
  obtain⟨rfl,s4,e4⟩:=gr
  have gr:Grown H a D _ _ H4:=⟨rfl,s4,e4⟩
  dsimp only
  refine ycw (yku (te:=yip _ _ _) (Grown H a D (([psW ps,aW 1 n]++if op then [[40]] else [])++if cl then [[41]] else [])) (λD' hD'=>?_) fun σ H5 gr=>?_)
  ·walk_at ""
   refine yaE (SqT.of (gr.2.1 _ _ ea)) (yai (j:=5) rfl) (ya0 ?_)
   cases cl
   ·exact i_F (ybn (hD' _ _ (by rw[show(if false=true then [[41]] else [])=([]:List (List Nat)) from rfl,List.append_nil];exact gr)))
   ·refine i_T ?_
    walk_at ""
    refine⟨.inl ⟨rfl,_,SqL.of gr.2.2⟩,?_⟩
    walk_at ""
    rw[show V.str ")"=tV [41] from lit (by decide +kernel)]
    exact ych gr.2.2 (yaz (by cases op<;>simp)) (hD' _ _ (gr.put hD0))
  obtain⟨rfl,s5,e5⟩:=gr
  have gr:Grown H a D _ _ H5:=⟨rfl,s5,e5⟩
  dsimp only
  refine ycw (yku (te:=yip _ _ _) (Grown H a D (psW ps :: aW 1 n :: tlW op cl wd.cps.toList)) (λD' hD'=>?_) fun σ H6 gr=>?_)
  ·walk_at ""
   refine yaE (SqT.of (gr.2.1 _ _ ea)) (yai (j:=3) rfl) ?_
   walk_at ""
   have ew:V.str wd=tV wd.cps.toList:=by unfold tV;rw[yeF]
   have et:psW ps :: aW 1 n :: tlW op cl wd.cps.toList=(([psW ps,aW 1 n]++if op then [[40]] else [])++if cl then [[41]] else [])++if wd.cps.toList=[] then [] else [wd.cps.toList]:=by
    unfold tlW tcW
    simp
   rw[et] at hD'
   rw[ew,show V.str ""=tV [] from lit (by decide +kernel)]
   refine yoj (ya0 ?_)
   by_cases e:wd.cps.toList=[]
   ·rw[decide_eq_true e]
    rw[if_pos e,List.append_nil] at hD'
    exact i_F (ybn (hD' _ _ gr))
   ·rw[decide_eq_false e]
    rw[if_neg e] at hD'
    refine i_T ?_
    walk_at ""
    refine⟨.inl ⟨rfl,_,SqL.of gr.2.2⟩,?_⟩
    walk_at ""
    refine yaE (SqT.of (gr.2.1 _ _ ea)) (yai (j:=3) rfl) ?_
    walk_at ""
    rw[ew]
    exact ych gr.2.2 (yaz (by cases op<;>cases cl<;>simp)) (hD' _ _ (gr.put hD0))
  obtain⟨rfl,s6,e6⟩:=gr
  dsimp only
  walk_at ""
  refine⟨rfl,?_⟩
  walk_at ""
  have sk:=ylJ (k:=1) (by decide) (by decide) g
  have sl:=yek (k:=20) λw hw=>(sk.2 w hw).2
  have sn:=ylR 1 (.tones ps n wd op cl)
  exact yeR 32 (sWs 1 (.tones ps n wd op cl)) (by decide +kernel) e6 (by omega) (q _ s6)
open TX K2 K3
theorem yfM {k:Int}{vss:List (List Sn)}{i:Nat}(h:i < vss.length):ybg k (vss.take (i+1))=ybg k (vss.take i)++ybI :: vss[i].map (ylS k):=by
 unfold ybg
 rw[List.take_succ_eq_append_getElem h,List.map_append,List.flatten_append]
 simp
theorem yom {ta:TA}{g:TG}{tb:TS}{D:yex}{σ:St}{H:Hp}(q:ta σ H λvs H1=>∃ i j:Int,vs=[.int i,.int j]/\(-(2 ^ 62)<=i/\i < 2 ^ 62/\-(2 ^ 62)<=j/\j < 2 ^ 62)/\ypK (Itr i (j - i).toNat) g tb D σ H1):yoO (yoM ta) g tb D σ H:=q
noncomputable def yfF (t:Ad):Sp:=λvs H Q _=>∃ (x:V) (fw:List Fr) (tvs:List (List Sn)) (Hs:Hp),vs=[x]/\Same Hs H/\TuneIs t Hs x tvs fw/\TuneHas t Hs x (ydR true fw) (ydR false fw)/\FwOk fw/\yfv tvs/\GoodVR tvs/\∀ H',Same H H'->Q (tV (yeh 1 fw tvs)) H'
theorem yrP (T:Txt K mg t)(G_zx:FnOk P w K mg base CX0 2 t.f_zx t.d_zx ["tune"] (ydN t))(G_zN:FnOk P w K mg base CX0 3 t.f_zN t.d_zN ["change"] ye8)(G_zag:FnOk P w K mg base CX0 1 t.f_zag t.d_zag ["self"] (ymx t))(G_zd:FnOk P w K mg base CX0 3 t.f_zd t.d_zd ["self","voice"] (ygB t))(G_zac:FnOk P w K mg base CX0 4 t.f_zac t.d_zac ["told"] yfL):FnOk P w K mg base CX0 5 t.f_zab t.d_zab ["tune"] (yfF t):=by
 refine T.QF.F.ok sc_zab (λvs H Q E h=>?_) (λ_ _ _ s H vs Q E hr h=>?_)
 ·obtain⟨_,_,_,_,rfl,_⟩:=h;rfl
 have hu:=ybs hr
 obtain⟨x,fw,tvs,Hs,rfl,sH,tu,th,ok,gw,gv,q⟩:=h
 obtain⟨ta,dx,m,k,v,f,rfl,ea,_⟩:=id tu
 have rd:=ydh ok
 have l60:=rd.l60
 have rv:=yd2 (k:=1) gv
 refine⟨_,(yac (ybQ (i:=1) sc_zab.nd rfl (Or.inl rfl) (yaH (NB:=["change"]) (cap:=[none]) rfl) rfl (yaY (pcl G_zx hr T.zx (yaa (pv 0) yab))) (λ_ _ _ _=>(yax (i:=0) (show List.Nodup (["change"]:List Str) by decide) rfl (Or.inl rfl))) (λ_ _ _ _=>yaJ) (λ_ _ _ _=>(pcl G_zN hr T.zN (yaa (pv 0) yab)))) (yac (yco PassesOwn.never rfl (ygS rfl T.Jo (yaa yad (yaa (yaC yby (yb7 (pv 0) T.Jb T.Qr G_zag (hr.mono (by first | decide | omega)) T.QP.B .nil ycx) yad) yab))) (yax (i:=2) sc_zab.nd rfl (Or.inl rfl)) (yac (yaG (ybe F.plainAttrs_list F.slot_list_append F.type_list_append yaP (pv 1) (yaa yat yab))) (yaf (yaG (ybe F.plainAttrs_list F.slot_list_extend F.type_list_extend yfg (pv 1) (yaa (ya8 (yaH (NB:=["told"]) (cap:=[none]) rfl) rfl (yaY (yiN (pv 0) T.Jb T.Qw G_zd (hr.mono (by first | decide | omega)) T.zd.B .nil ycx (yaa (pv 2) yab))) (λ_ _ _ _=>(yax (i:=0) (show List.Nodup (["told"]:List Str) by decide) rfl (Or.inl rfl))) (λ_ _ _ _=>yaJ) (λ_ _ _ _=>(pcl G_zac hr T.Ru (yaa (pv 0) yab)))) yab)))))) (yaf (yaj (ybe F.plainAttrs_str F.slot_str_join F.type_str_join ycs yat (yaa (pv 1) yab)))))),?_⟩
 walk_at ""
 refine⟨_,fw,Hs,rfl,sH,th,ok,λy1 H1 s1 i1=>?_⟩
 obtain⟨a1,xs1,rfl,e1,is1⟩:∃ a xs,y1=.ref a/\nw Hs H H1 a=some (.lst xs)/\Iss (nw Hs H H1) xs ((yce fw fw.length).map c3T):=by rw[Is] at i1;exact i1
 have o1:Same (nw Hs H H1) H1:=yeH sH s1
 refine⟨a1,rfl,⟨_,SqL.of (o1 _ _ e1)⟩,λD hD=>ybD (R:=λx c=>Is H1 x (c3T c)) (λc=>tV (ydV c)) (o1 _ _ e1) (ybE (is1.same o1)) hD (by omega) (λx c H' Q' hc sm rx q'=>?_) λH2 s2 e2=>?_⟩
 ·walk_at ""
  obtain⟨i,hi,rfl⟩:=List.mem_iff_getElem.mp hc
  obtain⟨g1,g2⟩:=rd.g i hi
  exact⟨x,_,rfl,rx.same sm,g1,(yl5 fw _ _ hc).1,g2.le,q'⟩
 have s02:=s1.trans s2
 walk_at ""
 have n2:=gw.n2
 have hD0:=ya6 s1 hD
 refine yom ?_
 walk_at ""
 refine⟨ta,dx,_,rfl,s02 _ _ (sH _ _ ea),rfl,?_⟩
 walk_at ""
 refine⟨_,tvs,fw,rfl,tu.same (sH.trans s02),?_⟩
 walk_at ""
 refine⟨1,(tvs.length:Int)+1,rfl,by omega,?_⟩
 rw[show((tvs.length:Int)+1 - 1).toNat=tvs.length by omega]
 refine ydp (λi σ H'=>(∃ o,σ=[some (.ref ta),some (.ref D),o])/\Same H H'/\H' D=some (.lst (((yce fw fw.length).map ydV++ybg 1 (tvs.take i)).map tV))) ⟨⟨_,rfl⟩,s02,by rw[e2,List.take_zero,show ybg 1 []=[] from rfl,List.append_nil,List.map_map];rfl⟩ ?_ ?_
 ·rintro i σ H' N hN hi ⟨⟨o,rfl⟩,sm,hd⟩
  have g2:=gw.len _ (List.getElem_mem hi)
  have rl:(ybg 1 (tvs.take i)).length<=194:=by
   have e:(ybg 1 tvs).length=(ybg 1 (tvs.take i)).length+(ybg 1 (tvs.drop i)).length:=by
    rw[← List.length_append]
    congr 1
    unfold ybg
    rw[← List.flatten_append,← List.map_append,List.take_append_drop]
   omega
  refine ybj ?_
  walk_at ""
  refine⟨.inl ⟨rfl,_,SqL.of hd⟩,?_⟩
  walk_at ""
  rw[show V.str "voice"=tV ybI from lit (by decide +kernel)]
  refine ych hd (yaz (by rw[List.length_map,List.length_append,List.length_map];omega)) ?_
  have s3:Same H (upd H' D (.lst (((yce fw fw.length).map ydV++ybg 1 (tvs.take i)).map tV++[tV ybI]))):=yaS hD0 sm
  have e3:=yae (H:=H') (a:=D) (o:=.lst (((yce fw fw.length).map ydV++ybg 1 (tvs.take i)).map tV++[tV ybI]))
  generalize upd H' D _=H3 at s3 e3 ⊢
  walk_at ""
  refine⟨.inl ⟨rfl,_,SqL.of e3⟩,?_⟩
  walk_at ""
  refine⟨ta,dx,_,rfl,s3 _ _ (sH _ _ ea),rfl,?_⟩
  walk_at ""
  refine⟨_,tvs,fw,i,hi,Hs,by rw[show(1:Int)+(i:Int)=((i+1:Nat):Int) by omega];rfl,sH.trans s3,tu,gw,λy4 H4 s4 i4=>?_⟩
  obtain⟨a4,xs4,rfl,e4,is4⟩:∃ a xs,y4=.ref a/\nw Hs H3 H4 a=some (.lst xs)/\Iss (nw Hs H3 H4) xs (tvs[i].map snT):=by rw[vT,Is] at i4;exact i4
  have o4:Same (nw Hs H3 H4) H4:=yeH (sH.trans s3) s4
  refine⟨a4,rfl,⟨_,SqL.of (o4 _ _ e4)⟩,λD5 hD5=>ybD (R:=λx s=>Is H4 x (snT s)) (λs=>tV (ylS 1 s)) (o4 _ _ e4) (ybE (is4.same o4)) hD5 (by omega) (λx s H' Q' hs sm rx q'=>?_) λH5 s5 e5=>?_⟩
  ·walk_at ""
   exact⟨x,s,rfl,rx.same sm,(gv.v _ (List.getElem_mem hi)).2.2 s hs,q'⟩
  walk_at ""
  refine⟨D,D5,_,_,rfl,rfl,(s4.trans s5) _ _ e3,e5,small (by simp;omega),hN _ _ ⟨⟨_,rfl⟩,yaS hD0 (s3.trans (s4.trans s5)),?_⟩⟩
  rw[yae,yfM hi]
  simp[List.map_map]
 ·rintro σ H' ⟨⟨o,rfl⟩,sm,hd⟩
  rw[List.take_length] at hd
  have rk:=yf3 (k:=1) (by decide) (by decide) ok gv
  have sl:=yek (k:=105) λw hw=>(rk.2.2 w hw).2
  have:=rk.2.1
  walk_at ""
  refine⟨rfl,?_⟩
  walk_at ""
  exact yeR 10 (ydK 1 fw tvs) (by decide +kernel) hd (by omega) (q _ sm)
open TX K2 K3
noncomputable def yk3 (q:Int×Int)(p:Int):Int×Int:=if q.1%p=0/\q.2%p=0 then (q.1 / p,q.2 / p) else q
noncomputable def sixP:List Int:=[2,2,2,2,2,3]
theorem ypd:(List.range 1001).all (λn=>decide (sixP.foldl yk3 ((n:Int),96)=(ybm n,yc6 n)))=true:=by decide +kernel
theorem yp3 {g:Int}(h0:0<=g)(h1:g<=1000):sixP.foldl yk3 (g,96)=(ybm g,yc6 g):=by
 have:=List.all_eq_true.mp ypd g.toNat (List.mem_range.mpr (by omega))
 have:=of_decide_eq_true this
 rwa [show((g.toNat:Nat):Int)=g by omega] at this
theorem ysr {i j:Nat}{ta:TA}{D:yex}{σ:St}{H:Hp}(q:ta σ H λvs H1=>∃ v w,vs=[v,w]/\D.nx ((σ.set i (some v)).set j (some w)) H1):yuw i j ta D σ H:=q
theorem ydz {i:Int}(hi:Num i):i.natAbs.log2 < 1920:=by
 by_cases e:i.natAbs=0
 ·rw[e];decide
 ·rw[Nat.log2_lt e]
  have:(2:Nat) ^ 14<=2 ^ 1920:=Nat.pow_le_pow_right (by decide) (by decide)
  have h14:(2:Nat) ^ 14=16384:=by decide
  have:=hi.1
  have:=hi.2
  omega
theorem ydA {i:Int}(hi:Num i):V.str (Str.ofString (toString i))=tV (nW i):=by rw[ymB hi];rfl
noncomputable def ygX:Sp:=λvs H Q _=>∃ g k:Int,vs=[.int g,.int k]/\2<=g/\g<=1000/\1<=k/\k<=7/\∀ H',Same H H'->Q (tV (aW k g)) H'
theorem ysS (T:Txt K mg t):FnOk P w K mg base CX0 1 t.f_zH t.d_zH ["_law_grains","_law_times"] ygX:=by
 refine T.zH.F.ok sc_zH (λvs H Q E h=>?_) (λ_ _ _ s H vs Q E hr h=>?_)
 ·obtain⟨_,_,rfl,_⟩:=h;rfl
 have hu:=ybs hr
 obtain⟨g,k,rfl,g2,g3,k1,k7,q⟩:=h
 refine⟨_,(yac (yr3 (i:=2) (j:=3) rfl sc_zH.nd rfl rfl (by decide) rfl rfl (yaa (pv 0) (yaa yad yab)) rfl) (yac (yco PassesOwn.never rfl (yaY (yaV (yaa yad (yaa yad (yaa yad (yaa yad (yaa yad (yaa yad yab)))))))) (yax (i:=4) sc_zH.nd rfl (Or.inl rfl)) (yaf (yaK (PW.pt (yd5 (yan yci (yaC ydw (pv 2) (pv 4)) yad (yao _)) (yda (yan yci (yaC ydw (pv 3) (pv 4)) yad (yao _))))) (yac (yap (i:=2) sc_zH.nd rfl (Or.inl rfl) (yaC yc8 (pv 2) (pv 4))) (yaf (yap (i:=3) sc_zH.nd rfl (Or.inl rfl) (yaC yc8 (pv 3) (pv 4))))) yav))) (yac (yaK (PW.pt (yd5 (yan yci (pv 3) yad (yao _)) (yda (yan yci (pv 1) yad (yao _))))) (yaf (yaj (yaT ya3 rfl T.Jg yaX (yaa (pv 2) yab)))) yav) (yaf (yaj (yaC yaw (yaC yaw (yaT ya3 rfl T.Jg yaX (yaa (yaC ycp (pv 2) (pv 1)) yab)) yat) (yaT ya3 rfl T.Jg yaX (yaa (yaC ycp (pv 3) (pv 1)) yab)))))))),?_⟩
 walk_at ""
 refine ysr ?_
 walk_at ""
 refine⟨_,_,rfl,?_⟩
 walk_at ""
 refine⟨(by decide:(6:Nat)<=_),λp hp=>?_⟩
 have s1:=yag hp (.lst (sixP.map V.int))
 have e1:=yae (H:=H) (a:=p) (o:=.lst (sixP.map V.int))
 rw[show[V.int 2,V.int 2,V.int 2,V.int 2,V.int 2,V.int 3]=sixP.map V.int from rfl]
 generalize upd H p _=H1 at s1 e1 ⊢
 refine⟨p,rfl,⟨_,SqL.of e1⟩,ycc (xs:=sixP.map V.int) (λi σ H'=>H'=H1/\∃ o,σ=[some (.int g),some (.int k),some (.int ((sixP.take i).foldl yk3 (g,96)).1),some (.int ((sixP.take i).foldl yk3 (g,96)).2),o]) ⟨rfl,_,rfl⟩ (λi σ H' _ h=>by rw[h.1];exact SqL.of e1) ?_ ?_⟩
 ·rintro i x σ H' N hN hx ⟨rfl,o,rfl⟩
  rw[List.getElem?_map] at hx
  obtain⟨z,hz,rfl⟩:=Option.map_eq_some_iff.mp hx
  obtain⟨hi,ez⟩:=List.getElem?_eq_some_iff.mp hz
  have zp:z=2∨z=3:=by
   have:=List.mem_of_getElem? hz
   simpa [sixP] using this
  have st:(sixP.take (i+1)).foldl yk3 (g,96)=yk3 ((sixP.take i).foldl yk3 (g,96)) z:=by rw[List.take_succ_eq_append_getElem hi,List.foldl_append,ez];rfl
  rw[st] at hN
  generalize (sixP.take i).foldl yk3 (g,96)=qq at hN ⊢
  refine ybj ?_
  walk_at ""
  have zc:0 < z/\z < 1073741824:=by omega
  refine i_I (by omega) ?_
  walk_at ""
  refine i_d (λh1=>?_) λh1=>?_
  ·walk_at ""
   refine i_I (by omega) ?_
   walk_at ""
   refine i_d (λh2=>?_) λh2=>?_
   ·walk_at ""
    refine ypl zc ?_
    walk_at ""
    refine ypl zc ?_
    walk_at ""
    exact hN _ _ ⟨rfl,_,by unfold yk3;rw[if_pos ⟨h1,h2⟩];rfl⟩
   ·exact ybn (hN _ _ ⟨rfl,_,by unfold yk3;rw[if_neg (λz=>h2 z.2)];rfl⟩)
  ·exact i_F (ybn (hN _ _ ⟨rfl,_,by unfold yk3;rw[if_neg (λz=>h1 z.1)];rfl⟩))
 ·rintro σ H' ⟨rfl,o,rfl⟩
  rw[List.length_map,List.take_length,yp3 (by omega) g3]
  obtain⟨n1,n2,n3⟩:=ylh k1 k7 (show 1<=g by omega) g3
  walk_at ""
  have t1:=ybH (i:=ybm g) ⟨by omega,by omega⟩
  have t2:=ybH (i:=ybm g*k) ⟨by omega,by omega⟩
  have t3:=ybH (i:=yc6 g*k) ⟨by omega,by omega⟩
  have fin:∀ En:yex,En.rt (tV (aW k g)) H'->¬ (yc6 g=1/\k=1)->ysc (tOp (λx y H Q=>∃ i j,x=V.str i/\y=V.str j/\i.length+j.length<=sizeLine/\Q (V.str (i++j)) H) (tOp (λx y H Q=>∃ i j,x=V.str i/\y=V.str j/\i.length+j.length<=sizeLine/\Q (V.str (i++j)) H) (tCB (λxs H Q=>∃ i,xs=[V.int i]/\i.natAbs.log2 < 1920/\Q (V.str (Str.ofString (toString i))) H) (yb3 (tOp (rI IntMulOk λi j=>V.int (i*j)) (ydD 2) (ydD 1)) yh6)) (tC (V.str "/"))) (tCB (λxs H Q=>∃ i,xs=[V.int i]/\i.natAbs.log2 < 1920/\Q (V.str (Str.ofString (toString i))) H) (yb3 (tOp (rI IntMulOk λi j=>V.int (i*j)) (ydD 3) (ydD 1)) yh6))) En [some (V.int g),some (V.int k),some (V.int (ybm g)),some (V.int (yc6 g)),o] H':=λEn this ne=>by
   walk_at ""
   refine yeo (.inr (by omega)) ?_
   walk_at ""
   refine⟨ybm g*k,rfl,ydz ⟨by omega,by omega⟩,?_⟩
   rw[ydA ⟨by omega,by omega⟩]
   walk_at ""
   refine ybT (b:=[47]) rfl (lit (by decide +kernel)) (by simp;omega) ?_
   rw[ybi]
   walk_at ""
   refine yeo (.inr (by omega)) ?_
   walk_at ""
   refine⟨yc6 g*k,rfl,ydz ⟨by omega,by omega⟩,?_⟩
   rw[ydA ⟨by omega,by omega⟩]
   walk_at ""
   refine ybT rfl rfl (by simp;omega) ?_
   rw[ybi]
   unfold aW at this
   rw[if_neg ne] at this
   rw[show nW (ybm g*k)++[47]++nW (yc6 g*k)=nW (ybm g*k)++47 :: nW (yc6 g*k) by simp]
   exact this
  refine i_d (λh1=>?_) λh1=>?_
  ·walk_at ""
   refine i_d (λh2=>?_) λh2=>?_
   ·walk_at ""
    refine⟨ybm g,rfl,ydz ⟨by omega,by omega⟩,?_⟩
    rw[ydA ⟨by omega,by omega⟩]
    walk_at ""
    have:=q _ s1
    unfold aW at this
    rw[if_pos ⟨h1,h2⟩] at this
    exact this
   ·exact ybn (fin _ (q _ s1) λz=>h2 z.2)
  ·exact i_F (ybn (fin _ (q _ s1) λz=>h1 z.1))
open TX K2 K3
theorem yig {p:Addr}{a b c:V}{m n o:Nat}{σ:St}{H:Hp}{N:St->Hp->Prop}(s:SqT K H p [a,b,c])(q:N (((σ.set m (some a)).set n (some b)).set o (some c)) H):ykJ K 3 (ycF (ybZ m) (ycF (ybZ n) (ycF (ybZ o) ykS))) (.ref p) σ H N:=⟨p,_,rfl,s,rfl,a,_,rfl,b,_,rfl,c,_,rfl,rfl,q⟩
noncomputable def yn6:Sp:=λvs H Q _=>∃ (x:V) (s:Sn) (k:Int),vs=[x,.int k]/\Is H x (snT s)/\GoodR s/\1<=k/\k<=7/\∀ H',Same H H'->Q (tV (ylS k s)) H'
theorem yrv (T:Txt K mg t)(G_zH:FnOk P w K mg base CX0 1 t.f_zH t.d_zH ["_law_grains","_law_times"] ygX):FnOk P w K mg base CX0 2 t.f_zaA t.d_zaA ["_law_told","_law_times"] yn6:=by
 refine T.Rv.F.ok sc_zaA (λvs H Q E h=>?_) (λ_ _ _ s H vs Q E hr h=>?_)
 ·obtain⟨_,_,_,rfl,_⟩:=h;rfl
 have hu:=ybs hr
 obtain⟨x,s,k,rfl,ix,g,k1,k7,q⟩:=h
 have g2:=g.g2
 have gl:=g.2
 refine⟨_,(yac (yaK (yan (yb0 hu) (yaq yar (pv 0) yad (λ_ _=>rfl)) yat (yao _)) (yaf (yaj (yaC yaw yat (pcl G_zH hr T.zH (yaa (yaq yar (pv 0) yad (λ_ _=>rfl)) (yaa (pv 1) yab)))))) yav) (yac (yap (i:=2) sc_zaA.nd rfl (Or.inl rfl) (yaV yab)) (yac (yco PassesOwn.never rfl (yaY (yaq yar (pv 0) yad (λ_ _=>rfl))) (ydy (n:=3) rfl (yaZ (yax (i:=3) sc_zaA.nd rfl (Or.inl rfl)) (yaZ (yax (i:=4) sc_zaA.nd rfl (Or.inl rfl)) (yaZ (yax (i:=5) sc_zaA.nd rfl (Or.inl rfl)) ycD)))) (yaf (yaG (ybe F.plainAttrs_list F.slot_list_append F.type_list_append yaP (pv 2) (yaa (yaC yaw (yaC yaw (yaq ygG yat (pv 3) (λ_ _=>rfl)) (yaq yaD (yaV (yaa yat (yaa yat (yaa yat (yaa yat (yaa yat yab)))))) (yaC yby (pv 4) yad) (λ_ _=>rfl))) (yaT ya3 rfl T.Jg yaX (yaa (pv 5) yab))) yab))))) (yac (yap (i:=6) sc_zaA.nd rfl (Or.inl rfl) (yaC yaw (yaC yaw (ybe F.plainAttrs_str F.slot_str_join F.type_str_join ycs yat (yaa (pv 2) yab)) yat) (pcl G_zH hr T.zH (yaa (yaq yar (pv 0) yad (λ_ _=>rfl)) (yaa (pv 1) yab))))) (yac (yap (i:=6) sc_zaA.nd rfl (Or.inl rfl) (yaC yaw (yaC yaw (pv 6) (yaC ygA yat (yaT yhD rfl T.Qa yeB (yaa (yaq yar (pv 0) yad (λ_ _=>rfl)) yab)))) (yaC ygA yat (yaT yhD rfl T.Qa yeB (yaa (yaq yar (pv 0) yad (λ_ _=>rfl)) yab))))) (yac (yaK (yan (ydZ hu) (yaq yar (pv 0) yad (λ_ _=>rfl)) yat (yao _)) (yaf (yap (i:=6) sc_zaA.nd rfl (Or.inl rfl) (yaC yaw (yaC yaw (pv 6) yat) (yaq yar (pv 0) yad (λ_ _=>rfl))))) yav) (yaf (yaj (pv 6))))))))),?_⟩
 walk_at ""
 cases s with
 | rest n =>
  obtain⟨a,rfl,ea⟩:=ix.rest
  refine yaE (SqT.of ea) (yai (j:=0) rfl) ?_
  walk_at ""
  rw[yjN]
  refine yiU (ya0 ?_)
  rw[decide_eq_true rfl]
  refine i_T ?_
  walk_at ""
  refine yaE (SqT.of ea) (yai (j:=1) rfl) ?_
  walk_at ""
  have n2:2<=n:=g2
  have nl:n<=1000:=gl
  have al:=yiK k1 k7 (show 1<=n by omega) nl
  refine⟨n,k,rfl,by omega,by omega,k1,k7,λH1 s1=>?_⟩
  refine ybT (a:=[114,32]) (b:=aW k n) (lit (by decide +kernel)) rfl (by simp;omega) ?_
  rw[ybi]
  exact q _ s1
 | tones ps n wd op cl =>
  obtain⟨a,y,rfl,ea,iy⟩:=ix.tones
  refine yaE (SqT.of ea) (yai (j:=0) rfl) ?_
  walk_at ""
  rw[ymp,yjN]
  refine yiU (ya0 ?_)
  rw[decide_eq_false (by decide)]
  refine i_F ?_
  have gps:=g.1.1
  have n2:2<=n:=g2
  have nl:n<=1000:=gl
  have al:=yiK k1 k7 (show 1<=n by omega) nl
  have pl:=ygQ gps
  obtain⟨b,xs,rfl,eb,is⟩:∃ b xs,y=.ref b/\H b=some (.lst xs)/\Iss H xs (ps.map pT):=by rw[lT,Is] at iy;exact iy
  walk_at ""
  refine⟨Nat.zero_le _,λD hD=>?_⟩
  have s1:=yag hD (.lst [])
  have e1:=yae (H:=H) (a:=D) (o:=.lst [])
  generalize upd H D _=H1 at s1 e1 ⊢
  walk_at ""
  refine yaE (SqT.of (s1 _ _ ea)) (yai (j:=1) rfl) ?_
  have eb1:=s1 _ _ eb
  have lx:=is.len
  rw[List.length_map] at lx
  have p4:=gps.2.1
  refine⟨b,rfl,⟨_,SqL.of eb1⟩,ycc (xs:=xs) (λi σ H'=>(∃ o1 o2 o3,σ=[some (.ref a),some (.int k),some (.ref D),o1,o2,o3,none])/\Same H H'/\H' D=some (.lst (((ps.take i).map pW).map tV))) ⟨⟨_,_,_,rfl⟩,s1,e1⟩ (λi σ H' _ h=>SqL.of (h.2.1 _ _ eb)) ?_ ?_⟩
  ·rintro i x σ H' N hN hx ⟨⟨o1,o2,o3,rfl⟩,sm,hd⟩
   have hi:i < ps.length:=by have:=(List.getElem?_eq_some_iff.mp hx).1;omega
   obtain⟨x',e,rx⟩:=(ybE is).2 i hi
   rw[hx] at e
   cases e
   obtain⟨c,rfl,ec⟩:=rx.pit
   have gp:=gps.2.2.1 _ (List.getElem_mem hi)
   have ep:tV (pW ps[i])=.str (yf1 ps[i].st ps[i].ln ps[i].oc):=by unfold tV pW;rw[yeF]
   have tk:(ps.take (i+1)).map pW=(ps.take i).map pW++[pW ps[i]]:=by rw[List.take_succ_eq_append_getElem hi,List.map_append];rfl
   rw[tk] at hN
   generalize ps[i]=p at ec gp ep hN
   refine yig (SqT.of (sm _ _ ec)) ?_
   walk_at ""
   refine⟨.inl ⟨rfl,_,SqL.of hd⟩,?_⟩
   walk_at ""
   obtain⟨cc,hc,elc⟩:=yg1 gp.s0 gp.s6
   refine⟨_,_,cc,rfl,rfl,by decide +kernel,hc,?_⟩
   rw[elc]
   walk_at ""
   refine⟨(by decide:(5:Nat)<=_),λq1 hq1=>?_⟩
   have s3:=yag hq1 (.lst [V.str "--",V.str "-",V.str "",V.str "+",V.str "++"])
   have e3:=yae (H:=H') (a:=q1) (o:=.lst [V.str "--",V.str "-",V.str "",V.str "+",V.str "++"])
   generalize upd H' q1 _=H3 at s3 e3 ⊢
   walk_at ""
   refine ybf (SqL.of e3) (ypa gp.l0 gp.l2) ?_
   have l1:=yfK p.st
   have l2:=ymI gp.l0 gp.l2
   have l3:=ylu p.oc
   refine⟨_,_,rfl,rfl,small (by omega),?_⟩
   walk_at ""
   refine⟨p.oc,rfl,ydz ⟨by have:=gp.o0;omega,by have:=gp.o8;omega⟩,?_⟩
   rw[ydA ⟨by have:=gp.o0;omega,by have:=gp.o8;omega⟩,yoA gp.o0 gp.o8]
   refine⟨_,_,rfl,rfl,small (by rw[yeS];omega),?_⟩
   walk_at ""
   have hd3:=s3 _ _ hd
   refine ych hd3 (yaz (by rw[List.length_map,List.length_map,List.length_take];omega)) (hN _ _ ⟨⟨_,_,_,rfl⟩,yaS hD (sm.trans s3),?_⟩)
   rw[yae,List.map_append]
   show some (HO.lst (_++[V.str (yf1 p.st p.ln p.oc)]))=_
   rw[← ep]
   rfl
  ·rintro σ H' ⟨⟨o1,o2,o3,rfl⟩,sm,hd⟩
   rw[lx,List.take_length] at hd
   walk_at ""
   refine⟨rfl,?_⟩
   walk_at ""
   have wl:∀ w∈ps.map pW,w.length<=4:=λw hw=>by obtain⟨p,hp,rfl⟩:=List.mem_map.mp hw;exact(yiw (gps.2.2.1 p hp)).2.2.2
   refine yeR 44 (ps.map pW) (by decide +kernel) hd (by have:=yek wl;rw[List.length_map] at this ⊢;omega) ?_
   walk_at ""
   refine ybT (a:=psW ps) rfl sp1 (by simp;omega) ?_
   rw[ybi]
   walk_at ""
   refine yaE (SqT.of (sm _ _ ea)) (yai (j:=2) rfl) ?_
   walk_at ""
   refine⟨n,k,rfl,by omega,by omega,k1,k7,λH4 s4=>?_⟩
   refine ybT rfl rfl (by simp;omega) ?_
   rw[ybi]
   have s04:=sm.trans s4
   walk_at ""
   refine yaE (SqT.of (s04 _ _ ea)) (yai (j:=4) rfl) ?_
   walk_at ""
   refine .inr ⟨op,rfl,?_⟩
   refine⟨_,_,rfl,rfl,by cases op<;>exact⟨by decide +kernel,by decide +kernel,by decide +kernel⟩,?_⟩
   rw[show Txt.mul " (" (if op=true then 1 else 0)=ofL (if op then [32,40] else []) by cases op<;>decide +kernel]
   refine ybT (b:=if op then [32,40] else []) rfl rfl (by cases op<;>simp<;>omega) ?_
   rw[ybi]
   walk_at ""
   refine yaE (SqT.of (s04 _ _ ea)) (yai (j:=5) rfl) ?_
   walk_at ""
   refine .inr ⟨cl,rfl,?_⟩
   refine⟨_,_,rfl,rfl,by cases cl<;>exact⟨by decide +kernel,by decide +kernel,by decide +kernel⟩,?_⟩
   rw[show Txt.mul " )" (if cl=true then 1 else 0)=ofL (if cl then [32,41] else []) by cases cl<;>decide +kernel]
   refine ybT (b:=if cl then [32,41] else []) rfl rfl (by cases op<;>cases cl<;>simp<;>omega) ?_
   rw[ybi]
   walk_at ""
   refine yaE (SqT.of (s04 _ _ ea)) (yai (j:=3) rfl) ?_
   walk_at ""
   have ew:V.str wd=tV wd.cps.toList:=by unfold tV;rw[yeF]
   rw[ew,show V.str ""=tV [] from lit (by decide +kernel)]
   have wl3:wd.cps.size<=12:=g.1.2.2.2.1
   have wl2:wd.cps.toList.length<=12:=by have:=g.1.2.2.2.1;rw[Array.length_toList];exact this
   have base:psW ps++[32]++aW k n++(if op then [32,40] else [])++(if cl then [32,41] else [])++(if wd.cps.toList=[] then [] else [32]++wd.cps.toList)=ylS k (.tones ps n wd op cl):=by
    unfold ylS sWs tlW tcW
    rw[yeg]
    cases op<;>cases cl<;>by_cases e:wd.cps.toList=[]<;>simp[e]
   refine yoj (ya0 ?_)
   by_cases e:wd.cps.toList=[]
   ·rw[decide_eq_true e]
    rw[if_pos e,List.append_nil] at base
    rw[base]
    exact i_F (ybn (yo6 (ydf rfl (q _ s04))))
   ·rw[decide_eq_false e]
    rw[if_neg e,← List.append_assoc] at base
    refine i_T ?_
    walk_at ""
    refine ybT rfl sp1 (by cases op<;>cases cl<;>simp<;>omega) ?_
    rw[ybi]
    walk_at ""
    refine yaE (SqT.of (s04 _ _ ea)) (yai (j:=3) rfl) ?_
    rw[ew]
    refine ybT rfl rfl (by cases op<;>cases cl<;>simp<;>omega) ?_
    rw[ybi,base]
    walk_at ""
    exact q _ s04
open TX K2 K3
theorem ysK (T:Txt K mg t):FnOk P w K mg base CX0 1 t.f_ze t.d_ze ["_law_metre_here"] ycS:=by
 refine T.ze.F.ok sc_ze (λvs H Q E h=>?_) (λ_ _ _ s H vs Q E hr h=>?_)
 ·obtain⟨_,_,rfl,_⟩:=h;rfl
 have hu:=ybs hr
 obtain⟨x,m,rfl,im,hm,q⟩:=h
 have gm:=(yb6 m hm).1
 obtain⟨a,b,rfl,ea,eb⟩:=im.mt
 have nt:Num m.tp:=⟨by have:=gm.t1;omega,by have:=gm.t2;omega⟩
 have nb:Num m.bt:=⟨by have:=gm.b;omega,by have:=gm.b;omega⟩
 refine⟨_,(yac (yap (i:=1) sc_ze.nd rfl (Or.inl rfl) (yaC yaw (yaC yaw (yaT ya3 rfl T.Jg yaX (yaa (yaq yar (pv 0) yad (λ_ _=>rfl)) yab)) yat) (yaT ya3 rfl T.Jg yaX (yaa (yaq yar (pv 0) yad (λ_ _=>rfl)) yab)))) (yac (yaK (yan (ydZ hu) (yaq yar (pv 0) yad (λ_ _=>rfl)) (yaF yab) (yao _)) (yaf (yap (i:=1) sc_ze.nd rfl (Or.inl rfl) (yaC yaw (yaC yaw (pv 1) yat) (ybe F.plainAttrs_str F.slot_str_join F.type_str_join ycs yat (yaa (ya8 (yaH (NB:=["_law_one"]) (cap:=[none]) rfl) rfl (yk2 (yaq yar (pv 0) yad (λ_ _=>rfl))) (λ_ _ _ _=>(yax (i:=0) (show List.Nodup (["_law_one"]:List Str) by decide) rfl (Or.inl rfl))) (λ_ _ _ _=>yaJ) (λ_ _ _ _=>(yaT ya3 rfl T.Jg yaX (yaa (pv 0) yab)))) yab))))) yav) (yaf (yaj (pv 1))))),?_⟩
 walk_at ""
 refine yaE (SqT.of ea) (yai (j:=0) rfl) ?_
 walk_at ""
 have lt:=ybH nt
 have lb:=ybH nb
 refine⟨m.tp,rfl,ydz nt,?_⟩
 rw[ydA nt]
 walk_at ""
 refine ybT rfl (lit (w:=[47]) (by decide +kernel)) (by show _+1<=_;omega) ?_
 rw[ybi]
 walk_at ""
 refine yaE (SqT.of ea) (yai (j:=1) rfl) ?_
 walk_at ""
 refine⟨m.bt,rfl,ydz nb,?_⟩
 rw[ydA nb]
 refine ybT rfl rfl (by rw[List.length_append];show _+1+_<=_;omega) ?_
 rw[ybi]
 have e47:nW m.tp++[47]++nW m.bt=ybb 47 ([m.tp,m.bt].map nW):=by
  show _=nW m.tp++47 :: nW m.bt
  simp
 rw[e47]
 walk_at ""
 refine yaE (SqT.of ea) (yai (j:=2) rfl) ?_
 walk_at ""
 refine⟨by decide,λp hp=>?_⟩
 have s1:=yag hp (.tup [])
 refine yiv (ycP m.gs) (ycP []) (yeU (s1 _ _ eb)) (ycR yae (yaO _)) (ya0 ?_)
 have eE:eqT (yb8 (.tp (m.gs.map nT))) (yb8 (.tp (([]:List Int).map nT)))=decide (m.gs=[]):=by
  rw[yb8,yb8,ybP,ybP]
  exact ydn _ _
 rw[eE]
 generalize upd H p (.tup [])=H1 at s1 ⊢
 by_cases ne:m.gs=[]
 ·rw[decide_eq_true ne]
  refine i_F ?_
  walk_at ""
  have z:=q _ s1
  unfold mW gW at z
  rw[if_pos ne,List.append_nil] at z
  exact z
 rw[decide_eq_false ne]
 refine i_T ?_
 walk_at ""
 have jl:(ybb 47 ([m.tp,m.bt].map nW)).length<=202:=ydi λw h=>by
  simp only[List.map_cons,List.map_nil,List.mem_cons,List.not_mem_nil,or_false] at h
  rcases h with rfl | rfl<;>omega
 refine ybT rfl (lit (w:=[58]) (by decide +kernel)) (by show _+1<=_;omega) ?_
 walk_at ""
 refine⟨rfl,?_⟩
 walk_at ""
 refine yaE (SqT.of (s1 _ _ ea)) (yai (j:=2) rfl) ?_
 walk_at ""
 have nn:∀ g∈m.gs,Num g:=λg h=>⟨by have:=gm.gs g h;omega,by have:=gm.gs g h;have:=gm.t2;omega⟩
 have ng:∀ g∈m.gs,(nW g).length<=5:=λg h=>ybH (nn g h)
 refine⟨b,rfl,⟨_,SqT.of (s1 _ _ eb)⟩,λD hD=>yff (λg=>tV (nW g)) (s1 _ _ eb) (yjs m.gs) hD (by have:=gm.len;omega) (λx g H' Q' hg sm rx q'=>?_) λH2 s2 hd=>?_⟩
 ·subst rx
  walk_at ""
  refine⟨g,rfl,ydz (nn g hg),?_⟩
  rw[ydA (nn g hg)]
  exact q' _ (Same.refl _)
 have l5:=yek (k:=5) (ws:=m.gs.map nW) λw h=>by obtain⟨g,hg,rfl⟩:=List.mem_map.mp h;exact ng g hg
 rw[List.length_map] at l5
 have j5:=ydi (c:=43) (ws:=m.gs.map nW) λw h=>by obtain⟨g,hg,rfl⟩:=List.mem_map.mp h;have:=ng g hg;omega
 rw[List.length_map] at j5
 have gl:=gm.len
 walk_at ""
 refine yeR 43 (m.gs.map nW) (by decide +kernel) (by rw[List.map_map];exact hd) (by rw[List.length_map];omega) ?_
 refine ybT (ybi _ _) rfl (by rw[List.length_append];show _+1+_<=_;omega) ?_
 rw[ybi]
 have z:=q _ (s1.trans s2)
 unfold mW gW at z
 rw[if_neg ne] at z
 walk_at ""
 rw[List.append_assoc]
 exact z
theorem ygj {H:Hp}{a:Addr}{xs:List V}{fw:List Fr}(al:Al (λz i=>Is H z (frT (bg fw i) (fw.getD i (⟨0,0,[]⟩,0)))) xs (List.range fw.length)){i:Nat}(h:i < fw.length):∃ c y b,xs[i]?=some (.ref c)/\H c=some (.tup [.int b,y,.int fw[i].2])/\Is H y (mtT fw[i].1):=by
 obtain⟨z,ez,iz⟩:=al.2 i (by rw[List.length_range];exact h)
 rw[List.getElem_range,ybw h] at iz
 obtain⟨c,y,rfl,ec,iy⟩:=iz.fr
 exact⟨c,y,_,ez,ec,iy⟩
theorem yn7 {fw:List Fr}{j:Bool}{i:Nat}(h:i+1 < fw.length):stC j fw (i+1)=if yb2 j fw[i+1]≠yb2 j fw[i] then [(i+2,yb2 j fw[i+1])] else []:=by
 unfold stC
 rw[ybw h,Nat.add_sub_cancel,ybw (show i < fw.length by omega)]
 by_cases e:yb2 j fw[i+1]=yb2 j fw[i]
 ·rw[if_neg (by rintro(z | z);omega;exact z e),if_neg (λz=>z e)]
 ·rw[if_pos (.inr e),if_pos e]
noncomputable def GrowR (H:Hp)(x y:V)(k:Int)(D:Addr)(n:Int)(fr:List Nat)(cs:List (Nat×Cv))(σ:St)(H2:Hp):Prop:=(∃ o,σ=[some x,some y,some (.int k),some (.ref D),some (.int n),some (tV fr),o])/\Same H H2/\H2 D=some (.lst ((cs.map ydV).map tV))
theorem GrowR.put {H H2:Hp}{x y:V}{k n:Int}{D:Addr}{fr:List Nat}{cs:List (Nat×Cv)}{c:Nat×Cv}{σ:St}(hD:H D=none)(h:GrowR H x y k D n fr cs σ H2):GrowR H x y k D n fr (cs++[c]) σ (upd H2 D (.lst ((cs.map ydV).map tV++[tV (ydV c)]))):=⟨h.1,yaS hD h.2.1,by rw[yae,List.map_append,List.map_append];rfl⟩
theorem GrowR.same {H H2 H3:Hp}{x y:V}{k n:Int}{D:Addr}{fr:List Nat}{cs:List (Nat×Cv)}{σ:St}(h:GrowR H x y k D n fr cs σ H2)(s:Same H2 H3):GrowR H x y k D n fr cs σ H3:=⟨h.1,h.2.1.trans s,s _ _ h.2.2⟩
noncomputable def yiJ:Sp:=λvs H Q _=>∃ (x y:V) (k:Int) (fw:List Fr) (vss:List (List Sn)),vs=[x,y,.int k]/\Is H x (ybG fw)/\Is H y (vsT vss)/\FwOk fw/\GoodVR vss/\1<=k/\k<=7/\∀ D H',Same H H'->H D=none->H' D=some (.lst ((ydK k fw vss).map tV))->Q (.ref D) H'
theorem yqz (T:Txt K mg t)(G_ze:FnOk P w K mg base CX0 1 t.f_ze t.d_ze ["_law_metre_here"] ycS)(G_zaA:FnOk P w K mg base CX0 2 t.f_zaA t.d_zaA ["_law_told","_law_times"] yn6):FnOk P w K mg base CX0 3 t.f_zah t.d_zah ["_law_frames_here","_law_voices_here","_law_times"] yiJ:=by
 refine T.QG.F.ok sc_zah (λvs H Q E h=>?_) (λ_ _ _ s H vs Q E hr h=>?_)
 ·obtain⟨_,_,_,_,_,rfl,_⟩:=h;rfl
 have hu:=ybs hr
 obtain⟨x,y,k,fw,vss,rfl,ix,iy,ok,gv,k1,k7,q⟩:=h
 refine⟨_,(yac (yap (i:=3) sc_zah.nd rfl (Or.inl rfl) (yaV (yaa (yaC yaw yat (pcl G_ze hr T.ze (yaa (yaq yar (yaq yaD (pv 0) yad (λ_ _=>rfl)) yad (λ_ _=>rfl)) yab))) (yaa (yaC yaw yat (yaT ya3 rfl T.Jg yaX (yaa (yaq yar (yaq yaD (pv 0) yad (λ_ _=>rfl)) yad (λ_ _=>rfl)) yab))) yab)))) (yac (yco PassesOwn.never rfl (ygS rfl T.Jo (yaa yad (yaa (yak yas rfl T.Jc PySem.boot_len (yaa (pv 0) yab)) yab))) (yax (i:=4) sc_zah.nd rfl (Or.inl rfl)) (yac (yap (i:=5) sc_zah.nd rfl (Or.inl rfl) (yaC yaw yat (yaT ya3 rfl T.Jg yaX (yaa (yaC yby (pv 4) yad) yab)))) (yac (yaK (yan (ydZ hu) (yaq yar (yaq yaD (pv 0) (pv 4) (λ_ _=>rfl)) yad (λ_ _=>rfl)) (yaq yar (yaq yaD (pv 0) (yaC ydC (pv 4) yad) (λ_ _=>rfl)) yad (λ_ _=>rfl)) (yao _)) (yaf (yaG (ybe F.plainAttrs_list F.slot_list_append F.type_list_append yaP (pv 3) (yaa (yaC yaw (yaC yaw (pv 5) yat) (pcl G_ze hr T.ze (yaa (yaq yar (yaq yaD (pv 0) (pv 4) (λ_ _=>rfl)) yad (λ_ _=>rfl)) yab))) yab)))) yav) (yaf (yaK (yan (ydZ hu) (yaq yar (yaq yaD (pv 0) (pv 4) (λ_ _=>rfl)) yad (λ_ _=>rfl)) (yaq yar (yaq yaD (pv 0) (yaC ydC (pv 4) yad) (λ_ _=>rfl)) yad (λ_ _=>rfl)) (yao _)) (yaf (yaG (ybe F.plainAttrs_list F.slot_list_append F.type_list_append yaP (pv 3) (yaa (yaC yaw (yaC yaw (pv 5) yat) (yaT ya3 rfl T.Jg yaX (yaa (yaq yar (yaq yaD (pv 0) (pv 4) (λ_ _=>rfl)) yad (λ_ _=>rfl)) yab))) yab)))) yav))))) (yac (yco PassesOwn.never rfl (yaY (pv 1)) (yax (i:=6) sc_zah.nd rfl (Or.inl rfl)) (yac (yaG (ybe F.plainAttrs_list F.slot_list_append F.type_list_append yaP (pv 3) (yaa yat yab))) (yaf (yaG (ybe F.plainAttrs_list F.slot_list_extend F.type_list_extend yfg (pv 3) (yaa (ya8 (yaH (NB:=["_law_told","_law_times"]) (cap:=[none,some 2]) rfl) rfl (yaY (pv 6)) (λ_ _ _ _=>(yax (i:=0) (show List.Nodup (["_law_told","_law_times"]:List Str) by decide) rfl (Or.inl rfl))) (λ_ _ _ _=>yaJ) (λ_ _ _ _=>(pcl G_zaA hr T.Rv (yaa (pv 0) (yaa (pv 1) yab))))) yab)))))) (yaf (yaj (pv 3)))))),?_⟩
 walk_at ""
 obtain⟨a,xs,rfl,ea,ix⟩:∃ a xs,x=.ref a/\H a=some (.lst xs)/\Iss H xs (yjn fw fw.length):=by rw[ybG,Is] at ix;exact ix
 have al:Al (λz i=>Is H z (frT (bg fw i) (fw.getD i (⟨0,0,[]⟩,0)))) xs (List.range fw.length):=ybE ix
 have lx:=al.1
 rw[List.length_range] at lx
 have l24:=ok.len
 have l1:1<=fw.length:=by
  have:=ok.ne
  cases fw with
  | nil=>exact(this rfl).elim
  | cons=>simp
 have rd:=ydh ok
 obtain⟨c0,y0,b0,ex0,ec0,iy0⟩:=ygj (a:=a) al (show 0 < fw.length by omega)
 have g0:=ok.k _ (List.getElem_mem (show 0 < fw.length by omega))
 have m0:=ok.m _ (List.getElem_mem (show 0 < fw.length by omega))
 refine ybf (SqL.of ea) (yai (j:=0) ex0) ?_
 walk_at ""
 refine yaE (SqT.of ec0) (yai (j:=1) rfl) ?_
 walk_at ""
 have ml0:=yjT _ m0
 have nl0:=ybH (i:=fw[0].2) ⟨g0.1,by omega⟩
 refine⟨y0,_,rfl,iy0,m0,λH1 s1=>?_⟩
 refine ybT (a:=[109,101,116,114,101,32]) (lit (by decide +kernel)) rfl (by simp;omega) ?_
 rw[ybi]
 walk_at ""
 refine ybf (SqL.of (s1 _ _ ea)) (yai (j:=0) ex0) ?_
 walk_at ""
 refine yaE (SqT.of (s1 _ _ ec0)) (yai (j:=2) rfl) ?_
 walk_at ""
 refine⟨_,rfl,ydz ⟨g0.1,by omega⟩,?_⟩
 rw[ydA ⟨g0.1,by omega⟩]
 refine ybT (a:=[107,101,121,32]) (lit (by decide +kernel)) rfl (by simp;omega) ?_
 rw[ybi]
 walk_at ""
 refine⟨(by decide:(2:Nat)<=_),λD hD=>?_⟩
 have hD0:=ya6 s1 hD
 have ac1:yce fw 1=[(1,.m fw[0].1),(1,.k fw[0].2)]:=by
  rw[yce,yce]
  unfold stC
  rw[if_pos (.inl rfl),if_pos (.inl rfl),ybw l1]
  rfl
 have e2:upd H1 D (.lst [tV ([109,101,116,114,101,32]++mW fw[0].1),tV ([107,101,121,32]++nW fw[0].2)]) D=some (.lst (((yce fw 1).map ydV).map tV)):=by
  rw[yae,ac1]
  rfl
 have s2:Same H (upd H1 D (.lst [tV ([109,101,116,114,101,32]++mW fw[0].1),tV ([107,101,121,32]++nW fw[0].2)])):=s1.trans (yag hD _)
 generalize upd H1 D _=H2 at s2 e2 ⊢
 refine ybj (ycw ?_)
 refine yom ?_
 walk_at ""
 refine⟨a,_,rfl,.inl (SqL.of (s2 _ _ ea)),?_⟩
 walk_at ""
 refine⟨1,(xs.length:Int),rfl,by omega,?_⟩
 rw[lx,show((fw.length:Int) - 1).toNat=fw.length - 1 by omega]
 refine ydp (λi σ H'=>(∃ o1 o2 o3,σ=[some (.ref a),some y,some (.int k),some (.ref D),o1,o2,o3])/\Same H H'/\H' D=some (.lst (((yce fw (i+1)).map ydV).map tV))) ⟨⟨_,_,_,rfl⟩,s2,e2⟩ ?_ ?_
 ·rintro i σ H' N hN hi ⟨⟨o1,o2,o3,rfl⟩,sm,hd⟩
  have i1:i+1 < fw.length:=by omega
  obtain⟨c1,y1,b1,ex1,ec1,iy1⟩:=ygj (a:=a) al i1
  obtain⟨c2,y2,b2,ex2,ec2,iy2⟩:=ygj (a:=a) al (show i < fw.length by omega)
  have g1:=ok.k _ (List.getElem_mem i1)
  have m1:=ok.m _ (List.getElem_mem i1)
  have ml:=yjT _ m1
  have nl:=ybH (i:=fw[i+1].2) ⟨g1.1,by omega⟩
  have nn:Num ((1:Int)+(i:Int)+1):=⟨by omega,by omega⟩
  have ns:=ybH nn
  have la:(yce fw (i+1)).length<=2*(i+1):=(yky ok (i+1) (by omega) (by omega)).2.2.1
  have hk:∀ j:Nat,j < fw.length->((j:Int):Int)=(j:Nat):=λ_ _=>rfl
  refine ybj ?_
  walk_at ""
  refine⟨_,rfl,ydz nn,?_⟩
  rw[ydA nn]
  refine ybT (a:=[97,116,32]) (lit (by decide +kernel)) rfl (by simp;omega) ?_
  rw[ybi]
  have gr:GrowR H (.ref a) y k D (1+i) ([97,116,32]++nW (1+i+1)) (yce fw (i+1)) [some (.ref a),some y,some (.int k),some (.ref D),some (.int (1+i)),some (tV ([97,116,32]++nW (1+i+1))),o3] H':=⟨⟨_,rfl⟩,sm,hd⟩
  refine ybj ?_
  have h1:atI xs (1+(i:Int))=some (.ref c1):=by rw[show(1:Int)+(i:Int)=((i+1:Nat):Int) by omega];exact yai ex1
  have h2:atI xs (1+(i:Int) - 1)=some (.ref c2):=by rw[show(1:Int)+(i:Int) - 1=((i:Nat):Int) by omega];exact yai ex2
  have nb:nW (1+(i:Int)+1)=nW ((i+2:Nat):Int):=by congr 1;omega
  have stM:=yn7 (j:=true) i1
  have stK:=yn7 (j:=false) i1
  refine ycw (yku (te:=yip _ _ _) (GrowR H (.ref a) y k D (1+i) ([97,116,32]++nW (1+i+1)) (yce fw (i+1)++stC true fw (i+1))) (λD' hD'=>?_) fun σ H4 gr=>?_)
  ·walk_at ""
   refine ybf (SqL.of (sm _ _ ea)) h1 ?_
   walk_at ""
   refine yaE (SqT.of (sm _ _ ec1)) (yai (j:=1) rfl) ?_
   walk_at ""
   refine ybf (SqL.of (sm _ _ ea)) h2 ?_
   walk_at ""
   refine yaE (SqT.of (sm _ _ ec2)) (yai (j:=1) rfl) ?_
   refine yiv (yi3 _) (yi3 _) (iy1.same sm) (iy2.same sm) (ya0 ?_)
   rw[yrw]
   by_cases e:fw[i+1].1=fw[i].1
   ·rw[decide_eq_true e]
    rw[stM,if_neg (λz=>z (by show Cv.m _=Cv.m _;rw[e])),List.append_nil] at hD'
    exact i_F (ybn (hD' _ _ gr))
   ·rw[decide_eq_false e]
    rw[stM,if_pos (λz=>e (by have z:Cv.m _=Cv.m _:=z;exact Cv.m.inj z))] at hD'
    refine i_T ?_
    walk_at ""
    refine⟨.inl ⟨rfl,_,SqL.of hd⟩,?_⟩
    walk_at ""
    refine ybT (b:=[32,109,101,116,114,101,32]) rfl (lit (by decide +kernel)) (by simp;omega) ?_
    rw[ybi]
    walk_at ""
    refine ybf (SqL.of (sm _ _ ea)) h1 ?_
    walk_at ""
    refine yaE (SqT.of (sm _ _ ec1)) (yai (j:=1) rfl) ?_
    walk_at ""
    refine⟨y1,_,rfl,iy1.same sm,m1,λH5 s5=>?_⟩
    refine ybT rfl rfl (by simp;omega) ?_
    rw[ybi]
    walk_at ""
    have er:[97,116,32]++nW (1+(i:Int)+1)++[32,109,101,116,114,101,32]++mW fw[i+1].1=ydV (i+2,yb2 true fw[i+1]):=by
     unfold ydV cWs
     rw[if_neg (by show ¬ i+2=1;omega),nb]
     simp[ybb,atW,kW,vW,yb2]
    rw[er]
    have gr5:=gr.same s5
    exact ych gr5.2.2 (yaz (by rw[List.length_map,List.length_map];omega)) (hD' _ _ (gr5.put hD0))
  obtain⟨⟨o4,rfl⟩,s4,e4⟩:=gr
  have gr:GrowR H (.ref a) y k D (1+i) ([97,116,32]++nW (1+i+1)) (yce fw (i+1)++stC true fw (i+1)) [some (.ref a),some y,some (.int k),some (.ref D),some (.int (1+i)),some (tV ([97,116,32]++nW (1+i+1))),o4] H4:=⟨⟨_,rfl⟩,s4,e4⟩
  have lb:(yce fw (i+1)++stC true fw (i+1)).length<=2*(i+1)+1:=by
   rw[List.length_append,stM]
   split<;>simp<;>omega
  have fin:∀ σ H5,GrowR H (.ref a) y k D (1+i) ([97,116,32]++nW (1+i+1)) (yce fw (i+2)) σ H5->N σ H5:=fun σ H5 g=>by
   obtain⟨⟨o5,rfl⟩,s5,e5⟩:=g
   exact hN _ _ ⟨⟨_,_,_,rfl⟩,s5,e5⟩
  rw[show yce fw (i+2)=(yce fw (i+1)++stC true fw (i+1))++stC false fw (i+1) by rw[yce,List.append_assoc]] at fin
  dsimp only
  walk_at ""
  refine ybf (SqL.of (s4 _ _ ea)) h1 ?_
  walk_at ""
  refine yaE (SqT.of (s4 _ _ ec1)) (yai (j:=2) rfl) ?_
  walk_at ""
  refine ybf (SqL.of (s4 _ _ ea)) h2 ?_
  walk_at ""
  refine yaE (SqT.of (s4 _ _ ec2)) (yai (j:=2) rfl) ?_
  refine yiv (tr:=nT fw[i+1].2) (tr':=nT fw[i].2) ⟨rfl,ybh⟩ ⟨rfl,ybh⟩ (yej _ _) (yej _ _) (ya0 ?_)
  rw[show eqT (yb8 (nT fw[i+1].2)) (yb8 (nT fw[i].2))=decide (fw[i+1].2=fw[i].2) from yiF _ _]
  by_cases e:fw[i+1].2=fw[i].2
  ·rw[decide_eq_true e]
   rw[stK,if_neg (λz=>z (by show Cv.k _=Cv.k _;rw[e])),List.append_nil] at fin
   exact i_F (ybn (fin _ _ gr))
  ·rw[decide_eq_false e]
   rw[stK,if_pos (λz=>e (by have z:Cv.k _=Cv.k _:=z;exact Cv.k.inj z))] at fin
   refine i_T ?_
   walk_at ""
   refine⟨.inl ⟨rfl,_,SqL.of e4⟩,?_⟩
   walk_at ""
   refine ybT (b:=[32,107,101,121,32]) rfl (lit (by decide +kernel)) (by simp;omega) ?_
   rw[ybi]
   walk_at ""
   refine ybf (SqL.of (s4 _ _ ea)) h1 ?_
   walk_at ""
   refine yaE (SqT.of (s4 _ _ ec1)) (yai (j:=2) rfl) ?_
   walk_at ""
   refine⟨_,rfl,ydz ⟨g1.1,by omega⟩,?_⟩
   rw[ydA ⟨g1.1,by omega⟩]
   refine ybT rfl rfl (by simp;omega) ?_
   rw[ybi]
   walk_at ""
   have er:[97,116,32]++nW (1+(i:Int)+1)++[32,107,101,121,32]++nW fw[i+1].2=ydV (i+2,yb2 false fw[i+1]):=by
    unfold ydV cWs
    rw[if_neg (by show ¬ i+2=1;omega),nb]
    simp[ybb,atW,kW,vW,yb2]
   rw[er]
   exact ych e4 (yaz (by rw[List.length_map,List.length_map];omega)) (fin _ _ (gr.put hD0))
 ·rintro σ H' ⟨⟨o1,o2,o3,rfl⟩,sm,hd⟩
  rw[show fw.length - 1+1=fw.length by omega] at hd
  obtain⟨av,ys,rfl,eav,iys⟩:∃ a xs,y=.ref a/\H a=some (.lst xs)/\Iss H xs (vss.map vT):=by rw[vsT,Is] at iy;exact iy
  have alv:=ybE iys
  have rv:=yd2 (k:=k) gv
  have l60:=rd.l60
  walk_at ""
  refine⟨av,rfl,⟨_,SqL.of (sm _ _ eav)⟩,ycc (xs:=ys) (λi σ H2=>(∃ o1 o2 o3,σ=[some (.ref a),some (.ref av),some (.int k),some (.ref D),o1,o2,o3])/\Same H H2/\H2 D=some (.lst (((yce fw fw.length).map ydV++ybg k (vss.take i)).map tV))) ⟨⟨_,_,_,rfl⟩,sm,by rw[hd,List.take_zero,show ybg k []=[] from rfl,List.append_nil]⟩ (λi σ H' _ h=>SqL.of (h.2.1 _ _ eav)) ?_ ?_⟩
  ·rintro i x σ H' N hN hx ⟨⟨o1,o2,o3,rfl⟩,sm,hd⟩
   have hi:i < vss.length:=by have:=(List.getElem?_eq_some_iff.mp hx).1;rw[alv.1] at this;exact this
   obtain⟨x',e,rx⟩:=alv.2 i hi
   rw[hx] at e
   cases e
   have rl:(ybg k (vss.take i)).length<=194:=by
    have e:(ybg k vss).length=(ybg k (vss.take i)).length+(ybg k (vss.drop i)).length:=by
     rw[← List.length_append]
     congr 1
     unfold ybg
     rw[← List.flatten_append,← List.map_append,List.take_append_drop]
    omega
   have gvi:=gv.v _ (List.getElem_mem hi)
   obtain⟨b,zs,rfl,eb,izs⟩:∃ a xs,x=.ref a/\H a=some (.lst xs)/\Iss H xs (vss[i].map snT):=by rw[vT,Is] at rx;exact rx
   refine ybj ?_
   walk_at ""
   refine⟨.inl ⟨rfl,_,SqL.of hd⟩,?_⟩
   walk_at ""
   rw[show V.str "voice"=tV ybI from lit (by decide +kernel)]
   refine ych hd (yaz (by rw[List.length_map,List.length_append,List.length_map];omega)) ?_
   have s3:Same H (upd H' D (.lst (((yce fw fw.length).map ydV++ybg k (vss.take i)).map tV++[tV ybI]))):=yaS hD0 sm
   have e3:=yae (H:=H') (a:=D) (o:=.lst (((yce fw fw.length).map ydV++ybg k (vss.take i)).map tV++[tV ybI]))
   generalize upd H' D _=H3 at s3 e3 ⊢
   walk_at ""
   refine⟨.inl ⟨rfl,_,SqL.of e3⟩,?_⟩
   walk_at ""
   refine⟨b,rfl,⟨_,SqL.of (s3 _ _ eb)⟩,λD5 hD5=>ybD (R:=λx s=>Is H x (snT s)) (λs=>tV (ylS k s)) (s3 _ _ eb) (ybE izs) hD5 (by omega) (λx s H' Q' hs sm rx q'=>?_) λH5 s5 e5=>?_⟩
   ·walk_at ""
    exact⟨x,s,k,rfl,rx.same (s3.trans sm),gvi.2.2 s hs,k1,k7,q'⟩
   walk_at ""
   refine⟨D,D5,_,_,rfl,rfl,s5 _ _ e3,e5,small (by simp;omega),hN _ _ ⟨⟨_,_,_,rfl⟩,yaS hD0 (s3.trans s5),?_⟩⟩
   rw[yae,yfM hi]
   simp[List.map_map]
  ·rintro σ H' ⟨⟨o1,o2,o3,rfl⟩,sm,hd⟩
   rw[alv.1,List.take_length] at hd
   walk_at ""
   exact q _ _ sm hD0 hd
open TX K2 K3
theorem yiQ {α:Type}{lo:Int}{D:Addr}{us:List α}{te:TE}{Fin:Hp->Prop}{o:Option V}{r:St}{H Hs:Hp}(f:α->Th)(sH:Same Hs H)(hD:H D=none)(hz:us.length<=900)
  (hte:∀ (i:Nat) (h:i < us.length) (H':Hp) (Q':VK),Same H H'->(∀ y H'',Same H' H''->Is (nw Hs H' H'') y (f us[i])->Q' y H'')->te (some (.int (lo+i)) :: r) H' Q') (fin:∀ ys H',Same H H'->H' D=some (.lst ys)->Iss (nw Hs H H') ys (us.map f)->Fin H') :
  ∃ W:Nat->Nat->St->Hp->Prop,(∃ m,W 0 m (o :: r) (upd H D (.lst [])))/\ydG (Itr lo us.length) (ybZ 0) yft te D Fin W:=by
 refine yei (λi σ' H'=>(∃ o,σ'=o :: r)/\Acc (λH x u=>Is H x (f u)) Hs H H' D (us.take i)) ⟨⟨_,rfl⟩,Acc.nil hD⟩ ?_ ?_
 ·rintro i σ' H' hi ⟨⟨o,rfl⟩,sm,kv,hd,ak⟩
  refine ybj (ydk (i_T (hte i hi H' _ sm λy H2 t2 iy=>⟨kv,t2 _ _ hd,?_,⟨_,rfl⟩,?_⟩)))
  ·rw[ak.1,List.length_take]
   exact yaz (by omega)
  ·rw[List.take_succ_eq_append_getElem hi]
   exact Acc.put (R:=λH x u=>Is H x (f u)) ycM hD (sm.trans t2) (ak.imp λ_ _ _ z=>z.same (ybc t2)) (iy.same ((yhF (yfk sH)).trans (yil sH sm hd t2)))
 ·rintro σ' H' ⟨_,sm,kv,hd,ak⟩
  rw[List.take_length] at ak
  exact fin _ _ sm hd ((yc1 ak).same yc4)
noncomputable def yub (fw:List Fr)(tvs:List (List Sn)):Th:=.ls ([csT (ydR true fw),csT (ydR false fw),ybG fw]++tvs.map vT)
noncomputable def yh4 (t:Ad):Sp:=λvs H Q _=>∃ (x:V) (fw:List Fr) (tvs:List (List Sn)) (Hs:Hp),vs=[x]/\Same Hs H/\TuneIs t Hs x tvs fw/\TuneHas t Hs x (ydR true fw) (ydR false fw)/\yfv tvs/\∀ y H',Same H H'->Is (nw Hs H H') y (yub fw tvs)->Q y H'
theorem ytU (T:Txt K mg t)(G_zb:FnOk P w K mg base CX0 1 t.f_zb t.d_zb ["self"] (yd4 t))(G_zf:FnOk P w K mg base CX0 1 t.f_zf t.d_zf ["self"] (yf4 t))(G_zz:FnOk P w K mg base CX0 1 t.f_zz t.d_zz ["self"] (yrU t))(G_zag:FnOk P w K mg base CX0 1 t.f_zag t.d_zag ["self"] (ymx t))(G_zd:FnOk P w K mg base CX0 3 t.f_zd t.d_zd ["self","voice"] (ygB t)):FnOk P w K mg base CX0 4 t.f_zm t.d_zm ["_law_tune"] (yh4 t):=by
 refine T.zm.F.ok sc_zm (λvs H Q E h=>?_) (λ_ _ _ s H vs Q E hr h=>?_)
 ·obtain⟨_,_,_,_,rfl,_⟩:=h;rfl
 have hu:=ybs hr
 obtain⟨x,fw,tvs,Hs,rfl,sH,tu,th,gw,q⟩:=h
 obtain⟨ta,dx,m,k,v,f,rfl,ea,_⟩:=id tu
 have ea':=sH _ _ ea
 refine⟨_,(yac (yap (i:=1) sc_zm.nd rfl (Or.inl rfl) (yaV (yaa (yb7 (pv 0) T.Jb T.Qx G_zb (hr.mono (by first | decide | omega)) T.zb.B .nil ycx) (yaa (yb7 (pv 0) T.Jb T.Qy G_zf (hr.mono (by first | decide | omega)) T.zf.B .nil ycx) (yaa (yb7 (pv 0) T.Jb T.QL G_zz (hr.mono (by first | decide | omega)) T.zz.B .nil ycx) yab))))) (yaf (yaj (yaC ygU (pv 1) (ya8 (yaH (NB:=["_law_k","_law_tune"]) (cap:=[none,some 0]) rfl) rfl (ycJ rfl T.Jo (yaa (yb7 (pv 0) T.Jb T.Qr G_zag (hr.mono (by first | decide | omega)) T.QP.B .nil ycx) yab)) (λ_ _ _ _=>(yax (i:=0) (show List.Nodup (["_law_k","_law_tune"]:List Str) by decide) rfl (Or.inl rfl))) (λ_ _ _ _=>yaJ) (λ_ _ _ _=>(yiN (pv 1) T.Jb T.Qw G_zd (hr.mono (by first | decide | omega)) T.zd.B .nil ycx (yaa (yaC yby (pv 0) yad) yab)))))))),?_⟩
 walk_at ""
 refine⟨ta,dx,_,rfl,ea',rfl,?_⟩
 walk_at ""
 refine⟨_,_,_,Hs,rfl,sH,th,λy1 H1 s1 i1=>?_⟩
 walk_at ""
 refine⟨ta,dx,_,rfl,s1 _ _ ea',rfl,?_⟩
 walk_at ""
 refine⟨_,_,_,Hs,rfl,sH.trans s1,th,λy2 H2 s2 i2=>?_⟩
 have s02:=s1.trans s2
 have i2:=i2.same ((yhF (yee (H':=H1) sH)).trans (yfR s1 s2))
 walk_at ""
 refine⟨ta,dx,_,rfl,s02 _ _ ea',rfl,?_⟩
 walk_at ""
 refine⟨_,tvs,fw,Hs,rfl,sH.trans s02,tu,λy3 H3 s3 i3=>?_⟩
 have s03:=s02.trans s3
 have i3:=i3.same ((yhF (yee (H':=H2) sH)).trans (yfR s02 s3))
 walk_at ""
 refine⟨(by decide:(3:Nat)<=_),λp4 hp4=>?_⟩
 have s4:=yag hp4 (.lst [y1,y2,y3])
 have e4:=yae (H:=H3) (a:=p4) (o:=.lst [y1,y2,y3])
 generalize upd H3 p4 _=H4 at s4 e4 ⊢
 have s04:=s03.trans s4
 walk_at ""
 refine⟨ta,dx,_,rfl,s04 _ _ ea',rfl,?_⟩
 walk_at ""
 refine⟨_,tvs,fw,rfl,tu.same (sH.trans s04),?_⟩
 have n2:=gw.n2
 walk_at ""
 refine⟨tvs.length,rfl,by omega,by omega,?_⟩
 rw[show((tvs.length:Nat):Int).toNat=tvs.length from rfl]
 intro D hD
 refine yiQ vT (sH.trans s04) hD (by omega) (λi hi H' Q' sm q'=>?_) λys5 H5 s5 e5 is5=>?_
 ·walk_at ""
  refine⟨ta,dx,_,rfl,sm _ _ (s04 _ _ ea'),rfl,?_⟩
  walk_at ""
  exact⟨_,tvs,fw,i,hi,Hs,by rw[show(0:Int)+(i:Int)+1=((i+1:Nat):Int) by omega];rfl,(sH.trans s04).trans sm,tu,gw,q'⟩
 have is5:=is5.same ((yhF (yee (H':=H4) sH)).trans (yfR s04 s5))
 have ly:=is5.len
 rw[List.length_map] at ly
 refine⟨p4,D,_,_,rfl,rfl,s5 _ _ e4,e5,small (by simp;omega),λp6 hp6=>?_⟩
 have s6:=yag hp6 (.lst ([y1,y2,y3]++ys5))
 have s05:=s04.trans s5
 refine q _ _ (s05.trans s6) (ybU (by rw[yaI (ya6 s05 hp6)];exact yae) ?_)
 have u1:Same (nw Hs H H1) (nw Hs H (upd H5 p6 (.lst ([y1,y2,y3]++ys5)))):=ycq (s2.trans (s3.trans (s4.trans (s5.trans s6))))
 have u2:Same (nw Hs H H2) (nw Hs H (upd H5 p6 (.lst ([y1,y2,y3]++ys5)))):=ycq (s3.trans (s4.trans (s5.trans s6)))
 have u3:Same (nw Hs H H3) (nw Hs H (upd H5 p6 (.lst ([y1,y2,y3]++ys5)))):=ycq (s4.trans (s5.trans s6))
 exact ye4 (yau (i1.same u1) (yau (i2.same u2) (yau (i3.same u3) (yaO _)))) (is5.same (ycq s6))
noncomputable def ymf (K:PySem.W.Frag):Sp:=λvs H Q _=>∃ (a tp:Addr) (ns:List Int) (N:Nat),vs=[.ref a,.ref tp]/\Dr K a tp ns H N/\N<=40000 /\
 ∀ (c:Addr) (x1 x2 x3:V) (vss:List (List Sn)) (fw:List Fr) (H':Hp),OkVs vss->OkF fw (ycZ (vss.map yaQ))->FwOk fw->SameT tp H H'->Dr K a tp ns H' (N+11000)->fr H H' c=some (.tup [x1,x2,x3])->Is (fr H H') x1 (vsT vss)->Is (fr H H') x2 (vsT (vss.map yaQ))->Is (fr H H') x3 (ybG fw)->Q (.ref c) H'
theorem ytv (T:Txt K mg t)(G_zaj:FnOk P w K mg base CX0 1 t.f_zaj t.d_zaj ["_law_script","_law_tape","_law_size"] (ycL K))(G_zC:FnOk P w K mg base CX0 4 t.f_zC t.d_zC ["_law_script","_law_tape","_law_most"] (yhb K))(G_zaa:FnOk P w K mg base CX0 1 t.f_zaa t.d_zaa ["_law_voice_here"] ykY)(G_zJ:FnOk P w K mg base CX0 1 t.f_zJ t.d_zJ ["_law_voices_here"] yjX)
  (G_zE:FnOk P w K mg base CX0 3 t.f_zE t.d_zE ["_law_script","_law_tape","_law_lasts_here"] (yhJ K)):FnOk P w K mg base CX0 5 t.f_zY t.d_zY ["_law_script","_law_tape"] (ymf K):=by
 refine T.zY.F.ok sc_zY (λvs H Q E h=>?_) (λ_ _ _ s' H vs Q E hr h=>?_)
 ·obtain⟨_,_,_,_,rfl,_⟩:=h;rfl
 have hu:=ybs hr
 obtain⟨a,tp,ns,N,rfl,dr,hN,q⟩:=h
 refine⟨_,(yac (yap (i:=2) sc_zY.nd rfl (Or.inl rfl) (pcl G_zC hr T.zC (yaa (pv 0) (yaa (pv 1) (yaa (yaq yaD (yaV (yaa yad (yaa yad (yaa yad (yaa yad yab))))) (pcl G_zaj hr T.JJ (yaa (pv 0) (yaa (pv 1) (yaa yad yab)))) (λ_ _=>rfl)) yab))))) (yac (ybQ (i:=3) sc_zY.nd rfl (Or.inl rfl) (yaH (NB:=["_law_voice_here"]) (cap:=[none]) rfl) rfl (yaY (pv 2)) (λ_ _ _ _=>(yax (i:=0) (show List.Nodup (["_law_voice_here"]:List Str) by decide) rfl (Or.inl rfl))) (λ_ _ _ _=>yaJ) (λ_ _ _ _=>(pcl G_zaa hr T.Ri (yaa (pv 0) yab)))) (yaf (yaj (yaF (yaa (pv 2) (yaa (pv 3) (yaa (pcl G_zE hr T.zE (yaa (pv 0) (yaa (pv 1) (yaa (pcl G_zJ hr T.zJ (yaa (pv 3) yab)) yab)))) yab)))))))),?_⟩
 walk_at ""
 refine⟨(by decide:(4:Nat)<=_),λp hp=>?_⟩
 have sp:=yag hp (.lst ([200,200,400,780].map V.int))
 walk_at ""
 refine⟨a,tp,ns,N,4,rfl,dr.same sp,by omega,by decide,by decide,λv G v0 v1 s3 d0=>?_⟩
 refine ybf (SqL.of (s3 _ _ (dr.ne hp) yae)) (yfc (L:=[200,200,400,780]) v0 (by show v < 4;exact v1)) ?_
 have s0:SameT tp H G:=SameT.trans (Same.tt sp) s3
 have g:∀ x∈([200,200,400,780]:List Int),200<=x/\x<=780:=by decide
 have gx:=g _ (List.getElem_mem (by show v.toNat < 4;omega:v.toNat < ([200,200,400,780]:List Int).length))
 generalize ([200,200,400,780]:List Int)[v.toNat]'_=most at gx ⊢
 walk_at ""
 refine⟨a,tp,ns,_,most,rfl,d0,by omega,gx.1,gx.2,λy0 vss H1 ov s1' d1 i0=>?_⟩
 have s1:SameT tp H H1:=SameT.trans s0 s1'
 have i0:=i0.same (ybK d0 s0)
 obtain⟨l0,ls⟩:=ymR ov
 obtain⟨b0,xs0,rfl,e0,is0⟩:∃ b xs,y0=.ref b/\fr H H1 b=some (.lst xs)/\Iss (fr H H1) xs (vss.map vT):=by rw[vsT,Is] at i0;exact i0
 have al0:=ybE is0
 have e0':=(ya9 e0).2
 have n2:=ov.1.2.1
 walk_at ""
 refine⟨b0,rfl,⟨_,SqL.of e0'⟩,λD hD=>yge (R:=λH x ss=>Is H x (vT ss)) (S:=λH x ss=>Is H x (vT ss)) ydU ydU yaQ (yaM H H1) e0' al0 hD (by omega) (λx ss H' Hs' Q' hs t1 t2 t3 rx q'=>?_) λys H2 s2 hd ay=>?_⟩
 ·walk_at ""
  have g:=ov.1.2.2 ss hs
  exact⟨x,ss,Hs',rfl,t3,rx,g.n1,g.n2,q'⟩
 have f2:=yeC d1 s1 s2
 have it2:Is (fr H H2) (.ref D) (vsT (vss.map yaQ)):=(ybU (by rw[yaI hD];exact hd) ((yc1 ay).same yc4)).same f2
 have iv2:=i0.same (dr.fr (Same.tt s2))
 have d2:=d1.same s2
 have s12:SameT tp H H2:=SameT.trans s1 (Same.tt s2)
 walk_at ""
 refine⟨_,_,rfl,it2.same (yaM _ _),ydo ov.1,λH3 s3=>?_⟩
 have it3:=it2.same (yay s3)
 have iv3:=iv2.same (yay s3)
 have d3:=d2.same s3
 have s13:SameT tp H H3:=SameT.trans s12 (Same.tt s3)
 walk_at ""
 refine⟨a,tp,ns,_,_,rfl,d3,by omega,l0,ls,λy4 fw H4 okf fm ne s4 d4 i4=>?_⟩
 have it4:=it3.same (dr.fr s4)
 have iv4:=iv3.same (dr.fr s4)
 have if4:=i4.same (ybK d3 s13)
 have s14:SameT tp H H4:=SameT.trans s13 s4
 walk_at ""
 refine⟨(by decide:(3:Nat)<=_),λp5 hp5=>?_⟩
 have s5:=yag hp5 (.tup [.ref b0,.ref D,y4])
 have m5:=yay (H:=H) s5
 exact q p5 _ _ _ vss fw _ ov okf ⟨ne,okf.len,fm,okf.k⟩ (SameT.trans s14 (Same.tt s5)) ((d4.same s5).up (by omega)) (by rw[ybB (d4.free s14 hp5)];exact yae) (iv4.same m5) (it4.same m5) (if4.same m5)
open TX K2 K3
theorem yhy {vs:List Sn}{s:Sn}(h:ya2 (vs++[s])=vs++[s]):ya2 vs=vs:=by
 rw[ya1] at h
 by_cases g:(isR s&&ycG (ya2 vs))=true
 ·have hl:=congrArg List.length h
  rw[Bool.and_eq_true] at g
  obtain⟨us,m,e⟩:=ybz g.2
  have ln:=yc7 vs
  cases s with
  | tones=>cases g.1
  | rest n =>
   rw[e] at hl ln
   rw[ybk] at hl
   simp at hl ln
   omega
 ·rw[ybv (by simpa using g)] at h
  exact List.append_cancel_right h
theorem yj8 (ss:List Sn):ya2 (ya2 ss)=ya2 ss:=by
 refine ydv (p:=λss=>ya2 (ya2 ss)=ya2 ss) rfl (λss s ih=>?_) ss
 rw[ya1]
 generalize ya2 ss=ks at ih
 by_cases g:(isR s&&ycG ks)=true
 ·rw[Bool.and_eq_true] at g
  obtain⟨vs,m,rfl⟩:=ybz g.2
  cases s with
  | tones=>cases g.1
  | rest n =>
   have ev:=yhy ih
   have ne:ycG vs=false:=by
    rw[ya1,ev] at ih
    cases z:ycG vs with
    | false=>rfl
    | true =>
     obtain⟨us,k,rfl⟩:=ybz z
     rw[ybk] at ih
     have:=congrArg List.length ih
     simp at this
   rw[ybk,ya1,ev,ybv (by rw[ne,Bool.and_false])]
 ·rw[ybv (by simpa using g),ya1,ih,ybv (by simpa using g)]
theorem yhR {ss:List Sn}(h:ycG (yaQ ss)=false):yaQ (yaQ ss)=yaQ ss:=by
 have key:ya2 (yaQ ss)=yaQ ss:=by
  have n:=yj8 ss
  unfold yaQ ycW
  by_cases g:ycG (ya2 ss)=true
  ·rw[if_pos g]
   obtain⟨vs,m,e⟩:=ybz g
   rw[e] at n ⊢
   rw[List.dropLast_concat]
   exact yhy n
  ·rw[if_neg g]
   exact n
 show ycW (ya2 (yaQ ss))=_
 rw[key]
 unfold ycW
 rw[h]
 rfl
theorem yh8 {ps:List Pit}{n:Int}{wd:Str}{op cl:Bool}(ss:List Sn):Sn.tones ps n wd op cl∈ya2 ss->Sn.tones ps n wd op cl∈ss:=by
 refine ydv (p:=λss=>Sn.tones ps n wd op cl∈ya2 ss->Sn.tones ps n wd op cl∈ss) id (λss s ih h=>?_) ss
 rw[ya1] at h
 by_cases g:(isR s&&ycG (ya2 ss))=true
 ·rw[Bool.and_eq_true] at g
  obtain⟨vs,m,e⟩:=ybz g.2
  cases s with
  | tones=>cases g.1
  | rest k =>
   rw[e,ybk] at h
   rcases List.mem_append.mp h with h | h
   ·exact List.mem_append_left _ (ih (by rw[e];exact List.mem_append_left _ h))
   ·cases List.mem_singleton.mp h
 ·rw[ybv (by simpa using g)] at h
  rcases List.mem_append.mp h with h | h
  ·exact List.mem_append_left _ (ih h)
  ·exact List.mem_append_right _ h
theorem ylC (ss:List Sn):∀ s∈yaQ ss,s∈ya2 ss:=λs h=>by
 unfold yaQ ycW at h
 split at h
 ·exact List.dropLast_subset _ h
 ·exact h
theorem ykq {ss:List Sn}(g:GoodV ss)(e:ycG (yaQ ss)=false):GoodV (yaQ ss) where
 n1:=by
  have:=g.ne
  cases h:yaQ ss with
  | nil=>exact(this h).elim
  | cons=>simp
 n2:=by have:=ygH ss;have:=g.n2;omega
 g s hs:=by
  have hf:=ylC ss s hs
  have pf:=yc9 g.pos
  cases s with
  | rest n =>
   have a:=pf _ hf
   have b:=yqi pf hf
   rw[ycN] at b
   have c:=g.sum
   exact⟨a,by have b:n<=ybu ss:=b;omega⟩
  | tones=>exact g.g _ (yh8 ss hf)
 sum:=by
  have a:=yfQ (yc9 g.pos)
  have b:=ycN ss
  have c:=g.sum
  show ybu (ycW (ya2 ss))<=1000
  omega
 ne:=by rw[yhR e];exact g.ne
 sl:=by rw[ye1];exact g.sl
theorem OkVs.tidy {vss:List (List Sn)}(h:OkVs vss):GoodVs (vss.map yaQ)/\(vss.map yaQ).map yaQ=vss.map yaQ:=by
 obtain⟨⟨n1,n2,gv⟩,h2⟩:=h
 refine⟨⟨by rw[List.length_map];exact n1,by rw[List.length_map];exact n2,λss hs=>?_⟩,?_⟩
 ·obtain⟨z,hz,rfl⟩:=List.mem_map.mp hs
  exact ykq (gv z hz) (h2 z hz).1
 ·rw[List.map_map]
  exact List.map_congr_left λss hs=>yhR (h2 ss hs).1
theorem ykE {cs:List (Nat×Cv)}:ycj (csT cs)=true/\dpT (csT cs)<=59:=by
 have h:∀ c:Nat×Cv,ycj (chT c)=true/\dpT (chT c)<=58:=λc=>by
  have d:dpT (cvT c.2)<=57:=by
   cases c.2 with
   | m m=>exact yer (k:=56) (ya7 ybh (ya7 ybh (ya7 (yer (k:=55) (yc2 λu hu=>by obtain⟨n,_,rfl⟩:=List.mem_map.mp hu;exact ybh)) yea)))
   | k i=>exact ybh
  refine⟨?_,yer (k:=57) (ya7 ybh (ya7 d yea))⟩
  show(true&&(ycj (cvT c.2)&&true))=true
  rw[(yg2 c.2).1]
  rfl
 exact⟨ycb λu hu=>by obtain⟨x,_,rfl⟩:=List.mem_map.mp hu;exact(h x).1,yhK (yc2 λu hu=>by obtain⟨x,_,rfl⟩:=List.mem_map.mp hu;exact(h x).2)⟩
theorem yj7 (fw:List Fr):ycj (ybG fw)=true/\dpT (ybG fw)<=59:=by
 have h:∀ (b:Int) (f:Fr),ycj (frT b f)=true/\dpT (frT b f)<=58:=λb f=>by
  have d:dpT (mtT f.1)<=57:=yer (k:=56) (ya7 ybh (ya7 ybh (ya7 (yer (k:=55) (yc2 λu hu=>by obtain⟨n,_,rfl⟩:=List.mem_map.mp hu;exact ybh)) yea)))
  refine⟨?_,yer (k:=57) (ya7 ybh (ya7 d (ya7 ybh yea)))⟩
  show(true&&(ycj (mtT f.1)&&(true&&true)))=true
  rw[(yi3 f.1).1]
  rfl
 exact⟨ycb λu hu=>by obtain⟨x,_,rfl⟩:=List.mem_map.mp hu;exact(h _ _).1,yhK (yc2 λu hu=>by obtain⟨x,_,rfl⟩:=List.mem_map.mp hu;exact(h _ _).2)⟩
theorem yiz (fw:List Fr)(tvs:List (List Sn)):OkE (yub fw tvs):=by
 have hv:∀ ss:List Sn,ycj (vT ss)=true/\dpT (vT ss)<=59:=λss=>⟨(yk8 ss).1,Nat.le_trans (yhK (k:=3) (yc2 λu hu=>by obtain⟨x,_,rfl⟩:=List.mem_map.mp hu;exact(ylv x).2)) (by decide)⟩
 have key:∀ u∈[csT (ydR true fw),csT (ydR false fw),ybG fw]++tvs.map vT,ycj u=true/\dpT u<=59:=λu hu=>by
  rcases List.mem_append.mp hu with hu | hu
  ·simp only[List.mem_cons,List.not_mem_nil,or_false] at hu
   rcases hu with rfl | rfl | rfl
   ·exact ykE
   ·exact ykE
   ·exact yj7 fw
  ·obtain⟨x,_,rfl⟩:=List.mem_map.mp hu
   exact hv x
 exact⟨ycb λu hu=>(key u hu).1,yhK (yc2 λu hu=>(key u hu).2)⟩
theorem yje {σ:St}{H:Hp}{Q:VK}{i j:Nat}{tk:TE}{x y:V}{k:Int}{fw:List Fr}{vss:List (List Sn)}(ex:σ[i]?=some (some x))(ey:σ[j]?=some (some y))(hk:∀ {H:Hp} {Q:VK},Q (.int k) H->tk σ H Q)(ix:Is H x (ybG fw))(iy:Is H y (vsT vss))(fo:FwOk fw)(g:GoodVR vss)(h1:1<=k)(h7:k<=7)(q:∀ H',Same H H'->Q (tV (yeh k fw vss)) H') :
  tBM K "str" (ymU K) (tC (V.str "\n")) (yb3 (yfl yiJ [] E0 (yb3 (ydD i) (yb3 (ydD j) (yb3 tk yh6)))) yh6) σ H Q:=by
 have rk:=yf3 h1 h7 fo g
 have sl:=yek (k:=105) λw hw=>(rk.2.2 w hw).2
 refine ysR (i_c ⟨rfl,ydc (yha (ydc (ydf ex (ydc (ydf ey (ydc (hk (yc5 ?_)))))))) ⟩)
 exact⟨x,y,k,fw,vss,rfl,ix,iy,fo,g,h1,h7,λD H' s hD e=>yc5 (yeR 10 (ydK k fw vss) (by decide +kernel) e (by have:=rk.2.1;omega) (q _ s))⟩
noncomputable def ylQ (K:PySem.W.Frag):Sp:=λvs H Q _=>∃ (a:Addr) (ns:List Int),vs=[.ref a]/\SqL K H a (ns.map V.int)/\(∀ v∈ns,Builtin.Int.intBits v<=2 ^ 20)/\∀ H',Q (.bl true) H'
theorem yqQ (T:Txt K mg t)(G_zaj:FnOk P w K mg base CX0 1 t.f_zaj t.d_zaj ["_law_script","_law_tape","_law_size"] (ycL K))(G_zY:FnOk P w K mg base CX0 5 t.f_zY t.d_zY ["_law_script","_law_tape"] (ymf K))(G_zu:FnOk P w K mg base CX0 1 t.f_zu t.d_zu ["_law_frames_here","_law_part"] yoE)(G_zah:FnOk P w K mg base CX0 3 t.f_zah t.d_zah ["_law_frames_here","_law_voices_here","_law_times"] yiJ)(G_zm:FnOk P w K mg base CX0 4 t.f_zm t.d_zm ["_law_tune"] (yh4 t))(G_zap:FnOk P w K mg base CX0 11 t.f_zap t.d_zap ["text"] (yfO t))(G_zab:FnOk P w K mg base CX0 5 t.f_zab t.d_zab ["tune"] (yfF t))(G_zb:FnOk P w K mg base CX0 1 t.f_zb t.d_zb ["self"] (yd4 t))(G_zf:FnOk P w K mg base CX0 1 t.f_zf t.d_zf ["self"] (yf4 t))(G_zd:FnOk P w K mg base CX0 3 t.f_zd t.d_zd ["self","voice"] (ygB t))(G_zi:FnOk P w K mg base CX0 9 t.f_zi t.d_zi ["self","metres","keys","voices"] (yiq t)):FnOk P w K mg base CX0 12 t.f_zaR t.d_zaR ["_law_script"] (ylQ K):=by
 refine T.Rw.F.ok sc_zaR (λvs H Q E h=>?_) (λ_ _ _ s H vs Q E hr h=>?_)
 ·obtain⟨_,_,rfl,_⟩:=h;rfl
 have hu:=ybs hr
 obtain⟨a,ns,rfl,hs,sm,q⟩:=h
 refine⟨_,(yac (yap (i:=1) sc_zaR.nd rfl (Or.inl rfl) (yaV (yaa yad yab))) (yac (yjR (pcl G_zY hr T.zY (yaa (pv 0) (yaa (pv 1) yab))) (ydy (n:=3) rfl (yaZ (yax (i:=2) sc_zaR.nd rfl (Or.inl rfl)) (yaZ (yax (i:=3) sc_zaR.nd rfl (Or.inl rfl)) (yaZ (yax (i:=4) sc_zaR.nd rfl (Or.inl rfl)) ycD))))) (yac (yap (i:=5) sc_zaR.nd rfl (Or.inl rfl) (yaq yaD (yaV (yaa yad (yaa yad (yaa yad (yaa yad (yaa yad (yaa yad yab))))))) (pcl G_zaj hr T.JJ (yaa (pv 0) (yaa (pv 1) (yaa yad yab)))) (λ_ _=>rfl))) (yac (yap (i:=6) sc_zaR.nd rfl (Or.inl rfl) (yaC ygU (yaV (yaa (pcl G_zu hr T.zu (yaa (pv 4) (yaa yad yab))) (yaa (pcl G_zu hr T.zu (yaa (pv 4) (yaa yad yab))) (yaa (pv 4) yab)))) (pv 3))) (yac (yap (i:=7) sc_zaR.nd rfl (Or.inl rfl) (ybe F.plainAttrs_str F.slot_str_join F.type_str_join ycs yat (yaa (pcl G_zah hr T.QG (yaa (pv 4) (yaa (pv 3) (yaa yad yab)))) yab))) (yac (yap (i:=8) sc_zaR.nd rfl (Or.inr rfl) (pcl G_zap hr T.QJ (yaa (ybe F.plainAttrs_str F.slot_str_join F.type_str_join ycs yat (yaa (pcl G_zah hr T.QG (yaa (pv 4) (yaa (pv 2) (yaa (pv 5) yab)))) yab)) yab))) (yac (yaK (yan (ydZ hu) (pcl G_zm hr T.zm (yaa (pv 8) yab)) (pv 6) (yao _)) (yaf (yaj ycy)) yav) (yac (yjR (pcl G_zY hr T.zY (yaa (pv 0) (yaa (pv 1) yab))) (ydy (n:=3) rfl (yaZ (yax (i:=9) sc_zaR.nd rfl (Or.inl rfl)) (yaZ (yax (i:=10) sc_zaR.nd rfl (Or.inl rfl)) (yaZ (yax (i:=11) sc_zaR.nd rfl (Or.inl rfl)) ycD))))) (yac (yap (i:=12) sc_zaR.nd rfl (Or.inl rfl) (pcl G_zap hr T.QJ (yaa (ybe F.plainAttrs_str F.slot_str_join F.type_str_join ycs yat (yaa (pcl G_zah hr T.QG (yaa (pv 11) (yaa (pv 9) (yaa yad yab)))) yab)) yab))) (yac (yaK (yan ydL (pcl G_zab hr T.QF (yaa (pv 12) yab)) (ybe F.plainAttrs_str F.slot_str_join F.type_str_join ycs yat (yaa (pcl G_zah hr T.QG (yaa (pv 11) (yaa (pv 10) (yaa yad yab)))) yab)) (yao _)) (yaf (yaj ycy)) yav) (yac (yap (i:=13) sc_zaR.nd rfl (Or.inl rfl) (pcl G_zab hr T.QF (yaa (pv 8) yab))) (yac (yaK (PW.pt (yb4 (ybl (yaU (yak yaR rfl T.Ja yam (yaa (pv 13) (yaa (yb5 rfl T.Jg yaX) yab))))) (ybA (yan ydL (pv 13) (pv 7) (yao _))))) (yaf (yaj ycy)) yav) (yac (yap (i:=14) sc_zaR.nd rfl (Or.inl rfl) (pcl G_zap hr T.QJ (yaa (pv 13) yab))) (yac (yaK (PW.pt (yb4 (yan (ydZ hu) (pcl G_zm hr T.zm (yaa (pv 14) yab)) (pv 6) (yao _)) (ybA (yan ydL (pcl G_zab hr T.QF (yaa (pv 14) yab)) (pv 7) (yao _))))) (yaf (yaj ycy)) yav) (yac (yap (i:=15) sc_zaR.nd rfl (Or.inl rfl) (yeE T.Qi G_zi (hr.mono (by first | decide | omega)) rfl T.Qg T.zi.B .nil ycx (yaa (yb7 (pv 8) T.Jb T.Qx G_zb (hr.mono (by first | decide | omega)) T.zb.B .nil ycx) (yaa (yb7 (pv 8) T.Jb T.Qy G_zf (hr.mono (by first | decide | omega)) T.zf.B .nil ycx) (yaa (ya8 (yaH (NB:=["_law_k","_law_tune"]) (cap:=[none,some 8]) rfl) rfl (ycJ rfl T.Jo (yaa (yak yas rfl T.Jc PySem.boot_len (yaa (pv 3) yab)) yab)) (λ_ _ _ _=>(yax (i:=0) (show List.Nodup (["_law_k","_law_tune"]:List Str) by decide) rfl (Or.inl rfl))) (λ_ _ _ _=>yaJ) (λ_ _ _ _=>(yiN (pv 1) T.Jb T.Qw G_zd (hr.mono (by first | decide | omega)) T.zd.B .nil ycx (yaa (yaC yby (pv 0) yad) yab)))) yab))))) (yaf (yaj (ybq (ya4 yci (pcl G_zab hr T.QF (yaa (pv 15) yab)) (pv 7) (yao _)) (ybo (ya4 (yb0 hu) (pcl G_zm hr T.zm (yaa (pv 8) yab)) (pv 6) (yao _))))))))))))))))))))),?_⟩
 walk_at ""
 refine⟨by show 1<=sizeLine;decide,λtp htp=>?_⟩
 have s1:=yag htp (.lst [V.int 0])
 have d1:Dr K a tp ns (upd H tp (.lst [V.int 0])) 0:=⟨⟨H,hs,htp,s1⟩,sm,0,Nat.le_refl _,yae⟩
 generalize upd H tp (.lst [V.int 0])=H1 at d1 ⊢
 walk_at ""
 refine⟨a,tp,ns,0,rfl,d1,by omega,λc x1 x2 x3 vss fw H2 ov okf fo s2 d2 ec iv it ifr=>?_⟩
 refine yig (SqT.of (ya9 ec).2) ?_
 obtain⟨gt,tt⟩:=ov.tidy
 have gw:=ydo ov.1
 have okt:OkF fw (ycZ ((vss.map yaQ).map yaQ)):=by rw[tt];exact okf
 generalize ht:vss.map yaQ=tvs at it gt tt gw okt
 have n2:=gw.n2
 walk_at ""
 refine⟨by show 6<=sizeLine;decide,λp3 hp3=>?_⟩
 have s3:=yag hp3 (.lst ([1,1,2,3,5,7].map V.int))
 walk_at ""
 refine⟨a,tp,ns,_,6,rfl,d2.same s3,by omega,by decide,by decide,λv H4 v0 v1 s4 d4=>?_⟩
 refine ybf (SqL.of (s4 _ _ (d2.ne hp3) yae)) (yfc (L:=[1,1,2,3,5,7]) v0 (by show v < 6;exact v1)) ?_
 have g:∀ x∈([1,1,2,3,5,7]:List Int),1<=x/\x<=7:=by decide
 have gk:=g _ (List.getElem_mem (by show v.toNat < 6;omega:v.toNat < ([1,1,2,3,5,7]:List Int).length))
 generalize ([1,1,2,3,5,7]:List Int)[v.toNat]'_=k at gk ⊢
 have t24:SameT tp H2 H4:=SameT.trans (Same.tt s3) s4
 have t4:SameT tp H1 H4:=SameT.trans s2 t24
 have iv:=iv.same (d1.fr t24)
 have it:=it.same (d1.fr t24)
 have ifr:=ifr.same (d1.fr t24)
 walk_at ""
 refine⟨x3,true,fw,fr H1 H4,rfl,yaM _ _,ifr,fo.len,okf.m,λy5 H5 s5 i5=>?_⟩
 have i5:=i5.same (yeC d4 t4 s5)
 have d5:=d4.same s5
 have t5:SameT tp H1 H5:=SameT.trans t4 (Same.tt s5)
 walk_at ""
 refine⟨x3,false,fw,fr H1 H5,rfl,yaM _ _,ifr.same (yay s5),fo.len,okf.k,λy6 H6 s6 i6=>?_⟩
 have i6:=i6.same (yeC d5 t5 s6)
 have d6:=d5.same s6
 have t6:SameT tp H1 H6:=SameT.trans t5 (Same.tt s6)
 walk_at ""
 refine⟨by show 3<=sizeLine;decide,λp7 hp7=>?_⟩
 have s7:=yag hp7 (.lst [y5,y6,x3])
 have e7:=yae (H:=H6) (a:=p7) (o:=.lst [y5,y6,x3])
 generalize upd H6 p7 _=H7 at s7 e7 ⊢
 have s47:=s5.trans (s6.trans s7)
 obtain⟨bt,xt,rfl,et,ist⟩:∃ b xs,x2=.ref b/\fr H1 H4 b=some (.lst xs)/\Iss (fr H1 H4) xs (tvs.map vT):=by rw[vsT,Is] at it;exact it
 have lt:=ist.len
 rw[List.length_map] at lt
 walk_at ""
 refine⟨p7,bt,_,_,rfl,rfl,e7,s47 _ _ (ya9 et).2,small (by simp;omega),λp8 hp8=>?_⟩
 have s8:=yag hp8 (.lst ([y5,y6,x3]++xt))
 have e8:=yae (H:=H7) (a:=p8) (o:=.lst ([y5,y6,x3]++xt))
 generalize upd H7 p8 _=H8 at s8 e8 ⊢
 have d7:=d6.same s7
 have t7:SameT tp H1 H7:=SameT.trans t6 (Same.tt s7)
 have d8:=d7.same s8
 have t8:SameT tp H1 H8:=SameT.trans t7 (Same.tt s8)
 have s48:=s47.trans s8
 have idue:Is (fr H1 H8) (.ref p8) (yub fw tvs):=ybU (by rw[ybB (d7.free t7 hp8)];exact e8) (ye4 (yau (i5.same (yay (s6.trans (s7.trans s8)))) (yau (i6.same (yay (s7.trans s8))) (yau (ifr.same (yay s48)) (yaO _)))) (ist.same (yay s48)))
 have iv:=iv.same (yay s48)
 have it:=it.same (yay s48)
 have ifr:=ifr.same (yay s48)
 refine ybj (ycw (yf9 (yje (k:=1) rfl rfl i_c (ifr.same (yaM _ _)) (it.same (yaM _ _)) fo gt.vr (by decide) (by decide) λH9 s9=>?_)))
 have d9:=d8.same s9
 have t9:SameT tp H1 H9:=SameT.trans t8 (Same.tt s9)
 refine ybj (ycw (yf9 (yha (ydc (yje rfl rfl (ydf rfl) ((ifr.same (yay s9)).same (yaM _ _)) ((iv.same (yay s9)).same (yaM _ _)) fo ov.1.vr gk.1 gk.2 λH10 s10=>yc5 ?_)))))
 have d10:=d9.same s10
 have t10:SameT tp H1 H10:=SameT.trans t9 (Same.tt s10)
 have s810:=s9.trans s10
 refine⟨k,fw,vss,rfl,gk.1,gk.2,fo,ov.1,okf,λtune H11 s11 tu th=>?_⟩
 rw[ht] at tu
 have tu:=tu.same (ybK d10 t10)
 have th:=th.same (ybK d10 t10)
 have d11:=d10.same s11
 have t11:SameT tp H1 H11:=SameT.trans t10 (Same.tt s11)
 have idue:=idue.same (yay (s810.trans s11))
 have it:=it.same (yay (s810.trans s11))
 dsimp only
 refine ybj (ycw (yku (te:=yip _ _ _) (fun σ H'=>σ=[some (.ref a),some (.ref tp),some x1,some (.ref bt),some x3,some (.int k),some (.ref p8),some (tV (yeh 1 fw tvs)),some tune,none,none,none,none,none,none,none]/\Same H11 H') (λD' hD'=>?_) fun σ H12 hh=>?_))
 ·walk_at ""
  refine⟨tune,fw,tvs,fr H1 H11,rfl,yaM _ _,tu,th,gw,λz12 H12 s12 i12=>?_⟩
  have i12:=i12.same (yeC d11 t11 s12)
  walk_at ""
  refine yqk (yiz fw tvs) (i12.same (yaM _ _)) ((idue.same (yay s12)).same (yaM _ _)) (ya0 (i_F ?_))
  exact ybn (hD' _ _ ⟨rfl,s12⟩)
 obtain⟨rfl,s12⟩:=hh
 dsimp only
 have d12:=d11.same s12
 have t12:SameT tp H1 H12:=SameT.trans t11 (Same.tt s12)
 have idue:=idue.same (yay s12)
 have tu:=tu.same (yay s12)
 have th:=th.same (yay s12)
 have it:=it.same (yay s12)
 walk_at ""
 refine⟨a,tp,ns,_,rfl,d12,by omega,λc2 w1 w2 w3 vs2 fw2 H13 ov2 okf2 fo2 s13 d13 ec2 iv2 it2 ifr2=>?_⟩
 refine yig (SqT.of (ya9 ec2).2) ?_
 have t13:SameT tp H1 H13:=SameT.trans t12 s13
 have iv2:=iv2.same (ybK d12 t12)
 have it2:=it2.same (ybK d12 t12)
 have ifr2:=ifr2.same (ybK d12 t12)
 have idue:=idue.same (d1.fr s13)
 have tu:=tu.same (d1.fr s13)
 have th:=th.same (d1.fr s13)
 have it:=it.same (d1.fr s13)
 obtain⟨gt2,tt2⟩:=ov2.tidy
 have gw2:=ydo ov2.1
 generalize ht2:vs2.map yaQ=tv2 at it2 gt2 tt2 gw2
 refine ycw (yf9 (yha (ydc (yje (k:=1) rfl rfl i_c (ifr2.same (yaM _ _)) (iv2.same (yaM _ _)) fo2 ov2.1.vr (by decide) (by decide) λH14 s14=>yc5 ?_))))
 have d14:=d13.same s14
 have t14:SameT tp H1 H14:=SameT.trans t13 (Same.tt s14)
 refine⟨1,fw2,vs2,rfl,by decide,by decide,fo2,ov2.1,okf2,λtune2 H15 s15 tu2 th2=>?_⟩
 rw[ht2] at tu2
 have tu2:=tu2.same (ybK d14 t14)
 have th2:=th2.same (ybK d14 t14)
 have d15:=d14.same s15
 have t15:SameT tp H1 H15:=SameT.trans t14 (Same.tt s15)
 have s1315:=s14.trans s15
 dsimp only
 refine ybj (ycw (yku (te:=yip _ _ _) (fun σ H'=>σ=[some (.ref a),some (.ref tp),some x1,some (.ref bt),some x3,some (.int k),some (.ref p8),some (tV (yeh 1 fw tvs)),some tune,some w1,some w2,some w3,some tune2,none,none,none]/\Same H15 H') (λD' hD'=>?_) fun σ H17 hh=>?_))
 ·walk_at ""
  refine⟨tune2,fw2,tv2,fr H1 H15,rfl,yaM _ _,tu2,th2,fo2,gw2,gt2.vr,λH16 s16=>?_⟩
  have s1316:=s1315.trans s16
  refine yje (k:=1) rfl rfl i_c ((ifr2.same (yay s1316)).same (yaM _ _)) ((it2.same (yay s1316)).same (yaM _ _)) fo2 gt2.vr (by decide) (by decide) λH17 s17=>?_
  refine yk1 (ya0 ?_)
  rw[decide_eq_true rfl]
  exact i_F (ybn (hD' _ _ ⟨rfl,s16.trans s17⟩))
 obtain⟨rfl,s17⟩:=hh
 dsimp only
 have s1317:=s1315.trans s17
 have d17:=d13.same s1317
 have t17:SameT tp H1 H17:=SameT.trans t13 (Same.tt s1317)
 have idue:=idue.same (yay s1317)
 have tu:=tu.same (yay s1317)
 have th:=th.same (yay s1317)
 have it:=it.same (yay s1317)
 walk_at ""
 refine⟨tune,fw,tvs,fr H1 H17,rfl,yaM _ _,tu,th,fo,gw,gt.vr,λH18 s18=>?_⟩
 have d18:=d17.same s18
 have t18:SameT tp H1 H18:=SameT.trans t17 (Same.tt s18)
 have idue:=idue.same (yay s18)
 have tu:=tu.same (yay s18)
 have th:=th.same (yay s18)
 have it:=it.same (yay s18)
 dsimp only
 refine ybj (ycw (yku (te:=yip _ _ _) (fun σ H'=>σ=[some (.ref a),some (.ref tp),some x1,some (.ref bt),some x3,some (.int k),some (.ref p8),some (tV (yeh 1 fw tvs)),some tune,some w1,some w2,some w3,some tune2,some (tV (yeh 1 fw tvs)),none,none]/\H'=H18) (λD' hD'=>?_) fun σ H' hh=>?_))
 ·walk_at ""
  refine ycu (.str _) (ya0 (i_F ?_))
  walk_at ""
  refine yk1 (ya0 ?_)
  rw[decide_eq_true rfl]
  exact i_F (ybn (hD' _ _ ⟨rfl,rfl⟩))
 obtain⟨rfl,rfl⟩:=hh
 dsimp only
 walk_at ""
 refine⟨1,fw,tvs,rfl,by decide,by decide,fo,gt,okt,λtune3 H19 s19 tu3 th3=>?_⟩
 rw[tt] at tu3
 have tu3:=tu3.same (ybK d18 t18)
 have th3:=th3.same (ybK d18 t18)
 have d19:=d18.same s19
 have t19:SameT tp H1 H19:=SameT.trans t18 (Same.tt s19)
 walk_at ""
 refine⟨tune3,fw,tvs,fr H1 H19,rfl,yaM _ _,tu3,th3,gw,λz20 H20 s20 i20=>?_⟩
 have i20:=i20.same (yeC d19 t19 s20)
 have s1820:=s19.trans s20
 walk_at ""
 refine yqk (yiz fw tvs) (i20.same (yaM _ _)) ((idue.same (yay s1820)).same (yaM _ _)) (ya0 (i_F ?_))
 walk_at ""
 refine⟨tune3,fw,tvs,fr H1 H20,rfl,yaM _ _,tu3.same (yay s20),th3.same (yay s20),fo,gw,gt.vr,λH21 s21=>?_⟩
 walk_at ""
 refine yk1 (ya0 ?_)
 rw[decide_eq_true rfl]
 refine i_F ?_
 have s1821:=s1820.trans s21
 have d21:=d18.same s1821
 have t21:SameT tp H1 H21:=SameT.trans t18 (Same.tt s1821)
 have idue:=idue.same (yay s1821)
 have tu:=tu.same (yay s1821)
 have th:=th.same (yay s1821)
 have it:=it.same (yay s1821)
 obtain⟨ta,dx,m,kk,vv,ff,rfl,ea,_⟩:=id tu
 walk_at ""
 refine⟨ta,dx,_,rfl,(ya9 ea).2,rfl,?_⟩
 walk_at ""
 refine⟨_,_,_,fr H1 H21,rfl,yaM _ _,th,λy22 H22 s22 i22=>?_⟩
 have i22:=i22.same (yeC d21 t21 s22)
 have d22:=d21.same s22
 have t22:SameT tp H1 H22:=SameT.trans t21 (Same.tt s22)
 walk_at ""
 refine⟨ta,dx,_,rfl,s22 _ _ (ya9 ea).2,rfl,?_⟩
 walk_at ""
 refine⟨_,_,_,fr H1 H22,rfl,yaM _ _,th.same (yay s22),λy23 H23 s23 i23=>?_⟩
 have i23:=i23.same (yeC d22 t22 s23)
 have d23:=d22.same s23
 have t23:SameT tp H1 H23:=SameT.trans t22 (Same.tt s23)
 have s2123:=s22.trans s23
 obtain⟨bt',xt',e,et',ist'⟩:∃ b xs,V.ref bt=.ref b/\fr H1 H21 b=some (.lst xs)/\Iss (fr H1 H21) xs (tvs.map vT):=by rw[vsT,Is] at it;exact it
 cases e
 have lt':=ist'.len
 rw[List.length_map] at lt'
 walk_at ""
 refine⟨bt,_,rfl,.inl (SqL.of (s2123 _ _ (ya9 et').2)),?_⟩
 rw[lt']
 walk_at ""
 refine⟨tvs.length,rfl,by omega,by omega,?_⟩
 rw[show((tvs.length:Nat):Int).toNat=tvs.length from rfl]
 intro D24 hD24
 have tu23:=tu.same (yay s2123)
 refine yiQ vT (yaM H1 H23) hD24 (by omega) (λi hi H' Q' sm' q'=>?_) λys24 H24 s24 e24 is24=>?_
 ·walk_at ""
  refine⟨ta,dx,_,rfl,sm' _ _ (s2123 _ _ (ya9 ea).2),rfl,?_⟩
  walk_at ""
  exact⟨_,tvs,fw,i,hi,fr H1 H23,by rw[show(0:Int)+(i:Int)+1=((i+1:Nat):Int) by omega];rfl,(yaM _ _).trans sm',tu23,gw,q'⟩
 have is24:=is24.same (yeC d23 t23 s24)
 have d24:=d23.same s24
 have t24:SameT tp H1 H24:=SameT.trans t23 (Same.tt s24)
 have iv24:Is (fr H1 H24) (.ref D24) (vsT tvs):=ybU (by rw[ybB (d23.free t23 hD24)];exact e24) is24
 have s2124:=s2123.trans s24
 walk_at ""
 intro x dx2 hx hdx ndx
 refine⟨x,dx2,y22,y23,_,_,_,tvs,fw,fr H1 H24,H24,rfl,yae,hx,ydd hx hdx ndx,yaM _ _,i22.same (yay (s23.trans s24)),i23.same (yay s24),iv24,ykH gt okt fo.ne,λH25 s25 tu4 th4=>⟨rfl,?_⟩⟩
 rw[tt] at tu4
 have tu4:=tu4.same (yeC d24 t24 s25)
 have th4:=th4.same (yeC d24 t24 s25)
 have d25:=d24.same s25
 have t25:SameT tp H1 H25:=SameT.trans t24 (Same.tt s25)
 walk_at ""
 refine⟨.ref x,fw,tvs,fr H1 H25,rfl,yaM _ _,tu4,th4,fo,gw,gt.vr,λH26 s26=>?_⟩
 walk_at ""
 refine ykr (ya0 ?_)
 rw[decide_eq_true rfl]
 refine i_T ?_
 walk_at ""
 have s2126:=s2124.trans (s25.trans s26)
 refine⟨_,fw,tvs,fr H1 H26,rfl,yaM _ _,tu.same (yay s2126),th.same (yay s2126),gw,λz27 H27 s27 i27=>?_⟩
 have d26:=d25.same s26
 have t26:SameT tp H1 H26:=SameT.trans t25 (Same.tt s26)
 have i27:=i27.same (yeC d26 t26 s27)
 walk_at ""
 exact ymK (yiz fw tvs) (i27.same (yaM _ _)) ((idue.same (yay (s2126.trans s27))).same (yaM _ _)) (q _)
end
end KD
namespace KD
open PySem L2
section
variable {P:Program} {w:World} {K:PySem.W.Frag} {mg:Str->Option Value} {base:Heap} {t:Ad}
theorem yqI (T:Txt K mg t):FnOk P w K mg base CX0 12 t.f_zaR t.d_zaR ["_law_script"] (ylQ K):=by
 have G_zax:=yqY (P:=P) (w:=w) (base:=base) T
 have G_zat:=yqq T G_zax
 have G_zaF:=yrC (P:=P) (w:=w) (base:=base) T
 have G_zA:=ysm (P:=P) (w:=w) (base:=base) T
 have G_zR:=ysQ T G_zA
 have G_zU:=yt4 T G_zat
 have G_zaC:=yql T G_zax G_zat G_zA G_zU
 have G_zaK:=ypY T G_zat
 have G_zaz:=yqT T G_zat
 have G_zaQ:=yqE (P:=P) (w:=w) (base:=base) T
 have G_zav:=yqF (P:=P) (w:=w) (base:=base) T
 have G_zy:=yti T G_zav
 have G_zaG:=yrA T G_zy
 have G_zaN:=yqd (P:=P) (w:=w) (base:=base) T
 have G_zae:=yq2 T G_zaz G_zaQ G_zaF
 have G_zh:=yue (P:=P) (w:=w) (base:=base) T
 have G_zg:=ysT T G_zh
 have G_zaP:=yqe (P:=P) (w:=w) (base:=base) T
 have G_zr:=ysu (P:=P) (w:=w) (base:=base) T
 have G_zQ:=ysB (P:=P) (w:=w) (base:=base) T
 have G_zw:=ytp T G_zQ G_zat
 have G_zn:=yts T G_zQ G_zat G_zae G_zaG
 have G_zaw:=yrS T G_zw G_zn G_zh G_zg
 have G_zad:=yrF (P:=P) (w:=w) (base:=base) T
 have G_zao:=yqP T G_zaN G_zh
 have G_zaO:=yp4 T G_zr G_zao
 have G_zL:=yt8 T G_zaN
 have G_zau:=yqJ T G_zaN G_zaO G_zaw G_zL
 have G_zak:=yq3 T G_zaN G_zau
 have G_good:=ypE G_zaC (G_zaK.mono (by decide))
 have G_zai:=yrf T G_zax G_good
 have G_zV:=ysY T G_zaN G_zai G_zaF
 have G_zaE:=yqs (P:=P) (w:=w) (base:=base) T
 have G_zG:=ys3 T G_zaN
 have G_zO:=ytM T G_zaN G_zaE G_zR
 have G_zW:=yte T G_zad
 have G_zag:=yro (P:=P) (w:=w) (base:=base) T
 have G_zz:=ytQ (P:=P) (w:=w) (base:=base) T
 have G_zd:=yto T G_zat G_zaP
 have G_zi:=ys6 T G_zV G_zak G_zO G_zW G_zG
 have G_zaj:=yrd (P:=P) (w:=w) (base:=base) T
 have G_zX:=yuo T G_zaj
 have G_zD:=ysX T G_zaj
 have G_zk:=yuf T G_zaj
 have G_zo:=yty T G_zaj
 have G_zM:=yt6 T G_zaj G_zD G_zk G_zo
 have G_zaa:=yrb (P:=P) (w:=w) (base:=base) T
 have G_zJ:=ysN (P:=P) (w:=w) (base:=base) T
 have G_zC:=ytq T G_zaj G_zM
 have G_zu:=ysG (P:=P) (w:=w) (base:=base) T
 have G_zE:=yua T G_zaj G_zX
 have G_has_onlyF:=yh1 (P:=P) (w:=w) (base:=base) T
 have G_zI:=ysW T G_has_onlyF
 have G_zal:=yry T G_zI
 have G_zF:=ys0 (P:=P) (w:=w) (base:=base) T
 have G_zaM:=yre (P:=P) (w:=w) (base:=base) T
 have G_zaI:=yrE T G_zaM
 have G_zB:=yth T G_zaI G_zF
 have G_zq:=yt9 (P:=P) (w:=w) (base:=base) T
 have G_zaf:=yqy T G_zal G_zq
 have G_zaD:=yrc (P:=P) (w:=w) (base:=base) T
 have G_zas:=yqD T G_zaD
 have G_zay:=yqo (P:=P) (w:=w) (base:=base) T
 have G_number_textN:=yeD (P:=P) (w:=w) (base:=base) T
 have G_num_of:=yrn G_zal
 have G_zaL:=yqR T G_num_of G_zaK
 have G_zP:=ytP T G_num_of
 have G_zar:=yrt T G_zP G_zaC
 have G_zZ:=ysV T G_number_textN
 have G_zt:=ysD T G_zar G_zaL
 have G_zam:=yqv T G_zay G_zt G_num_of G_zat
 have G_zK:=yst T G_number_textN
 have G_zaB:=yqw T G_zy
 have G_zT:=ytg T G_zam
 have G_zaJ:=yp5 T G_zay G_zaf G_zas G_zaB
 have G_za:=ysv (P:=P) (w:=w) (base:=base) T
 have G_zaq:=yp9 T G_zaJ G_za
 have G_zaH:=ypS (P:=P) (w:=w) (base:=base) T
 have G_zap:=yrV T G_zT G_zaq G_zaH G_zi
 have G_zb:=yuc (P:=P) (w:=w) (base:=base) T
 have G_zf:=ytK (P:=P) (w:=w) (base:=base) T
 have G_zN:=ysw T G_zZ G_number_textN
 have G_zx:=yt7 T G_zb G_zf
 have G_zac:=yp8 T G_zB G_zK
 have G_zab:=yrP T G_zx G_zN G_zag G_zd G_zac
 have G_zH:=ysS (P:=P) (w:=w) (base:=base) T
 have G_zaA:=yrv T G_zH
 have G_ze:=ysK (P:=P) (w:=w) (base:=base) T
 have G_zah:=yqz T G_ze G_zaA
 have G_zm:=ytU T G_zb G_zf G_zz G_zag G_zd
 have G_zY:=ytv T G_zaj G_zC G_zaa G_zJ G_zE
 exact yqQ T G_zaj G_zY G_zu G_zah G_zm G_zap G_zab G_zb G_zf G_zd G_zi
theorem all_mk {l:PySem.W.OpenLaw}{w:World}{K:PySem.W.Frag}{mg:Str->Option Value}{fa:Addr}(hfa:mg "law"=some (.ref fa))(h:∃ t,Txt K mg t/\∀ (s:Shared) (v:Value),BindsTo s t.d_zaR ⟨[v],[]⟩ [("_law_script",v)]) :
  ∃ fd:FuncData,(∀ (s:Shared) (v:Value),BindsTo s fd ⟨[v],[]⟩ [("_law_script",v)])/\∀ base:Heap,K.In base->base.Ns mainGlobals mg->FnOk l.prog w K mg base CX0 12 fa fd ["_law_script"] (ylQ K):=by
 obtain⟨t,T,hb⟩:=h
 have e:=hfa.symm.trans T.Rw.M
 cases e
 exact⟨_,hb,λbase _ _=>yqI T⟩
theorem walk {l:PySem.W.OpenLaw}{q:Program}{loose:List Str}{XP:(Str->Option Value)->Heap->Prop}{YP:World->Heap->Prop}{d:DefRec}{K:Params->PySem.W.Frag}(hn:l.most=some 63)(hdf:d.params.defaults=[])
  (hY:∀ (w:World) (h:Heap),YP w h->(K w.params).In h)
  (F:∀ (w:World) (mg:Str->Option Value) (fa:Addr) (h:Heap),(K w.params).In h->h.Ns mainGlobals mg->mg d.name=some (.ref fa) ->
   ∃ fd:FuncData,(∀ (s:Shared) (u:Value),BindsTo s fd ⟨[u],[]⟩ [("_law_script",u)])/\∀ base:Heap,(K w.params).In base->base.Ns mainGlobals mg->FnOk l.prog w (K w.params) mg base CX0 12 fa fd ["_law_script"] (ylQ (K w.params))) :
  PySem.W.WalkO q loose XP YP l.row.toRowW d [] (λf vs=>PySem.call f vs) :=
 L2.walk_ofB (n:=63) (k:=12) (x := "_law_script") (CX:=λ_=>CX0) (sp:=λw=>ylQ (K w.params)) hn (by decide) hdf ⟨rfl,by decide,by decide⟩ hY F (λ_ _ a ns hl hb _ hS=>⟨a,ns,rfl,hS,hb,λ_=>rfl⟩) λ_ _ _ _ _ z=>z
theorem ln1 {u:List Value}(h:u.length=1):∃ a,u=[a]:=match u,h with | [a],_=>⟨a,rfl⟩
theorem ln2 {u:List Value}(h:u.length=2):∃ a b,u=[a,b]:=match u,h with | [a,b],_=>⟨a,b,rfl⟩
theorem ln3 {u:List Value}(h:u.length=3):∃ a b c,u=[a,b,c]:=match u,h with | [a,b,c],_=>⟨a,b,c,rfl⟩
theorem ln4 {u:List Value}(h:u.length=4):∃ a b c d,u=[a,b,c,d]:=match u,h with | [a,b,c,d],_=>⟨a,b,c,d,rfl⟩
theorem ln6 {u:List Value}(h:u.length=6):∃ a b c d e f,u=[a,b,c,d,e,f]:=match u,h with | [a,b,c,d,e,f],_=>⟨a,b,c,d,e,f,rfl⟩
theorem yaA {K:PySem.W.Frag}{h:Heap}{mg:Str->Option Value}{n:Str}{m:Nat}{ps:List Str}{f:Addr}{od an:Option Addr}{sl:Array (Option Value)}{oc kV dc pm cd ct:Value}(X:K.In h)(G:h.Ns mainGlobals mg)
  (a:PySem.W.nsIn K mainGlobals n=some (some (.ref f)):=by (try dsimp only);k_is) (l:K.lookup f=some ⟨oc,od,.func (PySem.W.fnOf n n (ycB (top m)) (ycn (top m)) (yah (top m)) .none kV dc pm an cd ct),sl⟩:=by (try dsimp only);k_is)
  (c:PySem.W.codeIn K cd n=true:=by (try dsimp only);k_is) (k:PySem.W.keepIn K (.ref f)=true:=by (try dsimp only);k_is)
  (e:∀ (kV dc pm:Value) (an:Option Addr) (cd ct:Value) (us:List Value),us.length=ps.length->bindArgs (PySem.W.fnOf n n (ycB (top m)) (ycn (top m)) (yah (top m)) .none kV dc pm an cd ct) ⟨us,[]⟩=pure (ps.zip us):=by first | (intro _ _ _ _ _ _ us hl;obtain⟨_,rfl⟩:=ln1 hl;rfl) | (intro _ _ _ _ _ _ us hl;obtain⟨_,_,rfl⟩:=ln2 hl;rfl) | (intro _ _ _ _ _ _ us hl;obtain⟨_,_,_,rfl⟩:=ln3 hl;rfl) | (intro _ _ _ _ _ _ us hl;obtain⟨_,_,_,_,rfl⟩:=ln4 hl;rfl) | (intro _ _ _ _ _ _ us hl;obtain⟨_,_,_,_,_,_,rfl⟩:=ln6 hl;rfl)) :
  FM K mg n m ps f (PySem.W.fnOf n n (ycB (top m)) (ycn (top m)) (yah (top m)) .none kV dc pm an cd ct) :=
 ⟨yi2 l c k,(yi2 l c k).binds e,PySem.W.mg_of X G a⟩
theorem mN {K:PySem.W.Frag}{n q:Str}{m:Nat}{ps:List Str}{f:Addr}{od an:Option Addr}{sl:Array (Option Value)}{oc kV dc pm cd ct:Value}
  (l:K.lookup f=some ⟨oc,od,.func (PySem.W.fnOf n q (ycB (top m)) (ycn (top m)) (yah (top m)) .none kV dc pm an cd ct),sl⟩:=by (try dsimp only);k_is)
  (c:PySem.W.codeIn K cd q=true:=by (try dsimp only);k_is) (k:PySem.W.keepIn K (.ref f)=true:=by (try dsimp only);k_is)
  (e:∀ (kV dc pm:Value) (an:Option Addr) (cd ct:Value) (us:List Value),us.length=ps.length->bindArgs (PySem.W.fnOf n q (ycB (top m)) (ycn (top m)) (yah (top m)) .none kV dc pm an cd ct) ⟨us,[]⟩=pure (ps.zip us):=by first | (intro _ _ _ _ _ _ us hl;obtain⟨_,rfl⟩:=ln1 hl;rfl) | (intro _ _ _ _ _ _ us hl;obtain⟨_,_,rfl⟩:=ln2 hl;rfl) | (intro _ _ _ _ _ _ us hl;obtain⟨_,_,_,rfl⟩:=ln3 hl;rfl) | (intro _ _ _ _ _ _ us hl;obtain⟨_,_,_,_,rfl⟩:=ln4 hl;rfl) | (intro _ _ _ _ _ _ us hl;obtain⟨_,_,_,_,_,_,rfl⟩:=ln6 hl;rfl)) :
  FN K n q m ps f (PySem.W.fnOf n q (ycB (top m)) (ycn (top m)) (yah (top m)) .none kV dc pm an cd ct) :=
 ⟨yi2 l c k,(yi2 l c k).binds e⟩
section
variable {K:PySem.W.Frag} {h:Heap} {mg:Str->Option Value} {n:Str} {v:Value} {f C:Addr}
theorem mV (X:K.In h)(G:h.Ns mainGlobals mg)(a:PySem.W.nsIn K mainGlobals n=some (some v):=by (try dsimp only);k_is):mg n=some v:=PySem.W.mg_of X G a
theorem mZ (X:K.In h)(G:h.Ns mainGlobals mg)(a:PySem.W.nsIn K mainGlobals n=some none:=by (try dsimp only);k_is):mg n=none:=PySem.W.mg_none_of X G a
theorem mK (a:PySem.W.makesIn K C=true:=by (try dsimp only);k_is)(b:PySem.W.findIn K (.ref C) "__init__"=some (some (.ref f)):=by (try dsimp only);k_is)(c:PySem.W.isFn K (.ref f)=true:=by (try dsimp only);k_is)(d:PySem.W.keepIn K (.ref C)=true:=by (try dsimp only);k_is):Mk K C f:=⟨a,b,c,d⟩
theorem mM (a:PySem.W.findIn K (.ref C) n=some (some (.ref f)):=by (try dsimp only);k_is)(b:PySem.W.isFn K (.ref f)=true:=by (try dsimp only);k_is)(c:PySem.W.keepIn K (.ref f)=true:=by (try dsimp only);k_is):yjz K C n f:=⟨a,b,c⟩
theorem mS (a:PySem.W.specialIn K (.ref C) "__getattribute__"=some (some (.builtin "type.__getattribute__")):=by (try dsimp only);k_is)(b:PySem.W.readsIn K C (.type "type")=true:=by (try dsimp only);k_is)(c:PySem.W.findCls K (.ref C) (.type "type") n=some (.val (.ref f)):=by (try dsimp only);k_is)(d:PySem.W.keepIn K (.ref f)=true:=by (try dsimp only);k_is):yoZ K C n f:=⟨a,b,c,rfl,d⟩
theorem mL (a:PySem.W.plainGet K C Str.empty=true:=by (try dsimp only);k_is)(b:PySem.W.hasDictIn K C=true:=by (try dsimp only);k_is)(c:PySem.W.plainOver K C=true:=by (try dsimp only);k_is)(d:PySem.W.findIn K (.ref C) "__setattr__"=some (some (.builtin "object.__setattr__")):=by (try dsimp only);k_is):Cls K C:=⟨a,b,c,d⟩
theorem mO (a:PySem.W.findIn K (.ref C) "__class__"=some (some (.builtin "object.__class__")):=by (try dsimp only);k_is)(b:PySem.W.specialIn K (.builtin "object.__class__") "__get__"=some (some (.builtin "getset_descriptor.__get__")):=by (try dsimp only);k_is)(c:PySem.W.takesIn K (.builtin "object.__class__")=some true:=by (try dsimp only);k_is)(d:PySem.W.mroIn K C (.type "object")=some true:=by (try dsimp only);k_is):ClsObj K C:=⟨a,b,c,d⟩
theorem mA (a:PySem.W.findIn K (.ref C) n=some none:=by (try dsimp only);k_is):NoAttr K C n:=a
theorem mI {D:Addr}{b:Bool}(a:PySem.W.kitOne K (.ref C) (.ref D)=some b:=by (try dsimp only);kit_is):PySem.W.kitOne K (.ref C) (.ref D)=some b:=a
theorem mQ {xs:List V}{i:List Value}{k:Nat}(l:K.lookup f=some ⟨.type "tuple",none,.seq i.toArray k,#[]⟩:=by (try dsimp only);k_is)(v:ylN xs i=true:=by rfl)(y:i.length<=1000:=by decide):TupIn K f xs:=ymX l v (by simpa using y)
end
end
section
open PySem PySem.W PyProof.Rows
theorem txx {w:World}{mg:Str->Option Value}{h:Heap}(X:(pre.heap_1 w.params).In h)(G:h.Ns mainGlobals mg):∃ t,Txt (pre.heap_1 w.params) mg t/\∀ (s:Shared) (v:Value),BindsTo s t.d_zaR ⟨[v],[]⟩ [("_law_script",v)] :=
 ⟨⟨_,_,_,_,_,_,_,_,_,_,_,_,_,_,_,_,_,_,_,_,_,_,_,_,_,_,_,_,_,_,_,_,_,_,_,_,_,_,_,_,_,_,_,_,_,_,_,_,_,_,_,_,_,_,_,_,_,_,_,_,_,_,_,_,_,_,_,_,_,_,_,_,_,_,_,_,_,_,_,_,_,_,_,_,_,_,_,_,_,_,_,_,_,_,_,_,_,_,_,_,_,_,_,_,_,_,_,_,_,_,_,_,_,_,_,_,_,_,_,_,_,_,_,_,_,_,_,_,_,_,_,_,_,_,_,_,_,_,_,_,_,_,_,_,_,_,_,_,_,_,_,_,_,_,_,_,_,_,_,_,_,_,_,_,_,_,_,_,_,_,_,_,_,_,_,_,_,_,_,_,_,_,_,_,_,_,_⟩,⟨mV X G,mV X G,mV X G,mV X G,mV X G,mV X G,mK,mK,mK,mM,mM,mM,mM,mM,mM,mM,mM,mS,yaA X G,yaA X G,yaA X G,yaA X G,yaA X G,yaA X G,yaA X G,yaA X G,yaA X G,yaA X G,yaA X G,yaA X G,mN,mN,mN,mN,mN,mN,mN,mN,mN,yaA X G,yaA X G,yaA X G,yaA X G,yaA X G,yaA X G,yaA X G,yaA X G,yaA X G,yaA X G,yaA X G,yaA X G,yaA X G,yaA X G,yaA X G,yaA X G,yaA X G,yaA X G,yaA X G,yaA X G,yaA X G,yaA X G,yaA X G,yaA X G,yaA X G,yaA X G,yaA X G,yaA X G,yaA X G,yaA X G,yaA X G,yaA X G,yaA X G,yaA X G,yaA X G,yaA X G,yaA X G,yaA X G,yaA X G,yaA X G,yaA X G,yaA X G,yaA X G,yaA X G,yaA X G,yaA X G,mN,mN,yaA X G,yaA X G,yaA X G,yaA X G,yaA X G,yaA X G,yaA X G,yaA X G,yaA X G,yaA X G,yaA X G,yaA X G,yaA X G,yaA X G,yaA X G,yaA X G,yaA X G,yaA X G,yaA X G,yaA X G,mZ X G,mZ X G,mZ X G,mZ X G,mZ X G,mZ X G,mZ X G,mZ X G,mZ X G,mZ X G,mZ X G,mZ X G,mZ X G,mZ X G,mZ X G,⟨_,mV X G⟩,⟨_,mV X G⟩,⟨_,mV X G⟩,⟨_,mV X G⟩,⟨_,mV X G⟩,⟨_,mV X G⟩,⟨_,mV X G⟩,mV X G,mQ,⟨_,mV X G⟩,⟨_,mV X G⟩,⟨_,mV X G⟩,mV X G,mQ,⟨_,mV X G⟩,⟨_,mV X G⟩,⟨_,mV X G⟩,⟨_,mV X G⟩,⟨_,mV X G⟩,⟨_,mV X G⟩,⟨_,mV X G⟩,⟨_,mV X G⟩,mV X G,mQ,⟨_,mV X G⟩,⟨_,mV X G⟩,mL,mO,mA,mI,mI,mL,mO,mA,mA,mA,mA,mA,mI,mI,mL,mO,mA,mA,mA,mA,mI,mI⟩,λs v=>.of_eq rfl⟩
end
end KD
open PySem PySem.W PyProof.Rows
set_option maxRecDepth 100000 in
set_option maxHeartbeats 0 in
theorem PySem.Challenge.cw_barwright_k10_whole_texts_of_tunes_holds : PySem.Challenge.rw_barwright_k10_whole_texts_of_tunes.Holds := by
 refine KD.headx ?_
 k_fill
 refine KD.walk (l:=PySem.Challenge.rw_barwright_k10_whole_texts_of_tunes) (K:=KD.pre.heap_1) rfl KD.dx_dfl (λw h Y=>PySem.W.kIn_of Y) ?F
 case F =>
  intro w mg fa h KX G hmg
  rw[KD.dx_name] at hmg
  exact KD.all_mk hmg (KD.txx KX G)
