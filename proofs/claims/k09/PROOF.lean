import PyProof.Rows.All
import Wide.All
import Wide.FinOn
import OpenK.KLine
import KE.KIsAll
import KE.RegKIsAll
import KE.RegKTryMore
import OpenK.KOwn
import KE.KRevIter
import KE.KRevSl
import KE.KItem
import KE.KxBytes
import Lean
import PyProof.EqAt
import PyProof.EqKinds
import PyProof.TupleCall
import PyProof.DictRoadsH
import PyProof.DictKinds
import PyProof.AttrMiss
import PyProof.IsiH_list
import PyProof.ListNew
import PyProof.FactsAll.dict
import KE.KLam
import KE.KMinKey
import PyProof.Rows.TupTab
import KE.KNest
import PyProof.Rows.SumAny
import PyProof.ExcClass2
import PyProof.ExcInit
import PyProof.Rows.FStr
import PyProof.Rows.SetFrom
import KE.KIntText
import KE.KSortedM
import PyProof.CallStr
import PyProof.CollectWalk
import PyProof.DictRoads
import PyProof.DictTruth
import PyProof.FactsAll.set
import PyProof.Rows.SortShell
import PyProof.Rows.SortWalk
import PyProof.Rows.StrItems
import PyProof.StrBlockL
import PyProof.StrCalls2
import PyProof.StrLawsChain
import PyProof.StrLawsTight
import PySem.Challenge.RW_thirstwise_k09_texts_misread
set_option compiler.extract_closed false
set_option genSizeOf false
set_option bootstrap.genMatcherCode false
noncomputable section
set_option Elab.async false
set_option linter.all false
set_option maxRecDepth 1000000
set_option maxHeartbeats 0
theorem zau0a (h:True:=by rfl):True:=trivial
abbrev zau0:=zau0a._auto_1
theorem zau1a (h:True:=by decide):True:=trivial
abbrev zau1:=zau1a._auto_1
theorem zau2a (h:True:=by first | exact .inl rfl | exact .inr rfl | assumption):True:=trivial
abbrev zau2:=zau2a._auto_1
theorem zau3a (h:True:=by intro _; rfl):True:=trivial
abbrev zau3:=zau3a._auto_1
theorem zau4a (h:True:=by decide +kernel):True:=trivial
abbrev zau4:=zau4a._auto_1
theorem zau5a (h:True:=by with_unfolding_all rfl):True:=trivial
abbrev zau5:=zau5a._auto_1
open PySem.W (InstAt KitX Looks any_some binds_K callWith_K callWith_K0 cellsFrom_some check_slot clsIn cls_value codeIn codeRec_of emptyDict excIn exmOne exm_one findCls findIn findObj findObj_own fnOf handedIn handed_on hasDictIn instObj isFn isNs_of_in keepIn kia_one kitOne kitx_dict kitx_list lookIn looks_clsIn looks_find looks_findIn looks_subIn makesIn methodCall_KW methodObj method_cls mg_none_of mg_of mroIn notCls nsIn nsOkIn plainGet plainGet_of plainOver readsIn set_plain specialIn subIn tailIn tail_of_in takerIn takesIn typeIn)
open List (Pairwise Perm all_eq_true all_map append_assoc append_nil cons_lt_cons_iff contains_cons ext_getElem? filter_append filter_cons filter_eq_self flatten_cons length_append length_cons length_drop length_filter_le length_map length_nil length_range length_replicate length_take map_append map_cons map_drop map_id' map_map map_nil mem_append mem_append_left mem_append_right mem_cons mem_cons_of_mem mem_cons_self mem_filter mem_iff_getElem? mem_map mem_nil_iff mem_of_getElem? mem_range mem_singleton nodup_cons not_mem_nil of_mem_zip replicate_succ size_toArray take_length take_nil)
open PyProof.Rows (bitAnd_pp boot_all boot_int boot_isinstance boot_set boot_str boot_sum callWith_builtin1 callWith_type1 split_le split_pos)
abbrev aj := @PySem.wpAny_bind
abbrev ak := @PySem.wpAny_pure
abbrev bF := @PySem.wpAny_mono
abbrev bL := @PySem.codeAny_mono
abbrev ao := @PySem.Heap.get?_push_of_some
abbrev aD := @PySem.Heap.get?_push_size
abbrev aP := @List.getElem?_eq_some_iff
abbrev aR := @List.getElem?_eq_getElem
abbrev bG := @List.getElem?_map
abbrev aq := @List.length_map
abbrev aM := @List.length_append
abbrev aL := @List.mem_singleton
abbrev bJ := @List.mem_map
abbrev bZ := @List.mem_append
abbrev cG := @List.filter_append
abbrev aV := @List.mem_of_getElem?
abbrev cA := @Int.toNat_natCast
abbrev aO := @decide_eq_true
abbrev aF := @decide_eq_false
abbrev aH := @Nat.le_refl
abbrev cV := @Nat.lt_irrefl
abbrev bA := @Nat.le_trans
abbrev bY := @Option.some.inj
abbrev bB := @Option.map_eq_some_iff
abbrev dD := @Nat.zero_le
abbrev aW := @List.map_append
abbrev cM := @List.map_map
abbrev bw := @List.map_cons
abbrev bH := @List.length_replicate
abbrev cJ := @List.take_length
abbrev aK := @List.mem_cons
abbrev aU := @Nat.lt_of_lt_of_le
abbrev cN := @List.append_nil
abbrev au := PySem.Value
abbrev aA := PySem.Addr
abbrev aG := PySem.Shared
abbrev bT := PySem.Program
abbrev dN := PySem.FuncData
abbrev cL := PySem.Around
abbrev cQ := PySem.Stmt
abbrev Fg := PySem.W.Frag
namespace L2
open PySem
def inClass (s:cQ) (j:Nat):cQ:=match s with
 | .ClassDef _ _ _ body _ _ _ _ _ _ _=>body.getD j (.Pass ⟨0,0,0,0⟩)
 | _=>.Pass ⟨0,0,0,0⟩
def jP (s:cQ):Arguments:=match s with
 | .FunctionDef _ a _ _ _ _ _ _ _ _=>a
 | _=>{ posonlyargs:=[],args:=[],vararg:=none,kwonlyargs:=[],kw_defaults:=[],kwarg:=none,defaults:=[] }
def gD (s:cQ):List cQ:=match s with
 | .FunctionDef _ _ b _ _ _ _ _ _ _=>b
 | _=>[]
def aZ (s:cQ):Scope:=match s with
 | .FunctionDef _ _ _ _ _ _ sc _ _ _=>sc
 | _=>{ kind:=.function,names:=[],isGenerator:=false,isCoroutine:=false }
end L2
namespace Tw
open PySem PySem.W L2
abbrev PW:bT:=PySem.Challenge.pw_thirstwise_k09_texts_misread
def top (i:Nat):cQ:=PySem.Challenge.pw_thirstwise_k09_texts_misread.main.body.getD i (.Pass ⟨0,0,0,0⟩)
noncomputable section
abbrev SS (s:String):Str:=Str.ofString s
abbrev VS (s:String) (n:Nat):au:=Value.str (Str.ofString s) n
abbrev cP (n:Nat):au:=Value.str (Str.ofString "/claim/cut.py") n
abbrev KH (P:Params) (s:Str):=PyData.keyHash P s
abbrev dE (P:Params) (s:String) (n:Nat) (v:au):DictEntry:={ hash:=PyData.keyHash P (Str.ofString s),key:=Value.str (Str.ofString s) n,val:=v }
abbrev tU (a:Array au):Obj:={ cls:=.type "tuple",data:=.seq a }
abbrev cO (a:Array au):Obj:={ cls:=.type "code",data:=.fields a }
abbrev fR (a:Array (Option au)):Obj:={ cls:=.type "frame",slots:=a }
abbrev dO (a:Array DictEntry) (n:Nat):Obj:={ cls:=.type "dict",data:=.dict a n }
noncomputable abbrev fO (n q:String) (s:cQ) (dv m:au) (c:Nat):Obj:={ cls:=.type "function",data:=.func { name:=Str.ofString n,qualname:=Str.ofString q,params:=jP s,body:=FuncBody.stmts (gD s),scope:=aZ s,globals:=3,closure:=[],defaults:=dv,kwdefaults:=.none,pyModule:=m,code:=.ref c } }
noncomputable abbrev fB (n q:String) (s:cQ):Obj:={ cls:=.none,data:=.func { name:=SS n,qualname:=SS q,params:=jP s,body:=FuncBody.stmts (gD s),scope:=aZ s,globals:=0,closure:=[],defaults:=.none,kwdefaults:=.none } }
abbrev tB (a:Array au):Obj:={ cls:=.none,data:=.fields a }
abbrev i0 (n:Int):au:=.int n 0
abbrev lF (o:Obj):BT:=.node o .nil .nil
abbrev nD (o:Obj) (l r:BT):BT:=.node o l r
noncomputable abbrev aht (P:Params):Obj:=dO #[dE P "__name__" 165 (VS "thirstwise.pots" 347),dE P "__doc__" 166 .none,dE P "__package__" 167 .none,dE P "__loader__" 168 (.builtin "__main__.__loader__#opaque"),dE P "__spec__" 169 .none,dE P "__annotations__" 170 (.ref 6),dE P "__builtins__" 171 (.ref 4),dE P "__file__" 173 (cP 172),dE P "__cached__" 174 .none,dE P "_wall" 193 (.ref 21),dE P "is_whole" 204 (.ref 28),dE P "is_set" 212 (.ref 35),dE P "GardenError" 232 (.ref 45),dE P "BadPot" 248 (.ref 58),dE P "BadRow" 273 (.ref 77),dE P "TooMany" 289 (.ref 89),dE P "NoState" 305 (.ref 101),dE P "NoPot" 321 (.ref 113),dE P "BadDay" 346 (.ref 132),dE P "LONGEST_NAME" 350 (.int 12 349),dE P "MOST_GAP" 352 (.int 60 351),dE P "is_name" 358 (.ref 139),dE P "Pot" 419 (.ref 184)] 23
noncomputable abbrev Uu (P:Params):Obj:=dO #[dE P "__name__" 165 (VS "law_thirstwise_k09_texts_misread" 663),dE P "__doc__" 166 .none,dE P "__package__" 167 .none,dE P "__loader__" 168 (.builtin "__main__.__loader__#opaque"),dE P "__spec__" 169 .none,dE P "__annotations__" 170 (.ref 6),dE P "__builtins__" 171 (.ref 4),dE P "__file__" 173 (cP 172),dE P "__cached__" 174 .none,dE P "_wall" 193 (.ref 21),dE P "is_whole" 204 (.ref 28),dE P "is_set" 212 (.ref 35),dE P "GardenError" 232 (.ref 45),dE P "BadPot" 248 (.ref 58),dE P "BadRow" 273 (.ref 77),dE P "TooMany" 289 (.ref 89),dE P "NoState" 305 (.ref 101),dE P "NoPot" 321 (.ref 113),dE P "BadDay" 346 (.ref 132),dE P "LONGEST_NAME" 350 (.int 12 349),dE P "MOST_GAP" 352 (.int 60 351),dE P "is_name" 358 (.ref 139),dE P "Pot" 419 (.ref 184),dE P "Cactus" 476 (.ref 233),dE P "MOST_POTS" 480 (.int 8 479),dE P "MOST_CANS" 482 (.int 8 481),dE P "MOST_WEEK" 484 (.int 14 483),dE P "MOST_STATES" 486 (.int 20000 485),dE P "own_pots" 492 (.ref 240),dE P "refuse_bad_counts" 502 (.ref 247),dE P "refuse_name_twice" 508 (.ref 252),dE P "is_state" 514 (.ref 257),dE P "refuse_no_state" 522 (.ref 264),dE P "Garden" 599 (.ref 310),dE P "written" 607 (.ref 319),dE P "number_in" 613 (.ref 324),dE P "head_in" 619 (.ref 329),dE P "pot_in" 625 (.ref 334),dE P "words_in" 631 (.ref 339),dE P "numbered_rows" 637 (.ref 344),dE P "pots_in" 649 (.ref 351),dE P "read" 662 (.ref 358),dE P "_law_cell_at" 672 (.ref 365),dE P "_law_draw" 683 (.ref 372),dE P "_law_sorts" 691 (.ref 379),dE P "_law_refused" 699 (.ref 386),dE P "_law_bad_pot" 707 (.ref 393),dE P "_law_bad_head" 715 (.ref 400),dE P "_law_rows" 726 (.ref 407),dE P "_law_whole" 732 (.ref 412),dE P "law" 738 (.ref 417)] 51
abbrev o11:Obj:=tU #[]
abbrev o12:Obj:=tB #[]
noncomputable abbrev ab3:Obj:=tB #[i0 1,i0 0,.ref 20,i0 5,i0 0,.ref 27,i0 9,i0 0,.ref 34,i0 12,i0 0,.ref 41,i0 14,i0 0,.ref 54,i0 16,i0 0,.ref 66,i0 21,i0 0,.ref 85,i0 23,i0 0,.ref 97,i0 25,i0 0,.ref 109,i0 27,i0 0,.ref 121,i0 35,i0 0,.ref 138,i0 39,i0 0,.ref 145]
noncomputable abbrev Sx:Obj:=tB #[i0 1,i0 0,.ref 20,i0 5,i0 0,.ref 27,i0 9,i0 0,.ref 34,i0 12,i0 0,.ref 41,i0 14,i0 0,.ref 54,i0 16,i0 0,.ref 66,i0 21,i0 0,.ref 85,i0 23,i0 0,.ref 97,i0 25,i0 0,.ref 109,i0 27,i0 0,.ref 121,i0 35,i0 0,.ref 138,i0 39,i0 0,.ref 145,i0 60,i0 0,.ref 194,i0 84,i0 0,.ref 239,i0 91,i0 0,.ref 246,i0 100,i0 0,.ref 251,i0 103,i0 0,.ref 256,i0 113,i0 0,.ref 263,i0 116,i0 0,.ref 270,i0 155,i0 0,.ref 318,i0 160,i0 0,.ref 323,i0 166,i0 0,.ref 328,i0 175,i0 0,.ref 333,i0 185,i0 0,.ref 338,i0 187,i0 0,.ref 343,i0 190,i0 0,.ref 350,i0 200,i0 0,.ref 357,i0 213,i0 0,.ref 364,i0 217,i0 0,.ref 371,i0 221,i0 0,.ref 378,i0 224,i0 0,.ref 385,i0 232,i0 0,.ref 392,i0 239,i0 0,.ref 399,i0 243,i0 0,.ref 406,i0 252,i0 0,.ref 411,i0 263,i0 0,.ref 416]
abbrev o13:Obj:=cO #[VS "<module>" 182,VS "<module>" 183,cP 184,i0 1,i0 0,i0 0,i0 0,i0 0,.ref 11,.bool false,i0 181,.ref 12,.none,.none,.none,.none,i0 185,i0 1,cP 186]
abbrev o14:Obj:=fR #[some (.ref 13),some (.ref 3),some (.ref 3),none,some (VS "__main__" 164),none,some (.ref 0)]
abbrev o15:Obj:=tU #[]
abbrev o16:Obj:=tB #[]
abbrev o17:Obj:=tU #[VS "k" 190]
abbrev o18:Obj:=tU #[]
abbrev o19:Obj:=fB "_wall" "_wall" (top 0)
abbrev o20:Obj:=cO #[VS "_wall" 187,VS "_wall" 188,cP 189,i0 1,i0 1,i0 0,i0 0,i0 3,.ref 15,.bool true,i0 181,.ref 16,.none,.ref 17,.ref 18,.ref 19,i0 191,i0 1,cP 192]
abbrev o21:Obj:=fO "_wall" "_wall" (top 0) .none (VS "__main__" 164) 20
abbrev o22:Obj:=tU #[]
abbrev o23:Obj:=tB #[]
abbrev o24:Obj:=tU #[VS "value" 199,VS "least" 200,VS "most" 201]
abbrev o25:Obj:=tU #[]
abbrev o26:Obj:=fB "is_whole" "is_whole" (top 2)
abbrev o27:Obj:=cO #[VS "is_whole" 196,VS "is_whole" 197,cP 198,i0 5,i0 3,i0 0,i0 0,i0 3,.ref 22,.bool true,i0 181,.ref 23,.none,.ref 24,.ref 25,.ref 26,i0 202,i0 5,cP 203]
abbrev o28:Obj:=fO "is_whole" "is_whole" (top 2) .none (VS "thirstwise.checks" 194) 27
abbrev o29:Obj:=tU #[]
abbrev o30:Obj:=tB #[]
abbrev o31:Obj:=tU #[VS "number" 208,VS "bit" 209]
abbrev o32:Obj:=tU #[]
abbrev o33:Obj:=fB "is_set" "is_set" (top 3)
abbrev o34:Obj:=cO #[VS "is_set" 205,VS "is_set" 206,cP 207,i0 9,i0 2,i0 0,i0 0,i0 3,.ref 29,.bool true,i0 181,.ref 30,.none,.ref 31,.ref 32,.ref 33,i0 210,i0 9,cP 211]
abbrev o35:Obj:=fO "is_set" "is_set" (top 3) .none (VS "thirstwise.checks" 194) 34
abbrev o36:Obj:=tU #[.type "ValueError"]
abbrev o37:Obj:={ cls:=.type "builtin_function_or_method",data:=.fields #[.builtin "type.__prepare__",.type "type"] }
noncomputable abbrev o38 (P:Params):Obj:=dO #[dE P "__module__" 222 (VS "thirstwise.errors" 213),dE P "__qualname__" 224 (VS "GardenError" 223),dE P "__firstlineno__" 226 (.int 12 225),dE P "__static_attributes__" 227 (.ref 43)] 4
abbrev o39:Obj:=tU #[]
abbrev o40:Obj:=tB #[]
abbrev o41:Obj:=cO #[VS "GardenError" 217,VS "GardenError" 218,cP 219,i0 12,i0 0,i0 0,i0 0,i0 0,.ref 39,.bool false,i0 181,.ref 40,.none,.none,.none,.none,i0 220,i0 12,cP 221]
abbrev o42:Obj:=fR #[some (.ref 41),some (.ref 3),some (.ref 38),none,some (VS "thirstwise.errors" 213),none,some (.ref 0)]
abbrev o43:Obj:=tU #[]
noncomputable abbrev o44 (P:Params):Obj:=dO #[dE P "__module__" 222 (VS "thirstwise.errors" 213),dE P "__firstlineno__" 226 (.int 12 225),dE P "__static_attributes__" 227 (.ref 43),dE P "__weakref__" 229 (.ref 46),dE P "__doc__" 230 .none] 3
noncomputable abbrev o45:Obj:={ cls:=.type "type",data:=.cls { name:=SS "GardenError",bases:=[.type "ValueError"],mro:=[.ref 45,.type "ValueError",.type "Exception",.type "BaseException",.type "object"],ns:=44,qualname:=SS "GardenError",subclasses:=[.ref 58,.ref 77,.ref 89,.ref 101,.ref 113,.ref 132] },slots:=#[some (.ref 36),none,some (VS "GardenError" 215),some (VS "GardenError" 223),some (.builtin "ValueError.__new__"),some (.bool true)] }
abbrev o46:Obj:={ cls:=.type "getset_descriptor",data:=.fields #[VS "__weakref__" 228,.ref 45,.builtin "ExceptionGroup.__weakref__",.none] }
abbrev o47:Obj:={ cls:=.type "super",data:=.fields #[.ref 45,.ref 45,.ref 45] }
abbrev o48:Obj:={ cls:=.type "builtin_function_or_method",data:=.fields #[.builtin "object.__init_subclass__",.ref 45] }
abbrev o49:Obj:=tU #[.ref 45]
abbrev o50:Obj:={ cls:=.type "builtin_function_or_method",data:=.fields #[.builtin "type.__prepare__",.type "type"] }
noncomputable abbrev o51 (P:Params):Obj:=dO #[dE P "__module__" 240 (VS "thirstwise.errors" 213),dE P "__qualname__" 242 (VS "BadPot" 241),dE P "__firstlineno__" 244 (.int 14 243),dE P "__static_attributes__" 245 (.ref 56)] 4
abbrev o52:Obj:=tU #[]
abbrev o53:Obj:=tB #[]
abbrev o54:Obj:=cO #[VS "BadPot" 235,VS "BadPot" 236,cP 237,i0 14,i0 0,i0 0,i0 0,i0 0,.ref 52,.bool false,i0 181,.ref 53,.none,.none,.none,.none,i0 238,i0 14,cP 239]
abbrev o55:Obj:=fR #[some (.ref 54),some (.ref 3),some (.ref 51),none,some (VS "thirstwise.errors" 213),none,some (.ref 0)]
abbrev o56:Obj:=tU #[]
abbrev o57 (P:Params):Obj:=dO #[dE P "__module__" 240 (VS "thirstwise.errors" 213),dE P "__firstlineno__" 244 (.int 14 243),dE P "__static_attributes__" 245 (.ref 56),dE P "__doc__" 246 .none] 2
noncomputable abbrev o58:Obj:={ cls:=.type "type",data:=.cls { name:=SS "BadPot",bases:=[.ref 45],mro:=[.ref 58,.ref 45,.type "ValueError",.type "Exception",.type "BaseException",.type "object"],ns:=57,qualname:=SS "BadPot" },slots:=#[some (.ref 49),none,some (VS "BadPot" 233),some (VS "BadPot" 241),some (.builtin "ValueError.__new__"),some (.bool true)] }
abbrev o59:Obj:={ cls:=.type "super",data:=.fields #[.ref 58,.ref 58,.ref 58] }
abbrev o60:Obj:={ cls:=.type "builtin_function_or_method",data:=.fields #[.builtin "object.__init_subclass__",.ref 58] }
abbrev o61:Obj:=tU #[.ref 45]
abbrev o62:Obj:={ cls:=.type "builtin_function_or_method",data:=.fields #[.builtin "type.__prepare__",.type "type"] }
noncomputable abbrev o63 (P:Params):Obj:=dO #[dE P "__module__" 256 (VS "thirstwise.errors" 213),dE P "__qualname__" 258 (VS "BadRow" 257),dE P "__firstlineno__" 260 (.int 16 259),dE P "__init__" 268 (.ref 74),dE P "__static_attributes__" 270 (.ref 75)] 5
abbrev o64:Obj:=tU #[]
abbrev o65:Obj:=tB #[i0 18,i0 4,.ref 73]
abbrev o66:Obj:=cO #[VS "BadRow" 251,VS "BadRow" 252,cP 253,i0 16,i0 0,i0 0,i0 0,i0 0,.ref 64,.bool false,i0 181,.ref 65,.none,.none,.none,.none,i0 254,i0 16,cP 255]
abbrev o67:Obj:=fR #[some (.ref 66),some (.ref 3),some (.ref 63),none,some (VS "thirstwise.errors" 213),none,some (.ref 0)]
abbrev o68:Obj:=tU #[]
abbrev o69:Obj:=tB #[]
abbrev o70:Obj:=tU #[VS "self" 264,VS "row" 265]
abbrev o71:Obj:=tU #[]
abbrev o72:Obj:=fB "__init__" "BadRow.__init__" (inClass (top 7) 0)
abbrev o73:Obj:=cO #[VS "__init__" 261,VS "BadRow.__init__" 262,cP 263,i0 18,i0 2,i0 0,i0 0,i0 3,.ref 68,.bool true,i0 181,.ref 69,.none,.ref 70,.ref 71,.ref 72,i0 266,i0 18,cP 267]
abbrev o74:Obj:=fO "__init__" "BadRow.__init__" (inClass (top 7) 0) .none (VS "thirstwise.errors" 213) 73
abbrev o75:Obj:=tU #[VS "row" 269]
noncomputable abbrev o76 (P:Params):Obj:=dO #[dE P "__module__" 256 (VS "thirstwise.errors" 213),dE P "__firstlineno__" 260 (.int 16 259),dE P "__init__" 268 (.ref 74),dE P "__static_attributes__" 270 (.ref 75),dE P "__doc__" 271 .none] 2
noncomputable abbrev o77:Obj:={ cls:=.type "type",data:=.cls { name:=SS "BadRow",bases:=[.ref 45],mro:=[.ref 77,.ref 45,.type "ValueError",.type "Exception",.type "BaseException",.type "object"],ns:=76,qualname:=SS "BadRow" },slots:=#[some (.ref 61),none,some (VS "BadRow" 249),some (VS "BadRow" 257),some (.builtin "ValueError.__new__"),some (.bool true)] }
abbrev o78:Obj:={ cls:=.type "super",data:=.fields #[.ref 77,.ref 77,.ref 77] }
abbrev o79:Obj:={ cls:=.type "builtin_function_or_method",data:=.fields #[.builtin "object.__init_subclass__",.ref 77] }
abbrev o80:Obj:=tU #[.ref 45]
abbrev o81:Obj:={ cls:=.type "builtin_function_or_method",data:=.fields #[.builtin "type.__prepare__",.type "type"] }
noncomputable abbrev o82 (P:Params):Obj:=dO #[dE P "__module__" 281 (VS "thirstwise.errors" 213),dE P "__qualname__" 283 (VS "TooMany" 282),dE P "__firstlineno__" 285 (.int 21 284),dE P "__static_attributes__" 286 (.ref 87)] 4
abbrev o83:Obj:=tU #[]
abbrev o84:Obj:=tB #[]
abbrev o85:Obj:=cO #[VS "TooMany" 276,VS "TooMany" 277,cP 278,i0 21,i0 0,i0 0,i0 0,i0 0,.ref 83,.bool false,i0 181,.ref 84,.none,.none,.none,.none,i0 279,i0 21,cP 280]
abbrev o86:Obj:=fR #[some (.ref 85),some (.ref 3),some (.ref 82),none,some (VS "thirstwise.errors" 213),none,some (.ref 0)]
abbrev o87:Obj:=tU #[]
abbrev o88 (P:Params):Obj:=dO #[dE P "__module__" 281 (VS "thirstwise.errors" 213),dE P "__firstlineno__" 285 (.int 21 284),dE P "__static_attributes__" 286 (.ref 87),dE P "__doc__" 287 .none] 2
noncomputable abbrev o89:Obj:={ cls:=.type "type",data:=.cls { name:=SS "TooMany",bases:=[.ref 45],mro:=[.ref 89,.ref 45,.type "ValueError",.type "Exception",.type "BaseException",.type "object"],ns:=88,qualname:=SS "TooMany" },slots:=#[some (.ref 80),none,some (VS "TooMany" 274),some (VS "TooMany" 282),some (.builtin "ValueError.__new__"),some (.bool true)] }
abbrev o90:Obj:={ cls:=.type "super",data:=.fields #[.ref 89,.ref 89,.ref 89] }
abbrev o91:Obj:={ cls:=.type "builtin_function_or_method",data:=.fields #[.builtin "object.__init_subclass__",.ref 89] }
abbrev o92:Obj:=tU #[.ref 45]
abbrev o93:Obj:={ cls:=.type "builtin_function_or_method",data:=.fields #[.builtin "type.__prepare__",.type "type"] }
noncomputable abbrev o94 (P:Params):Obj:=dO #[dE P "__module__" 297 (VS "thirstwise.errors" 213),dE P "__qualname__" 299 (VS "NoState" 298),dE P "__firstlineno__" 301 (.int 23 300),dE P "__static_attributes__" 302 (.ref 99)] 4
abbrev o95:Obj:=tU #[]
abbrev o96:Obj:=tB #[]
abbrev o97:Obj:=cO #[VS "NoState" 292,VS "NoState" 293,cP 294,i0 23,i0 0,i0 0,i0 0,i0 0,.ref 95,.bool false,i0 181,.ref 96,.none,.none,.none,.none,i0 295,i0 23,cP 296]
abbrev o98:Obj:=fR #[some (.ref 97),some (.ref 3),some (.ref 94),none,some (VS "thirstwise.errors" 213),none,some (.ref 0)]
abbrev o99:Obj:=tU #[]
abbrev o100 (P:Params):Obj:=dO #[dE P "__module__" 297 (VS "thirstwise.errors" 213),dE P "__firstlineno__" 301 (.int 23 300),dE P "__static_attributes__" 302 (.ref 99),dE P "__doc__" 303 .none] 2
noncomputable abbrev Oq:Obj:={ cls:=.type "type",data:=.cls { name:=SS "NoState",bases:=[.ref 45],mro:=[.ref 101,.ref 45,.type "ValueError",.type "Exception",.type "BaseException",.type "object"],ns:=100,qualname:=SS "NoState" },slots:=#[some (.ref 92),none,some (VS "NoState" 290),some (VS "NoState" 298),some (.builtin "ValueError.__new__"),some (.bool true)] }
abbrev Uv:Obj:={ cls:=.type "super",data:=.fields #[.ref 101,.ref 101,.ref 101] }
abbrev Uw:Obj:={ cls:=.type "builtin_function_or_method",data:=.fields #[.builtin "object.__init_subclass__",.ref 101] }
abbrev Ot:Obj:=tU #[.ref 45]
abbrev Ux:Obj:={ cls:=.type "builtin_function_or_method",data:=.fields #[.builtin "type.__prepare__",.type "type"] }
noncomputable abbrev Uy (P:Params):Obj:=dO #[dE P "__module__" 313 (VS "thirstwise.errors" 213),dE P "__qualname__" 315 (VS "NoPot" 314),dE P "__firstlineno__" 317 (.int 25 316),dE P "__static_attributes__" 318 (.ref 111)] 4
abbrev Uz:Obj:=tU #[]
abbrev UG:Obj:=tB #[]
abbrev UJ:Obj:=cO #[VS "NoPot" 308,VS "NoPot" 309,cP 310,i0 25,i0 0,i0 0,i0 0,i0 0,.ref 107,.bool false,i0 181,.ref 108,.none,.none,.none,.none,i0 311,i0 25,cP 312]
abbrev UL:Obj:=fR #[some (.ref 109),some (.ref 3),some (.ref 106),none,some (VS "thirstwise.errors" 213),none,some (.ref 0)]
abbrev o111:Obj:=tU #[]
abbrev Ou (P:Params):Obj:=dO #[dE P "__module__" 313 (VS "thirstwise.errors" 213),dE P "__firstlineno__" 317 (.int 25 316),dE P "__static_attributes__" 318 (.ref 111),dE P "__doc__" 319 .none] 2
noncomputable abbrev Ov:Obj:={ cls:=.type "type",data:=.cls { name:=SS "NoPot",bases:=[.ref 45],mro:=[.ref 113,.ref 45,.type "ValueError",.type "Exception",.type "BaseException",.type "object"],ns:=112,qualname:=SS "NoPot" },slots:=#[some (.ref 104),none,some (VS "NoPot" 306),some (VS "NoPot" 314),some (.builtin "ValueError.__new__"),some (.bool true)] }
abbrev UW:Obj:={ cls:=.type "super",data:=.fields #[.ref 113,.ref 113,.ref 113] }
abbrev U0:Obj:={ cls:=.type "builtin_function_or_method",data:=.fields #[.builtin "object.__init_subclass__",.ref 113] }
abbrev Ow:Obj:=tU #[.ref 45]
abbrev U3:Obj:={ cls:=.type "builtin_function_or_method",data:=.fields #[.builtin "type.__prepare__",.type "type"] }
noncomputable abbrev U4 (P:Params):Obj:=dO #[dE P "__module__" 329 (VS "thirstwise.errors" 213),dE P "__qualname__" 331 (VS "BadDay" 330),dE P "__firstlineno__" 333 (.int 27 332),dE P "__init__" 341 (.ref 129),dE P "__static_attributes__" 343 (.ref 130)] 5
abbrev U5:Obj:=tU #[]
abbrev U6:Obj:=tB #[i0 29,i0 4,.ref 128]
abbrev U7:Obj:=cO #[VS "BadDay" 324,VS "BadDay" 325,cP 326,i0 27,i0 0,i0 0,i0 0,i0 0,.ref 119,.bool false,i0 181,.ref 120,.none,.none,.none,.none,i0 327,i0 27,cP 328]
abbrev U8:Obj:=fR #[some (.ref 121),some (.ref 3),some (.ref 118),none,some (VS "thirstwise.errors" 213),none,some (.ref 0)]
abbrev Ox:Obj:=tU #[]
abbrev U9:Obj:=tB #[]
abbrev Oz:Obj:=tU #[VS "self" 337,VS "day" 338]
abbrev OD:Obj:=tU #[]
abbrev Va:Obj:=fB "__init__" "BadDay.__init__" (inClass (top 11) 0)
abbrev OJ:Obj:=cO #[VS "__init__" 334,VS "BadDay.__init__" 335,cP 336,i0 29,i0 2,i0 0,i0 0,i0 3,.ref 123,.bool true,i0 181,.ref 124,.none,.ref 125,.ref 126,.ref 127,i0 339,i0 29,cP 340]
abbrev Vb:Obj:=fO "__init__" "BadDay.__init__" (inClass (top 11) 0) .none (VS "thirstwise.errors" 213) 128
abbrev O1:Obj:=tU #[VS "day" 342]
noncomputable abbrev O2 (P:Params):Obj:=dO #[dE P "__module__" 329 (VS "thirstwise.errors" 213),dE P "__firstlineno__" 333 (.int 27 332),dE P "__init__" 341 (.ref 129),dE P "__static_attributes__" 343 (.ref 130),dE P "__doc__" 344 .none] 2
noncomputable abbrev O3:Obj:={ cls:=.type "type",data:=.cls { name:=SS "BadDay",bases:=[.ref 45],mro:=[.ref 132,.ref 45,.type "ValueError",.type "Exception",.type "BaseException",.type "object"],ns:=131,qualname:=SS "BadDay" },slots:=#[some (.ref 116),none,some (VS "BadDay" 322),some (VS "BadDay" 330),some (.builtin "ValueError.__new__"),some (.bool true)] }
abbrev Vc:Obj:={ cls:=.type "super",data:=.fields #[.ref 132,.ref 132,.ref 132] }
abbrev Vd:Obj:={ cls:=.type "builtin_function_or_method",data:=.fields #[.builtin "object.__init_subclass__",.ref 132] }
abbrev O4:Obj:=tU #[]
abbrev Ve:Obj:=tB #[]
abbrev Vf:Obj:=fB "is_name" "is_name" (top 15)
abbrev O5:Obj:=cO #[VS "is_name" 353,VS "is_name" 354,cP 355,i0 35,i0 1,i0 0,i0 0,i0 3,.ref 135,.bool true,i0 181,.ref 136,.none,.none,.none,.ref 137,i0 356,i0 35,cP 357]
abbrev O6:Obj:=fO "is_name" "is_name" (top 15) .none (VS "thirstwise.pots" 347) 138
abbrev Vg:Obj:=tU #[]
abbrev Vh:Obj:={ cls:=.type "builtin_function_or_method",data:=.fields #[.builtin "type.__prepare__",.type "type"] }
noncomputable abbrev Vi (P:Params):Obj:=dO #[dE P "__module__" 366 (VS "thirstwise.pots" 347),dE P "__qualname__" 368 (VS "Pot" 367),dE P "__firstlineno__" 370 (.int 39 369),dE P "__init__" 379 (.ref 153),dE P "may" 387 (.ref 160),dE P "words" 394 (.ref 167),dE P "with_gap" 402 (.ref 174),dE P "shortest" 409 (.ref 181),dE P "__static_attributes__" 412 (.ref 182)] 9
abbrev Vj:Obj:=tU #[]
abbrev Vk:Obj:=tB #[i0 41,i0 4,.ref 152,i0 49,i0 4,.ref 159,i0 52,i0 4,.ref 166,i0 55,i0 4,.ref 173,i0 58,i0 4,.ref 180]
abbrev Vl:Obj:=cO #[VS "Pot" 361,VS "Pot" 362,cP 363,i0 39,i0 0,i0 0,i0 0,i0 0,.ref 143,.bool false,i0 181,.ref 144,.none,.none,.none,.none,i0 364,i0 39,cP 365]
abbrev Vm:Obj:=fR #[some (.ref 145),some (.ref 3),some (.ref 142),none,some (VS "thirstwise.pots" 347),none,some (.ref 0)]
abbrev O7:Obj:=tU #[]
abbrev Vn:Obj:=tB #[]
abbrev O8:Obj:=tU #[VS "self" 374,VS "name" 375,VS "gap" 376]
abbrev O9:Obj:=tU #[]
abbrev Vo:Obj:=fB "__init__" "Pot.__init__" (inClass (top 16) 0)
abbrev Pa:Obj:=cO #[VS "__init__" 371,VS "Pot.__init__" 372,cP 373,i0 41,i0 3,i0 0,i0 0,i0 3,.ref 147,.bool true,i0 181,.ref 148,.none,.ref 149,.ref 150,.ref 151,i0 377,i0 41,cP 378]
abbrev Pb:Obj:=fO "__init__" "Pot.__init__" (inClass (top 16) 0) .none (VS "thirstwise.pots" 347) 152
abbrev Pg:Obj:=tU #[]
abbrev Vp:Obj:=tB #[]
abbrev Ph:Obj:=tU #[VS "self" 383,VS "since" 384]
abbrev Pj:Obj:=tU #[]
abbrev Vq:Obj:=fB "may" "Pot.may" (inClass (top 16) 1)
abbrev Pk:Obj:=cO #[VS "may" 380,VS "Pot.may" 381,cP 382,i0 49,i0 2,i0 0,i0 0,i0 3,.ref 154,.bool true,i0 181,.ref 155,.none,.ref 156,.ref 157,.ref 158,i0 385,i0 49,cP 386]
abbrev Vr:Obj:=fO "may" "Pot.may" (inClass (top 16) 1) .none (VS "thirstwise.pots" 347) 159
abbrev Pn:Obj:=tU #[]
abbrev Vs:Obj:=tB #[]
abbrev Pq:Obj:=tU #[VS "self" 391]
abbrev Pu:Obj:=tU #[]
abbrev Vt:Obj:=fB "words" "Pot.words" (inClass (top 16) 2)
abbrev Px:Obj:=cO #[VS "words" 388,VS "Pot.words" 389,cP 390,i0 52,i0 1,i0 0,i0 0,i0 3,.ref 161,.bool true,i0 181,.ref 162,.none,.ref 163,.ref 164,.ref 165,i0 392,i0 52,cP 393]
abbrev Py:Obj:=fO "words" "Pot.words" (inClass (top 16) 2) .none (VS "thirstwise.pots" 347) 166
abbrev Pz:Obj:=tU #[]
abbrev Vu:Obj:=tB #[]
abbrev PB:Obj:=tU #[VS "self" 398,VS "gap" 399]
abbrev PJ:Obj:=tU #[]
abbrev Vv:Obj:=fB "with_gap" "Pot.with_gap" (inClass (top 16) 3)
abbrev PL:Obj:=cO #[VS "with_gap" 395,VS "Pot.with_gap" 396,cP 397,i0 55,i0 2,i0 0,i0 0,i0 3,.ref 168,.bool true,i0 181,.ref 169,.none,.ref 170,.ref 171,.ref 172,i0 400,i0 55,cP 401]
abbrev PN:Obj:=fO "with_gap" "Pot.with_gap" (inClass (top 16) 3) .none (VS "thirstwise.pots" 347) 173
abbrev PX:Obj:=tU #[]
abbrev Vw:Obj:=tB #[]
abbrev P0:Obj:=tU #[VS "self" 406]
abbrev Qa:Obj:=tU #[]
abbrev Vx:Obj:=fB "shortest" "Pot.shortest" (inClass (top 16) 4)
abbrev Qd:Obj:=cO #[VS "shortest" 403,VS "Pot.shortest" 404,cP 405,i0 58,i0 1,i0 0,i0 0,i0 3,.ref 175,.bool true,i0 181,.ref 176,.none,.ref 177,.ref 178,.ref 179,i0 407,i0 58,cP 408]
abbrev Vy:Obj:=fO "shortest" "Pot.shortest" (inClass (top 16) 4) .none (VS "thirstwise.pots" 347) 180
abbrev Qf:Obj:=tU #[VS "gap" 410,VS "name" 411]
noncomputable abbrev Qg (P:Params):Obj:=dO #[dE P "__module__" 366 (VS "thirstwise.pots" 347),dE P "__firstlineno__" 370 (.int 39 369),dE P "__init__" 379 (.ref 153),dE P "may" 387 (.ref 160),dE P "words" 394 (.ref 167),dE P "with_gap" 402 (.ref 174),dE P "shortest" 409 (.ref 181),dE P "__static_attributes__" 412 (.ref 182),dE P "__dict__" 414 (.ref 185),dE P "__weakref__" 416 (.ref 186),dE P "__doc__" 417 .none] 4
noncomputable abbrev aii:Obj:={ cls:=.type "type",data:=.cls { name:=SS "Pot",bases:=[.type "object"],mro:=[.ref 184,.type "object"],ns:=183,qualname:=SS "Pot" },slots:=#[none,none,some (VS "Pot" 359),some (VS "Pot" 367),some (.builtin "object.__new__"),some (.bool true)] }
noncomputable abbrev Dj:Obj:={ cls:=.type "type",data:=.cls { name:=SS "Pot",bases:=[.type "object"],mro:=[.ref 184,.type "object"],ns:=183,qualname:=SS "Pot",subclasses:=[.ref 233] },slots:=#[none,none,some (VS "Pot" 359),some (VS "Pot" 367),some (.builtin "object.__new__"),some (.bool true)] }
abbrev Qh:Obj:={ cls:=.type "getset_descriptor",data:=.fields #[VS "__dict__" 413,.ref 184,.builtin "function.__dict__",.builtin "function.__dict__#set"] }
abbrev Qi:Obj:={ cls:=.type "getset_descriptor",data:=.fields #[VS "__weakref__" 415,.ref 184,.builtin "ExceptionGroup.__weakref__",.none] }
abbrev Vz:Obj:={ cls:=.type "super",data:=.fields #[.ref 184,.ref 184,.ref 184] }
abbrev VB:Obj:={ cls:=.type "builtin_function_or_method",data:=.fields #[.builtin "object.__init_subclass__",.ref 184] }
abbrev VD:Obj:=tU #[.ref 184]
abbrev ab6:Obj:={ cls:=.type "builtin_function_or_method",data:=.fields #[.builtin "type.__prepare__",.type "type"] }
noncomputable abbrev ab7 (P:Params):Obj:=dO #[dE P "__module__" 427 (VS "thirstwise.pots" 347),dE P "__qualname__" 429 (VS "Cactus" 428),dE P "__firstlineno__" 431 (.int 60 430),dE P "__init__" 441 (.ref 202),dE P "may" 449 (.ref 209),dE P "words" 456 (.ref 216),dE P "with_gap" 464 (.ref 223),dE P "shortest" 471 (.ref 230),dE P "__static_attributes__" 473 (.ref 231)] 9
abbrev ab8:Obj:=tU #[]
abbrev ab9:Obj:=tB #[i0 62,i0 4,.ref 201,i0 68,i0 4,.ref 208,i0 71,i0 4,.ref 215,i0 74,i0 4,.ref 222,i0 77,i0 4,.ref 229]
abbrev acd:Obj:=cO #[VS "Cactus" 422,VS "Cactus" 423,cP 424,i0 60,i0 0,i0 0,i0 0,i0 0,.ref 192,.bool false,i0 181,.ref 193,.none,.none,.none,.none,i0 425,i0 60,cP 426]
abbrev ace:Obj:=fR #[some (.ref 194),some (.ref 3),some (.ref 191),none,some (VS "thirstwise.pots" 347),none,some (.ref 0)]
abbrev VF:Obj:=tU #[]
abbrev acf:Obj:=tB #[]
abbrev VG:Obj:=tU #[VS "self" 435,VS "name" 436,VS "gap" 437,VS "rest" 438]
abbrev VH:Obj:=tU #[]
abbrev o200:Obj:=fB "__init__" "Cactus.__init__" (inClass (top 17) 0)
abbrev VJ:Obj:=cO #[VS "__init__" 432,VS "Cactus.__init__" 433,cP 434,i0 62,i0 4,i0 0,i0 0,i0 3,.ref 196,.bool true,i0 181,.ref 197,.none,.ref 198,.ref 199,.ref 200,i0 439,i0 62,cP 440]
abbrev VL:Obj:=fO "__init__" "Cactus.__init__" (inClass (top 17) 0) .none (VS "thirstwise.pots" 347) 201
abbrev VN:Obj:=tU #[]
abbrev acg:Obj:=tB #[]
abbrev VP:Obj:=tU #[VS "self" 445,VS "since" 446]
abbrev VR:Obj:=tU #[]
abbrev ach:Obj:=fB "may" "Cactus.may" (inClass (top 17) 1)
abbrev V0:Obj:=cO #[VS "may" 442,VS "Cactus.may" 443,cP 444,i0 68,i0 2,i0 0,i0 0,i0 3,.ref 203,.bool true,i0 181,.ref 204,.none,.ref 205,.ref 206,.ref 207,i0 447,i0 68,cP 448]
abbrev aci:Obj:=fO "may" "Cactus.may" (inClass (top 17) 1) .none (VS "thirstwise.pots" 347) 208
abbrev V1:Obj:=tU #[]
abbrev acj:Obj:=tB #[]
abbrev V2:Obj:=tU #[VS "self" 453]
abbrev V3:Obj:=tU #[]
abbrev acn:Obj:=fB "words" "Cactus.words" (inClass (top 17) 2)
abbrev V4:Obj:=cO #[VS "words" 450,VS "Cactus.words" 451,cP 452,i0 71,i0 1,i0 0,i0 0,i0 3,.ref 210,.bool true,i0 181,.ref 211,.none,.ref 212,.ref 213,.ref 214,i0 454,i0 71,cP 455]
abbrev V5:Obj:=fO "words" "Cactus.words" (inClass (top 17) 2) .none (VS "thirstwise.pots" 347) 215
abbrev V6:Obj:=tU #[]
abbrev aco:Obj:=tB #[]
abbrev V7:Obj:=tU #[VS "self" 460,VS "gap" 461]
abbrev V8:Obj:=tU #[]
abbrev acp:Obj:=fB "with_gap" "Cactus.with_gap" (inClass (top 17) 3)
abbrev V9:Obj:=cO #[VS "with_gap" 457,VS "Cactus.with_gap" 458,cP 459,i0 74,i0 2,i0 0,i0 0,i0 3,.ref 217,.bool true,i0 181,.ref 218,.none,.ref 219,.ref 220,.ref 221,i0 462,i0 74,cP 463]
abbrev Wa:Obj:=fO "with_gap" "Cactus.with_gap" (inClass (top 17) 3) .none (VS "thirstwise.pots" 347) 222
abbrev Wb:Obj:=tU #[]
abbrev acq:Obj:=tB #[]
abbrev Wc:Obj:=tU #[VS "self" 468]
abbrev Wd:Obj:=tU #[]
abbrev acr:Obj:=fB "shortest" "Cactus.shortest" (inClass (top 17) 4)
abbrev Wf:Obj:=cO #[VS "shortest" 465,VS "Cactus.shortest" 466,cP 467,i0 77,i0 1,i0 0,i0 0,i0 3,.ref 224,.bool true,i0 181,.ref 225,.none,.ref 226,.ref 227,.ref 228,i0 469,i0 77,cP 470]
abbrev acs:Obj:=fO "shortest" "Cactus.shortest" (inClass (top 17) 4) .none (VS "thirstwise.pots" 347) 229
abbrev Wg:Obj:=tU #[VS "rest" 472]
noncomputable abbrev Wh (P:Params):Obj:=dO #[dE P "__module__" 427 (VS "thirstwise.pots" 347),dE P "__firstlineno__" 431 (.int 60 430),dE P "__init__" 441 (.ref 202),dE P "may" 449 (.ref 209),dE P "words" 456 (.ref 216),dE P "with_gap" 464 (.ref 223),dE P "shortest" 471 (.ref 230),dE P "__static_attributes__" 473 (.ref 231),dE P "__doc__" 474 .none] 2
noncomputable abbrev Wi:Obj:={ cls:=.type "type",data:=.cls { name:=SS "Cactus",bases:=[.ref 184],mro:=[.ref 233,.ref 184,.type "object"],ns:=232,qualname:=SS "Cactus" },slots:=#[some (.ref 189),none,some (VS "Cactus" 420),some (VS "Cactus" 428),some (.builtin "object.__new__"),some (.bool true)] }
abbrev acu:Obj:={ cls:=.type "super",data:=.fields #[.ref 233,.ref 233,.ref 233] }
abbrev acv:Obj:={ cls:=.type "builtin_function_or_method",data:=.fields #[.builtin "object.__init_subclass__",.ref 233] }
abbrev Wj:Obj:=tU #[]
abbrev acw:Obj:=tB #[]
abbrev acy:Obj:=fB "own_pots" "own_pots" (top 23)
abbrev Wk:Obj:=cO #[VS "own_pots" 487,VS "own_pots" 488,cP 489,i0 84,i0 1,i0 0,i0 0,i0 3,.ref 236,.bool true,i0 181,.ref 237,.none,.none,.none,.ref 238,i0 490,i0 84,cP 491]
abbrev Wl:Obj:=fO "own_pots" "own_pots" (top 23) .none (VS "thirstwise.gardens" 477) 239
abbrev Wm:Obj:=tU #[]
abbrev acz:Obj:=tB #[]
abbrev Wn:Obj:=tU #[VS "pots" 496,VS "cans" 497,VS "week" 498,VS "closed" 499]
abbrev Wo:Obj:=tU #[]
abbrev acA:Obj:=fB "refuse_bad_counts" "refuse_bad_counts" (top 24)
abbrev Wq:Obj:=cO #[VS "refuse_bad_counts" 493,VS "refuse_bad_counts" 494,cP 495,i0 91,i0 4,i0 0,i0 0,i0 3,.ref 241,.bool true,i0 181,.ref 242,.none,.ref 243,.ref 244,.ref 245,i0 500,i0 91,cP 501]
abbrev Wr:Obj:=fO "refuse_bad_counts" "refuse_bad_counts" (top 24) .none (VS "thirstwise.gardens" 477) 246
abbrev Ws:Obj:=tU #[]
abbrev acB:Obj:=tB #[]
abbrev acC:Obj:=fB "refuse_name_twice" "refuse_name_twice" (top 25)
abbrev Wt:Obj:=cO #[VS "refuse_name_twice" 503,VS "refuse_name_twice" 504,cP 505,i0 100,i0 1,i0 0,i0 0,i0 3,.ref 248,.bool true,i0 181,.ref 249,.none,.none,.none,.ref 250,i0 506,i0 100,cP 507]
abbrev Wu:Obj:=fO "refuse_name_twice" "refuse_name_twice" (top 25) .none (VS "thirstwise.gardens" 477) 251
abbrev Wv:Obj:=tU #[]
abbrev acD:Obj:=tB #[]
abbrev acE:Obj:=fB "is_state" "is_state" (top 26)
abbrev Ww:Obj:=cO #[VS "is_state" 509,VS "is_state" 510,cP 511,i0 103,i0 2,i0 0,i0 0,i0 3,.ref 253,.bool true,i0 181,.ref 254,.none,.none,.none,.ref 255,i0 512,i0 103,cP 513]
abbrev acF:Obj:=fO "is_state" "is_state" (top 26) .none (VS "thirstwise.gardens" 477) 256
abbrev Wx:Obj:=tU #[]
abbrev acG:Obj:=tB #[]
abbrev Wy:Obj:=tU #[VS "garden" 518,VS "value" 519]
abbrev Wz:Obj:=tU #[]
abbrev acH:Obj:=fB "refuse_no_state" "refuse_no_state" (top 27)
abbrev WD:Obj:=cO #[VS "refuse_no_state" 515,VS "refuse_no_state" 516,cP 517,i0 113,i0 2,i0 0,i0 0,i0 3,.ref 258,.bool true,i0 181,.ref 259,.none,.ref 260,.ref 261,.ref 262,i0 520,i0 113,cP 521]
abbrev acI:Obj:=fO "refuse_no_state" "refuse_no_state" (top 27) .none (VS "thirstwise.gardens" 477) 263
abbrev acJ:Obj:=tU #[]
abbrev acK:Obj:={ cls:=.type "builtin_function_or_method",data:=.fields #[.builtin "type.__prepare__",.type "type"] }
noncomputable abbrev acL (P:Params):Obj:=dO #[dE P "__module__" 530 (VS "thirstwise.gardens" 477),dE P "__qualname__" 532 (VS "Garden" 531),dE P "__firstlineno__" 534 (.int 116 533),dE P "__init__" 549 (.ref 279),dE P "size" 558 (.ref 286),dE P "number" 569 (.ref 293),dE P "state" 580 (.ref 300),dE P "fresh" 587 (.ref 307),dE P "__static_attributes__" 592 (.ref 308)] 9
abbrev acM:Obj:=tU #[]
abbrev acN:Obj:=tB #[i0 118,i0 4,.ref 278,i0 129,i0 4,.ref 285,i0 135,i0 4,.ref 292,i0 142,i0 4,.ref 299,i0 152,i0 4,.ref 306]
abbrev acO:Obj:=cO #[VS "Garden" 525,VS "Garden" 526,cP 527,i0 116,i0 0,i0 0,i0 0,i0 0,.ref 268,.bool false,i0 181,.ref 269,.none,.none,.none,.none,i0 528,i0 116,cP 529]
abbrev acP:Obj:=fR #[some (.ref 270),some (.ref 3),some (.ref 267),none,some (VS "thirstwise.gardens" 477),none,some (.ref 0)]
abbrev WK:Obj:=tU #[.int 1 535,.int 1 536,.int 0 537]
abbrev WL:Obj:=tU #[]
abbrev acQ:Obj:=tB #[]
abbrev WM:Obj:=tU #[VS "self" 541,VS "pots" 542,VS "cans" 543,VS "week" 544,VS "closed" 545,VS "copies" 546]
abbrev WQ:Obj:=tU #[]
abbrev acR:Obj:=fB "__init__" "Garden.__init__" (inClass (top 28) 0)
abbrev WR:Obj:=cO #[VS "__init__" 538,VS "Garden.__init__" 539,cP 540,i0 118,i0 5,i0 0,i0 0,i0 3,.ref 273,.bool true,i0 181,.ref 274,.none,.ref 275,.ref 276,.ref 277,i0 547,i0 118,cP 548]
abbrev WT:Obj:=fO "__init__" "Garden.__init__" (inClass (top 28) 0) (.ref 272) (VS "thirstwise.gardens" 477) 278
abbrev WW:Obj:=tU #[]
abbrev acS:Obj:=tB #[]
abbrev WX:Obj:=tU #[VS "self" 553,VS "states" 554,VS "pot" 555]
abbrev WY:Obj:=tU #[]
abbrev acT:Obj:=fB "size" "Garden.size" (inClass (top 28) 1)
abbrev W0:Obj:=cO #[VS "size" 550,VS "Garden.size" 551,cP 552,i0 129,i0 1,i0 0,i0 0,i0 3,.ref 280,.bool true,i0 181,.ref 281,.none,.ref 282,.ref 283,.ref 284,i0 556,i0 129,cP 557]
abbrev W2:Obj:=fO "size" "Garden.size" (inClass (top 28) 1) .none (VS "thirstwise.gardens" 477) 285
abbrev W3:Obj:=tU #[]
abbrev acU:Obj:=tB #[]
abbrev W4:Obj:=tU #[VS "self" 562,VS "state" 563,VS "count" 564,VS "days" 565,VS "pot" 566]
abbrev W5:Obj:=tU #[]
abbrev acV:Obj:=fB "number" "Garden.number" (inClass (top 28) 2)
abbrev W6:Obj:=cO #[VS "number" 559,VS "Garden.number" 560,cP 561,i0 135,i0 2,i0 0,i0 0,i0 3,.ref 287,.bool true,i0 181,.ref 288,.none,.ref 289,.ref 290,.ref 291,i0 567,i0 135,cP 568]
abbrev acW:Obj:=fO "number" "Garden.number" (inClass (top 28) 2) .none (VS "thirstwise.gardens" 477) 292
abbrev W7:Obj:=tU #[]
abbrev acX:Obj:=tB #[]
abbrev W8:Obj:=tU #[VS "self" 573,VS "number" 574,VS "left" 575,VS "since" 576,VS "pot" 577]
abbrev W9:Obj:=tU #[]
abbrev acY:Obj:=fB "state" "Garden.state" (inClass (top 28) 3)
abbrev Xa:Obj:=cO #[VS "state" 570,VS "Garden.state" 571,cP 572,i0 142,i0 2,i0 0,i0 0,i0 3,.ref 294,.bool true,i0 181,.ref 295,.none,.ref 296,.ref 297,.ref 298,i0 578,i0 142,cP 579]
abbrev o300:Obj:=fO "state" "Garden.state" (inClass (top 28) 3) .none (VS "thirstwise.gardens" 477) 299
abbrev Xb:Obj:=tU #[]
abbrev acZ:Obj:=tB #[]
abbrev Xc:Obj:=tU #[VS "self" 584]
abbrev Xd:Obj:=tU #[]
abbrev ac0:Obj:=fB "fresh" "Garden.fresh" (inClass (top 28) 4)
abbrev Xe:Obj:=cO #[VS "fresh" 581,VS "Garden.fresh" 582,cP 583,i0 152,i0 1,i0 0,i0 0,i0 3,.ref 301,.bool true,i0 181,.ref 302,.none,.ref 303,.ref 304,.ref 305,i0 585,i0 152,cP 586]
abbrev ac2:Obj:=fO "fresh" "Garden.fresh" (inClass (top 28) 4) .none (VS "thirstwise.gardens" 477) 306
abbrev Xf:Obj:=tU #[VS "cans" 588,VS "closed" 589,VS "pots" 590,VS "week" 591]
noncomputable abbrev Xg (P:Params):Obj:=dO #[dE P "__module__" 530 (VS "thirstwise.gardens" 477),dE P "__firstlineno__" 534 (.int 116 533),dE P "__init__" 549 (.ref 279),dE P "size" 558 (.ref 286),dE P "number" 569 (.ref 293),dE P "state" 580 (.ref 300),dE P "fresh" 587 (.ref 307),dE P "__static_attributes__" 592 (.ref 308),dE P "__dict__" 594 (.ref 311),dE P "__weakref__" 596 (.ref 312),dE P "__doc__" 597 .none] 4
noncomputable abbrev Xh:Obj:={ cls:=.type "type",data:=.cls { name:=SS "Garden",bases:=[.type "object"],mro:=[.ref 310,.type "object"],ns:=309,qualname:=SS "Garden" },slots:=#[none,none,some (VS "Garden" 523),some (VS "Garden" 531),some (.builtin "object.__new__"),some (.bool true)] }
abbrev Xi:Obj:={ cls:=.type "getset_descriptor",data:=.fields #[VS "__dict__" 593,.ref 310,.builtin "function.__dict__",.builtin "function.__dict__#set"] }
abbrev Xj:Obj:={ cls:=.type "getset_descriptor",data:=.fields #[VS "__weakref__" 595,.ref 310,.builtin "ExceptionGroup.__weakref__",.none] }
abbrev ac3:Obj:={ cls:=.type "super",data:=.fields #[.ref 310,.ref 310,.ref 310] }
abbrev ac4:Obj:={ cls:=.type "builtin_function_or_method",data:=.fields #[.builtin "object.__init_subclass__",.ref 310] }
abbrev Xk:Obj:=tU #[]
abbrev ac5:Obj:=tB #[]
abbrev ac6:Obj:=fB "written" "written" (top 30)
abbrev Xl:Obj:=cO #[VS "written" 602,VS "written" 603,cP 604,i0 155,i0 1,i0 0,i0 0,i0 3,.ref 315,.bool true,i0 181,.ref 316,.none,.none,.none,.ref 317,i0 605,i0 155,cP 606]
abbrev Xm:Obj:=fO "written" "written" (top 30) .none (VS "thirstwise.notes" 600) 318
abbrev Xn:Obj:=tU #[]
abbrev ac7:Obj:=tB #[]
abbrev ac8:Obj:=fB "number_in" "number_in" (top 31)
abbrev Xo:Obj:=cO #[VS "number_in" 608,VS "number_in" 609,cP 610,i0 160,i0 2,i0 0,i0 0,i0 3,.ref 320,.bool true,i0 181,.ref 321,.none,.none,.none,.ref 322,i0 611,i0 160,cP 612]
abbrev Xp:Obj:=fO "number_in" "number_in" (top 31) .none (VS "thirstwise.notes" 600) 323
abbrev Xq:Obj:=tU #[]
abbrev ac9:Obj:=tB #[]
abbrev ada:Obj:=fB "head_in" "head_in" (top 32)
abbrev Xr:Obj:=cO #[VS "head_in" 614,VS "head_in" 615,cP 616,i0 166,i0 2,i0 0,i0 0,i0 3,.ref 325,.bool true,i0 181,.ref 326,.none,.none,.none,.ref 327,i0 617,i0 166,cP 618]
abbrev Xu:Obj:=fO "head_in" "head_in" (top 32) .none (VS "thirstwise.notes" 600) 328
abbrev Xv:Obj:=tU #[]
abbrev adb:Obj:=tB #[]
abbrev ade:Obj:=fB "pot_in" "pot_in" (top 33)
abbrev Xw:Obj:=cO #[VS "pot_in" 620,VS "pot_in" 621,cP 622,i0 175,i0 2,i0 0,i0 0,i0 3,.ref 330,.bool true,i0 181,.ref 331,.none,.none,.none,.ref 332,i0 623,i0 175,cP 624]
abbrev Xx:Obj:=fO "pot_in" "pot_in" (top 33) .none (VS "thirstwise.notes" 600) 333
abbrev Xy:Obj:=tU #[]
abbrev adf:Obj:=tB #[]
abbrev adg:Obj:=fB "words_in" "words_in" (top 34)
abbrev Xz:Obj:=cO #[VS "words_in" 626,VS "words_in" 627,cP 628,i0 185,i0 1,i0 0,i0 0,i0 3,.ref 335,.bool true,i0 181,.ref 336,.none,.none,.none,.ref 337,i0 629,i0 185,cP 630]
abbrev XD:Obj:=fO "words_in" "words_in" (top 34) .none (VS "thirstwise.notes" 600) 338
abbrev XF:Obj:=tU #[]
abbrev adh:Obj:=tB #[]
abbrev adi:Obj:=fB "numbered_rows" "numbered_rows" (top 35)
abbrev XH:Obj:=cO #[VS "numbered_rows" 632,VS "numbered_rows" 633,cP 634,i0 187,i0 1,i0 0,i0 0,i0 3,.ref 340,.bool true,i0 181,.ref 341,.none,.none,.none,.ref 342,i0 635,i0 187,cP 636]
abbrev XJ:Obj:=fO "numbered_rows" "numbered_rows" (top 35) .none (VS "thirstwise.notes" 600) 343
abbrev XM:Obj:=tU #[]
abbrev adk:Obj:=tB #[]
abbrev XQ:Obj:=tU #[VS "rows" 641,VS "pots" 642,VS "names" 643,VS "row" 644,VS "words" 645,VS "pot" 646]
abbrev XR:Obj:=tU #[]
abbrev adl:Obj:=fB "pots_in" "pots_in" (top 36)
abbrev XS:Obj:=cO #[VS "pots_in" 638,VS "pots_in" 639,cP 640,i0 190,i0 1,i0 0,i0 0,i0 3,.ref 345,.bool true,i0 181,.ref 346,.none,.ref 347,.ref 348,.ref 349,i0 647,i0 190,cP 648]
abbrev X3:Obj:=fO "pots_in" "pots_in" (top 36) .none (VS "thirstwise.notes" 600) 350
abbrev X4:Obj:=tU #[]
abbrev adn:Obj:=tB #[]
abbrev X5:Obj:=tU #[VS "text" 653,VS "lines" 654,VS "rows" 655,VS "beyond" 656,VS "head" 657,VS "pots" 658,VS "e" 659]
abbrev X6:Obj:=tU #[]
abbrev ado:Obj:=fB "read" "read" (top 37)
abbrev X7:Obj:=cO #[VS "read" 650,VS "read" 651,cP 652,i0 200,i0 1,i0 0,i0 0,i0 3,.ref 352,.bool true,i0 181,.ref 353,.none,.ref 354,.ref 355,.ref 356,i0 660,i0 200,cP 661]
abbrev X8:Obj:=fO "read" "read" (top 37) .none (VS "thirstwise.notes" 600) 357
abbrev Yb:Obj:=tU #[]
abbrev adp:Obj:=tB #[]
abbrev Yc:Obj:=tU #[VS "_law_script" 668,VS "_law_k" 669]
abbrev Yd:Obj:=tU #[]
abbrev adq:Obj:=fB "_law_cell_at" "_law_cell_at" (top 39)
abbrev Ye:Obj:=cO #[VS "_law_cell_at" 665,VS "_law_cell_at" 666,cP 667,i0 213,i0 2,i0 0,i0 0,i0 3,.ref 359,.bool true,i0 181,.ref 360,.none,.ref 361,.ref 362,.ref 363,i0 670,i0 213,cP 671]
abbrev Yg:Obj:=fO "_law_cell_at" "_law_cell_at" (top 39) .none (VS "law_thirstwise_k09_texts_misread" 663) 364
abbrev Yh:Obj:=tU #[]
abbrev adt:Obj:=tB #[]
abbrev Yi:Obj:=tU #[VS "_law_cell" 676,VS "_law_k" 677,VS "_law_many" 678,VS "_law_primes" 679,VS "_law_blend" 680]
abbrev Yj:Obj:=tU #[]
abbrev adu:Obj:=fB "_law_draw" "_law_draw" (top 40)
abbrev Yk:Obj:=cO #[VS "_law_draw" 673,VS "_law_draw" 674,cP 675,i0 217,i0 3,i0 0,i0 0,i0 3,.ref 366,.bool true,i0 181,.ref 367,.none,.ref 368,.ref 369,.ref 370,i0 681,i0 217,cP 682]
abbrev Yl:Obj:=fO "_law_draw" "_law_draw" (top 40) .none (VS "law_thirstwise_k09_texts_misread" 663) 371
abbrev Ym:Obj:=tU #[]
abbrev adv:Obj:=tB #[]
abbrev Yn:Obj:=tU #[VS "_law_error" 687,VS "_law_found" 688]
abbrev Yo:Obj:=tU #[]
abbrev o377:Obj:=fB "_law_sorts" "_law_sorts" (top 41)
abbrev Yp:Obj:=cO #[VS "_law_sorts" 684,VS "_law_sorts" 685,cP 686,i0 221,i0 1,i0 0,i0 0,i0 3,.ref 373,.bool true,i0 181,.ref 374,.none,.ref 375,.ref 376,.ref 377,i0 689,i0 221,cP 690]
abbrev Yq:Obj:=fO "_law_sorts" "_law_sorts" (top 41) .none (VS "law_thirstwise_k09_texts_misread" 663) 378
abbrev Yr:Obj:=tU #[]
abbrev adw:Obj:=tB #[]
abbrev Ys:Obj:=tU #[VS "_law_text" 695,VS "_law_error" 696]
abbrev Yt:Obj:=tU #[]
abbrev adx:Obj:=fB "_law_refused" "_law_refused" (top 42)
abbrev Yu:Obj:=cO #[VS "_law_refused" 692,VS "_law_refused" 693,cP 694,i0 224,i0 1,i0 0,i0 0,i0 3,.ref 380,.bool true,i0 181,.ref 381,.none,.ref 382,.ref 383,.ref 384,i0 697,i0 224,cP 698]
abbrev Yv:Obj:=fO "_law_refused" "_law_refused" (top 42) .none (VS "law_thirstwise_k09_texts_misread" 663) 385
abbrev Yw:Obj:=tU #[]
abbrev ady:Obj:=tB #[]
abbrev Yx:Obj:=tU #[VS "_law_way" 703,VS "_law_rows_here" 704]
abbrev Yy:Obj:=tU #[]
abbrev adz:Obj:=fB "_law_bad_pot" "_law_bad_pot" (top 43)
abbrev Yz:Obj:=cO #[VS "_law_bad_pot" 700,VS "_law_bad_pot" 701,cP 702,i0 232,i0 1,i0 0,i0 0,i0 3,.ref 387,.bool true,i0 181,.ref 388,.none,.ref 389,.ref 390,.ref 391,i0 705,i0 232,cP 706]
abbrev YB:Obj:=fO "_law_bad_pot" "_law_bad_pot" (top 43) .none (VS "law_thirstwise_k09_texts_misread" 663) 392
abbrev YC:Obj:=tU #[]
abbrev adA:Obj:=tB #[]
abbrev YD:Obj:=tU #[VS "_law_way" 711,VS "_law_rows_here" 712]
abbrev YF:Obj:=tU #[]
abbrev adB:Obj:=fB "_law_bad_head" "_law_bad_head" (top 44)
abbrev YG:Obj:=cO #[VS "_law_bad_head" 708,VS "_law_bad_head" 709,cP 710,i0 239,i0 1,i0 0,i0 0,i0 3,.ref 394,.bool true,i0 181,.ref 395,.none,.ref 396,.ref 397,.ref 398,i0 713,i0 239,cP 714]
abbrev o400:Obj:=fO "_law_bad_head" "_law_bad_head" (top 44) .none (VS "law_thirstwise_k09_texts_misread" 663) 399
abbrev YH:Obj:=tU #[]
abbrev adC:Obj:=tB #[]
abbrev YJ:Obj:=tU #[VS "_law_script" 719,VS "_law_cell" 720,VS "_law_rows_here" 721,VS "_law_k" 722,VS "_law_more" 723]
abbrev YK:Obj:=tU #[]
abbrev adD:Obj:=fB "_law_rows" "_law_rows" (top 45)
abbrev YL:Obj:=cO #[VS "_law_rows" 716,VS "_law_rows" 717,cP 718,i0 243,i0 1,i0 0,i0 0,i0 3,.ref 401,.bool true,i0 181,.ref 402,.none,.ref 403,.ref 404,.ref 405,i0 724,i0 243,cP 725]
abbrev YM:Obj:=fO "_law_rows" "_law_rows" (top 45) .none (VS "law_thirstwise_k09_texts_misread" 663) 406
abbrev YQ:Obj:=tU #[]
abbrev adE:Obj:=tB #[]
abbrev adF:Obj:=fB "_law_whole" "_law_whole" (top 46)
abbrev YS:Obj:=cO #[VS "_law_whole" 727,VS "_law_whole" 728,cP 729,i0 252,i0 1,i0 0,i0 0,i0 3,.ref 408,.bool true,i0 181,.ref 409,.none,.none,.none,.ref 410,i0 730,i0 252,cP 731]
abbrev YT:Obj:=fO "_law_whole" "_law_whole" (top 46) .none (VS "law_thirstwise_k09_texts_misread" 663) 411
abbrev YW:Obj:=tU #[]
abbrev adG:Obj:=tB #[]
abbrev adH:Obj:=fB "law" "law" (top 47)
abbrev YX:Obj:=cO #[VS "law" 733,VS "law" 734,cP 735,i0 263,i0 1,i0 0,i0 0,i0 3,.ref 413,.bool true,i0 181,.ref 414,.none,.none,.none,.ref 415,i0 736,i0 263,cP 737]
abbrev YZ:Obj:=fO "law" "law" (top 47) .none (VS "law_thirstwise_k09_texts_misread" 663) 416
noncomputable def KK:Params->Frag:=fun P=>(nat_lit 2,(boot_o_2 P))::(nat_lit 3,(Uu P))::(nat_lit 15,o15)::(nat_lit 17,o17)::(nat_lit 18,o18)::(nat_lit 20,o20)::(nat_lit 22,o22)::(nat_lit 24,o24)::(nat_lit 25,o25)::(nat_lit 27,o27)::(nat_lit 28,o28)::(nat_lit 29,o29)::(nat_lit 31,o31)::(nat_lit 32,o32)::(nat_lit 34,o34)::(nat_lit 35,o35)::(nat_lit 36,o36)::(nat_lit 43,o43)::(nat_lit 44,(o44 P))::(nat_lit 45,o45)::(nat_lit 46,o46)::(nat_lit 49,o49)::(nat_lit 56,o56)::(nat_lit 57,(o57 P))::(nat_lit 58,o58)::(nat_lit 61,o61)::(nat_lit 68,o68)::(nat_lit 70,o70)::(nat_lit 71,o71)::(nat_lit 73,o73)::(nat_lit 74,o74)::(nat_lit 75,o75)::(nat_lit 76,(o76 P))::(nat_lit 77,o77)::(nat_lit 80,o80)::(nat_lit 87,o87)::(nat_lit 88,(o88 P))::(nat_lit 89,o89)::(nat_lit 92,o92)::(nat_lit 99,o99)::(nat_lit 100,(o100 P))::(nat_lit 101,Oq)::(nat_lit 104,Ot)::(nat_lit 111,o111)::(nat_lit 112,(Ou P))::(nat_lit 113,Ov)::(nat_lit 116,Ow)::(nat_lit 123,Ox)::(nat_lit 125,Oz)::(nat_lit 126,OD)::(nat_lit 128,OJ)::(nat_lit 130,O1)::(nat_lit 131,(O2 P))::(nat_lit 132,O3)::(nat_lit 135,O4)::(nat_lit 138,O5)::(nat_lit 139,O6)::(nat_lit 147,O7)::(nat_lit 149,O8)::(nat_lit 150,O9)::(nat_lit 152,Pa)::(nat_lit 153,Pb)::(nat_lit 154,Pg)::(nat_lit 156,Ph)::(nat_lit 157,Pj)::(nat_lit 159,Pk)::(nat_lit 161,Pn)::(nat_lit 163,Pq)::(nat_lit 164,Pu)::(nat_lit 166,Px)::(nat_lit 167,Py)::(nat_lit 168,Pz)::(nat_lit 170,PB)::(nat_lit 171,PJ)::(nat_lit 173,PL)::(nat_lit 174,PN)::(nat_lit 175,PX)::(nat_lit 177,P0)::(nat_lit 178,Qa)::(nat_lit 180,Qd)::(nat_lit 182,Qf)::(nat_lit 183,(Qg P))::(nat_lit 184,Dj)::(nat_lit 185,Qh)::(nat_lit 186,Qi)::(nat_lit 189,VD)::(nat_lit 196,VF)::(nat_lit 198,VG)::(nat_lit 199,VH)::(nat_lit 201,VJ)::(nat_lit 202,VL)::(nat_lit 203,VN)::(nat_lit 205,VP)::(nat_lit 206,VR)::(nat_lit 208,V0)::(nat_lit 210,V1)::(nat_lit 212,V2)::(nat_lit 213,V3)::(nat_lit 215,V4)::(nat_lit 216,V5)::(nat_lit 217,V6)::(nat_lit 219,V7)::(nat_lit 220,V8)::(nat_lit 222,V9)::(nat_lit 223,Wa)::(nat_lit 224,Wb)::(nat_lit 226,Wc)::(nat_lit 227,Wd)::(nat_lit 229,Wf)::(nat_lit 231,Wg)::(nat_lit 232,(Wh P))::(nat_lit 233,Wi)::(nat_lit 236,Wj)::(nat_lit 239,Wk)::(nat_lit 240,Wl)::(nat_lit 241,Wm)::(nat_lit 243,Wn)::(nat_lit 244,Wo)::(nat_lit 246,Wq)::(nat_lit 247,Wr)::(nat_lit 248,Ws)::(nat_lit 251,Wt)::(nat_lit 252,Wu)::(nat_lit 253,Wv)::(nat_lit 256,Ww)::(nat_lit 258,Wx)::(nat_lit 260,Wy)::(nat_lit 261,Wz)::(nat_lit 263,WD)::(nat_lit 272,WK)::(nat_lit 273,WL)::(nat_lit 275,WM)::(nat_lit 276,WQ)::(nat_lit 278,WR)::(nat_lit 279,WT)::(nat_lit 280,WW)::(nat_lit 282,WX)::(nat_lit 283,WY)::(nat_lit 285,W0)::(nat_lit 286,W2)::(nat_lit 287,W3)::(nat_lit 289,W4)::(nat_lit 290,W5)::(nat_lit 292,W6)::(nat_lit 294,W7)::(nat_lit 296,W8)::(nat_lit 297,W9)::(nat_lit 299,Xa)::(nat_lit 301,Xb)::(nat_lit 303,Xc)::(nat_lit 304,Xd)::(nat_lit 306,Xe)::(nat_lit 308,Xf)::(nat_lit 309,(Xg P))::(nat_lit 310,Xh)::(nat_lit 311,Xi)::(nat_lit 312,Xj)::(nat_lit 315,Xk)::(nat_lit 318,Xl)::(nat_lit 319,Xm)::(nat_lit 320,Xn)::(nat_lit 323,Xo)::(nat_lit 324,Xp)::(nat_lit 325,Xq)::(nat_lit 328,Xr)::(nat_lit 329,Xu)::(nat_lit 330,Xv)::(nat_lit 333,Xw)::(nat_lit 334,Xx)::(nat_lit 335,Xy)::(nat_lit 338,Xz)::(nat_lit 339,XD)::(nat_lit 340,XF)::(nat_lit 343,XH)::(nat_lit 344,XJ)::(nat_lit 345,XM)::(nat_lit 347,XQ)::(nat_lit 348,XR)::(nat_lit 350,XS)::(nat_lit 351,X3)::(nat_lit 352,X4)::(nat_lit 354,X5)::(nat_lit 355,X6)::(nat_lit 357,X7)::(nat_lit 358,X8)::(nat_lit 359,Yb)::(nat_lit 361,Yc)::(nat_lit 362,Yd)::(nat_lit 364,Ye)::(nat_lit 365,Yg)::(nat_lit 366,Yh)::(nat_lit 368,Yi)::(nat_lit 369,Yj)::(nat_lit 371,Yk)::(nat_lit 372,Yl)::(nat_lit 373,Ym)::(nat_lit 375,Yn)::(nat_lit 376,Yo)::(nat_lit 378,Yp)::(nat_lit 379,Yq)::(nat_lit 380,Yr)::(nat_lit 382,Ys)::(nat_lit 383,Yt)::(nat_lit 385,Yu)::(nat_lit 386,Yv)::(nat_lit 387,Yw)::(nat_lit 389,Yx)::(nat_lit 390,Yy)::(nat_lit 392,Yz)::(nat_lit 393,YB)::(nat_lit 394,YC)::(nat_lit 396,YD)::(nat_lit 397,YF)::(nat_lit 399,YG)::(nat_lit 400,o400)::(nat_lit 401,YH)::(nat_lit 403,YJ)::(nat_lit 404,YK)::(nat_lit 406,YL)::(nat_lit 407,YM)::(nat_lit 408,YQ)::(nat_lit 411,YS)::(nat_lit 412,YT)::(nat_lit 413,YW)::(nat_lit 416,YX)::(nat_lit 417,YZ)::[]
noncomputable def addrs:List aA:=[2,3,15,17,18,20,22,24,25,27,28,29,31,32,34,35,36,43,44,45,46,49,56,57,58,61,68,70,71,73,74,75,76,77,80,87,88,89,92,99,100,101,104,111,112,113,116,123,125,126,128,130,131,132,135,138,139,147,149,150,152,153,154,156,157,159,161,163,164,166,167,168,170,171,173,174,175,177,178,180,182,183,184,185,186,189,196,198,199,201,202,203,205,206,208,210,212,213,215,216,217,219,220,222,223,224,226,227,229,231,232,233,236,239,240,241,243,244,246,247,248,251,252,253,256,258,260,261,263,272,273,275,276,278,279,280,282,283,285,286,287,289,290,292,294,296,297,299,301,303,304,306,308,309,310,311,312,315,318,319,320,323,324,325,328,329,330,333,334,335,338,339,340,343,344,345,347,348,350,351,352,354,355,357,358,359,361,362,364,365,366,368,369,371,372,373,375,376,378,379,380,382,383,385,386,387,389,390,392,393,394,396,397,399,400,401,403,404,406,407,408,411,412,413,416,417]
abbrev LO:List Str:=[]
noncomputable def view:bT:={ PySem.Challenge.pw_thirstwise_k09_texts_misread with main:={ PySem.Challenge.pw_thirstwise_k09_texts_misread.main with body:=[top 0,top 2,top 3,top 5,top 6,top 7,top 8,top 9,top 10,top 11,top 13,top 14,top 15,top 16,top 17,top 19,top 20,top 21,top 22,top 23,top 24,top 25,top 26,top 27,top 28,top 30,top 31,top 32,top 33,top 34,top 35,top 36,top 37,top 39,top 40,top 41,top 42,top 43,top 44,top 45,top 46,top 47] } }
abbrev ANN:Option au:=some (Value.ref 6)
abbrev QQ:Pos:={ line:=0,col:=0,endLine:=0,endCol:=0 }
abbrev BODY:List cQ:=behindTheImports PySem.Challenge.pw_thirstwise_k09_texts_misread
abbrev ENV:Env:={ scope:=PySem.Challenge.pw_thirstwise_k09_texts_misread.main.scope,locals:=mainNs,globals:=mainNs,cells:=[],code:=Value.ref 13,frame:=some 14 }
abbrev CE:Code:=Code.body BODY ENV
abbrev alI:Life:={ }
abbrev adJ:Life:={ }
noncomputable def Sy:Params->Heap:=fun P=>Heap.mk (Array.mk [(boot_o_0 P),(boot_o_1 P),(boot_o_2 P),(boot_o_3 P),(boot_o_4 P),(boot_o_5 P),(boot_o_6 P),(boot_o_7 P),(boot_o_8 P),(boot_o_9 P),(boot_o_10 P),o11,o12,o13,o14]) adJ
abbrev SJ:Life:={ }
noncomputable def SM:Params->BT:=fun P=>(nD (boot_o_0 P) (nD (boot_o_1 P) (nD (boot_o_3 P) (lF (boot_o_7 P)) (lF o11)) (nD (boot_o_5 P) (lF (boot_o_9 P)) (lF o13))) (nD (boot_o_2 P) (nD (boot_o_4 P) (lF (boot_o_8 P)) (lF o12)) (nD (boot_o_6 P) (lF (boot_o_10 P)) (lF o14))))
abbrev SN:Life:={ }
noncomputable def SQ:Params->BT:=fun P=>(nD (boot_o_0 P) (nD (boot_o_1 P) (nD (aht P) (nD (boot_o_7 P) (nD o15 (nD o31 (nD (o63 P) (lF Va) .nil) (nD o95 (lF Pk) .nil)) (nD o47 (nD o79 (lF Vj) .nil) (nD o111 (lF PX) .nil))) (nD o23 (nD o39 (nD o71 (lF O4) .nil) (nD Uw (lF Py) .nil)) (nD o55 (nD o87 (lF Vo) .nil) (nD U5 (lF (Qg P)) .nil)))) (nD o11 (nD o19 (nD o35 (nD o67 (lF (O2 P)) .nil) (nD o99 (lF Pq) .nil)) (nD (o51 P) (nD o83 (lF O7) .nil) (nD U0 (lF Vx) .nil))) (nD o27 (nD o43 (nD o75 (lF O6) .nil) (nD Uz (lF PJ) .nil)) (nD o59 (nD o91 (lF Vp) .nil) (nD Ox (lF Vz) .nil))))) (nD (boot_o_5 P) (nD (boot_o_9 P) (nD o17 (nD o33 (nD o65 (lF Vb) .nil) (nD o97 (lF Pn) .nil)) (nD o49 (nD o81 (lF Vl) .nil) (nD Ov (lF P0) .nil))) (nD o25 (nD o41 (nD o73 (lF Vf) .nil) (nD Ux (lF Vu) .nil)) (nD (o57 P) (nD o89 (lF Pb) .nil) (nD U7 (lF Qh) .nil)))) (nD o13 (nD o21 (nD o37 (nD o69 (lF Vc) .nil) (nD Oq (lF Vt) .nil)) (nD o53 (nD o85 (lF O8) .nil) (nD U3 (lF Vy) .nil))) (nD o29 (nD o45 (nD o77 (lF Vh) .nil) (nD UJ (lF PL) .nil)) (nD o61 (nD o93 (lF Pj) .nil) (lF Oz)))))) (nD (boot_o_2 P) (nD (boot_o_4 P) (nD (boot_o_8 P) (nD o16 (nD o32 (nD o64 (lF OJ) .nil) (nD o96 (lF Vr) .nil)) (nD o48 (nD o80 (lF Vk) .nil) (nD (Ou P) (lF Vw) .nil))) (nD o24 (nD o40 (nD o72 (lF Ve) .nil) (nD Ot (lF Pz) .nil)) (nD o56 (nD (o88 P) (lF Pa) .nil) (nD U6 (lF aii) .nil)))) (nD ab3 (nD o20 (nD o36 (nD o68 (lF O3) .nil) (nD (o100 P) (lF Pu) .nil)) (nD o52 (nD o84 (lF Vn) .nil) (nD Ow (lF Qd) .nil))) (nD o28 (nD (o44 P) (nD (o76 P) (lF Vg) .nil) (nD UG (lF Vv) .nil)) (nD o60 (nD o92 (lF Ph) .nil) (nD U9 (lF VB) .nil))))) (nD (boot_o_6 P) (nD (boot_o_10 P) (nD o18 (nD o34 (nD o66 (lF O1) .nil) (nD o98 (lF Vs) .nil)) (nD o50 (nD (o82 P) (lF Vm) .nil) (nD UW (lF Qa) .nil))) (nD o26 (nD o42 (nD o74 (lF O5) .nil) (nD (Uy P) (lF PB) .nil)) (nD o58 (nD o90 (lF Pg) .nil) (nD U8 (lF Qi) .nil)))) (nD o14 (nD o22 (nD (o38 P) (nD o70 (lF Vd) .nil) (nD Uv (lF Px) .nil)) (nD o54 (nD o86 (lF O9) .nil) (nD (U4 P) (lF Qf) .nil))) (nD o30 (nD o46 (nD o78 (lF (Vi P)) .nil) (nD UL (lF PN) .nil)) (nD o62 (nD (o94 P) (lF Vq) .nil) (lF OD)))))))
abbrev SX:Life:={ }
noncomputable def S5:Params->BT:=fun P=>(nD (boot_o_0 P) (nD (boot_o_1 P) (nD (Uu P) (nD (boot_o_7 P) (nD o15 (nD o31 (nD (o63 P) (nD Va (lF acE) (lF Yt)) (nD (ab7 P) (lF Xm) .nil)) (nD o95 (nD Pk (lF W3) (lF adH)) (nD Wa (lF X3) .nil))) (nD o47 (nD o79 (nD Vj (lF acP) (lF YG)) (nD ach (lF Xy) .nil)) (nD o111 (nD PX (lF Xc) .nil) (nD Wk (lF adt) .nil)))) (nD o23 (nD o39 (nD o71 (nD O4 (lF WD) (lF adz)) (nD VH (lF ada) .nil)) (nD Uw (nD Py (lF acX) .nil) (nD Wg (lF Yb) .nil))) (nD o55 (nD o87 (nD Vo (lF WT) (lF YM)) (nD V4 (lF XH) .nil)) (nD U5 (nD (Qg P) (lF Xi) .nil) (nD Wr (lF Yn) .nil))))) (nD o11 (nD o19 (nD o35 (nD o67 (nD (O2 P) (lF acG) (lF Yw)) (nD ace (lF Xo) .nil)) (nD o99 (nD Pq (lF acV) .nil) (nD Wd (lF X6) .nil))) (nD (o51 P) (nD o83 (nD O7 (lF WM) (lF YJ)) (nD acj (lF XD) .nil)) (nD U0 (nD Vx (lF ac2) .nil) (nD Wn (lF Yk) .nil)))) (nD o27 (nD o43 (nD o75 (nD O6 (lF (acL P)) (lF adA)) (nD VN (lF adb) .nil)) (nD Uz (nD PJ (lF Xa) .nil) (nD acv (lF adq) .nil))) (nD o59 (nD o91 (nD Vp (lF WY) (lF YS)) (nD V7 (lF XQ) .nil)) (nD Ox (nD Vz (lF Xk) .nil) (nD Wt (lF Yq) .nil)))))) (nD (boot_o_5 P) (nD (boot_o_9 P) (nD o17 (nD o33 (nD o65 (nD Vb (lF acF) (lF Yu)) (nD ab9 (lF ac7) .nil)) (nD o97 (nD Pn (lF W4) (lF YZ)) (nD acq (lF adn) .nil))) (nD o49 (nD o81 (nD Vl (lF WL) (lF YH)) (nD aci (lF adg) .nil)) (nD Ov (nD P0 (lF ac0) .nil) (nD Wm (lF Yj) .nil)))) (nD o25 (nD o41 (nD o73 (nD Vf (lF acJ) (lF YB)) (nD VJ (lF Xu) .nil)) (nD Ux (nD Vu (lF W9) .nil) (nD Wi (lF Yc) .nil))) (nD (o57 P) (nD o89 (nD Pb (lF acS) (lF adE)) (nD V6 (lF XM) .nil)) (nD U7 (nD Qh (lF ac3) .nil) (nD acB (lF o377) .nil))))) (nD o13 (nD o21 (nD o37 (nD o69 (nD Vc (lF Wz) (lF Yx)) (nD acf (lF Xq) .nil)) (nD Oq (nD Vt (lF acW) .nil) (nD Wf (lF X7) .nil))) (nD o53 (nD o85 (nD O8 (lF acR) (lF adD)) (nD V3 (lF adh) .nil)) (nD U3 (nD Vy (lF (Xg P)) .nil) (nD acA (lF Ym) .nil)))) (nD o29 (nD o45 (nD o77 (nD Vh (lF acN) (lF YF)) (nD VP (lF Xw) .nil)) (nD UJ (nD PL (lF Xb) .nil) (nD acw (lF Yg) .nil))) (nD o61 (nD o93 (nD Pj (lF W0) (lF YW)) (nD acp (lF adl) .nil)) (nD Oz (nD VD (lF ac6) .nil) (nD Wv (lF adw) .nil))))))) (nD (boot_o_2 P) (nD (boot_o_4 P) (nD (boot_o_8 P) (nD o16 (nD o32 (nD o64 (nD OJ (lF Ww) (lF adx)) (nD ab8 (lF Xn) .nil)) (nD o96 (nD Vr (lF acU) (lF YX)) (nD Wb (lF X4) .nil))) (nD o48 (nD o80 (nD Vk (lF WK) (lF o400)) (nD V0 (lF adf) .nil)) (nD (Ou P) (nD Vw (lF Xd) .nil) (nD Wl (lF Yi) .nil)))) (nD o24 (nD o40 (nD o72 (nD Ve (lF acI) (lF Yz)) (nD o200 (lF Xr) .nil)) (nD Ot (nD Pz (lF W8) .nil) (nD (Wh P) (lF adp) .nil))) (nD o56 (nD (o88 P) (nD Pa (lF WW) (lF YQ)) (nD V5 (lF XJ) .nil)) (nD U6 (nD Dj (lF Xj) .nil) (nD Ws (lF Yo) .nil))))) (nD Sx (nD o20 (nD o36 (nD o68 (nD O3 (lF Wy) (lF ady)) (nD VF (lF Xp) .nil)) (nD (o100 P) (nD Pu (lF W6) .nil) (nD acr (lF ado) .nil))) (nD o52 (nD o84 (nD Vn (lF WQ) (lF YK)) (nD V2 (lF XF) .nil)) (nD Ow (nD Qd (lF Xf) .nil) (nD Wo (lF Yl) .nil)))) (nD o28 (nD (o44 P) (nD (o76 P) (nD Vg (lF acM) (lF YD)) (nD acg (lF ade) .nil)) (nD UG (nD Vv (lF o300) .nil) (nD Wj (lF Ye) .nil))) (nD o60 (nD o92 (nD Ph (lF acT) (lF YT)) (nD V8 (lF XR) .nil)) (nD U9 (nD VB (lF ac5) .nil) (nD Wu (lF Yr) .nil)))))) (nD (boot_o_6 P) (nD (boot_o_10 P) (nD o18 (nD o34 (nD o66 (nD O1 (lF Wx) (lF Yv)) (nD acd (lF ac8) .nil)) (nD o98 (nD Vs (lF W5) .nil) (nD Wc (lF X5) .nil))) (nD o50 (nD (o82 P) (nD Vm (lF acQ) (lF adC)) (nD V1 (lF Xz) .nil)) (nD UW (nD Qa (lF Xe) .nil) (nD acz (lF adu) .nil)))) (nD o26 (nD o42 (nD o74 (nD O5 (lF acK) (lF YC)) (nD VL (lF Xv) .nil)) (nD (Uy P) (nD PB (lF acY) .nil) (nD acu (lF Yd) .nil))) (nD o58 (nD o90 (nD Pg (lF WX) (lF adF)) (nD aco (lF adk) .nil)) (nD U8 (nD Qi (lF ac4) .nil) (nD acC (lF Yp) .nil))))) (nD o14 (nD o22 (nD (o38 P) (nD o70 (nD Vd (lF acH) (lF Yy)) (nD VG (lF ac9) .nil)) (nD Uv (nD Px (lF W7) .nil) (nD acs (lF X8) .nil))) (nD o54 (nD o86 (nD O9 (lF WR) (lF YL)) (nD acn (lF adi) .nil)) (nD (U4 P) (nD Qf (lF Xh) .nil) (nD Wq (lF adv) .nil)))) (nD o30 (nD o46 (nD o78 (nD (Vi P) (lF acO) (lF adB)) (nD VR (lF Xx) .nil)) (nD UL (nD PN (lF acZ) .nil) (nD acy (lF Yh) .nil))) (nD o62 (nD (o94 P) (nD Vq (lF W2) (lF adG)) (nD V9 (lF XS) .nil)) (nD OD (nD ab6 (lF Xl) .nil) (nD acD (lF Ys) .nil))))))))
abbrev adK:Life:={ }
noncomputable def qp:Params->Heap:=fun P=>Heap.mk (Array.mk [(boot_o_0 P),(boot_o_1 P),(boot_o_2 P),(Uu P),(boot_o_4 P),(boot_o_5 P),(boot_o_6 P),(boot_o_7 P),(boot_o_8 P),(boot_o_9 P),(boot_o_10 P),o11,Sx,o13,o14,o15,o16,o17,o18,o19,o20,o21,o22,o23,o24,o25,o26,o27,o28,o29,o30,o31,o32,o33,o34,o35,o36,o37,(o38 P),o39,o40,o41,o42,o43,(o44 P),o45,o46,o47,o48,o49,o50,(o51 P),o52,o53,o54,o55,o56,(o57 P),o58,o59,o60,o61,o62,(o63 P),o64,o65,o66,o67,o68,o69,o70,o71,o72,o73,o74,o75,(o76 P),o77,o78,o79,o80,o81,(o82 P),o83,o84,o85,o86,o87,(o88 P),o89,o90,o91,o92,o93,(o94 P),o95,o96,o97,o98,o99,(o100 P),Oq,Uv,Uw,Ot,Ux,(Uy P),Uz,UG,UJ,UL,o111,(Ou P),Ov,UW,U0,Ow,U3,(U4 P),U5,U6,U7,U8,Ox,U9,Oz,OD,Va,OJ,Vb,O1,(O2 P),O3,Vc,Vd,O4,Ve,Vf,O5,O6,Vg,Vh,(Vi P),Vj,Vk,Vl,Vm,O7,Vn,O8,O9,Vo,Pa,Pb,Pg,Vp,Ph,Pj,Vq,Pk,Vr,Pn,Vs,Pq,Pu,Vt,Px,Py,Pz,Vu,PB,PJ,Vv,PL,PN,PX,Vw,P0,Qa,Vx,Qd,Vy,Qf,(Qg P),Dj,Qh,Qi,Vz,VB,VD,ab6,(ab7 P),ab8,ab9,acd,ace,VF,acf,VG,VH,o200,VJ,VL,VN,acg,VP,VR,ach,V0,aci,V1,acj,V2,V3,acn,V4,V5,V6,aco,V7,V8,acp,V9,Wa,Wb,acq,Wc,Wd,acr,Wf,acs,Wg,(Wh P),Wi,acu,acv,Wj,acw,acy,Wk,Wl,Wm,acz,Wn,Wo,acA,Wq,Wr,Ws,acB,acC,Wt,Wu,Wv,acD,acE,Ww,acF,Wx,acG,Wy,Wz,acH,WD,acI,acJ,acK,(acL P),acM,acN,acO,acP,WK,WL,acQ,WM,WQ,acR,WR,WT,WW,acS,WX,WY,acT,W0,W2,W3,acU,W4,W5,acV,W6,acW,W7,acX,W8,W9,acY,Xa,o300,Xb,acZ,Xc,Xd,ac0,Xe,ac2,Xf,(Xg P),Xh,Xi,Xj,ac3,ac4,Xk,ac5,ac6,Xl,Xm,Xn,ac7,ac8,Xo,Xp,Xq,ac9,ada,Xr,Xu,Xv,adb,ade,Xw,Xx,Xy,adf,adg,Xz,XD,XF,adh,adi,XH,XJ,XM,adk,XQ,XR,adl,XS,X3,X4,adn,X5,X6,ado,X7,X8,Yb,adp,Yc,Yd,adq,Ye,Yg,Yh,adt,Yi,Yj,adu,Yk,Yl,Ym,adv,Yn,Yo,o377,Yp,Yq,Yr,adw,Ys,Yt,adx,Yu,Yv,Yw,ady,Yx,Yy,adz,Yz,YB,YC,adA,YD,YF,adB,YG,o400,YH,adC,YJ,YK,adD,YL,YM,YQ,adE,adF,YS,YT,YW,adG,adH,YX,YZ]) adK
end
theorem S6 {tb:String->Option Builtin} {p:bT} {w:World} {n₀:Nat} {ann:Option au} {env:Env} {q:Pos} {n N:Nat} {s s' r:aG} {b:List cQ} {c:Code} {pos p':Pos} (i k:Nat) (h:segRun tb p w n₀ ann 1 n s (piecesOf ((b.drop i).take k) env c pos [topFrame q])=some (.next,s',c,p')) (g:topRun tb p w n₀ ann N s' (restOf (b.drop (i + k)) env c p' [topFrame q])=some r):topRun tb p w n₀ ann (n + N) s (restOf (b.drop i) env c pos [topFrame q])=some r:=by
 have e:b.drop i=(b.drop i).take k++b.drop (i + k):=by rw [<- List.drop_drop,List.take_append_drop]
 rw [e];exact piece_app h g
theorem Jz:∀ w:World,(fun os=>topGo treeTable PySem.Challenge.pw_thirstwise_k09_texts_misread w 11 ANN 12 (Shared.mk (boot_heap w.params) (Array.mk []) boot_drawn boot_toks os) (topStub PySem.Challenge.pw_thirstwise_k09_texts_misread))=fun os=>some ((Shared.mk (Sy w.params) (Array.mk []) boot_drawn 187 os),Thread.mk (denote treeTable CE) CE { line:=0,col:=0,endLine:=0,endCol:=0 } [topFrame QQ]):=by
 intro w; kernel_rfl
theorem Dk:∀ w:World,(fun os=>segRun treeTable PySem.Challenge.pw_thirstwise_k09_texts_misread w 11 ANN 1 1 (Shared.mk (Sy w.params) (Array.mk []) boot_drawn 187 os) (blockOf BODY ENV CE { line:=0,col:=0,endLine:=0,endCol:=0 } [topFrame QQ]))=fun os=>some (Flow.next,(SharedT.abs (SharedT.mk (SM w.params) 15 SJ (Array.mk []) boot_drawn 187 os)),CE,{ line:=0,col:=0,endLine:=0,endCol:=0 }):=by
 intro w; kernel_rfl
theorem adL:∀ w:World,(fun os=>segRunT treeTable PySem.Challenge.pw_thirstwise_k09_texts_misread w 11 ANN 1 2040 (SharedT.mk (SM w.params) 15 SJ (Array.mk []) boot_drawn 187 os) (piecesOf ((BODY.drop 0).take 17) ENV CE { line:=0,col:=0,endLine:=0,endCol:=0 } [topFrame QQ]))=fun os=>some (Flow.next,(SharedT.mk (SQ w.params) 189 SN (Array.mk []) boot_drawn 420 os),CE,{ line:=39,col:=0,endLine:=59,endCol:=16 }):=by
 intro w; kernel_rfl
theorem adM:∀ w:World,(fun os=>segRunT treeTable PySem.Challenge.pw_thirstwise_k09_texts_misread w 11 ANN 1 1437 (SharedT.mk (SQ w.params) 189 SN (Array.mk []) boot_drawn 420 os) (piecesOf ((BODY.drop 17).take 31) ENV CE { line:=39,col:=0,endLine:=59,endCol:=16 } [topFrame QQ]))=fun os=>some (Flow.next,(SharedT.mk (S5 w.params) 418 SX (Array.mk []) boot_drawn 739 os),CE,{ line:=263,col:=0,endLine:=285,endCol:=34 }):=by
 intro w; kernel_rfl
theorem JB:∀ w:World,(fun os=>topRun treeTable PySem.Challenge.pw_thirstwise_k09_texts_misread w 11 ANN 2 (SharedT.abs (SharedT.mk (S5 w.params) 418 SX (Array.mk []) boot_drawn 739 os)) (restOf (BODY.drop 48) ENV CE { line:=263,col:=0,endLine:=285,endCol:=34 } [topFrame QQ]))=fun os=>some (Shared.mk (qp w.params) (Array.mk []) boot_drawn 739 os):=by
 intro w; kernel_rfl
theorem aij (w:World) (os:OsState):topRun treeTable PySem.Challenge.pw_thirstwise_k09_texts_misread w 11 ANN (12 + (1 + (2040 + (1437 + (2))))) (Shared.mk (boot_heap w.params) (Array.mk []) boot_drawn boot_toks os) (topStub PySem.Challenge.pw_thirstwise_k09_texts_misread)=some (Shared.mk (qp w.params) (Array.mk []) boot_drawn 739 os) := go_top (congrFun (Jz w) os) (piece_block (congrFun (Dk w) os) (S6 0 17 (segRun_of (congrFun (adL w) os)) (S6 17 31 (segRun_of (congrFun (adM w) os)) (congrFun (JB w) os))))
theorem lk1:∀ w:World,(fun os=>(staticsOk (importedModules PySem.Challenge.pw_thirstwise_k09_texts_misread.main.body) (boot_heap w.params) (qp w.params) && namesBound PySem.Challenge.pw_thirstwise_k09_texts_misread (qp w.params) && gensDone (Shared.mk (qp w.params) (Array.mk []) boot_drawn 739 os) && laidKept (boot_heap w.params) (qp w.params)))=fun _=>true:=by
 intro w; kernel_rfl
theorem lk2:∀ w:World,(fun os=>openSeen view LO (importedModules PySem.Challenge.pw_thirstwise_k09_texts_misread.main.body) (fun s=>xlAt view [] s && recOk (RowW.records (OpenRow.toRowW (OpenLaw.row PySem.Challenge.rw_thirstwise_k09_texts_misread))) s) true (Shared.mk (qp w.params) (Array.mk []) boot_drawn 739 os))=fun _=>openGood view LO:=by
 intro w; kernel_rfl
theorem lk3:∀ w:World,(fun os=>Hook.obs (kHook KK addrs (fun _=>by kernel_rfl)) (Shared.mk (qp w.params) (Array.mk []) boot_drawn 739 os))=fun _=>Hook.val (kHook KK addrs (fun _=>by kernel_rfl)) w:=by
 intro w; kernel_rfl
theorem opn:∀ w:World,(fencedOpening treeTable PySem.Challenge.pw_thirstwise_k09_texts_misread w 7076).map (fun s=>(s.heap,s.gens,s.drawn,s.toks))=some (boot_heap w.params,Array.mk [],boot_drawn,boot_toks):=boot_open (by kernel_rfl) (by kernel_rfl) (fun s=>by kernel_rfl)
theorem siz:∀ w:World,((boot_heap w.params).isNs mainGlobals && (Array.mk []:Array GenState).size == 0,(boot_heap w.params).objs.size,(boot_heap w.params).nsMap mainGlobals "__annotations__")=(true,11,ANN):=by
 intro w; kernel_rfl
theorem hl:LeftO PySem.Challenge.rw_thirstwise_k09_texts_misread.row.prog view LO (fun s=>xlAt view [] s && recOk (RowW.records (OpenRow.toRowW (OpenLaw.row PySem.Challenge.rw_thirstwise_k09_texts_misread))) s) (Hook.obs (kHook KK addrs (fun _=>by kernel_rfl))) (Hook.val (kHook KK addrs (fun _=>by kernel_rfl))) 7076 := LeftO.of_pieces (p:=PySem.Challenge.pw_thirstwise_k09_texts_misread) (q:=view) (loose:=LO) (Xt:=(fun s=>xlAt view [] s && recOk (RowW.records (OpenRow.toRowW (OpenLaw.row PySem.Challenge.rw_thirstwise_k09_texts_misread))) s)) (Yf:=Hook.obs (kHook KK addrs (fun _=>by kernel_rfl))) (Ya:=Hook.val (kHook KK addrs (fun _=>by kernel_rfl))) (N:=7076) (g0:=true) (H₀:=boot_heap) (H₁:=qp) (gs₀:=Array.mk []) (gs₁:=(Array.mk [])) (d₀:=boot_drawn) (d₁:=boot_drawn) (k₀:=boot_toks) (k₁:=739) (m₀:=11) (ann:=ANN) (M:=12 + (1 + (2040 + (1437 + (2))))) opn siz aij (by kernel_rfl) (fun w=>funext fun os=>Prod.ext (congrFun (lk1 w) os) (Prod.ext (congrFun (lk2 w) os) (congrFun (lk3 w) os)))
end Tw
namespace L2
open PySem PySem.Spec PyProof.Rows
abbrev Key:=Sum Int Str
def FT:Key->au->Bool
 | .inl k,v=>Value.isInt k v
 | .inr x,v=>Value.isStrOf x v
def aik (w:World):Key->Int
 | .inl k=>hashInt k
 | .inr x=>hashStr w x
theorem eG:∀ {k:Key} {v:au},FT k v=true->(∃ i t,k=Sum.inl i/\v=Value.int i t)\/(∃ x t,k=Sum.inr x/\v=Value.str x t)
 | .inl i,v,h=>by
  obtain ⟨t,e⟩:=Value.isInt_shape (k:=i) (v:=v) h;exact .inl ⟨i,t,rfl,e⟩
 | .inr x,v,h=>by
  obtain ⟨t,e⟩:=Value.isStrOf_shape (x:=x) (v:=v) h;exact .inr ⟨x,t,rfl,e⟩
theorem Hy (x:Str) (t:Tok):FT (.inr x) (.str x t)=true:=by simp [FT,Value.isStrOf]
theorem Y4 (a b:Int):decide ((Sum.inl a:Key)=Sum.inl b)=(a == b):=by
 by_cases e:a=b
 ·subst e; simp
 ·have h:¬ (Sum.inl a:Key)=Sum.inl b:=fun q=>e (Sum.inl.inj q)
  rw [aF h];exact (beq_eq_false_iff_ne.mpr e).symm
theorem Y5 (a b:Str):decide ((Sum.inr a:Key)=Sum.inr b)=decide (a=b):=by
 by_cases e:a=b
 ·subst e; simp
 ·have h:¬ (Sum.inr a:Key)=Sum.inr b:=fun q=>e (Sum.inr.inj q)
  rw [aF h,aF e]
theorem Y6 (a:Int) (b:Str):decide ((Sum.inl a:Key)=Sum.inr b)=false:=aF (fun q=>nomatch q)
theorem Y7 (a:Str) (b:Int):decide ((Sum.inr a:Key)=Sum.inl b)=false:=aF (fun q=>nomatch q)
noncomputable def uH (prog:bT) (w:World):PySem.KeyKind prog w Key where
 is:=FT
 hash:=aik w
 inj:=fun v a b ha hb=>by
  rcases eG ha with ⟨i,t,rfl,rfl⟩ | ⟨x,t,rfl,rfl⟩
  ·rcases eG hb with ⟨j,u,rfl,e⟩ | ⟨y,u,rfl,e⟩
   ·injection e with e1 _; rw [e1]
   ·exact nomatch e
  ·rcases eG hb with ⟨j,u,rfl,e⟩ | ⟨y,u,rfl,e⟩
   ·exact nomatch e
   ·injection e with e1 _; rw [e1]
 byValue:=fun k v h=>by
  rcases eG h with ⟨i,t,rfl,rfl⟩ | ⟨x,t,rfl,rfl⟩ <;> rfl
 pyHash:=fun hv h=>by
  rcases eG hv with ⟨i,t,rfl,rfl⟩ | ⟨x,t,rfl,rfl⟩
  ·exact wpAny_pyHash_int h
  ·exact wpAny_pyHash_str h
 eqBool:=fun hu hv h=>by
  rcases eG hu with ⟨i,t,rfl,rfl⟩ | ⟨x,t,rfl,rfl⟩
  ·rcases eG hv with ⟨j,u,rfl,rfl⟩ | ⟨y,u,rfl,rfl⟩
   ·rw [Y4] at h; exact wpAny_eqBool_int h
   ·rw [Y6] at h; exact SeqAt.EqAt.int_str i t y u _ _ _ _ h
  ·rcases eG hv with ⟨j,u,rfl,rfl⟩ | ⟨y,u,rfl,rfl⟩
   ·rw [Y7] at h; exact SeqAt.EqAt.str_int x t j u _ _ _ _ h
   ·rw [Y5] at h; exact wpAny_eqBool_str h
 «strs»:=fun k x t v h=>by
  rcases eG h with ⟨i,u,rfl,e⟩ | ⟨y,u,rfl,e⟩
  ·exact nomatch e
  ·injection e with e1 _
   subst e1;cases v <;> rfl
theorem tX (prog:bT) (w:World) (x:Str) (t:Tok):(uH prog w).is (.inr x) (.str x t)=true:=Hy x t
inductive V where
 | non | bl (b:Bool) | int (i:Int) | str (x:Str) | FW (b:Array UInt8) | flt (b:UInt64) | ref (a:aA) | ty (n:String)
 deriving DecidableEq
noncomputable def RelV:V->au->Prop
 | .non,u=>u=Value.none
 | .bl b,u=>u=Value.bool b
 | .int i,u=>∃ t,u=Value.int i t
 | .str x,u=>∃ t,u=Value.str x t
 | .FW b,u=>∃ t,u=Value.bytes b t
 | .flt b,u=>∃ t,u=Value.float b t
 | .ref a,u=>u=Value.ref a
 | .ty n,u=>u=Value.type n
abbrev Vals:List V->List au->Prop:=Paired RelV
theorem Vals.length {xs:List V} {us:List au} (r:Vals xs us):xs.length=us.length:=Paired.length r
theorem Vals.get:∀ {xs:List V} {us:List au} {i:Nat} {x:V},Vals xs us->xs[i]?=some x->∃ u,us[i]?=some u/\RelV x u
 | _,_,_,_,.nil,e=>by simp at e
 | _,_,0,_,.cons r _,e=>by simp at e; subst e; exact ⟨_,rfl,r⟩
 | _,_,i + 1,x,.cons _ t,e=>by
  obtain ⟨u,h1,h2⟩:=Vals.get (i:=i) (x:=x) t (by simpa using e);exact ⟨u,by simpa using h1,h2⟩
theorem Vals.append:∀ {xs ys:List V} {us ws:List au},Vals xs us->Vals ys ws->Vals (xs++ys) (us++ws)
 | _,_,_,_,.nil,s=>s
 | _,_,_,_,.cons r t,s=>.cons r (Vals.append t s)
theorem Vals.take:∀ {xs:List V} {us:List au} (n:Nat),Vals xs us->Vals (xs.take n) (us.take n)
 | _,_,0,_=>.nil
 | _,_,_ + 1,.nil=>.nil
 | _,_,n + 1,.cons r t=>.cons r (Vals.take n t)
theorem Vals.drop:∀ {xs:List V} {us:List au} (n:Nat),Vals xs us->Vals (xs.drop n) (us.drop n)
 | _,_,0,r=>r
 | _,_,_ + 1,.nil=>.nil
 | _,_,n + 1,.cons _ t=>Vals.drop n t
theorem Vals.none_of:∀ {xs:List V} {us:List au} {i:Nat},Vals xs us->xs[i]?=none->us[i]?=none:=fun {xs us i} r e=>by
 have h1:=r.length;have h2:xs.length<=i:=List.getElem?_eq_none_iff.mp e;exact List.getElem?_eq_none_iff.mpr (by omega)
def uR:Option V->Option au->Prop
 | some v,some u=>RelV v u
 | none,none=>True
 | _,_=>False
def KV {κ:Type}:List (κ × V)->List (κ × au)->Prop:=Paired fun (p:κ × V) (q:κ × au)=>p.1=q.1/\RelV p.2 q.2
def kV:Key->V
 | .inl i=>.int i
 | .inr x=>.str x
inductive HO where
 | lst (xs:List V)
 | tup (xs:List V)
 | dK (kvs:List (Key × V)) | dT (kvs:List (List Key × V))
 | set (S:Int->Bool) (n:Nat)
 | ins (C dx:aA) (fs:List (Str × V))
 | own (x:aA)
 | xd (fs:List (Str × V))
 | met (f x:aA)
 | rng (lo hi:Int)
 | Ai (o:Obj) (u:HO)
 | S7 (ps:Array au)
 | ext (φ:Heap->Prop)
abbrev Hp:=aA->Option HO
def upd (H:Hp) (a:aA) (o:HO):Hp:=fun b=>if b=a then some o else H b
theorem aC {H:Hp} {a:aA} {o:HO}:upd H a o a=some o:=by unfold upd; rw [if_pos rfl]
theorem bx {H:Hp} {a b:aA} {o:HO} (h:b≠a):upd H a o b=H b:=by unfold upd; rw [if_neg h]
theorem lJ {H:Hp} {a:aA} {o u:HO}:upd (upd H a o) a u=upd H a u:=by
 funext b; unfold upd; split <;> rfl
theorem S8 {H:Hp} {a b:aA} {o u:HO} (h:H a=some o) (h':H b=some u) (d:o≠u):a≠b:=by
 intro e; subst e; rw [h] at h'; exact d (bY h')
theorem cZ {H:Hp} {a b:aA} {o:HO} (h:H a=some o) (h':H b=none):a≠b:=by
 intro e; subst e; rw [h] at h'; cases h'
section
variable (P:bT) (w:World)
noncomputable def dJ (H:Hp) (h:Heap) (a:aA):HO->Prop
 | .lst xs=>xs.length<=sizeLine/\∃ (its:List au) (n:Nat),Vals xs its/\h.get? a=some { cls:=.type "list",data:=.seq its.toArray n }
 | .tup xs=>xs.length<=sizeLine/\∃ its:List au,Vals xs its/\IsTup h a its.toArray
 | .dK kvs=>kvs.length<=sizeLine/\(a == sysModules)=false/\∃ vs,KV kvs vs/\h.DictOf (uH P w) a vs
 | .dT kvs=>kvs.length<=sizeLine/\(a == sysModules)=false/\∃ xs:List (List Key × aA × au),Paired (fun (p:List Key × V) (q:List Key × aA × au)=>p.1=q.1/\H q.2.1=some (.tup (p.1.map kV))/\RelV p.2 q.2.2) kvs xs /\ ∃ o es ep,h.get? a=some o/\o.ExactDict/\o.data=.dict es ep/\es.toList=xs.map (entryOfKey (tupleKind (uH P w)))/\(xs.map (·.1)).Nodup
 | .set S n=>h.SetOf (intKind P w) a S n
 | .ins C dx fs=>H dx=some (.own a)/\fs.length<=1000/\dx≠a/\h.get? a=some (instObj C dx) /\ ∃ mA,h.Ns1 dx mA/\(∀ f,uR (fs.lookup f) (mA f))/\PySem.Within mA (fs.map (·.1))
 | .own _=>∃ o,h.get? a=some o
 | .xd fs=>∃ mA,h.Ns1 a mA/\∀ f,uR (fs.lookup f) (mA f)
 | .rng lo hi=>∃ t u v,h.get? a=some { cls:=.type "range",data:=.fields #[.int lo t,.int hi u,.int 1 v] }
 | .Ai o u=>h.get? a=some o/\dJ H h a u
 | .S7 ps=>h.get? a=some { cls:=.none,data:=.fields ps }
 | .met f x=>h.get? a=some (methodObj (.ref f) (.ref x))
 | .ext φ=>φ h/\(∃ o,h.get? a=some o)/\∀ h1 h2:Heap,φ h1->(∀ o,h1.get? a=some o->h2.get? a=some o)->φ h2
def qP (H:Hp) (h:Heap):Prop:=∀ a o,H a=some o->dJ P w H h a o
end
section
variable {P:bT} {w:World} {H H':Hp} {h h':Heap} {a:aA} {o:HO}
theorem dJ.lt (x:dJ P w H h a o):a < h.objs.size:=by
 cases o with
 | lst xs=>obtain ⟨_,_,_,_,e⟩:=x; exact Heap.lt_size e
 | tup xs=>obtain ⟨_,_,_,p⟩:=x; exact p.lt
 | dK kvs=>obtain ⟨_,_,_,_,o,_,_,e,_⟩:=x; exact Heap.lt_size e
 | dT kvs=>obtain ⟨_,_,_,_,o,_,_,e,_⟩:=x; exact Heap.lt_size e
 | set S n=>obtain ⟨o,_,_,_,e,_⟩:=x; exact Heap.lt_size e
 | ins C dx fs=>obtain ⟨_,_,_,e,_⟩:=x; exact Heap.lt_size e
 | own y=>obtain ⟨_,e⟩:=x; exact Heap.lt_size e
 | xd fs=>obtain ⟨_,⟨_,_,_,e,_⟩,_⟩:=x; exact Heap.lt_size e
 | rng lo hi=>obtain ⟨_,_,_,e⟩:=x; exact Heap.lt_size e
 | Ai ob u=>obtain ⟨e,_⟩:=x; exact Heap.lt_size e
 | S7 ps=>exact Heap.lt_size (show h.get? a=some _ from x)
 | met f y=>exact Heap.lt_size (show h.get? a=some _ from x)
 | ext φ=>obtain ⟨_,⟨_,e⟩,_⟩:=x; exact Heap.lt_size e
theorem Paired.mX {α β:Type} {F G:α->β->Prop}:∀ {l₁:List α} {l₂:List β},Paired F l₁ l₂->(∀ a b,F a b->G a b)->Paired G l₁ l₂
 | _,_,.nil,_=>.nil
 | _,_,.cons r t,f=>.cons (f _ _ r) (Paired.mX t f)
theorem dJ.stay (x:dJ P w H h a o) (k:∀ b u,(b=a\/H b=some (.own a))->h.get? b=some u->h'.get? b=some u) (ho:∀ b,H b=some (.own a)->H' b=some (.own a)) (ht:∀ b xs,H b=some (.tup xs)->H' b=some (.tup xs)):dJ P w H' h' a o:=by
 induction o with
 | lst xs=>obtain ⟨z,its,n,r,e⟩:=x; exact ⟨z,its,n,r,k _ _ (.inl rfl) e⟩
 | tup xs=>obtain ⟨z,its,r,ob,e,c⟩:=x; exact ⟨z,its,r,ob,k _ _ (.inl rfl) e,c⟩
 | dK kvs=>obtain ⟨z,y,vs,r,ob,es,ep,e,c⟩:=x; exact ⟨z,y,vs,r,ob,es,ep,k _ _ (.inl rfl) e,c⟩
 | dT kvs =>
  obtain ⟨z,y,xs,r,ob,es,ep,e,c⟩:=x;exact ⟨z,y,xs,Paired.mX r fun p q z=>⟨z.1,ht _ _ z.2.1,z.2.2⟩,ob,es,ep,k _ _ (.inl rfl) e,c⟩
 | set S n=>obtain ⟨ob,es,ep,t,e,c⟩:=x; exact ⟨ob,es,ep,t,k _ _ (.inl rfl) e,c⟩
 | ins C dx fs =>
  obtain ⟨d,z,ne,e,mA,⟨od,es,ep,e2,c⟩,r⟩:=x;exact ⟨ho _ d,z,ne,k _ _ (.inl rfl) e,mA,⟨od,es,ep,k _ _ (.inr d) e2,c⟩,r⟩
 | own y=>obtain ⟨ob,e⟩:=x; exact ⟨ob,k _ _ (.inl rfl) e⟩
 | xd fs=>obtain ⟨mA,⟨od,es,ep,e,c⟩,r⟩:=x; exact ⟨mA,⟨od,es,ep,k _ _ (.inl rfl) e,c⟩,r⟩
 | rng lo hi=>obtain ⟨t,u,v,e⟩:=x; exact ⟨t,u,v,k _ _ (.inl rfl) e⟩
 | Ai ob u ih=>obtain ⟨e,q⟩:=x; exact ⟨k _ _ (.inl rfl) e,ih q⟩
 | S7 ps =>
  have e:h.get? a=some { cls:=.none,data:=.fields ps }:=x
  show h'.get? a=some { cls:=.none,data:=.fields ps }
  exact k a _ (.inl rfl) e
 | met f y =>
  have e:h.get? a=some (methodObj (.ref f) (.ref y)):=x
  show h'.get? a=some (methodObj (.ref f) (.ref y))
  exact k a _ (.inl rfl) e
 | ext φ=>obtain ⟨p,⟨o,e⟩,st⟩:=x; exact ⟨st _ _ p fun o q=>k _ _ (.inl rfl) q,⟨o,k _ _ (.inl rfl) e⟩,st⟩
theorem qP.lt (x:qP P w H h) (e:H a=some o):a < h.objs.size:=(x a o e).lt
theorem qP.fresh (x:qP P w H h) (e:h.objs.size<=a):H a=none:=by
 cases q:H a with
 | none=>rfl
 | some u=>exact absurd (aU (x.lt q) e) (cV _)
theorem qP.kept (x:qP P w H h) (k:∀ b u,h.get? b=some u->h'.get? b=some u):qP P w H h':=fun a o e =>
 (x a o e).stay (fun b u _ q=>k b u q) (fun _ q=>q) fun _ _ q=>q
theorem qP.laid (x:qP P w H h) (k:∀ b u,h.get? b=some u->h'.get? b=some u) (hp:h.objs.size<=a) (new:dJ P w (upd H a o) h' a o):qP P w (upd H a o) h':=fun b u e=>by
 have hn:=x.fresh hp
 by_cases hb:b=a
 ·subst hb; rw [aC] at e; cases e; exact new
 ·rw [bx hb] at e;exact (x b u e).stay (fun c v _ q=>k c v q) (fun c q=>by rw [bx (cZ q hn)]; exact q) fun c xs q=>by rw [bx (cZ q hn)]; exact q
end
def Rd (H:Hp) (a:aA) (u:HO):Prop:=H a=some u\/∃ o,H a=some (.Ai o u)
theorem Rd.ok {P:bT} {w:World} {H:Hp} {h:Heap} {a:aA} {u:HO} (r:Rd H a u) (x:qP P w H h):dJ P w H h a u:=by
 rcases r with r | ⟨o,r⟩
 ·exact x a u r
 ·obtain ⟨_,q⟩:=x a _ r;exact q
def Mut:Option HO->Prop
 | some (.lst _)=>True
 | some (.dK _)=>True
 | some (.dT _)=>True
 | some (.set _ _)=>True
 | some (.ins _ _ _)=>True
 | some (.ext _)=>True
 | _=>False
section
variable {P:bT} {w:World} {H:Hp} {h h':Heap} {x e:aA} {o':HO}
theorem qP.write (ok:qP P w H h) (mu:Mut (H x)) (he:e=x\/H e=some (.own x)) (k:∀ b u,b≠e->h.get? b=some u->h'.get? b=some u) (heo:∃ u,h'.get? e=some u) (new:dJ P w (upd H x o') h' x o'):qP P w (upd H x o') h':=fun b u q=>by
 have adN:∀ c y,H c=some (.own y)->c≠x:=fun c y r z=>by subst z; rw [r] at mu; exact mu
 have ail:∀ c xs,H c=some (.tup xs)->c≠x:=fun c xs r z=>by subst z; rw [r] at mu; exact mu
 by_cases hb:b=x
 ·subst hb; rw [aC] at q; cases q; exact new
 ·rw [bx hb] at q
  by_cases hbe:b=e
  ·have q':H b=some (.own x):=by
    rcases he with z | z
    ·exact absurd (hbe.trans z) hb
    ·rw [hbe]; exact z
   rw [q] at q'; cases q';obtain ⟨v,hv⟩:=heo;exact ⟨v,by rw [hbe]; exact hv⟩
  ·refine (ok b u q).stay (fun c v hc r=>k c v ?_ r) (fun c r=>by rw [bx (adN c b r)]; exact r) fun c xs r=>by rw [bx (ail c xs r)]; exact r
   rcases hc with rfl | hc
   ·exact hbe
   ·rintro rfl;rcases he with z | z
    ·exact adN c b hc z
    ·rw [hc] at z; cases z; exact hb rfl
end
structure Un (fs ex:List aA) (H H':Hp) (h h':Heap):Prop where
 keep:∀ b o,h.get? b=some o->H b=none->b ∉ fs->b ∉ ex->h'.get? b=some o
 slot:∀ b o,h.get? b=some o->H b=none->b ∈ fs->b ∉ ex->∃ sl,h'.get? b=some { o with slots:=sl }
 free:∀ b o,h.get? b=some o->H b=none->b ∉ ex->H' b=none
 there:∀ b o,h.get? b=some o->b ∉ ex->∃ o',h'.get? b=some o'
 tups:∀ b xs,H b=some (.tup xs)->H' b=some (.tup xs)
 uy:∀ b o u,H b=some (.Ai o u)->H' b=some (.Ai o u)
 uT:∀ b ps,H b=some (.S7 ps)->∃ more,H' b=some (.S7 (ps++more))
section
variable {fs fs' ex ex':List aA} {H H1 H2:Hp} {h h1 h2 h':Heap} {a x e:aA} {o:HO}
theorem Un.any (u:Un fs ex H H1 h h1) {b:aA} {ob:Obj} (q:h.get? b=some ob) (n:H b=none) (hx:b ∉ ex):∃ sl,h1.get? b=some { ob with slots:=sl }:=by
 by_cases hb:b ∈ fs
 ·exact u.slot b ob q n hb hx
 ·exact ⟨ob.slots,u.keep b ob q n hb hx⟩
theorem Un.kept (k:∀ b u,h.get? b=some u->h'.get? b=some u):Un fs ex H H h h' := ⟨fun b ob q _ _ _=>k b ob q,fun b ob q _ _ _=>⟨ob.slots,k b ob q⟩,fun _ _ _ n _=>n,fun b ob q _=>⟨ob,k b ob q⟩,fun _ _ q=>q,fun _ _ _ q=>q,fun _ ps q=>⟨#[],by rw [q]; simp⟩⟩
theorem Un.refl:Un fs ex H H h h:=Un.kept fun _ _ q=>q
theorem Un.laid (k:∀ b u,h.get? b=some u->h'.get? b=some u) (hp:h.objs.size<=a) (hn:H a=none):Un fs ex H (upd H a o) h h' where
 keep:=fun b u q _ _ _=>k b u q
 slot:=fun b u q _ _ _=>⟨u.slots,k b u q⟩
 free:=fun b u q n _=>by rw [bx (Nat.ne_of_lt (aU (Heap.lt_size q) hp))]; exact n
 there:=fun b u q _=>⟨u,k b u q⟩
 tups:=fun b xs q=>by rw [bx (cZ q hn)]; exact q
 uy:=fun b u xs q=>by rw [bx (cZ q hn)]; exact q
 uT:=fun b ps q=>⟨#[],by rw [bx (cZ q hn),q]; simp⟩
theorem Un.write (mu:Mut (H x)) (he:e=x\/H e=some (.own x)) (k:∀ b u,b≠e->h.get? b=some u->h'.get? b=some u) (heo:∃ u,h'.get? e=some u):Un fs ex H (upd H x o) h h':=by
 have hx:∀ b,H b=none->b≠x:=fun b n z=>by subst z; rw [n] at mu; exact mu
 have hb:∀ b,H b=none->b≠e:=fun b n z=>by
  subst z;rcases he with r | r
  ·exact hx b n r
  ·rw [n] at r; cases r
 have hm:∀ b u,H b=some u->¬ Mut (some u)->b≠x:=fun b u q nm z=>by subst z; rw [q] at mu; exact nm mu
 refine ⟨fun b u q n _ _=>k b u (hb b n) q,fun b u q n _ _=>⟨u.slots,k b u (hb b n) q⟩,fun b u q n _=>by rw [bx (hx b n)]; exact n,fun b u q _=>?_,fun b xs q=>by rw [bx (hm b _ q fun z=>z)]; exact q,fun b u xs q=>by rw [bx (hm b _ q fun z=>z)]; exact q,fun b ps q=>⟨#[],by rw [bx (hm b _ q fun z=>z),q]; simp⟩⟩
 by_cases hbe:b=e
 ·subst hbe; exact heo
 ·exact ⟨u,k b u hbe q⟩
end
def trk (h:Heap) (H:Hp):List aA:=(List.range h.objs.size).filter fun a=>(H a).isSome
def yP (h:Heap) (H:Hp):Heap:=PySem.W.hideAll h (trk h H)
theorem Hz (h:Heap) (H:Hp):(yP h H).objs.size=h.objs.size:=PySem.W.hideAll_size _ _
theorem JC {h:Heap} {H:Hp} {b:aA} {o:Obj} (e:h.get? b=some o) (n:H b=none):(yP h H).get? b=some o := PySem.W.hideAll_get _ e fun hm=>by
 have q:(H b).isSome=true:=(mem_filter.mp hm).2;rw [n] at q; simp at q
theorem Qj {h:Heap} {H:Hp} {b:aA} {o:Obj} (e:(yP h H).get? b=some o):h.get? b=some o/\H b=none:=by
 have e':h.get? b=some o:=PySem.W.of_hideAll (trk h H) e;refine ⟨e',?_⟩;cases q:H b with
 | none=>rfl
 | some x =>
  have hm:b ∈ trk h H:=mem_filter.mpr ⟨mem_range.mpr (Heap.lt_size e'),by simp [q]⟩;have z:(yP h H).get? b=none:=PySem.W.hideAll_none (trk h H) hm;rw [z] at e; cases e
structure Mod (K:Fg) (mg:Str->Option au) (base:Heap):Prop where
 wW:K.In base
 glob:base.Ns mainGlobals mg
 blt:∃ mb,base.Ns builtinsNs mb/\∀ x:Str,x≠"__name__"->mb x=bootBuiltins x
 nolimit:base.NoLimit
structure Cx where
 prog:bT
 w:World
 K:Fg
 mg:Str->Option au
 base:Heap
 A:cL
 N:List Str
 s₀:aG
 H₀:Hp
 env:Env
 outer:List Env
 stack:List Env
 ex:List aA
 fn:Str->Bool
 calm:Bool
 pn:List (aA × Obj)
 xe:au->aG->Prop
def frs (l:List Env):List aA:=l.filterMap (·.frame)
abbrev Cx.fs (X:Cx):List aA:=frs X.outer
def Vis (sc:Scope) (x:Str):Prop:=sc.names.lookup x=some .local\/sc.names.lookup x=some .cell\/sc.names.lookup x=some .free
def Loc (sc:Scope) (x:Str):Prop:=sc.names.lookup x=some .local\/sc.names.lookup x=some .cell
noncomputable def Look (env:Env) (h:Heap) (m:Str->Option au) (x:Str) (u:au):Prop := (env.kindOf x=some .local/\m x=some u)\/((env.kindOf x=some .cell\/env.kindOf x=some .free)/\∃ c,env.cells.lookup x=some c/\h.IsCell c (some u))
structure Cx.Ok (X:Cx):Prop where
 mod:Mod X.K X.mg X.base
 kind:X.env.scope.kind=.function
 glob:X.env.globals=mainGlobals
 blt:X.env.builtins=builtinsNs
 above:X.s₀.heap.objs.size<=X.env.locals
 inj:∀ x y c,X.env.cells.lookup x=some c->X.env.cells.lookup y=some c->x=y
 has:∀ x,(X.env.kindOf x=some .cell\/X.env.kindOf x=some .free)->∃ c,X.env.cells.lookup x=some c
 cab:∀ x c,X.fn x=true->X.env.cells.lookup x=some c->X.s₀.heap.objs.size<=c
 hd:X.calm=true->X.A.handled=none
 frames:X.A.frames=some X.stack
 stk:X.stack=X.outer\/(X.stack=X.env::X.outer/\X.env.frame=some X.env.locals)
 exf:∀ b ∈ X.ex,b≠X.env.locals/\∀ x c,X.env.cells.lookup x=some c->c≠b
 bs:∀ b o,X.base.get? b=some o->X.s₀.heap.get? b=some o/\X.H₀ b=none
 HB:X.base.objs.size<=X.s₀.heap.objs.size
 Dm:∀ b o,X.base.get? b=some o->b ∉ X.ex
 HD:∀ b ∈ X.ex,b ∉ X.fs
 o9:X.s₀.heap.FunFrames X.base X.outer
 Og:∀ b ∈ X.fs,X.H₀ b=none
structure Inv (X:Cx) (pins:List (aA × Obj)) (σ:List (Option V)) (H:Hp) (s:aG):Prop where
 ok:X.Ok
 os:s.os=X.s₀.os
 bare:AllBare s.gens
 base:Un X.fs X.ex X.H₀ H X.s₀.heap s.heap
 loc:∃ m,s.heap.Ns X.env.locals m/\∀ (i:Nat) (x:Str) (v:V),X.N[i]?=some x->σ[i]?=some (some v)->Vis X.env.scope x->∃ u,RelV v u/\Look X.env s.heap m x u
 cell:∀ x c,X.env.cells.lookup x=some c->∃ v,s.heap.IsCell c v
 free:H X.env.locals=none
 gJ:∀ x c,X.env.cells.lookup x=some c->H c=none
 pin:∀ p ∈ X.pn++pins,s.heap.get? p.1=some p.2/\H p.1=none/\p.1≠X.env.locals/\p.1 ∉ X.fs/\∀ v,p.2.data≠.cell v
 hok:qP X.prog X.w H s.heap
 len:σ.length=X.N.length
section
variable {X:Cx} {pins:List (aA × Obj)} {σ:List (Option V)} {H H':Hp} {s:aG} {h':Heap}
theorem Cx.Ok.aio (ok:X.Ok) {b:aA} {o:Obj} (e:X.base.get? b=some o):b ∉ X.fs:=fun hb=>by
 have:=(ok.o9.mem hb).1;rw [e] at this; cases this
theorem Inv.bs (I:Inv X pins σ H s):∀ b o,X.base.get? b=some o->s.heap.get? b=some o/\H b=none:=fun b o e =>
 ⟨I.base.keep b o (I.ok.bs b o e).1 (I.ok.bs b o e).2 (I.ok.aio e) (I.ok.Dm b o e),I.base.free b o (I.ok.bs b o e).1 (I.ok.bs b o e).2 (I.ok.Dm b o e)⟩
theorem Inv.bk (I:Inv X pins σ H s):∀ b o,X.base.get? b=some o->s.heap.get? b=some o:=fun b o e=>(I.bs b o e).1
theorem Inv.mod (I:Inv X pins σ H s):Mod X.K X.mg X.base:=I.ok.mod
theorem Inv.jM (I:Inv X pins σ H s):X.K.In s.heap:=I.ok.mod.wW.keeps I.bk
theorem Inv.fr (I:Inv X pins σ H s):∃ m,Fr X.base X.env.locals s.heap m := let ⟨m,hn,_⟩:=I.loc
 ⟨m,hn,I.bk,bA I.ok.HB I.ok.above⟩
theorem Inv.lt (I:Inv X pins σ H s):X.env.locals < s.heap.objs.size:=let ⟨_,hn,_⟩:=I.loc; hn.lt
theorem Inv.sz (I:Inv X pins σ H s):X.s₀.heap.objs.size<=s.heap.objs.size:=bA I.ok.above (Nat.le_of_lt I.lt)
theorem Inv.aip (I:Inv X pins σ H s) {a:aA} (h:s.heap.objs.size<=a):a ∉ X.fs:=fun hb=>by
 obtain ⟨_,o,ho,_⟩:=I.ok.o9.mem hb;exact absurd (aU (Heap.lt_size ho) (bA I.sz h)) (cV _)
theorem Inv.S9 (I:Inv X pins σ H s):∀ x c,X.env.cells.lookup x=some c->c≠X.env.locals:=fun x c e z=>by
 obtain ⟨v,o,ho,hd⟩:=I.cell x c e;obtain ⟨m,⟨o',es,ep,ho',hd',_⟩,_⟩:=I.loc;rw [z,ho'] at ho; cases ho; rw [hd'] at hd; cases hd
theorem Inv.o9 (I:Inv X pins σ H s):s.heap.FunFrames X.base X.outer:=by
 have all:∀ (l:List Env),(∀ b ∈ frs l,b ∈ X.fs)->X.s₀.heap.FunFrames X.base l->s.heap.FunFrames X.base l:=by
  intro l
  induction l with
  | nil=>intro _ _; trivial
  | cons env r ih =>
   intro hs hl;obtain ⟨hk,⟨L,o,hf,hn,ho,hd⟩,hr⟩:=hl;have hL:L ∈ X.fs:=hs L (by unfold frs; rw [List.filterMap_cons,hf]; exact mem_cons_self);obtain ⟨sl,e⟩:=I.base.slot L o ho (I.ok.Og L hL) hL fun z=>I.ok.HD L z hL
   exact ⟨hk,⟨L,_,hf,hn,e,hd⟩,ih (fun b hb=>hs b (by unfold frs; rw [List.filterMap_cons,hf]; exact mem_cons_of_mem _ hb)) hr⟩
 exact all X.outer (fun _ hb=>hb) I.ok.o9
theorem Inv.stack (I:Inv X pins σ H s):s.heap.FunFrames X.base X.stack:=by
 rcases I.ok.stk with e | ⟨e,hf⟩
 ·rw [e]; exact I.o9
 ·rw [e];obtain ⟨m,hn,_⟩:=I.loc;refine .cons (by rw [I.ok.kind]; decide) hf hn ?_ I.o9;exact Heap.get?_none_of_le (bA I.ok.HB I.ok.above)
theorem Inv.qQ (I:Inv X pins σ H s):∀ b ∈ frs X.stack,b ∈ X.env.locals::X.fs:=fun b hb=>by
 rcases I.ok.stk with e | ⟨e,hf⟩
 ·rw [e] at hb; exact mem_cons_of_mem _ hb
 ·rw [e] at hb;unfold frs at hb;rw [List.filterMap_cons,hf] at hb;exact hb
theorem Inv.yQ (I:Inv X pins σ H s):∀ b ∈ frs X.stack,H b=none:=fun b hb=>by
 rcases aK.mp (I.qQ b hb) with e | hb
 ·rw [e]; exact I.free
 ·obtain ⟨_,o,ho,_⟩:=I.ok.o9.mem hb;exact I.base.free b o ho (I.ok.Og b hb) fun z=>I.ok.HD b z hb
theorem Inv.step {g':Array GenState} {t':Nat} {d':Drawn} {ch:List aA} (I:Inv X pins σ H s) (hch:∀ b ∈ ch,(b ∈ X.ex\/X.s₀.heap.objs.size<=b)/\b≠X.env.locals/\(∀ x c,X.env.cells.lookup x=some c->c≠b)/\∀ p ∈ X.pn++pins,p.1≠b) (keep:∀ b o,b≠X.env.locals->b ∉ X.fs->b ∉ ch->s.heap.get? b=some o->H b=none->h'.get? b=some o) (slot:∀ b o,b≠X.env.locals->b ∈ X.fs->b ∉ ch->s.heap.get? b=some o->H b=none->∃ sl,h'.get? b=some { o with slots:=sl }) (free:∀ b o,b ∉ ch->s.heap.get? b=some o->H b=none->H' b=none) (there:∀ b o,b ∉ ch->s.heap.get? b=some o->∃ o',h'.get? b=some o') (tups:∀ b xs,H b=some (.tup xs)->H' b=some (.tup xs)) (uy:∀ b o u,H b=some (.Ai o u)->H' b=some (.Ai o u)) (uT:∀ b ps,H b=some (.S7 ps)->∃ more,H' b=some (.S7 (ps++more))) (ns:∀ m,s.heap.Ns X.env.locals m->h'.Ns X.env.locals m) (hok:qP X.prog X.w H' h') (hg:AllBare g') : Inv X pins σ H' { s with heap:=h',gens:=g',drawn:=d',toks:=t' }:=by
 have Tc:∀ b o,X.s₀.heap.get? b=some o->b≠X.env.locals:=fun b o e=>Nat.ne_of_lt (aU (Heap.lt_size e) I.ok.above)
 have Te:∀ b o,X.s₀.heap.get? b=some o->b ∉ X.ex->b ∉ ch:=fun b o e hx hb=>by
  rcases (hch b hb).1 with z | z
  ·exact hx z
  ·exact absurd (aU (Heap.lt_size e) z) (cV _)
 have cellK:∀ x c,X.env.cells.lookup x=some c->∀ v,s.heap.IsCell c v->h'.IsCell c v:=fun x c e v ⟨o,ho,hd⟩=>by
  have JD:c ∉ ch:=fun z=>(hch c z).2.2.1 x c e rfl
  by_cases hc:c ∈ X.fs
  ·obtain ⟨sl,q⟩:=slot c o (I.S9 x c e) hc JD ho (I.gJ x c e);exact ⟨_,q,hd⟩
  ·exact ⟨o,keep c o (I.S9 x c e) hc JD ho (I.gJ x c e),hd⟩
 refine ⟨I.ok,I.os,hg,⟨fun b o e n hb hx=>?_,fun b o e n hb hx=>?_,fun b o e n hx=>?_,fun b o e hx=>?_,fun b xs e=>tups b xs (I.base.tups b xs e),fun b o xs e=>uy b o xs (I.base.uy b o xs e),fun b ps e=>?_⟩,?_,fun x c e=>?_,?_,fun x c e=>?_,fun p hp=>?_,hok,I.len⟩
 ·exact keep b o (Tc b o e) hb (Te b o e hx) (I.base.keep b o e n hb hx) (I.base.free b o e n hx)
 ·obtain ⟨sl,e1⟩:=I.base.slot b o e n hb hx;obtain ⟨sl',e2⟩:=slot b _ (Tc b o e) hb (Te b o e hx) e1 (I.base.free b o e n hx);exact ⟨sl',e2⟩
 ·obtain ⟨o',e1⟩:=I.base.there b o e hx;exact free b o' (Te b o e hx) e1 (I.base.free b o e n hx)
 ·obtain ⟨o',e1⟩:=I.base.there b o e hx;exact there b o' (Te b o e hx) e1
 ·obtain ⟨m1,e1⟩:=I.base.uT b ps e;obtain ⟨m2,e2⟩:=uT b _ e1;exact ⟨m1++m2,by rw [e2,Array.append_assoc]⟩
 ·obtain ⟨m,hn,hl⟩:=I.loc;refine ⟨m,ns m hn,fun i x v e1 e2 e3=>?_⟩;obtain ⟨u,r,l⟩:=hl i x v e1 e2 e3;refine ⟨u,r,?_⟩;rcases l with l | ⟨k,c,e,z⟩
  ·exact .inl l
  ·exact .inr ⟨k,c,e,cellK x c e _ z⟩
 ·obtain ⟨v,z⟩:=I.cell x c e;exact ⟨v,cellK x c e v z⟩
 ·obtain ⟨m,⟨o,_,_,ho,_⟩,_⟩:=I.loc;exact free _ o (fun z=>(hch _ z).2.1 rfl) ho I.free
 ·obtain ⟨v,o,ho,hd⟩:=I.cell x c e;exact free c o (fun z=>(hch c z).2.2.1 x c e rfl) ho (I.gJ x c e)
 ·obtain ⟨e,n,ne,nf,d⟩:=I.pin p hp;have JD:p.1 ∉ ch:=fun z=>(hch p.1 z).2.2.2 p hp rfl
  exact ⟨keep p.1 p.2 ne nf JD e n,free p.1 p.2 JD e n,ne,nf,d⟩
theorem Inv.un {t':Nat} (I:Inv X pins σ H s) (u:Un X.fs [] H H' s.heap h') (hok:qP X.prog X.w H' h'):Inv X pins σ H' { s with heap:=h',toks:=t' }:=by
 obtain ⟨m,⟨o,es,ep,ho,r⟩,_⟩:=id I.loc;obtain ⟨sl,hL⟩:=u.any ho I.free (by simp);exact I.step (g':=s.gens) (d':=s.drawn) (ch:=[]) (fun _ z=>nomatch z) (fun b o _ hb _ e n=>u.keep b o e n hb (by simp)) (fun b o _ hb _ e n=>u.slot b o e n hb (by simp)) (fun b o _ e n=>u.free b o e n (by simp)) (fun b o _ e=>u.there b o e (by simp)) u.tups u.uy u.uT (fun m' hm=>by
  obtain ⟨o',es',ep',ho',r'⟩:=hm;rw [ho] at ho'; cases ho';exact ⟨_,es',ep',hL,r'⟩) hok I.bare
theorem Inv.call {g':Array GenState} {t':Nat} {d':Drawn} {ch:List aA} (I:Inv X pins σ H s) (u:Un (frs X.stack) ch H H' s.heap h') (hok:qP X.prog X.w H' h') (hg:AllBare g') (hch:∀ b ∈ ch,(b ∈ X.ex\/X.s₀.heap.objs.size<=b)/\b≠X.env.locals/\(∀ x c,X.env.cells.lookup x=some c->c≠b)/\∀ p ∈ X.pn++pins,p.1≠b) : Inv X pins σ H' { s with heap:=h',gens:=g',drawn:=d',toks:=t' }:=by
 obtain ⟨m,⟨o,es,ep,ho,r⟩,_⟩:=id I.loc;obtain ⟨sl,hL⟩:=u.any ho I.free fun z=>(hch _ z).2.1 rfl
 exact I.step (ch:=ch) hch (fun b o hL hb hc e n=>u.keep b o e n (fun z=>(aK.mp (I.qQ b z)).elim hL hb) hc) (fun b o _ _ hc e n=>u.any e n hc) (fun b o hc e n=>u.free b o e n hc) (fun b o hc e=>u.there b o e hc) u.tups u.uy u.uT (fun m' hm=>by
  obtain ⟨o',es',ep',ho',r'⟩:=hm;rw [ho] at ho'; cases ho';exact ⟨_,es',ep',hL,r'⟩) hok hg
theorem Inv.turned {t':Nat} {it:aA} (I:Inv X pins σ H s) (k:∀ b o,b≠it->s.heap.get? b=some o->h'.get? b=some o) (hn:H it=none) (hL:it≠X.env.locals) (h1:it ∈ X.ex\/X.s₀.heap.objs.size<=it) (h2:∀ x c,X.env.cells.lookup x=some c->c≠it) (h3:∀ p ∈ X.pn++pins,p.1≠it):Inv X pins σ H { s with heap:=h',toks:=t' }:=by
 have nit:∀ b u,H b=some u->b≠it:=fun b u e z=>by rw [z,hn] at e; cases e
 refine I.step (g':=s.gens) (d':=s.drawn) (ch:=[it]) (fun b hb=>?_) (fun b o _ _ hc e _=>k b o (fun z=>hc (by simp [z])) e) (fun b o _ _ hc e _=>⟨o.slots,k b o (fun z=>hc (by simp [z])) e⟩) (fun _ _ _ _ n=>n) (fun b o hc e=>⟨o,k b o (fun z=>hc (by simp [z])) e⟩) (fun _ _ e=>e) (fun _ _ _ e=>e) (fun b ps e=>⟨#[],by rw [e]; simp⟩) (fun m hm=>?_) (fun b u e=>?_) I.bare
 ·have e:b=it:=by simpa using hb
  subst e;exact ⟨h1,hL,h2,h3⟩
 ·obtain ⟨o,es,ep,ho,r⟩:=hm;exact ⟨o,es,ep,k _ o (Ne.symm hL) ho,r⟩
 ·refine (I.hok b u e).stay (fun c v hc q=>k c v ?_ q) (fun _ q=>q) fun _ _ q=>q
  rcases hc with z | z
  ·rw [z]; exact nit b u e
  ·exact nit c _ z
theorem Inv.tok (I:Inv X pins σ H s) (t:Nat):Inv X pins σ H { s with toks:=t }:=I.un (h':=s.heap) (t':=t) Un.refl I.hok
theorem Inv.kept {t':Nat} (I:Inv X pins σ H s) (k:∀ b u,s.heap.get? b=some u->h'.get? b=some u):Inv X pins σ H { s with heap:=h',toks:=t' }:=I.un (Un.kept k) (I.hok.kept k)
theorem Inv.laid {a:aA} {o:HO} {t':Nat} (I:Inv X pins σ H s) (k:∀ b u,s.heap.get? b=some u->h'.get? b=some u) (hp:s.heap.objs.size<=a) (new:dJ X.prog X.w (upd H a o) h' a o) : Inv X pins σ (upd H a o) { s with heap:=h',toks:=t' }:=I.un (Un.laid k hp (I.hok.fresh hp)) (I.hok.laid k hp new)
theorem Inv.write {x e:aA} {o:HO} {t':Nat} (I:Inv X pins σ H s) (mu:Mut (H x)) (he:e=x\/H e=some (.own x)) (k:∀ b u,b≠e->s.heap.get? b=some u->h'.get? b=some u) (heo:∃ u,h'.get? e=some u) (new:dJ X.prog X.w (upd H x o) h' x o):Inv X pins σ (upd H x o) { s with heap:=h',toks:=t' }:=I.un (Un.write mu he k heo) (I.hok.write mu he k heo new)
theorem Inv.weak {σ':List (Option V)} (I:Inv X pins σ H s) (hl:σ'.length=σ.length) (w:∀ (i:Nat) v,σ'[i]?=some (some v)->σ[i]?=some (some v)):Inv X pins σ' H s := ⟨I.ok,I.os,I.bare,I.base,let ⟨m,hn,hl'⟩:=I.loc; ⟨m,hn,fun i x v e1 e2 e3=>hl' i x v e1 (w i v e2) e3⟩,I.cell,I.free,I.gJ,I.pin,I.hok,hl.trans I.len⟩
theorem Inv.FZ {jo:List (aA × Obj)} (I:Inv X pins σ H s) (h:∀ p ∈ jo,s.heap.get? p.1=some p.2/\H p.1=none/\p.1≠X.env.locals/\p.1 ∉ X.fs/\∀ v,p.2.data≠.cell v):Inv X jo σ H s := ⟨I.ok,I.os,I.bare,I.base,I.loc,I.cell,I.free,I.gJ,fun p hp=>(bZ.mp hp).elim (fun z=>I.pin p (mem_append_left _ z)) (h p),I.hok,I.len⟩
theorem Aj {N:List Str} (hN:N.Nodup) {i j:Nat} {x:Str} (a:N[i]?=some x) (b:N[j]?=some x):i=j:=by
 obtain ⟨h1,e1⟩:=aP.mp a;obtain ⟨h2,e2⟩:=aP.mp b;exact (List.getElem_inj hN).mp (e1.trans e2.symm)
theorem xJ {M:Model} {A:cL} {E:au->aG->Prop} {i:Nat} {x:Str} {v:V} {u:au} {Q:Unit->aG->Prop} (I:Inv X pins σ H s) (hN:X.N.Nodup) (hi:X.N[i]?=some x) (hx:Loc X.env.scope x) (r:RelV v u) (h:∀ s',Inv X pins (σ.set i (some v)) H s'->(∃ a,Heap.SameBut a s.heap s'.heap/\(a=X.env.locals\/X.env.cells.lookup x=some a))->Q () s') (hf:autoParam (X.fn x=true\/X.env.scope.names.lookup x=some .local) zau2):wpAny M A (storeName X.env x u) Q E s:=by
 obtain ⟨m,hn,hl⟩:=id I.loc;have hcls:(X.env.scope.kind == .class || (X.env.scope.kind == .module && X.env.locals != X.env.globals))=false:=by rw [I.ok.kind]; rfl
 have hiσ:i < σ.length:=by rw [I.len]; exact (aP.mp hi).1
 have S9:=I.S9;have tracked:∀ {a:aA} {h':Heap},(∃ o,s.heap.get? a=some o/\H a=none)->Heap.SameBut a s.heap h'->qP X.prog X.w H h':=fun {a h'} ha hs b ob e=>by
  obtain ⟨_,_,hfree⟩:=ha;refine (I.hok b ob e).stay (fun c w' hc q=>(hs.2 c ?_).trans q) (fun _ q=>q) fun _ _ q=>q
  rintro rfl;rcases hc with rfl | hc
  ·rw [hfree] at e; cases e
  ·rw [hfree] at hc; cases hc
 rcases hx with hk | hk
 ·refine wpAny_storeName_local hk hn (fun h' hn' hs=>?_) hcls;obtain ⟨oL,_,_,hoL,_⟩:=id hn;refine h _ ⟨I.ok,I.os,I.bare,⟨fun b o e n hb hx=>?_,fun b o e n hb hx=>?_,I.base.free,fun b o e hx=>?_,I.base.tups,I.base.uy,I.base.uT⟩,⟨_,hn',fun j y v' e1 e2 e3=>?_⟩,fun y c e=>?_,I.free,I.gJ,fun p hp=>?_,tracked ⟨oL,hoL,I.free⟩ hs,by simpa using I.len⟩ ⟨_,hs,.inl rfl⟩
  ·exact (hs.2 b (Nat.ne_of_lt (aU (Heap.lt_size e) I.ok.above))).trans (I.base.keep b o e n hb hx)
  ·obtain ⟨sl,e1⟩:=I.base.slot b o e n hb hx;exact ⟨sl,(hs.2 b (Nat.ne_of_lt (aU (Heap.lt_size e) I.ok.above))).trans e1⟩
  ·obtain ⟨o',e1⟩:=I.base.there b o e hx;exact ⟨o',(hs.2 b (Nat.ne_of_lt (aU (Heap.lt_size e) I.ok.above))).trans e1⟩
  ·by_cases hj:j=i
   ·subst hj;rw [hi] at e1; cases e1;rw [List.getElem?_set_self hiσ] at e2;cases e2;exact ⟨u,r,.inl ⟨hk,by simp⟩⟩
   ·rw [List.getElem?_set_ne (Ne.symm hj)] at e2;obtain ⟨u',r',q⟩:=hl j y v' e1 e2 e3;refine ⟨u',r',?_⟩;rcases q with ⟨k,e⟩ | ⟨k,c,e,z⟩
    ·refine .inl ⟨k,?_⟩;have:y≠x:=fun e=>hj (Aj hN e1 (e ▸ hi))
     simp [this,e]
    ·exact .inr ⟨k,c,e,z.sameBut hs (S9 y c e)⟩
  ·obtain ⟨w',z⟩:=I.cell y c e;exact ⟨w',z.sameBut hs (S9 y c e)⟩
  ·obtain ⟨e,n,ne,nf,d⟩:=I.pin p hp;exact ⟨(hs.2 p.1 ne).trans e,n,ne,nf,d⟩
 ·have hfn:X.fn x=true:=by
   rcases hf with z | z
   ·exact z
   ·rw [z] at hk; cases hk
  obtain ⟨c,hc⟩:=I.ok.has x (.inl hk);obtain ⟨w',z⟩:=I.cell x c hc;refine wpAny_storeName_cell I.ok.kind hk hc z (fun h' hc' hs=>?_);obtain ⟨oc,hoc,aiq⟩:=id z;refine h { s with heap:=h' } ⟨I.ok,I.os,I.bare,⟨fun b o e n hb hx=>?_,fun b o e n hb hx=>?_,I.base.free,fun b o e hx=>?_,I.base.tups,I.base.uy,I.base.uT⟩,⟨m,hn.sameBut hs (Ne.symm (S9 x c hc)),fun j y v' e1 e2 e3=>?_⟩,fun y c' e=>?_,I.free,I.gJ,fun p hp=>?_,tracked ⟨oc,hoc,I.gJ x c hc⟩ hs,by simpa using I.len⟩ ⟨c,hs,.inr hc⟩
  ·exact (hs.2 b (Nat.ne_of_lt (aU (Heap.lt_size e) (I.ok.cab x c hfn hc)))).trans (I.base.keep b o e n hb hx)
  ·obtain ⟨sl,e1⟩:=I.base.slot b o e n hb hx;exact ⟨sl,(hs.2 b (Nat.ne_of_lt (aU (Heap.lt_size e) (I.ok.cab x c hfn hc)))).trans e1⟩
  ·obtain ⟨o',e1⟩:=I.base.there b o e hx;exact ⟨o',(hs.2 b (Nat.ne_of_lt (aU (Heap.lt_size e) (I.ok.cab x c hfn hc)))).trans e1⟩
  ·by_cases hj:j=i
   ·subst hj;rw [hi] at e1; cases e1;rw [List.getElem?_set_self hiσ] at e2;cases e2;exact ⟨u,r,.inr ⟨.inl hk,c,hc,hc'⟩⟩
   ·rw [List.getElem?_set_ne (Ne.symm hj)] at e2;obtain ⟨u',r',q⟩:=hl j y v' e1 e2 e3;refine ⟨u',r',?_⟩;rcases q with q | ⟨k,c',e,z'⟩
    ·exact .inl q
    ·refine .inr ⟨k,c',e,z'.sameBut hs ?_⟩;rintro rfl;exact hj (Aj hN e1 (I.ok.inj _ _ _ e hc ▸ hi))
  ·by_cases hcc:c'=c
   ·subst hcc; exact ⟨_,hc'⟩
   ·obtain ⟨w2,z2⟩:=I.cell y c' e;exact ⟨w2,z2.sameBut hs hcc⟩
  ·obtain ⟨e,n,ne,nf,d⟩:=I.pin p hp;refine ⟨(hs.2 p.1 ?_).trans e,n,ne,nf,d⟩;intro q;rw [q,hoc] at e;have q':oc=p.2:=bY e;exact d w' (by rw [<- q']; exact aiq)
theorem qt {M:Model} {A:cL} {E:au->aG->Prop} {i:Nat} {x:Str} {v:V} {u:au} {Q:Unit->aG->Prop} (I:Inv X pins σ H s) (hN:X.N.Nodup) (hi:X.N[i]?=some x) (hx:Loc X.env.scope x) (r:RelV v u) (h:∀ s',Inv X pins (σ.set i (some v)) H s'->Q () s') (hf:autoParam (X.fn x=true\/X.env.scope.names.lookup x=some .local) zau2):wpAny M A (storeName X.env x u) Q E s := xJ I hN hi hx r (fun s' I' _=>h s' I') hf
theorem Inv.call' {s':aG} {ch:List aA} (I:Inv X pins σ H s) (ho:s'.os=s.os) (u:Un (frs X.stack) ch H H' s.heap s'.heap) (hok:qP X.prog X.w H' s'.heap) (hg:AllBare s'.gens) (hch:∀ b ∈ ch,(b ∈ X.ex\/X.s₀.heap.objs.size<=b)/\b≠X.env.locals/\(∀ x c,X.env.cells.lookup x=some c->c≠b)/\∀ p ∈ X.pn++pins,p.1≠b):Inv X pins σ H' s':=by
 obtain ⟨h',g',d',t',o'⟩:=s';have e:o'=s.os:=ho;subst e;exact I.call (g':=g') (t':=t') (d':=d') u hok hg hch
end
abbrev XK:=au->Option aA->Hp->Prop
abbrev St:=List (Option V)
abbrev VK:=V->Hp->Prop
abbrev TE:=St->Hp->VK->Prop
abbrev TT:=St->Hp->(Bool->Hp->Prop)->Prop
abbrev TA:=St->Hp->(List V->Hp->Prop)->Prop
structure Ends where
 nx:St->Hp->Prop
 rt:VK
 bk:St->Hp->Prop:=fun _ _=>False
 ct:St->Hp->Prop:=fun _ _=>False
abbrev TS:=Ends->St->Hp->Prop
def EP (X:Cx) (pins:List (aA × Obj)) (σ:St) (Q:VK) (u:au) (s':aG):Prop:=∃ v H',Inv X pins σ H' s'/\RelV v u/\Q v H'
def TP (X:Cx) (pins:List (aA × Obj)) (σ:St) (Q:Bool->Hp->Prop) (b:Bool) (s':aG):Prop:=∃ H',Inv X pins σ H' s'/\Q b H'
def AP (X:Cx) (pins:List (aA × Obj)) (σ:St) (Q:List V->Hp->Prop) (us:List au) (s':aG):Prop:=∃ vs H',Inv X pins σ H' s'/\Vals vs us/\Q vs H'
noncomputable def SP (X:Cx) (pins:List (aA × Obj)) (D:Ends) (f:Flow) (s':aG):Prop := match f with
 | .next=>∃ σ' H',Inv X pins σ' H' s'/\D.nx σ' H'
 | .brk=>∃ σ' H',Inv X pins σ' H' s'/\D.bk σ' H'
 | .cont=>∃ σ' H',Inv X pins σ' H' s'/\D.ct σ' H'
 | .ret u=>∃ v σ' H',Inv X pins σ' H' s'/\RelV v u/\D.rt v H'
def PE (X:Cx) (e:Expr) (t:TE):Prop := ∀ (pins:List (aA × Obj)) (s:aG) (σ:St) (H:Hp) (Q:VK),Inv X pins σ H s->t σ H Q->wpAny (model X.prog X.w) X.A (eval e X.env) (EP X pins σ Q) X.xe s
noncomputable def PT (X:Cx) (e:Expr) (t:TT):Prop := ∀ (pins:List (aA × Obj)) (s:aG) (σ:St) (H:Hp) (Q:Bool->Hp->Prop),Inv X pins σ H s->t σ H Q->wpAny (model X.prog X.w) X.A (isTrue e X.env (eval e X.env)) (TP X pins σ Q) X.xe s
noncomputable def PW (X:Cx) (e:Expr) (t:TT):Prop := ∀ (whole:Sem au) (pins:List (aA × Obj)) (s:aG) (σ:St) (H:Hp) (Q:Bool->Hp->Prop),Inv X pins σ H s->t σ H Q->wpAny (model X.prog X.w) X.A (isTrue e X.env whole) (TP X pins σ Q) X.xe s
theorem PW.pt {X:Cx} {e:Expr} {t:TT} (h:PW X e t):PT X e t:=h _
noncomputable def PA (X:Cx) (es:List Expr) (t:TA):Prop := ∀ (pos:Pos) (pins:List (aA × Obj)) (s:aG) (σ:St) (H:Hp) (Q:List V->Hp->Prop),Inv X pins σ H s->t σ H Q->wpAny (model X.prog X.w) X.A (spliced (backTo pos (starEach es X.env))) (AP X pins σ Q) X.xe s
def PS (X:Cx) (st:cQ) (t:TS):Prop := ∀ (pins:List (aA × Obj)) (s:aG) (σ:St) (H:Hp) (D:Ends),Inv X pins σ H s->t D σ H->wpAny (model X.prog X.w) X.A (exec st X.env) (SP X pins D) X.xe s
def Dh (X:Cx) (st:List cQ) (t:TS):Prop := ∀ (pins:List (aA × Obj)) (s:aG) (σ:St) (H:Hp) (D:Ends),Inv X pins σ H s->t D σ H->wpAny (model X.prog X.w) X.A (execs st X.env) (SP X pins D) X.xe s
theorem dX {α:Type} {t:Sem α} {Q Q':α->aG->Prop} {M:Model} {A:cL} {E:au->aG->Prop} {s:aG} (h:wpAny M A t Q E s) (hQ:∀ a s,Q a s->Q' a s):wpAny M A t Q' E s:=bF h hQ fun _ _ x=>x
section
variable {X:Cx}
theorem bin {a b:Expr} {ta tb:TE} (ha:PE X a ta) (hb:PE X b tb) {pins:List (aA × Obj)} {s:aG} {σ:St} {H:Hp} {R:V->V->Hp->Prop} (I:Inv X pins σ H s) (h:ta σ H fun x H1=>tb σ H1 fun y H2=>R x y H2) {α:Type} {Q:α->aG->Prop} {f:au->au->Sem α} (hf:∀ v u s2 x y H2,Inv X pins σ H2 s2->RelV x v->RelV y u->R x y H2->wpAny (model X.prog X.w) X.A (f v u) Q X.xe s2) : wpAny (model X.prog X.w) X.A (eval a X.env) (fun v s₁=>wpAny (model X.prog X.w) X.A (eval b X.env) (fun u s₂=>wpAny (model X.prog X.w) X.A (f v u) Q X.xe s₂) X.xe s₁) X.xe s:=by
 refine dX (ha pins s σ H _ I h) fun v s1 ⟨x,H1,I1,r1,q1⟩=>?_
 refine dX (hb pins s1 σ H1 _ I1 q1) fun u s2 ⟨y,H2,I2,r2,q2⟩=>?_
 exact hf v u s2 x y H2 I2 r1 r2 q2
def Qk (i:Nat):TE:=fun σ H Q=>∃ v,σ[i]?=some (some v)/\Q v H
def tC (v:V):TE:=fun _ H Q=>Q v H
theorem Y8 {i:Nat} {x:Str} {pos:Pos} (hN:X.N[i]?=some x) (hv:Vis X.env.scope x) (hd:autoParam ((x == ("__debug__":Str))=false) zau1) (hcd:autoParam ((x == ("__classdict__":Str))=false) zau1):PE X (.Name x pos) (Qk i):=by
 intro pins s σ H Q I h;obtain ⟨v,e,h⟩:=h;obtain ⟨m,hn,hl⟩:=I.loc;obtain ⟨u,r,l⟩:=hl i x v hN e hv;have fin:EP X pins σ Q u s:=⟨v,H,I,r,h⟩;rcases l with ⟨hk,hm⟩ | ⟨hk,c,hc,hcell⟩
 ·exact wpAny_Name (wpAny_loadName_local I.ok.kind hk hn hm fin) hd
 ·rcases hk with hk | hk
  ·exact wpAny_Name (wpAny_loadName_cell I.ok.kind hk hc hcell fin) hd
  ·exact wpAny_Name (wpAny_loadName_free I.ok.kind hk hc hcell fin hcd) hd
theorem aY {i j pos}:PE X (.Constant (.int i) j pos) (tC (.int i)):=fun _ _ _ H _ I h=>wpAny_Constant_int ⟨.int i,H,I.tok _,⟨_,rfl⟩,h⟩
theorem pH {b j pos}:PE X (.Constant (.bool b) j pos) (tC (.bl b)):=fun _ _ _ H _ I h=>Constant_bool ⟨.bl b,H,I,rfl,h⟩
theorem Y9 {j pos}:PE X (.Constant .none j pos) (tC .non):=fun _ _ _ H _ I h=>Constant_none ⟨.non,H,I,rfl,h⟩
theorem bQ {x j pos}:PE X (.Constant (.str x) j pos) (tC (.str x)):=fun _ _ _ H _ I h=>Calls.Constant_str ⟨.str x,H,I.tok _,⟨_,rfl⟩,h⟩
def Gl (X:Cx) (x:Str):Prop:=X.env.kindOf x=some .globalImplicit
theorem gF {E:au->aG->Prop} {pins:List (aA × Obj)} {s:aG} {σ:St} {H:Hp} {x:Str} {u:au} {pos:Pos} {Q:au->aG->Prop} (I:Inv X pins σ H s) (hg:Gl X x) (hm:X.mg x=some u) (h:Q u s) (hd:autoParam ((x == ("__debug__":Str))=false) zau1):wpAny (model X.prog X.w) X.A (eval (.Name x pos) X.env) Q E s := Calls.Name_function_global I.ok.kind hg (Calls.loadGlobal_global (by rw [I.ok.glob]; exact I.mod.glob.keeps I.bk) hm h) hd
theorem uU {E:au->aG->Prop} {pins:List (aA × Obj)} {s:aG} {σ:St} {H:Hp} {x:Str} {u:au} {pos:Pos} {Q:au->aG->Prop} (I:Inv X pins σ H s) (hg:Gl X x) (hm:X.mg x=none) (hv:bootBuiltins x=some u) (h:Q u s) (hn:autoParam (x≠"__name__") zau1) (hd:autoParam ((x == ("__debug__":Str))=false) zau1):wpAny (model X.prog X.w) X.A (eval (.Name x pos) X.env) Q E s:=by
 obtain ⟨mb,h1,h2⟩:=I.mod.blt;exact Calls.Name_function_global I.ok.kind hg (Calls.loadGlobal_builtin (by rw [I.ok.glob]; exact I.mod.glob.keeps I.bk) hm (by rw [I.ok.blt]; exact h1.keeps I.bk) ((h2 x hn).trans hv) h) hd
theorem Ga {x:Str} {v:V} {u:au} {pos:Pos} (hg:Gl X x) (hm:X.mg x=some u) (r:RelV v u) (hd:autoParam ((x == ("__debug__":Str))=false) zau1):PE X (.Name x pos) (tC v) := fun _ _ _ H _ I h=>gF I hg hm ⟨v,H,I,r,h⟩ hd
theorem Ql {x:Str} {v:V} {u:au} {pos:Pos} (hg:Gl X x) (hm:X.mg x=none) (hv:bootBuiltins x=some u) (r:RelV v u) (hn:autoParam (x≠"__name__") zau1) (hd:autoParam ((x == ("__debug__":Str))=false) zau1):PE X (.Name x pos) (tC v) := fun _ _ _ H _ I h=>uU I hg hm hv ⟨v,H,I,r,h⟩ hn hd
variable {a b:Expr} {ta tb:TE} {pos:Pos}
noncomputable def PC (X:Cx) (op:CmpOp) (a b:Expr) (t:TE):Prop := ∀ (pins:List (aA × Obj)) (s:aG) (σ:St) (H:Hp) (Q:VK),Inv X pins σ H s->t σ H Q -> wpAny (model X.prog X.w) X.A (eval a X.env) (fun v s₁=>wpAny (model X.prog X.w) X.A (eval b X.env) (fun u s₂=>wpAny (model X.prog X.w) X.A (compareOp op v u) (EP X pins σ Q) X.xe s₂) X.xe s₁) X.xe s
def tB (t:TE):TT:=fun σ H Q=>t σ H fun x H1=>∃ c,x=.bl c/\Q c H1
theorem air {op:CmpOp} {t:TE} (h:PC X op a b t) (h1:behindInMarks op b=false:=by first | exact adO _ (by decide) (by decide) | rfl):PT X (.Compare a [op] [b] pos) (tB t):=by
 intro pins s σ H Q I hw;refine wpAny_isTrue_Compare1 (dX (h pins s σ H _ I hw) fun v s1 h1=>dX h1 fun u s2 h2=>dX h2 fun c s3 ⟨x,H1,I1,r1,q1⟩=>?_) h1;obtain ⟨d,rfl,q⟩:=q1;cases r1;exact wpAny_truthy_bool ⟨H1,I1,q⟩
theorem fU {e:Expr} {t:TE} (h:PE X e t) (he:autoParam (∀ whole,isTrue e X.env whole=(do let v <- whole; standAt e.pos; holding [v] (truthy v))) zau3):PT X e (tB t):=by
 intro pins s σ H Q I hw;refine isTrue_plain (dX (h pins s σ H _ I hw) fun v s1 ⟨x,H1,I1,r1,q1⟩=>?_) (he _);obtain ⟨d,rfl,q⟩:=q1;cases r1;exact wpAny_truthy_bool ⟨H1,I1,q⟩
variable {tA tB':TT} {rest:List Expr}
def ais (t u:TT):TT:=fun σ H Q=>t σ H fun c H1=>if c=true then u σ H1 Q else Q false H1
def tOr (t u:TT):TT:=fun σ H Q=>t σ H fun c H1=>if c=true then Q true H1 else u σ H1 Q
def ait (t:TT):TT:=fun σ H Q=>t σ H fun c H1=>Q (!c) H1
theorem pw_and1 (ha:PT X a tA):PW X (.BoolOp .And [a] pos) tA:=by
 intro wh pins s σ H Q I h;refine isTrue_and (dX (ha pins s σ H Q I h) fun c s1 e=>?_);cases c with
 | true=>exact isTrue_and_nil e
 | false=>exact e
theorem pw_or1 (ha:PT X a tA):PW X (.BoolOp .Or [a] pos) tA:=by
 intro wh pins s σ H Q I h;refine isTrue_or (dX (ha pins s σ H Q I h) fun c s1 e=>?_);cases c with
 | false=>exact isTrue_or_nil e
 | true=>exact e
theorem pw_and (ha:PT X a tA) (hb:PW X (.BoolOp .And (b::rest) pos) tB'):PW X (.BoolOp .And (a::b::rest) pos) (ais tA tB'):=by
 intro wh pins s σ H Q I h;refine isTrue_and (dX (ha pins s σ H _ I h) fun c s1 ⟨H1,I1,q1⟩=>?_);cases c with
 | true=>exact hb wh pins s1 σ H1 Q I1 q1
 | false=>exact ⟨H1,I1,q1⟩
theorem pw_or (ha:PT X a tA) (hb:PW X (.BoolOp .Or (b::rest) pos) tB'):PW X (.BoolOp .Or (a::b::rest) pos) (tOr tA tB'):=by
 intro wh pins s σ H Q I h;refine isTrue_or (dX (ha pins s σ H _ I h) fun c s1 ⟨H1,I1,q1⟩=>?_);cases c with
 | true=>exact ⟨H1,I1,q1⟩
 | false=>exact hb wh pins s1 σ H1 Q I1 q1
theorem fM (ha:PT X a tA):PT X (.UnaryOp .Not a pos) (ait tA):=by
 intro pins s σ H Q I h;exact isTrue_not (ha pins s σ H (fun c H1=>Q (!c) H1) I h)
end
noncomputable def cY (K:Fg) (H:Hp) (a:aA) (xs:List V):Prop := Rd H a (.lst xs) \/ ∃ (o:Obj) (its:Array au) (n:Nat),K.lookup a=some o/\o.cls=.type "list"/\o.dict=none/\o.data=.seq its n/\its.size<=sizeLine/\Vals xs its.toList
def tY (K:Fg) (H:Hp) (a:aA) (xs:List V):Prop := Rd H a (.tup xs) \/ ∃ (o:Obj) (its:Array au) (n:Nat),K.lookup a=some o/\o.cls=.type "tuple"/\o.data=.seq its n/\its.size<=sizeLine/\Vals xs its.toList
noncomputable def aiu:au->Option V
 | .none=>some .non
 | .bool b=>some (.bl b)
 | .int i _=>some (.int i)
 | .str x _=>some (.str x)
 | .bytes b _=>some (.FW b)
 | .float b _=>some (.flt b)
 | .ref a=>some (.ref a)
 | .type n=>some (.ty n)
 | _=>none
theorem RelV.abs {x:V} {u:au} (r:RelV x u):aiu u=some x:=by
 cases x with
 | non=>cases r; rfl
 | bl _=>cases r; rfl
 | int _=>obtain ⟨t,rfl⟩:=r; rfl
 | str _=>obtain ⟨t,rfl⟩:=r; rfl
 | FW _=>obtain ⟨t,rfl⟩:=r; rfl
 | flt _=>obtain ⟨t,rfl⟩:=r; rfl
 | ref _=>cases r; rfl
 | ty _=>cases r; rfl
theorem RelV.inj {x y:V} {u:au} (r:RelV x u) (q:RelV y u):x=y:=bY (r.abs.symm.trans q.abs)
theorem Vals.inj:∀ {xs ys:List V} {us:List au},Vals xs us->Vals ys us->xs=ys
 | _,_,_,.nil,.nil=>rfl
 | _,_,_,.cons r t,.cons r' t'=>by rw [r.inj r',Vals.inj t t']
section
variable {X:Cx} {pins:List (aA × Obj)} {σ:St} {H:Hp} {s:aG} {a:aA} {xs ys:List V}
theorem cY.of {K:Fg} (h:H a=some (.lst xs)):cY K H a xs:=.inl (.inl h)
theorem tY.of {K:Fg} (h:H a=some (.tup xs)):tY K H a xs:=.inl (.inl h)
theorem Inv.list (I:Inv X pins σ H s) (h:cY X.K H a xs):∃ its:List au,Vals xs its/\PlainL s.heap a its.toArray/\xs.length<=sizeLine:=by
 rcases h with h | ⟨o,its,n,hk,hc,hd,hs,hz,r⟩
 ·obtain ⟨z,its,n,r,e⟩:=h.ok I.hok;exact ⟨its,r,⟨_,n,e,rfl,rfl,rfl⟩,z⟩
 ·refine ⟨its.toList,r,⟨o,n,I.jM a o hk,hc,hd,by simpa using hs⟩,?_⟩;have e:=r.length;simp only [Array.length_toList] at e;omega
theorem Inv.tuple (I:Inv X pins σ H s) (h:tY X.K H a xs):∃ its:List au,Vals xs its/\IsTup s.heap a its.toArray/\xs.length<=sizeLine:=by
 rcases h with h | ⟨o,its,n,hk,hc,hs,hz,r⟩
 ·obtain ⟨z,its,r,p⟩:=h.ok I.hok;exact ⟨its,r,p,z⟩
 ·refine ⟨its.toList,r,⟨o,I.jM a o hk,hc,n,by simpa using hs⟩,?_⟩;have e:=r.length;simp only [Array.length_toList] at e;omega
theorem Inv.Ak (I:Inv X pins σ H s) (h:cY X.K H a xs) (h':cY X.K H a ys):xs=ys:=by
 obtain ⟨its,r,⟨o,n,e,_,_,d⟩,_⟩:=I.list h;obtain ⟨its',r',⟨o',n',e',_,_,d'⟩,_⟩:=I.list h';rw [e] at e'; cases e';rw [d] at d';injection d' with d1 _;have:its=its':=by simpa using congrArg Array.toList d1
 subst this;exact r.inj r'
theorem Inv.HF (I:Inv X pins σ H s) (h:tY X.K H a xs) (h':tY X.K H a ys):xs=ys:=by
 obtain ⟨its,r,⟨o,e,_,n,d⟩,_⟩:=I.tuple h;obtain ⟨its',r',⟨o',e',_,n',d'⟩,_⟩:=I.tuple h';rw [e] at e'; cases e';rw [d] at d';injection d' with d1 _;have:its=its':=by simpa using congrArg Array.toList d1
 subst this;exact r.inj r'
end
section
variable {X:Cx} {pins:List (aA × Obj)} {σ:St} {H:Hp} {s:aG} {E:au->aG->Prop}
end
section
variable {X:Cx} {st:cQ} {rest:List cQ} {t u:TS} {e:Expr} {te:TE} {pos:Pos}
def adP:TS:=fun D σ H=>D.nx σ H
def aiv (t u:TS):TS:=fun D σ H=>t { D with nx:=u D } σ H
theorem cW:Dh X [] adP:=fun _ _ σ H _ I h=>wpAny_execs_nil ⟨σ,H,I,h⟩
theorem aN (h1:PS X st t) (h2:Dh X rest u):Dh X (st::rest) (aiv t u):=by
 intro pins s σ H D I h;refine wpAny_execs_cons (dX (h1 pins s σ H { D with nx:=u D } I h) fun f s1 q=>?_);cases f with
 | next =>
  obtain ⟨σ',H',I',q⟩:=q;exact h2 pins s1 σ' H' D I' q
 | ret v=>exact q
 | brk=>exact q
 | cont=>exact q
theorem aX (h1:PS X st t):Dh X [st] t:=by
 intro pins s σ H D I h;refine wpAny_execs_cons (dX (h1 pins s σ H D I h) fun f s1 q=>?_);cases f with
 | next=>exact wpAny_execs_nil q
 | ret v=>exact q
 | brk=>exact q
 | cont=>exact q
theorem Inv.quiet {pins:List (aA × Obj)} {σ:St} {H:Hp} {s:aG} (I:Inv X pins σ H s):interactive X.env=false:=by simp [interactive,I.ok.kind]
def adQ (te:TE):TS:=fun D σ H=>te σ H fun _ H1=>D.nx σ H1
theorem jf (he:PE X e te) (hs:autoParam (swapsWith e none pos.line X.env=pure false) zau0):PS X (.Expr e pos) (adQ te):=by
 intro pins s σ H D I h;exact wpAny_Expr_any (dX (he pins s σ H _ I h) fun v s1 ⟨x,H1,I1,r1,q1⟩=>⟨σ,H1,I1,q1⟩) I.quiet hs
def adR (te:TE):TS:=fun D σ H=>te σ H D.rt
theorem cU (he:PE X e te):PS X (.Return (some e) pos) (adR te):=by
 intro pins s σ H D I h;exact wpAny_Return_some (dX (he pins s σ H _ I h) fun v s1 ⟨x,H1,I1,r1,q1⟩=>⟨x,σ,H1,I1,r1,q1⟩)
def aiw (c:TT) (t u:TS):TS:=fun D σ H=>c σ H fun b H1=>if b=true then t D σ H1 else u D σ H1
theorem eY {c:Expr} {a b:List cQ} {tc:TT} (hc:PT X c tc) (ha:Dh X a t) (hb:Dh X b u):PS X (.If c a b pos) (aiw tc t u):=by
 intro pins s σ H D I h;refine wpAny_If (dX (hc pins s σ H _ I h) fun d s1 ⟨H1,I1,q1⟩=>?_);cases d with
 | true=>exact ha pins s1 σ H1 D I1 q1
 | false=>exact hb pins s1 σ H1 D I1 q1
end
abbrev TG:=V->St->Hp->(St->Hp->Prop)->Prop
abbrev Tf:=List V->St->Hp->(St->Hp->Prop)->Prop
noncomputable def PG (X:Cx) (target:Expr) (t:TG):Prop := ∀ (pins:List (aA × Obj)) (s:aG) (σ:St) (H:Hp) (v:V) (u:au) (Q:St->Hp->Prop),Inv X pins σ H s->RelV v u->t v σ H Q -> wpAny (model X.prog X.w) X.A (assign target X.env u) (fun _ s'=>∃ σ' H',Inv X pins σ' H' s'/\Q σ' H') X.xe s
noncomputable def PGs (X:Cx) (ts:List Expr) (t:Tf):Prop := ∀ (pins:List (aA × Obj)) (s:aG) (σ:St) (H:Hp) (vs:List V) (us:List au) (Q:St->Hp->Prop),Inv X pins σ H s->Vals vs us->t vs σ H Q -> wpAny (model X.prog X.w) X.A (assignInOrder ((assignEach ts X.env).map (·.2)) us) (fun _ s'=>∃ σ' H',Inv X pins σ' H' s'/\Q σ' H') X.xe s
abbrev Qm:=V->V->V->Hp->(Hp->Prop)->Prop
noncomputable def adT (X:Cx) (t:Qm):Prop := ∀ (pins:List (aA × Obj)) (s:aG) (σ:St) (H:Hp) (o i v:V) (ov iv u:au) (Q:Hp->Prop),Inv X pins σ H s->RelV o ov->RelV i iv->RelV v u->t o i v H Q -> wpAny (model X.prog X.w) X.A (setItem ov iv u) (fun _ s'=>∃ H',Inv X pins σ H' s'/\Q H') X.xe s
section
variable {X:Cx} {pos:Pos}
def Gb (i:Nat):TG:=fun v σ H Q=>Q (σ.set i (some v)) H
theorem Qo {i:Nat} {x:Str} (hN:X.N.Nodup) (hi:X.N[i]?=some x) (hx:Loc X.env.scope x) (hf:autoParam (X.fn x=true\/X.env.scope.names.lookup x=some .local) zau2):PG X (.Name x pos) (Gb i):=by
 intro pins s σ H v u Q I r h;exact wpAny_assign_Name (qt I hN hi hx r (fun s' I'=>⟨_,H,I',h⟩) hf)
def aix:Tf:=fun vs σ H Q=>vs=[]/\Q σ H
def adU (t:TG) (u:Tf):Tf:=fun vs σ H Q=>∃ v r,vs=v::r/\t v σ H fun σ' H'=>u r σ' H' Q
theorem yR:PGs X [] aix:=by
 intro pins s σ H vs us Q I r h;obtain ⟨e,h⟩:=h;subst e;cases r;exact assignInOrder_nil ⟨σ,H,I,h⟩
theorem kj {e:Expr} {es:List Expr} {t:TG} {u:Tf} (h1:PG X e t) (h2:PGs X es u) (hs:autoParam ((assignEach (e::es) X.env).map (·.2)=assign e X.env::(assignEach es X.env).map (·.2)) zau0):PGs X (e::es) (adU t u):=by
 intro pins s σ H vs us Q I r h;obtain ⟨v,vr,e1,h⟩:=h;subst e1;cases r with
 | cons r rr =>
  rw [hs];refine assignInOrder_cons (dX (h1 pins s σ H _ _ _ I r h) fun _ s1 ⟨σ1,H1,I1,q1⟩=>?_);exact h2 pins s1 σ1 H1 _ _ Q I1 rr q1
def adV (K:Fg) (n:Nat) (t:Tf):TG:=fun v σ H Q=>∃ a xs,v=.ref a/\tY K H a xs/\xs.length=n/\t xs σ H Q
theorem JF {es:List Expr} {k:Nat} {t:Tf} {n:Nat} (hc:X.calm=true) (h:PGs X es t) (hn:autoParam ((assignEach es X.env).length=n) zau0) (hst:autoParam ((assignEach es X.env).findIdx? (·.1)=none) zau0):PG X (.Tuple es k pos) (adV X.K n t):=by
 intro pins s σ H v u Q I r hw;obtain ⟨a,xs,e1,hq,hl,hw⟩:=hw;subst e1;cases r;obtain ⟨its,rv,ht,hz⟩:=I.tuple hq;refine assign_Tuple_tuple (I.ok.hd hc) ht (by simp [hn,<- hl,rv.length]) hst fun h' hx=>?_
 have I1:Inv X pins σ H { s with heap:=h' }:=I.kept (t':=s.toks) fun b o e=>hx b o (Nat.ne_of_lt (Heap.lt_size e)) e
 exact h pins _ σ H xs _ Q I1 (by simpa using rv) hw
def aiy (to ti:TE) (t:Qm):TG:=fun v σ H Q=>to σ H fun o H1=>ti σ H1 fun i H2=>t o i v H2 fun H3=>Q σ H3
theorem Za {o i:Expr} {to ti:TE} {t:Qm} (ho:PE X o to) (hi:PE X i ti) (hs:adT X t) (ha:autoParam (∀ v,assign (.Subscript o i pos) X.env v=(do
  let ov <- holding [v] (eval o X.env)
  let iv <- holding [v,ov] (eval i X.env)
  standAt pos
  holding [v,ov,iv] (setItem ov iv v)
  release [v,ov,iv] [])) zau3):PG X (.Subscript o i pos) (aiy to ti t):=by
 intro pins s σ H v u Q I r h;rw [ha];refine aj (wpAny_holding (dX (ho pins s σ H _ I h) fun ov s1 ⟨x,H1,I1,r1,q1⟩=>?_));refine aj (wpAny_holding (dX (hi pins s1 σ H1 _ I1 q1) fun iv s2 ⟨y,H2,I2,r2,q2⟩=>?_));refine aj (wpAny_standAt (aj (wpAny_holding (dX (hs pins s2 σ H2 x y v ov iv u _ I2 r1 r2 r q2) fun _ s3 ⟨H3,I3,q3⟩=>?_))));exact wpAny_release ⟨σ,H3,I3,q3⟩
def Zb (te:TE) (g:TG):TS:=fun D σ H=>te σ H fun x H1=>g x σ H1 D.nx
theorem Zc {tg e:Expr} {te:TE} {g:TG} (he:PE X e te) (hg:PG X tg g) (hs:autoParam (swapsWithSole [tg] e pos.line X.env=pure false) zau0) (hw:autoParam (swappedStores [tg] e X.env=pure none) zau0) (h1:autoParam ((assignEach [tg] X.env).map (·.2)=[assign tg X.env]) zau0):PS X (.Assign [tg] e pos) (Zb te g):=by
 intro pins s σ H D I h;refine wpAny_Assign_stores (dX (he pins s σ H _ I h) fun v s1 ⟨x,H1,I1,r1,q1⟩=>?_) hs hw;rw [h1];exact dX (hg pins s1 σ H1 x v _ I1 r1 q1) fun _ s2 q=>q
theorem cj {i:Nat} {x:Str} {e:Expr} {te:TE} {pos':Pos} (hN:X.N.Nodup) (hi:X.N[i]?=some x) (hx:Loc X.env.scope x) (he:PE X e te) (hs:autoParam (swapsWith e (some (.Name x pos')) pos.line X.env=pure false) zau0) (hf:autoParam (X.fn x=true\/X.env.scope.names.lookup x=some .local) zau2) : PS X (.Assign [.Name x pos'] e pos) (Zb te (Gb i)):=by
 intro pins s σ H D I h;refine wpAny_Assign_Name (dX (he pins s σ H _ I h) fun v s1 ⟨y,H1,I1,r1,q1⟩=>?_) hs;exact qt I1 hN hi hx r1 (fun s2 I2=>⟨_,H1,I2,q1⟩) hf
end
section
variable {X:Cx} {pos:Pos}
end
structure It where
 go:Nat->Hp->Prop
 Jx:Nat->Hp->V->Hp->Prop
 stop:Nat->Hp->Prop
def pA (X:Cx) (pins:List (aA × Obj)) (H:Hp) (b:aA):Prop := H b=none/\b≠X.env.locals/\b ∉ X.fs/\(b ∈ X.ex\/X.s₀.heap.objs.size<=b)/\(∀ x c,X.env.cells.lookup x=some c->c≠b)/\∀ p ∈ X.pn++pins,p.1≠b
theorem Inv.Qp {X:Cx} {pins:List (aA × Obj)} {σ:St} {H H':Hp} {s:aG} {b:aA} (I:Inv X pins σ H s) (hb:s.heap.objs.size<=b) (hn:H' b=none):pA X pins H' b:=by
 refine ⟨hn,Nat.ne_of_gt (aU I.lt hb),I.aip hb,.inr (bA I.sz hb),fun x c e z=>?_,fun p hp z=>?_⟩
 ·obtain ⟨v,q⟩:=I.cell x c e;exact absurd (aU q.lt (by rw [z]; exact hb)) (cV _)
 ·exact absurd (aU (Heap.lt_size (I.pin p hp).1) (by rw [z]; exact hb)) (cV _)
structure Turn (P:bT) (w:World) (K:Fg) (tg:Expr) (J:It) (fp:List aA) (it:aA) (tn:Nat->Heap->Prop):Prop where
 mem:it ∈ fp
 obj:∀ i h,tn i h->∀ b ∈ fp,∃ o,h.get? b=some o/\∀ v,o.data≠.cell v
 keep:∀ i h h',tn i h->(∀ b ∈ fp,∀ o,h.get? b=some o->h'.get? b=some o)->tn i h'
 item:∀ (X:Cx),X.prog=P->X.w=w->X.K=K->X.calm=true->∀ (i:Nat) (pins:List (aA × Obj)) (s:aG) (σ:St) (H:Hp) (E:au->aG->Prop),Inv X pins σ H s->(∀ b ∈ fp,pA X pins H b)->tn i s.heap->J.go i H -> wpAny (model P w) X.A (pyNext (.ref it)) (fun r s1=>∃ u,r=some u /\ wpAny (model P w) X.A (letOwnedTupleGo tg (.ref it) u) (fun _ s2=>∃ x H',Inv X pins σ H' s2/\RelV x u/\J.Jx i H x H'/\tn (i + 1) s2.heap/\∀ b ∈ fp,H' b=none) E s1) E s
 done:∀ (X:Cx),X.prog=P->X.w=w->X.K=K->X.calm=true->∀ (i:Nat) (pins:List (aA × Obj)) (s:aG) (σ:St) (H:Hp) (E:au->aG->Prop),Inv X pins σ H s->(∀ b ∈ fp,pA X pins H b)->tn i s.heap->J.stop i H -> wpAny (model P w) X.A (pyNext (.ref it)) (fun r s1=>r=none/\Inv X pins σ H s1) E s
 self:∀ (A:cL) (i:Nat) (s:aG) (Q:au->aG->Prop) (E:au->aG->Prop),tn i s.heap->Q (.ref it) s->wpAny (model P w) A (pyIter (.ref it)) Q E s
abbrev TI:=St->Hp->(It->Hp->Prop)->Prop
noncomputable def PIE (X:Cx) (pins:List (aA × Obj)) (σ:St) (tg:Expr) (R:It->Hp->Prop) (itv:au) (s2:aG):Prop := ∃ (it:aA) (fp:List aA) (tn:Nat->Heap->Prop) (J:It) (H':Hp),itv=.ref it/\Inv X pins σ H' s2/\Turn X.prog X.w X.K tg J fp it tn/\tn 0 s2.heap/\(∀ b ∈ fp,pA X pins H' b)/\R J H'
noncomputable def PI (X:Cx) (tg iter:Expr) (wi:TI):Prop := ∀ (pins:List (aA × Obj)) (s:aG) (σ:St) (H:Hp) (R:It->Hp->Prop),Inv X pins σ H s->wi σ H R -> wpAny (model X.prog X.w) X.A (eval iter X.env) (fun v s1=>wpAny (model X.prog X.w) X.A (pyIter v) (PIE X pins σ tg R) X.xe s1) X.xe s
theorem Tg {M:Model} {A:cL} {E:au->aG->Prop} {s:aG} {tg:Expr} {it:aA} {u:au} {o:Obj} {n:String} {vs:Array au} {Q:Unit->aG->Prop} (ho:s.heap.get? it=some o) (hc:o.cls=.type n) (hd:o.data=.fields vs) (hn:["enumerate","zip","dict_itemiterator","dict_reverseitemiterator","odict_iterator","itertools.zip_longest","itertools.pairwise"].contains n=false) (hQ:Q () s):wpAny M A (letOwnedTupleGo tg (.ref it) u) Q E s:=by
 unfold letOwnedTupleGo;cases tg <;> first
  | exact ak hQ
  | (cases u <;> first
   | exact ak hQ
   | (
    refine aj (wpAny_load ho (?_));rw [hc,hd]
    show wpAny M A (if (["enumerate","zip","dict_itemiterator","dict_reverseitemiterator","odict_iterator","itertools.zip_longest","itertools.pairwise"].contains n && vs[0]? == some (rawInt _))=true then _ else _) Q E s
    rw [if_neg (by intro h; rw [hn,Bool.false_and] at h; cases h)];exact ak hQ))
def Oh (K:Fg) (a:aA):It := ⟨fun i H=>∃ xs x,cY K H a xs/\xs[i]?=some x,fun i H x H'=>H'=H/\∀ xs,cY K H a xs->xs[i]?=some x,fun i H=>∃ xs,cY K H a xs/\xs.length<=i⟩
def Zd (lo:Int) (n:Nat):It:=⟨fun i _=>i < n,fun i H x H'=>H'=H/\x=.int (lo + i),fun i _=>n<=i⟩
theorem HJ {P:bT} {w:World} {K:Fg} {tg:Expr} (a it:aA):Turn P w K tg (Oh K a) [it] it (fun i h=>h.IsListIter it a i) where
 mem:=by simp
 obj:=fun i h st b hb=>by
  have e:b=it:=by simpa using hb
  subst e;obtain ⟨o,e,c,d⟩:=st;exact ⟨o,e,fun v z=>by rw [d] at z; cases z⟩
 keep:=fun i h h' st k=>st.at fun o e=>k it (by simp) o e
 item:=by
  intro X hP hw hK hc i pins s σ H E I hf st hg;subst hP hw hK;obtain ⟨xs,x,hq,hx⟩:=hg;obtain ⟨its,rv,p,hz⟩:=I.list hq;obtain ⟨u,hu,ru⟩:=rv.get hx;obtain ⟨f0,f1,f2,f3,f4,f5⟩:=hf it (by simp);refine wpAny_pyNext_list_item st p.isList (x:=u) (by simpa using hu) fun h' st' sb=>?_
  have I1:Inv X pins σ H { s with heap:=h' }:=I.turned (t':=s.toks) (fun b o hb e=>(sb.2 b hb).trans e) f0 f1 f3 f4 f5;obtain ⟨o,e,c,d⟩:=id st';exact ⟨u,rfl,Tg (s:={ s with heap:=h' }) e c d (by decide) ⟨x,H,I1,ru,⟨rfl,fun ys hy=>by rw [I.Ak hy hq]; exact hx⟩,st',fun b hb=>(hf b hb).1⟩⟩
 done:=by
  intro X hP hw hK hc i pins s σ H E I hf st hg;subst hP hw hK;obtain ⟨xs,hq,hx⟩:=hg;obtain ⟨its,rv,p,hz⟩:=I.list hq;obtain ⟨f0,f1,f2,f3,f4,f5⟩:=hf it (by simp);have hl:=rv.length;exact wpAny_pyNext_list_end (I.ok.hd hc) st p.isList (by simp; omega) fun h' eb=>⟨rfl,I.turned (t':=s.toks) (fun b o hb e=>eb b o hb e) f0 f1 f3 f4 f5⟩
 self:=fun _ _ _ _ _ st h=>wpAny_pyIter_listiter st h
theorem Dn {P:bT} {w:World} {K:Fg} {tg:Expr} (it:aA) (lo:Int) (n:Nat):Turn P w K tg (Zd lo n) [it] it (fun i h=>IsRangeIter h it (lo + (i:Nat) * 1) ((n:Int) - (i:Nat)) 1) where
 mem:=by simp
 obj:=fun i h st b hb=>by
  have e:b=it:=by simpa using hb
  subst e;exact ⟨_,st,fun v z=>by
   have z':Data.fields _=Data.cell v:=z;cases z'⟩
 keep:=fun i h h' st k=>k it (by simp) _ st
 item:=by
  intro X hP hw hK hc i pins s σ H E I hf st hg;subst hP hw hK;obtain ⟨f0,f1,f2,f3,f4,f5⟩:=hf it (by simp);have W:=Walks.range (prog:=X.prog) (w:=X.w) (I.ok.hd hc) it lo 1 n;refine W.item i s _ _ hg st fun v h' tk hv st' kk=>?_
  obtain ⟨t,rfl⟩:=hv;have I1:Inv X pins σ H { s with heap:=h',toks:=tk }:=I.turned (fun b o hb e=>kk b o (by simpa using hb) e) f0 f1 f3 f4 f5;refine ⟨_,rfl,Tg (s:={ s with heap:=h',toks:=tk }) (n:="range_iterator") st' rfl rfl (by decide) ⟨.int (lo + i),H,I1,⟨t,?_⟩,⟨rfl,rfl⟩,st',fun b hb=>(hf b hb).1⟩⟩;rw [Int.mul_one]
 done:=by
  intro X hP hw hK hc i pins s σ H E I hf st hg;subst hP hw hK;obtain ⟨f0,f1,f2,f3,f4,f5⟩:=hf it (by simp);exact wpAny_pyNext_range_end (I.ok.hd hc) st (by have:n<=i:=hg; omega) fun h' eb=>⟨rfl,I.turned (t':=s.toks) (fun b o hb e=>eb b o hb e) f0 f1 f3 f4 f5⟩
 self:=fun _ _ _ _ _ st h=>wpAny_pyIter_rangeiter st h
section
variable {X:Cx} {tg:Expr}
def adW (K:Fg) (tl:TE):TI:=fun σ H R=>tl σ H fun x H1=>∃ a,x=.ref a/\(∃ xs,cY K H1 a xs)/\R (Oh K a) H1
theorem eX {l:Expr} {tl:TE} (hl:PE X l tl):PI X tg l (adW X.K tl):=by
 intro pins s σ H R I h;refine dX (hl pins s σ H _ I h) fun v s1 ⟨x,H1,I1,r1,q1⟩=>?_
 obtain ⟨a,e,⟨xs,hq⟩,q⟩:=q1;subst e;cases r1;obtain ⟨its,rv,p,hz⟩:=I1.list hq;refine wpAny_pyIter_list p.isList ?_;refine ⟨s1.heap.objs.size,[s1.heap.objs.size],_,_,H1,rfl,I1.kept (t':=s1.toks) fun b o e=>ao _ e,HJ a _,⟨_,aD _ rfl,rfl,rfl⟩,fun b hb=>?_,q⟩;have e:b=s1.heap.objs.size:=by simpa using hb
 subst e;exact I1.Qp (aH _) (I1.hok.fresh (aH _))
theorem JG {pins:List (aA × Obj)} {σ:St} {H:Hp} {s:aG} {R:It->Hp->Prop} {E:au->aG->Prop} {lo hi:Int} {t u v:Tok} {tk:Nat} (I:Inv X pins σ H s) (h1:-(2 ^ 62)<=lo) (h2:lo < 2 ^ 62) (h3:-(2 ^ 62)<=hi) (h4:hi < 2 ^ 62) (q:R (Zd lo (hi - lo).toNat) H):wpAny (model X.prog X.w) X.A (pyIter (.ref s.heap.objs.size)) (PIE X pins σ tg R) E { s with heap:=s.heap.push { cls:=.type "range",data:=.fields #[.int lo t,.int hi u,.int 1 v] },toks:=tk }:=by
 refine wpAny_pyIter_range (IsRange.new ..) (small_one h1 h2 h3 h4) ?_;have I1:Inv X pins σ H { s with heap:=s.heap.push { cls:=.type "range",data:=.fields #[.int lo t,.int hi u,.int 1 v] },toks:=tk }:=I.kept fun b o e=>ao _ e
 refine ⟨(s.heap.push { cls:=.type "range",data:=.fields #[.int lo t,.int hi u,.int 1 v] }).objs.size,[(s.heap.push { cls:=.type "range",data:=.fields #[.int lo t,.int hi u,.int 1 v] }).objs.size],_,_,H,rfl,I1.kept (t':=tk) fun b o e=>ao _ e,Dn _ lo (hi - lo).toNat,?_,fun b hb=>?_,q⟩
 ·have e1:lo + ((0:Nat):Int) * 1=lo:=by simp
  have e2:(((hi - lo).toNat:Nat):Int) - ((0:Nat):Int)=Builtin.Range.rangeSize lo hi 1:=by rw [rangeSize_one]; split <;> omega
  show IsRangeIter _ _ (lo + ((0:Nat):Int) * 1) ((((hi - lo).toNat:Nat):Int) - ((0:Nat):Int)) 1
  rw [e1,e2];exact aD _ rfl
 ·have e:b=(s.heap.push { cls:=.type "range",data:=.fields #[.int lo t,.int hi u,.int 1 v] }).objs.size:=by simpa using hb
  subst e;exact I1.Qp (aH _) (I1.hok.fresh (aH _))
def adX (ta:TA):TI:=fun σ H R=>ta σ H fun vs H1=>∃ j:Int,vs=[.int j]/\-(2 ^ 62)<=j/\j < 2 ^ 62/\R (Zd 0 j.toNat) H1
theorem qR {a:Expr} {ta:TA} {p pos:Pos} (hg:Gl X "range") (hm:X.mg "range"=none) (ha:PA X [a] ta) (hs:autoParam (starEach [a] X.env=[(false,eval a X.env)]) zau0):PI X tg (.Call (.Name "range" p) [a] [] pos) (adX ta):=by
 intro pins s σ H R I h;refine Call_ (uU I hg hm boot_range (callWith_type1 (dX (ha pos pins s σ H _ I h) fun us s1 ⟨vs,H1,I1,r1,q1⟩=>?_) hs rfl));obtain ⟨j,e,q1,q2,q⟩:=q1;subst e;cases r1 with
 | cons r rr =>
  cases rr;obtain ⟨t,rfl⟩:=r;exact call_range_1 (JG I1 (by omega) (by omega) q1 q2 (by simpa using q))
noncomputable def aiz (wi:TI) (g:TG) (tb:TS):TS:=fun D σ H=>wi σ H fun J H1=>∃ W:Nat->Nat->St->Hp->Prop,(∃ m,W 0 m σ H1)/\∀ i m σ H,W i m σ H -> (J.stop i H/\D.nx σ H)\/(J.go i H/\∃ N:St->Hp->Prop,(∀ σ' H',N σ' H'->∃ m',m' < m/\W (i + 1) m' σ' H')/\∀ x H',J.Jx i H x H'->g x σ H' fun σ2 H2=>tb { D with nx:=N,ct:=N,bk:=D.nx } σ2 H2)
def mZ (fp:List aA) (h:Heap):List (aA × Obj):=fp.filterMap fun b=>(h.get? b).map fun o=>(b,o)
theorem lK {fp:List aA} {h:Heap} {b:aA} {o:Obj} (hb:b ∈ fp) (e:h.get? b=some o):(b,o) ∈ mZ fp h:=List.mem_filterMap.mpr ⟨b,hb,by rw [e]; rfl⟩
theorem HN {fp:List aA} {h:Heap} {p:aA × Obj} (hp:p ∈ mZ fp h):p.1 ∈ fp/\h.get? p.1=some p.2:=by
 obtain ⟨b,hb,e⟩:=List.mem_filterMap.mp hp;cases q:h.get? b with
 | none=>rw [q] at e; cases e
 | some o =>
  rw [q] at e;have e':(b,o)=p:=bY e;subst e';exact ⟨hb,q⟩
theorem Inv.pinned {pins:List (aA × Obj)} {σ:St} {H:Hp} {s:aG} {fp:List aA} (I:Inv X pins σ H s) (hf:∀ b ∈ fp,pA X pins H b) (ho:∀ b ∈ fp,∃ o,s.heap.get? b=some o/\∀ v,o.data≠.cell v):Inv X (pins++mZ fp s.heap) σ H s := I.FZ fun p hp=>(bZ.mp hp).elim (fun z=>I.pin p (mem_append_right _ z)) fun z=>by
 obtain ⟨hb,e⟩:=HN z;obtain ⟨f0,f1,f2,_⟩:=hf p.1 hb;obtain ⟨o,e',d⟩:=ho p.1 hb;rw [e] at e'; cases e';exact ⟨e,f0,f1,f2,d⟩
theorem Inv.qu {pins pl:List (aA × Obj)} {σ:St} {H:Hp} {s:aG} (I:Inv X (pins++pl) σ H s):Inv X pins σ H s:=I.FZ fun p hp=>I.pin p (mem_append_right _ (mem_append_left _ hp))
theorem qT {iter:Expr} {body:List cQ} {wi:TI} {g:TG} {tb:TS} {pos:Pos} (hp:PassesOwn (model X.prog X.w) X.A X.env X.xe) (hc:X.calm=true) (hi:PI X tg iter wi) (hg:PG X tg g) (hb:Dh X body tb) (hs:autoParam (∀ x,foldedSetIterable iter X.env x=pure x) zau3):PS X (.For tg iter body [] pos) (aiz wi g tb):=by
 intro pins s σ H D I h;refine wpAny_For (dX (hi pins s σ H _ I h) fun v s1 h1=>dX h1 fun itv s2 h2=>?_) hs;obtain ⟨it,fp,tn,J,H2,e,I2,T,st2,f2,W,⟨m0,w0⟩,turn⟩:=h2;subst e;have stat:∀ {H':Hp},(∀ b ∈ fp,H' b=none)->∀ b ∈ fp,pA X pins H' b:=fun hn b hb=>⟨hn b hb,(f2 b hb).2⟩
 refine codeAny_forLoop_any (fun n s'=>∃ i σ' H',Inv X pins σ' H' s'/\tn i s'.heap/\(∀ b ∈ fp,H' b=none)/\W i n σ' H') ?_ m0 ⟨0,σ,H2,I2,st2,fun b hb=>(f2 b hb).1,w0⟩;rintro n s3 ⟨i,σ3,H3,I3,st3,fr3,w3⟩;rcases turn i n σ3 H3 w3 with ⟨stop,qn⟩ | ⟨go,N,hN,step⟩
 ·refine wpAny_passesOwn hp (dX (T.done X rfl rfl rfl hc i pins s3 σ3 H3 X.xe I3 (stat fr3) st3 stop) fun r s4 ⟨hr,I4⟩=>?_);subst hr;exact wpAny_execs_nil ⟨σ3,H3,I4,qn⟩
 ·refine wpAny_passesOwn hp (dX (T.item X rfl rfl rfl hc i pins s3 σ3 H3 X.xe I3 (stat fr3) st3 go) fun r s4 ⟨u,hr,h4⟩=>?_);subst hr;refine wpAny_passesOwn hp (dX h4 fun _ s5 ⟨x,H5,I5,r5,y5,st5,fr5⟩=>?_);have I5':=I5.pinned (stat fr5) (T.obj _ _ st5);refine wpAny_passesOwn hp (dX (hg _ s5 σ3 H5 x u _ I5' r5 (step x H5 y5)) fun _ s6 ⟨σ6,H6,I6,q6⟩=>?_);refine wpAny_passesOwn hp (dX (hb _ s6 σ6 H6 _ I6 q6) fun f s7 q7=>?_);have again:∀ {σ7:St} {H7:Hp},Inv X (pins++mZ fp s5.heap) σ7 H7 s7->N σ7 H7->∃ m,m < n/\∃ i σ' H',Inv X pins σ' H' s7/\tn i s7.heap/\(∀ b ∈ fp,H' b=none)/\W i m σ' H':=fun {σ7 H7} I7 n7=>by
   obtain ⟨m',hm,w7⟩:=hN σ7 H7 n7;refine ⟨m',hm,i + 1,σ7,H7,I7.qu,T.keep _ _ _ st5 fun b hb o e=>(I7.pin (b,o) (mem_append_right _ (mem_append_right _ (lK hb e)))).1,fun b hb=>?_,w7⟩;obtain ⟨o,e,d⟩:=T.obj _ _ st5 b hb;exact (I7.pin (b,o) (mem_append_right _ (mem_append_right _ (lK hb e)))).2.1
  cases f with
  | next=>obtain ⟨σ7,H7,I7,n7⟩:=q7; exact again I7 n7
  | cont=>obtain ⟨σ7,H7,I7,n7⟩:=q7; exact again I7 n7
  | brk=>obtain ⟨σ7,H7,I7,q7⟩:=q7; exact ⟨σ7,H7,I7.qu,q7⟩
  | ret v=>obtain ⟨x7,σ7,H7,I7,r7,q7⟩:=q7; exact ⟨x7,σ7,H7,I7.qu,r7,q7⟩
end
theorem qw {K:Fg} {a:aA} {xs:List V} {g:TG} {tb:TS} {D:Ends} {σ:St} {H:Hp} (Pv:Nat->St->Hp->Prop) (h0:Pv 0 σ H) (hl:∀ i σ H,i<=xs.length->Pv i σ H->cY K H a xs) (hs:∀ i x σ H,xs[i]?=some x->Pv i σ H->g x σ H fun σ2 H2=>tb { D with nx:=Pv (i + 1),ct:=Pv (i + 1),bk:=D.nx } σ2 H2) (hd:∀ σ H,Pv xs.length σ H->D.nx σ H) : ∃ W:Nat->Nat->St->Hp->Prop,(∃ m,W 0 m σ H)/\∀ i m σ H,W i m σ H -> ((Oh K a).stop i H/\D.nx σ H)\/((Oh K a).go i H/\∃ N:St->Hp->Prop,(∀ σ' H',N σ' H'->∃ m',m' < m/\W (i + 1) m' σ' H')/\∀ x H',(Oh K a).Jx i H x H'->g x σ H' fun σ2 H2=>tb { D with nx:=N,ct:=N,bk:=D.nx } σ2 H2):=by
 refine ⟨fun i m σ H=>m=xs.length - i/\i<=xs.length/\Pv i σ H,⟨xs.length,by simp,dD _,h0⟩,?_⟩;rintro i m σ H ⟨rfl,hi,p⟩;have q:=hl i σ H hi p
 by_cases hlt:i < xs.length
 ·refine .inr ⟨⟨xs,xs[i],q,by simp [hlt]⟩,Pv (i + 1),fun σ' H' p'=>⟨xs.length - (i + 1),by omega,rfl,hlt,p'⟩,fun x H' y=>?_⟩;obtain ⟨e,y⟩:=y;subst e;exact hs i x σ _ (y xs q) p
 ·have e:i=xs.length:=by omega
  subst e;exact .inl ⟨⟨xs,q,aH _⟩,hd σ H p⟩
theorem xK {lo:Int} {n:Nat} {g:TG} {tb:TS} {D:Ends} {σ:St} {H:Hp} (Pv:Nat->St->Hp->Prop) (h0:Pv 0 σ H) (hs:∀ i σ H,i < n->Pv i σ H->g (.int (lo + i)) σ H fun σ2 H2=>tb { D with nx:=Pv (i + 1),ct:=Pv (i + 1),bk:=D.nx } σ2 H2) (hd:∀ σ H,Pv n σ H->D.nx σ H) : ∃ W:Nat->Nat->St->Hp->Prop,(∃ m,W 0 m σ H)/\∀ i m σ H,W i m σ H -> ((Zd lo n).stop i H/\D.nx σ H)\/((Zd lo n).go i H/\∃ N:St->Hp->Prop,(∀ σ' H',N σ' H'->∃ m',m' < m/\W (i + 1) m' σ' H')/\∀ x H',(Zd lo n).Jx i H x H'->g x σ H' fun σ2 H2=>tb { D with nx:=N,ct:=N,bk:=D.nx } σ2 H2):=by
 refine ⟨fun i m σ H=>m=n - i/\i<=n/\Pv i σ H,⟨n,by simp,dD _,h0⟩,?_⟩;rintro i m σ H ⟨rfl,hi,p⟩
 by_cases hlt:i < n
 ·refine .inr ⟨hlt,Pv (i + 1),fun σ' H' p'=>⟨n - (i + 1),by omega,rfl,hlt,p'⟩,fun x H' y=>?_⟩;obtain ⟨e,y⟩:=y;subst e y;exact hs i σ _ hlt p
 ·have e:i=n:=by omega
  subst e;exact .inl ⟨aH _,hd σ H p⟩
abbrev R2:=V->V->Hp->VK->Prop
noncomputable def pI (X:Cx) (f:au->au->Sem au) (r:R2):Prop := ∀ (pins:List (aA × Obj)) (s:aG) (σ:St) (H:Hp) (x y:V) (v u:au) (Q:VK),Inv X pins σ H s->RelV x v->RelV y u->r x y H Q -> wpAny (model X.prog X.w) X.A (f v u) (EP X pins σ Q) X.xe s
noncomputable def UnR (X:Cx) (f:au->Sem au) (r:V->Hp->VK->Prop):Prop := ∀ (pins:List (aA × Obj)) (s:aG) (σ:St) (H:Hp) (x:V) (v:au) (Q:VK),Inv X pins σ H s->RelV x v->r x H Q -> wpAny (model X.prog X.w) X.A (f v) (EP X pins σ Q) X.xe s
noncomputable def gK (X:Cx) (f:au) (r:List V->Hp->VK->Prop):Prop := ∀ (pins:List (aA × Obj)) (s:aG) (σ:St) (H:Hp) (xs:List V) (us:List au) (Q:VK),Inv X pins σ H s->Vals xs us->r xs H Q -> wpAny (model X.prog X.w) X.A (call f us) (EP X pins σ Q) X.xe s
noncomputable def aiB (X:Cx) (r:V->Hp->(Bool->Hp->Prop)->Prop):Prop := ∀ (pins:List (aA × Obj)) (s:aG) (σ:St) (H:Hp) (x:V) (v:au) (Q:Bool->Hp->Prop),Inv X pins σ H s->RelV x v->r x H Q -> wpAny (model X.prog X.w) X.A (truthy v) (TP X pins σ Q) X.xe s
def tOp (r:R2) (ta tb:TE):TE:=fun σ H Q=>ta σ H fun x H1=>tb σ H1 fun y H2=>r x y H2 Q
def tUn (r:V->Hp->VK->Prop) (ta:TE):TE:=fun σ H Q=>ta σ H fun x H1=>r x H1 Q
def rI (C:Int->Int->Prop) (g:Int->Int->V):R2:=fun x y H Q=>∃ i j,x=.int i/\y=.int j/\C i j/\Q (g i j) H
def Ti (g:Int->Int->V):R2:=fun x y H Q=>∃ i j,x=.int i/\y=.int j/\Q (g i j) H
def rU (g:Int->V):V->Hp->VK->Prop:=fun x H Q=>∃ i,x=.int i/\Q (g i) H
section
variable {X:Cx} {a b c:Expr} {ta tb tc:TE} {pos:Pos}
theorem Ze (ha:PE X a ta) (hb:PE X b tb) {pins:List (aA × Obj)} {s:aG} {σ:St} {H:Hp} {R:V->V->Hp->Prop} (I:Inv X pins σ H s) (h:ta σ H fun x H1=>tb σ H1 fun y H2=>R x y H2) {Q:au->aG->Prop} {f:au->au->Sem au} (hf:∀ v u s2 x y H2,Inv X pins σ H2 s2->RelV x v->RelV y u->R x y H2->wpAny (model X.prog X.w) X.A (f v u) Q X.xe s2) : wpAny (model X.prog X.w) X.A (eval a X.env) (fun v s₁=>wpAny (model X.prog X.w) X.A (eval b X.env) (fun u s₂=>wpAny (model X.prog X.w) X.A (f v u) Q X.xe s₂) X.xe s₁) X.xe s:=by
 refine dX (ha pins s σ H _ I h) fun v s1 ⟨x,H1,I1,r1,q1⟩=>?_
 refine dX (hb pins s1 σ H1 _ I1 q1) fun u s2 ⟨y,H2,I2,r2,q2⟩=>?_
 exact hf v u s2 x y H2 I2 r1 r2 q2
theorem bO {op:Operator} {r:R2} (ho:pI X (binaryOp op) r) (ha:PE X a ta) (hb:PE X b tb):PE X (.BinOp a op b pos) (tOp r ta tb):=by
 intro pins s σ H Q I h;exact wpAny_BinOp (Ze ha hb I h fun v u s2 x y H2 I2 rx ry q=>ho pins s2 σ H2 x y v u Q I2 rx ry q)
theorem Tj {op:UnaryOp} {r:V->Hp->VK->Prop} (ho:UnR X (unaryOp op) r) (ha:PE X a ta):PE X (.UnaryOp op a pos) (tUn r ta):=by
 intro pins s σ H Q I h;exact UnaryOp_ (dX (ha pins s σ H _ I h) fun v s1 ⟨x,H1,I1,r1,q1⟩=>ho pins s1 σ H1 x v Q I1 r1 q1)
theorem opI {f:au->au->Sem au} {C:Int->Int->Prop} {g:Int->Int->Int} (rule:∀ (i j:Int) (t u:Tok) (s:aG) (Q:au->aG->Prop) (E:au->aG->Prop),C i j->Q (.int (g i j) s.toks) { s with toks:=s.toks + 1 }->wpAny (model X.prog X.w) X.A (f (.int i t) (.int j u)) Q E s) : pI X f (rI C fun i j=>.int (g i j)):=by
 intro pins s σ H x y v u Q I rx ry h;obtain ⟨i,j,rfl,rfl,hc,q⟩:=h;obtain ⟨t,rfl⟩:=rx;obtain ⟨t',rfl⟩:=ry;exact rule i j t t' s _ _ hc ⟨.int (g i j),H,I.tok _,⟨_,rfl⟩,q⟩
theorem Zf {f:au->au->Sem au} {g:Int->Int->Int} (rule:∀ (i j:Int) (t u:Tok) (s:aG) (Q:au->aG->Prop) (E:au->aG->Prop),Q (.int (g i j) s.toks) { s with toks:=s.toks + 1 }->wpAny (model X.prog X.w) X.A (f (.int i t) (.int j u)) Q E s) : pI X f (Ti fun i j=>.int (g i j)):=by
 intro pins s σ H x y v u Q I rx ry h;obtain ⟨i,j,rfl,rfl,q⟩:=h;obtain ⟨t,rfl⟩:=rx;obtain ⟨t',rfl⟩:=ry;exact rule i j t t' s _ _ ⟨.int (g i j),H,I.tok _,⟨_,rfl⟩,q⟩
theorem Zg {f:au->au->Sem au} {g:Int->Int->Bool} (rule:∀ (i j:Int) (t u:Tok) (s:aG) (Q:au->aG->Prop) (E:au->aG->Prop),Q (.bool (g i j)) s->wpAny (model X.prog X.w) X.A (f (.int i t) (.int j u)) Q E s) : pI X f (Ti fun i j=>.bl (g i j)):=by
 intro pins s σ H x y v u Q I rx ry h;obtain ⟨i,j,rfl,rfl,q⟩:=h;obtain ⟨t,rfl⟩:=rx;obtain ⟨t',rfl⟩:=ry;exact rule i j t t' s _ _ ⟨.bl (g i j),H,I,rfl,q⟩
def aiC (i j:Int):Prop:=0 < j/\j < 1073741824
def aiD (i j:Int):Prop:=0<=j/\j<=1000000/\i.natAbs < 2 ^ 64
def Zh (i j:Int):Prop:=(-(2 ^ 64) < i/\i < 2 ^ 64)\/(-(2 ^ 64) < j/\j < 2 ^ 64)
theorem Zh.ok {i j:Int} (h:Zh i j):IntMulOk i j:=by
 rcases h with ⟨h1,h2⟩ | ⟨h1,h2⟩
 ·exact .of_left (intBits_le_64 h1 h2)
 ·exact .of_right (intBits_le_64 h1 h2)
theorem Dp (k:Nat):(0:Int)<=2 ^ k:=by
 rw [two_pow_cast];exact Int.natCast_nonneg _
theorem jq:pI X (binaryOp .Add) (Ti fun i j=>.int (i + j)):=Zf fun _ _ _ _ _ _ _ q=>add_int q
theorem Dq:pI X (binaryOp .Sub) (Ti fun i j=>.int (i - j)):=Zf fun _ _ _ _ _ _ _ q=>sub_int q
theorem uV:pI X (binaryOp .Mult) (rI Zh fun i j=>.int (i * j)):=opI fun _ _ _ _ _ _ _ hc q=>mul_int q hc.ok
theorem oH:pI X (binaryOp .FloorDiv) (rI aiC fun i j=>.int (i / j)):=opI fun i j _ _ _ _ _ hc q=>by
 have h1:(0:Int) < j:=hc.1;have h2:j < 1073741824:=hc.2;exact floordiv_int (by omega) (by rw [Int.fdiv_eq_ediv_of_nonneg i (by omega)]; exact q) (.inl (PyProof.noPylong_small (by omega)))
theorem gW:pI X (binaryOp .Mod) (rI (fun _ j=>0 < j) fun i j=>.int (i % j)):=opI fun i j _ _ _ _ _ hc q=>by
 have h1:(0:Int) < j:=hc;exact mod_int' (by omega) (by rw [Int.fmod_eq_emod_of_nonneg i (by omega)]; exact q)
theorem JH:pI X (binaryOp .LShift) (rI aiD fun i j=>.int (i * 2 ^ j.toNat)):=opI fun _ _ _ _ _ _ _ hc q=>lshift_int_small hc.1 hc.2.1 hc.2.2 q
theorem Zi:pI X (binaryOp .RShift) (rI (fun _ j=>0<=j) fun i j=>.int (i / 2 ^ j.toNat)):=opI fun i j _ _ _ _ _ hc q =>
 rshift_int hc (by rw [Int.fdiv_eq_ediv_of_nonneg i (Dp _)]; exact q)
theorem Zj:pI X (binaryOp .BitAnd) (Ti fun i j=>.int (Builtin.bitAnd i j)):=Zf fun _ _ _ _ _ _ _ q=>and_int q
theorem unI {f:au->Sem au} {g:Int->Int} (rule:∀ (i:Int) (t:Tok) (s:aG) (Q:au->aG->Prop) (E:au->aG->Prop),Q (.int (g i) s.toks) { s with toks:=s.toks + 1 }->wpAny (model X.prog X.w) X.A (f (.int i t)) Q E s) : UnR X f (rU fun i=>.int (g i)):=by
 intro pins s σ H x v Q I rx h;obtain ⟨i,rfl,q⟩:=h;obtain ⟨t,rfl⟩:=rx;exact rule i t s _ _ ⟨.int (g i),H,I.tok _,⟨_,rfl⟩,q⟩
theorem JK:UnR X (unaryOp .USub) (rU fun i=>.int (-i)):=unI fun _ _ _ _ _ q=>neg_int q
end
noncomputable def adZ:V->V->Bool
 | .non,.non=>true | .non,.int _=>true | .int _,.non=>true | .non,.bl _=>true | .bl _,.non=>true | .non,.str _=>true | .str _,.non=>true
 | .int _,.int _=>true | .bl _,.bl _=>true | .str _,.str _=>true | .FW _,.FW _=>true
 | .int _,.str _=>true | .str _,.int _=>true | .bl _,.str _=>true | .str _,.bl _=>true
 | _,_=>false
def rEq:R2:=fun x y H Q=>adZ x y=true/\Q (.bl (decide (x=y))) H
def rNe:R2:=fun x y H Q=>adZ x y=true/\Q (.bl (!decide (x=y))) H
theorem Gd {i j:Int}:decide (V.int i=V.int j)=(i == j):=by
 rw [Bool.eq_iff_iff];simp
theorem JL {i j:Bool}:decide (V.bl i=V.bl j)=(i == j):=by
 rw [Bool.eq_iff_iff];simp
theorem Ge {i j:Str}:decide (V.str i=V.str j)=(i == j):=by
 rw [Bool.eq_iff_iff];simp
theorem Gf {i j:Array UInt8}:decide (V.FW i=V.FW j)=(i.toList == j.toList):=by
 rw [Bool.eq_iff_iff];cases i;cases j;simp
section
variable {X:Cx} {a b c:Expr} {ta tb tc:TE} {pos:Pos}
theorem dB {pins:List (aA × Obj)} {σ:St} {H:Hp} {s:aG} {Q:VK} {k k':Bool} (I:Inv X pins σ H s) (q:Q (.bl k) H) (e:k=k'):EP X pins σ Q (.bool k') s:=by
 subst e;exact ⟨.bl k,H,I,rfl,q⟩
theorem tZ:pI X (compareOp .Eq) rEq:=by
 intro pins s σ H x y v u Q I rx ry h;obtain ⟨hs,q⟩:=h;cases x with
 | non =>
  cases rx;cases y with
  | non=>cases ry; exact PySem.EqNone.eq_none_none (dB I q (by simp))
  | bl j=>cases ry; exact PySem.EqNone.eq_none_bool (dB I q (by simp))
  | int j=>obtain ⟨t',rfl⟩:=ry; exact PySem.EqNone.eq_none_int (dB I q (by simp))
  | str j=>obtain ⟨t',rfl⟩:=ry; exact PySem.EqNone.eq_none_str (dB I q (by simp))
  | _=>exact absurd (show false=true from hs) Bool.false_ne_true
 | bl i =>
  cases rx;cases y with
  | non=>cases ry; exact PySem.EqNone.eq_bool_none (dB I q (by simp))
  | bl j=>cases ry; exact eq_bool (dB I q JL)
  | str j=>obtain ⟨t',rfl⟩:=ry; exact PySem.EqMixed.eq_bool_str (dB I q (by simp))
  | _=>exact absurd (show false=true from hs) Bool.false_ne_true
 | int i =>
  obtain ⟨t,rfl⟩:=rx;cases y with
  | non=>cases ry; exact PySem.EqNone.eq_int_none (dB I q (by simp))
  | int j=>obtain ⟨t',rfl⟩:=ry; exact eq_int (dB I q Gd)
  | str j=>obtain ⟨t',rfl⟩:=ry; exact PySem.EqMixed.eq_int_str (dB I q (by simp))
  | _=>exact absurd (show false=true from hs) Bool.false_ne_true
 | str i =>
  obtain ⟨t,rfl⟩:=rx;cases y with
  | non=>cases ry; exact PySem.EqNone.eq_str_none (dB I q (by simp))
  | bl j=>cases ry; exact PySem.EqMixed.eq_str_bool (dB I q (by simp))
  | int j=>obtain ⟨t',rfl⟩:=ry; exact PySem.EqMixed.eq_str_int (dB I q (by simp))
  | str j=>obtain ⟨t',rfl⟩:=ry; exact eq_str (dB I q Ge)
  | _=>exact absurd (show false=true from hs) Bool.false_ne_true
 | FW i =>
  obtain ⟨t,rfl⟩:=rx;cases y with
  | FW j=>obtain ⟨t',rfl⟩:=ry; exact PySem.W.eq_bytes (dB I q Gf)
  | _=>exact absurd (show false=true from hs) Bool.false_ne_true
 | _=>cases y <;> exact absurd (show false=true from hs) Bool.false_ne_true
theorem m5:pI X (compareOp .NotEq) rNe:=by
 intro pins s σ H x y v u Q I rx ry h;obtain ⟨hs,q⟩:=h;cases x with
 | non =>
  cases rx;cases y with
  | non=>cases ry; exact PySem.EqNone.ne_none_none (dB I q (by simp))
  | bl j=>cases ry; exact PySem.EqNone.ne_none_bool (dB I q (by simp))
  | int j=>obtain ⟨t',rfl⟩:=ry; exact PySem.EqNone.ne_none_int (dB I q (by simp))
  | str j=>obtain ⟨t',rfl⟩:=ry; exact PySem.EqNone.ne_none_str (dB I q (by simp))
  | _=>exact absurd (show false=true from hs) Bool.false_ne_true
 | bl i =>
  cases rx;cases y with
  | non=>cases ry; exact PySem.EqNone.ne_bool_none (dB I q (by simp))
  | bl j=>cases ry; exact ne_bool (dB I q (congrArg not JL))
  | str j=>obtain ⟨t',rfl⟩:=ry; exact PySem.EqMixed.ne_bool_str (dB I q (by simp))
  | _=>exact absurd (show false=true from hs) Bool.false_ne_true
 | int i =>
  obtain ⟨t,rfl⟩:=rx;cases y with
  | non=>cases ry; exact PySem.EqNone.ne_int_none (dB I q (by simp))
  | int j=>obtain ⟨t',rfl⟩:=ry; exact ne_int (dB I q (congrArg not Gd))
  | str j=>obtain ⟨t',rfl⟩:=ry; exact PySem.EqMixed.ne_int_str (dB I q (by simp))
  | _=>exact absurd (show false=true from hs) Bool.false_ne_true
 | str i =>
  obtain ⟨t,rfl⟩:=rx;cases y with
  | non=>cases ry; exact PySem.EqNone.ne_str_none (dB I q (by simp))
  | bl j=>cases ry; exact PySem.EqMixed.ne_str_bool (dB I q (by simp))
  | int j=>obtain ⟨t',rfl⟩:=ry; exact PySem.EqMixed.ne_str_int (dB I q (by simp))
  | str j=>obtain ⟨t',rfl⟩:=ry; exact ne_str (dB I q (congrArg not Ge))
  | _=>exact absurd (show false=true from hs) Bool.false_ne_true
 | FW i =>
  obtain ⟨t,rfl⟩:=rx;cases y with
  | FW j=>obtain ⟨t',rfl⟩:=ry; exact PySem.W.ne_bytes (dB I q (congrArg not Gf))
  | _=>exact absurd (show false=true from hs) Bool.false_ne_true
 | _=>cases y <;> exact absurd (show false=true from hs) Bool.false_ne_true
theorem JM:pI X (compareOp .Lt) (Ti fun i j=>.bl (decide (i < j))):=Zg fun _ _ _ _ _ _ _ q=>lt_int q
theorem xM:pI X (compareOp .LtE) (Ti fun i j=>.bl (decide (i<=j))):=Zg fun _ _ _ _ _ _ _ q=>le_int q
theorem Tn:pI X (compareOp .Gt) (Ti fun i j=>.bl (decide (j < i))):=Zg fun _ _ _ _ _ _ _ q=>gt_int q
theorem dM (b:Expr) {op:CmpOp} (h:autoParam (op≠.In) zau1) (h2:autoParam (op≠.NotIn) zau1):behindInMarks op b=false:=by
 have e1:(op == CmpOp.In)=false:=by cases op <;> first | rfl | exact absurd rfl h
 have e2:(op == CmpOp.NotIn)=false:=by cases op <;> first | rfl | exact absurd rfl h2
 cases b <;> simp [behindInMarks,e1,e2]
theorem yS {op:CmpOp} {r:R2} (ho:pI X (compareOp op) r) (ha:PE X a ta) (hb:PE X b tb) (hm:behindInMarks op b=false):PE X (.Compare a [op] [b] pos) (tOp r ta tb):=by
 intro pins s σ H Q I h;exact wpAny_Compare1 (Ze ha hb I h fun v u s2 x y H2 I2 rx ry q=>ho pins s2 σ H2 x y v u Q I2 rx ry q) hm
def Tp (t:TE):TT:=fun σ H Q=>t σ H fun x H'=>∃ k,x=.bl k/\Q k H'
theorem dj {op:CmpOp} {r:R2} (ho:pI X (compareOp op) r) (ha:PE X a ta) (hb:PE X b tb) (hm:behindInMarks op b=false):PT X (.Compare a [op] [b] pos) (Tp (tOp r ta tb)):=by
 intro pins s σ H Q I h;refine wpAny_isTrue_Compare1 (dX (ha pins s σ H _ I h) fun v s1 ⟨x,H1,I1,r1,q1⟩=>dX (hb pins s1 σ H1 _ I1 q1) fun u s2 ⟨y,H2,I2,r2,q2⟩ =>
  dX (ho pins s2 σ H2 x y v u _ I2 r1 r2 q2) fun c s3 ⟨z,H3,I3,r3,k,e,q3⟩=>?_) hm
 subst e;cases r3;exact wpAny_truthy_bool ⟨H3,I3,q3⟩
def JN (r r':R2) (ta tb tc:TE):TE:=fun σ H Q=>ta σ H fun x H1=>tb σ H1 fun y H2=>r x y H2 fun z H3=>∃ k,z=.bl k /\ (if k=true then tc σ H3 fun w' H4=>r' y w' H4 Q else Q (.bl false) H3)
theorem uW {op op':CmpOp} {r r':R2} (ho:pI X (compareOp op) r) (ho':pI X (compareOp op') r') (ha:PE X a ta) (hb:PE X b tb) (hc:PE X c tc) (hm:autoParam (lastMarks [op,op'] [b,c]=false) zau5):PE X (.Compare a [op,op'] [b,c] pos) (JN r r' ta tb tc):=by
 intro pins s σ H Q I h;refine Compare_chain (dX (ha pins s σ H _ I h) fun v s1 ⟨x,H1,I1,r1,q1⟩=>chain_link (dX (hb pins s1 σ H1 _ I1 q1) fun u s2 ⟨y,H2,I2,r2,q2⟩ =>
  dX (ho pins s2 σ H2 x y v u _ I2 r1 r2 q2) fun d s3 ⟨z,H3,I3,r3,k,e,q3⟩=>?_)) hm
 subst e;cases r3;refine wpAny_truthy_bool ?_;cases k with
 | false=>exact ite_ff ⟨.bl false,H3,I3,rfl,q3⟩
 | true=>exact ite_tt (chain_last (dX (hc pins s3 σ H3 _ I3 q3) fun w' s4 ⟨z',H4,I4,r4,q4⟩=>ho' pins s4 σ H4 y z' u w' Q I4 r2 r4 q4))
theorem Al {op op':CmpOp} {r r':R2} (ho:pI X (compareOp op) r) (ho':pI X (compareOp op') r') (ha:PE X a ta) (hb:PE X b tb) (hc:PE X c tc) (hm:autoParam (lastMarks [op,op'] [b,c]=false) zau5):PT X (.Compare a [op,op'] [b,c] pos) (Tp (JN r r' ta tb tc)):=by
 intro pins s σ H Q I h;refine isTrue_chain (dX (ha pins s σ H _ I h) fun v s1 ⟨x,H1,I1,r1,q1⟩=>test_link (dX (hb pins s1 σ H1 _ I1 q1) fun u s2 ⟨y,H2,I2,r2,q2⟩ =>
  dX (ho pins s2 σ H2 x y v u _ I2 r1 r2 q2) fun d s3 ⟨z,H3,I3,r3,k,e,q3⟩=>?_)) hm
 subst e;cases r3;refine wpAny_truthy_bool ?_;cases k with
 | false =>
  obtain ⟨k',e',q'⟩:=q3;cases e';exact ite_ff ⟨H3,I3,q'⟩
 | true =>
  refine ite_tt (test_last (dX (hc pins s3 σ H3 _ I3 q3) fun w' s4 ⟨z',H4,I4,r4,q4⟩=>dX (ho' pins s4 σ H4 y z' u w' _ I4 r2 r4 q4) fun d' s5 ⟨z2,H5,I5,r5,k2,e2,q5⟩=>?_));subst e2;cases r5;exact wpAny_truthy_bool ⟨H5,I5,q5⟩
noncomputable def Zk (K:Fg) (x:V) (H:Hp) (k:Bool):Prop := match x with
 | .non=>k=false
 | .bl b=>k=b
 | .int i=>k=(i != 0)
 | .str y=>y.length<=sizeLine/\k=((y.length:Int) != 0)
 | .FW y=>y.size<=sizeLine/\k=((y.size:Int) != 0)
 | .ref p=>(∃ xs,cY K H p xs/\k=!xs.isEmpty)\/(∃ xs,tY K H p xs/\k=!xs.isEmpty)\/∃ kvs,H p=some (.dK kvs)/\k=!kvs.isEmpty
 | _=>False
theorem Dr {κ:Type} {kvs:List (κ × V)} {vs:List (κ × au)} (r:KV kvs vs):(!vs.isEmpty)=!kvs.isEmpty:=by
 cases r <;> rfl
theorem uX {xs:List V} {its:List au} (r:Vals xs its):(!its.toArray.isEmpty)=!xs.isEmpty:=by
 cases r <;> simp
theorem qU:(sizeLine:Nat) < 2 ^ 63:=by rw [sizeLine_eq]; decide
theorem Zm:aiB X (fun x H Q=>∃ k,Zk X.K x H k/\Q k H):=by
 intro pins s σ H x v Q I rx h;obtain ⟨k,e,q⟩:=h;have hl:=qU;have hs:sizeLine=16777216:=sizeLine_eq;cases x with
 | non =>
  cases rx;have e':k=false:=e;subst e';exact truthy_none ⟨H,I,q⟩
 | bl b =>
  cases rx;have e':k=b:=e;subst e';exact wpAny_truthy_bool ⟨H,I,q⟩
 | int i =>
  obtain ⟨t,rfl⟩:=rx;have e':k=(i != 0):=e;subst e';exact PySem.P.truthy_int ⟨H,I,q⟩
 | str y =>
  obtain ⟨t,rfl⟩:=rx;obtain ⟨hy,e'⟩:y.length<=sizeLine/\k=((y.length:Int) != 0):=e;subst e';exact PySem.P.truthy_str (by omega) ⟨H,I.tok _,q⟩
 | FW y =>
  obtain ⟨t,rfl⟩:=rx;obtain ⟨hy,e'⟩:y.size<=sizeLine/\k=((y.size:Int) != 0):=e;subst e';exact PySem.W.truthy_bytes (by omega) ⟨H,I.tok _,q⟩
 | ref p =>
  cases rx;have e':(∃ xs,cY X.K H p xs/\k=!xs.isEmpty)\/(∃ xs,tY X.K H p xs/\k=!xs.isEmpty)\/∃ kvs,H p=some (.dK kvs)/\k=!kvs.isEmpty:=e;rcases e' with ⟨xs,hx,e'⟩ | ⟨xs,hx,e'⟩ | ⟨kvs,hx,e'⟩
  ·subst e';obtain ⟨its,r,pl,hz⟩:=I.list hx;have hlen:=r.length;exact wpAny_truthy_list pl.isList (by simp only [size_toArray]; omega) ⟨H,I.tok _,by rw [uX r]; exact q⟩
  ·subst e';obtain ⟨its,r,pl,hz⟩:=I.tuple hx;have hlen:=r.length;exact truthy_tuple pl (by simp only [size_toArray]; omega) ⟨H,I.tok _,by rw [uX r]; exact q⟩
  ·subst e';obtain ⟨hz,hS,vs,r,m⟩:kvs.length<=sizeLine/\(p == sysModules)=false/\∃ vs,KV kvs vs/\s.heap.DictOf (uH X.prog X.w) p vs:=I.hok p _ hx;have hlen:kvs.length=vs.length:=Paired.length r;exact wpAny_truthy_dict hS m (by omega) ⟨H,I.tok _,by rw [Dr r]; exact q⟩
 | _=>exact (show False from e).elim
theorem Am (ha:PE X a ta) (he:∀ whole,isTrue a X.env whole=(do let v <- whole; standAt a.pos; holding [v] (truthy v))) :
  PT X a (fun σ H Q=>ta σ H fun x H'=>∃ k,Zk X.K x H' k/\Q k H'):=by
 intro pins s σ H Q I h;exact isTrue_plain (dX (ha pins s σ H _ I h) fun v s1 ⟨x,H1,I1,r1,q1⟩=>Zm pins s1 σ H1 x v Q I1 r1 q1) (he _)
theorem jr:pI X (binaryOp .Add) (fun x y H Q=>∃ i j,x=.str i/\y=.str j/\i.length + j.length<=sizeLine/\Q (.str (i++j)) H):=by
 intro pins s σ H x y v u Q I rx ry h;obtain ⟨i,j,rfl,rfl,hz,q⟩:=h;obtain ⟨t,rfl⟩:=rx;obtain ⟨t',rfl⟩:=ry;exact add_str (fun t' tk=>⟨.str (i++j),H,I.tok _,⟨_,rfl⟩,q⟩) hz
theorem vals1 {x:V} {us:List au} (r:Vals [x] us):∃ u,us=[u]/\RelV x u:=by
 cases r with
 | cons r1 r2=>cases r2; exact ⟨_,rfl,r1⟩
end
structure Ds (h:Heap) (x dx C:aA) (mA:Str->Option au):Prop where
 obj:h.get? x=some (instObj C dx)
 ns:h.Ns1 dx mA
 ne:dx≠x
theorem xO {h:Heap} {dx:aA} {mA:Str->Option au} (n:h.Ns1 dx mA):∃ od,h.get? dx=some od/\∀ name,lookIn name od=some (mA name):=by
 obtain ⟨o,es,ep,ho,hd,hk,_,hm⟩:=n;refine ⟨o,ho,fun name=>?_⟩;have e:=hm name;unfold nsFind findBy at e;rw [<- Array.find?_toList] at e;unfold lookIn;rw [hd];dsimp only
 split
 ·rename_i y q
  rw [q] at e;exact congrArg some e
 ·rename_i q
  rw [q] at e;have a:es.toList.any (·.refKey)=false:=by
   rw [List.any_eq_false];intro y hy;obtain ⟨z,t,hkey⟩:=hk y (Array.mem_toList_iff.mp hy);simp [DictEntry.refKey,hkey]
  have a':¬ es.toList.any (·.refKey)=true:=by rw [a]; exact Bool.false_ne_true
  rw [if_neg a'];exact congrArg some e
theorem Ds.look {h:Heap} {x dx C:aA} {mA:Str->Option au} (I:Ds h x dx C mA):∃ od,InstAt h x (instObj C dx) C (some od)/\∀ name,lookIn name od=some (mA name) := let ⟨od,ho,hl⟩:=xO I.ns
 ⟨od,⟨I.obj,rfl,rfl,ho⟩,hl⟩
section
variable {prog:bT} {w:World} {A:cL} {E:au->aG->Prop} {s:aG} {K:Fg} {x dx C f:aA} {mA:Str->Option au} {name:Str} {v:au}
theorem get_map {expr:Bool} {Q:au->aG->Prop} (X:K.In s.heap) (I:Ds s.heap x dx C mA) (hg:plainGet K C name=true) (hh:hasDictIn K C=true) (ha:findIn K (.ref C) name=some none) (hv:mA name=some v) (hv':handedIn v=true) (h:Q v { s with toks:=s.toks + 1 }) : wpAny (model prog w) A (getAttr (.ref x) name expr) Q E s:=by
 obtain ⟨od,J,hl⟩:=I.look;exact PySem.W.get_value X J (plainGet_of hg).1 (findObj_own hh ha rfl (by rw [hl,hv])) hv' h
theorem JQ {pl:Sem Bool} {Q:au × List au->aG->Prop} (X:K.In s.heap) (I:Ds s.heap x dx C mA) (hg:plainGet K C name=true) (hf:findIn K (.ref C) name=some (some (.ref f))) (ht:isFn K (.ref f)=true) (hv:mA name=none) (h:Q (.ref f,[.ref x]) s) : wpAny (model prog w) A (getMethod (.ref x) name pl) Q E s:=by
 obtain ⟨od,J,hl⟩:=I.look;exact PySem.W.method_fn X J (plainGet_of hg).1 (plainGet_of hg).2 hf (beq_iff_eq.mp ht) (by show (lookIn name od).map (·.isSome)=some false; rw [hl,hv]; rfl) h
theorem Qq {ns:List Str} {Q:Unit->aG->Prop} (X:K.In s.heap) (I:Ds s.heap x dx C mA) (hs:findIn K (.ref C) "__setattr__"=some (some (.builtin "object.__setattr__"))) (hp:plainOver K C=true) (ht:takerIn K C name=some none) (hh:hasDictIn K C=true) (hw:PySem.Within mA ns) (hsz:ns.length<=sizeLine) (h:∀ h',Ds h' x dx C (fun y=>if y=name then some v else mA y)->Heap.SameBut dx s.heap h'->Q () { s with heap:=h',toks:=s.toks + 2 }) : wpAny (model prog w) A (setAttr (.ref x) name v) Q E s:=by
 obtain ⟨od,J,hl⟩:=I.look;refine set_plain X J hs (PySem.W.osa_open (s:={ s with toks:=s.toks + 1 }) (r:=none) X J hp ht fun b=>?_);obtain ⟨cd,hc,hd'⟩:=any_some hh;have hx:s.heap.get? x=some ⟨.ref C,some dx,.plain,#[]⟩:=I.obj;refine aj (ak (aj (aj (wpAny_loadPart hx (aj (Looks.here (s:={ s with toks:=s.toks + 1 }) (looks_clsIn X hc) ?_))))));rw [hd'];refine ak (a:=some dx) (aj (ak (aj ?_)));refine wpAny_nsSet1 (s:={ s with toks:=s.toks + 1 }) I.ns fun h' hn2 hs2=>?_
 obtain ⟨oD,esD,epD,hoD,hdD,hcD⟩:=hn2.count (PySem.Within.cons name v hw);refine aj (wpAny_lookBehind hoD (by rw [hdD]; exact pastItsLine_dict (bA hcD (by rw [length_cons]; omega))) ?_);exact ak (h _ ⟨(hs2.2 _ (Ne.symm I.ne)).trans I.obj,hn2,I.ne⟩ hs2)
theorem Ao {R:Result->aG->Prop} {vs:List au} {kw:List (Str × au)} (X:K.In s.heap) (hm:makesIn K C=true) (hi:findIn K (.ref C) "__init__"=some (some (.ref f))) (hf:typeIn K (.ref f)=some (.type "function")) (h:codeAny (model prog w) (A.under (.builtin "type.__call__" ⟨.ref C::vs,kw⟩)) (.call (.ref f) ⟨.ref (s.heap.objs.size + 1)::vs,kw⟩) (PySem.W.InitBack (s.heap.objs.size + 1) R) { s with heap:=(s.heap.push emptyDict).push (instObj C s.heap.objs.size) }) : codeAny (model prog w) A (.call (.ref C) ⟨vs,kw⟩) R s:=by
 obtain ⟨hh,g,d,t,os⟩:=s;exact PySem.W.make_core (PySem.W.makes_of X hm) (looks_findIn X hi) (fun self=>PySem.W.bind_fn X self hf) (.inl rfl) h
end
def gh (f:Str) (v:V):List (Str × V)->List (Str × V)
 | []=>[(f,v)]
 | (g,x)::r=>if g=f then (g,v)::r else (g,x)::gh f v r
theorem uc (f g:Str) (v:V):∀ fs:List (Str × V),(gh f v fs).lookup g=if g=f then some v else fs.lookup g
 | []=>by
  show List.lookup g [(f,v)]=_
  by_cases h:g=f
  ·have hb:(g == f)=true:=beq_iff_eq.mpr h;simp only [List.lookup,hb,if_pos h]
  ·have hb:(g == f)=false:=beq_eq_false_iff_ne.mpr h;simp only [List.lookup,hb,if_neg h]
 | (k,x)::r=>by
  have ih:=uc f g v r;rw [show gh f v ((k,x)::r)=(if k=f then (k,v)::r else (k,x)::gh f v r) from rfl]
  by_cases hk:k=f
  ·rw [if_pos hk]
   by_cases h:g=k
   ·have hb:(g == k)=true:=beq_iff_eq.mpr h;simp only [List.lookup,hb,if_pos (h.trans hk)]
   ·have hb:(g == k)=false:=beq_eq_false_iff_ne.mpr h;simp only [List.lookup,hb,if_neg (fun e:g=f=>h (e.trans hk.symm))]
  ·rw [if_neg hk]
   by_cases h:g=k
   ·have hb:(g == k)=true:=beq_iff_eq.mpr h;simp only [List.lookup,hb,if_neg (fun e:g=f=>hk (h.symm.trans e))]
   ·have hb:(g == k)=false:=beq_eq_false_iff_ne.mpr h;simp only [List.lookup,hb];exact ih
theorem qW (f:Str) (v:V):∀ fs:List (Str × V),f ∈ (gh f v fs).map (·.1)/\∀ g,g ∈ fs.map (·.1)->g ∈ (gh f v fs).map (·.1)
 | []=>⟨by simp [gh],fun g h=>by simp at h⟩
 | (k,x)::r=>by
  obtain ⟨i1,i2⟩:=qW f v r;rw [show gh f v ((k,x)::r)=(if k=f then (k,v)::r else (k,x)::gh f v r) from rfl]
  by_cases hk:k=f
  ·rw [if_pos hk];subst hk;exact ⟨by simp,fun g h=>by simpa using h⟩
  ·rw [if_neg hk];refine ⟨?_,fun g h=>?_⟩
   ·rw [bw];exact mem_cons_of_mem _ i1
   ·rw [bw] at h ⊢;rcases aK.mp h with e | e
    ·exact aK.mpr (.inl e)
    ·exact mem_cons_of_mem _ (i2 g e)
theorem iR (f:Str) (v:V):∀ fs:List (Str × V),(gh f v fs).length<=fs.length + 1
 | []=>by simp [gh]
 | (k,x)::r=>by
  have ih:=iR f v r;rw [show gh f v ((k,x)::r)=(if k=f then (k,v)::r else (k,x)::gh f v r) from rfl]
  by_cases hk:k=f
  ·rw [if_pos hk,length_cons,length_cons]; omega
  ·rw [if_neg hk,length_cons,length_cons]; omega
theorem uR.some_of {v:V} {o:Option au} (r:uR (some v) o):∃ u,o=some u/\RelV v u:=by
 cases o with
 | none=>exact (show False from r).elim
 | some u=>exact ⟨u,rfl,r⟩
theorem uR.none_of {o:Option au} (r:uR none o):o=none:=by
 cases o with
 | none=>rfl
 | some u=>exact (show False from r).elim
theorem HS {v:V} {u:au} (r:RelV v u):handedIn u=true:=by
 cases v with
 | non=>cases (show u=Value.none from r); rfl
 | bl b=>cases (show u=Value.bool b from r); rfl
 | int i=>obtain ⟨t,e⟩:=(show ∃ t,u=Value.int i t from r); cases e; rfl
 | str x=>obtain ⟨t,e⟩:=(show ∃ t,u=Value.str x t from r); cases e; rfl
 | FW b=>obtain ⟨t,e⟩:=(show ∃ t,u=Value.bytes b t from r); cases e; rfl
 | flt b=>obtain ⟨t,e⟩:=(show ∃ t,u=Value.float b t from r); cases e; rfl
 | ref a=>cases (show u=Value.ref a from r); rfl
 | ty n=>cases (show u=Value.type n from r); rfl
section
variable {P:bT} {w:World} {H H':Hp} {h h':Heap} {a C dx:aA} {fs fs':List (Str × V)}
theorem uI (hok:qP P w H h) (e:H a=some (.ins C dx fs)):∃ mA,Ds h a dx C mA/\(∀ f,uR (fs.lookup f) (mA f))/\PySem.Within mA (fs.map (·.1))/\fs.length<=1000/\H dx=some (.own a):=by
 obtain ⟨d,z,ne,ob,mA,n,r,q⟩:=(show dJ P w H h a (.ins C dx fs) from hok a _ e);exact ⟨mA,⟨ob,n,ne⟩,r,q,z,d⟩
end
structure Cls (K:Fg) (C:aA):Prop where
 pg:plainGet K C Str.empty=true
 hd:hasDictIn K C=true
 po:plainOver K C=true
 sa:findIn K (.ref C) "__setattr__"=some (some (.builtin "object.__setattr__"))
theorem Cls.get {K:Fg} {C:aA} (c:Cls K C) (f:Str):plainGet K C f=true:=c.pg
def iH (K:Fg) (C:aA) (f:Str):Prop:=findIn K (.ref C) f=some none
theorem iH.taker {K:Fg} {C:aA} {f:Str} (n:iH K C f):takerIn K C f=some none:=by
 unfold takerIn;rw [show findIn K (.ref C) f=some none from n];rfl
structure Meth (K:Fg) (C:aA) (m:Str) (f:aA):Prop where
 at_:findIn K (.ref C) m=some (some (.ref f))
 fn:isFn K (.ref f)=true
 kp:keepIn K (.ref f)=true
section
variable {X:Cx} {pins:List (aA × Obj)} {σ:St} {H:Hp} {s:aG} {a C dx:aA} {fs:List (Str × V)} {f:Str} {v:V} {A:cL} {E:au->aG->Prop}
theorem Dt {b:Bool} {Q:au->aG->Prop} (I:Inv X pins σ H s) (e:H a=some (.ins C dx fs)) (c:Cls X.K C) (n:iH X.K C f) (l:fs.lookup f=some v) (h:∀ u s',Inv X pins σ H s'->RelV v u->Q u s'):wpAny (model X.prog X.w) A (getAttr (.ref a) f b) Q E s:=by
 obtain ⟨mA,O,r,_,_,_⟩:=uI I.hok e;obtain ⟨u,hu,ru⟩:=uR.some_of (v:=v) (o:=mA f) (by rw [<- l]; exact r f);exact get_map I.jM O (c.get f) c.hd n hu (HS ru) (h u _ (I.tok _) ru)
theorem lM {m:Str} {g:aA} {pl:Sem Bool} {Q:au × List au->aG->Prop} (I:Inv X pins σ H s) (e:H a=some (.ins C dx fs)) (c:Cls X.K C) (k:Meth X.K C m g) (l:fs.lookup m=none) (h:Q (.ref g,[.ref a]) s):wpAny (model X.prog X.w) A (getMethod (.ref a) m pl) Q E s:=by
 obtain ⟨mA,O,r,_,_,_⟩:=uI I.hok e;have hn:mA m=none:=uR.none_of (by rw [<- l]; exact r m);exact JQ I.jM O (c.get m) k.at_ k.fn hn h
theorem Du {y:V} {u:au} {Q:Unit->aG->Prop} (I:Inv X pins σ H s) (e:H a=some (.ins C dx fs)) (c:Cls X.K C) (n:iH X.K C f) (hl:fs.length < 1000) (ry:RelV y u) (h:∀ s',Inv X pins σ (upd H a (.ins C dx (gh f y fs))) s'->Q () s'):wpAny (model X.prog X.w) A (setAttr (.ref a) f u) Q E s:=by
 obtain ⟨mA,O,r,wi,_,ho⟩:=uI I.hok e;have hz:(fs.map (·.1)).length<=sizeLine:=by rw [aq,sizeLine_eq]; omega
 refine Qq I.jM O c.sa c.po n.taker c.hd wi hz fun h' O' sb=>h _ ?_
 have hd:∃ o,h'.get? dx=some o:=let ⟨o,_,_,e',_⟩:=O'.ns; ⟨o,e'⟩;refine I.write (x:=a) (e:=dx) (by rw [e]; exact True.intro) (.inr ho) (fun b q hb z=>(sb.2 b hb).trans z) hd ?_;refine ⟨by rw [bx O.ne]; exact ho,?_,O.ne,O'.obj,_,O'.ns,fun g=>?_,fun g hg=>?_⟩
 ·have:=iR f y fs; omega
 ·show uR ((gh f y fs).lookup g) (if g=f then some u else mA g)
  rw [uc]
  by_cases q:g=f
  ·rw [if_pos q,if_pos q]; exact ry
  ·rw [if_neg q,if_neg q]; exact r g
 ·by_cases q:g=f
  ·rw [q]; exact (qW f y fs).1
  ·refine (qW f y fs).2 g (wi g fun z=>hg ?_)
   show (if g=f then some u else mA g)=none
   rw [if_neg q]; exact z
theorem Inv.made (I:Inv X pins σ H s):Inv X pins σ (upd (upd H s.heap.objs.size (.own (s.heap.objs.size + 1))) (s.heap.objs.size + 1) (.ins C s.heap.objs.size [])) { s with heap:=(s.heap.push emptyDict).push (instObj C s.heap.objs.size) }:=by
 have e1:(s.heap.push emptyDict).get? s.heap.objs.size=some emptyDict:=aD s.heap rfl;have e2:((s.heap.push emptyDict).push (instObj C s.heap.objs.size)).get? (s.heap.objs.size + 1)=some (instObj C s.heap.objs.size):=by
  have:=aD (s.heap.push emptyDict) (o:=instObj C s.heap.objs.size) rfl
  rwa [Heap.size_push] at this
 have e3:(s.heap.push emptyDict).Ns s.heap.objs.size (fun _=>none):=⟨emptyDict,#[],_,e1,rfl,(fun e he=>absurd he (by simp)),fun _=>rfl⟩;have I1:=I.laid (a:=s.heap.objs.size) (o:=.own (s.heap.objs.size + 1)) (h':=s.heap.push emptyDict) (t':=s.toks) (fun b u q=>ao _ q) (aH _) ⟨_,e1⟩;refine I1.laid (a:=s.heap.objs.size + 1) (o:=.ins C s.heap.objs.size []) (t':=s.toks) (fun b u q=>ao _ q) (Nat.le_of_eq (Heap.size_push _ _)) ?_;have ne:s.heap.objs.size≠s.heap.objs.size + 1:=Nat.ne_of_lt (Nat.lt_succ_self _);refine ⟨by rw [bx ne,aC],dD _,ne,e2,fun _=>none,(Heap.Ns1.of_empty e3).at fun o q=>ao _ q,fun _=>True.intro,fun y hy=>absurd rfl hy⟩
theorem Gg {prog:bT} {w:World} {env:Env} {e:Expr} {f:Str} {pos:Pos} {s:aG} {Q:au->aG->Prop} (hb:attributeBase e f env (eval e env)=eval e env) (h:wpAny (model prog w) A (eval e env) (fun o s₁=>wpAny (model prog w) A (getAttr o f true) Q E s₁) E s):wpAny (model prog w) A (eval (.Attribute e f pos) env) Q E s := Attribute_any_ h (by rw [arm_eval_Attribute,hb])
end
def ad0 (K:Fg) (ta:TE) (f:Str):TE:=fun σ H Q=>ta σ H fun x H1=>∃ a C dx fs v,x=.ref a/\H1 a=some (.ins C dx fs)/\Cls K C/\iH K C f/\fs.lookup f=some v/\Q v H1
noncomputable def aiE (K:Fg) (ta tv:TE) (f:Str):TS:=fun D σ H=>tv σ H fun y H1=>ta σ H1 fun x H2=>∃ a C dx fs,x=.ref a/\H2 a=some (.ins C dx fs)/\Cls K C/\iH K C f/\fs.length < 1000 /\ D.nx σ (upd H2 a (.ins C dx (gh f y fs)))
section
variable {X:Cx} {o e value:Expr} {f:Str} {pos pos' tpos:Pos} {ta tv:TE}
theorem fP (he:PE X e ta) (hb:attributeBase e f X.env (eval e X.env)=eval e X.env):PE X (.Attribute e f pos) (ad0 X.K ta f):=by
 intro pins s σ H Q I h;refine Gg hb (dX (he pins s σ H _ I h) fun u s1 ⟨x,H1,I1,rx,a,C,dx,fs,v,ex,ea,c,n,l,q⟩=>?_);subst ex;obtain rfl:u=Value.ref a:=rx;exact Dt I1 ea c n l fun u' s2 I2 ru=>⟨v,H1,I2,ru,q⟩
theorem pN (ha:PE X o ta) (hv:PE X value tv) (hs:swapsWith value (some (.Attribute o f pos')) pos.line X.env=pure false):PS X (.Assign [.Attribute o f pos'] value pos) (aiE X.K ta tv f):=by
 intro pins s σ H D I h;refine plainObj_wpAny_Assign_Attribute (dX (hv pins s σ H _ I h) fun u s1 ⟨y,H1,I1,ry,q⟩=>dX (ha pins s1 σ H1 _ I1 q) fun ov s2 ⟨x,H2,I2,rx,a,C,dx,fs,ex,ea,c,n,l,q2⟩=>?_) hs;subst ex;obtain rfl:ov=Value.ref a:=rx;exact Du I2 ea c n l ry fun s3 I3=>⟨σ,_,I3,q2⟩
theorem Tq {pl:Sem Bool} {m:Str} {apos:Pos} {args:List Expr} {pins:List (aA × Obj)} {s:aG} {σ:St} {H:Hp} {Q:au->aG->Prop} {te:TE} (he:PE X e te) (I:Inv X pins σ H s) (h:te σ H fun x H1=>∃ a C dx fs g,x=.ref a/\H1 a=some (.ins C dx fs)/\Cls X.K C/\Meth X.K C m g/\fs.lookup m=none /\ ∀ s1,Inv X pins σ H1 s1->wpAny (model X.prog X.w) X.A (callWith pos (.ref g) [.ref a] (backTo pos (starEach args X.env)) (backToKw pos (keywordEach [] X.env))) Q X.xe s1) (ht:eval (.Call (.Attribute e m apos) args [] pos) X.env=(do
   let ov <- eval e X.env
   standAt apos.atName
   let (f,first) <- holding [ov] (getMethod ov m pl)
   callWith pos f first (backTo pos (starEach args X.env)) (backToKw pos (keywordEach [] X.env)))) :
  wpAny (model X.prog X.w) X.A (eval (.Call (.Attribute e m apos) args [] pos) X.env) Q X.xe s:=by
 refine methodCall_KW (pl:=pl) (dX (he pins s σ H _ I h) fun u s1 ⟨x,H1,I1,rx,a,C,dx,fs,g,ex,ea,c,k,l,q⟩=>?_) ht;subst ex;obtain rfl:u=Value.ref a:=rx;exact lM I1 ea c k l (q s1 I1)
end
section
variable {X:Cx} {pins:List (aA × Obj)} {σ:St} {H:Hp} {s:aG} {A:cL} {E:au->aG->Prop} {Q:au->aG->Prop} {c:au} {b:Bool}
inductive pO (K:Fg) (H:Hp):V->au->Prop where
 | non:pO K H .non (.type "NoneType")
 | bl (x:Bool):pO K H (.bl x) (.type "bool")
 | int (i:Int):pO K H (.int i) (.type "int")
 | str (x:Str):pO K H (.str x) (.type "str")
 | flt (x:UInt64):pO K H (.flt x) (.type "float")
 | lst {a:aA} {xs:List V} (e:H a=some (.lst xs)):pO K H (.ref a) (.type "list")
 | Ai {a:aA} {o:Obj} {xs:List V} (e:H a=some (.Ai o (.lst xs))):pO K H (.ref a) (.type "list")
 | tup {a:aA} {xs:List V} (e:H a=some (.tup xs)):pO K H (.ref a) (.type "tuple")
 | dK {a:aA} {kvs:List (Key × V)} (e:H a=some (.dK kvs)):pO K H (.ref a) (.type "dict")
 | dT {a:aA} {kvs:List (List Key × V)} (e:H a=some (.dT kvs)):pO K H (.ref a) (.type "dict")
 | ins {a C dx:aA} {fs:List (Str × V)} (e:H a=some (.ins C dx fs)) (cl:Cls K C) (ha:findIn K (.ref C) "__class__"=some (some (.builtin "object.__class__"))) (hn:specialIn K (.builtin "object.__class__") "__get__"=some (some (.builtin "getset_descriptor.__get__"))) (htk:takesIn K (.builtin "object.__class__")=some true) (hm:mroIn K C (.type "object")=some true):pO K H (.ref a) (.ref C)
theorem xP {x:V} {u t:au} (I:Inv X pins σ H s) (rx:RelV x u) (ty:pO X.K H x t) (e:kitOne X.K t c=some b) (h:∀ tk,Q (.bool b) { s with toks:=tk }) : wpAny (model X.prog X.w) A (call (.builtin "isinstance") [u,c]) Q E s:=by
 cases ty with
 | non=>cases (show u=Value.none from rx); exact kia_one PySem.W.kitx_none I.jM True.intro e (fun z=>nomatch z) h
 | bl y=>cases (show u=Value.bool y from rx); exact kia_one PySem.W.kitx_bool I.jM True.intro e (fun z=>nomatch z) h
 | int i=>obtain ⟨t,q⟩:=(show ∃ t,u=Value.int i t from rx); cases q; exact kia_one PySem.W.kitx_int I.jM True.intro e (fun z=>nomatch z) h
 | str y=>obtain ⟨t,q⟩:=(show ∃ t,u=Value.str y t from rx); cases q; exact kia_one PySem.W.kitx_str I.jM True.intro e (fun z=>nomatch z) h
 | flt y=>obtain ⟨t,q⟩:=(show ∃ t,u=Value.float y t from rx); cases q; exact kia_one PySem.W.kitx_float I.jM True.intro e (fun z=>nomatch z) h
 | @lst a xs ea =>
  cases (show u=Value.ref a from rx);obtain ⟨_,_,n,_,h1⟩:=(show dJ X.prog X.w H s.heap a (.lst xs) from I.hok a _ ea);exact kia_one kitx_list I.jM ⟨_,h1,rfl⟩ e (fun z=>nomatch z) h
 | @Ai a ob xs ea =>
  cases (show u=Value.ref a from rx);obtain ⟨_,_,_,n,_,h1⟩:=(show dJ X.prog X.w H s.heap a (.Ai ob (.lst xs)) from I.hok a _ ea);exact kia_one kitx_list I.jM ⟨_,h1,rfl⟩ e (fun z=>nomatch z) h
 | @tup a xs ea =>
  cases (show u=Value.ref a from rx);obtain ⟨_,_,_,p⟩:=(show dJ X.prog X.w H s.heap a (.tup xs) from I.hok a _ ea);obtain ⟨o,h1,h2,_⟩:=p;exact kia_one PySem.W.kitx_tuple I.jM ⟨o,h1,h2⟩ e (fun z=>nomatch z) h
 | @dK a kvs ea =>
  cases (show u=Value.ref a from rx);obtain ⟨_,_,vs,_,p⟩:=(show dJ X.prog X.w H s.heap a (.dK kvs) from I.hok a _ ea);obtain ⟨o,es,ep,h1,h2,_⟩:=p;exact kia_one kitx_dict I.jM ⟨o,h1,h2.1⟩ e (fun z=>nomatch z) h
 | @dT a kvs ea =>
  cases (show u=Value.ref a from rx);obtain ⟨_,_,xs,_,o,es,ep,h1,h2,_⟩:=(show dJ X.prog X.w H s.heap a (.dT kvs) from I.hok a _ ea);exact kia_one kitx_dict I.jM ⟨o,h1,h2.1⟩ e (fun z=>nomatch z) h
 | @ins a C dx fs ea cl ha hn htk hm =>
  cases (show u=Value.ref a from rx);obtain ⟨mA,O,_⟩:=uI I.hok ea;obtain ⟨od,J,_⟩:=O.look;exact kia_one (PySem.W.kitx_own (cl.get _) cl.hd ha hn htk hm) I.jM J e (fun z=>nomatch z) h
end
structure d7 (k:Nat) (A:cL):Prop where
 hd:A.handled=none
 dp:A.depth + 3 * k + 5 < recursionLimit
 un:A.units + 16 * k + 200 < cLine
theorem d7.mono {j k:Nat} {A:cL} (r:d7 k A) (h:j<=k):d7 j A:=⟨r.hd,by have:=r.dp; omega,by have:=r.un; omega⟩
theorem d7.deeper {k:Nat} {A:cL} (r:d7 (k + 1) A) (env:Env):d7 k (A.deeper env) := ⟨r.hd,by have:=r.dp; show A.depth + 1 + 3 * k + 5 < _; omega,by have:=r.un; show A.units + 3 + 16 * k + 200 < _; omega⟩
theorem uY {A:cL} {C:aA} {us:List au} {kw:List (Str × au)}:(A.under (.builtin "type.__call__" ⟨.ref C::us,kw⟩)).depth=A.depth + 1:=by
 first | rfl | simp [Around.under,Code.weight,Code.isCreation,Code.isGuard,Code.isCaller,Code.frames,Code.isFrame,guardIds]
theorem uZ {A:cL} {C:aA} {us:List au} {kw:List (Str × au)}:(A.under (.builtin "type.__call__" ⟨.ref C::us,kw⟩)).units=A.units + 1:=by
 first | rfl | simp [Around.under,Code.cUnits,Code.frames,Code.isFrame]
theorem d7.make {k:Nat} {A:cL} (r:d7 (k + 1) A) (C:aA) (us:List au) (kw:List (Str × au)):d7 k (A.under (.builtin "type.__call__" ⟨.ref C::us,kw⟩)) := ⟨r.hd,by have:=r.dp; rw [uY]; omega,by have:=r.un; rw [uZ]; omega⟩
theorem d7.depth {k:Nat} {A:cL} (r:d7 k A):A.depth < recursionLimit:=by have:=r.dp; omega
theorem d7.units {k:Nat} {A:cL} (r:d7 k A):A.units + 64 < cLine:=by have:=r.un; omega
def JR:TA:=fun _ H Q=>Q [] H
def Aq (ta:TE) (tr:TA):TA:=fun σ H Q=>ta σ H fun x H1=>tr σ H1 fun xs H2=>Q (x::xs) H2
section
variable {X:Cx} {e:Expr} {es:List Expr} {te:TE} {t:TA} {pos:Pos}
theorem aJ:PA X [] JR:=fun _ _ _ _ H Q I h=>Calls.spliced_nil ⟨[],H,I,.nil,h⟩
theorem aB (ha:PE X e te) (hr:PA X es t) (hs:autoParam (starEach (e::es) X.env=(false,eval e X.env)::starEach es X.env) zau0):PA X (e::es) (Aq te t):=by
 intro pos pins s σ H Q I h;rw [hs]
 show wpAny _ _ (spliced ((false,eval e X.env)::backTo pos (starEach es X.env))) _ _ s
 refine Calls.spliced_cons (dX (ha pins s σ H _ I h) fun u s1 ⟨x,H1,I1,r1,q1⟩=>?_);exact dX (hr pos pins s1 σ H1 _ I1 q1) fun us s2 ⟨xs,H2,I2,r2,q2⟩=>⟨x::xs,H2,I2,.cons r1 r2,q2⟩
def aiF (t:TA):TE:=fun σ H Q=>t σ H fun xs H1=>xs.length<=sizeLine/\∀ p,H1 p=none->Q (.ref p) (upd H1 p (.tup xs))
def aiG (t:TA):TE:=fun σ H Q=>t σ H fun xs H1=>xs.length<=sizeLine/\∀ p,H1 p=none->Q (.ref p) (upd H1 p (.lst xs))
theorem u0 {x1} (h:PA X es t):PE X (.Tuple es x1 pos) (aiF t):=by
 intro pins s σ H Q I hq;refine wpAny_Tuple_spliced (dX (h pos pins s σ H _ I hq) fun us s1 ⟨xs,H1,I1,r,z,q⟩=>⟨by rw [<- r.length]; exact z,?_⟩);have hf:H1 s1.heap.objs.size=none:=I1.hok.fresh (aH _);refine ⟨.ref s1.heap.objs.size,upd H1 s1.heap.objs.size (.tup xs),I1.laid (t':=s1.toks) (fun b u e=>ao _ e) (aH _) ?_,rfl,q _ hf⟩;exact ⟨z,us,r,⟨_,aD _ rfl,rfl,_,rfl⟩⟩
theorem cX (h:PA X es t):PE X (.List es pos) (aiG t):=by
 intro pins s σ H Q I hq;refine wpAny_List_spliced (dX (h pos pins s σ H _ I hq) fun us s1 ⟨xs,H1,I1,r,z,q⟩=>⟨by rw [<- r.length]; exact z,?_⟩);have hf:H1 s1.heap.objs.size=none:=I1.hok.fresh (aH _);refine ⟨.ref s1.heap.objs.size,upd H1 s1.heap.objs.size (.lst xs),I1.laid (t':=s1.toks) (fun b u e=>ao _ e) (aH _) ?_,rfl,q _ hf⟩;exact ⟨z,us,0,r,aD _ rfl⟩
end
abbrev Sp:=List V->Hp->VK->XK->Prop
abbrev wX:=List Env->Hp->aG->XK->au->aG->Prop
structure Ar (P:bT) (w:World) (K:Fg) (mg:Str->Option au) (base:Heap) (A:cL) (outer:List Env) (s:aG) (H:Hp):Prop where
 frames:A.frames=some outer
 mod:Mod K mg base
 bs:∀ b o,base.get? b=some o->s.heap.get? b=some o/\H b=none
 HB:base.objs.size<=s.heap.objs.size
 o9:s.heap.FunFrames base outer
 Og:∀ b ∈ frs outer,H b=none
 hok:qP P w H s.heap
 bare:AllBare s.gens
def CE (outer:List Env) (P:bT) (w:World) (H:Hp) (s:aG) (Q:VK) (u:au) (s':aG):Prop := ∃ v H',s'.os=s.os/\AllBare s'.gens/\Un (frs outer) [] H H' s.heap s'.heap/\qP P w H' s'.heap/\RelV v u/\Q v H'
noncomputable def CR (CX:wX) (outer:List Env) (P:bT) (w:World) (H:Hp) (s:aG) (Q:VK) (E:XK) (r:Result) (s':aG):Prop := match r with
 | .ok (.ret u)=>CE outer P w H s Q u s'
 | .ok _=>False
 | .error e=>CX outer H s E e s'
structure cC (P:bT) (w:World) (K:Fg) (mg:Str->Option au) (base:Heap) (CX:wX) (k:Nat) (f:aA) (fd:dN) (ps:List Str) (sp:Sp):Prop where
 len:∀ vs H Q E,sp vs H Q E->vs.length=ps.length
 run:∀ (A:cL) (outer:List Env) (s:aG) (H:Hp) (args:Args) (us:List au) (vs:List V) (Q:VK) (E:XK),d7 k A->Ar P w K mg base A outer s H->BindsTo s fd args (ps.zip us)->Vals vs us->sp vs H Q E -> codeAny (model P w) A (.call (.ref f) args) (CR CX outer P w H s Q E) s
theorem cC.mono {P:bT} {w:World} {K:Fg} {mg:Str->Option au} {base:Heap} {CX:wX} {j k:Nat} {f:aA} {fd:dN} {ps:List Str} {sp:Sp} (F:cC P w K mg base CX j f fd ps sp) (h:j<=k) : cC P w K mg base CX k f fd ps sp:=⟨F.len,fun A outer s H args us vs Q E hr=>F.run A outer s H args us vs Q E (hr.mono h)⟩
theorem Ar.make {P:bT} {w:World} {K:Fg} {mg:Str->Option au} {base:Heap} {A:cL} {outer:List Env} {s:aG} {H:Hp} (e:Ar P w K mg base A outer s H) (C:aA) (us:List au) (kw:List (Str × au)) : Ar P w K mg base (A.under (.builtin "type.__call__" ⟨.ref C::us,kw⟩)) outer s H:=⟨by first | exact e.frames | (simpa [Around.under,Code.envs,Code.isFrame,pushEnvs] using e.frames),e.mod,e.bs,e.HB,e.o9,e.Og,e.hok,e.bare⟩
section
variable {X:Cx} {pins:List (aA × Obj)} {σ:St} {H:Hp} {s s':aG}
theorem Inv.env0 (I:Inv X pins σ H s):Ar X.prog X.w X.K X.mg X.base X.A X.stack s H := ⟨I.ok.frames,I.ok.mod,I.bs,bA I.ok.HB I.sz,I.stack,I.yQ,I.hok,I.bare⟩
theorem Inv.after {Q:VK} {u:au} (I:Inv X pins σ H s) (h:CE X.stack X.prog X.w H s Q u s'):EP X pins σ Q u s':=by
 obtain ⟨v,H',os,bare,un,hok,r,q⟩:=h;obtain ⟨hh,g,d,t,os'⟩:=s';obtain rfl:os'=s.os:=os;exact ⟨v,H',I.call (h':=hh) (g':=g) (d':=d) (t':=t) (ch:=[]) un hok bare (fun b z=>absurd z (by simp)),r,q⟩
end
def Gh (sp:Sp) (oJ:List V) (E:XK) (t:TA):TE:=fun σ H Q=>t σ H fun vs H1=>sp (vs++oJ) H1 Q E
noncomputable def ad1 (C:aA) (m:Str) (sp:Sp) (oJ:List V) (E:XK) (ta:TE) (t:TA):TE:=fun σ H Q=>ta σ H fun x H1=>∃ a dx fs,x=.ref a/\H1 a=some (.ins C dx fs)/\fs.lookup m=none /\ t σ H1 fun vs H2=>sp (x::(vs++oJ)) H2 Q E
noncomputable def JT (C:aA) (sp:Sp) (oJ:List V) (E:XK) (t:TA):TE:=fun σ H Q=>t σ H fun vs H1=>∀ x dx,H1 x=none->H1 dx=none->dx≠x -> sp (.ref x::(vs++oJ)) (upd (upd H1 dx (.own x)) x (.ins C dx [])) (fun v H2=>v=.non/\Q (.ref x) H2) E
def Binds (K:Fg) (fd:dN) (ps:List Str) (ds:List au):Prop := ∀ (s:aG) (us:List au),K.In s.heap->(us++ds).length=ps.length->BindsTo s fd ⟨us,[]⟩ (ps.zip (us++ds))
theorem Binds.all {K:Fg} {fd:dN} {ps:List Str} (h:∀ us:List au,us.length=ps.length->bindArgs fd ⟨us,[]⟩=pure (ps.zip us)):Binds K fd ps []:=fun s us _ hl=>by
 rw [cN] at hl ⊢;exact .of_eq (h us hl)
def Passes (CX:wX) (X:Cx) (E:XK):Prop:=∀ (pins:List (aA × Obj)) (σ:St) (H:Hp) (s:aG) (e:au) (s':aG),Inv X pins σ H s->CX X.stack H s E e s'->X.xe e s'
section
variable {X:Cx} {CX:wX} {k:Nat} {f C:aA} {fd:dN} {ps:List Str} {sp:Sp} {oJ:List V} {ds:List au} {E:XK} {x m:Str} {p pos apos:Pos} {e o:Expr} {es:List Expr} {ta:TE} {t:TA}
theorem vd {pins:List (aA × Obj)} {σ:St} {H:Hp} {s:aG} {Q:VK} {us:List au} {vs:List V} (F:cC X.prog X.w X.K X.mg X.base CX k f fd ps sp) (hr:d7 k X.A) (hb:Binds X.K fd ps ds) (hd:Vals oJ ds) (hx:Passes CX X E) (I:Inv X pins σ H s) (r:Vals vs us) (h:sp (vs++oJ) H Q E):wpAny (model X.prog X.w) X.A (call (.ref f) us) (EP X pins σ Q) X.xe s:=by
 have r2:Vals (vs++oJ) (us++ds):=r.append hd;have hl:(us++ds).length=ps.length:=by rw [<- r2.length]; exact F.len _ _ _ _ h
 refine wpAny_call (bL (F.run X.A X.stack s H ⟨us,[]⟩ (us++ds) (vs++oJ) Q E hr I.env0 (hb s us I.jM hl) r2 h) fun r s' hq=>?_);cases r with
 | error e=>exact hx pins σ H s e s' I hq
 | ok fl =>
  cases fl with
  | ret u=>exact I.after hq
  | next=>exact False.elim hq
  | brk=>exact False.elim hq
  | cont=>exact False.elim hq
theorem Qs (F:cC X.prog X.w X.K X.mg X.base CX k f fd ps sp) (hr:d7 k X.A) (hg:Gl X x) (hm:X.mg x=some (.ref f)) (hk:keepIn X.K (.ref f)=true) (hb:Binds X.K fd ps ds) (hd:Vals oJ ds) (hx:Passes CX X E) (ha:PA X (e::es) t) (hdb:autoParam ((x == ("__debug__":Str))=false) zau1) (he:autoParam (starEach (e::es) X.env=(false,eval e X.env)::starEach es X.env) zau0) (hpl:autoParam ((backTo pos (starEach es X.env)).any (·.1)=false) zau0) : PE X (.Call (.Name x p) (e::es) [] pos) (Gh sp oJ E t):=by
 intro pins s σ H Q I h;refine wpAny_Call_Name_kw (gF I hg hm ?_ hdb);refine callWith_K (h₀:=X.base) I.ok.mod.wW hk (dX (ha pos pins s σ H _ I h) fun us s1 ⟨vs,H1,I1,r,q⟩=>⟨I1.jM,?_⟩) he hpl;exact vd F hr hb hd hx I1 r q
theorem JV {pl:Sem Bool} (he:PE X o ta) (c:Cls X.K C) (hm:Meth X.K C m f) (F:cC X.prog X.w X.K X.mg X.base CX k f fd ps sp) (hr:d7 k X.A) (hb:Binds X.K fd ps ds) (hd:Vals oJ ds) (hx:Passes CX X E) (ht:autoParam (eval (.Call (.Attribute o m apos) [] [] pos) X.env=(do
   let ov <- eval o X.env
   standAt apos.atName
   let (f,first) <- holding [ov] (getMethod ov m pl)
   callWith pos f first (backTo pos (starEach [] X.env)) (backToKw pos (keywordEach [] X.env)))) zau0) :
  PE X (.Call (.Attribute o m apos) [] [] pos) (ad1 C m sp oJ E ta JR):=by
 intro pins s σ H Q I h;refine methodCall_KW (pl:=pl) (dX (he pins s σ H _ I h) fun u s1 ⟨x,H1,I1,rx,a,dx,fs,ex,ea,l,q⟩=>?_) ht;subst ex;obtain rfl:u=Value.ref a:=rx;refine lM I1 ea c hm l ?_;exact callWith_K0 (first:=[.ref a]) I1.jM hm.kp (vd (us:=[.ref a]) (vs:=[.ref a]) F hr hb hd hx I1 (.cons rfl .nil) q)
structure Mk (K:Fg) (C f:aA):Prop where
 makes:makesIn K C=true
 init:findIn K (.ref C) "__init__"=some (some (.ref f))
 fn:isFn K (.ref f)=true
 kp:keepIn K (.ref C)=true
theorem JW {pins:List (aA × Obj)} {σ:St} {H:Hp} {s:aG} {Q:VK} {us:List au} {vs:List V} (M:Mk X.K C f) (F:cC X.prog X.w X.K X.mg X.base CX k f fd ps sp) (hr:d7 (k + 1) X.A) (hb:Binds X.K fd ps ds) (hd:Vals oJ ds) (hx:Passes CX X E) (I:Inv X pins σ H s) (r:Vals vs us) (h:∀ x dx,H x=none->H dx=none->dx≠x->sp (.ref x::(vs++oJ)) (upd (upd H dx (.own x)) x (.ins C dx [])) (fun v H2=>v=.non/\Q (.ref x) H2) E) : wpAny (model X.prog X.w) X.A (call (.ref C) us) (EP X pins σ Q) X.xe s:=by
 have hq:=h (s.heap.objs.size + 1) s.heap.objs.size (I.hok.fresh (Nat.le_succ _)) (I.hok.fresh (aH _)) (Nat.ne_of_lt (Nat.lt_succ_self _));have I2:=Inv.made (C:=C) I;have r2:Vals (V.ref (s.heap.objs.size + 1)::(vs++oJ)) (Value.ref (s.heap.objs.size + 1)::(us++ds)):=.cons rfl (r.append hd);have hl:(Value.ref (s.heap.objs.size + 1)::us++ds).length=ps.length:=by
  have e:=r2.length;rw [F.len _ _ _ _ hq] at e;exact e.symm
 refine wpAny_call (Ao (f:=f) I.jM M.makes M.init (beq_iff_eq.mp M.fn) (bL (F.run _ X.stack _ _ ⟨Value.ref (s.heap.objs.size + 1)::us,[]⟩ (Value.ref (s.heap.objs.size + 1)::(us++ds)) _ _ E (hr.make C us []) (I2.env0.make C us []) (hb _ (Value.ref (s.heap.objs.size + 1)::us) I2.jM hl) r2 hq) fun r s' hq'=>?_));cases r with
 | error e=>exact hx pins σ _ _ e s' I2 hq'
 | ok fl =>
  cases fl with
  | ret u =>
   obtain ⟨v,H',I3,rv,ev,q3⟩:=I2.after hq';subst ev;exact ⟨rv,⟨V.ref (s.heap.objs.size + 1),H',I3,rfl,q3⟩⟩
  | next=>exact False.elim hq'
  | brk=>exact False.elim hq'
  | cont=>exact False.elim hq'
theorem Qt (M:Mk X.K C f) (F:cC X.prog X.w X.K X.mg X.base CX k f fd ps sp) (hr:d7 (k + 1) X.A) (hg:Gl X x) (hm:X.mg x=some (.ref C)) (hb:Binds X.K fd ps ds) (hd:Vals oJ ds) (hx:Passes CX X E) (ha:PA X (e::es) t) (hdb:autoParam ((x == ("__debug__":Str))=false) zau1) (he:autoParam (starEach (e::es) X.env=(false,eval e X.env)::starEach es X.env) zau0) (hpl:autoParam ((backTo pos (starEach es X.env)).any (·.1)=false) zau0) : PE X (.Call (.Name x p) (e::es) [] pos) (JT C sp oJ E t):=by
 intro pins s σ H Q I h;refine wpAny_Call_Name_kw (gF I hg hm ?_ hdb);refine callWith_K (h₀:=X.base) I.ok.mod.wW M.kp (dX (ha pos pins s σ H _ I h) fun us s1 ⟨vs,H1,I1,r,q⟩=>⟨I1.jM,?_⟩) he hpl;exact JW M F hr hb hd hx I1 r q
end
section
variable {X:Cx} {CX:wX} {k:Nat} {f C:aA} {fd:dN} {ps ks:List Str} {sp:Sp} {E:XK} {x m:Str} {p pos apos kpos:Pos} {e o:Expr} {es:List Expr} {kws:List Keyword} {te ta:TE} {t tk:TA} {nm:Option Str}
variable {g:List au->List au->List au} {gV:List V->List V->List V}
end
structure bV (N P:List Str) (sc:Scope):Prop where
 kind:sc.kind=.function
 co:sc.isCoroutine=false
 gen:sc.isGenerator=false
 nd:N.Nodup
 pre:N.take P.length=P
 par:∀ x ∈ P,sc.names.lookup x=some .local\/sc.names.lookup x=some .cell
 Zn:∀ y ∈ sc.names,y.2≠.free
theorem d8 {N P:List Str} {sc:Scope} (h:sc.kind=.function/\sc.isCoroutine=false/\sc.isGenerator=false/\N.Nodup/\N.take P.length=P/\(∀ x ∈ P,sc.names.lookup x=some .local\/sc.names.lookup x=some .cell)/\∀ y ∈ sc.names,y.2≠.free):bV N P sc:=⟨h.1,h.2.1,h.2.2.1,h.2.2.2.1,h.2.2.2.2.1,h.2.2.2.2.2.1,h.2.2.2.2.2.2⟩
theorem xQ {kindOf:Str->Option NameKind} {x:Str}:∀ {binds:List (Str × au)} {m:Str->Option au},(∀ v,(x,v) ∉ binds)->bindL kindOf binds m x=m x
 | [],_,_=>rfl
 | (n,v)::r,m,h=>by
  unfold bindL;rw [xQ fun w hw=>h w (mem_cons_of_mem _ hw)]
  split
  ·have:x≠n:=by rintro rfl; exact h v mem_cons_self
   simp [this]
  ·rfl
theorem xR {kindOf:Str->Option NameKind} {x:Str}:∀ {binds:List (Str × au)} {m:Str->Option au},(∀ v,(x,v) ∉ binds)->bindC kindOf binds m x=m x
 | [],_,_=>rfl
 | (n,v)::r,m,h=>by
  unfold bindC;rw [xR fun w hw=>h w (mem_cons_of_mem _ hw)]
  split
  ·rfl
  ·have:x≠n:=by rintro rfl; exact h v mem_cons_self
   simp [this]
theorem xT {kindOf:Str->Option NameKind} {x:Str} {v:au}:∀ {P:List Str} {vs:List au} {i:Nat} {m:Str->Option au},P.Nodup->P[i]?=some x->vs[i]?=some v->kindOf x=some .local -> bindL kindOf (P.zip vs) m x=some v
 | [],_,_,_,_,h,_,_=>by simp at h
 | _::_,[],_,_,_,_,h,_=>by simp at h
 | p::P,w::vs,0,m,nd,h1,h2,hk=>by
  simp at h1 h2; subst h1; subst h2
  show bindL kindOf ((p,w)::P.zip vs) m p=_
  unfold bindL;rw [xQ fun v hv=>(nodup_cons.mp nd).1 (of_mem_zip hv).1,if_pos hk];simp
 | p::P,w::vs,i + 1,m,nd,h1,h2,hk=>by
  show bindL kindOf ((p,w)::P.zip vs) m x=_
  unfold bindL;exact xT (i:=i) (nodup_cons.mp nd).2 (by simpa using h1) (by simpa using h2) hk
theorem xU {kindOf:Str->Option NameKind} {x:Str} {v:au}:∀ {P:List Str} {vs:List au} {i:Nat} {m:Str->Option au},P.Nodup->P[i]?=some x->vs[i]?=some v->kindOf x≠some .local -> bindC kindOf (P.zip vs) m x=some v
 | [],_,_,_,_,h,_,_=>by simp at h
 | _::_,[],_,_,_,_,h,_=>by simp at h
 | p::P,w::vs,0,m,nd,h1,h2,hk=>by
  simp at h1 h2; subst h1; subst h2
  show bindC kindOf ((p,w)::P.zip vs) m p=_
  unfold bindC;rw [xR fun v hv=>(nodup_cons.mp nd).1 (of_mem_zip hv).1,if_neg hk];simp
 | p::P,w::vs,i + 1,m,nd,h1,h2,hk=>by
  show bindC kindOf ((p,w)::P.zip vs) m x=_
  unfold bindC;exact xU (i:=i) (nodup_cons.mp nd).2 (by simpa using h1) (by simpa using h2) hk
def start (N:List Str) (vs:List V):St:=vs.map some++List.replicate (N.length - vs.length) none
noncomputable def qx (CX:wX) (P:bT) (w:World) (K:Fg) (mg:Str->Option au) (base:Heap) (N:List Str) (qual:Str) (scope:Scope) (f:aA) (cd:au) (A:cL) (outer:List Env) (s:aG) (H:Hp) (E:XK):Cx where
 prog:=P
 w:=w
 K:=K
 mg:=mg
 base:=base
 A:=A.deeper (envOfC qual scope s.heap.objs.size f cd)
 N:=N
 s₀:=s
 H₀:=H
 env:=envOfC qual scope s.heap.objs.size f cd
 outer:=outer
 stack:=envOfC qual scope s.heap.objs.size f cd::outer
 ex:=[]
 calm:=true
 fn:=fun _=>true
 pn:=[]
 xe:=fun e s'=>wpAny (model P w) (A.deeper (envOfC qual scope s.heap.objs.size f cd)) (leaving (envOfC qual scope s.heap.objs.size f cd) e) (fun _ s''=>CX outer H s E e s'') (fun e' s''=>CX outer H s E e' s'') s'
theorem Av {sc:Scope} {n:Nat} {x:Str} (h:sc.names.lookup x=some .cell):∃ c,(cellsFrom n sc.names []).lookup x=some c:=by
 have q:=cellsFrom_some sc.names n [] (.inl h);exact Option.isSome_iff_exists.mp q
theorem xV {CX:wX} {P:bT} {w:World} {K:Fg} {mg:Str->Option au} {base:Heap} {N ps:List Str} {qual:Str} {scope:Scope} {f:aA} {cd:au} {A:cL} {outer:List Env} {s s1:aG} {H:Hp} {E:XK} {us:List au} {vs:List V} (S:bV N ps scope) (hd:A.handled=none) (e0:Ar P w K mg base A outer s H) (hl:vs.length=ps.length) (r:Vals vs us) (x:InCallC s s.heap.objs.size (bindL (envOfC qual scope s.heap.objs.size f cd).kindOf (ps.zip us) fun _=>none) (cellsFrom (s.heap.objs.size + 1) scope.names []) (bindC (envOfC qual scope s.heap.objs.size f cd).kindOf (ps.zip us) fun _=>none) s1) : Inv (qx CX P w K mg base N qual scope f cd A outer s H E) [] (start N vs) H s1:=by
 have hpl:ps.length<=N.length:=by have:=congrArg List.length S.pre; rw [length_take] at this; omega
 obtain ⟨h1,tk,rfl,hk⟩:=x.done;have noA:∀ b:aA,b ∉ (qx CX P w K mg base N qual scope f cd A outer s H E).ex:=fun b z=>absurd (show b ∈ ([]:List aA) from z) (by simp)
 refine ⟨⟨e0.mod,S.kind,rfl,rfl,aH _,fun y z c h1 h2=>?_,fun y hy=>?_,fun y c _ h=>?_,fun _=>hd,Around.frames_deeper e0.frames,.inr ⟨rfl,rfl⟩,fun b z=>absurd z (noA b),e0.bs,e0.HB,fun b _ _=>noA b,fun b z=>absurd z (noA b),e0.o9,e0.Og⟩,rfl,e0.bare,Un.kept hk,⟨_,x.toInCall.ns,fun i y v h1 h2 h3=>?_⟩,fun y c h=>⟨_,x.cell y c h⟩,e0.hok.fresh (aH _),fun y c h=>?_,fun p hp=>absurd (show p ∈ ([]:List (aA × Obj)) from hp) (by simp),e0.hok.kept hk,?_⟩
 ·exact name_of_addr x.apart (PySem.mem_of_lookup h1) (PySem.mem_of_lookup h2)
 ·have hy:scope.names.lookup y=some .cell\/scope.names.lookup y=some .free:=hy;rcases hy with hy | hy
  ·exact Av hy
  ·exact absurd rfl (S.Zn _ (PySem.mem_of_lookup hy))
 ·exact Nat.le_of_lt (x.above y c (PySem.mem_of_lookup h))
 ·have hi:i < vs.length:=by
   unfold start at h2
   by_cases hi:i < vs.length
   ·exact hi
   ·rw [List.getElem?_append_right (by simpa using hi)] at h2;rw [List.getElem?_replicate] at h2
    split at h2 <;> cases h2
  have ha:vs[i]?=some v:=by
   unfold start at h2;rw [List.getElem?_append_left (by simpa using hi),bG] at h2;cases e:vs[i]? with
   | none=>rw [e] at h2; cases h2
   | some a=>rw [e] at h2; cases h2; rfl
  obtain ⟨u,hu,rv⟩:=r.get ha;have hp:ps[i]?=some y:=by
   rw [<- S.pre,List.getElem?_take_of_lt (by omega)]; exact h1
  have ndP:ps.Nodup:=by rw [<- S.pre]; exact S.nd.sublist (List.take_sublist _ _)
  refine ⟨u,rv,?_⟩;rcases S.par y (aV hp) with k | k
  ·exact .inl ⟨k,xT ndP hp hu k⟩
  ·obtain ⟨c,e⟩:=Av (n:=s.heap.objs.size + 1) k;refine .inr ⟨.inl k,c,e,?_⟩;have q:=x.cell y c e;rw [xU ndP hp hu (by show scope.names.lookup y≠_; rw [k]; decide)] at q;exact q
 ·exact e0.hok.fresh (Nat.le_of_lt (x.above y c (PySem.mem_of_lookup h)))
 ·unfold start
  show _=N.length
  rw [aM,aq,bH];omega
theorem Tr {CX:wX} {P:bT} {w:World} {K:Fg} {mg:Str->Option au} {base:Heap} {k:Nat} {f:aA} {name qual:Str} {params:Arguments} {body:List cQ} {scope:Scope} {dV kV doc pm cdv ct oc:au} {an od:Option aA} {osl:Array (Option au)} {N ps:List Str} {sp:Sp} (lk:K.lookup f=some ⟨oc,od,.func (fnOf name qual params body scope dV kV doc pm an cdv ct),osl⟩) (hcd:codeIn K cdv qual=true) (S:bV N ps scope) (len:∀ vs H Q E,sp vs H Q E->vs.length=ps.length) (hbody:∀ (A:cL) (outer:List Env) (s:aG) (H:Hp) (vs:List V) (Q:VK) (E:XK),d7 k (A.deeper (envOfC qual scope s.heap.objs.size f cdv))->sp vs H Q E -> ∃ t,Dh (qx CX P w K mg base N qual scope f cdv A outer s H E) body t/\t { nx:=fun _ H'=>Q .non H',rt:=Q } (start N vs) H) : cC P w K mg base CX (k + 1) f (fnOf name qual params body scope dV kV doc pm an cdv ct) ps sp:=by
 refine ⟨len,fun A outer s H args us vs Q E hr e0 hb r hsp=>?_⟩;have hl:=len _ _ _ _ hsp;have KX:K.In s.heap:=e0.mod.wW.keeps fun b o e=>(e0.bs b o e).1
 have lim:s.heap.NoLimit:=e0.mod.nolimit.keeps fun b o e=>(e0.bs b o e).1
 have hkind:∀ y ∈ ps.zip us,scope.names.lookup y.1=some .local\/(scope.names.lookup y.1=some .cell/\((cellsFrom (s.heap.objs.size + 1) scope.names []).lookup y.1).isSome=true):=fun ⟨n,v⟩ hy=>by
  rcases S.par n (of_mem_zip hy).1 with q | q
  ·exact .inl q
  ·exact .inr ⟨q,cellsFrom_some _ _ _ (.inl q)⟩
 refine codeAny_call_function hr.depth (KX _ _ lk) rfl S.co S.gen rfl (codeRec_of KX hcd) (hb _ _ _ _ ?_);refine wpAny_newFunctionEnv_cells S.kind hkind fun env he s1 x=>?_
 subst he;refine ⟨lim.keeps x.toInCall.keep,codeAny_func ?_⟩;obtain ⟨t,ht,hq⟩:=hbody A outer s H vs Q E (hr.deeper _) hsp;have I:Inv (qx CX P w K mg base N qual scope f cdv A outer s H E) [] (start N vs) H s1:=xV S hr.hd e0 hl r x;refine bF (ht [] s1 (start N vs) H _ I hq) (fun fl s' hs=>?_) fun e s' hs=>hs
 have fin:∀ {σ':St} {H':Hp} {v:V} {u:au},Inv (qx CX P w K mg base N qual scope f cdv A outer s H E) [] σ' H' s'->RelV v u->Q v H'->CE outer P w H s Q u s' :=
  fun {σ' H' v u} J rv q=>⟨v,H',J.os,J.bare,J.base,J.hok,rv,q⟩
 cases fl with
 | ret u =>
  obtain ⟨v,σ',H',J,rv,q⟩:=hs;exact fin J rv q
 | next =>
  obtain ⟨σ',H',J,q⟩:=hs;exact fin (v:=V.non) (u:=Value.none) J rfl q
 | brk =>
  obtain ⟨_,_,_,q⟩:=hs;exact False.elim q
 | cont =>
  obtain ⟨_,_,_,q⟩:=hs;exact False.elim q
section
variable {X:Cx} {x:Str} {p pos:Pos} {e:Expr} {es:List Expr} {t:TA} {id T:String} {r:List V->Hp->VK->Prop}
def tCB (r:List V->Hp->VK->Prop) (t:TA):TE:=fun σ H Q=>t σ H fun vs H1=>r vs H1 Q
theorem vf (hc:gK X (.builtin id) r) (hg:Gl X x) (hm:X.mg x=none) (hv:bootBuiltins x=some (.builtin id)) (ha:PA X (e::es) t) (hn:autoParam (x≠"__name__") zau1) (hdb:autoParam ((x == ("__debug__":Str))=false) zau1) (he:autoParam (starEach (e::es) X.env=(false,eval e X.env)::starEach es X.env) zau0) (hpl:autoParam ((backTo pos (starEach es X.env)).any (·.1)=false) zau0):PE X (.Call (.Name x p) (e::es) [] pos) (tCB r t):=by
 intro pins s σ H Q I h;refine wpAny_Call_Name_kw (uU I hg hm hv ?_ hn hdb);exact callWith_builtin1 (dX (ha pos pins s σ H _ I h) fun us s1 ⟨vs,H1,I1,r1,q1⟩=>hc pins s1 σ H1 vs us Q I1 r1 q1) he hpl
theorem HW (hc:gK X (.type T) r) (hg:Gl X x) (hm:X.mg x=none) (hv:bootBuiltins x=some (.type T)) (ha:PA X (e::es) t) (hn:autoParam (x≠"__name__") zau1) (hdb:autoParam ((x == ("__debug__":Str))=false) zau1) (he:autoParam (starEach (e::es) X.env=(false,eval e X.env)::starEach es X.env) zau0) (hpl:autoParam ((backTo pos (starEach es X.env)).any (·.1)=false) zau0):PE X (.Call (.Name x p) (e::es) [] pos) (tCB r t):=by
 intro pins s σ H Q I h;refine wpAny_Call_Name_kw (uU I hg hm hv ?_ hn hdb);exact callWith_type1 (dX (ha pos pins s σ H _ I h) fun us s1 ⟨vs,H1,I1,r1,q1⟩=>hc pins s1 σ H1 vs us Q I1 r1 q1) he hpl
end
end L2
namespace HT
open PySem PyProof.Rows
section
open PySem.SeqAt
open PySem.AutoSeq1 (wpAny_loadPart')
open PySem.MeetsSeq PySem.MeetsSeq2 PySem.MeetsSeq3
end
section
variable {prog:bT} {w:World} {A:cL} {E:au->aG->Prop} {s:aG}
def Ag (n d:Nat):Option Int->Nat
 | none=>d
 | some v=>if v < 0 then (v + (n:Int)).toNat else min v.toNat n
theorem JX (n d:Nat):Ag n d none=d:=rfl
theorem Gi (n d k:Nat):Ag n d (some (k:Int))=min k n:=by
 show (if (k:Int) < 0 then ((k:Int) + (n:Int)).toNat else min (k:Int).toNat n)=min k n
 rw [if_neg (by omega),cA]
end
end HT
namespace L2
open PySem PySem.Spec PyProof.Rows
abbrev TO:=St->Hp->(Option Int->Hp->Prop)->Prop
noncomputable def PO (X:Cx) (e:Option Expr) (t:TO):Prop := ∀ (pins:List (aA × Obj)) (s:aG) (σ:St) (H:Hp) (Q:Option Int->Hp->Prop),Inv X pins σ H s->t σ H Q -> wpAny (model X.prog X.w) X.A (evalPart e X.env) (fun u s'=>∃ o H',Inv X pins σ H' s'/\IsPart u o/\Q o H') X.xe s
def Qw:TO:=fun _ H Q=>Q none H
def ad3 (t:TE):TO:=fun σ H Q=>t σ H fun x H1=>∃ i,x=.int i/\Q (some i) H1
theorem intsAre_of {ns:List Int}:∀ {us:List au},Vals (ns.map V.int) us->IntsAre us ns:=by
 induction ns with
 | nil=>intro us r; rw [map_nil] at r; cases r; exact .nil
 | cons n ns ih =>
  intro us r;rw [bw] at r;cases r with
  | cons r1 r2 =>
   obtain ⟨t,e⟩:=r1;subst e;exact .cons n t (ih r2)
section
variable {X:Cx} {e:Expr} {te:TE} {lo hi:Option Expr} {tl th:TO} {pos p2:Pos}
theorem jQ:PO X none Qw:=by
 intro pins s σ H Q I h;rw [evalPart_none];exact ak ⟨none,H,I,.none,h⟩
theorem jR (h:PE X e te):PO X (some e) (ad3 te):=by
 intro pins s σ H Q I hw;rw [evalPart_some];refine dX (h pins s σ H _ I hw) fun u s1 ⟨x,H1,I1,r1,q1⟩=>?_
 obtain ⟨i,rfl,q⟩:=q1;obtain ⟨t,rfl⟩:=r1;exact ⟨some i,H1,I1,.int i t,q⟩
noncomputable def SlR (X:Cx) (r:V->Option Int->Option Int->Hp->VK->Prop):Prop := ∀ (pins:List (aA × Obj)) (s:aG) (σ:St) (H:Hp) (x:V) (v vl vu:au) (lo hi:Option Int) (sl:aA) (Q:VK),Inv X pins σ H s->RelV x v->s.heap.IsSliceOf sl vl vu .none->IsPart vl lo->IsPart vu hi->r x lo hi H Q -> ∃ T id,typeLookup (.type T) "__getitem__"=pure (some (.builtin id))/\s.TypeIs v T/\wpAny (model X.prog X.w) X.A (getItem v (.ref sl)) (EP X pins σ Q) X.xe s
def tSl (r:V->Option Int->Option Int->Hp->VK->Prop) (te:TE) (tl th:TO):TE:=fun σ H Q=>te σ H fun x H1=>tl σ H1 fun l H2=>th σ H2 fun u H3=>r x l u H3 Q
theorem iT {r:V->Option Int->Option Int->Hp->VK->Prop} (hr:SlR X r) (he:PE X e te) (hl:PO X lo tl) (hu:PO X hi th):PE X (.Subscript e (.Slice lo hi none p2) pos) (tSl r te tl th):=by
 intro pins s σ H Q I h;refine Subscript_ (dX (he pins s σ H _ I h) fun v s1 ⟨x,H1,I1,r1,q1⟩=>?_);refine wpAny_Slice (dX (hl pins s1 σ H1 _ I1 q1) fun vl s2 ⟨l,H2,I2,pl,q2⟩=>dX (hu pins s2 σ H2 _ I2 q2) fun vu s3 ⟨u,H3,I3,pu,q3⟩=>?_);rw [evalPart_none];refine ak ?_;have I4:Inv X pins σ H3 { s3 with heap:=s3.heap.push { cls:=.type "slice",data:=.fields #[vl,vu,.none] } }:=I3.kept (t':=s3.toks) fun b ob q=>ao _ q
 obtain ⟨T,id,hT,ht,hg⟩:=hr pins { s3 with heap:=s3.heap.push { cls:=.type "slice",data:=.fields #[vl,vu,.none] } } σ H3 x v vl vu l u s3.heap.objs.size Q I4 r1 (Heap.IsSliceOf.new ..) pl pu q3
 show wpAny (model X.prog X.w) X.A (subscriptTail e (.Slice lo hi none p2) v (.ref s3.heap.objs.size)) (EP X pins σ Q) X.xe { s3 with heap:=s3.heap.push { cls:=.type "slice",data:=.fields #[vl,vu,.none] } }
 exact tail_any (ops:=[.ref s3.heap.objs.size,v]) ht hT hg (by with_unfolding_all rfl)
def pB (xs:List V) (lo hi:Option Int):List V:=(xs.drop (HT.Ag xs.length 0 lo)).take (HT.Ag xs.length xs.length hi - HT.Ag xs.length 0 lo)
theorem Aw (xs:List V) (lo hi:Option Int):(pB xs lo hi).length<=xs.length:=by
 unfold pB;rw [length_take,length_drop];omega
end
def ixN (n:Nat) (i:Int):Option Nat:=if 0<=i then (if i < n then some i.toNat else none) else if -(n:Int)<=i then some (i + n).toNat else none
def Qx {α:Type} (xs:List α) (i:Int):Option α:=(ixN xs.length i).bind fun j=>xs[j]?
theorem Qy {n:Nat} {i:Int} {j:Nat} (h:ixN n i=some j):seqIndex? i n=some j/\j < n/\-(n:Int)<=i/\i < n:=by
 unfold ixN at h
 by_cases h0:0<=i
 ·rw [if_pos h0] at h
  by_cases h1:i < n
  ·rw [if_pos h1] at h;have e:i.toNat=j:=bY h;exact ⟨by rw [seqIndex_of h0 h1,e],by omega,by omega,h1⟩
  ·rw [if_neg h1] at h; cases h
 ·rw [if_neg h0] at h
  by_cases h1:-(n:Int)<=i
  ·rw [if_pos h1] at h;have e:(i + n).toNat=j:=bY h;exact ⟨by rw [seqIndex_neg (by omega) h1,e],by omega,h1,by omega⟩
  ·rw [if_neg h1] at h; cases h
theorem yU {α:Type} {xs:List α} {i:Int} {v:α} (h:Qx xs i=some v):∃ j,seqIndex? i xs.length=some j/\xs[j]?=some v/\j < xs.length/\-(xs.length:Int)<=i/\i < xs.length:=by
 unfold Qx at h;cases e:ixN xs.length i with
 | none=>rw [e] at h; cases h
 | some j =>
  rw [e] at h;obtain ⟨h1,h2,h3,h4⟩:=Qy e;exact ⟨j,h1,h,h2,h3,h4⟩
theorem dR {α:Type} {xs:List α} {j:Nat} {v:α} (h:xs[j]?=some v):Qx xs (j:Int)=some v:=by
 have hj:j < xs.length:=(aP.mp h).1;have e:ixN xs.length (j:Int)=some j:=by
  unfold ixN;rw [if_pos (by omega),if_pos (by omega)]; simp
 unfold Qx; rw [e]; exact h
def Qz (b:Expr):Prop:=∀ o i,subscripted b false o i=operate [o,i] (getItem o i)
noncomputable def IxR (X:Cx) (r:R2):Prop := ∀ (value slice:Expr) (pins:List (aA × Obj)) (s:aG) (σ:St) (H:Hp) (x y:V) (v u:au) (Q:VK),Inv X pins σ H s->RelV x v->RelV y u->r x y H Q -> subscripted slice false v u=operate [v,u] (getItem v u)->wpAny (model X.prog X.w) X.A (subscriptTail value slice v u) (EP X pins σ Q) X.xe s
noncomputable def MtR (X:Cx) (id:String) (r:V->List V->Hp->VK->Prop):Prop := ∀ (pins:List (aA × Obj)) (s:aG) (σ:St) (H:Hp) (x:V) (xs:List V) (v:au) (us:List au) (Q:VK),Inv X pins σ H s->RelV x v->Vals xs us->r x xs H Q -> wpAny (model X.prog X.w) X.A (call (.builtin id) (v::us)) (EP X pins σ Q) X.xe s
section
variable {X:Cx} {a b:Expr} {ta tb:TE} {pos:Pos}
theorem fJ {r:R2} (hr:IxR X r) (ha:PE X a ta) (hb:PE X b tb) (hs:Qz b):PE X (.Subscript a b pos) (tOp r ta tb):=by
 intro pins s σ H Q I h;exact Subscript_ (Ze ha hb I h fun v u s2 x y H2 I2 rx ry q=>hr a b pins s2 σ H2 x y v u Q I2 rx ry q (hs _ _))
def ad4 (K:Fg):R2:=fun x y H Q=>∃ p xs i v,x=.ref p/\y=.int i/\cY K H p xs/\Qx xs i=some v/\Q v H
def ad5 (K:Fg):R2:=fun x y H Q=>∃ p xs i v,x=.ref p/\y=.int i/\tY K H p xs/\Qx xs i=some v/\Q v H
def aiH:R2:=fun x y H Q=>∃ z i c,x=.str z/\y=.int i/\z.length<=sizeLine/\Qx z.cps.toList i=some c/\Q (.str ⟨#[c]⟩) H
theorem jg:IxR X (ad4 X.K):=by
 intro value slice pins s σ H x y v u Q I rx ry h hs;obtain ⟨p,xs,i,z,rfl,rfl,hq,he,q⟩:=h;cases rx;obtain ⟨t,rfl⟩:=ry;obtain ⟨its,r,pl,hz⟩:=I.list hq;obtain ⟨j,h1,h2,h3,h4,h5⟩:=yU he;obtain ⟨w,ew,HX⟩:=r.get h2;have hl:=r.length;have hn:=qU;have fin:EP X pins σ Q w s:=⟨z,H,I,HX,q⟩
 by_cases h0:0<=i
 ·have hj:i.toNat=j:=by
   rw [seqIndex_of h0 h5] at h1;exact bY h1
  exact item_listR pl.isList h0 (by omega) (by rw [hj]; simpa using ew) fin hs
 ·have hj:(i + (its.toArray.size:Int)).toNat=j:=by
   rw [seqIndex_neg (by omega) h4] at h1;rw [size_toArray,<- hl];exact bY h1
  exact subscriptTail_builtinR (x:=w) pl.isList.typeIs slot_list_getitem.lookup (wpAny_getItem_list_neg (Q:=fun r s'=>r=w/\EP X pins σ Q r s') pl.isList (by omega) (by rw [size_toArray] <;> omega) (by omega) (by rw [hj]; simpa using ew) ⟨rfl,fin⟩) hs
theorem vg:IxR X (ad5 X.K):=by
 intro value slice pins s σ H x y v u Q I rx ry h hs;obtain ⟨p,xs,i,z,rfl,rfl,hq,he,q⟩:=h;cases rx;obtain ⟨t,rfl⟩:=ry;obtain ⟨its,r,pl,hz⟩:=I.tuple hq;obtain ⟨j,h1,h2,h3,h4,h5⟩:=yU he;obtain ⟨w,ew,HX⟩:=r.get h2;have hl:=r.length;have hn:=qU;have fin:EP X pins σ Q w s:=⟨z,H,I,HX,q⟩;exact subscriptTail_builtinR (x:=w) pl.typeIs slot_tuple_getitem.lookup (getItem_tuple (j:=j) (Q:=fun r s'=>r=w/\EP X pins σ Q r s') pl (by omega) (by omega) (by rw [size_toArray,<- hl]; exact h1) (by simpa using ew) ⟨rfl,fin⟩) hs
theorem JZ:IxR X aiH:=by
 intro value slice pins s σ H x y v u Q I rx ry h hs;obtain ⟨z,i,c,rfl,rfl,hz,he,q⟩:=h;obtain ⟨t,rfl⟩:=rx;obtain ⟨t',rfl⟩:=ry;obtain ⟨j,h1,h2,h3,h4,h5⟩:=yU he;have hl:z.cps.toList.length=z.length:=by simp [Str.length]
 rw [hl] at h1 h4 h5;have hn:=qU;exact tail_any (typeIs_str s z t) slot_str_getitem.lookup (getItem_str (c:=c) (by
  have e1:decide (i < -(2 ^ 63:Int))=false:=aF (by omega);have e2:decide (i >= 2 ^ 63)=false:=aF (by omega);rw [e1,e2,Bool.or_false]) (by rw [h1]; simpa using h2) ⟨.str ⟨#[c]⟩,H,I.tok _,⟨_,rfl⟩,q⟩) hs
theorem yV (lo hi:Option Int) (n:Nat):(sliceBounds lo hi none n).1=((HT.Ag n 0 lo:Nat):Int)/\(sliceBounds lo hi none n).2.1=((HT.Ag n n hi:Nat):Int)/\(sliceBounds lo hi none n).2.2=1:=by
 refine ⟨?_,?_,rfl⟩
 ·cases lo with
  | none=>simp [sliceBounds,HT.Ag]
  | some i =>
   simp only [sliceBounds,HT.Ag,Option.getD_none,show (1:Int) > 0 by decide,if_true]
   by_cases h:i < 0
   ·simp only [h,if_true] <;> omega
   ·simp only [h,if_false] <;> omega
 ·cases hi with
  | none=>simp [sliceBounds,HT.Ag]
  | some i =>
   simp only [sliceBounds,HT.Ag,Option.getD_none,show (1:Int) > 0 by decide,if_true]
   by_cases h:i < 0
   ·simp only [h,if_true] <;> omega
   ·simp only [h,if_false] <;> omega
theorem wY (its:List au) (lo hi:Option Int):slicePick its.toArray lo hi none=((its.drop (HT.Ag its.length 0 lo)).take (HT.Ag its.length its.length hi - HT.Ag its.length 0 lo)).toArray:=by
 obtain ⟨h1,h2,h3⟩:=yV lo hi its.toArray.size;unfold slicePick;rw [h1,h2,h3];simp only [sliceRange_one,pick_run,size_toArray] <;> rfl
def aiI (K:Fg):V->Option Int->Option Int->Hp->VK->Prop:=fun x lo hi H Q=>∃ a xs,x=.ref a/\cY K H a xs/\∀ p,H p=none->Q (.ref p) (upd H p (.lst (pB xs lo hi)))
theorem jT:SlR X (aiI X.K):=by
 intro pins s σ H x v vl vu lo hi sl Q I rx hs pl pu h;obtain ⟨a,xs,rfl,hx,q⟩:=h;cases rx;obtain ⟨its,r,ht,hz⟩:=I.list hx;have hlen:=r.length;refine ⟨"list",_,slot_list_getitem.lookup,ht.isList.typeIs,?_⟩;refine wpAny_getItem_list_slice ht.isList hs pl pu .none (by simp) ?_ (by rw [size_toArray] <;> omega);rw [wY,<- hlen];refine ⟨.ref s.heap.objs.size,_,I.laid (t':=s.toks) (o:=.lst (pB xs lo hi)) (fun b ob q=>ao _ q) (aH _) ?_,rfl,q _ (I.hok.fresh (aH _))⟩;exact ⟨bA (Aw xs lo hi) hz,_,0,(r.drop (HT.Ag xs.length 0 lo)).take (HT.Ag xs.length xs.length hi - HT.Ag xs.length 0 lo),aD _ rfl⟩
def ud:V->Bool
 | .non=>true
 | .bl _=>true
 | .int _=>true
 | .str _=>true
 | _=>false
noncomputable def eqV:V->V->Bool
 | .non,.non=>true
 | .bl a,.bl b=>a == b
 | .bl a,.int b=>(if a then 1 else 0) == b
 | .int a,.bl b=>a == (if b then 1 else 0)
 | .int a,.int b=>a == b
 | .str a,.str b=>a == b
 | _,_=>false
theorem Zo {A:cL} {s:aG} {y x:V} {u v:au} (ry:RelV y u) (rx:RelV x v) (fy:ud y=true) (fx:ud x=true):SeqAt.EqAt A s u v (eqV y x):=by
 cases y with
 | non =>
  cases ry;cases x with
  | non=>cases rx; exact SeqAt.EqAt.same _
  | bl b=>cases rx; exact SeqAt.EqAt.none_bool b
  | int b=>obtain ⟨t,rfl⟩:=rx; exact SeqAt.EqAt.none_int b t
  | str b=>obtain ⟨t,rfl⟩:=rx; exact SeqAt.EqAt.none_str b t
  | _=>exact absurd (show false=true from fx) Bool.false_ne_true
 | bl a =>
  cases ry;cases x with
  | non=>cases rx; exact SeqAt.EqAt.bool_none a
  | bl b=>cases rx; exact SeqAt.EqAt.bool_bool a b
  | int b=>obtain ⟨t,rfl⟩:=rx; exact SeqAt.EqAt.bool_int a b t
  | str b=>obtain ⟨t,rfl⟩:=rx; exact SeqAt.EqAt.bool_str a b t
  | _=>exact absurd (show false=true from fx) Bool.false_ne_true
 | int a =>
  obtain ⟨t',rfl⟩:=ry;cases x with
  | non=>cases rx; exact SeqAt.EqAt.int_none a t'
  | bl b=>cases rx; exact SeqAt.EqAt.int_bool a t' b
  | int b=>obtain ⟨t,rfl⟩:=rx; exact SeqAt.EqAt.int_int a t' b t
  | str b=>obtain ⟨t,rfl⟩:=rx; exact SeqAt.EqAt.int_str a t' b t
  | _=>exact absurd (show false=true from fx) Bool.false_ne_true
 | str a =>
  obtain ⟨t',rfl⟩:=ry;cases x with
  | non=>cases rx; exact SeqAt.EqAt.str_none a t'
  | bl b=>cases rx; exact SeqAt.EqAt.str_bool a t' b
  | int b=>obtain ⟨t,rfl⟩:=rx; exact SeqAt.EqAt.str_int a t' b t
  | str b=>obtain ⟨t,rfl⟩:=rx; exact SeqAt.EqAt.str_str a t' b t
  | _=>exact absurd (show false=true from fx) Bool.false_ne_true
 | _=>exact absurd (show false=true from fy) Bool.false_ne_true
theorem eN:gK X (.builtin "len") (fun xs H Q=>∃ p ys,xs=[.ref p]/\(cY X.K H p ys\/tY X.K H p ys)/\Q (.int ys.length) H):=by
 intro pins s σ H xs us Q I r h;obtain ⟨p,ys,rfl,hq,q⟩:=h;obtain ⟨u,rfl,rx⟩:=vals1 r;cases rx;have hn:=qU;rcases hq with hq | hq
 ·obtain ⟨its,r',pl,hz⟩:=I.list hq;have hlen:=r'.length;exact Calls.call_len_list pl.isList (by simp only [size_toArray] <;> omega) ⟨.int ys.length,H,I.tok _,⟨s.toks + 1,by rw [size_toArray,hlen]⟩,q⟩
 ·obtain ⟨its,r',pl,hz⟩:=I.tuple hq;have hlen:=r'.length;exact len_tuple pl (by simp only [size_toArray] <;> omega) ⟨.int ys.length,H,I.tok _,⟨s.toks + 1,by rw [size_toArray,hlen]⟩,q⟩
theorem lN:gK X (.builtin "len") (fun xs H Q=>∃ z,xs=[.str z]/\z.length<=sizeLine/\Q (.int z.length) H):=by
 intro pins s σ H xs us Q I r h;obtain ⟨z,rfl,hz,q⟩:=h;obtain ⟨u,rfl,t,rfl⟩:=vals1 r;have hn:=qU;exact len_str (by omega) ⟨.int z.length,H,I.tok _,⟨_,rfl⟩,q⟩
noncomputable def tyV (K:Fg) (T:String) (x:V) (H:Hp):Prop:=match x with
 | .str _=>T="str"
 | .int _=>T="int"
 | .ref p=>(T="list"/\∃ xs,cY K H p xs)\/(T="tuple"/\∃ o,K.lookup p=some o/\o.cls=.type "tuple"/\o.dict=none) \/ (T="dict"/\((∃ kvs,H p=some (.dK kvs))\/∃ kvs,H p=some (.dT kvs)))\/(T="set"/\∃ S n,H p=some (.set S n))
 | _=>False
theorem Zq {pins:List (aA × Obj)} {σ:St} {H:Hp} {s:aG} {T:String} {x:V} {v:au} (I:Inv X pins σ H s) (r:RelV x v) (ty:tyV X.K T x H) : s.TypeIs v T/\∀ a,v=.ref a->∃ ob,s.heap.get? a=some ob/\ob.dict=none:=by
 cases x with
 | str z =>
  obtain ⟨t,rfl⟩:=r;cases (show T="str" from ty);exact ⟨typeIs_str s z t,fun _ e=>nomatch e⟩
 | int i =>
  obtain ⟨t,rfl⟩:=r;cases (show T="int" from ty);exact ⟨typeIs_int s i t,fun _ e=>nomatch e⟩
 | ref p =>
  cases r;rcases ty with ⟨rfl,xs,hq⟩ | ⟨rfl,o,hk,hc,hd⟩ | ⟨rfl,hk⟩ | ⟨rfl,S,n,hk⟩
  ·obtain ⟨its,_,pl,_⟩:=I.list hq;refine ⟨pl.isList.typeIs,fun a e=>?_⟩;cases e;obtain ⟨o,n,e,c,hd,_⟩:=pl;exact ⟨o,e,hd⟩
  ·refine ⟨⟨o,I.jM p o hk,hc⟩,fun a e=>?_⟩;cases e;exact ⟨o,I.jM _ o hk,hd⟩
  ·have z:∃ o,s.heap.get? p=some o/\o.ExactDict:=by
    rcases hk with ⟨kvs,hk⟩ | ⟨kvs,hk⟩
    ·obtain ⟨_,_,_,_,o,_,_,e,ex,_⟩:=I.hok p _ hk;exact ⟨o,e,ex⟩
    ·obtain ⟨_,_,_,_,o,_,_,e,ex,_⟩:=I.hok p _ hk;exact ⟨o,e,ex⟩
   obtain ⟨o,e,ex⟩:=z;refine ⟨⟨o,e,ex.1⟩,fun a e2=>?_⟩;cases e2;exact ⟨o,e,ex.2.1⟩
  ·obtain ⟨o,_,_,_,e,ex,_⟩:=I.hok p _ hk;refine ⟨⟨o,e,ex.1⟩,fun a e2=>?_⟩;cases e2;exact ⟨o,e,ex.2.1⟩
 | _=>exact False.elim ty
def tBM (K:Fg) (T:String) (r:V->List V->Hp->VK->Prop) (to:TE) (t:TA):TE:=fun σ H Q=>to σ H fun x H1=>tyV K T x H1/\t σ H1 fun xs H2=>r x xs H2 Q
variable {o e:Expr} {es:List Expr} {to:TE} {t:TA} {name:Str} {apos cpos:Pos} {T id:String} {r:V->List V->Hp->VK->Prop}
theorem jd (pa:PlainAttrs T) (slot:Slot T name id) (hty:typeOf (.builtin id)=pure (.type "method_descriptor")) (hm:MtR X id r) (ho:PE X o to) (ha:PA X (e::es) t) (hbase:autoParam (attributeBase o name X.env (eval o X.env)=eval o X.env) zau0) (hfew:autoParam (((backTo cpos (starEach (e::es) X.env)).all (fun x=>!x.1) && (backToKw cpos (keywordEach [] X.env)).all (fun x=>x.1.isSome) && decide ((e::es).length + ([]:List Keyword).length + (if ([]:List Keyword).isEmpty then 0 else 1) < 30))=true) zau0) (hline:autoParam ((apos.endLine == cpos.line)=true) zau0) (hs:autoParam (starEach (e::es) X.env=(false,eval e X.env)::starEach es X.env) zau0) (hplain:autoParam ((backTo cpos (starEach es X.env)).any (·.1)=false) zau0) : PE X (.Call (.Attribute o name apos) (e::es) [] cpos) (tBM X.K T r to t):=by
 intro pins s σ H Q I h;refine wpAny_Call_method_late hbase hfew hline rfl (dX (ho pins s σ H _ I h) fun v s1 ⟨x,H1,I1,r1,ty,q1⟩=>?_);obtain ⟨h1,h2⟩:=Zq I1 r1 ty;refine ⟨T,id,pa,slot,hty,h1,h2,?_⟩;have hA:=ha cpos pins s1 σ H1 _ I1 q1;rw [hs] at hA ⊢;refine Calls.callWith_builtin (by show (false || (backTo cpos (starEach es X.env)).any (·.1))=false; rw [hplain] <;> rfl) (Calls.evalArgs_plain ?_);exact dX hA fun us s2 ⟨vs,H2,I2,r2,q2⟩=>hm pins s2 σ H2 x vs v us Q I2 r1 r2 q2
end
noncomputable def MtM (X:Cx) (id:String) (r:V->List V->Hp->VK->Prop):Prop := ∀ (pins:List (aA × Obj)) (s:aG) (σ:St) (H:Hp) (x:V) (xs:List V) (v:au) (us:List au) (Q:VK),Inv X pins σ H s->RelV x v->Vals xs us->r x xs H Q -> wpAny (model X.prog X.w) X.A (call (.builtin id) (v::us)) (EP X pins σ Q) X.xe s
theorem Vals.one:∀ {x:V} {us:List au},Vals [x] us->∃ u,us=[u]/\RelV x u
 | _,_,.cons r .nil=>⟨_,rfl,r⟩
theorem Vals.two:∀ {x y:V} {us:List au},Vals [x,y] us->∃ u v,us=[u,v]/\RelV x u/\RelV y v
 | _,_,_,.cons r (.cons q .nil)=>⟨_,_,rfl,r,q⟩
theorem Vals.rep {xs:List V} {us:List au} (h:Vals xs us):∀ k:Nat,Vals (List.replicate k xs).flatten (List.replicate k us).flatten
 | 0=>.nil
 | k + 1=>by
  rw [replicate_succ,replicate_succ,flatten_cons,flatten_cons];exact Vals.append h (Vals.rep h k)
theorem foldl_rep (its:List au):∀ (k:Nat) (acc:List au),List.foldl (fun x1 x2=>x1++x2) acc.toArray (List.replicate k its.toArray)=(acc++(List.replicate k its).flatten).toArray
 | 0,acc=>by simp
 | k + 1,acc=>by
  have e:acc.toArray++its.toArray=(acc++its).toArray:=by simp
  have e2:(acc++its)++(List.replicate k its).flatten=acc++(List.replicate (k + 1) its).flatten:=by
   rw [replicate_succ,flatten_cons,append_assoc]
  rw [<- e2,<- foldl_rep its k (acc++its),<- e,replicate_succ,List.foldl_cons]
section
variable {X:Cx} {pins:List (aA × Obj)} {σ:St} {H:Hp} {s:aG} {l b:aA} {xs ys zs:List V}
theorem Inv.ad7 {its its':List au} {n:Nat} {f:Array au->Array au} {t':Nat} (I:Inv X pins σ H s) (hH:H l=some (.lst xs)) (e:s.heap.get? l=some { cls:=.type "list",data:=.seq its.toArray n }) (hf:f its.toArray=its'.toArray) (hv:Vals ys its') (hz:ys.length<=sizeLine) : Inv X pins σ (upd H l (.lst ys)) { s with heap:=s.heap.update l (Obj.mapSeq f),toks:=t' }:=by
 have q:=PySem.IsL.update e f;rw [hf] at q;refine I.write (x:=l) (e:=l) (by rw [hH]; exact trivial) (.inl rfl) (fun b' u hb hu=>(Heap.get?_update_other s.heap (Obj.mapSeq f) (Ne.symm hb)).trans hu) ⟨_,q⟩ ?_;exact ⟨hz,its',_,hv,q⟩
theorem Inv.ad8 {its:List au} {t':Nat} (I:Inv X pins σ H s) (hv:Vals ys its) (hz:ys.length<=sizeLine) : Inv X pins σ (upd H s.heap.objs.size (.lst ys)) { s with heap:=s.heap.push { cls:=.type "list",data:=.seq its.toArray },toks:=t' } := I.laid (fun _ _ q=>ao _ q) (aH _) ⟨hz,its,0,hv,aD _ rfl⟩
theorem Inv.fresh (I:Inv X pins σ H s):H s.heap.objs.size=none:=I.hok.fresh (aH _)
theorem Inv.HY (I:Inv X pins σ H s) (hH:H l=some (.lst xs)):xs.length<=sizeLine/\∃ (its:List au) (n:Nat),Vals xs its/\xs.length=its.length/\s.heap.get? l=some { cls:=.type "list",data:=.seq its.toArray n }:=by
 obtain ⟨z,its,n,r,e⟩:=I.hok l _ hH;exact ⟨z,its,n,r,r.length,e⟩
theorem Ax {n:Nat} (h:n<=sizeLine):Builtin.List.listTooLong n=false:=by
 unfold Builtin.List.listTooLong;exact aF (by omega)
end
section
variable {X:Cx}
def QB:V->List V->Hp->VK->Prop:=fun x vs H Q=>∃ l xs y,x=.ref l/\vs=[y]/\H l=some (.lst xs)/\xs.length < sizeLine/\Q .non (upd H l (.lst (xs++[y])))
theorem kE:MtM X "list.append" QB:=by
 intro pins s σ H x vs v us Q I rx rv h;obtain ⟨l,xs,y,rfl,rfl,hH,hz,q⟩:=h;cases rx;obtain ⟨u,rfl,ru⟩:=rv.one;obtain ⟨z,its,n,r,hl,e⟩:=I.HY hH;refine call_meets F.slot_list_append ⟨_,e,rfl⟩ F.entry_list_append (F.args_list_append_2 _ _) (PySem.list_append l its.toArray n u (by rw [size_toArray]; omega)) ⟨e,?_⟩;refine ⟨.non,_,I.ad7 (its':=its++[u]) hH e (by simp) (r.append (.cons ru .nil)) ?_,rfl,q⟩;rw [aM,List.length_singleton];omega
def QC:V->List V->Hp->VK->Prop:=fun x vs H Q=>∃ l b xs zs,x=.ref l/\vs=[.ref b]/\H l=some (.lst xs)/\H b=some (.lst zs)/\xs.length + zs.length<=sizeLine/\Q .non (upd H l (.lst (xs++zs)))
theorem abN:MtM X "list.extend" QC:=by
 intro pins s σ H x vs v us Q I rx rv h;obtain ⟨l,b,xs,zs,rfl,rfl,hH,hB,hz,q⟩:=h;cases rx;obtain ⟨u,rfl,ru⟩:=rv.one;cases ru;obtain ⟨z,its,n,r,hl,e⟩:=I.HY hH;obtain ⟨z2,its2,n2,r2,hl2,e2⟩:=I.HY hB;have hsz:its.toArray.size + its2.toArray.size<=sizeLine:=by rw [size_toArray,size_toArray]; omega
 have J0:¬ (!its.toArray.isEmpty && Builtin.List.listTooLong (its.toArray.size + its2.toArray.size))=true:=by
  rw [Ax hsz,Bool.and_false];exact Bool.false_ne_true
 refine call_meets F.slot_list_extend ⟨_,e,rfl⟩ F.entry_list_extend (F.args_list_extend_2 _ _) (AutoSeq1.list_extend_list_list_0 l its.toArray n b its2.toArray n2 J0 (by rw [size_toArray]; omega) (by omega)) ⟨e,e2,?_⟩;refine ⟨.non,_,I.ad7 (its':=its++its2) hH e (by simp) (r.append r2) ?_,rfl,q⟩;rw [aM];omega
def aiJ:R2:=fun x y H Q=>∃ l b xs zs,x=.ref l/\y=.ref b/\H l=some (.lst xs)/\H b=some (.lst zs)/\xs.length + zs.length<=sizeLine/\∀ p,H p=none->Q (.ref p) (upd H p (.lst (xs++zs)))
theorem fu:pI X (binaryOp .Add) aiJ:=by
 intro pins s σ H x y v u Q I rx ry h;obtain ⟨l,b,xs,zs,rfl,rfl,hH,hB,hz,q⟩:=h;cases rx;cases ry;obtain ⟨z,its,n,r,hl,e⟩:=I.HY hH;obtain ⟨z2,its2,n2,r2,hl2,e2⟩:=I.HY hB;refine PySem.P.add_list e e2 ?_ (by rw [size_toArray,size_toArray]; omega);have ea:its.toArray++its2.toArray=(its++its2).toArray:=by simp
 rw [ea];exact ⟨.ref _,_,I.ad8 (t':=s.toks) (r.append r2) (by rw [aM]; omega),rfl,q _ I.fresh⟩
noncomputable def ad9:R2:=fun x y H Q=>∃ l k xs,x=.ref l/\y=.int k/\H l=some (.lst xs)/\-(2 ^ 63)<=k/\k < 2 ^ 63/\xs.length * k.toNat<=sizeLine /\ ∀ p,H p=none->Q (.ref p) (upd H p (.lst (List.replicate k.toNat xs).flatten))
theorem len_rep {α:Type} (xs:List α) (k:Nat):(List.replicate k xs).flatten.length=k * xs.length:=by
 induction k with
 | zero=>simp
 | succ k ih=>rw [replicate_succ,flatten_cons,aM,ih,Nat.succ_mul,Nat.add_comm]
theorem yW:pI X (binaryOp .Mult) ad9:=by
 intro pins s σ H x y v u Q I rx ry h;obtain ⟨l,k,xs,rfl,rfl,hH,h1,h2,hz,q⟩:=h;cases rx;obtain ⟨t,rfl⟩:=ry;obtain ⟨z,its,n,r,hl,e⟩:=I.HY hH;have hlen:its.toArray.size * k.toNat<=sizeLine:=by rw [size_toArray,<- hl]; exact hz
 have hcap:¬ its.toArray.size * k.toNat > (2 ^ 63 - 1) / 8:=by
  have:(sizeLine:Nat)<=(2 ^ 63 - 1) / 8:=by decide
  omega
 have hfit:¬ (!Builtin.List.listFitsIndex k)=true:=by
  rw [fitsIndex_both h1 h2];exact Bool.false_ne_true
 have J0:¬ Builtin.List.listTooLong (its.toArray.size * k.toNat)=true:=by
  rw [Ax hlen];exact Bool.false_ne_true
 have hnew:List.foldl (fun x1 x2=>x1++x2) #[] (List.replicate (if its.toArray.isEmpty=true then 0 else k.toNat) its.toArray)=(List.replicate k.toNat its).flatten.toArray:=by
  have f0:∀ m:Nat,List.foldl (fun x1 x2=>x1++x2) #[] (List.replicate m its.toArray)=(List.replicate m its).flatten.toArray:=fun m=>by
   have:=foldl_rep its m [];rw [List.nil_append] at this;exact this
  rw [f0];cases its with
  | nil=>simp
  | cons a r'=>rw [if_neg (by simp)]
 refine wpAny_binaryOp_repeat_ref (T:="list") (U:="int") (by decide) ⟨_,e,rfl⟩ (fun s'=>typeIs_int s' k t) noFill_list_mul F.fills_int_mul F.slot_int_rmul repeat_list F.slot_int_index.lookup (call_meets F.slot_int_rmul (typeIs_int s k t) F.entry_int_rmul (F.args_int_rmul_2 _ _) (int___rmul___int_list k t l its.toArray n) ⟨e,rfl,⟨_,e,rfl⟩,call_meets F.slot_list_mul ⟨_,e,rfl⟩ F.entry_list_mul (F.args_list_mul_2 _ _) (AutoListH.list___mul___list_int_3 l its.toArray n k t hfit hcap J0) ⟨e,?_⟩⟩);rw [hnew];exact ⟨.ref _,_,I.ad8 (t':=s.toks) (r.rep k.toNat) (by rw [len_rep,Nat.mul_comm]; exact hz),rfl,q _ I.fresh⟩
end
section
variable {prog:bT} {w:World} {A:cL} {E:au->aG->Prop} {s:aG}
set_option maxRecDepth 100000 in
end
section
variable {X:Cx}
end
end L2
namespace Att
open PySem PySem.W PySem.Calls PyProof.Rows
theorem uz {P:Params} {h:Heap}:∀ (ns:List Int) (vs:List au),WellAll P h vs (ns.map WData.int)->IntsAre vs ns:=by
 intro ns
 induction ns with
 | nil =>
  intro vs w;rw [map_nil] at w;cases w;exact .nil
 | cons n ns ih =>
  intro vs w;rw [bw] at w;cases w with
  | cons a b =>
   cases a;exact .cons _ _ (ih _ b)
theorem Ia {l:OpenLaw} {n:Nat} (hn:l.most=some n) {P:Params} {h:Heap} {args:List WData} {vals:List au} (hpre:l.row.toRowW.claim.pre args=true) (hwl:WellAll P h vals args) : ∃ a vs ns,vals=[Value.ref a]/\args=[WData.list (ns.map WData.int)]/\h.get? a=some { cls:=.type "list",data:=.seq vs.toArray }/\IntsAre vs ns/\ns.length<=n:=by
 have hsh:WShape.hasAll [] args [.list .int]=true:=(pre_splitW hpre).1;have hc:l.pre.holds [] { args:=args }=true:=(pre_splitW hpre).2;obtain ⟨d,r,rfl,h1,h2⟩:=hasAllW_cons hsh;obtain rfl:=hasAllW_nil h2;obtain ⟨xs,rfl,h3⟩:=hasW_list h1;obtain ⟨ns,rfl⟩:=items_int h3;have hlen:ns.length<=n:=by
  unfold OpenLaw.pre at hc;have h4:(WTm.not (.lt (.lit (.int (n:Int))) (.len (.arg 0)))).holds [] { args:=[.list (ns.map .int)] }=true:=by
   have h4:=(holds_andW hc).1;rw [hn] at h4;exact h4
  have h5:=condW_of h4 (w_not (w_lt w_lit (w_len_list (w_arg rfl))));rw [aq] at h5;refine Nat.le_of_not_lt fun q=>?_
  have q':(n:Int) < ((ns.length:Nat):Int):=by omega
  first
   | (rw [aO q'] at h5; exact absurd h5 (by decide))
   | (simp at h5; omega)
 cases hwl with
 | cons w1 w2 =>
  cases w2;cases w1 with
  | list ho hall=>exact ⟨_,_,ns,rfl,rfl,ho,uz ns _ hall,hlen⟩
theorem Ib (l:OpenLaw) (args:List WData):l.row.toRowW.claim.post args (.bool true) args=true := postW_of (r:=l.row.toRowW) (X:=(true == true)) (show WShape.has [] (.bool true) .bool=true by first | rfl | decide | simp [WShape.has,WShape.arms,WShape.armsAll]) (show (WTm.eq .res (.lit (.bool true))).value [] { args:=args,res:=some (.bool true),after:=args }=some (.bool (true == true)) from w_eq_bool (w_res rfl) w_lit) rfl
theorem Ay {l:OpenLaw} {n:Nat} {q:bT} {loose:List Str} {XP:(Str->Option au)->Heap->Prop} {YP:World->Heap->Prop} {d:DefRec} (hn:l.most=some n) (hdf:d.params.defaults=[]) (call:∀ (w:World) (s₀ s₁:aG) (mg mb:Str->Option au) (fa:aA) (o:Obj) (pm cd doc:au) (a:aA) (vs:List au) (ns:List Int),Ground q loose [] XP w s₀ mg mb s₁.heap->YP w s₁.heap -> s₁.heap.get? fa=some o->o.data=.func (docDef d.name d.params d.body d.scope pm cd doc)->s₁.heap.CodeRec cd d.name->mg d.name=some (.ref fa) -> s₁.heap.get? a=some { cls:=.type "list",data:=.seq vs.toArray }->IntsAre vs ns->ns.length<=n->s₁.gens=#[] -> codeAny (model l.prog w) callerA (.call (.ref fa) ⟨[.ref a],[]⟩) (fun r s'=>r=.ok (.ret (.bool true))/\OldK s₁.heap s'.heap/\s'.os=s₁.os/\AllBare s'.gens) s₁) : WalkO q loose XP YP l.row.toRowW d [] (fun f vs=>PySem.call f vs):=by
 intro w s₀ s₁ mg mb G Y fa o pm cd doc dV kV ho hd hcd hD hmg hg args vals as hpre hlay hrd hwl hlo;obtain rfl:dV=.none:=Dflts.none hD hdf;obtain rfl:kV=.none:=Dflts.noKw hD;obtain ⟨a,vs,ns,rfl,rfl,hobj,hints,hlen⟩:=Ia hn hpre hwl;refine enter_call (bL (call w s₀ s₁ mg mb fa o pm cd doc a vs ns G Y ho (fd_plain hd) hcd hmg hobj hints hlen hg) fun r s' hq=>?_);obtain ⟨rfl,h2,h3,h4⟩:=hq;exact ⟨.inl ⟨.bool true,.bool true,[],rfl,fun _=>rfl,.bool true,Ib l _,fun _=>⟨Pairwise.nil,fun _ hm=>(nomatch hm)⟩⟩,h2,h3,h4⟩
section
variable {prog:bT} {w:World} {A:cL} {E:au->aG->Prop} {s:aG} {K:Frag}
end
end Att
namespace L2
open PySem PySem.Spec PyProof.Rows
theorem qX:∀ {vs:List au} {ns:List Int},IntsAre vs ns->Vals (ns.map V.int) vs
 | _,_,.nil=>.nil
 | _,_,.cons n t h=>.cons ⟨t,rfl⟩ (qX h)
def Only (H:Hp):Prop:=∀ b,H b=none\/∃ o xs,H b=some (.Ai o (.lst xs))
theorem J1 {P:bT} {w:World} {K:Fg} {mg mb:Str->Option au} {CX:wX} {k:Nat} {fa a:aA} {fd:dN} {x:Str} {sp:Sp} {s₁:aG} {vs:List au} {ns:List Int} (KX:K.In s₁.heap) (hns:s₁.heap.Ns mainGlobals mg) (hb:s₁.heap.Ns builtinsNs mb) (hbb:∀ x:Str,x≠"__name__"->mb x=bootBuiltins x) (hlim:s₁.heap.NoLimit) (hg:s₁.gens=#[]) (ha:s₁.heap.get? a=some { cls:=.type "list",data:=.seq vs.toArray }) (hi:IntsAre vs ns) (hl:ns.length<=sizeLine) (hr:d7 k callerA) (F:∀ base:Heap,K.In base->base.Ns mainGlobals mg->cC P w K mg base CX k fa fd [x] sp) (hbind:∀ (s:aG) (u:au),BindsTo s fd ⟨[u],[]⟩ [(x,u)]) (hsp:∀ H:Hp,Only H->cY K H a (ns.map V.int)->sp [.ref a] H (fun v _=>v=.bl true) fun _ _ _=>False) (hCX:∀ H e s',CX [] H s₁ (fun _ _ _=>False) e s'->False) : codeAny (model P w) callerA (.call (.ref fa) ⟨[.ref a],[]⟩) (fun r s'=>r=.ok (.ret (.bool true))/\OldK s₁.heap s'.heap/\s'.os=s₁.os/\AllBare s'.gens) s₁:=by
 have rv:=qX hi;have lenV:=hi.length;have core:∀ H:Hp,Only H->cY K H a (ns.map V.int)->qP P w H s₁.heap->(∀ b,H b≠none->b=a)->(H a≠none->K.lookup a=none) ->
   codeAny (model P w) callerA (.call (.ref fa) ⟨[.ref a],[]⟩) (fun r s'=>r=.ok (.ret (.bool true))/\OldK s₁.heap s'.heap/\s'.os=s₁.os/\AllBare s'.gens) s₁:=by
  intro H hO hS hok hA hK;have Gj:∀ {b:aA} {o:Obj},s₁.heap.get? b=some o->H b=none->(yP s₁.heap H).get? b=some o:=fun e n=>JC e n
  have noA:∀ {b:aA} {o:Obj} {es:Array DictEntry} {ep:Nat},s₁.heap.get? b=some o->o.data=.dict es ep->H b=none:=fun {b o es ep} e d=>by
   cases q:H b with
   | none=>rfl
   | some u =>
    have e':b=a:=hA b (by rw [q]; simp);subst e';rw [ha] at e; cases e;have d':Data.seq vs.toArray _=Data.dict es ep:=d;cases d'
  have nsK:∀ {b:aA} {m:Str->Option au},s₁.heap.Ns b m->(yP s₁.heap H).Ns b m:=fun {b m} ⟨o,es,ep,e,d,r⟩=>⟨o,es,ep,Gj e (noA e d),d,r⟩
  have hKb:K.In (yP s₁.heap H):=fun b o e=>Gj (KX b o e) (by
   cases q:H b with
   | none=>rfl
   | some u =>
    have e':b=a:=hA b (by rw [q]; simp);subst e';rw [hK (by rw [q]; simp)] at e; cases e)
  have hM:Mod K mg (yP s₁.heap H):=⟨hKb,nsK hns,⟨mb,nsK hb,hbb⟩,let ⟨mc,h1,h2⟩:=hlim; ⟨mc,nsK h1,h2⟩⟩;have e0:Ar P w K mg (yP s₁.heap H) callerA [] s₁ H:=⟨rfl,hM,fun b o e=>Qj e,Nat.le_of_eq (Hz _ _),trivial,fun b hb=>absurd (show b ∈ ([]:List aA) from hb) (by simp),hok,.of_eq hg⟩;refine bL ((F _ hKb (nsK hns)).run callerA [] s₁ H ⟨[.ref a],[]⟩ [.ref a] [.ref a] _ _ hr e0 (hbind s₁ (.ref a)) (.cons rfl .nil) (hsp H hO hS)) fun r s' h=>?_
  cases r with
  | error e=>exact (hCX H e s' h).elim
  | ok fl =>
   cases fl with
   | next=>exact False.elim h
   | brk=>exact False.elim h
   | cont=>exact False.elim h
   | ret u =>
    obtain ⟨v,H',os,bare,un,hok',r',q⟩:=h;have q':v=.bl true:=q;subst q';obtain rfl:u=Value.bool true:=r';refine ⟨rfl,OldK.of_keep fun b o e=>?_,os,bare⟩;cases q:H b with
    | none=>exact un.keep b o e q (by intro z; exact absurd (show b ∈ ([]:List aA) from z) (by simp)) (by simp)
    | some u =>
     rcases hO b with z | ⟨ob,xs,z⟩
     ·rw [q] at z; cases z
     ·have z2:=un.uy b ob _ z;obtain ⟨e1,_⟩:=hok b _ z;obtain ⟨e2,_⟩:=hok' b _ z2;rw [e] at e1; cases e1;exact e2
 cases hk:K.lookup a with
 | some o =>
  have e:=KX a o hk;rw [ha] at e;cases e;refine core (fun _=>none) (fun _=>.inl rfl) (.inr ⟨_,vs.toArray,_,hk,rfl,rfl,rfl,by rw [size_toArray,lenV]; exact hl,by simpa using rv⟩) (fun b u z=>by have z':(none:Option HO)=some u:=z; cases z') (fun b z=>absurd rfl z) fun z=>absurd rfl z
 | none =>
  refine core (fun b=>if b=a then some (.Ai { cls:=.type "list",data:=.seq vs.toArray } (.lst (ns.map V.int))) else none) (fun b=>?_) (.inl (.inr ⟨{ cls:=.type "list",data:=.seq vs.toArray },if_pos rfl⟩)) (fun b u z=>?_) (fun b z=>?_) fun _=>hk
  ·by_cases hb:b=a
   ·exact .inr ⟨_,_,if_pos hb⟩
   ·exact .inl (if_neg hb)
  ·by_cases hb:b=a
   ·have z':=(if_pos hb).symm.trans z;cases z';subst hb;exact ⟨ha,by rw [aq]; exact hl,vs,_,rv,ha⟩
   ·have z':=(if_neg hb).symm.trans z;cases z'
  ·by_cases hb:b=a
   ·exact hb
   ·exact absurd (if_neg hb) z
theorem QD {l:PySem.W.OpenLaw} {n k:Nat} {q:bT} {loose:List Str} {XP:(Str->Option au)->Heap->Prop} {YP:World->Heap->Prop} {d:DefRec} {K:Params->Fg} {CX:World->wX} {sp:World->Sp} {x:Str} (hn:l.most=some n) (hn2:n<=sizeLine) (hdf:d.params.defaults=[]) (hr:d7 k callerA) (hY:∀ (w:World) (h:Heap),YP w h->(K w.params).In h) (F:∀ (w:World) (mg:Str->Option au) (fa:aA) (h:Heap),(K w.params).In h->h.Ns mainGlobals mg->mg d.name=some (.ref fa) -> ∃ fd:dN,(∀ (s:aG) (u:au),BindsTo s fd ⟨[u],[]⟩ [(x,u)]) /\ ∀ base:Heap,(K w.params).In base->base.Ns mainGlobals mg->cC l.prog w (K w.params) mg base (CX w) k fa fd [x] (sp w)) (hsp:∀ (w:World) (H:Hp) (a:aA) (ns:List Int),ns.length<=n->Only H->cY (K w.params) H a (ns.map V.int)->sp w [.ref a] H (fun v _=>v=.bl true) fun _ _ _=>False) (hCX:∀ (w:World) (H:Hp) (s:aG) (e:au) (s':aG),CX w [] H s (fun _ _ _=>False) e s'->False) : PySem.W.WalkO q loose XP YP l.row.toRowW d [] (fun f vs=>PySem.call f vs):=by
 refine Att.Ay hn hdf fun w s₀ s₁ mg mb fa o pm cd doc a vs ns G Y ho hd hcd hmg hobj hints hlen hg=>?_
 have KX:=hY w _ Y;obtain ⟨fd,hb,hF⟩:=F w mg fa _ KX G.T.g hmg;exact J1 KX G.T.g G.T.b G.T.builtins G.T.nolimit hg hobj hints (bA hlen hn2) hr hF hb (fun H hO hS=>hsp w H a ns hlen hO hS) fun H e s'=>hCX w H s₁ e s'
structure oK (K:Fg) (x qual:Str) (st:cQ) (f:aA) (fd:dN):Prop where
 ex:∃ (oc:au) (od:Option aA) (kV doc pm:au) (an:Option aA) (cdv ct:au) (osl:Array (Option au)),fd=fnOf x qual (jP st) (gD st) (aZ st) .none kV doc pm an cdv ct/\K.lookup f=some ⟨oc,od,.func fd,osl⟩/\codeIn K cdv qual=true
 kp:keepIn K (.ref f)=true
section
variable {P:bT} {w:World} {K:Fg} {mg:Str->Option au} {base:Heap}
theorem oK.binds {x qual:Str} {st:cQ} {f:aA} {fd:dN} {ps:List Str} (F:oK K x qual st f fd) (h:∀ (kV doc pm:au) (an:Option aA) (cdv ct:au) (us:List au),us.length=ps.length->bindArgs (fnOf x qual (jP st) (gD st) (aZ st) .none kV doc pm an cdv ct) ⟨us,[]⟩=pure (ps.zip us)):Binds K fd ps []:=by
 obtain ⟨oc,od,kV,doc,pm,an,cdv,ct,osl,rfl,lk,hcd⟩:=F.ex;exact .all (h kV doc pm an cdv ct)
theorem gq {x qual:Str} {st:cQ} {f:aA} {oc:au} {od an:Option aA} {osl:Array (Option au)} {kV doc pm cdv ct:au} (l:K.lookup f=some ⟨oc,od,.func (fnOf x qual (jP st) (gD st) (aZ st) .none kV doc pm an cdv ct),osl⟩) (c:codeIn K cdv qual=true) (k:keepIn K (.ref f)=true):oK K x qual st f (fnOf x qual (jP st) (gD st) (aZ st) .none kV doc pm an cdv ct):=⟨⟨oc,od,kV,doc,pm,an,cdv,ct,osl,rfl,l,c⟩,k⟩
end
section
variable {X:Cx}
theorem pv (i:Nat) {x:Str} {pos:Pos} (hN:autoParam (X.N[i]?=some x) zau0) (hv:Vis X.env.scope x:=by first | exact Or.inl rfl | exact Or.inr (Or.inl rfl) | exact Or.inr (Or.inr rfl)) (hd:autoParam ((x == ("__debug__":Str))=false) zau1) (hcd:autoParam ((x == ("__classdict__":Str))=false) zau1):PE X (.Name x pos) (Qk i):=Y8 hN hv hd hcd
end
theorem dI {A B:Prop} (h:B):if false=true then A else B:=by
 rw [if_neg Bool.false_ne_true];exact h
theorem c7 {A B:Prop} (h:A):if true=true then A else B:=by
 rw [if_pos rfl];exact h
def Same (H H':Hp):Prop:=∀ b o,H b=some o->H' b=some o
theorem Same.refl (H:Hp):Same H H:=fun _ _ h=>h
theorem Same.trans {H H1 H2:Hp} (a:Same H H1) (b:Same H1 H2):Same H H2:=fun c o h=>b c o (a c o h)
theorem Same.free {H H':Hp} (e:Same H H') {l:aA} (h:H' l=Option.none):H l=Option.none:=by
 cases q:H l with
 | none=>rfl
 | some o =>
  rw [e l o q] at h;cases h
theorem Same.seq {K:Fg} {H H':Hp} {a:aA} {xs:List V} (e:Same H H') (h:cY K H a xs):cY K H' a xs:=by
 rcases h with (h | ⟨o,h⟩) | h
 ·exact .inl (.inl (e _ _ h))
 ·exact .inl (.inr ⟨o,e _ _ h⟩)
 ·exact .inr h
theorem vm (o:Obj) (f:Array au->Array au):(o.mapFields f).dict=o.dict:=by
 obtain ⟨c,d,dt,sl⟩:=o;cases dt <;> rfl
noncomputable def Exc (h:Heap) (e:aA) (cls:au) (dx:Option aA) (T:Option aA):Prop := ∃ oe vs,h.get? e=some oe/\oe.cls=cls/\oe.dict=dx/\oe.data=.fields vs/\(dx=none->vs[2]?=some Value.none) /\ match T with
 | none=>vs[1]?=some Value.none
 | some t=>vs[1]?=some (.ref t)/\t≠e/\∃ oT ts fl,h.get? t=some oT/\oT.data=.fields ts/\ts[3]?=some fl
theorem Exc.keeps {h h':Heap} {e:aA} {cls:au} {dx T:Option aA} (x:Exc h e cls dx T) (k:∀ b o,(b=e\/T=some b)->h.get? b=some o->h'.get? b=some o):Exc h' e cls dx T:=by
 obtain ⟨oe,vs,he,hc,hx,hd,cx,hT⟩:=x;refine ⟨oe,vs,k _ _ (.inl rfl) he,hc,hx,hd,cx,?_⟩;cases T with
 | none=>exact hT
 | some t =>
  obtain ⟨h1,hne,oT,ts,fl,h2,h3,h4⟩:=hT;exact ⟨h1,hne,oT,ts,fl,k _ _ (.inr rfl) h2,h3,h4⟩
def Az (head:au) (L:aA) (pl:List au):Obj := { cls:=.type "traceback",dict:=none,data:=.fields ([head,.ref L,.none,rawInt L,.none]++(if pl.isEmpty then List.replicate 6 Value.none else pl)).toArray }
theorem yX (head:au) (L:aA) (pl:List au):∃ ts,(Az head L pl).data=.fields ts/\ts[3]?=some (rawInt L):=⟨_,rfl,by simp⟩
structure Ba (fr:List aA) (e:aA) (T:Option aA) (h h':Heap):Prop where
 same:∀ b o,b ∉ fr->b≠e->T≠some b->h.get? b=some o->h'.get? b=some o
 upto:∀ b o,b≠e->T≠some b->h.get? b=some o->∃ sl,h'.get? b=some { o with slots:=sl }
abbrev lO (l:List Env):List aA:=l.filterMap (·.frame)
section
variable {M:Model} {A:cL} {E:au->aG->Prop} {Q:Unit->aG->Prop}
variable {s:aG} {base:Heap} {env top:Env} {rest:List Env} {L e:aA} {cls:au} {dx:Option aA}
theorem Ka {Qv:au->aG->Prop} (st:A.frames=some (top::rest)) (Dv:s.heap.FunFrames base (top::rest)) (e0:top.frame=some L) (e1:env.frame=some L) (k:∀ h',Heap.SlotsOnly (lO (top::rest)) s.heap h'->Qv (.ref L) { s with heap:=h' }):wpAny M A (PySem.frameOf env) Qv E s:=by
 have swap:PySem.frameOf env=PySem.frameOf top:=by unfold PySem.frameOf; rw [e0,e1]
 rw [swap];exact wpAny_frameOf_fun st Dv e0 k
theorem xW {oe:Obj} {vs:Array au} {head:au} {b₀:Bool} (st:A.frames=some (top::rest)) (Dv:s.heap.FunFrames base (top::rest)) (e0:top.frame=some L) (e1:env.frame=some L) (at_:s.heap.get? e=some oe) (lQ:oe.data=.fields vs) (two:1 < vs.size) (cx:oe.dict=none->vs[2]?=some Value.none) (k:∀ h' T,Ba (lO (top::rest)) e none s.heap h'->s.heap.get? T=none->Exc h' e oe.cls oe.dict (some T)->Q () { s with heap:=h' }) : wpAny M A (PySem.frameOf env >>= fun a=>entryPlaceOf L b₀ >>= fun pl=>EntryCells.newEntry head a .none (rawInt L) .none pl >>= fun r=>setField (.ref e) 1 r) Q E s:=by
 refine aj (Ka st Dv e0 e1 fun g sg=>aj (wpAny_entryPlaceOf fun pl ok=>?_));have out:e ∉ lO (top::rest):=fun q=>(Dv.mem q).2.elim fun o z=>z.2 vs (by rw [at_] at z; rw [<- bY z.1]; exact lQ)
 have g_e:g.get? e=some oe:=(sg.2.1 e out).trans at_;have apart:g.objs.size≠e:=Nat.ne_of_gt (Heap.lt_size g_e)
 let g1:=g.push (Az head L pl)
 have aea:g1.get? e=some oe:=ao (Az head L pl) g_e;have aiL:g1.get? g.objs.size=some (Az head L pl):=aD g rfl
 let turn:Obj->Obj:=Obj.mapFields fun xs=>xs.setIfInBounds 1 (Value.ref g.objs.size)
 have now:(turn oe).data=.fields (vs.setIfInBounds 1 (.ref g.objs.size)):=Obj.data_mapFields lQ _;have self:(g1.update e turn).get? e=some (turn oe):=Heap.get?_update_self turn aea (Obj.isFreed_of_fields now);have others:∀ b,b≠e->(g1.update e turn).get? b=g1.get? b:=fun b nb=>Heap.get?_update_other g1 turn (Ne.symm nb)
 have up:∀ b o,b≠e->g.get? b=some o->(g1.update e turn).get? b=some o:=fun b o nb q=>(others b nb).trans (ao (Az head L pl) q)
 refine aj (wpAny_newObj_type ?_ (ok.sizeOk5 _ _ _ _ _));refine wpAny_setField (s:={ s with heap:=g1 }) aea lQ two ?_;refine k (g1.update e turn) g.objs.size ⟨fun b o nf nb _ q=>up b o nb ((sg.2.1 b nf).trans q),fun b o nb _ q=>?_⟩ ?_ ?_
 ·obtain ⟨sl,z⟩:=sg.2.2 b o q;exact ⟨sl,up b _ nb z⟩
 ·exact Heap.get?_none_of_le (Nat.le_of_eq sg.1.symm)
 ·obtain ⟨ts,d,f⟩:=yX head L pl;exact ⟨turn oe,_,self,Obj.cls_mapFields _ _,vm _ _,now,(fun z=>by rw [Array.getElem?_setIfInBounds_ne (by decide)]; exact cx z),by simp [two],apart,_,ts,_,(others _ apart).trans aiL,d,f⟩
theorem Ba.weaken {fr:List aA} {T:Option aA} {h h':Heap} (n:Ba fr e none h h'):Ba fr e T h h':=⟨fun b o a c _ q=>n.same b o a c (fun z=>nomatch z) q,fun b o c _ q=>n.upto b o c (fun z=>nomatch z) q⟩
theorem Kc {T:Option aA} (st:A.frames=some (top::rest)) (Dv:s.heap.FunFrames base (top::rest)) (e0:top.frame=some L) (e1:env.frame=some L) (x:Exc s.heap e cls dx T) (k:∀ h' T',Ba (lO (top::rest)) e T s.heap h'->(s.heap.get? T'=none\/T=some T')->Exc h' e cls dx (some T')->Q () { s with heap:=h' }):wpAny M A (noteFrame (.ref e) env) Q E s:=by
 obtain ⟨oe,vs,at_,rfl,rfl,lQ,cx,more⟩:=id x;unfold noteFrame;simp only [e1];cases T with
 | none =>
  have nil:vs[1]?=some Value.none:=more;refine aj (wpAny_field at_ lQ nil ?_);rw [if_neg (show ¬ (Value.none != Value.none)=true by decide)];exact xW st Dv e0 e1 at_ lQ (Array.getElem?_eq_some_iff.mp nil).1 cx fun h' T' n new y=>k h' T' n (.inl new) y
 | some t =>
  obtain ⟨one,apart,oT,ts,fl,tAt,tF,three⟩:=more;have lt1:=(Array.getElem?_eq_some_iff.mp one).1;have lt3:=(Array.getElem?_eq_some_iff.mp three).1;refine aj (wpAny_field at_ lQ (x:=.ref t) one ?_);have has:(Value.ref t != Value.none)=true:=rfl;simp only [has,if_true];refine aj (wpAny_field tAt tF three ?_)
  by_cases here:(fl == rawInt L)=true
  ·simp only [here,if_true];exact ak (k s.heap t ⟨fun _ _ _ _ _ q=>q,fun _ o _ _ q=>⟨o.slots,q⟩⟩ (.inr rfl) x)
  ·rw [if_neg here]
   let off:Obj->Obj:=Obj.mapFields fun xs=>xs.setIfInBounds 3 Value.none
   have else_:∀ b,b≠t->(s.heap.update t off).get? b=s.heap.get? b:=fun b nb=>Heap.get?_update_other s.heap off (Ne.symm nb)
   have frames':(s.heap.update t off).FunFrames base (top::rest):=Dv.of_keeps fun b o q nf=>⟨o,(else_ b fun z=>nf ts (by rw [z,tAt] at q; rw [<- bY q]; exact tF)).trans q,rfl⟩
   refine aj (wpAny_setField tAt tF lt3 (xW (s:={ s with heap:=s.heap.update t off }) st frames' e0 e1 ((else_ e (Ne.symm apart)).trans at_) lQ lt1 cx fun h' T' n new y=>k h' T' ?_ ?_ y))
   ·exact ⟨fun b o a c d q=>n.same b o a c (fun z=>nomatch z) ((else_ b fun z=>d (congrArg some z.symm)).trans q),fun b o c d q=>n.upto b o c (fun z=>nomatch z) ((else_ b fun z=>d (congrArg some z.symm)).trans q)⟩
   ·by_cases z:T'=t
    ·exact .inr (congrArg some z.symm)
    ·exact .inl ((else_ T' z).symm.trans new)
theorem Dw {t:aA} {fr:Option aA} (x:Exc s.heap e cls dx (some t)) (k:∀ h',(∀ b o,b≠t->s.heap.get? b=some o->h'.get? b=some o)->Exc h' e cls dx (some t)->Q () { s with heap:=h' }) : wpAny M A (setFlight (.ref e) fr) Q E s:=by
 obtain ⟨oe,vs,at_,rfl,rfl,lQ,cx,one,apart,oT,ts,fl,tAt,tF,three⟩:=x;have lt3:=(Array.getElem?_eq_some_iff.mp three).1;have has:(Value.ref t != Value.none)=true:=rfl;unfold setFlight;refine aj (wpAny_field at_ lQ one ?_);simp only [has,if_true]
 let mark:au:=fr.elim Value.none fun f=>rawInt f
 have tF':(oT.mapFields fun xs=>xs.setIfInBounds 3 mark).data=.fields (ts.setIfInBounds 3 mark):=Obj.data_mapFields tF _;refine wpAny_setField tAt tF lt3 (k _ (fun b o nb q=>(Heap.get?_update_other s.heap _ (Ne.symm nb)).trans q) ?_);exact ⟨oe,vs,(Heap.get?_update_other s.heap _ apart).trans at_,rfl,rfl,lQ,cx,one,apart,_,_,mark,Heap.get?_update_self _ tAt (Obj.isFreed_of_fields tF'),tF',by simp [lt3]⟩
end
theorem dJ.there {P:bT} {w:World} {H:Hp} {h:Heap} {a:aA} {o:HO} (x:dJ P w H h a o):∃ ob,h.get? a=some ob:=by
 cases o with
 | lst xs=>obtain ⟨_,_,_,_,e⟩:=x; exact ⟨_,e⟩
 | tup xs=>obtain ⟨_,_,_,ob,e,_⟩:=x; exact ⟨_,e⟩
 | dK kvs=>obtain ⟨_,_,_,_,o,_,_,e,_⟩:=x; exact ⟨_,e⟩
 | dT kvs=>obtain ⟨_,_,_,_,o,_,_,e,_⟩:=x; exact ⟨_,e⟩
 | set S n=>obtain ⟨o,_,_,_,e,_⟩:=x; exact ⟨_,e⟩
 | ins C dx fs=>obtain ⟨_,_,_,e,_⟩:=x; exact ⟨_,e⟩
 | own y=>exact x
 | xd fs=>obtain ⟨_,⟨_,_,_,e,_⟩,_⟩:=x; exact ⟨_,e⟩
 | rng lo hi=>obtain ⟨_,_,_,e⟩:=x; exact ⟨_,e⟩
 | Ai ob u=>obtain ⟨e,_⟩:=x; exact ⟨_,e⟩
 | S7 ps=>exact ⟨_,(show h.get? a=some _ from x)⟩
 | met f y=>exact ⟨_,(show h.get? a=some _ from x)⟩
 | ext φ=>obtain ⟨_,e,_⟩:=x; exact e
theorem qP.none_of {P:bT} {w:World} {H:Hp} {h:Heap} {b:aA} (x:qP P w H h) (hb:h.get? b=none):H b=none:=by
 cases q:H b with
 | none=>rfl
 | some o =>
  obtain ⟨ob,e⟩:=(x b o q).there;rw [hb] at e; cases e
def Loose (X:Cx) (pins:List (aA × Obj)) (H:Hp) (b:aA):Prop := H b=none/\b≠X.env.locals/\b ∉ X.fs/\(b ∉ X.ex->X.s₀.heap.get? b=none)/\(∀ x c,X.env.cells.lookup x=some c->c≠b)/\∀ p ∈ X.pn++pins,p.1≠b
section
variable {X:Cx} {pins:List (aA × Obj)} {σ:St} {H:Hp} {s:aG} {b:aA}
theorem Inv.gB (I:Inv X pins σ H s) (hb:s.heap.get? b=none):Loose X pins H b:=by
 refine ⟨I.hok.none_of hb,fun z=>?_,fun z=>?_,fun z=>?_,fun x c e z=>?_,fun p hp z=>?_⟩
 ·obtain ⟨m,⟨o,_,_,ho,_⟩,_⟩:=I.loc;rw [<- z,hb] at ho; cases ho
 ·obtain ⟨_,o,ho,_⟩:=I.o9.mem z;rw [hb] at ho; cases ho
 ·cases q:X.s₀.heap.get? b with
  | none=>rfl
  | some o =>
   obtain ⟨o',e⟩:=I.base.there b o q z;rw [hb] at e; cases e
 ·obtain ⟨v,o,ho,_⟩:=I.cell x c e;rw [z,hb] at ho; cases ho
 ·have e:=(I.pin p hp).1;rw [z,hb] at e; cases e
theorem Inv.kJ {h':Heap} {t':Nat} {ch:List aA} (I:Inv X pins σ H s) (hch:∀ b ∈ ch,Loose X pins H b) (keep:∀ b o,b ∉ frs X.stack->b ∉ ch->s.heap.get? b=some o->h'.get? b=some o) (slot:∀ b o,b ∉ ch->s.heap.get? b=some o->∃ sl,h'.get? b=some { o with slots:=sl }):Inv X pins σ H { s with heap:=h',toks:=t' }:=by
 have Tc:∀ b o,X.s₀.heap.get? b=some o->b≠X.env.locals:=fun b o e=>Nat.ne_of_lt (aU (Heap.lt_size e) I.ok.above)
 have Te:∀ b o,X.s₀.heap.get? b=some o->b ∉ X.ex->b ∉ ch:=fun b o e hx hb=>by
  have:=(hch b hb).2.2.2.1 hx;rw [e] at this; cases this
 have stk:∀ b,b≠X.env.locals->b ∉ X.fs->b ∉ frs X.stack:=fun b h1 h2 hb=>(aK.mp (I.qQ b hb)).elim h1 h2
 have cellK:∀ x c,X.env.cells.lookup x=some c->∀ v,s.heap.IsCell c v->h'.IsCell c v:=fun x c e v ⟨o,ho,hd⟩=>by
  obtain ⟨sl,q⟩:=slot c o (fun z=>(hch c z).2.2.2.2.1 x c e rfl) ho;exact ⟨_,q,hd⟩
 refine ⟨I.ok,I.os,I.bare,⟨fun b o e n hb hx=>?_,fun b o e n hb hx=>?_,I.base.free,fun b o e hx=>?_,I.base.tups,I.base.uy,I.base.uT⟩,?_,fun x c e=>?_,I.free,I.gJ,fun p hp=>?_,fun a u e=>?_,I.len⟩
 ·exact keep b o (stk b (Tc b o e) hb) (Te b o e hx) (I.base.keep b o e n hb hx)
 ·obtain ⟨sl,e1⟩:=I.base.slot b o e n hb hx;obtain ⟨sl',e2⟩:=slot b _ (Te b o e hx) e1;exact ⟨sl',e2⟩
 ·obtain ⟨o',e1⟩:=I.base.there b o e hx;obtain ⟨sl',e2⟩:=slot b _ (Te b o e hx) e1;exact ⟨_,e2⟩
 ·obtain ⟨m,⟨o,es,ep,ho,r⟩,hl⟩:=I.loc;obtain ⟨sl,e⟩:=slot _ o (fun z=>(hch _ z).2.1 rfl) ho;refine ⟨m,⟨_,es,ep,e,r⟩,fun i x v e1 e2 e3=>?_⟩;obtain ⟨u,ru,l⟩:=hl i x v e1 e2 e3;refine ⟨u,ru,?_⟩;rcases l with l | ⟨k,c,e,z⟩
  ·exact .inl l
  ·exact .inr ⟨k,c,e,cellK x c e _ z⟩
 ·obtain ⟨v,z⟩:=I.cell x c e;exact ⟨v,cellK x c e v z⟩
 ·obtain ⟨e,n,ne,nf,d⟩:=I.pin p hp;exact ⟨keep p.1 p.2 (stk _ ne nf) (fun z=>(hch _ z).2.2.2.2.2 p hp rfl) e,n,ne,nf,d⟩
 ·refine (I.hok a u e).stay (fun c v hc q=>?_) (fun _ q=>q) fun _ _ q=>q
  have ht:∃ z,H c=some z:=by
   rcases hc with z | z
   ·exact ⟨u,by rw [z]; exact e⟩
   ·exact ⟨_,z⟩
  obtain ⟨z,hz⟩:=ht;refine keep c v (fun y=>?_) (fun y=>?_) q
  ·have:=I.yQ c y;rw [hz] at this; cases this
  ·have:=(hch c y).1;rw [hz] at this; cases this
end
def Fly (X:Cx) (pins:List (aA × Obj)) (H:Hp) (s:aG) (e:aA) (cls:au) (dx:Option aA):Prop := ∃ T,Exc s.heap e cls dx T/\Loose X pins H e/\∀ t,T=some t->Loose X pins H t
def Ke (X:Cx) (pins:List (aA × Obj)) (H:Hp) (s:aG) (e:aA) (cls:au) (dx:Option aA):Prop := ∃ t,Exc s.heap e cls dx (some t)/\Loose X pins H e/\Loose X pins H t
theorem Ke.fly {X:Cx} {pins:List (aA × Obj)} {H:Hp} {s:aG} {e:aA} {cls:au} {dx:Option aA} (f:Ke X pins H s e cls dx):Fly X pins H s e cls dx:=by
 obtain ⟨t,x,l1,l2⟩:=f;exact ⟨some t,x,l1,fun y z=>by cases z; exact l2⟩
def oM (X:Cx) (L:aA):Prop:=∃ env₀ outer,X.stack=env₀::outer/\env₀.frame=some L/\X.env.frame=some L
section
variable {X:Cx} {pins:List (aA × Obj)} {σ:St} {H:Hp} {s:aG} {e L:aA} {cls:au} {dx:Option aA} {M:Model} {A:cL} {E:au->aG->Prop} {Q:Unit->aG->Prop}
theorem qY (I:Inv X pins σ H s) (hA:A.frames=some X.stack) (F:oM X L) (f:Fly X pins H s e cls dx) (h:∀ s',Inv X pins σ H s'->Ke X pins H s' e cls dx->Q () s') : wpAny M A (noteFrame (.ref e) X.env) Q E s:=by
 obtain ⟨T,x,le,lt⟩:=f;obtain ⟨env₀,outer,es,hf₀,hf⟩:=F;refine Kc (base:=X.base) (by rw [hA,es]) (by rw [<- es]; exact I.stack) hf₀ hf x fun h' T' nt k3 x'=>?_
 have hch:∀ b ∈ e::T.toList,Loose X pins H b:=fun b hb=>by
  rcases aK.mp hb with z | z
  ·rw [z]; exact le
  ·exact lt b (by simpa using z)
 have I':Inv X pins σ H { s with heap:=h',toks:=s.toks }:=I.kJ (ch:=e::T.toList) hch
  (fun b o hb hc q=>nt.same b o (by unfold frs at hb; rw [es] at hb; exact hb) (fun z=>hc (by rw [z]; exact mem_cons_self)) (fun z=>hc (mem_cons_of_mem _ (by simp [z]))) q)
  (fun b o hc q=>nt.upto b o (fun z=>hc (by rw [z]; exact mem_cons_self)) (fun z=>hc (mem_cons_of_mem _ (by simp [z]))) q)
 refine h _ I' ⟨T',x',le,?_⟩;rcases k3 with z | z
 ·exact I.gB z
 ·exact lt T' z
theorem iU {fr:Option aA} (I:Inv X pins σ H s) (f:Ke X pins H s e cls dx) (h:∀ s',Inv X pins σ H s'->Ke X pins H s' e cls dx->Q () s') : wpAny M A (setFlight (.ref e) fr) Q E s:=by
 obtain ⟨t,x,le,lt⟩:=f;refine Dw x fun h' k x'=>?_
 have I':Inv X pins σ H { s with heap:=h',toks:=s.toks }:=I.kJ (ch:=[t]) (fun b hb=>by rw [aL.mp hb]; exact lt)
  (fun b o _ hc q=>k b o (fun z=>hc (by rw [z]; exact mem_cons_self)) q) (fun b o hc q=>⟨o.slots,k b o (fun z=>hc (by rw [z]; exact mem_cons_self)) q⟩)
 exact h _ I' ⟨t,x',le,lt⟩
end
noncomputable def eZ (P:bT) (w:World):wX:=fun outer H s E ev s'=>∃ e cls dx H' t,ev=.ref e/\s'.os=s.os/\AllBare s'.gens/\Un (frs outer) [] H H' s.heap s'.heap/\qP P w H' s'.heap /\ Exc s'.heap e cls dx (some t)/\H' e=none/\H' t=none/\s.heap.get? e=none/\s.heap.get? t=none/\E cls dx H'
def m6 (X:Cx) (E:XK):Prop:=∀ pins σ H s e cls dx,Inv X pins σ H s->Fly X pins H s e cls dx->E cls dx H->X.xe (.ref e) s
theorem dU {X:Cx} {E:XK} (acc:m6 X E):Passes (eZ X.prog X.w) X E:=by
 intro pins σ H s ev s' I h;obtain ⟨e,cls,dx,H',t,rfl,os,bare,un,hok,x,ne,nt,fe,ft,q⟩:=h;have I':Inv X pins σ H' s':=I.call' (ch:=[]) os un hok bare (fun b z=>nomatch z);refine acc pins σ H' s' e cls dx I' ⟨some t,x,⟨ne,(I.gB fe).2⟩,fun y z=>?_⟩ q;cases z;exact ⟨nt,(I.gB ft).2⟩
theorem cg {X:Cx} {P:bT} {w:World}:Passes (eZ P w) X (fun _ _ _=>False):=by
 intro pins σ H s ev s' I h;obtain ⟨_,_,_,_,_,_,_,_,_,_,_,_,_,_,_,q⟩:=h;exact q.elim
theorem bK {P:bT} {w:World} {K:Fg} {mg:Str->Option au} {base:Heap} {N:List Str} {qual:Str} {scope:Scope} {f:aA} {cd:au} {A:cL} {outer:List Env} {s:aG} {H:Hp} {E:XK} : m6 (qx (eZ P w) P w K mg base N qual scope f cd A outer s H E) E:=by
 intro pins σ H' s' e cls dx I fl q
 show wpAny (model P w) _ (leaving _ (.ref e)) _ _ s'
 unfold leaving;refine aj (qY I I.ok.frames ⟨_,_,rfl,rfl,rfl⟩ fl fun s1 I1 f1=>?_);refine iU I1 f1 fun s2 I2 f2=>?_
 obtain ⟨t,x2,le,lt⟩:=f2;exact ⟨e,cls,dx,H',t,rfl,I2.os,I2.bare,I2.base,I2.hok,x2,le.1,lt.1,le.2.2.2.1 (fun z=>nomatch z),lt.2.2.2.1 (fun z=>nomatch z),q⟩
theorem kO {P:bT} {w:World} {K:Fg} {mg:Str->Option au} {base:Heap} {N:List Str} {qual:Str} {scope:Scope} {f:aA} {cd:au} {A:cL} {outer:List Env} {s:aG} {H:Hp} {E:XK} {CX:wX} : PassesOwn (model P w) (qx CX P w K mg base N qual scope f cd A outer s H E).A (qx CX P w K mg base N qual scope f cd A outer s H E).env (qx CX P w K mg base N qual scope f cd A outer s H E).xe:=PassesOwn.leaving
theorem Bb {K:Fg} {C:aA} {base:List au} {new:String} (q:excIn K C base new=true) : ∃ dd cd up a b c d f,K.lookup C=some ⟨.type "type",dd,.cls cd,#[a,b,c,d,some (.builtin new),f]⟩/\cd.mro=.ref C::up/\cd.hasDel=false/\tailIn K base up=true/\nsOkIn K cd.ns=true/\nsIn K cd.ns "__init__"=some none:=by
 unfold excIn at q
 split at q
 ·rename_i dd cd sl look
  split at q
  ·rename_i C' up a b c d aeb f mro slots
   have q':((((C'=C/\aeb=new)/\cd.hasDel=false)/\tailIn K base up=true)/\nsOkIn K cd.ns=true)/\nsIn K cd.ns "__init__"=some none:=by simpa using q
   obtain ⟨⟨⟨⟨⟨i1,i2⟩,i3⟩,i4⟩,i5⟩,i6⟩:=q';subst i1; subst i2;have as_array:sl=#[a,b,c,d,some (.builtin aeb),f]:=Array.toList_inj.mp slots;exact ⟨dd,cd,up,a,b,c,d,f,as_array ▸ look,mro,i3,i4,i5,i6⟩
  ·exact absurd q Bool.false_ne_true
 ·exact absurd q Bool.false_ne_true
theorem Kf {K:Fg} {h:Heap} {mg:Str->Option au} {x:Str} {C:aA} {base:List au} {new:String} (k:K.In h) (named:mg x=some (.ref C)) (q:excIn K C base new=true):OwnCls x C base new mg h:=by
 obtain ⟨dd,cd,up,a,b,c,d,f,look,mro,del,tl,ok,ini⟩:=Bb q;obtain ⟨nm,bs,ana,ns,qn,hd,sn,sub,ab,col,anb⟩:=cd;cases mro; cases del;exact ⟨named,up,ns,nm,qn,bs,hd,sn,sub,ab,col,dd,a,b,c,d,f,_,k C _ look,Heap.Ns.of_isNs (isNs_of_in k ok),PySem.W.nsMap_none_of_in k ok ini,tail_of_in k tl⟩
def Zr (C:aA) (E:XK) (ta:TA):TS:=fun _ σ H=>ta σ H fun vs H1=>vs.length<=sizeLine/\E (.ref C) none H1
section
variable {X:Cx} {E:XK} {x:Str} {C:aA} {bmB:List au} {B newId initId:String} {np cpos pos:Pos} {e₀:Expr} {rest:List Expr} {ta:TA}
theorem fV (acc:m6 X E) (hc:X.calm=true) (hg:Gl X x) (hm:X.mg x=some (.ref C)) (q:excIn X.K C bmB newId=true) (FB:ExcBaseFacts B newId initId bmB) (ha:PA X (e₀::rest) ta) (he:autoParam (starEach (e₀::rest) X.env=(false,eval e₀ X.env)::starEach rest X.env) zau0) (hpl:autoParam ((backTo cpos (starEach rest X.env)).any (·.1)=false) zau0) (hdb:autoParam ((x == ("__debug__":Str))=false) zau1) : PS X (.Raise (some (.Call (.Name x np) (e₀::rest) [] cpos)) none pos) (Zr C E ta):=by
 intro pins s σ H D I h;obtain ⟨tl,N,nm,qn,bs,hdct,sn,sub,ab,col,dd,k0,k1,k2,k3,k5,mN,hC,hN,hni,T⟩:=(Kf (mg:=X.mg) I.mod.wW hm q).obj;refine wpAny_Raise_call_subT (C:=C) (nm:=nm) (q:=qn) (N:=N) (bs:=bs) (bm:=tl) (hdct:=hdct) (sn:=sn) (sub:=sub) (ab:=ab) (col:=col) (dd:=dd) (k0:=k0) (k1:=k1) (k2:=k2) (k3:=k3) (k5:=k5) FB (mN:=mN) (T.hasType FB.hasBase) (I.ok.hd hc) (by rw [he]; show (false || (backTo cpos (starEach rest X.env)).any (·.1))=false; rw [hpl]; rfl) hni (gF I hg hm ⟨rfl,?_⟩ hdb);have hA:=ha cpos pins s σ H _ I h;rw [he] at hA ⊢;refine Calls.evalArgs_plain (dX hA fun us s2 h2=>?_);obtain ⟨vs,H1,I1,rv,hz,hE⟩:=h2;refine ⟨rfl,by rw [<- rv.length]; exact hz,I1.bk _ _ hC,hN.keeps I1.bk,T.keeps I1.bk,fun h' e hm'=>?_⟩;have I2:Inv X pins σ H1 { s2 with heap:=h' }:=I1.kept (t':=s2.toks) hm'.keeps;obtain ⟨t,hte,_,_⟩:=hm'.there;refine acc pins σ H1 _ e (.ref C) none I2 ⟨none,⟨_,_,hte,rfl,rfl,rfl,(fun _=>rfl),rfl⟩,I1.gB hm'.new,fun _ z=>nomatch z⟩ hE
end
def lR (e:aA) (cls:au) (dx:Option aA):HO:=.ext fun h=>∃ oe vs,h.get? e=some oe/\oe.cls=cls/\oe.dict=dx/\oe.data=.fields vs/\(dx=none->vs[2]?=some Value.none)
def blank (n:Nat):St:=List.replicate n none
theorem Bc {n i:Nat} {v:V}:¬ (blank n)[i]?=some (some v):=by
 unfold blank;rw [List.getElem?_replicate]
 split <;> intro h <;> cases h
section
variable {X:Cx} {pins:List (aA × Obj)} {σ:St} {H:Hp} {s:aG}
theorem Inv.adopt {b:aA} {o:HO} (I:Inv X pins σ H s) (l:Loose X pins H b) (hx:b ∉ X.ex) (new:dJ X.prog X.w (upd H b o) s.heap b o):Inv X pins σ (upd H b o) s:=by
 have h0:=l.2.2.2.1 hx;have ne:∀ c u,H c=some u->c≠b:=fun c u e z=>by rw [z,l.1] at e; cases e
 refine ⟨I.ok,I.os,I.bare,⟨I.base.keep,I.base.slot,fun c u e n hxc=>?_,I.base.there,fun c xs e=>?_,fun c u xs e=>?_,fun c ps e=>?_⟩,I.loc,I.cell,?_,fun x c e=>?_,fun p hp=>?_,fun c u e=>?_,I.len⟩
 ·rw [bx (fun z=>by rw [z,h0] at e; cases e)];exact I.base.free c u e n hxc
 ·have q:=I.base.tups c xs e;rw [bx (ne _ _ q)]; exact q
 ·have q:=I.base.uy c u xs e;rw [bx (ne _ _ q)]; exact q
 ·obtain ⟨m,q⟩:=I.base.uT c ps e;exact ⟨m,by rw [bx (ne _ _ q)]; exact q⟩
 ·rw [bx (Ne.symm l.2.1)]; exact I.free
 ·rw [bx (l.2.2.2.2.1 x c e)]; exact I.gJ x c e
 ·obtain ⟨e,n,r⟩:=I.pin p hp;exact ⟨e,by rw [bx (l.2.2.2.2.2 p hp)]; exact n,r⟩
 ·by_cases z:c=b
  ·subst z;rw [aC] at e; cases e; exact new
  ·rw [bx z] at e;exact (I.hok c u e).stay (fun _ _ _ q=>q) (fun d q=>by rw [bx (ne _ _ q)]; exact q) fun d xs q=>by rw [bx (ne _ _ q)]; exact q
theorem Inv.Bd {h':Heap} {t':Nat} {m':Str->Option au} (I:Inv X pins σ H s) (hn:h'.Ns X.env.locals m') (sb:Heap.SameBut X.env.locals s.heap h'):Inv X pins (blank X.N.length) H { s with heap:=h',toks:=t' }:=by
 obtain ⟨m,⟨oL,_,_,hoL,_⟩,_⟩:=id I.loc;have Tc:∀ b o,X.s₀.heap.get? b=some o->b≠X.env.locals:=fun b o e=>Nat.ne_of_lt (aU (Heap.lt_size e) I.ok.above)
 have k:∀ b o,b≠X.env.locals->s.heap.get? b=some o->h'.get? b=some o:=fun b o ne e=>(sb.2 b ne).trans e
 refine ⟨I.ok,I.os,I.bare,⟨fun b o e n hb hx=>?_,fun b o e n hb hx=>?_,I.base.free,fun b o e hx=>?_,I.base.tups,I.base.uy,I.base.uT⟩,⟨m',hn,fun i x v _ e2 _=>absurd e2 Bc⟩,fun x c e=>?_,I.free,I.gJ,fun p hp=>?_,fun a u e=>?_,by simp [blank]⟩
 ·exact k b o (Tc b o e) (I.base.keep b o e n hb hx)
 ·obtain ⟨sl,e1⟩:=I.base.slot b o e n hb hx;exact ⟨sl,k b _ (Tc b o e) e1⟩
 ·obtain ⟨o',e1⟩:=I.base.there b o e hx;exact ⟨o',k b _ (Tc b o e) e1⟩
 ·obtain ⟨v,o,ho,hd⟩:=I.cell x c e;exact ⟨v,o,k c o (I.S9 x c e) ho,hd⟩
 ·obtain ⟨e,n,ne,nf,d⟩:=I.pin p hp;exact ⟨k p.1 p.2 ne e,n,ne,nf,d⟩
 ·refine (I.hok a u e).stay (fun c v hc q=>k c v (fun z=>?_) q) (fun _ q=>q) fun _ _ q=>q
  have hf:=I.free;rw [<- z] at hf;rcases hc with y | y
  ·rw [y,e] at hf; cases hf
  ·rw [y] at hf; cases hf
end
abbrev Cx.pC (X:Cx) (E':au->aG->Prop) (jN:List (aA × Obj)):Cx:={ X with xe:=E',pn:=jN }
abbrev Cx.hand (X:Cx) (e:aA):Cx:={ X with A:=X.A.mark (some (.ref e)),calm:=false,xe:=fun _ _=>False }
section
variable {X:Cx} {pins jN:List (aA × Obj)} {σ:St} {H:Hp} {s:aG} {E':au->aG->Prop}
theorem Inv.pC (I:Inv X pins σ H s) (E':au->aG->Prop):Inv (X.pC E' (X.pn++pins)) [] σ H s := ⟨⟨I.ok.mod,I.ok.kind,I.ok.glob,I.ok.blt,I.ok.above,I.ok.inj,I.ok.has,I.ok.cab,I.ok.hd,I.ok.frames,I.ok.stk,I.ok.exf,I.ok.bs,I.ok.HB,I.ok.Dm,I.ok.HD,I.ok.o9,I.ok.Og⟩,I.os,I.bare,I.base,I.loc,I.cell,I.free,I.gJ,fun p hp=>I.pin p (by simpa using hp),I.hok,I.len⟩
theorem Inv.pP {jo:List (aA × Obj)} (ok:X.Ok) (I:Inv (X.pC E' (X.pn++pins)) jo σ H s):Inv X pins σ H s := ⟨ok,I.os,I.bare,I.base,I.loc,I.cell,I.free,I.gJ,fun p hp=>I.pin p (mem_append_left _ hp),I.hok,I.len⟩
theorem Inv.hand (I:Inv X pins σ H s) (e:aA):Inv (X.hand e) pins σ H s := ⟨⟨I.ok.mod,I.ok.kind,I.ok.glob,I.ok.blt,I.ok.above,I.ok.inj,I.ok.has,I.ok.cab,(fun z=>nomatch z),I.ok.frames,I.ok.stk,I.ok.exf,I.ok.bs,I.ok.HB,I.ok.Dm,I.ok.HD,I.ok.o9,I.ok.Og⟩,I.os,I.bare,I.base,I.loc,I.cell,I.free,I.gJ,I.pin,I.hok,I.len⟩
theorem Inv.Zt {e:aA} (ok:X.Ok) (I:Inv (X.hand e) pins σ H s):Inv X pins σ H s := ⟨ok,I.os,I.bare,I.base,I.loc,I.cell,I.free,I.gJ,I.pin,I.hok,I.len⟩
end
noncomputable def Zu (N i:Nat) (hit:au->Prop) (tb:XK->TS) (ts:TS):TS:=fun D σ H =>
 tb (fun cls dx H'=>hit cls/\∀ e,H' e=none->ts { nx:=fun _ H2=>D.nx (blank N) H2,rt:=D.rt } ((blank N).set i (some (.ref e))) (upd H' e (lR e cls dx))) D σ H
section
variable {X:Cx} {x n:Str} {c:au} {i:Nat} {np hpos pos:Pos} {body suite:List cQ} {b₀:cQ} {tb:XK->TS} {ts:TS} {L:aA} {hit:au->Prop}
theorem Kg (hex:X.ex=[]) (F:oM X L) (hN:X.N.Nodup) (hi:X.N[i]?=some n) (Zv:X.env.scope.names.lookup n=some .local) (hg:Gl X x) (hm:X.mg x=some c) (Zw:∀ cls,hit cls->exmOne X.K cls c=some true) (hb:∀ (E':au->aG->Prop) (jN:List (aA × Obj)) (Eb:XK),m6 (X.pC E' jN) Eb->Dh (X.pC E' jN) body (tb Eb)) (hs:∀ e,Dh (X.hand e) (b₀::suite) ts) (hdb:autoParam ((x == ("__debug__":Str))=false) zau1) : PS X (.Try body [.ExceptHandler (some (.Name x np)) (some n) (b₀::suite) hpos] [] [] pos) (Zu X.N.length i hit tb ts):=by
 intro pins s σ H D I h;have hcls:(X.env.scope.kind == .class || (X.env.scope.kind == .module && X.env.locals != X.env.globals))=false:=by rw [I.ok.kind]; rfl
 refine wpAny_Try_except ?_
 let Eb:XK:=fun cls dx H'=>hit cls/\∀ e,H' e=none->ts { nx:=fun _ H2=>D.nx (blank X.N.length) H2,rt:=D.rt } ((blank X.N.length).set i (some (.ref e))) (upd H' e (lR e cls dx))
 let E':au->aG->Prop:=fun ev s₁=>wpAny (model X.prog X.w) X.A (noteFrame ev X.env) (fun _ s₂=>wpAny (model X.prog X.w) X.A (setFlight ev none) (fun _ s₃ =>
   wpAny (model X.prog X.w) X.A (handleBy ev X.env [.ExceptHandler (some (.Name x np)) (some n) (b₀::suite) hpos]) (SP X pins D) X.xe s₃) X.xe s₂) X.xe s₁
 suffices acc:m6 (X.pC E' (X.pn++pins)) Eb by
  refine bF (hb E' (X.pn++pins) Eb acc [] s σ H D (I.pC E') h) (fun f s1 h1=>?_) fun ev s1 h1=>h1
  have un:∀ {σ':St} {H':Hp},Inv (X.pC E' (X.pn++pins)) [] σ' H' s1->Inv X pins σ' H' s1:=fun J=>J.pP I.ok
  cases f with
  | next=>obtain ⟨σ',H',J,q⟩:=h1; exact wpAny_execs_nil ⟨σ',H',un J,q⟩
  | brk=>obtain ⟨σ',H',J,q⟩:=h1; exact ⟨σ',H',un J,q⟩
  | cont=>obtain ⟨σ',H',J,q⟩:=h1; exact ⟨σ',H',un J,q⟩
  | ret u=>obtain ⟨v,σ',H',J,r,q⟩:=h1; exact ⟨v,σ',H',un J,r,q⟩
 ·intro jo σ' H' s' e cls dx I' fl q;obtain ⟨hh,q⟩:=q;refine qY (X:=X.pC E' (X.pn++pins)) I' I'.ok.frames F fl fun s1 I1 f1=>?_
  refine iU I1 f1 fun s2 I2 f2=>?_
  obtain ⟨t2,x2,le2,lt2⟩:=f2;have J2:Inv X pins σ' H' s2:=I2.pP I.ok;have J2h:=J2.hand e;refine wpAny_handleBy_cons (codeAny_handlers_test ?_) (by intro z; cases z);refine gF (X:=X.hand e) J2h hg hm ?_ hdb;obtain ⟨oe,vs,he,hc,hd,hv,_⟩:=id x2;have ty:Looks (model X.prog X.w) s2.heap (typeOf (.ref e)) cls:=hc ▸ (Looks.ld he).andThen .now;refine (exm_one J2.jM ty (Zw cls hh)).here ?_;refine codeAny_handlers_suite_as (iU I2 ⟨t2,x2,le2,lt2⟩ fun s3 I3 f3=>?_);obtain ⟨t3,x3,Dy,lt3⟩:=f3;obtain ⟨oe3,vs3,Zx,hc3,Tt,hv3,cx3,_⟩:=id x3;have J3:Inv X pins σ' H' s3:=I3.pP I.ok;have lX:Loose X pins H' e:=⟨Dy.1,Dy.2.1,Dy.2.2.1,Dy.2.2.2.1,Dy.2.2.2.2.1,fun p hp=>Dy.2.2.2.2.2 p (mem_append_left _ hp)⟩;have J4:Inv X pins σ' (upd H' e (lR e cls dx)) s3:=J3.adopt lX (by rw [hex]; exact fun z=>nomatch z) (by
   refine ⟨⟨oe3,vs3,Zx,hc3,Tt,hv3,cx3⟩,⟨oe3,Zx⟩,fun h1 h2 p k=>?_⟩;obtain ⟨o,v,a,b⟩:=p;exact ⟨o,v,k o a,b⟩)
  have J5:Inv X pins (blank X.N.length) (upd H' e (lR e cls dx)) s3:=J4.weak (by simp [blank,J4.len]) fun i v z=>absurd z Bc
  refine qt (X:=X.hand e) (J5.hand e) hN hi (.inl Zv) (show RelV (.ref e) (.ref e) from rfl) (fun s4 I4=>?_) (.inr Zv);refine bF (hs e pins s4 _ _ _ I4 (q e Dy.1)) (fun f s5 h5=>?_) fun _ _ z=>z.elim
  have gone:∀ {σ5:St} {H5:Hp} (Q:aG->Prop),Inv (X.hand e) pins σ5 H5 s5->(∀ s6,Inv X pins (blank X.N.length) H5 s6->Q s6) ->
    wpAny (model X.prog X.w) X.A (do bindName X.env n .none; unbindBehindTheSuite X.env n hpos) (fun _ s6=>Q s6) X.xe s5:=fun {σ5 H5} Q I5 k=>by
   obtain ⟨m,hn,_⟩:=I5.loc;exact wpAny_nameGoes Zv hn hcls fun h' m' hn' sb=>k _ (Inv.Bd (I5.Zt I.ok) hn' sb)
  cases f with
  | next =>
   obtain ⟨σ5,H5,I5,q5⟩:=h5;exact gone (fun s6=>SP X pins D .next s6) I5 fun s6 I6=>⟨_,H5,I6,q5⟩
  | ret u =>
   obtain ⟨v,σ5,H5,I5,r5,q5⟩:=h5;exact gone (fun s6=>SP X pins D (.ret u) s6) I5 fun s6 I6=>⟨v,_,H5,I6,r5,q5⟩
  | brk=>obtain ⟨_,_,_,z⟩:=h5; exact z.elim
  | cont=>obtain ⟨_,_,_,z⟩:=h5; exact z.elim
end
def jU (cap:List (Option Nat)) (σ:St):St:=cap.map fun o=>o.bind fun j=>(σ[j]?).join
noncomputable abbrev fW (X:Cx) (scope:Scope) (cl:List (Str × aA)) (N':List Str) (s₀:aG) (H₀:Hp) (fp:List aA) (jN:List (aA × Obj)) (E':au->aG->Prop):Cx := { X with N:=N',s₀:=s₀,H₀:=H₀,env:=compEnvC scope cl s₀.heap.objs.size X.env,outer:=X.stack,ex:=fp,fn:=fun _=>false,pn:=jN,xe:=E' }
structure eU (X:Cx) (scope:Scope) (cl:List (Str × aA)) (N':List Str) (cap:List (Option Nat)):Prop where
 kind:scope.kind=.function
 Dz:∀ y ∈ scope.names,y.2≠.cell
 names:∀ y ∈ scope.names,y.2=.local->scope.names.lookup y.1=some .local
 clos:closureFor scope X.env=pure cl
 sub:∀ n c,cl.lookup n=some c->X.env.cells.lookup n=some c
 has:∀ n,((relabel scope X.env).names.lookup n=some .cell\/(relabel scope X.env).names.lookup n=some .free)->∃ c,cl.lookup n=some c
 len:cap.length=N'.length
 aiR:∀ (i j:Nat) (x:Str),cap[i]?=some (some j)->N'[i]?=some x->X.N[j]?=some x/\X.env.scope.names.lookup x=some .cell/\(relabel scope X.env).names.lookup x=some .cell
theorem eU.plain {X:Cx} {scope:Scope} {N':List Str} (kind:scope.kind=.function) (names:∀ y ∈ scope.names,y.2=.local\/y.2=.globalImplicit) (look:∀ y ∈ scope.names,y.2=.local->scope.names.lookup y.1=some .local) : eU X scope [] N' (List.replicate N'.length none):=by
 have nf:∀ y ∈ scope.names,y.2≠.free:=fun y hy z=>by rcases names y hy with q | q <;> rw [q] at z <;> cases z
 have same:(relabel scope X.env).names=scope.names:=by
  unfold relabel;refine map_eq_self fun y hy=>?_
  obtain ⟨n,k⟩:=y;have:(k == NameKind.free)=false:=by simpa using nf _ hy
  simp [this]
 refine ⟨kind,fun y hy z=>?_,look,closureFor_none nf,fun n c h=>?_,fun n h=>?_,by simp,fun i j x h=>?_⟩
 ·rcases names y hy with q | q <;> rw [q] at z <;> cases z
 ·simp at h
 ·rw [same] at h;rcases h with h | h
  ·have:=names _ (PySem.mem_of_lookup h);simp at this
  ·have:=names _ (PySem.mem_of_lookup h);simp at this
 ·rw [List.getElem?_replicate] at h
  split at h <;> simp at h
section
variable {X:Cx} {pins jN:List (aA × Obj)} {σ:St} {H:Hp} {s:aG} {scope:Scope} {cl:List (Str × aA)} {N':List Str} {cap:List (Option Nat)} {fp:List aA} {E':au->aG->Prop}
theorem QF (I:Inv X pins σ H s) (O:eU X scope cl N' cap) (hf:∀ b ∈ fp,pA X pins H b) (hlt:∀ b ∈ fp,b < s.heap.objs.size):(fW X scope cl N' s H fp jN E').Ok:=by
 refine ⟨I.ok.mod,O.kind,I.ok.glob,I.ok.blt,aH _,fun x y c h1 h2=>I.ok.inj x y c (O.sub _ _ h1) (O.sub _ _ h2),fun x hx=>O.has x hx,(fun x c h=>nomatch h),I.ok.hd,I.ok.frames,.inl rfl,fun b hb=>⟨Nat.ne_of_lt (hlt b hb),fun x c e=>(hf b hb).2.2.2.2.1 x c (O.sub _ _ e)⟩,I.bs,bA I.ok.HB I.sz,fun b o e hb=>?_,fun b hb z=>?_,I.stack,I.yQ⟩
 ·rcases (hf b hb).2.2.2.1 with z | z
  ·exact I.ok.Dm b o e z
  ·exact absurd (aU (Heap.lt_size e) (bA I.ok.HB z)) (cV _)
 ·exact (aK.mp (I.qQ b z)).elim (fun y=>(hf b hb).2.1 y) fun y=>(hf b hb).2.2.1 y
theorem Kh {h':Heap} {t':Nat} {m':Str->Option au} (I:Inv X pins σ H s) (O:eU X scope cl N' cap) (hf:∀ b ∈ fp,pA X pins H b) (hlt:∀ b ∈ fp,b < s.heap.objs.size) (hn:h'.Ns s.heap.objs.size m') (hk:∀ b o,s.heap.get? b=some o->h'.get? b=some o) : Inv (fW X scope cl N' s H fp (X.pn++pins) E') [] (jU cap σ) H { s with heap:=h',toks:=t' }:=by
 refine ⟨QF I O hf hlt,rfl,I.bare,Un.kept hk,⟨m',hn,fun i x v e1 e2 e3=>?_⟩,fun x c e=>?_,I.hok.fresh (aH _),fun x c e=>I.gJ x c (O.sub _ _ e),fun p hp=>?_,I.hok.kept hk,?_⟩
 ·unfold jU at e2;rw [bG] at e2;cases q:cap[i]? with
  | none=>rw [q] at e2; cases e2
  | some o =>
   rw [q] at e2;cases o with
   | none=>cases e2
   | some j =>
    have e2':(σ[j]?).join=some v:=by simpa using e2
    have e4:σ[j]?=some (some v):=by
     cases z:σ[j]? with
     | none=>rw [z] at e2'; cases e2'
     | some y=>rw [z] at e2'; simp at e2'; rw [e2']
    obtain ⟨h1,h2,h3⟩:=O.aiR i j x q e1;obtain ⟨m,_,hl⟩:=I.loc;obtain ⟨u,ru,l⟩:=hl j x v h1 e4 (.inr (.inl h2));rcases l with ⟨l,_⟩ | ⟨_,c,l,z⟩
    ·have l':X.env.scope.names.lookup x=some .local:=l;rw [h2] at l'; cases l'
    ·obtain ⟨c',hc'⟩:=O.has x (.inl h3);have:=O.sub _ _ hc';rw [l] at this; cases this;exact ⟨u,ru,.inr ⟨.inl h3,c,hc',z.keeps hk⟩⟩
 ·obtain ⟨v,z⟩:=I.cell x c (O.sub _ _ e);exact ⟨v,z.keeps hk⟩
 ·obtain ⟨e,n,ne,nf,d⟩:=I.pin p (by simpa using hp);refine ⟨hk _ _ e,n,Nat.ne_of_lt (Heap.lt_size e),fun z=>?_,d⟩;exact (aK.mp (I.qQ _ z)).elim ne nf
 ·simp [jU,O.len]
theorem comp_back {jo:List (aA × Obj)} {σ':St} {H':Hp} {s':aG} (I:Inv X pins σ H s) (hf:∀ b ∈ fp,pA X pins H b) (J:Inv (fW X scope cl N' s H fp jN E') jo σ' H' s'):Inv X pins σ H' s' := I.call' (ch:=fp) J.os J.base J.hok J.bare fun b hb=>⟨(hf b hb).2.2.2.1,(hf b hb).2.1,(hf b hb).2.2.2.2.1,(hf b hb).2.2.2.2.2⟩
end
abbrev Bf (ifs:List Expr) (env:Env):Sem Bool := forIn ifs true fun c r=>if r=true then do let ok <- isTrue c env (eval c env); pure (ForInStep.yield ok) else pure (ForInStep.yield r)
section
variable {prog:bT} {w:World} {A:cL} {s:aG} {R:Result->aG->Prop} {elt target iter:Expr} {ifs:List Expr} {scope:Scope} {pos:Pos} {it acc:au} {env:Env}
abbrev pQ (prog:bT) (w:World) (A:cL) (env:Env) (R:Result->aG->Prop):au->aG->Prop:=notedBy (model prog w) A env fun x s'=>R (.error x) s'
noncomputable abbrev turnOf (prog:bT) (w:World) (A:cL) (env:Env) (R:Result->aG->Prop) (target elt:Expr) (ifs:List Expr) (it acc:au) (J:Nat->aG->Prop) (n:Nat):Option au->aG->Prop
 | none,s₁=>R (.ok .next) s₁
 | some v,s₁=>wpAny (model prog w) A (letOwnedTupleGo target it v) (fun _ a=>wpAny (model prog w) A (assign target env v) (fun _ b=>wpAny (model prog w) A (Bf ifs env) (fun ok c =>
  if ok=true then wpAny (model prog w) A (eval elt env) (fun y d=>wpAny (model prog w) A (call (.builtin "list.append") [acc,y]) (fun _ z=>∃ m,m < n/\J m z) (pQ prog w A env R) d) (pQ prog w A env R) c
  else ∃ m,m < n/\J m c) (pQ prog w A env R) b) (pQ prog w A env R) a) (pQ prog w A env R) s₁
theorem yZ (J:Nat->aG->Prop) (go:∀ n s,J n s->wpAny (model prog w) A (pyNext it) (turnOf prog w A env R target elt ifs it acc J n) (pQ prog w A env R) s) (n:Nat) (h:J n s) : codeAny (model prog w) A (.compLoop (.ListComp elt [⟨target,iter,ifs,0⟩] scope pos) 0 it acc env) R s := codeAny_loop rfl J (fun m a ha=>wpAny_noted (by
 rw [compTurn_list];refine aj (wpAny_standAt (aj (dX (go m a ha) fun r b hb=>?_)))
 match r,hb with
 | none,hb=>exact ak hb
 | some v,hb =>
  refine aj (dX hb fun _ c hc=>aj (dX hc fun _ d hd=>aj (dX hd fun ok f hf=>?_)))
  match ok,hf with
  | false,hf=>exact ak ⟨rfl,hf⟩
  | true,hf=>exact aj (aj (dX hf fun y g hg=>aj (dX hg fun _ z hz=>ak (ak ⟨rfl,hz⟩)))))) n h
end
noncomputable def PTs (X:Cx) (ifs:List Expr) (t:TT):Prop := ∀ (pins:List (aA × Obj)) (s:aG) (σ:St) (H:Hp) (Q:Bool->Hp->Prop),Inv X pins σ H s->t σ H Q -> wpAny (model X.prog X.w) X.A (Bf ifs X.env) (TP X pins σ Q) X.xe s
def Ie:TT:=fun _ H Q=>Q true H
theorem gj {X:Cx}:PTs X [] Ie:=fun _ _ _ H _ I h=>wpAny_tests_nil ⟨H,I,h⟩
theorem uJ {X:Cx} {c:Expr} {t:TT} (h:PT X c t):PTs X [c] t:=fun pins s σ H Q I hw=>wpAny_tests_one (h pins s σ H Q I hw)
def mF (σ0 σ2:St):Prop:=∀ (j:Nat) v,σ0[j]?=some (some v)->σ2[j]?=some (some v)
theorem Bg {n j:Nat} {σ:St} {v:V}:¬ (jU (List.replicate n none) σ)[j]?=some (some v):=by
 unfold jU;rw [bG,List.getElem?_replicate]
 split <;> intro h <;> simp at h
theorem eO {n:Nat} {σ σ2:St}:mF (jU (List.replicate n none) σ) σ2:=fun _ _ h=>absurd h Bg
noncomputable def pJ (D:aA) (J:It) (σ0:St) (g:TG) (tc:TT) (te:TE) (Qe:Hp->Prop) (W:Nat->Nat->List V->Hp->Prop):Prop := ∀ i m acc H',W i m acc H'->H' D=some (.lst acc)/\((J.stop i H'/\Qe H')\/(J.go i H'/\acc.length < sizeLine /\ ∀ x za,J.Jx i H' x za->g x σ0 za fun σ2 H2=>mF σ0 σ2/\tc σ2 H2 fun b H3=>if b=true then te σ2 H3 fun y H4=>H4 D=some (.lst acc)/\∃ m',m' < m/\W (i + 1) m' (acc++[y]) (upd H4 D (.lst (acc++[y])))
 else ∃ m',m' < m/\W (i + 1) m' acc H3))
noncomputable def Tv (cap:List (Option Nat)) (wi:TI) (g:TG) (tc:TT) (te:TE):TE:=fun σ H Q=>wi σ H fun J H1=>∀ D,H1 D=none -> ∃ W:Nat->Nat->List V->Hp->Prop,(∃ m,W 0 m [] (upd H1 D (.lst [])))/\pJ D J (jU cap σ) g tc te (Q (.ref D)) W
section
variable {X:Cx} {scope:Scope} {cl:List (Str × aA)} {N':List Str} {cap:List (Option Nat)} {target iter elt:Expr} {ifs:List Expr} {pos:Pos} {wi:TI} {g:TG} {tc:TT} {te:TE} {E:XK} {L:aA}
theorem vo {pins:List (aA × Obj)} {σ:St} {H2:Hp} {s2:aG} {it:aA} {fp:List aA} {tn:Nat->Heap->Prop} {J:It} {Qe:aA->Hp->Prop} {E₀:au->aG->Prop} {RR:au->aA->Result->aG->Prop} (acc:m6 X E) (hc:X.calm=true) (F:oM X L) (O:eU X scope cl N' cap) (hg:∀ s₀ H₀ fp jN E',PG (fW X scope cl N' s₀ H₀ fp jN E') target g) (ht:∀ s₀ H₀ fp jN E',PTs (fW X scope cl N' s₀ H₀ fp jN E') ifs tc) (he:∀ s₀ H₀ fp jN E',m6 (fW X scope cl N' s₀ H₀ fp jN E') E->PE (fW X scope cl N' s₀ H₀ fp jN E') elt te) (I2:Inv X pins σ H2 s2) (T:Turn X.prog X.w X.K target J fp it tn) (st2:tn 0 s2.heap) (f2:∀ b ∈ fp,pA X pins H2 b) (hq:∀ D,H2 D=none->∃ W:Nat->Nat->List V->Hp->Prop,(∃ m,W 0 m [] (upd H2 D (.lst [])))/\pJ D J (jU cap σ) g tc te (Qe D) W) (hok:∀ D C s',(∃ m,s'.heap.Ns C m)->Loose X pins (fun _=>none) C->(∃ H',Inv X pins σ H' s'/\H' C=none/\Qe D H')->RR (.ref D) C (.ok .next) s') (aiS:∀ D C x s',(∃ m,s'.heap.Ns C m)->(∀ h',Heap.SameBut C s'.heap h'->∀ cenv:Env,cenv.locals=C->wpAny (model X.prog X.w) X.A (passOn "comprehension.variables-let-go" x cenv:Sem au) (fun _ _=>False) X.xe { s' with heap:=h' })->RR (.ref D) C (.error x) s') :
  wpAny (model X.prog X.w) X.A (newList []) (fun Ig s₃=>wpAny (model X.prog X.w) X.A (newFunctionEnv scope X.env.globals cl [] X.env.qual none .none (some X.env)) (fun cenv s₄ =>
   codeAny (model X.prog X.w) X.A (.compStart (.ListComp elt [⟨target,iter,ifs,0⟩] scope pos) 0 (.ref it) Ig { cenv with scope:=relabel scope X.env }) (RR Ig cenv.locals) s₄) E₀ s₃) E₀ s2:=by
 refine wpAny_newObj_type ?_;obtain ⟨W,⟨m0,w0⟩,turn⟩:=hq s2.heap.objs.size (I2.hok.fresh (aH _));have I3:Inv X pins σ (upd H2 s2.heap.objs.size (.lst [])) { s2 with heap:=s2.heap.push { cls:=.type "list",dict:=none,data:=.seq ([]:List au).toArray } } :=
  I2.laid (t':=s2.toks) (fun b u e=>ao _ e) (aH _) ⟨dD _,[],_,.nil,aD _ rfl⟩
 have hfD:∀ b ∈ fp,b≠s2.heap.objs.size:=fun b hb z=>by
  obtain ⟨o,e,_⟩:=T.obj 0 _ st2 b hb;exact absurd (Heap.lt_size e) (by rw [z]; exact cV _)
 generalize hs3:({ s2 with heap:=s2.heap.push { cls:=.type "list",dict:=none,data:=.seq ([]:List au).toArray } }:aG)=s3 at I3 ⊢;have k23:∀ b o,s2.heap.get? b=some o->s3.heap.get? b=some o:=fun b o e=>by rw [<- hs3]; exact ao _ e
 have f3:∀ b ∈ fp,pA X pins (upd H2 s2.heap.objs.size (.lst [])) b:=fun b hb=>⟨by rw [bx (hfD b hb)]; exact (f2 b hb).1,(f2 b hb).2⟩
 have hlt:∀ b ∈ fp,b < s3.heap.objs.size:=fun b hb=>by
  obtain ⟨o,e,_⟩:=T.obj 0 _ st2 b hb;exact Heap.lt_size (k23 b o e)
 have st3:tn 0 s3.heap:=T.keep 0 _ _ st2 fun b _ o e=>k23 b o e
 refine wpAny_newFunctionEnv O.Dz (fun x hx=>nomatch hx) (fun h' hns hsb=>?_) O.kind;have k34:∀ b o,s3.heap.get? b=some o->h'.get? b=some o:=fun b o e=>(hsb.2 b (Nat.ne_of_lt (Heap.lt_size e))).trans (ao _ e)
 have lC:Loose X pins (upd H2 s2.heap.objs.size (.lst [])) s3.heap.objs.size:=I3.gB (Heap.get?_none_of_le (aH _));have lC0:Loose X pins (fun _=>none) s3.heap.objs.size:=⟨rfl,lC.2⟩
 let NE:au->aG->Prop:=pQ X.prog X.w X.A (compEnvC scope cl s3.heap.objs.size X.env) (RR (.ref s2.heap.objs.size) s3.heap.objs.size)
 let Y0:Cx:=fW X scope cl N' s3 (upd H2 s2.heap.objs.size (.lst [])) fp (X.pn++pins) NE
 have I4:∀ t',Inv Y0 [] (jU cap σ) (upd H2 s2.heap.objs.size (.lst [])) { s3 with heap:=h',toks:=t' }:=fun t'=>Kh I3 O f3 hlt hns k34
 have loop:∀ s4:aG,Inv Y0 [] (jU cap σ) (upd H2 s2.heap.objs.size (.lst [])) s4->tn 0 s4.heap ->
   codeAny (model X.prog X.w) X.A (.compLoop (.ListComp elt [⟨target,iter,ifs,0⟩] scope pos) 0 (.ref it) (.ref s2.heap.objs.size) (compEnvC scope cl s3.heap.objs.size X.env)) (RR (.ref s2.heap.objs.size) s3.heap.objs.size) s4:=by
  intro s4 I4 st4;have stat:∀ {H':Hp},(∀ b ∈ fp,H' b=none)->∀ b ∈ fp,pA Y0 [] H' b:=fun {H'} hn b hb =>
   ⟨hn b hb,Nat.ne_of_lt (hlt b hb),fun z=>(aK.mp (I3.qQ b z)).elim (fun y=>(f3 b hb).2.1 y) fun y=>(f3 b hb).2.2.1 y,.inl hb,fun x c e=>(f3 b hb).2.2.2.2.1 x c (O.sub _ _ e),fun p hp=>(f3 b hb).2.2.2.2.2 p (by have q:p ∈ (X.pn++pins)++[]:=hp; simpa using q)⟩
  refine yZ (fun n s'=>∃ i ac H',Inv Y0 [] (jU cap σ) H' s'/\tn i s'.heap/\(∀ b ∈ fp,H' b=none)/\W i n ac H') ?_ m0 ⟨0,[],_,I4,st4,fun b hb=>(f3 b hb).1,w0⟩;rintro n s5 ⟨i,ac,H5,I5,st5,fr5,w5⟩;obtain ⟨hD5,alt⟩:=turn i n ac H5 w5;rcases alt with ⟨stop,qe⟩ | ⟨go,hsz,step⟩
  ·refine dX (T.done Y0 rfl rfl rfl hc i [] s5 _ H5 NE I5 (stat fr5) st5 stop) fun r s6 ⟨hr,I6⟩=>?_
   subst hr;obtain ⟨m,hn,_⟩:=I6.loc;exact hok _ _ s6 ⟨m,hn⟩ lC0 ⟨H5,comp_back I3 f3 I6,I6.free,qe⟩
  ·refine dX (T.item Y0 rfl rfl rfl hc i [] s5 _ H5 NE I5 (stat fr5) st5 go) fun r s6 ⟨u,hr,h6⟩=>?_
   subst hr;refine dX h6 fun _ s7 ⟨x,H7,I7,r7,y7,st7,fr7⟩=>?_
   have I7p:=I7.pinned (stat fr7) (T.obj _ _ st7);have I7t:=I7p.pC NE
   let Y1:Cx:=fW X scope cl N' s3 (upd H2 s2.heap.objs.size (.lst [])) fp ((X.pn++pins)++([]++mZ fp s7.heap)) NE
   have I7y:Inv Y1 [] (jU cap σ) H7 s7:=I7t;have ac1:m6 Y1 E:=by
    intro jo σ' H' s' e cls dx I' fl q;have nfp:e ∉ fp/\∀ t,Loose Y1 jo H' t->t ∉ fp:=by
     have nn:∀ t,Loose Y1 jo H' t->t ∉ fp:=fun t l hb=>by
      obtain ⟨o,eo,_⟩:=T.obj _ _ st7 t hb;exact l.2.2.2.2.2 (t,o) (mem_append_left _ (mem_append_right _ (mem_append_right _ (lK hb eo)))) rfl
     obtain ⟨_,_,l,_⟩:=fl;exact ⟨nn e l,nn⟩
    show wpAny (model X.prog X.w) X.A (noteFrame (.ref e) _) _ _ s'
    obtain ⟨env₀,outer,es,hf₀,hf⟩:=F;refine qY (X:=Y1) I' I'.ok.frames ⟨env₀,outer,es,hf₀,hf⟩ fl fun s8 I8 f8=>?_
    obtain ⟨t8,x8,le8,lt8⟩:=f8;obtain ⟨m,hn8,_⟩:=id I8.loc;refine aiS _ _ _ s8 ⟨m,hn8⟩ fun h' sb cenv hcl=>?_
    have J8:Inv X pins σ H' s8:=comp_back I3 f3 I8;have lX:∀ b,Loose Y1 jo H' b->Loose X pins H' b:=fun b l=>⟨l.1,(I3.gB (l.2.2.2.1 (nfp.2 b l))).2⟩
    have nC:∀ b,Loose Y1 jo H' b->b≠s3.heap.objs.size:=fun b l=>l.2.1
    have J9:Inv X pins σ H' { s8 with heap:=h' }:=J8.kJ (t':=s8.toks) (ch:=[s3.heap.objs.size]) (fun b hb=>by rw [aL.mp hb]; exact ⟨I8.free,lC.2⟩)
     (fun b o _ hc' z=>(sb.2 b fun y=>hc' (by rw [y]; exact mem_cons_self)).trans z) (fun b o hc' z=>⟨o.slots,(sb.2 b fun y=>hc' (by rw [y]; exact mem_cons_self)).trans z⟩)
    have x9:Exc h' e cls dx (some t8):=x8.keeps fun b o hb z=>(sb.2 b (by
     rcases hb with y | y
     ·rw [y]; exact nC e le8
     ·cases y; exact nC _ lt8)).trans z
    unfold PySem.passOn;obtain ⟨oe,vs,he9,hc9,hd9,hv9,_,h19,_⟩:=id x9;refine aj (wpAny_field he9 hv9 h19 ?_);rw [if_neg (by simp)];refine aj (iU (X:=X) J9 ⟨t8,x9,lX _ le8,lX _ lt8⟩ fun Oi I10 f10=>?_);exact wpAny_throw (acc pins σ H' Oi e cls dx I10 f10.fly q)
   refine dX (hg s3 _ fp _ NE [] s7 _ H7 x u _ I7y r7 (step x H7 y7)) fun _ s8 ⟨σ8,H8,I8,kp8,q8⟩=>?_
   refine dX (ht s3 _ fp _ NE [] s8 σ8 H8 _ I8 q8) fun ok s9 ⟨H9,I9,q9⟩=>?_
   have again:∀ {H':Hp} {s':aG} {ac':List V},Inv Y1 [] σ8 H' s'->(∃ m',m' < n/\W (i + 1) m' ac' H') ->
     ∃ m,m < n/\∃ i ac H',Inv Y0 [] (jU cap σ) H' s'/\tn i s'.heap/\(∀ b ∈ fp,H' b=none)/\W i m ac H':=fun {H' s' ac'} I' ⟨m',hm,w'⟩=>by
    have I0:Inv Y0 ([]++mZ fp s7.heap) σ8 H' s':=Inv.pP (X:=Y0) (pins:=[]++mZ fp s7.heap) I5.ok I';have aeg:∀ b ∈ fp,∀ o,s7.heap.get? b=some o->s'.heap.get? b=some o/\H' b=none:=fun b hb o e=>by
     have z:=I0.pin (b,o) (mem_append_right _ (mem_append_right _ (lK hb e)));exact ⟨z.1,z.2.1⟩
    refine ⟨m',hm,i + 1,ac',H',(Inv.qu (pins:=[]) (pl:=mZ fp s7.heap) I0).weak (by rw [I0.len]; show _=N'.length; simp [jU,O.len]) kp8,T.keep _ _ _ st7 fun b hb o e=>(aeg b hb o e).1,fun b hb=>?_,w'⟩;obtain ⟨o,e,_⟩:=T.obj _ _ st7 b hb;exact (aeg b hb o e).2
   cases ok with
   | false =>
    rw [if_neg Bool.false_ne_true] at q9 ⊢;exact again I9 q9
   | true =>
    rw [if_pos rfl] at q9 ⊢;refine dX (he s3 _ fp _ NE ac1 [] s9 σ8 H9 _ I9 q9) fun yv Oi ⟨y,H10,I10,r10,aiX,q10⟩=>?_
    refine dX (kE (X:=Y1) [] Oi σ8 H10 (.ref s2.heap.objs.size) [y] (.ref s2.heap.objs.size) [yv] (fun _ H'=>H'=upd H10 s2.heap.objs.size (.lst (ac++[y]))) I10 rfl (.cons r10 .nil) ⟨_,ac,y,rfl,rfl,aiX,hsz,rfl⟩) fun _ s11 ⟨_,H11,I11,_,e11⟩=>?_
    subst e11;exact again I11 q10
 have Zy:tn 0 h':=T.keep 0 _ _ st3 fun b _ o e=>k34 b o e
 exact codeAny_compStart_list (loop _ (I4 _) Zy) (T.self _ 0 _ _ _ Zy (loop _ (I4 _) Zy))
theorem gG (acc:m6 X E) (hc:X.calm=true) (F:oM X L) (O:eU X scope cl N' cap) (hi:PI X target iter wi) (hg:∀ s₀ H₀ fp jN E',PG (fW X scope cl N' s₀ H₀ fp jN E') target g) (ht:∀ s₀ H₀ fp jN E',PTs (fW X scope cl N' s₀ H₀ fp jN E') ifs tc) (he:∀ s₀ H₀ fp jN E',m6 (fW X scope cl N' s₀ H₀ fp jN E') E->PE (fW X scope cl N' s₀ H₀ fp jN E') elt te) (hs:autoParam (∀ x,foldedSetIterable iter X.env x=pure x) zau3):PE X (.ListComp elt [⟨target,iter,ifs,0⟩] scope pos) (Tv cap wi g tc te):=by
 intro pins s σ H Q I h;rw [eval_ListComp];refine wpAny_comprehension_free (use:=none) rfl hs O.clos O.kind O.names (dX (hi pins s σ H _ I h) fun xv s₁ h₁=>dX h₁ fun itv s₂ h₂=>?_);obtain ⟨it,fp,tn,J,H2,e,I2,T,st2,f2,q⟩:=h₂;subst e;refine vo (RR:=fun Ig C=>compPost (model X.prog X.w) X.A X.xe none (EP X pins σ Q) Ig C) (Qe:=fun D=>Q (.ref D)) acc hc F O hg ht he I2 T st2 f2 q ?_ ?_
 ·rintro D C s' ⟨m,hn⟩ lC ⟨H',I',hC,q'⟩;refine ⟨m,hn,fun h' sb=>⟨.ref D,H',I'.kJ (t':=s'.toks) (ch:=[C]) (fun b hb=>by rw [aL.mp hb]; exact ⟨hC,lC.2⟩) (fun b o _ hc' z=>(sb.2 b fun y=>hc' (by rw [y]; exact mem_cons_self)).trans z) (fun b o hc' z=>⟨o.slots,(sb.2 b fun y=>hc' (by rw [y]; exact mem_cons_self)).trans z⟩),rfl,q'⟩⟩
 ·rintro D C x s' ⟨m,hn⟩ k;exact ⟨m,hn,k⟩
theorem qy {i:Nat} {y:Str} {py spos:Pos} (hN:X.N.Nodup) (hi':X.N[i]?=some y) (hx:Loc X.env.scope y) (acc:m6 X E) (hc:X.calm=true) (F:oM X L) (O:eU X scope cl N' cap) (hi:PI X target iter wi) (hg:∀ s₀ H₀ fp jN E',PG (fW X scope cl N' s₀ H₀ fp jN E') target g) (ht:∀ s₀ H₀ fp jN E',PTs (fW X scope cl N' s₀ H₀ fp jN E') ifs tc) (he:∀ s₀ H₀ fp jN E',m6 (fW X scope cl N' s₀ H₀ fp jN E') E->PE (fW X scope cl N' s₀ H₀ fp jN E') elt te) (hsw:autoParam (swapsWith (.ListComp elt [⟨target,iter,ifs,0⟩] scope pos) (some (.Name y py)) spos.line X.env=pure true) zau0) (hs:autoParam (∀ x,foldedSetIterable iter X.env x=pure x) zau3) (hf:autoParam (X.fn y=true\/X.env.scope.names.lookup y=some .local) zau2) : PS X (.Assign [.Name y py] (.ListComp elt [⟨target,iter,ifs,0⟩] scope pos) spos) (Zb (Tv cap wi g tc te) (Gb i)):=by
 intro pins s σ H D I h;rw [exec_Assign_Name_used y py _ spos hsw];refine aj (wpAny_standAt ?_);refine aj ?_
 show wpAny _ X.A (do let _ <- comprehension (.ListComp elt [⟨target,iter,ifs,0⟩] scope pos) scope X.env _ (newList []) false (eval iter X.env) (some (assign (.Name y py) X.env))) _ _ s
 refine aj (bF (wpAny_comprehension_free (use:=some (assign (.Name y py) X.env)) (Q:=fun _ s'=>SP X pins D .next s') rfl hs O.clos O.kind O.names (dX (hi pins s σ H _ I h) fun xv s₁ h₁=>dX h₁ fun itv s₂ h₂=>?_)) (fun _ s' hq=>ak (ak hq)) fun _ _ e=>e);obtain ⟨it,fp,tn,J,H2,e,I2,T,st2,f2,q⟩:=h₂;subst e;refine vo (RR:=fun Ig C=>compPost (model X.prog X.w) X.A X.xe (some (assign (.Name y py) X.env)) (fun _ s'=>SP X pins D .next s') Ig C) (Qe:=fun Dl H1=>D.nx (σ.set i (some (.ref Dl))) H1) acc hc F O hg ht he I2 T st2 f2 q ?_ ?_
 ·rintro Dl C s' ⟨m,hn⟩ lC ⟨H',I',hC,q'⟩
  show wpAny _ X.A (assign (.Name y py) X.env (.ref Dl)) _ _ s'
  refine wpAny_assign_Name (xJ I' hN hi' hx (show RelV (.ref Dl) (.ref Dl) from rfl) (fun s'' I'' hsb=>?_) hf);obtain ⟨a,sba,ha⟩:=hsb;have nCa:C≠a:=by
   rcases ha with z | z
   ·rw [z]; exact lC.2.1
   ·exact Ne.symm (lC.2.2.2.2.1 _ _ z)
  refine ⟨m,hn.sameBut sba nCa,fun h' sb=>⟨_,H',I''.kJ (t':=s''.toks) (ch:=[C]) (fun b hb=>by rw [aL.mp hb]; exact ⟨hC,lC.2⟩) (fun b o _ hc' z=>(sb.2 b fun y=>hc' (by rw [y]; exact mem_cons_self)).trans z) (fun b o hc' z=>⟨o.slots,(sb.2 b fun y=>hc' (by rw [y]; exact mem_cons_self)).trans z⟩),q'⟩⟩
 ·rintro D C x s' ⟨m,hn⟩ k;exact ⟨m,hn,k⟩
end
structure gY (k:Nat) (A:cL):Prop where
 dp:A.depth + 3 * k + 5 < recursionLimit
 un:A.units + 16 * k + 200 < cLine
theorem d7.toH {k:Nat} {A:cL} (r:d7 k A):gY k A:=⟨r.dp,r.un⟩
theorem gY.deeper {k:Nat} {A:cL} (r:gY (k + 1) A) (env:Env):gY k (A.deeper env) := ⟨by have:=r.dp; show A.depth + 1 + 3 * k + 5 < _; omega,by have:=r.un; show A.units + 3 + 16 * k + 200 < _; omega⟩
structure mJ (P:bT) (w:World) (K:Fg) (mg:Str->Option au) (base:Heap) (CX:wX) (k:Nat) (f:aA) (fd:dN) (ps:List Str) (sp:Sp):Prop where
 len:∀ vs H Q E,sp vs H Q E->vs.length=ps.length
 run:∀ (A:cL) (outer:List Env) (s:aG) (H:Hp) (args:Args) (us:List au) (vs:List V) (Q:VK) (E:XK),gY k A->Ar P w K mg base A outer s H->BindsTo s fd args (ps.zip us)->Vals vs us->sp vs H Q E -> codeAny (model P w) A (.call (.ref f) args) (CR CX outer P w H s Q E) s
theorem mJ.fn {P:bT} {w:World} {K:Fg} {mg:Str->Option au} {base:Heap} {CX:wX} {k:Nat} {f:aA} {fd:dN} {ps:List Str} {sp:Sp} (F:mJ P w K mg base CX k f fd ps sp):cC P w K mg base CX k f fd ps sp := ⟨F.len,fun A outer s H args us vs Q E hr=>F.run A outer s H args us vs Q E hr.toH⟩
noncomputable abbrev Gk (CX:wX) (P:bT) (w:World) (K:Fg) (mg:Str->Option au) (base:Heap) (N:List Str) (qual:Str) (scope:Scope) (f:aA) (cd:au) (A:cL) (outer:List Env) (s:aG) (H:Hp) (E:XK):Cx := { qx CX P w K mg base N qual scope f cd A outer s H E with calm:=false }
theorem ZC {CX:wX} {P:bT} {w:World} {K:Fg} {mg:Str->Option au} {base:Heap} {k:Nat} {f:aA} {name qual:Str} {params:Arguments} {body:List cQ} {scope:Scope} {dV kV doc pm cdv ct oc:au} {an od:Option aA} {osl:Array (Option au)} {N ps:List Str} {sp:Sp} (lk:K.lookup f=some ⟨oc,od,.func (fnOf name qual params body scope dV kV doc pm an cdv ct),osl⟩) (hcd:codeIn K cdv qual=true) (S:bV N ps scope) (len:∀ vs H Q E,sp vs H Q E->vs.length=ps.length) (hbody:∀ (A:cL) (outer:List Env) (s:aG) (H:Hp) (vs:List V) (Q:VK) (E:XK),gY k (A.deeper (envOfC qual scope s.heap.objs.size f cdv))->sp vs H Q E -> ∃ t,Dh (Gk CX P w K mg base N qual scope f cdv A outer s H E) body t/\t { nx:=fun _ H'=>Q .non H',rt:=Q } (start N vs) H) : mJ P w K mg base CX (k + 1) f (fnOf name qual params body scope dV kV doc pm an cdv ct) ps sp:=by
 refine ⟨len,fun A outer s H args us vs Q E hr e0 hb r hsp=>?_⟩;have hl:=len _ _ _ _ hsp;have KX:K.In s.heap:=e0.mod.wW.keeps fun b o e=>(e0.bs b o e).1
 have lim:s.heap.NoLimit:=e0.mod.nolimit.keeps fun b o e=>(e0.bs b o e).1
 have hkind:∀ y ∈ ps.zip us,scope.names.lookup y.1=some .local\/(scope.names.lookup y.1=some .cell/\((cellsFrom (s.heap.objs.size + 1) scope.names []).lookup y.1).isSome=true):=fun ⟨n,v⟩ hy=>by
  rcases S.par n (of_mem_zip hy).1 with q | q
  ·exact .inl q
  ·exact .inr ⟨q,cellsFrom_some _ _ _ (.inl q)⟩
 have aiY:A.depth < recursionLimit:=by have:=hr.dp; omega
 refine codeAny_call_function aiY (KX _ _ lk) rfl S.co S.gen rfl (codeRec_of KX hcd) (hb _ _ _ _ ?_);refine wpAny_newFunctionEnv_cells S.kind hkind fun env he s1 x=>?_
 subst he;refine ⟨lim.keeps x.toInCall.keep,codeAny_func ?_⟩;obtain ⟨t,ht,hq⟩:=hbody A outer s H vs Q E (hr.deeper _) hsp;have I0:Inv (qx CX P w K mg base N qual scope f cdv { A with handled:=none } outer s H E) [] (start N vs) H s1 :=
  xV S rfl ⟨e0.frames,e0.mod,e0.bs,e0.HB,e0.o9,e0.Og,e0.hok,e0.bare⟩ hl r x
 have I:Inv (Gk CX P w K mg base N qual scope f cdv A outer s H E) [] (start N vs) H s1 :=
  ⟨⟨I0.ok.mod,I0.ok.kind,I0.ok.glob,I0.ok.blt,I0.ok.above,I0.ok.inj,I0.ok.has,I0.ok.cab,(fun z=>nomatch z),Around.frames_deeper e0.frames,I0.ok.stk,I0.ok.exf,I0.ok.bs,I0.ok.HB,I0.ok.Dm,I0.ok.HD,I0.ok.o9,I0.ok.Og⟩,I0.os,I0.bare,I0.base,I0.loc,I0.cell,I0.free,I0.gJ,I0.pin,I0.hok,I0.len⟩
 refine bF (ht [] s1 (start N vs) H _ I hq) (fun fl s' hs=>?_) fun e s' hs=>hs
 have fin:∀ {σ':St} {H':Hp} {v:V} {u:au},Inv (Gk CX P w K mg base N qual scope f cdv A outer s H E) [] σ' H' s'->RelV v u->Q v H'->CE outer P w H s Q u s' :=
  fun {σ' H' v u} J rv q=>⟨v,H',J.os,J.bare,J.base,J.hok,rv,q⟩
 cases fl with
 | ret u =>
  obtain ⟨v,σ',H',J,rv,q⟩:=hs;exact fin J rv q
 | next =>
  obtain ⟨σ',H',J,q⟩:=hs;exact fin (v:=V.non) (u:=Value.none) J rfl q
 | brk =>
  obtain ⟨_,_,_,q⟩:=hs;exact False.elim q
 | cont =>
  obtain ⟨_,_,_,q⟩:=hs;exact False.elim q
section
variable {X:Cx} {CX:wX} {k:Nat} {f:aA} {fd:dN} {ps:List Str} {sp:Sp} {oJ:List V} {ds:List au} {E:XK} {x:Str} {p pos:Pos} {e:Expr} {es:List Expr} {t:TA}
theorem QG {pins:List (aA × Obj)} {σ:St} {H:Hp} {s:aG} {Q:VK} {us:List au} {vs:List V} (F:mJ X.prog X.w X.K X.mg X.base CX k f fd ps sp) (hr:gY k X.A) (hb:Binds X.K fd ps ds) (hd:Vals oJ ds) (hx:Passes CX X E) (I:Inv X pins σ H s) (r:Vals vs us) (h:sp (vs++oJ) H Q E):wpAny (model X.prog X.w) X.A (call (.ref f) us) (EP X pins σ Q) X.xe s:=by
 have r2:Vals (vs++oJ) (us++ds):=r.append hd;have hl:(us++ds).length=ps.length:=by rw [<- r2.length]; exact F.len _ _ _ _ h
 refine wpAny_call (bL (F.run X.A X.stack s H ⟨us,[]⟩ (us++ds) (vs++oJ) Q E hr I.env0 (hb s us I.jM hl) r2 h) fun r s' hq=>?_);cases r with
 | error e=>exact hx pins σ H s e s' I hq
 | ok fl =>
  cases fl with
  | ret u=>exact I.after hq
  | next=>exact False.elim hq
  | brk=>exact False.elim hq
  | cont=>exact False.elim hq
theorem Kl (F:mJ X.prog X.w X.K X.mg X.base CX k f fd ps sp) (hr:gY k X.A) (hg:Gl X x) (hm:X.mg x=some (.ref f)) (hk:keepIn X.K (.ref f)=true) (hb:Binds X.K fd ps ds) (hd:Vals oJ ds) (hx:Passes CX X E) (ha:PA X (e::es) t) (hdb:autoParam ((x == ("__debug__":Str))=false) zau1) (he:autoParam (starEach (e::es) X.env=(false,eval e X.env)::starEach es X.env) zau0) (hpl:autoParam ((backTo pos (starEach es X.env)).any (·.1)=false) zau0) : PE X (.Call (.Name x p) (e::es) [] pos) (Gh sp oJ E t):=by
 intro pins s σ H Q I h;refine wpAny_Call_Name_kw (gF I hg hm ?_ hdb);refine callWith_K (h₀:=X.base) I.ok.mod.wW hk (dX (ha pos pins s σ H _ I h) fun us s1 ⟨vs,H1,I1,r,q⟩=>⟨I1.jM,?_⟩) he hpl;exact QG F hr hb hd hx I1 r q
end
def gZ:List Str->List Str
 | []=>[]
 | x::l=>x::(gZ l).filter fun y=>decide (y≠x)
theorem vp {y:Str}:∀ {l:List Str},y ∈ gZ l ↔ y ∈ l
 | []=>Iff.rfl
 | x::l=>by
  by_cases e:y=x
  ·simp [gZ,e]
  ·simp [gZ,e,vp (l:=l)]
theorem zc:∀ l:List Str,(gZ l).length<=l.length
 | []=>aH _
 | _::l=>Nat.succ_le_succ (bA (length_filter_le _ _) (zc l))
theorem xX (v:Str):∀ l:List Str,gZ (l++[v])=if v ∈ l then gZ l else gZ l++[v]
 | []=>by simp [gZ]
 | x::l=>by
  have ih:=xX v l
  by_cases e:v=x
  ·subst e
   by_cases m:v ∈ l <;> simp [gZ,ih,m,cG]
  ·by_cases m:v ∈ l <;> simp [gZ,ih,m,e,cG]
theorem Gm:∀ l:List Str,(gZ l).length=l.length ↔ l.Nodup
 | []=>by simp [gZ]
 | x::l=>by
  have le1:=length_filter_le (fun y=>decide (y≠x)) (gZ l);have le2:=zc l;have ih:=Gm l;have all:((gZ l).filter fun y=>decide (y≠x)).length=(gZ l).length ↔ ¬ x ∈ l:=by
   rw [List.length_filter_eq_length_iff];constructor
   ·intro h m;simpa using h x (vp.mpr m)
   ·intro h y hy;simpa using fun z:y=x=>h (z ▸ vp.mp hy)
  simp only [gZ,length_cons,nodup_cons];constructor
  ·intro h;exact ⟨all.mp (by omega),ih.mp (by omega)⟩
  ·rintro ⟨h1,h2⟩;have:=all.mpr h1;have:=ih.mpr h2;omega
section
variable {prog:bT} {w:World} {A:cL} {E:au->aG->Prop} {Q:au->aG->Prop} {s:aG}
theorem qz {T newId initId:String} {args:List au} (ft:TypeCalled T newId initId) (ok:checkTypeCall T ⟨args,[]⟩=pure ()) (mk:codeAny (model prog w) A.in1 (.call (.builtin newId) ⟨.type T::args,[]⟩) (wants (fun obj a=>a.TypeIs obj T/\codeAny (model prog w) A.in1 (.call (.builtin initId) ⟨obj::args,[]⟩) (wants (fun r b=>r=.none/\Q obj b) E) a) E) s):wpAny (model prog w) A (call (.type T) args) Q E s:=by
 obtain ⟨c,tl,mro⟩:=ft.mro;have made:=ft.made; have sub:=ft.sub; have n1:=ft.notType; have n2:=ft.canCreate;have look:=ft.init.lookup;refine wpAny_call (codeAny_of_tree (show wpAny _ _ (callAny (.type T) _) _ _ _ from ak ⟨Code.quiet_builtin _ (by decide +kernel),codeAny_builtin PySem.F.entry_type_call ?_⟩));have plain:=Around.under_plain (A:=A) (weight_type_call_type T args []) (units_type_call_type T args []);rw [plain]
 repeat any_goals first | assumption | wp_step
 refine bL mk fun r a ha=>?_
 match r,ha with
 | .error _,ha=>exact ha
 | .ok (.ret obj),ha =>
  obtain ⟨ty,ini⟩:=ha;have bnd:=ft.init.bind obj
  repeat any_goals first | assumption | wp_step
  refine bL ini fun r b hb=>?_
  match r,hb with
  | .error _,hb=>exact hb
  | .ok (.ret v),hb =>
   obtain ⟨rfl,q⟩:=hb
   repeat any_goals first | assumption | wp_step
theorem QH {S:aA} {done:List Str} {x:Str} {t:Tok} {Qu:Bool->aG->Prop} (small:(gZ done).length + 1 < scanBound) (at_:s.heap.SetOf (strKind prog w) S (fun k=>decide (k ∈ done)) (gZ done).length) (k:∀ h' tk b,Heap.SameBut S s.heap h'->h'.SetOf (strKind prog w) S (fun k=>decide (k ∈ done++[x])) (gZ (done++[x])).length->Qu b { s with heap:=h',toks:=tk }):wpAny (model prog w) A (setAdd S (.str x t)) Qu E s:=by
 have is:(strKind prog w).is x (.str x t)=true:=by show Value.isStrOf x (.str x t)=true; simp [Value.isStrOf]
 unfold setAdd;refine wpAny_holding (aj ((strKind prog w).pyHash (k:=x) is (wpAny_setAddHashed_of (knd:=strKind prog w) (s:={ s with toks:=s.toks + 1 }) is rfl at_ small fun h' sb set=>k h' _ _ sb ?_)));refine SetOf_congr set (fun y=>?_) ?_
 ·simp [bZ,Bool.decide_or]
 ·rw [xX]
  by_cases m:x ∈ done <;> simp [m]
theorem Bh {S I l:aA} {its:List au} {ls:List Str} (calm:A.handled=none) (SI:S≠I) (Sl:S≠l) (lI:l≠I) (txt:Paired (fun x v=>∃ t,v=Value.str x t) ls its) (small:ls.length + 1 < scanBound) {R:Result->aG->Prop} : ∀ (todo done:List Str) (s:aG),ls=done++todo->s.heap.IsListIter I l done.length->s.heap.IsList l its.toArray->s.heap.SetOf (strKind prog w) S (fun k=>decide (k ∈ done)) (gZ done).length -> (∀ h' tk,(∀ b o,b≠S->b≠I->s.heap.get? b=some o->h'.get? b=some o)->h'.SetOf (strKind prog w) S (fun k=>decide (k ∈ ls)) (gZ ls).length->R (.ok (.ret .none)) { s with heap:=h',toks:=tk }) -> codeAny (model prog w) A (.builtin "set.update.loop" ⟨[.ref S,.ref I],[]⟩) R s
 | [],done,s,e,it,li,at_,k=>by
  have e':ls=done:=by simpa using e
  have len:=txt.length;refine codeAny_builtin PyProof.Rows.F.entry_set_update_loop ?_;rw [Around.under_plainId PyProof.Rows.F.plain_set_update_loop _];refine aj (m:=pyNext (.ref I)) (wpAny_pyNext_list_end (by simpa using calm) it li (by rw [<- e']; simp [len]) fun h' ext=>?_);obtain ⟨o,es,ep,t,ho,more⟩:=at_;subst e';exact ak (k h' s.toks (fun b o _ nI q=>ext b o nI q) ⟨o,es,ep,t,ext S o SI ho,more⟩)
 | x::todo,done,s,e,it,li,at_,k=>by
  have aiZ:done.length < ls.length:=by rw [e,aM,length_cons]; omega
  have item:∃ t,its[done.length]?=some (Value.str x t):=by
   have at1:ls[done.length]?=some x:=by rw [e]; simp
   clear e it li at_ k aiZ small
   induction txt generalizing done with
   | nil=>simp at at1
   | @cons a b l₁ l₂ r rr ih =>
    cases done with
    | nil=>simp at at1; subst at1; obtain ⟨t,q⟩:=r; exact ⟨t,by simp [q]⟩
    | cons y ys=>exact ih ys (by simpa using at1)
  obtain ⟨t,item⟩:=item;have room:(gZ done).length + 1 < scanBound:=by have:=zc done; omega
  refine codeAny_builtin PyProof.Rows.F.entry_set_update_loop ?_;rw [Around.under_plainId PyProof.Rows.F.plain_set_update_loop _];refine aj (m:=pyNext (.ref I)) (wpAny_pyNext_list_item it li (x:=Value.str x t) (by simpa using item) fun h' it' sb=>?_);obtain ⟨o,es,ep,tb,ho,more⟩:=at_;refine aj (wpAny_holding (QH (s:={ s with heap:=h' }) room ⟨o,es,ep,tb,(sb.2 S SI).trans ho,more⟩ fun g tk b sg set=>?_));refine ak ⟨plainId_quiet PyProof.Rows.F.plain_set_update_loop _,Bh calm SI Sl lI txt small todo (done++[x]) _ (by simp [e]) ?_ ?_ set fun g' tk' keep fin=>?_⟩
  ·rw [aM];exact it'.at fun o q=>(sg.2 I (Ne.symm SI)).trans q
  ·exact (li.at fun o q=>(sb.2 l lI).trans q).at fun o q=>(sg.2 l (Ne.symm Sl)).trans q
  ·exact k g' tk' (fun b o nS nI q=>keep b o nS nI ((sg.2 b nS).trans ((sb.2 b nI).trans q))) fin
theorem wZ {l:aA} {its:List au} {ls:List Str} (calm:A.handled=none) (li:s.heap.IsList l its.toArray) (txt:Paired (fun x v=>∃ t,v=Value.str x t) ls its) (small:ls.length + 1 < scanBound) (k:∀ h' tk,h'.SetOf (strKind prog w) s.heap.objs.size (fun y=>decide (y ∈ ls)) (gZ ls).length->(∀ b o,s.heap.get? b=some o->h'.get? b=some o)->Q (.ref s.heap.objs.size) { s with heap:=h',toks:=tk }) : wpAny (model prog w) A (call (Value.type "set") [Value.ref l]) Q E s:=by
 refine qz PySem.F.called_set (PySem.F.typeCall_set_1 _) (code_set_new_1 (.ref l) fun led=>?_)
 let o₀:Obj:={ cls:=.type "set",dict:=none,data:=.set #[] 0 (.fresh 0 0 led) }
 have there:(s.heap.push o₀).get? s.heap.objs.size=some o₀:=aD s.heap rfl;have ty:Shared.TypeIs { s with heap:=s.heap.push o₀ } (.ref s.heap.objs.size) "set":=⟨o₀,there,rfl⟩;refine ⟨ty,codeAny_call_builtin PySem.F.called_set.init.plain PySem.F.entry_set_init (check_set_init_1 ty ?_)⟩;have lt:l < s.heap.objs.size:=by obtain ⟨o,q,_⟩:=li; exact Heap.lt_size q
 have ZD:(s.heap.push o₀).IsList l its.toArray:=li.push o₀;obtain ⟨⟨c,d,dt,sl⟩,get,rfl,n,rfl⟩:=id ZD;have ZF:=PySem.F.sub_list_set; have Ih:=PySem.F.sub_list_frozenset;have notDict:(Value.type "list" == Value.type "dict")=false:=by decide
 unfold Builtin.«set.__init__»;unfold noKeywords;unfold Builtin.Frozenset.updateFrom;generalize vq:pyIter=PI
 wp_walk
 subst vq;refine wpAny_pyIter_list ZD (aj (wpAny_runValue ?_))
 let it₀:Obj:={ cls:=.type "list_iterator",data:=.fields #[.ref l,.int 0 0] }
 have vA:(s.heap.push o₀).objs.size=s.heap.objs.size + 1:=Heap.size_push _ _;refine Bh (its:=its) (ls:=ls) (by simpa using calm) (by rw [vA]; exact Nat.ne_of_lt (Nat.lt_succ_self _)) (Nat.ne_of_gt lt) (by rw [vA]; exact Nat.ne_of_lt (Nat.lt_succ_of_lt lt)) txt small ls [] _ rfl ⟨it₀,aD _ rfl,rfl,rfl⟩ (ZD.push it₀) ?_ fun h' tk keep fin=>?_
 ·exact SetOf_congr ((setObjOf_fresh (knd:=strKind prog w) led).setOf (ao it₀ there) (by unfold scanBound; omega)) (fun y=>by simp) (by simp [gZ])
 ·refine ak (show wpAny _ _ (ret Value.none) _ _ _ from ak ⟨rfl,k h' tk fin fun b o q=>?_⟩);have below:=Heap.lt_size q;exact keep b o (Nat.ne_of_lt below) (by rw [vA]; exact Nat.ne_of_lt (Nat.lt_succ_of_lt below)) (ao it₀ (ao o₀ q))
end
def vB (P:bT) (w:World) (a:aA) (n:Nat):HO:=.ext fun h=>∃ S,h.SetOf (strKind P w) a S n
theorem Bj:∀ {ls:List Str} {us:List au},Vals (ls.map V.str) us->Paired (fun x v=>∃ t,v=Value.str x t) ls us
 | [],_,r=>by cases r; exact .nil
 | x::ls,_,r=>by cases r with | cons r rr=>exact .cons r (Bj rr)
section
variable {X:Cx}
theorem Ii (hc:X.calm=true):gK X (.type "set") (fun xs H Q=>∃ p ls,xs=[.ref p]/\cY X.K H p (ls.map V.str)/\ls.length + 1 < scanBound/\∀ l,H l=none->Q (.ref l) (upd H l (vB X.prog X.w l (gZ ls).length))):=by
 intro pins s σ H xs us Q I r h;obtain ⟨p,ls,rfl,hq,hb,q⟩:=h;obtain ⟨u,rfl,rx⟩:=Vals.one r;cases rx;obtain ⟨its,rv,pl,hz⟩:=I.list hq;refine wZ (I.ok.hd hc) pl.isList (Bj rv) hb fun h' tk hS hk=>?_
 refine ⟨.ref s.heap.objs.size,_,I.laid (a:=s.heap.objs.size) (o:=vB X.prog X.w s.heap.objs.size (gZ ls).length) hk (aH _) ?_,rfl,q _ (I.hok.fresh (aH _))⟩;obtain ⟨o,es,ep,t,ho,rest⟩:=id hS;refine ⟨⟨_,hS⟩,⟨o,ho⟩,fun h1 h2 p k=>?_⟩;obtain ⟨S,o,es,ep,t,ho,rest⟩:=p;exact ⟨S,o,es,ep,t,k o ho,rest⟩
theorem Ij:gK X (.builtin "len") (fun xs H Q=>∃ p n,xs=[.ref p]/\H p=some (vB X.prog X.w p n)/\Q (.int n) H):=by
 intro pins s σ H xs us Q I r h;obtain ⟨p,n,rfl,e,q⟩:=h;obtain ⟨u,rfl,rx⟩:=Vals.one r;cases rx;obtain ⟨⟨S,o,es,ep,t,ho,hex,hd,hel,hm,hb,hf,hn⟩,_⟩:=(show dJ X.prog X.w H s.heap p (vB X.prog X.w p n) from I.hok p _ e);subst hn;refine call_len_set ho hex hd hf (by unfold scanBound at hb; omega) ⟨.int es.size,H,I.tok _,⟨_,rfl⟩,q⟩
end
def aei (fp:List aA) (P:Heap->Prop):Prop:=∀ h h',P h->(∀ b ∈ fp,∀ o,h.get? b=some o->h'.get? b=some o)->P h'
def Km (h:Heap) (e:aA):Prop:=∃ o,h.get? e=some o/\o.cls=.type "StopIteration"
noncomputable def Draws (prog:bT) (w:World) (A:cL) (it:aA) (P:Heap->Prop) (x:au) (P':Heap->Prop):Prop := ∀ (s:aG) (Q:au->aG->Prop) (E:au->aG->Prop),P s.heap->(∀ h',P' h'->Heap.SameBut it s.heap h'->Q x { s with heap:=h' })->wpAny (model prog w) A (Builtin.SmallTypes.nextOf (.ref it)) Q E s
noncomputable def aej (prog:bT) (w:World) (A:cL) (it:aA) (P:Heap->Prop):Prop := ∀ (s:aG) (Q:au->aG->Prop) (E:au->aG->Prop),P s.heap->(∀ h' e,Heap.ExtBut it s.heap h'->Km h' e->E (.ref e) { s with heap:=h' })->wpAny (model prog w) A (Builtin.SmallTypes.nextOf (.ref it)) Q E s
inductive Over (h:Heap) (it l:aA) (xs:Array au) (k:Nat):Bool->Prop
 | lst (a:h.IsListIter it l k) (b:h.IsList l xs):Over h it l xs k false
 | tup (a:h.IsTupleIter it l k) (b:h.IsTuple l xs):Over h it l xs k true
section
variable {prog:bT} {w:World} {A:cL} {it l:aA} {xs:Array au} {k:Nat} {tu:Bool}
theorem DG:aei [it,l] (fun h=>Over h it l xs k tu):=fun h h' o keep=>by
 have k1:=keep it (by simp);have k2:=keep l (by simp);cases o with
 | lst a b=>exact .lst (a.at k1) (b.at k2)
 | tup a b =>
  obtain ⟨o1,q1,r1⟩:=a;obtain ⟨o2,q2,r2⟩:=b;exact .tup ⟨o1,k1 o1 q1,r1⟩ ⟨o2,k2 o2 q2,r2⟩
theorem Over.Ko {h:Heap} (o:Over h it l xs k tu):∃ ob,h.get? it=some ob:=by
 cases o with
 | lst a _=>obtain ⟨ob,q,_⟩:=a; exact ⟨ob,q⟩
 | tup a _=>obtain ⟨ob,q,_⟩:=a; exact ⟨ob,q⟩
theorem kY {s:aG} {Q:au->aG->Prop} {E:au->aG->Prop} {o:Obj} (at_:s.heap.get? it=some o) (c:o.cls=.type "tuple_iterator") (lQ:o.data=.fields #[.ref l,.int k 0]) {ol:Obj} {n:Nat} (sq:s.heap.get? l=some ol) (its:ol.data=.seq xs n) : (∀ x,xs[k]?=some x->(∀ h',h'.IsTupleIter it l (k + 1)->Heap.SameBut it s.heap h'->Q x { s with heap:=h' })->wpAny (model prog w) A (Builtin.SmallTypes.nextOf (.ref it)) Q E s) /\ (xs[k]?=none->A.handled=none->(∀ h' e,Heap.ExtBut it s.heap h'->Km h' e->E (.ref e) { s with heap:=h' })->wpAny (model prog w) A (Builtin.SmallTypes.nextOf (.ref it)) Q E s):=by
 have ty:s.TypeIs (.ref it) "tuple_iterator":=⟨o,at_,c⟩;have Bk:¬ (Value.ref l == Value.none)=true:=Bool.false_ne_true;constructor
 ·intro x hx q;have Tz:=Obj.data_mapFields lQ fun v=>v.setIfInBounds 1 (rawInt ((k:Int) + 1))
  refine aj (wpAny_callSpecial?_slot (name:=Str.ofString "__next__") ty PySem.F.slot_tuple_iterator_next (wpAny_call_entry PySem.F.slot_tuple_iterator_next ty PySem.F.entry_tuple_iterator_next ?_ (PySem.F.args_tuple_iterator_next_1 _)));refine aj (m:=field (.ref it) 0) (wpAny_field at_ lQ (x:=.ref l) rfl ?_);rw [if_neg Bk];refine aj (m:=field (.ref it) 1) (wpAny_field at_ lQ (x:=.int k 0) rfl (aj (m:=seqItems? (.ref l)) (wpAny_seqItems sq its ?_)));simp only [show ((k:Int)).toNat=k from cA k,hx];refine aj (wpAny_setField at_ lQ (by simp) (ak ⟨x,rfl,ak (q _ ⟨_,Heap.get?_update_self _ at_ (Obj.isFreed_of_fields Tz),(Obj.cls_mapFields ..).trans c,?_⟩ (Heap.SameBut.update ..))⟩));rw [Tz]; simp [rawInt]
 ·intro hx calm q;refine aj (wpAny_callSpecial?_slot (name:=Str.ofString "__next__") ty PySem.F.slot_tuple_iterator_next (wpAny_call_entry PySem.F.slot_tuple_iterator_next ty PySem.F.entry_tuple_iterator_next ?_ (PySem.F.args_tuple_iterator_next_1 _)));refine aj (m:=field (.ref it) 0) (wpAny_field at_ lQ (x:=.ref l) rfl ?_);rw [if_neg Bk];refine aj (m:=field (.ref it) 1) (wpAny_field at_ lQ (x:=.int k 0) rfl (aj (m:=seqItems? (.ref l)) (wpAny_seqItems sq its ?_)));simp only [show ((k:Int)).toNat=k from cA k,hx];refine aj (wpAny_rule (aj (wpAny_setField at_ lQ (by simp) (aj (m:=newExc (.type "StopIteration") []) ?_))));simp only [newExc,newTuple];refine aj (wpAny_newObj_type (aj (m:=firstArgMember _ _) (wpAny_of_eq (a:=Value.none) (by first | rfl | (simp only [firstArgMember]; rfl)) (wpAny_newObj_type ?_ (by size_fits)))) (by size_fits));exact wpAny_raiseNew_none (show A.in1.handled=none from calm) (q _ _ (((Heap.SameBut.update ..).extBut.push _).push _) ⟨_,aD _ rfl,rfl⟩)
theorem DK {x:au} (ne:l≠it) (hx:xs[k]?=some x):Draws prog w A it (fun h=>Over h it l xs k tu) x (fun h=>Over h it l xs (k + 1) tu):=by
 intro s Q E o q;cases o with
 | lst a b=>exact wpAny_nextOf_list_item a b hx fun h' a' sb=>q h' (.lst a' (b.at fun _ z=>(sb.2 l ne).trans z)) sb
 | tup a b =>
  obtain ⟨ob,z,c,d⟩:=a;obtain ⟨ol,y,r,n,its⟩:=b;exact (kY z c d y its).1 x hx fun h' a' sb=>q h' (.tup a' ⟨ol,(sb.2 l ne).trans y,r,n,its⟩) sb
theorem xY (hx:xs[k]?=none) (calm:A.handled=none):aej prog w A it (fun h=>Over h it l xs k tu):=by
 intro s Q E o q;cases o with
 | lst a b=>exact wpAny_nextOf_list_end calm a b hx q
 | tup a b =>
  obtain ⟨ob,z,c,d⟩:=a;obtain ⟨ol,y,_,n,its⟩:=b;exact (kY z c d y its).2 hx calm q
end
section
variable {prog:bT} {w:World} {A:cL} {E:au->aG->Prop} {s:aG} {z ti to a b l m:aA} {xs ys:Array au} {i j:Nat} {u v:au} {t1 t2:Bool}
def zip2 (m:aA):Obj:={ cls:=.type "list_iterator",data:=.fields #[.ref m,.int 0 0] }
end
section
variable {X:Cx} {pins:List (aA × Obj)} {σ:St} {H:Hp} {s:aG}
theorem Inv.drawn {h':Heap} {t':Nat} {T:aA} {o:HO} {ch:List aA} (I:Inv X pins σ H s) (hch:∀ b ∈ ch,pA X pins H b) (keep:∀ b ob,b ∉ ch->s.heap.get? b=some ob->h'.get? b=some ob) (fr:s.heap.get? T=none) (new:dJ X.prog X.w (upd H T o) h' T o):Inv X pins σ (upd H T o) { s with heap:=h',toks:=t' }:=by
 have hT:H T=none:=I.hok.none_of fr;have nT:∀ b u,H b=some u->b≠T:=fun b u e z=>by rw [z,hT] at e; cases e
 have JD:∀ b u,H b=some u->b ∉ ch:=fun b u e z=>by rw [(hch b z).1] at e; cases e
 refine I.call (ch:=ch) (g':=s.gens) (d':=s.drawn) ⟨fun b ob e _ _ hx=>keep b ob hx e,fun b ob e _ _ hx=>⟨ob.slots,keep b ob hx e⟩,fun b ob e n hx=>?_,fun b ob e hx=>⟨ob,keep b ob hx e⟩,fun b xs e=>?_,fun b ob xs e=>?_,fun b ps e=>⟨#[],?_⟩⟩ (fun c u e=>?_) I.bare fun b hb=>⟨(hch b hb).2.2.2.1,(hch b hb).2.1,(hch b hb).2.2.2.2.1,(hch b hb).2.2.2.2.2⟩
 ·rw [bx (fun z=>by rw [z,fr] at e; cases e)]; exact n
 ·rw [bx (nT _ _ e)]; exact e
 ·rw [bx (nT _ _ e)]; exact e
 ·rw [bx (nT _ _ e),e]; simp
 ·by_cases z:c=T
  ·subst z; rw [aC] at e; cases e; exact new
  ·rw [bx z] at e;refine (I.hok c u e).stay (fun d v hd q=>keep d v ?_ q) (fun d q=>by rw [bx (nT _ _ q)]; exact q) fun d xs q=>by rw [bx (nT _ _ q)]; exact q
   rcases hd with y | y
   ·rw [y]; exact JD c u e
   ·exact JD d _ y
theorem Inv.turns {h':Heap} {t':Nat} {ch:List aA} (I:Inv X pins σ H s) (hch:∀ b ∈ ch,pA X pins H b) (keep:∀ b ob,b ∉ ch->s.heap.get? b=some ob->h'.get? b=some ob):Inv X pins σ H { s with heap:=h',toks:=t' }:=by
 have JD:∀ b u,H b=some u->b ∉ ch:=fun b u e z=>by rw [(hch b z).1] at e; cases e
 refine I.call (ch:=ch) (g':=s.gens) (d':=s.drawn) ⟨fun b ob e _ _ hx=>keep b ob hx e,fun b ob e _ _ hx=>⟨ob.slots,keep b ob hx e⟩,fun b ob e n hx=>n,fun b ob e hx=>⟨ob,keep b ob hx e⟩,fun b xs e=>e,fun b ob xs e=>e,fun b ps e=>⟨#[],by rw [e]; simp⟩⟩ (fun c u e=>?_) I.bare fun b hb=>⟨(hch b hb).2.2.2.1,(hch b hb).2.1,(hch b hb).2.2.2.2.1,(hch b hb).2.2.2.2.2⟩
 refine (I.hok c u e).stay (fun d v hd q=>keep d v ?_ q) (fun d q=>q) fun d xs q=>q
 rcases hd with y | y
 ·rw [y]; exact JD c u e
 ·exact JD d _ y
end
theorem QJ:2<=sizeLine:=by decide
section
variable {X:Cx}
theorem Kp {bs:List Bool} {us:List au} (r:Vals (bs.map V.bl) us) {i:Nat} {v:au} (h:us[i]?=some v):∃ b,bs[i]?=some b/\v=.bool b:=by
 cases q:bs[i]? with
 | none =>
  have z:=r.none_of (i:=i) (by rw [bG,q]; rfl);rw [h] at z; cases z
 | some b =>
  obtain ⟨u,hu,ru⟩:=r.get (i:=i) (x:=.bl b) (by rw [bG,q]; rfl);rw [h] at hu; cases hu;exact ⟨b,rfl,ru⟩
theorem all_range:∀ bs:List Bool,((List.range bs.length).all fun i=>(bs[i]?).getD true)=bs.all id
 | []=>rfl
 | b::bs=>by
  have ih:=all_range bs;simp only [length_cons,List.range_succ_eq_map,List.all_cons,all_map,List.getElem?_cons_zero,Option.getD_some];exact congrArg (b && ·) ih
theorem qZ (hc:X.calm=true):gK X (.builtin "all") (fun xs H Q=>∃ (p:aA) (bs:List Bool),xs=[.ref p]/\cY X.K H p (bs.map V.bl)/\Q (.bl (bs.all id)) H):=by
 intro pins s σ H xs us Q I r h;obtain ⟨p,bs,rfl,sq,q⟩:=h;obtain ⟨u,rfl,rx⟩:=Vals.one r;cases rx;obtain ⟨its,rv,pl,_⟩:=I.list sq;have lt:p < s.heap.objs.size:=by obtain ⟨o,e,_⟩:=pl.isList; exact Heap.lt_size e
 have len:its.length=bs.length:=by have:=rv.length; simpa using this.symm
 refine call_all_walk (wpAny_pyIter_list pl.isList ⟨_,[s.heap.objs.size,p],[s.heap.objs.size],its.toArray.size,_,_,fun i=>(bs[i]?).getD true,rfl,Walks.list (A:=X.A.in1) (I.ok.hd hc) _ p (Nat.ne_of_lt lt) its.toArray,⟨⟨_,aD _ rfl,rfl,rfl⟩,pl.isList.push _⟩,fun i v s' Q' E' hv hq=>?_,fun h' tk keep=>?_⟩)
 ·obtain ⟨b,hb,rfl⟩:=Kp rv (i:=i) (v:=v) (by simpa using hv);have hq:Q' ((bs[i]?).getD true) s':=hq;rw [hb] at hq;exact wpAny_truthy_bool hq
 ·rw [size_toArray,len,all_range];refine ⟨.bl _,H,I.kept (h':=h') (t':=tk) fun b o e=>keep b o ?_ (ao _ e),rfl,q⟩;rw [aL];exact Nat.ne_of_lt (Heap.lt_size e)
theorem Bl:gK X (.builtin "isinstance") (fun xs H Q=>∃ x c cv t b,xs=[x,c]/\(c=.ref cv/\kitOne X.K t (.ref cv)=some b)/\pO X.K H x t/\Q (.bl b) H):=by
 intro pins s σ H xs us Q I r h;obtain ⟨x,c,cv,t,b,rfl,⟨rfl,e⟩,ty,q⟩:=h;obtain ⟨u,v,rfl,rx,rc⟩:=Vals.two r;cases rc;exact xP I rx ty e fun tk=>⟨.bl b,H,I.tok tk,rfl,q⟩
theorem zj:gK X (.builtin "isinstance") (fun xs H Q=>∃ x T t b,xs=[x,.ty T]/\kitOne X.K t (.type T)=some b/\pO X.K H x t/\Q (.bl b) H):=by
 intro pins s σ H xs us Q I r h;obtain ⟨x,T,t,b,rfl,e,ty,q⟩:=h;obtain ⟨u,v,rfl,rx,rc⟩:=Vals.two r;cases rc;exact xP I rx ty e fun tk=>⟨.bl b,H,I.tok tk,rfl,q⟩
end
section
variable {X:Cx}
end
section
variable {P:bT} {w:World} {K:Fg} {mg:Str->Option au} {base:Heap} {x qual:Str} {st:cQ} {f:aA} {fd:dN} {N ps:List Str} {k:Nat} {sp:Sp}
theorem oK.pR (F:oK K x qual st f fd) (S:bV N ps (aZ st)) (len:∀ vs H Q E,sp vs H Q E->vs.length=ps.length) (body:∀ (cdv:au) (A:cL) (outer:List Env) (s:aG) (H:Hp) (vs:List V) (Q:VK) (E:XK),d7 k (A.deeper (envOfC qual (aZ st) s.heap.objs.size f cdv))->sp vs H Q E -> ∃ t,Dh (qx (eZ P w) P w K mg base N qual (aZ st) f cdv A outer s H E) (gD st) t/\t { nx:=fun _ H'=>Q .non H',rt:=Q } (start N vs) H):cC P w K mg base (eZ P w) (k + 1) f fd ps sp:=by
 obtain ⟨oc,od,kV,doc,pm,an,cdv,ct,osl,rfl,lk,hcd⟩:=F.ex;exact Tr lk hcd S len fun A outer s H vs Q E hr h=>body cdv A outer s H vs Q E hr h
theorem oK.okH (F:oK K x qual st f fd) (S:bV N ps (aZ st)) (len:∀ vs H Q E,sp vs H Q E->vs.length=ps.length) (body:∀ (cdv:au) (A:cL) (outer:List Env) (s:aG) (H:Hp) (vs:List V) (Q:VK) (E:XK),gY k (A.deeper (envOfC qual (aZ st) s.heap.objs.size f cdv))->sp vs H Q E -> ∃ t,Dh (Gk (eZ P w) P w K mg base N qual (aZ st) f cdv A outer s H E) (gD st) t/\t { nx:=fun _ H'=>Q .non H',rt:=Q } (start N vs) H):mJ P w K mg base (eZ P w) (k + 1) f fd ps sp:=by
 obtain ⟨oc,od,kV,doc,pm,an,cdv,ct,osl,rfl,lk,hcd⟩:=F.ex;exact ZC lk hcd S len fun A outer s H vs Q E hr h=>body cdv A outer s H vs Q E hr h
end
theorem Gn {X:Cx} {x:Str} {T:String} {pos:Pos} (hg:Gl X x) (hm:X.mg x=none) (hv:bootBuiltins x=some (.type T)) (hn:autoParam (x≠"__name__") zau1) (hd:autoParam ((x == ("__debug__":Str))=false) zau1):PE X (.Name x pos) (tC (.ty T)) := Ql hg hm hv rfl hn hd
def Its (x:Str):It:=⟨fun i _=>i < x.cps.size,fun i H v H'=>H'=H/\∃ c,x.cps[i]?=some c/\v=.str ⟨#[c]⟩,fun i _=>i=x.cps.size⟩
theorem Bm {P:bT} {w:World} {K:Fg} {n ty:Str} {np:Pos} {k:String} (x:Str) (t:Tok) (it:aA) (W:∀ A:cL,A.handled=none->Walks P w A it [it] [it] x.cps.size (SignAt x) (fun i h=>h.IsStrIter it k x t i)) (self:∀ (A:cL) (i:Nat) (s:aG) (Q:au->aG->Prop) (E:au->aG->Prop),s.heap.IsStrIter it k x t i->Q (.ref it) s->wpAny (model P w) A (pyIter (.ref it)) Q E s) : Turn P w K (.Name n np) (Its x) [it] it (fun i h=>h.IsStrIter it k x t i) where
 mem:=by simp
 obj:=fun i h st b hb=>by
  obtain ⟨o,e,c,d⟩:=st;rw [aL.mp hb];exact ⟨o,e,fun v z=>by rw [d] at z; cases z⟩
 keep:=fun i h h' st kp=>by
  obtain ⟨o,e,r⟩:=st;exact ⟨o,kp it (by simp) o e,r⟩
 item:=by
  intro X hP hw hK hc i pins s σ H E I hf st go;subst hP hw hK;obtain ⟨f0,f1,f2,f3,f4,f5⟩:=hf it (by simp);refine (W X.A (I.ok.hd hc)).item i s _ _ go st fun v h' tk sg st' kk=>?_
  obtain ⟨c,u,hx,rfl⟩:=sg;have I1:Inv X pins σ H { s with heap:=h',toks:=tk }:=I.turned (fun b o hb e=>kk b o (by simpa using hb) e) f0 f1 f3 f4 f5;exact ⟨_,rfl,ak ⟨.str ⟨#[c]⟩,H,I1,⟨u,rfl⟩,⟨rfl,c,hx,rfl⟩,st',fun b hb=>(hf b hb).1⟩⟩
 done:=by
  intro X hP hw hK hc i pins s σ H E I hf st stop;subst hP hw hK;have e:i=x.cps.size:=stop;subst e;obtain ⟨f0,f1,f2,f3,f4,f5⟩:=hf it (by simp);exact (W X.A (I.ok.hd hc)).done s _ _ st fun h' tk kk=>⟨rfl,I.turned (fun b o hb e=>kk b o (by simpa using hb) e) f0 f1 f3 f4 f5⟩
 self:=fun A i s Q E st h=>self A i s Q E st h
section
variable {X:Cx}
def ai0 (tl:TE):TI:=fun σ H R=>tl σ H fun v H1=>∃ x,v=.str x/\R (Its x) H1
theorem DN {n:Str} {np:Pos} {l:Expr} {tl:TE} (hl:PE X l tl):PI X (.Name n np) l (ai0 tl):=by
 intro pins s σ H R I h;refine dX (hl pins s σ H _ I h) fun v a ⟨y,H1,I1,r1,x,e,q⟩=>?_
 subst e;obtain ⟨t,rfl⟩:=r1;have I2:∀ o,Inv X pins σ H1 { a with heap:=a.heap.push o }:=fun o=>I1.kept (t':=a.toks) fun b ob e=>ao _ e
 have fp:∀ b ∈ [a.heap.objs.size],pA X pins H1 b:=fun b hb=>by
  rw [aL.mp hb];exact I1.Qp (aH _) (I1.hok.fresh (aH _))
 cases ha:x.cps.all (· < 128) with
 | false=>exact wpAny_pyIter_wide ha ⟨_,[a.heap.objs.size],_,_,H1,rfl,I2 _,Bm (ty:=n) x t _ (fun A hA=>Walks.strWide hA _ x t) (fun A i s Q E st q=>wpAny_pyIter_striter_wide st q),⟨_,aD _ rfl,rfl,rfl⟩,fp,q⟩
 | true=>exact wpAny_pyIter_ascii ha ⟨_,[a.heap.objs.size],_,_,H1,rfl,I2 _,Bm (ty:=n) x t _ (fun A hA=>Walks.strAscii hA _ x t) (fun A i s Q E st q=>wpAny_pyIter_striter_ascii st q),⟨_,aD _ rfl,rfl,rfl⟩,fp,q⟩
theorem oN:pI X (compareOp .LtE) (fun x y H Q=>∃ i j,x=.str i/\y=.str j/\Q (.bl (!decide (j.cps.toList < i.cps.toList))) H):=by
 intro pins s σ H x y v u Q I rx ry h;obtain ⟨i,j,rfl,rfl,q⟩:=h;obtain ⟨t,rfl⟩:=rx;obtain ⟨t',rfl⟩:=ry;exact PySem.P.le_str ⟨.bl _,H,I,rfl,q⟩
end
structure QK (K:Fg) (C:aA):Prop where
 ga:findIn K (.ref C) "__getattribute__"=some (some (.builtin "BaseException.__getattribute__"))
 hk:findIn K (.ref C) "__getattr__"=some none
 cls:(clsIn K C).isSome=true
 at_:findIn K (.ref C) "__class__"=some (some (.builtin "object.__class__"))
 gt:specialIn K (.builtin "object.__class__") "__get__"=some (some (.builtin "getset_descriptor.__get__"))
 tk:takesIn K (.builtin "object.__class__")=some true
 ob:mroIn K C (.type "object")=some true
 be:subIn K (.ref C) (.type "BaseException")=some true
section
variable {prog:bT} {w:World} {A:cL} {E:au->aG->Prop} {s:aG} {K:Fg} {e C:aA} {oe:Obj} {od:Option Obj}
theorem Ik {tk:Tok} {Q:Fin->aG->Prop} (k:K.In s.heap) (t:QK K C) (I:InstAt s.heap e oe C od) (h:Q (.done (.ret (.ref C))) s) : wpAny (model prog w) A (Builtin.«object.__getattribute__» ⟨[.ref e,.str "__class__" tk],[]⟩) Q E s:=by
 obtain ⟨h0,g0,d0,tt,o0⟩:=s;have ht:=I.type (M:=model prog w);have hf:findObj K C od "__class__"=some (.bind (.builtin "getset_descriptor.__get__") (.builtin "object.__class__")) :=
  by obtain ⟨cd,hc⟩:=Option.isSome_iff_exists.mp t.cls; simp only [findObj,hc,Option.bind_some,t.at_,t.gt,t.tk]
 have lf:=looks_find (M:=model prog w) k I hf
 (unfold Builtin.«object.__getattribute__»; refine aj (ak (aj (ak (aj (ht.at (aj (lf.at ?_))))))))
 show wpAny _ _ (holding [Value.builtin "object.__class__"] (call (.builtin "getset_descriptor.__get__") [.builtin "object.__class__",.ref e,.ref C]) >>= ret) _ _ _
 refine aj (wpAny_holding (wpAny_call ?_));refine PySem.W.class_get (s:=⟨h0,g0,d0,tt,o0⟩) k I t.ob ?_
 show wpAny (model prog w) A (ret (Value.ref C)) Q E _
 exact ak h
theorem Il {Q:Option au->aG->Prop} (k:K.In s.heap) (t:QK K C) (I:InstAt s.heap e oe C od) (h:Q (some (.ref C)) { s with toks:=s.toks + 1 }) : wpAny (model prog w) A (getAttr? (.ref e) "__class__") Q E s:=by
 obtain ⟨h0,g0,d0,tt,o0⟩:=s;have ht:=I.type (M:=model prog w);have lg:=looks_findIn (M:=model prog w) k t.ga;have lk:=looks_findIn (M:=model prog w) k t.hk;have ZG:Looks (model prog w) h0 (isInstance (.ref e) (.type "BaseException")) true:=ht.andThen (looks_subIn k t.be)
 (unfold getAttr? getAttrBy? getAttrBy; refine aj (wpAny_mkText (aj (wpAny_attempt (wpAny_holding (aj (ht.at (aj (lg.at ?_)))))))))
 have no:(onTheHeap (Value.ref C) && Value.builtin "BaseException.__getattribute__" == Value.builtin "object.__getattribute__")=false:=by
  rw [show (Value.builtin "BaseException.__getattribute__" == Value.builtin "object.__getattribute__")=false by decide +kernel]; rfl
 dsimp only;rw [no,if_neg Bool.false_ne_true];unfold getAttrByItsOwn hookBefore;rw [if_pos (show onTheHeap (Value.ref C)=true from rfl)];refine aj (lk.at (aj (wpAny_attempt (wpAny_holding ?_))));unfold callGetattribute;rw [Bool.false_and,if_neg Bool.false_ne_true];unfold boundAndCalled;rw [(F.attr_ValueError).ga.bind];refine aj (ak ?_)
 show wpAny _ _ (call (.builtin "BaseException.__getattribute__") [.ref e,.str "__class__" tt]) _ _ _
 refine wpAny_call (codeAny_call_builtin (F.attr_ValueError).ga.plain F.entry_bexc_ga ?_);have hB:builtinKind "BaseException.__getattribute__"=some .slot:=by decide +kernel
 have hS:splitId "BaseException.__getattribute__"=some ("BaseException","__getattribute__"):=by decide +kernel
 have hA:=F.args_bexc_ga (.ref e) (.str "__class__" tt);refine @check_slot (model prog w) _ _ ⟨h0,g0,d0,tt + 1,o0⟩ _ _ _ (.ref e) [.str "__class__" tt] [] _ hB hS ZG hA ?_;refine Ik (s:=⟨h0,g0,d0,tt + 1,o0⟩) k t I ?_
 show wpAny (model prog w) A (handedOut (Value.ref C)) _ _ _
 exact handed_on rfl (ak h)
theorem QK.obj (t:QK K C):∃ c dd cd sl,K.lookup C=some ⟨c,dd,.cls cd,sl⟩:=by
 obtain ⟨cd,hc⟩:=Option.isSome_iff_exists.mp t.cls;unfold clsIn at hc
 split at hc
 ·rename_i c dd cd' sl q
  exact ⟨c,dd,cd',sl,q⟩
 ·cases hc
end
section
variable {X:Cx}
end
inductive Di (K:Fg) (H:Hp):Nat->V->V->Bool->Prop where
 | flat {n:Nat} {x y:V} (fx:ud x=true) (fy:ud y=true):Di K H n x y (eqV x y)
 | self {n:Nat} {a:aA}:Di K H n (.ref a) (.ref a) true
 | tup {n:Nat} {a b:aA} {xs ys:List V} {e:Nat->Bool} (ne:a≠b) (ha:tY K H a xs) (hb:tY K H b ys) (h:∀ (j:Nat) x y,xs[j]?=some x->ys[j]?=some y->Di K H n x y (e j)) : Di K H (n + 1) (.ref a) (.ref b) ((List.range (min xs.length ys.length)).all e && xs.length == ys.length)
 | lst {n:Nat} {a b:aA} {xs ys:List V} {e:Nat->Bool} (ne:a≠b) (ha:cY K H a xs) (hb:cY K H b ys) (len:xs.length=ys.length) (h:∀ (j:Nat) x y,xs[j]?=some x->ys[j]?=some y->Di K H n x y (e j)) : Di K H (n + 1) (.ref a) (.ref b) ((List.range xs.length).all e)
 | ai1 {n:Nat} {a b:aA} {xs ys:List V} (ne:a≠b) (ha:cY K H a xs) (hb:cY K H b ys) (len:xs.length≠ys.length):Di K H (n + 1) (.ref a) (.ref b) false
theorem Vals.item {xs:List V} {us:List au} (r:Vals xs us) {j:Nat} (h:j < us.toArray.size):∃ x,xs[j]?=some x/\RelV x us.toArray[j]:=by
 have h':j < us.length:=by simpa using h
 have hx:j < xs.length:=by rw [r.length]; exact h'
 obtain ⟨u,e1,e2⟩:=r.get (aR hx);refine ⟨_,aR hx,?_⟩;rw [aR h'] at e1;cases e1;simpa using e2
theorem Di.at_ {X:Cx} {pins:List (aA × Obj)} {σ:St} {H:Hp} {s:aG} (I:Inv X pins σ H s) {n:Nat} {x y:V} {b:Bool} (d:Di X.K H n x y b) : ∀ (A:cL) (u v:au),A.units + n < cLine->RelV x u->RelV y v->SeqAt.EqAt A s u v b:=by
 induction d with
 | flat fx fy=>exact fun A u v _ ru rv=>Zo ru rv fx fy
 | self =>
  intro A u v _ ru rv;cases ru;cases rv;exact SeqAt.EqAt.same _
 | tup ne ha hb _ ih =>
  intro A u v hu ru rv;cases ru;cases rv;obtain ⟨us,r1,p1,_⟩:=I.tuple ha;obtain ⟨vs,r2,p2,_⟩:=I.tuple hb;have w:=SeqAt.RcAt.tuples (A:=A) p1 p2 (by omega) fun j h1 h2=>by
   obtain ⟨x,ex,rx⟩:=r1.item h1;obtain ⟨y,ey,ry⟩:=r2.item h2;exact ih j x y ex ey A.in1 _ _ (by rw [show ∀ A:cL,A.in1.units=A.units + 1 from fun _=>rfl]; omega) rx ry
  rw [size_toArray,size_toArray,<- r1.length,<- r2.length] at w;exact SeqAt.EqAt.of_refs ne w
 | lst ne ha hb len _ ih =>
  intro A u v hu ru rv;cases ru;cases rv;obtain ⟨us,r1,p1,_⟩:=I.list ha;obtain ⟨vs,r2,p2,_⟩:=I.list hb;have w:=SeqAt.RcAt.lists (A:=A) p1.isList p2.isList (by rw [size_toArray,size_toArray,<- r1.length,<- r2.length,len]) (by omega) fun j h1 h2=>by
   obtain ⟨x,ex,rx⟩:=r1.item h1;obtain ⟨y,ey,ry⟩:=r2.item h2;exact ih j x y ex ey A.in1 _ _ (by rw [show ∀ A:cL,A.in1.units=A.units + 1 from fun _=>rfl]; omega) rx ry
  rw [size_toArray,<- r1.length] at w;exact SeqAt.EqAt.of_refs ne w
 | ai1 ne ha hb len =>
  intro A u v hu ru rv;cases ru;cases rv;obtain ⟨us,r1,p1,_⟩:=I.list ha;obtain ⟨vs,r2,p2,_⟩:=I.list hb;refine SeqAt.EqAt.of_refs ne (SeqAt.RcAt.lists_lengths p1.isList p2.isList ?_ (by omega));rw [size_toArray,size_toArray,<- r1.length,<- r2.length];simpa using len
section
variable {X:Cx}
noncomputable def ai2 (K:Fg) (neg:Bool):R2:=fun x y H Q=>∃ a b xs ys n e,x=.ref a/\y=.ref b/\tY K H a xs/\tY K H b ys/\n<=50/\(∀ (j:Nat) x y,xs[j]?=some x->ys[j]?=some y->Di K H n x y (e j)) /\ Q (.bl (neg ^^ ((List.range (min xs.length ys.length)).all e && xs.length == ys.length))) H
theorem ai3 (hu:X.A.units + 64 < cLine):pI X (compareOp .Eq) (ai2 X.K false):=by
 intro pins s σ H x y v u Q I rx ry h;obtain ⟨a,b,xs,ys,n,e,rfl,rfl,ha,hb,hn,d,q⟩:=h;cases rx;cases ry;obtain ⟨us,r1,p1,_⟩:=I.tuple ha;obtain ⟨vs,r2,p2,_⟩:=I.tuple hb;have w:=SeqAt.RcAt.tuples (A:=X.A) (e:=e) p1 p2 (by omega) fun j h1 h2=>by
  obtain ⟨x,ex,rx⟩:=r1.item h1;obtain ⟨y,ey,ry⟩:=r2.item h2;exact (d j x y ex ey).at_ I X.A.in1 _ _ (by rw [show ∀ A:cL,A.in1.units=A.units + 1 from fun _=>rfl]; omega) rx ry
 rw [size_toArray,size_toArray,<- r1.length,<- r2.length] at w;rw [Bool.false_xor] at q;exact w X.prog X.w X.xe _ ⟨.bl _,H,I,rfl,q⟩
noncomputable def Kq (K:Fg) (neg:Bool):R2:=fun x y H Q=>∃ a b xs ys n e,x=.ref a/\y=.ref b/\cY K H a xs/\cY K H b ys/\n<=50/\(xs.length=ys.length->∀ (j:Nat) x y,xs[j]?=some x->ys[j]?=some y->Di K H n x y (e j)) /\ (xs.length=ys.length->Q (.bl (neg ^^ (List.range xs.length).all e)) H)/\(xs.length≠ys.length->Q (.bl neg) H)
theorem Kr (hu:X.A.units + 64 < cLine):pI X (compareOp .NotEq) (Kq X.K true):=by
 intro pins s σ H x y v u Q I rx ry h;obtain ⟨a,b,xs,ys,n,e,rfl,rfl,ha,hb,hn,d,q1,q2⟩:=h;cases rx;cases ry;obtain ⟨us,r1,p1,_⟩:=I.list ha;obtain ⟨vs,r2,p2,_⟩:=I.list hb
 by_cases len:xs.length=ys.length
 ·have w:=SeqAt.RcNeAt.lists (A:=X.A) (e:=e) p1.isList p2.isList (by rw [size_toArray,size_toArray,<- r1.length,<- r2.length,len]) (by omega) fun j h1 h2=>by
   obtain ⟨x,ex,rx⟩:=r1.item h1;obtain ⟨y,ey,ry⟩:=r2.item h2;exact (d len j x y ex ey).at_ I X.A.in1 _ _ (by rw [show ∀ A:cL,A.in1.units=A.units + 1 from fun _=>rfl]; omega) rx ry
  rw [size_toArray,<- r1.length] at w;have q:=q1 len;rw [Bool.true_xor] at q;exact w X.prog X.w X.xe _ ⟨.bl _,H,I,rfl,q⟩
 ·have w:=SeqAt.RcNeAt.lists_lengths (A:=X.A) p1.isList p2.isList (by rw [size_toArray,size_toArray,<- r1.length,<- r2.length]; simpa using len) (by omega);exact w X.prog X.w X.xe _ ⟨.bl _,H,I,rfl,q2 len⟩
end
end L2
namespace Tw
open PySem L2
inductive Kd where
 | non | bl | int | str | lst | tup | ins (C:aA)
def Kd.ty:Kd->au
 | .non=>.type "NoneType"
 | .bl=>.type "bool"
 | .int=>.type "int"
 | .str=>.type "str"
 | .lst=>.type "list"
 | .tup=>.type "tuple"
 | .ins C=>.ref C
inductive BT where
 | bool | int | str | list | tuple
def BT.nm:BT->String
 | .bool=>"bool" | .int=>"int" | .str=>"str" | .list=>"list" | .tuple=>"tuple"
def bi:Kd->BT->Bool
 | .bl,.bool=>true
 | .bl,.int=>true
 | .int,.int=>true
 | .str,.str=>true
 | .lst,.list=>true
 | .tup,.tuple=>true
 | _,_=>false
structure Bo (K:Fg) (C:aA):Prop where
 cl:Cls K C
 ha:findIn K (.ref C) "__class__"=some (some (.builtin "object.__class__"))
 hn:specialIn K (.builtin "object.__class__") "__get__"=some (some (.builtin "getset_descriptor.__get__"))
 htk:takesIn K (.builtin "object.__class__")=some true
 hm:mroIn K C (.type "object")=some true
 no:∀ b:BT,kitOne K (.ref C) (.type b.nm)=some false
noncomputable def eV (K:Fg) (H:Hp) (v:V):Kd->Prop
 | .non=>v=.non
 | .bl=>∃ b,v=.bl b
 | .int=>∃ i,v=.int i
 | .str=>∃ x,v=.str x
 | .lst=>∃ a xs,v=.ref a/\(H a=some (.lst xs)\/∃ o,H a=some (.Ai o (.lst xs)))
 | .tup=>∃ a xs,v=.ref a/\H a=some (.tup xs)
 | .ins C=>∃ a dx fs,v=.ref a/\H a=some (.ins C dx fs)/\Bo K C
theorem eV.tyOf {K:Fg} {H:Hp} {v:V} {k:Kd} (h:eV K H v k):pO K H v k.ty:=by
 cases k with
 | non=>cases h; exact .non
 | bl=>obtain ⟨b,rfl⟩:=h; exact .bl b
 | int=>obtain ⟨i,rfl⟩:=h; exact .int i
 | str=>obtain ⟨x,rfl⟩:=h; exact .str x
 | lst =>
  obtain ⟨a,xs,rfl,e | ⟨o,e⟩⟩:=h
  ·exact .lst e
  ·exact .Ai e
 | tup=>obtain ⟨a,xs,rfl,e⟩:=h; exact .tup e
 | ins C=>obtain ⟨a,dx,fs,rfl,e,t⟩:=h; exact .ins e t.cl t.ha t.hn t.htk t.hm
theorem eV.bi {K:Fg} {H:Hp} {v:V} {k:Kd} (h:eV K H v k) (b:BT):kitOne K k.ty (.type b.nm)=some (bi k b):=by
 cases k with
 | ins C=>obtain ⟨a,dx,fs,rfl,e,t⟩:=h; cases b <;> exact t.no _
 | _=>cases b <;> rfl
theorem eV.same {K:Fg} {H H':Hp} {v:V} {k:Kd} (h:eV K H v k) (s:Same H H'):eV K H' v k:=by
 cases k with
 | lst =>
  obtain ⟨a,xs,rfl,e | ⟨o,e⟩⟩:=h
  ·exact ⟨a,xs,rfl,.inl (s _ _ e)⟩
  ·exact ⟨a,xs,rfl,.inr ⟨o,s _ _ e⟩⟩
 | tup=>obtain ⟨a,xs,rfl,e⟩:=h; exact ⟨a,xs,rfl,s _ _ e⟩
 | ins C=>obtain ⟨a,dx,fs,rfl,e,t⟩:=h; exact ⟨a,dx,fs,rfl,s _ _ e,t⟩
 | _=>exact h
section
variable {X:Cx} {e:Expr} {te:TE} {p pos p2:Pos}
theorem Ks (b:BT):gK X (.builtin "isinstance") (fun xs H Q=>∃ v k,xs=[v,.ty b.nm]/\eV X.K H v k/\Q (.bl (bi k b)) H):=by
 intro pins s σ H xs us Q I r h;obtain ⟨v,k,rfl,hk,q⟩:=h;exact zj pins s σ H _ us Q I r ⟨v,b.nm,k.ty,bi k b,rfl,hk.bi b,hk.tyOf,q⟩
theorem Ku:gK X (.builtin "isinstance") (fun xs H Q=>∃ v k C b,xs=[v,.ref C]/\eV X.K H v k/\kitOne X.K k.ty (.ref C)=some b/\Q (.bl b) H):=by
 intro pins s σ H xs us Q I r h;obtain ⟨v,k,C,b,rfl,hk,e,q⟩:=h;exact Bl pins s σ H _ us Q I r ⟨v,.ref C,C,k.ty,b,rfl,⟨rfl,e⟩,hk.tyOf,q⟩
theorem zp {x:Str} (b:BT) (hi:X.mg "isinstance"=none) (hx:X.mg x=none) (he:PE X e te) (hg:autoParam (Gl X "isinstance") zau0) (hgx:autoParam (Gl X x) zau0) (hv:autoParam (bootBuiltins x=some (.type b.nm)) zau4) (hn:autoParam (x≠"__name__") zau1) (hd:autoParam ((x == ("__debug__":Str))=false) zau1) (h1:autoParam (starEach [e,.Name x p2] X.env=(false,eval e X.env)::starEach [.Name x p2] X.env) zau0) (h2:autoParam ((backTo pos (starEach [.Name x p2] X.env)).any (·.1)=false) zau0) (h3:autoParam (starEach [.Name x p2] X.env=(false,eval (.Name x p2) X.env)::starEach [] X.env) zau0) : PE X (.Call (.Name "isinstance" p) [e,.Name x p2] [] pos) (tCB (fun xs H Q=>∃ v k,xs=[v,.ty b.nm]/\eV X.K H v k/\Q (.bl (bi k b)) H) (Aq te (Aq (tC (.ty b.nm)) JR))) := vf (X:=X) (p:=p) (pos:=pos) (Ks b) hg hi boot_isinstance (aB he (aB (Gn (T:=b.nm) (pos:=p2) hgx hx hv hn hd) aJ h3) h1) (by decide) (by decide) h1 h2
theorem ZJ {x:Str} {C:aA} (hi:X.mg "isinstance"=none) (hx:X.mg x=some (.ref C)) (he:PE X e te) (hg:autoParam (Gl X "isinstance") zau0) (hgx:autoParam (Gl X x) zau0) (hd:autoParam ((x == ("__debug__":Str))=false) zau1) (h1:autoParam (starEach [e,.Name x p2] X.env=(false,eval e X.env)::starEach [.Name x p2] X.env) zau0) (h2:autoParam ((backTo pos (starEach [.Name x p2] X.env)).any (·.1)=false) zau0) (h3:autoParam (starEach [.Name x p2] X.env=(false,eval (.Name x p2) X.env)::starEach [] X.env) zau0) : PE X (.Call (.Name "isinstance" p) [e,.Name x p2] [] pos) (tCB (fun xs H Q=>∃ v k C b,xs=[v,.ref C]/\eV X.K H v k/\kitOne X.K k.ty (.ref C)=some b/\Q (.bl b) H) (Aq te (Aq (tC (.ref C)) JR))) := vf (X:=X) (p:=p) (pos:=pos) Ku hg hi boot_isinstance (aB he (aB (Ga (v:=.ref C) (pos:=p2) hgx hx rfl hd) aJ h3) h1) (by decide) (by decide) h1 h2
theorem zq {D:aA} {J:It} {σ0:St} {g:TG} {te:TE} {Qe:Hp->Prop} {H1:Hp} (n:Nat) (hn:n<=sizeLine) (y:Nat->V) (Pv:Nat->Hp->Prop) (start:Pv 0 (upd H1 D (.lst []))) (at_:∀ i H,i<=n->Pv i H->H D=some (.lst ((List.range i).map y))) (stop:∀ H,Pv n H->J.stop n H/\Qe H) (go:∀ i H,i < n->Pv i H->J.go i H/\∀ x H',J.Jx i H x H'->∀ Qc:VK,(∀ H3,H3 D=some (.lst ((List.range i).map y))->Pv (i + 1) (upd H3 D (.lst ((List.range (i + 1)).map y)))->Qc (y i) H3)->g x σ0 H' fun σ2 H2=>mF σ0 σ2/\te σ2 H2 Qc) : ∃ W:Nat->Nat->List V->Hp->Prop,(∃ m,W 0 m [] (upd H1 D (.lst [])))/\pJ D J σ0 g Ie te Qe W:=by
 refine ⟨fun i m ac H=>i<=n/\m=n - i/\ac=(List.range i).map y/\Pv i H,⟨n,dD _,rfl,rfl,start⟩,?_⟩;rintro i m ac H ⟨le,rfl,rfl,p⟩;refine ⟨at_ i H le p,?_⟩
 by_cases lt:i < n
 ·obtain ⟨g1,step⟩:=go i H lt p;refine .inr ⟨g1,by rw [aq,length_range]; exact aU lt hn,fun x H' yl=>?_⟩;simp only [Ie,if_true];refine step x H' yl _ fun H3 hD nx=>?_
  have e:(List.range i).map y++[y i]=(List.range (i + 1)).map y:=by rw [List.range_succ,aW]; rfl
  exact ⟨hD,n - (i + 1),by omega,lt,rfl,e,by rw [e]; exact nx⟩
 ·have e:i=n:=by omega
  subst e;exact .inl (stop H p)
theorem aQ {H:Hp} {D:aA} {o:HO} (h:H D=none):Same H (upd H D o):=fun b u e=>by rw [bx (cZ e h)]; exact e
theorem fK {x:Str} {id:String} {r:List V->Hp->VK->Prop} {es:List Expr} {t:TA} (hc:gK X (.builtin id) r) (hm:X.mg x=none) (hv:bootBuiltins x=some (.builtin id)) (ha:PA X (e::es) t) (hg:autoParam (Gl X x) zau0) (hn:autoParam (x≠"__name__") zau1) (hdb:autoParam ((x == ("__debug__":Str))=false) zau1) (he:autoParam (starEach (e::es) X.env=(false,eval e X.env)::starEach es X.env) zau0) (hpl:autoParam ((backTo pos (starEach es X.env)).any (·.1)=false) zau0):PE X (.Call (.Name x p) (e::es) [] pos) (tCB r t):=vf hc hg hm hv ha hn hdb he hpl
theorem mK {x:Str} {u:au} (v:V) (hm:X.mg x=some u) (r:RelV v u) (hg:autoParam (Gl X x) zau0) (hd:autoParam ((x == ("__debug__":Str))=false) zau1):PE X (.Name x pos) (tC v):=Ga hg hm r hd
theorem fj (i:Nat) {x:Str} (hN:X.N.Nodup) (hi:autoParam (X.N[i]?=some x) zau0) (hx:Loc X.env.scope x:=by exact Or.inl rfl) (hf:X.fn x=true\/X.env.scope.names.lookup x=some .local:=by first | exact .inl rfl | exact .inr rfl):PG X (.Name x pos) (Gb i):=Qo hN hi hx hf
end
structure aek (K:Fg) (C:aA) (m:Str) (f:aA):Prop where
 rd:readsIn K C (.type "type")=true
 ga:specialIn K (.ref C) "__getattribute__"=some (some (.builtin "type.__getattribute__"))
 at_:findCls K (.ref C) (.type "type") m=some (.val (.ref f))
 kp:keepIn K (.ref f)=true
section
variable {X:Cx} {CX:wX} {k:Nat} {f C:aA} {fd:dN} {ps:List Str} {sp:Sp} {oJ:List V} {ds:List au} {E:XK} {x m:Str} {p pos apos:Pos} {e o:Expr} {es:List Expr} {ta:TE} {t:TA}
theorem dH (F:cC X.prog X.w X.K X.mg X.base CX k f fd ps sp) (hr:d7 k X.A) (hm:X.mg x=some (.ref f)) (hk:keepIn X.K (.ref f)=true) (hb:Binds X.K fd ps []) (hx:Passes CX X E) (ha:PA X (e::es) t) (hg:autoParam (Gl X x) zau0) (hdb:autoParam ((x == ("__debug__":Str))=false) zau1) (he:autoParam (starEach (e::es) X.env=(false,eval e X.env)::starEach es X.env) zau0) (hpl:autoParam ((backTo pos (starEach es X.env)).any (·.1)=false) zau0) : PE X (.Call (.Name x p) (e::es) [] pos) (Gh sp [] E t):=Qs F hr hg hm hk hb .nil hx ha hdb he hpl
theorem TF (M:Mk X.K C f) (F:cC X.prog X.w X.K X.mg X.base CX k f fd ps sp) (hr:d7 (k + 1) X.A) (hm:X.mg x=some (.ref C)) (hb:Binds X.K fd ps []) (hx:Passes CX X E) (ha:PA X (e::es) t) (hg:autoParam (Gl X x) zau0) (hdb:autoParam ((x == ("__debug__":Str))=false) zau1) (he:autoParam (starEach (e::es) X.env=(false,eval e X.env)::starEach es X.env) zau0) (hpl:autoParam ((backTo pos (starEach es X.env)).any (·.1)=false) zau0) : PE X (.Call (.Name x p) (e::es) [] pos) (JT C sp [] E t):=Qt M F hr hg hm hb .nil hx ha hdb he hpl
theorem QL {pl:Sem Bool} (hx:X.mg x=some (.ref C)) (hm:aek X.K C m f) (F:cC X.prog X.w X.K X.mg X.base CX k f fd ps sp) (hr:d7 k X.A) (hb:Binds X.K fd ps []) (hp:Passes CX X E) (ha:PA X (e::es) t) (hg:autoParam (Gl X x) zau0) (hdb:autoParam ((x == ("__debug__":Str))=false) zau1) (hst:autoParam (starEach (e::es) X.env=(false,eval e X.env)::starEach es X.env) zau0) (hpl:autoParam ((backTo pos (starEach es X.env)).any (·.1)=false) zau0) (ht:autoParam (eval (.Call (.Attribute (.Name x p) m apos) (e::es) [] pos) X.env=(do
   let ov <- eval (.Name x p) X.env
   standAt apos.atName
   let (f,first) <- holding [ov] (getMethod ov m pl)
   callWith pos f first (backTo pos (starEach (e::es) X.env)) (backToKw pos (keywordEach [] X.env)))) zau0) :
  PE X (.Call (.Attribute (.Name x p) m apos) (e::es) [] pos) (Gh sp [] E t):=by
 intro pins s σ H Q I h;refine methodCall_KW (pl:=pl) (gF I hg hx ?_ hdb) ht;refine method_cls I.jM hm.ga (cls_value I.jM hm.rd hm.at_ rfl ?_);have I1:=I.tok (s.toks + 1);refine callWith_K (h₀:=X.base) I.ok.mod.wW hm.kp (dX (ha pos pins _ σ H _ I1 h) fun us s2 ⟨vs,H2,I2,r,q2⟩=>⟨I2.jM,?_⟩) hst hpl;exact vd F hr hb .nil hp I2 r q2
noncomputable def Kv (Cs:aA->Prop) (m:Str) (sp:aA->Sp) (E:XK) (ta:TE) (t:TA):TE:=fun σ H Q=>ta σ H fun x H1=>∃ a C dx fs,x=.ref a/\H1 a=some (.ins C dx fs)/\Cs C/\fs.lookup m=none/\t σ H1 fun vs H2=>sp C (x::vs) H2 Q E
theorem Kw {pl:Sem Bool} {sp:aA->Sp} {Cs:aA->Prop} (he:PE X o ta) (hr:d7 k X.A) (hC:∀ C,Cs C->∃ f fd,Cls X.K C/\Meth X.K C m f/\cC X.prog X.w X.K X.mg X.base CX k f fd ps (sp C)/\Binds X.K fd ps []) (hx:Passes CX X E) (ha:PA X (e::es) t) (hst:autoParam (starEach (e::es) X.env=(false,eval e X.env)::starEach es X.env) zau0) (hpl:autoParam ((backTo pos (starEach es X.env)).any (·.1)=false) zau0) (ht:autoParam (eval (.Call (.Attribute o m apos) (e::es) [] pos) X.env=(do
   let ov <- eval o X.env
   standAt apos.atName
   let (f,first) <- holding [ov] (getMethod ov m pl)
   callWith pos f first (backTo pos (starEach (e::es) X.env)) (backToKw pos (keywordEach [] X.env)))) zau0) :
  PE X (.Call (.Attribute o m apos) (e::es) [] pos) (Kv Cs m sp E ta t):=by
 intro pins s σ H Q I h;refine methodCall_KW (pl:=pl) (dX (he pins s σ H _ I h) fun u s1 ⟨x,H1,I1,rx,a,C,dx,fs,ex,ea,cs,l,q⟩=>?_) ht;subst ex;obtain rfl:u=Value.ref a:=rx;obtain ⟨f,fd,c,hm,F,hb⟩:=hC C cs;refine lM I1 ea c hm l ?_;refine callWith_K (first:=[.ref a]) (h₀:=X.base) I.ok.mod.wW hm.kp (dX (ha pos pins s1 σ H1 _ I1 q) fun us s2 ⟨vs,H2,I2,r,q2⟩=>⟨I2.jM,?_⟩) hst hpl;have:=vd (us:=.ref a::us) (vs:=.ref a::vs) (oJ:=[]) (ds:=[]) (Q:=Q) F hr hb .nil hx I2 (.cons rfl r) (by rw [cN]; exact q2);exact this
theorem Ky (K:Fg) {fl:Str} (he:PE X o ta) (hK:autoParam (X.K=K) zau0) (hb:autoParam (attributeBase o fl X.env (eval o X.env)=eval o X.env) zau0):PE X (.Attribute o fl pos) (ad0 K ta fl):=by
 subst hK;exact fP he hb
end
theorem vC {D:aA} {J:It} {σ0:St} {g:TG} {te:TE} {Qe:Hp->Prop} {H1:Hp} (n:Nat) (hn:n<=sizeLine) (Pv:Nat->List V->Hp->Prop) (start:Pv 0 [] (upd H1 D (.lst []))) (at_:∀ i acc H,i<=n->Pv i acc H->acc.length=i/\H D=some (.lst acc)) (stop:∀ acc H,Pv n acc H->J.stop n H/\Qe H) (go:∀ i acc H,i < n->Pv i acc H->J.go i H/\∀ x H',J.Jx i H x H'->∀ Qc:VK,(∀ v H3,H3 D=some (.lst acc)->Pv (i + 1) (acc++[v]) (upd H3 D (.lst (acc++[v])))->Qc v H3)->g x σ0 H' fun σ2 H2=>mF σ0 σ2/\te σ2 H2 Qc) : ∃ W:Nat->Nat->List V->Hp->Prop,(∃ m,W 0 m [] (upd H1 D (.lst [])))/\pJ D J σ0 g Ie te Qe W:=by
 refine ⟨fun i m ac H=>i<=n/\m=n - i/\Pv i ac H,⟨n,dD _,rfl,start⟩,?_⟩;rintro i m ac H ⟨le,rfl,p⟩;obtain ⟨la,hD⟩:=at_ i ac H le p;refine ⟨hD,?_⟩
 by_cases lt:i < n
 ·obtain ⟨g1,step⟩:=go i ac H lt p;refine .inr ⟨g1,by rw [la]; exact aU lt hn,fun x H' yl=>?_⟩;simp only [Ie,if_true];refine step x H' yl _ fun v H3 hD nx=>?_
  exact ⟨hD,n - (i + 1),by omega,lt,rfl,nx⟩
 ·have e:i=n:=by omega
  subst e;exact .inl (stop ac H p)
theorem zu {D:aA} {J:It} {σ0:St} {g:TG} {tc:TT} {te:TE} {Qe:Hp->Prop} {H1:Hp} (n:Nat) (hn:n<=sizeLine) (Pv:Nat->List V->Hp->Prop) (start:Pv 0 [] (upd H1 D (.lst []))) (at_:∀ i acc H,i<=n->Pv i acc H->acc.length<=i/\H D=some (.lst acc)) (stop:∀ acc H,Pv n acc H->J.stop n H/\Qe H) (go:∀ i acc H,i < n->Pv i acc H->J.go i H/\∀ x H',J.Jx i H x H'->∀ (Qc:VK) (Qn:Hp->Prop),(∀ v H3,H3 D=some (.lst acc)->Pv (i + 1) (acc++[v]) (upd H3 D (.lst (acc++[v])))->Qc v H3)->(∀ H3,Pv (i + 1) acc H3->Qn H3) -> g x σ0 H' fun σ2 H2=>mF σ0 σ2/\tc σ2 H2 fun b H3=>if b=true then te σ2 H3 Qc else Qn H3) : ∃ W:Nat->Nat->List V->Hp->Prop,(∃ m,W 0 m [] (upd H1 D (.lst [])))/\pJ D J σ0 g tc te Qe W:=by
 refine ⟨fun i m ac H=>i<=n/\m=n - i/\Pv i ac H,⟨n,dD _,rfl,start⟩,?_⟩;rintro i m ac H ⟨le,rfl,p⟩;obtain ⟨la,hD⟩:=at_ i ac H le p;refine ⟨hD,?_⟩
 by_cases lt:i < n
 ·obtain ⟨g1,step⟩:=go i ac H lt p;refine .inr ⟨g1,Nat.lt_of_le_of_lt la (aU lt hn),fun x H' yl=>?_⟩;exact step x H' yl _ _ (fun v H3 hD nx=>⟨hD,n - (i + 1),by omega,lt,rfl,nx⟩) (fun H3 nx=>⟨n - (i + 1),by omega,lt,rfl,nx⟩)
 ·have e:i=n:=by omega
  subst e;exact .inl (stop ac H p)
theorem oO {X:Cx} {scope:Scope} {cl:List (Str × aA)} {N':List Str} (cap:List (Option Nat)) (N:List Str) (sn rn:List (Str × NameKind)) (ks:List Str) (kind:scope.kind=.function) (Dz:∀ y ∈ scope.names,y.2≠.cell) (names:∀ y ∈ scope.names,y.2=.local->scope.names.lookup y.1=some .local) (clos:closureFor scope X.env=pure cl) (sub:∀ p ∈ cl,X.env.cells.lookup p.1=some p.2) (hN:X.N=N) (hs:X.env.scope.names=sn) (rel:(relabel scope X.env).names=rn) (hk:cl.map (·.1)=ks) (has:∀ y ∈ rn,(y.2=.cell\/y.2=.free)->y.1 ∈ ks) (len:cap.length=N'.length) (cp:∀ p ∈ cap.zip N',∀ j,p.1=some j->N[j]?=some p.2/\sn.lookup p.2=some .cell/\rn.lookup p.2=some .cell):eU X scope cl N' cap:=by
 refine ⟨kind,Dz,names,clos,fun n c h=>?_,fun n h=>?_,len,fun i j x h1 h2=>?_⟩
 ·exact sub (n,c) (PySem.mem_of_lookup h)
 ·rw [rel] at h;have hm:n ∈ cl.map (·.1):=by
   rw [hk];rcases h with h | h
   ·exact has _ (PySem.mem_of_lookup h) (.inl rfl)
   ·exact has _ (PySem.mem_of_lookup h) (.inr rfl)
  obtain ⟨p,hp,rfl⟩:=bJ.mp hm;cases e:cl.lookup p.1 with
  | some c=>exact ⟨c,rfl⟩
  | none =>
   rw [List.lookup_eq_none_iff] at e;exact absurd (beq_self_eq_true p.1) (by have:=e p hp; simpa using this)
 ·rw [hN,hs,rel];refine cp (some j,x) ?_ j rfl;rw [mem_iff_getElem?];exact ⟨i,by rw [List.getElem?_zip_eq_some]; exact ⟨h1,h2⟩⟩
theorem iI {r:St} {x:Option V}:mF (none::r) ((none::r).set 0 x):=by
 intro j v h;cases j with
 | zero=>simp at h
 | succ j=>exact h
theorem fC {α β:Type} {R:α->β->Prop}:∀ {xs:List α} {ys:List β} {i:Nat} {x:α},Paired R xs ys->xs[i]?=some x->∃ y,ys[i]?=some y/\R x y
 | _,_,_,_,.nil,e=>by simp at e
 | _,_,0,_,.cons r _,e=>by simp at e; subst e; exact ⟨_,rfl,r⟩
 | _,_,i + 1,_,.cons _ t,e=>fC (i:=i) t (by simpa using e)
theorem take_snoc {α:Type} {xs:List α} {i:Nat} {x:α} (h:xs[i]?=some x):xs.take (i + 1)=xs.take i++[x]:=by
 rw [List.take_add_one,h]; rfl
theorem Kz {x:V} (h:ud x=true):eqV x x=true:=by
 cases x <;> first | rfl | (simp [eqV]; done) | exact absurd h (by simp [ud])
end Tw
namespace L2
open PySem PySem.Spec PyProof.Rows
section
variable {X:Cx} {pos:Pos}
end
noncomputable def ZK:Expr->Option V
 | .Constant (.int n) _ _=>some (V.int n)
 | .Constant (.str z) _ _=>some (V.str z)
 | .Constant (.bool b) _ _=>some (.bl b)
 | .Constant .none _ _=>some .non
 | .UnaryOp .USub (.Constant (.int n) _ _) _=>some (V.int (-n))
 | _=>none
def TJ:List Expr->Option (List V)
 | []=>some []
 | e::es=>(ZK e).bind fun v=>(TJ es).map fun vs=>v::vs
section
variable {X:Cx}
theorem ZL {e:Expr} {es:List Expr} {v:V} (h:ZK e=some v):PE X e (tC v)/\starEach (e::es) X.env=(false,eval e X.env)::starEach es X.env:=by
 unfold ZK at h
 split at h
 ·cases h; exact ⟨aY,rfl⟩
 ·cases h; exact ⟨bQ,rfl⟩
 ·cases h; exact ⟨pH,rfl⟩
 ·cases h; exact ⟨Y9,rfl⟩
 ·cases h;refine ⟨fun pins s σ H Q I q=>?_,rfl⟩;exact Tj JK aY pins s σ H Q I ⟨_,rfl,q⟩
 ·cases h
def ael (vs:List V):TA:=fun _ H Q=>Q vs H
theorem cR (vs:List V) {es:List Expr} (h:TJ es=some vs):PA X es (ael vs):=by
 induction es generalizing vs with
 | nil =>
  cases h;exact fun pos pins s σ H Q I q=>aJ pos pins s σ H Q I q
 | cons e es ih =>
  obtain ⟨v,hv,h⟩:=Option.bind_eq_some_iff.mp h;obtain ⟨ws,hw,rfl⟩:=bB.mp h;obtain ⟨p,st⟩:=ZL (X:=X) (es:=es) hv;exact fun pos pins s σ H Q I q=>aB p (ih ws hw) st pos pins s σ H Q I q
end
section
variable {prog:bT} {w:World} {A:cL} {E:au->aG->Prop} {s:aG} {J l:aA} {its:Array au}
end
section
variable {X:Cx} {e:Expr} {te:TE} {p p2 pos pos2:Pos}
def aem:R2:=fun x y H Q=>∃ c n,x=.str ⟨#[c]⟩/\y=.int n/\0<=n/\n<=1000/\Q (.str ⟨(List.replicate n.toNat c).toArray⟩) H
theorem Bp (c:Nat) (n:Int):Txt.mul ⟨#[c]⟩ n=⟨(List.replicate n.toNat c).toArray⟩:=by
 have h:=PyProof.Rows.mul_one_list c n;generalize Txt.mul ⟨#[c]⟩ n=z at h ⊢;obtain ⟨a⟩:=z;have h':a.toList=List.replicate n.toNat c:=h;rw [<- h']
theorem QM:pI X (binaryOp .Mult) aem:=by
 intro pins s σ H x y v u Q I rx ry h;obtain ⟨c,n,rfl,rfl,h0,h1,q⟩:=h;obtain ⟨t,rfl⟩:=rx;obtain ⟨t',rfl⟩:=ry;have l1:Str.length ⟨#[c]⟩=1:=rfl;rw [<- Bp] at q;have big:1000<=sizeLine:=by decide
 refine P.mul_str (by rw [aF (by omega),aF (by omega)]; rfl) (fun h2 _=>?_) (fun h2 _=>?_) ?_
 ·rw [l1];have:(1:Int)<=(2 ^ 63 - 1) / n:=by
   rw [Int.le_ediv_iff_mul_le (by omega)];omega
  omega
 ·rw [l1];exact aF (by omega)
 ·have ml:=Bp c n;unfold Txt.mul at q ml
  by_cases c1:n < 1
  ·rw [if_pos c1] at q ⊢;exact ⟨by decide,.str _,H,I.tok _,⟨_,rfl⟩,q⟩
  ·rw [if_neg c1] at q ml ⊢
   by_cases c2:(n == 1 || Str.length ⟨#[c]⟩ == 0)=true
   ·rw [if_pos c2] at q ⊢;exact ⟨.str _,H,I,⟨_,rfl⟩,q⟩
   ·rw [if_neg c2] at q ml ⊢;refine ⟨?_,.str _,H,I.tok _,⟨_,rfl⟩,q⟩;rw [ml]
    show (List.replicate n.toNat c).toArray.size<=sizeLine
    simp only [size_toArray,bH];omega
end
end L2
namespace Tw
open PySem L2
abbrev Rep (α:Type):=Hp->V->α->Prop
structure QS {α:Type} [DecidableEq α] (K:Fg) (n:Nat) (R:Rep α):Prop where
 same:∀ {H H':Hp} {v:V} {x:α},R H v x->Same H H'->R H' v x
 one:∀ {H:Hp} {v:V} {x y:α},R H v x->R H v y->x=y
 eq:∀ {H:Hp} {v w:V} {x y:α},R H v x->R H w y->Di K H n v w (decide (x=y))
def Im:Rep Int:=fun _ v i=>v=.int i
def w6:Rep Str:=fun _ v x=>v=.str x
def jO {α:Type} (R:Rep α):Rep (List α):=fun H v xs=>∃ t vs,v=.ref t/\H t=some (.lst vs)/\Paired (R H) vs xs
section
variable {K:Fg} {α β γ:Type} [DecidableEq α] [DecidableEq β] [DecidableEq γ] {n:Nat} {R:Rep α} {S:Rep β} {T:Rep γ}
theorem eq_int:QS K n Im:=⟨fun h _=>h,fun h h'=>by cases h; cases h'; rfl,fun {H v w x y} h h'=>by
 cases h; cases h';have:=Di.flat (K:=K) (H:=H) (n:=n) (x:=.int x) (y:=.int y) rfl rfl;have e:eqV (.int x) (.int y)=decide (x=y):=by
  show (x == y)=_
  by_cases z:x=y <;> simp [z]
 rw [e] at this;exact this⟩
theorem vD:∀ (xs ys:List α),((List.range (min xs.length ys.length)).all (fun j=>decide (xs[j]?=ys[j]?)) && xs.length == ys.length)=decide (xs=ys)
 | [],[]=>rfl
 | [],y::ys=>by simp
 | x::xs,[]=>by simp
 | x::xs,y::ys=>by
  have ih:=vD xs ys;have e:min (x::xs).length (y::ys).length=min xs.length ys.length + 1:=by simp only [length_cons]; omega
  rw [e,List.range_succ_eq_map,List.all_cons,all_map];have e2:((fun j=>decide ((x::xs)[j]?=(y::ys)[j]?)) ∘ Nat.succ)=fun j=>decide (xs[j]?=ys[j]?):=by
   funext j
   simp
  rw [e2];have e3:((x::xs).length == (y::ys).length)=(xs.length == ys.length):=by simp
  rw [e3,Bool.and_assoc,ih]
  by_cases z:x=y <;> by_cases z':xs=ys <;> simp [z,z']
theorem xZ {H:Hp} (h:QS K n R) {vs ws:List V} {xs ys:List α} (p:Paired (R H) vs xs) (q:Paired (R H) ws ys):∀ (j:Nat) x y,vs[j]?=some x->ws[j]?=some y->Di K H n x y (decide (xs[j]?=ys[j]?)):=by
 intro j v w hv hw;obtain ⟨x,hx,rx⟩:=fC p hv;obtain ⟨y,hy,ry⟩:=fC q hw;rw [hx,hy];have:=h.eq rx ry;have e:decide (some x=some y)=decide (x=y):=by by_cases z:x=y <;> simp [z]
 rw [e];exact this
theorem ai5 {H:Hp} {Q:VK} {v w:V} {xs ys:List α} (h:QS K n R) (hn:n<=50) (r:jO R H v xs) (r':jO R H w ys) (q:Q (.bl (decide (xs=ys))) H):Kq K false v w H Q:=by
 obtain ⟨t,vs,rfl,ht,p⟩:=r;obtain ⟨t',vs',rfl,ht',p'⟩:=r';have l1:=Paired.length p;have l2:=Paired.length p';refine ⟨t,t',vs,vs',n,_,rfl,rfl,cY.of ht,cY.of ht',hn,fun _=>xZ h p p',fun len=>?_,fun len=>?_⟩
 ·have ea:=vD xs ys;have len':xs.length=ys.length:=by omega
  rw [len',Nat.min_self,beq_self_eq_true,Bool.and_true] at ea;rw [Bool.false_xor,l1,len',ea];exact q
 ·rw [aF (fun z=>len (by rw [l1,l2,z]))] at q;exact q
theorem ZM {H:Hp} {Q:VK} {v w:V} {xs ys:List α} (h:QS K n R) (hn:n<=50) (r:jO R H v xs) (r':jO R H w ys) (q:Q (.bl (!decide (xs=ys))) H):Kq K true v w H Q:=by
 obtain ⟨t,vs,rfl,ht,p⟩:=r;obtain ⟨t',vs',rfl,ht',p'⟩:=r';have l1:=Paired.length p;have l2:=Paired.length p';refine ⟨t,t',vs,vs',n,_,rfl,rfl,cY.of ht,cY.of ht',hn,fun _=>xZ h p p',fun len=>?_,fun len=>?_⟩
 ·have ea:=vD xs ys;have len':xs.length=ys.length:=by omega
  rw [len',Nat.min_self,beq_self_eq_true,Bool.and_true] at ea;rw [Bool.true_xor,l1,len',ea];exact q
 ·rw [aF (fun z=>len (by rw [l1,l2,z]))] at q;exact q
end
end Tw
namespace L2
open PySem PySem.Spec PyProof.Rows
section
variable {X:Cx}
end
def Bq (n b:Int):Bool:=decide (Builtin.bitAnd (n / 2 ^ b.toNat) 1=1)
theorem KC (n b:Nat):Bq (n:Int) (b:Int)=n.testBit b:=by
 unfold Bq;have e:(n:Int) / 2 ^ ((b:Nat):Int).toNat=((n / 2 ^ b:Nat):Int):=by
  rw [cA];simp
 rw [e,bitAnd_pp (Int.natCast_nonneg _) (by decide)];have e2:((n / 2 ^ b:Nat):Int).toNat &&& (1:Int).toNat=n / 2 ^ b % 2:=by
  rw [cA];exact Nat.and_one_is_mod _
 rw [e2,Nat.testBit_eq_decide_div_mod_eq]
 by_cases z:n / 2 ^ b % 2=1
 ·simp [z]
 ·have:n / 2 ^ b % 2=0:=by omega
  simp [this]
end L2
namespace Tw
open PySem L2
theorem oR {H H':Hp} {D:aA} {o:HO} (s:Same H H') (h:H D=none):Same H (L2.upd H' D o):=fun b u e=>by rw [bx (cZ e h)]; exact s b u e
structure QT {α:Type} (R:Rep α):Prop where
 same:∀ {H H':Hp} {v:V} {x:α},R H v x->Same H H'->R H' v x
 upd:∀ {H:Hp} {v:V} {x:α} {D:aA} {zs:List V} {o:HO},R H v x->H D=some (.lst zs)->R (L2.upd H D o) v x
section
variable {K:Fg} {α β γ:Type} {R:Rep α} {S:Rep β} {T:Rep γ}
theorem lU:QT Im:=⟨fun h _=>h,fun h _=>h⟩
theorem jh:QT w6:=⟨fun h _=>h,fun h _=>h⟩
theorem jl {H:Hp} {vs:List V} {xs:List α} (p:Paired (R H) vs xs) {i:Nat} {x:α} (h:xs[i]?=some x):∃ v,vs[i]?=some v/\R H v x:=by
 have lt:i < vs.length:=by rw [Paired.length p]; exact (aP.mp h).1
 obtain ⟨y,hy,r⟩:=fC p (aR lt);rw [h] at hy;cases hy;exact ⟨_,aR lt,r⟩
theorem vG (sR:QT R) (sS:QT S) {l D:aA} {H:Hp} {xs:List α} {σ0:St} {g:TG} {te:TE} {Qe:Hp->Prop} (f:α->β) (hl:jO R H (.ref l) xs) (hz:xs.length<=sizeLine) (hD:H D=none) (body:∀ (i:Nat) x v H2,xs[i]?=some x->R H2 v x->Same H H2->∀ Qc:VK,(∀ u H3,Same H2 H3->S H3 u (f x)->Qc u H3)->g v σ0 H2 fun σ2 H'=>mF σ0 σ2/\te σ2 H' Qc) (q:∀ H',Same H H'->jO S H' (.ref D) (xs.map f)->Qe H') : ∃ W:Nat->Nat->List V->Hp->Prop,(∃ m,W 0 m [] (L2.upd H D (.lst [])))/\pJ D (Oh K l) σ0 g Ie te Qe W:=by
 obtain ⟨l',vs,el,hv,pv⟩:=hl;cases el;have ln:=Paired.length pv;refine vC xs.length hz (fun i acc H'=>Same H H'/\H' D=some (.lst acc)/\Paired (S H') acc ((xs.take i).map f)) ⟨aQ hD,aC,.nil⟩ (fun i acc H' le ⟨_,e,p⟩=>⟨?_,e⟩) ?_ ?_
 ·rw [Paired.length p,aq,length_take]; omega
 ·rintro acc H' ⟨s',e,p⟩;rw [cJ] at p;exact ⟨⟨vs,cY.of (s' _ _ hv),by omega⟩,q H' s' ⟨D,acc,rfl,e,p⟩⟩
 ·rintro i acc H' lt ⟨s',e,p⟩;have hx:xs[i]?=some xs[i]:=aR lt;obtain ⟨v,Io,rv⟩:=jl pv hx;have sq:cY K H' l vs:=cY.of (s' _ _ hv);refine ⟨⟨vs,v,sq,Io⟩,?_⟩;rintro y za ⟨rfl,hy⟩ Qc k;have ey:=hy vs sq;rw [Io] at ey;cases ey;refine body i xs[i] v za hx (sR.same rv s') s' Qc fun u H3 s3 ru=>?_
  have e3:=s3 _ _ e;refine k u H3 e3 ⟨oR (s'.trans s3) hD,aC,?_⟩;rw [take_snoc hx,aW];exact Paired.snoc (Paired.mX p fun _ _ z=>sS.upd (sS.same z s3) e3) (sS.upd ru e3)
theorem vH (sR:QT R) (sS:QT S) {l D:aA} {H:Hp} {xs:List α} {σ0:St} {g:TG} {tc:TT} {te:TE} {Qe:Hp->Prop} (pr:α->Bool) (f:α->β) (hl:jO R H (.ref l) xs) (hz:xs.length<=sizeLine) (hD:H D=none) (body:∀ (i:Nat) x v H2,xs[i]?=some x->R H2 v x->Same H H2->∀ (Qc:VK) (Qn:Hp->Prop),(pr x=true->∀ u H3,Same H2 H3->S H3 u (f x)->Qc u H3)->(pr x=false->∀ H3,Same H2 H3->Qn H3) -> g v σ0 H2 fun σ2 H'=>mF σ0 σ2/\tc σ2 H' fun b H3=>if b=true then te σ2 H3 Qc else Qn H3) (q:∀ H',Same H H'->jO S H' (.ref D) ((xs.filter pr).map f)->Qe H') : ∃ W:Nat->Nat->List V->Hp->Prop,(∃ m,W 0 m [] (L2.upd H D (.lst [])))/\pJ D (Oh K l) σ0 g tc te Qe W:=by
 obtain ⟨l',vs,el,hv,pv⟩:=hl;cases el;have ln:=Paired.length pv;refine zu xs.length hz (fun i acc H'=>Same H H'/\H' D=some (.lst acc)/\Paired (S H') acc (((xs.take i).filter pr).map f)) ⟨aQ hD,aC,.nil⟩ (fun i acc H' le ⟨_,e,p⟩=>⟨?_,e⟩) ?_ ?_
 ·rw [Paired.length p,aq];exact bA (length_filter_le _ _) (by rw [length_take]; omega)
 ·rintro acc H' ⟨s',e,p⟩;rw [cJ] at p;exact ⟨⟨vs,cY.of (s' _ _ hv),by omega⟩,q H' s' ⟨D,acc,rfl,e,p⟩⟩
 ·rintro i acc H' lt ⟨s',e,p⟩;have hx:xs[i]?=some xs[i]:=aR lt;obtain ⟨v,Io,rv⟩:=jl pv hx;have sq:cY K H' l vs:=cY.of (s' _ _ hv);refine ⟨⟨vs,v,sq,Io⟩,?_⟩;rintro y za ⟨rfl,hy⟩ Qc Qn k kn;have ey:=hy vs sq;rw [Io] at ey;cases ey;refine body i xs[i] v za hx (sR.same rv s') s' Qc Qn (fun ep u H3 s3 ru=>?_) (fun ep H3 s3=>?_)
  ·have e3:=s3 _ _ e;refine k u H3 e3 ⟨oR (s'.trans s3) hD,aC,?_⟩;rw [take_snoc hx,cG,aW];have ef:[xs[i]].filter pr=[xs[i]]:=by simp [ep]
   rw [ef];exact Paired.snoc (Paired.mX p fun _ _ z=>sS.upd (sS.same z s3) e3) (sS.upd ru e3)
  ·refine kn H3 ⟨s'.trans s3,s3 _ _ e,?_⟩;rw [take_snoc hx,cG];have ef:[xs[i]].filter pr=[]:=by simp [ep]
   rw [ef,cN];exact Paired.mX p fun _ _ z=>sS.same z s3
end
end Tw
namespace L2
open PySem PySem.Spec PyProof.Rows
section
variable {X:Cx}
end
section
variable {X:Cx}
end
section
variable {X:Cx}
theorem yc:∀ {ns:List Int} {us:List au},Vals (ns.map V.int) us->numsOf us=ns/\∀ v ∈ us,∃ a t,v=Value.int a t
 | [],_,.nil=>⟨rfl,fun v hv=>by cases hv⟩
 | n::ns,_,.cons r t=>by
  obtain ⟨h1,h2⟩:=yc (ns:=ns) t;obtain ⟨tk,rfl⟩:=r;refine ⟨by show n::numsOf _=_; rw [h1],fun v hv=>?_⟩;rcases aK.mp hv with rfl | hm
  ·exact ⟨_,_,rfl⟩
  ·exact h2 v hm
theorem iV (K:Fg) (hK:autoParam (X.K=K) zau0):IxR X (ad4 K):=by
 subst hK;exact jg
theorem zx (K:Fg) (hK:autoParam (X.K=K) zau0):IxR X (ad5 K):=by
 subst hK;exact vg
end
section
variable {X:Cx} {pins:List (aA × Obj)} {σ:St} {H:Hp} {s:aG}
end
section
variable {X:Cx} {pins:List (aA × Obj)} {σ:St} {E:au->aG->Prop} {Q:VK} {l I S f c':aA} {params:Arguments} {body:Expr} {scope:Scope} {cl:List (Str × aA)} {qual x:Str} {ctv pm:au} {N':List Str} {cap:List (Option Nat)} {tb:TE}
variable {vs:List V} {kf:Nat->Int} {J:Nat->Hp->Prop}
end
section
variable {X:Cx} {e:Expr} {params:Arguments} {body:Expr} {scope:Scope} {cl:List (Str × aA)} {qual x:Str} {N':List Str} {cap:List (Option Nat)} {ta:TA} {tb:TE} {p pos ai6 kp kp2 dp:Pos} {kd:Nat} {c P:aA}
end
section
variable {P:bT} {w:World} {K:Fg} {mg:Str->Option au} {base:Heap} {x qual:Str} {st:cQ} {f:aA} {fd:dN} {N ps:List Str} {k:Nat} {sp:Sp}
end
end L2
namespace Tw
open PySem L2
section
variable {K:Fg} {β:Type} {S:Rep β}
end
end Tw
namespace L2
open PySem
end L2
namespace Tw
open PySem L2
section
variable {α β γ:Type} {R:Rep α} {S:Rep β} {T:Rep γ}
end
end Tw
namespace L2
open PySem
section
variable (prog:bT) (w:World)
end
section
variable {prog:bT} {w:World} {A:cL} {E:au->aG->Prop} {s:aG}
end
section
variable {prog:bT} {w:World} {A:cL} {E:au->aG->Prop}
section
variable {h:Heap} {g:Array GenState} {d:Drawn} {t:Nat} {os:OsState} {a:aA} {its:Array au} {n:Nat} {sl:Array (Option au)}
end
section
variable {s:aG}
end
end
section
variable {prog:bT} {w:World} {A:cL} {E:au->aG->Prop} {s:aG}
end
end L2
namespace L2
open PySem PySem.Spec PyProof.Rows
section
variable {X:Cx} {pins:List (aA × Obj)} {σ:St} {H:Hp} {s:aG}
end
section
variable {X:Cx} {pins:List (aA × Obj)} {σ:St} {H:Hp} {s:aG}
theorem Inv.Ip (I:Inv X pins σ H s):sysModules < s.heap.objs.size:=Nat.lt_trans (by decide) (show mainGlobals < s.heap.objs.size from (I.mod.glob.keeps I.bk).lt)
end
end L2
namespace L2
open PySem
end L2
namespace L2
open PySem PySem.Spec PyProof.Rows
section
variable {X:Cx} {params:Arguments} {body:Expr} {scope:Scope} {cl:List (Str × aA)} {qual x:Str} {ai6:Pos} {c P:aA}
end
section
variable {X:Cx} {CX:wX} {k:Nat} {f:aA} {fd:dN} {ps:List Str} {E:XK} {x:Str} {p pos:Pos} {e:Expr} {es:List Expr} {t:TA}
end
section
variable {X:Cx}
theorem Ir (hc:X.calm=true):gK X (.builtin "sum") (fun xs H Q=>∃ (p:aA) (ns:List Int),xs=[.ref p]/\cY X.K H p (ns.map V.int)/\Q (.int ns.sum) H):=by
 intro pins s σ H xs us Q I r h;obtain ⟨p,ns,rfl,sq,q⟩:=h;obtain ⟨u,rfl,rx⟩:=Vals.one r;cases rx;obtain ⟨its,rv,pl,_⟩:=I.list sq;obtain ⟨e1,e2⟩:=yc rv;obtain ⟨ys,ey⟩:=AllInts.items (vs:=its.toArray) fun v hv=>e2 v (by simpa using hv)
 have en:ys.toList.map (·.1)=ns:=by
  rw [<- nums_intItems,<- ey,<- e1]
 refine sum_intListG (I.ok.hd hc) (by rw [<- ey]; exact pl.isList) fun h' tk t' hk=>?_
 refine ⟨.int _,H,I.kept (h':=h') (t':=tk) hk,⟨t',rfl⟩,?_⟩;rw [preSum_eq,List.take_of_length_le (by simp),en];exact q
end
section
variable {X:Cx} {CX:wX} {k:Nat} {ps:List Str} {E:XK} {m:Str} {pos apos:Pos} {o:Expr} {ta:TE}
def QV (Cs:aA->Prop) (m:Str) (sp:aA->Sp) (E:XK) (ta:TE):TE:=fun σ H Q=>ta σ H fun x H1=>∃ a C dx fs,x=.ref a/\H1 a=some (.ins C dx fs)/\Cs C/\fs.lookup m=none/\sp C [x] H1 Q E
theorem Iu {pl:Sem Bool} {sp:aA->Sp} {Cs:aA->Prop} (he:PE X o ta) (hr:d7 k X.A) (hC:∀ C,Cs C->∃ f fd,Cls X.K C/\Meth X.K C m f/\cC X.prog X.w X.K X.mg X.base CX k f fd ps (sp C)/\Binds X.K fd ps []) (hx:Passes CX X E) (ht:autoParam (eval (.Call (.Attribute o m apos) [] [] pos) X.env=(do
   let ov <- eval o X.env
   standAt apos.atName
   let (f,first) <- holding [ov] (getMethod ov m pl)
   callWith pos f first (backTo pos (starEach [] X.env)) (backToKw pos (keywordEach [] X.env)))) zau0) :
  PE X (.Call (.Attribute o m apos) [] [] pos) (QV Cs m sp E ta):=by
 intro pins s σ H Q I h;refine methodCall_KW (pl:=pl) (dX (he pins s σ H _ I h) fun u s1 ⟨x,H1,I1,rx,a,C,dx,fs,ex,ea,cs,l,q⟩=>?_) ht;subst ex;obtain rfl:u=Value.ref a:=rx;obtain ⟨f,fd,c,hm,F,hb⟩:=hC C cs;refine lM I1 ea c hm l ?_;exact callWith_K0 (first:=[.ref a]) I1.jM hm.kp (vd (us:=[.ref a]) (vs:=[.ref a]) (oJ:=[]) F hr hb .nil hx I1 (.cons rfl .nil) q)
end
end L2
namespace Tw
open PySem PySem.Spec PyProof.Rows L2
section
variable {α:Type} [DecidableEq α] {R:Rep α}
open Classical in
open Classical in
end
section
variable {X:Cx} {α:Type} [DecidableEq α] {R:Rep α} {n:Nat}
end
end Tw
namespace L2
open PySem PySem.Spec PyProof.Rows
section
variable {pg:bT} {w:World} {A:cL} {E:au->aG->Prop} {h:Heap} {g:Array GenState} {d:Drawn} {os:OsState} {t:Nat}
variable {q nm:Str} {N C:aA} {bmB bm bs:List au} {hdct:Bool} {sn:List Str} {sub:List au} {ab:Bool} {col:Option Bool} {dd:Option aA} {k0 k1 k2 k3 k5:Option au} {B newId initId:String}
theorem xg (F:ExcBaseFacts B newId initId bmB) (T:OwnTail h bmB bm) {mN:Str->Option au} {xs:List au} {fI:aA} {oI:Obj} {Q:Fin->aG->Prop} (hcl:h.get? C=some (excClassObj nm q C N bs bm hdct sn sub ab col dd k0 k1 k2 k3 k5 newId)) (hn:h.Ns N mN) (hi:mN "__init__"=some (.ref fI)) (hfI:h.get? fI=some oI) (hfc:oI.cls=.type "function") (hq:∀ h' e,Heap.MadeExcOf h h' e (.ref C) xs->wpAny (model pg w) A (call (.ref fI) (.ref e::xs)) (fun r s'=>r=.none/\Q (.done (.ret (.ref e))) s') E ⟨h',g,d,t,os⟩) (hxs:xs.length<=sizeLine) : wpAny (model pg w) A (Builtin.«type.__call__» ⟨.ref C::xs,[]⟩) Q E ⟨h,g,d,t,os⟩:=by
 repeat (first | with_reducible refine wpAny_loadPart_at hcl ?_ | with_reducible refine wpAny_madeBy_exc hcl ?_ | wp_step)
 refine codeAny_call_builtin_code (Code.quiet_builtin _ F.quiet) (wpAny_check_new_subT F T hcl (codeAny_exc_new_subT F T hcl ?_ hxs))
 show wpAny _ _ _ _ _ _
 let tu:Obj:={ cls:=.type "tuple",data:=.seq xs.toArray }
 let ob:Obj:={ cls:=.ref C,data:=.fields #[.ref h.objs.size,.none,.none,.none,.bool false,.none] }
 have up:∀ b o,h.get? b=some o->((h.push tu).push ob).get? b=some o:=fun b o e=>ao ob (ao tu e)
 have Oj:=up _ _ hcl;have hf1:=up _ _ hfI;have hn1:((h.push tu).push ob).Ns N mN:=hn.keeps up;have T1:=T.keeps up;have at1:((h.push tu).push ob).get? (h.objs.size + 1)=some ob:=by heap_get
 have own:(Value.ref C::bm).contains (.ref C)=true:=by simp
 unfold isInstance
 repeat (first | with_reducible refine wpAny_loadPart_at at1 ?_ | (with_reducible refine wpAny_isSubtype_exc Oj ?_; rw [own]) | wp_step)
 change wpAny _ _ (typeLookup (.ref C) _) _ _ _; refine wpAny_typeLookup_tail Oj hn1 T1 F.mroIs F.init.lookup ?_
 rw [hi];refine wpAny_holding (aj ?_); unfold bindSpecial;refine aj (wpAny_typeOf (T:="function") ⟨_,hf1,hfc⟩ ?_);rw [if_pos (by decide)];refine ak (aj (bF (hq _ (h.objs.size + 1) ⟨up,Heap.get?_none_of_le (Nat.le_succ _),h.objs.size,at1,Heap.get?_none_of_le (aH _),?_⟩) (fun r s' hr=>?_) fun _ _ x=>x))
 ·exact ao ob (Heap.get?_push_at rfl rfl)
 ·obtain ⟨rfl,hQ⟩:=hr
  wp_walk
  exact hQ
theorem Br (F:ExcBaseFacts B newId initId bmB) (T:OwnTail h bmB bm) {mN:Str->Option au} {xs:List au} {fI:aA} {oI:Obj} {Q:au->aG->Prop} (hcl:h.get? C=some (excClassObj nm q C N bs bm hdct sn sub ab col dd k0 k1 k2 k3 k5 newId)) (hn:h.Ns N mN) (hi:mN "__init__"=some (.ref fI)) (hfI:h.get? fI=some oI) (hfc:oI.cls=.type "function") (hq:∀ h' e,Heap.MadeExcOf h h' e (.ref C) xs->wpAny (model pg w) (A.under (.builtin "type.__call__" ⟨.ref C::xs,[]⟩)) (call (.ref fI) (.ref e::xs)) (fun r s'=>r=.none/\Q (.ref e) s') E ⟨h',g,d,t,os⟩) (hxs:xs.length<=sizeLine) : wpAny (model pg w) A (call (.ref C) xs) Q E ⟨h,g,d,t,os⟩:=by
 have f1:=tc_lookup;have f2:=tc_bind (.ref C);have isT:(⟨h,g,d,t,os⟩:aG).TypeIs (.ref C) "type":=⟨_,hcl,rfl⟩;refine wpAny_call (codeAny_of_tree ?_); change wpAny _ _ (callAny (.ref C) _) _ _ _
 repeat (any_goals (first | assumption | with_reducible refine wpAny_loadPart_at hcl ?_ | wp_step))
 refine ⟨rfl,?_⟩;exact codeAny_call_builtin_at (Code.quiet_builtin _ (by decide +kernel)) entry_typeCall (wpAny_check_type_call_sub hcl (xg F T hcl hn hi hfI hfc (fun h' e hm=>hq h' e hm) hxs))
theorem Iv {M:Model} {s:aG} {env:Env} {x:Sem au} {Q:Flow->aG->Prop} (hbase:bm.contains (.type "BaseException")=true) (hh:A.handled=none) (hx:wpAny M A x (fun v s₁=>∃ e a0 dx sl,v=.ref e/\s₁.heap.get? C=some (excClassObj nm q C N bs bm hdct sn sub ab col dd k0 k1 k2 k3 k5 newId) /\ s₁.heap.get? e=some { cls:=.ref C,dict:=dx,data:=.fields #[a0,.none,.none,.none,.bool false,.none],slots:=sl }/\E (.ref e) s₁) E s) : wpAny M A (raiseStmt env (some x) none) Q E s:=by
 have ZG:(Value.ref C::bm).contains (.type "BaseException")=true:=by rw [contains_cons,hbase,Bool.or_true]
 unfold raiseStmt;refine aj (bF hx (fun v s₁ h₁=>?_) fun _ _ x=>x);obtain ⟨e,a0,dx,sl,rfl,hcl,he,hE⟩:=h₁;obtain ⟨hp,g1,d1,tk,o1⟩:=s₁
 repeat (first | with_reducible refine wpAny_loadPart_at he ?_ | with_reducible refine wpAny_loadPart_at hcl ?_ | (with_reducible refine wpAny_isSubtype_exc hcl ?_; rw [ZG]) | wp_step)
 exact wpAny_raiseNew_none (E:=E) hh hE
end
def del (H:Hp) (e:aA):Hp:=fun b=>if b=e then none else H b
theorem m7 {H:Hp} {e b:aA} (h:b≠e):del H e b=H b:=by unfold del; rw [if_neg h]
theorem vI {H:Hp} {e:aA}:del H e e=none:=by unfold del; rw [if_pos rfl]
def iB (e C:aA) (dx:Option aA):HO:=.ext fun h=>∃ a0 sl,h.get? e=some { cls:=.ref C,dict:=dx,data:=.fields #[a0,.none,.none,.none,.bool false,.none],slots:=sl }
theorem uK {P:bT} {w:World} {H:Hp} {h:Heap} {e C:aA} {dx:Option aA} {a0:au} {sl:Array (Option au)} (he:h.get? e=some { cls:=.ref C,dict:=dx,data:=.fields #[a0,.none,.none,.none,.bool false,.none],slots:=sl }):dJ P w H h e (iB e C dx) := ⟨⟨a0,sl,he⟩,⟨_,he⟩,fun _ _ ⟨a,l,y⟩ k=>⟨a,l,k _ y⟩⟩
section
variable {X:Cx} {pins:List (aA × Obj)} {σ:St} {H:Hp} {s:aG}
theorem Inv.Gp {e C:aA} {dx:Option aA} (I:Inv X pins σ H s) (he:H e=some (iB e C dx)):Inv X pins σ (del H e) s:=by
 have ne:∀ b u,H b=some u->(∀ φ,u≠.ext φ)->b≠e:=fun b u q n z=>by
  rw [z,he] at q;cases q;exact n _ rfl
 have:=I.un (t':=s.toks) (H':=del H e) (h':=s.heap) ⟨fun _ _ q _ _ _=>q,fun _ o q _ _ _=>⟨o.slots,q⟩,fun b _ _ n _=>by unfold del; split; rfl; exact n,fun b o q _=>⟨o,q⟩,fun b xs q=>by rw [m7 (ne b _ q fun _ z=>by cases z)]; exact q,
  fun b o u q=>by rw [m7 (ne b _ q fun _ z=>by cases z)]; exact q,fun b ps q=>⟨#[],by rw [m7 (ne b _ q fun _ z=>by cases z),q]; simp⟩⟩ fun b u q=>by
   have hb:b≠e:=fun z=>by rw [z,vI] at q; cases q
   rw [m7 hb] at q;exact (I.hok b u q).stay (fun _ _ _ k=>k) (fun c k=>by rw [m7 (ne c _ k fun _ z=>by cases z)]; exact k) fun c xs k=>by rw [m7 (ne c _ k fun _ z=>by cases z)]; exact k
 exact this
end
theorem TQ {K:Fg} {h:Heap} {N:aA} {m:Str->Option au} {n:Str} {v:au} (X:K.In h) (G:h.Ns N m) (e:nsIn K N n=some (some v)):m n=some v:=by
 obtain ⟨ob,es,ep,at_,dat,_,find⟩:=G;unfold nsIn at e
 split at e
 ·rename_i c dd es' k sl look
  have same:=(X _ _ look).symm.trans at_;cases same;cases dat
  split at e
  ·rename_i en got
   cases e;have z:=find n;unfold nsFind findBy at z;rw [<- Array.find?_toList,got] at z;exact z.symm
  ·split at e <;> cases e
 ·cases e
theorem KD {K:Fg} {h:Heap} {f:aA} (X:K.In h) (e:typeIn K (.ref f)=some (.type "function")):∃ o,h.get? f=some o/\o.cls=.type "function":=by
 unfold typeIn at e;obtain ⟨o,ho,hc⟩:=bB.mp e;exact ⟨o,X _ _ ho,hc⟩
structure QW (K:Fg) (C fI:aA) (bmB:List au) (newId:String):Prop where
 ex:∃ dd nm bs up ns qn hd sn sub ab col a b c d f,K.lookup C=some ⟨.type "type",dd,.cls ⟨nm,bs,.ref C::up,ns,qn,hd,sn,sub,ab,col,false⟩,#[a,b,c,d,some (.builtin newId),f]⟩/\tailIn K bmB up=true/\nsOkIn K ns=true/\nsIn K ns "__init__"=some (some (.ref fI))
noncomputable def QX (C:aA) (E:XK) (sp:Sp) (ta:TA):TS:=fun _ σ H=>ta σ H fun vs H1=>vs.length<=sizeLine/\∀ e,H1 e=none->sp (.ref e::vs) (upd H1 e (iB e C none)) (fun v H2=>v=.non/\∃ dx,H2 e=some (iB e C dx)/\E (.ref C) dx (del H2 e)) fun _ _ _=>False
section
variable {X:Cx} {E:XK} {x:Str} {C fI:aA} {fd:dN} {k:Nat} {ps:List Str} {sp:Sp} {bmB:List au} {B newId initId:String} {np cpos pos:Pos} {e₀:Expr} {rest:List Expr} {ta:TA}
theorem iJ (acc:m6 X E) (hc:X.calm=true) (hg:Gl X x) (hm:X.mg x=some (.ref C)) (q:QW X.K C fI bmB newId) (hfn:isFn X.K (.ref fI)=true) (FB:ExcBaseFacts B newId initId bmB) (F:cC X.prog X.w X.K X.mg X.base (eZ X.prog X.w) k fI fd ps sp) (hr:d7 (k + 1) X.A) (hb:Binds X.K fd ps []) (ha:PA X (e₀::rest) ta) (ex0:autoParam (X.ex=[]) zau0) (he:autoParam (starEach (e₀::rest) X.env=(false,eval e₀ X.env)::starEach rest X.env) zau0) (hpl:autoParam ((backTo cpos (starEach rest X.env)).any (·.1)=false) zau0) (hdb:autoParam ((x == ("__debug__":Str))=false) zau1) : PS X (.Raise (some (.Call (.Name x np) (e₀::rest) [] cpos)) none pos) (QX C E sp ta):=by
 intro pins s σ H D I h;obtain ⟨dd,nm,bs,up,N,qn,hd,sn,sub,ab,col,a,b,c,d,f,look,tl,ok,ini⟩:=q.ex;have hC:=I.mod.wW C _ look;have hN:=Heap.Ns.of_isNs (isNs_of_in I.mod.wW ok);have T:=tail_of_in I.mod.wW tl;have hty:typeIn X.K (.ref fI)=some (.type "function"):=beq_iff_eq.mp hfn;have hin:X.base.nsMap N "__init__"=some (.ref fI):=TQ I.mod.wW hN ini;rw [arm_exec_Raise];refine aj (wpAny_standAt (Iv (C:=C) (nm:=nm) (q:=qn) (N:=N) (bs:=bs) (bm:=up) (hdct:=hd) (sn:=sn) (sub:=sub) (ab:=ab) (col:=col) (dd:=dd) (k0:=a) (k1:=b) (k2:=c) (k3:=d) (k5:=f) (newId:=newId) (T.hasType FB.hasBase) (I.ok.hd hc) ?_));refine aj (bF (wpAny_Call_ofName (gF I hg hm ?_ hdb)) (fun v s₃ h₃=>aj (wpAny_standAt (ak h₃))) fun _ _ z=>z);have hA:=ha cpos pins s σ H _ I h;rw [he] at hA ⊢;unfold callWith;refine aj (wpAny_holding (Calls.evalArgs_plain (dX hA fun us s2 h2=>aj (wpAny_standAt ?_))));obtain ⟨vs,H1,I1,rv,hz,hE⟩:=h2;have hall:((backTo cpos ((false,eval e₀ X.env)::starEach rest X.env)).any (·.1) || (backToKw cpos (keywordEach [] X.env)).any (·.1.isNone))=false:=by
  show ((false || (backTo cpos (starEach rest X.env)).any (·.1)) || false)=false
  rw [hpl];rfl
 obtain ⟨hp,g0,d0,tk,o0⟩:=s2;have Oj:=I1.bk _ _ hC;obtain ⟨oI,hfI,hfc⟩:=KD I1.jM hty;simp only [hall];refine aj (wpAny_keeperOf_exc Oj ?_);refine aj (Br FB (T.keeps I1.bk) Oj (hN.keeps I1.bk) hin hfI hfc (fun h' e hm'=>?_) (by show us.length<=sizeLine; rw [<- rv.length]; exact hz));have I2:Inv X pins σ H1 ⟨h',g0,d0,tk,o0⟩:=I1.kept (t':=tk) hm'.keeps;obtain ⟨t,hte,_,_⟩:=hm'.there;have lo:=I1.gB hm'.new;have hex:e ∉ X.ex:=by rw [ex0]; simp
 have I3:=I2.adopt (b:=e) (o:=iB e C none) lo hex (uK hte);have r2:Vals (V.ref e::vs) (Value.ref e::us):=.cons rfl rv;have hq:=hE e lo.1;have hl:(Value.ref e::us).length=ps.length:=by
  have z:=r2.length;rw [F.len _ _ _ _ hq] at z;exact z.symm
 have hbs:=hb ⟨h',g0,d0,tk,o0⟩ (Value.ref e::us) I3.jM (by rw [cN]; exact hl);rw [cN] at hbs;refine wpAny_call (bL (F.run _ X.stack _ _ ⟨Value.ref e::us,[]⟩ (Value.ref e::us) _ _ _ (hr.make C us []) (I3.env0.make C us []) hbs r2 hq) fun r s' hq'=>?_);cases r with
 | error ev =>
  obtain ⟨_,_,_,_,_,_,_,_,_,_,_,_,_,_,_,z⟩:=hq';exact z.elim
 | ok fl =>
  cases fl with
  | ret u =>
   obtain ⟨v,H',I4,rv',ev,dx,hx,hE'⟩:=I3.after hq';subst ev;obtain ⟨a0,sl,hoe⟩:=(show dJ X.prog X.w H' s'.heap e (iB e C dx) from I4.hok e _ hx).1;refine ⟨rv',aj (wpAny_holding (wpAny_point (ak ⟨e,a0,dx,sl,rfl,I4.bk _ _ hC,hoe,?_⟩)))⟩;exact acc pins σ (del H' e) s' e (.ref C) dx (I4.Gp hx) ⟨none,⟨_,_,hoe,rfl,rfl,rfl,(fun _=>rfl),rfl⟩,⟨vI,lo.2⟩,fun _ z=>nomatch z⟩ hE'
  | next=>exact False.elim hq'
  | brk=>exact False.elim hq'
  | cont=>exact False.elim hq'
end
section
variable {pg:bT} {w:World} {A:cL} {E:au->aG->Prop} {h:Heap} {g:Array GenState} {d:Drawn} {os:OsState} {t:Nat}
variable {q nm:Str} {N C:aA} {bmB bm bs:List au} {hdct:Bool} {sn:List Str} {sub:List au} {ab:Bool} {col:Option Bool} {dd:Option aA} {k0 k1 k2 k3 k5:Option au} {B newId initId:String}
theorem Iw (F:ExcBaseFacts B newId initId bmB) (T:OwnTail h bmB bm) {e:aA} {a0 v:au} {dx:Option aA} {sl:Array (Option au)} {Q:au->aG->Prop} (hcl:h.get? C=some (excClassObj nm q C N bs bm hdct sn sub ab col dd k0 k1 k2 k3 k5 newId)) (he:h.get? e=some { cls:=.ref C,dict:=dx,data:=.fields #[a0,.none,.none,.none,.bool false,.none],slots:=sl }) (hq:∀ h' a1,(∀ b o,b≠e->h.get? b=some o->h'.get? b=some o)->h'.get? e=some { cls:=.ref C,dict:=dx,data:=.fields #[a1,.none,.none,.none,.bool false,.none],slots:=sl }->Q .none ⟨h',g,d,t,os⟩) : wpAny (model pg w) A (call (.builtin initId) [.ref e,v]) Q E ⟨h,g,d,t,os⟩:=by
 refine wpAny_call (codeAny_call_builtin F.init.plain F.initEntry (wpAny_check_init_subT F T hcl he rfl ?_))
 wp_walk
 have up:=he;cases a0 <;> first | refine wpAny_letGo (ak ?_) | refine ak (ak ?_)
 all_goals
  refine hq _ (.ref h.objs.size) (fun b o nb k=>?_) ?_
  ·rw [Heap.get?_update_other _ _ (Ne.symm nb)];exact ao _ k
  ·rw [Heap.get?_update_self _ (ao _ he) rfl];rfl
end
def KJ:List au->Bool
 | [.type a,.type b,.type c,.type d]=>a == "ValueError" && b == "Exception" && c == "BaseException" && d == "object"
 | .ref _::r=>KJ r
 | _=>false
def zy (K:Fg) (C:aA):Bool:=(clsIn K C).any fun cd=>KJ cd.mro
theorem Gq:∀ {l:List au},KJ l=true->l.contains (.type "object")=true/\∀ self,refuseLoop self "__setattr__" l=pure ()
 | [.type a,.type b,.type c,.type d],e=>by
  simp only [KJ,Bool.and_eq_true,beq_iff_eq] at e;obtain ⟨⟨⟨rfl,rfl⟩,rfl⟩,rfl⟩:=e;exact ⟨PySem.F.store_ValueError.hasOwner,PySem.F.store_ValueError.passes⟩
 | .ref c::r,e=>by
  have ih:=Gq (l:=r) (by simpa only [KJ] using e);exact ⟨by rw [contains_cons,ih.1,Bool.or_true],fun self=>by rw [refuseLoop_ref]; exact ih.2 self⟩
theorem ZP {prog:bT} {w:World} {A:cL} {s:aG} {K:Fg} {x C:aA} {v:au} {R:Result->aG->Prop} {ox:Obj} {name:Str} {tk:Tok} (X:K.In s.heap) (I:InstAt s.heap x ox C none) (hp:zy K C=true) (ht:takerIn K C name=some none) (h:∀ b,wpAny (model prog w) A.in1 (Builtin.ObjectAttr.storeInOwnDict (.ref x) (.ref C) (.str name tk) name v b) (fun fin s'=>match fin with | .done g=>R (.ok g) s' | .again c'=>c'.quiet=true/\codeAny (model prog w) A c' R s') (fun e s'=>R (.error e) s') s):codeAny (model prog w) A (.call (.builtin "object.__setattr__") ⟨[.ref x,.str name tk,v],[]⟩) R s:=by
 have F0:=PySem.F.store_object;obtain ⟨cd,hc,ho⟩:=any_some hp;obtain ⟨has,pass⟩:=Gq ho;have full:cd.mro.isEmpty=false:=by
  cases q:cd.mro with
  | nil=>rw [q] at has; cases has
  | cons _ _=>rfl
 have isObj:mroIn K C (.type "object")=some true:=by
  show (clsIn K C).bind _=_
  rw [hc,Option.bind_some,if_neg (by rw [full]; decide),has]
 have sub:Looks (model prog w) s.heap (isInstance (.ref x) (.type "object")) true:=I.type.andThen (PySem.W.looks_mroIn X isObj);refine codeAny_call_builtin F0.slot.plain F0.entry (@check_slot (model prog w) _ _ s "object.__setattr__" "object" "__setattr__" (.ref x) [.str name tk,v] [] _ F0.kind F0.split sub (F0.args (.ref x) (.str name tk) v) (?_));obtain ⟨attr,ha,hq⟩:=Option.bind_eq_some_iff.mp ht;have mro:Looks (model prog w) s.heap (mroOf (.ref C)) cd.mro:=(looks_clsIn X hc).andThen .now;have taker:Looks (model prog w) s.heap (Builtin.ObjectAttr.storeTaker? attr) none:=by
  cases attr with
  | none=>exact .now
  | some a =>
   obtain ⟨b,hb,eb⟩:=bB.mp hq;refine (PySem.W.looks_takesIn X hb).andThen ?_;cases b with
   | true=>cases eb
   | false=>exact .now
 rw [PySem.W.osa_eq,refuse_eq];refine aj (aj (I.type.here (aj (mro.here (by
  rw [pass];exact ak (aj (I.type.here (aj ((looks_findIn X ha).here (aj (taker.here (h _))))))))))))
section
variable {prog:bT} {w:World} {A:cL} {E:au->aG->Prop} {s:aG} {K:Fg} {e C:aA} {name:Str} {v:au}
theorem QZ {a0:au} {sl:Array (Option au)} {Q:Unit->aG->Prop} (X:K.In s.heap) (he:s.heap.get? e=some { cls:=.ref C,dict:=none,data:=.fields #[a0,.none,.none,.none,.bool false,.none],slots:=sl }) (hs:findIn K (.ref C) "__setattr__"=some (some (.builtin "object.__setattr__"))) (hp:zy K C=true) (ht:takerIn K C name=some none) (hh:hasDictIn K C=true) (h:∀ h' tk,(∀ b o,b≠e->s.heap.get? b=some o->h'.get? b=some o)->h'.get? e=some { cls:=.ref C,dict:=some s.heap.objs.size,data:=.fields #[a0,.none,.none,.none,.bool false,.none],slots:=sl } -> h'.Ns1 s.heap.objs.size (fun y=>if y=name then some v else none)->Q () { s with heap:=h',toks:=tk }) : wpAny (model prog w) A (setAttr (.ref e) name v) Q E s:=by
 have J:InstAt s.heap e { cls:=.ref C,dict:=none,data:=.fields #[a0,.none,.none,.none,.bool false,.none],slots:=sl } C none:=⟨he,rfl,rfl,trivial⟩;refine set_plain X J hs (ZP (s:={ s with toks:=s.toks + 1 }) X J hp ht fun b=>?_);obtain ⟨cd,hc,hd'⟩:=any_some hh;refine aj (ak (aj (aj (wpAny_loadPart he (aj (Looks.here (s:={ s with toks:=s.toks + 1 }) (looks_clsIn X hc) ?_))))));rw [hd'];have he1:(s.heap.push { cls:=.type "dict",data:=.dict #[] }).get? e=some { cls:=.ref C,dict:=none,data:=.fields #[a0,.none,.none,.none,.bool false,.none],slots:=sl }:=ao _ he;have hes:e≠s.heap.objs.size:=Nat.ne_of_lt (Heap.lt_size he);obtain ⟨h0,g0,d0,t0,o0⟩:=s;refine aj (wpAny_alloc' (aj (wpAny_update' he1 (ak ?_))))
 let hU:Heap:=(h0.push { cls:=.type "dict",data:=.dict #[] }).update e fun o=>{ cls:=o.cls,dict:=some h0.objs.size,data:=o.data,slots:=o.slots }
 have hgd:hU.get? h0.objs.size=some { cls:=.type "dict",data:=.dict #[] }:=(Heap.get?_update_ne _ _ _ _ hes.symm).trans (Heap.get?_push_at rfl rfl);have hnd:hU.Ns h0.objs.size (fun _=>none):=⟨_,#[],_,hgd,rfl,fun e he=>absurd he (by simp),fun _=>rfl⟩;have hue:hU.get? e=some { cls:=.ref C,dict:=some h0.objs.size,data:=.fields #[a0,.none,.none,.none,.bool false,.none],slots:=sl }:=Heap.get?_update_self _ he1 rfl;refine aj (ak (aj (wpAny_nsSet1 (s:=⟨hU,g0,d0,t0 + 1,o0⟩) (Heap.Ns1.of_empty hnd) fun h' hn' hs'=>?_)));obtain ⟨ob,es,ep,hob,hdat,ai8⟩:=hn'.count (Within.cons name v Within.nil);refine aj (wpAny_lookBehind hob (by rw [hdat]; exact pastItsLine_dict (bA ai8 (by rw [length_cons,length_nil,sizeLine_eq]; omega))) ?_);refine ak (h h' _ (fun b o nb k=>?_) ((hs'.2 e hes).trans hue) hn');exact (hs'.2 b (Nat.ne_of_lt (Heap.lt_size k))).trans ((Heap.get?_update_ne _ _ _ _ nb).trans (ao _ k))
end
theorem Inv.Q0 {X:Cx} {pins:List (aA × Obj)} {σ:St} {H:Hp} {s:aG} {e C:aA} {dx:Option aA} {h':Heap} {t':Nat} {a1:au} {sl:Array (Option au)} (I:Inv X pins σ H s) (he:H e=some (iB e C dx)) (k:∀ b o,b≠e->s.heap.get? b=some o->h'.get? b=some o) (new:h'.get? e=some { cls:=.ref C,dict:=dx,data:=.fields #[a1,.none,.none,.none,.bool false,.none],slots:=sl }):Inv X pins σ H { s with heap:=h',toks:=t' }:=by
 have ne:∀ b,H b=none->b≠e:=fun b n z=>by rw [z,he] at n; cases n
 refine I.un (t':=t') (H':=H) ⟨fun b o q n _ _=>k b o (ne b n) q,fun b o q n _ _=>⟨o.slots,k b o (ne b n) q⟩,fun _ _ _ n _=>n,fun b o q _=>?_,fun _ _ q=>q,fun _ _ _ q=>q,fun _ ps q=>⟨#[],by rw [q]; simp⟩⟩ fun b u q=>?_
 ·by_cases z:b=e
  ·rw [z]; exact ⟨_,new⟩
  ·exact ⟨o,k b o z q⟩
 ·by_cases z:b=e
  ·subst z;rw [he] at q;cases q;exact uK new
  ·refine (I.hok b u q).stay (fun c o hc r=>k c o ?_ r) (fun _ r=>r) fun _ _ r=>r
   rcases hc with rfl | hc
   ·exact z
   ·intro y;rw [y,he] at hc;cases hc
structure aen (K:Fg) (G:aA) (id:String):Prop where
 rd:readsIn K G (.type "type")=true
 ga:specialIn K (.ref G) "__getattribute__"=some (some (.builtin "type.__getattribute__"))
 at_:findCls K (.ref G) (.type "type") "__init__"=some (.val (.builtin id))
 hd:handedIn (.builtin id)=true
def ZQ (C:aA) (ta:TA):TE:=fun σ H Q=>ta σ H fun vs H1=>∃ e v dx,vs=[.ref e,v]/\H1 e=some (iB e C dx)/\Q .non H1
section
variable {X:Cx} {x:Str} {G C fI:aA} {bmB:List au} {B newId initId:String} {p pos apos:Pos} {e:Expr} {es:List Expr} {t:TA}
theorem KN {pl:Sem Bool} (hx:X.mg x=some (.ref G)) (hm:aen X.K G initId) (q:QW X.K C fI bmB newId) (FB:ExcBaseFacts B newId initId bmB) (ha:PA X (e::es) t) (hg:autoParam (Gl X x) zau0) (hdb:autoParam ((x == ("__debug__":Str))=false) zau1) (hst:autoParam (starEach (e::es) X.env=(false,eval e X.env)::starEach es X.env) zau0) (hpl:autoParam ((backTo pos (starEach es X.env)).any (·.1)=false) zau0) (ht:autoParam (eval (.Call (.Attribute (.Name x p) "__init__" apos) (e::es) [] pos) X.env=(do
   let ov <- eval (.Name x p) X.env
   standAt apos.atName
   let (f,first) <- holding [ov] (getMethod ov "__init__" pl)
   callWith pos f first (backTo pos (starEach (e::es) X.env)) (backToKw pos (keywordEach [] X.env)))) zau0) :
  PE X (.Call (.Attribute (.Name x p) "__init__" apos) (e::es) [] pos) (ZQ C t):=by
 intro pins s σ H Q I h;refine methodCall_KW (pl:=pl) (gF I hg hx ?_ hdb) ht;refine method_cls I.jM hm.ga (cls_value I.jM hm.rd hm.at_ hm.hd ?_);have I1:=I.tok (s.toks + 1);refine callWith_builtin1 (dX (ha pos pins _ σ H _ I1 h) fun us s2 ⟨vs,H2,I2,r,e',v,dx,ev,he,q2⟩=>?_) hst hpl;subst ev;obtain ⟨u1,u2,rfl,r1,r2⟩:=Vals.two r;obtain rfl:u1=Value.ref e':=r1;obtain ⟨dd,nm,bs,up,N,qn,hd,sn,sub,ab,col,a,b,c,d,f,look,tl,ok,ini⟩:=q.ex;obtain ⟨a0,sl,hoe⟩:=(show dJ X.prog X.w H2 s2.heap e' (iB e' C dx) from I2.hok e' _ he).1;obtain ⟨hp,g0,d0,tk,o0⟩:=s2;refine Iw FB ((tail_of_in I2.mod.wW tl).keeps I2.bk) (I2.bk _ _ (I2.mod.wW C _ look)) hoe fun h' a1 k new=>?_
 exact ⟨.non,H2,I2.Q0 (t':=tk) he k new,rfl,q2⟩
end
def aeo (te:TE):TE:=fun σ H Q=>te σ H fun x H1=>∃ i,x=.int i/\i.natAbs.log2 < 100/\∀ z,Q (.str z) H1
theorem Q5 {X:Cx} {a b:Str} {k1 k3:Nat} {p1 p2 p3 pos:Pos} {e:Expr} {te:TE} (he:PE X e te) (la:autoParam (a.length<=1000) zau4) (lb:autoParam (b.length<=1000) zau4) : PE X (.JoinedStr [.Constant (.str a) k1 p1,.FormattedValue e (-1) none p2,.Constant (.str b) k3 p3] pos) (aeo te):=by
 intro pins s σ H Q I h;have big:10000<=sizeLine:=by decide
 have l0:(Str.empty++a).length=a.length:=by rw [strLen_append]; exact Nat.zero_add _
 refine JoinedStr_many (joinParts_cons (Calls.Constant_str ⟨by rw [l0]; omega,joinParts_cons (FormattedValue_plain (dX (he pins _ σ H _ (I.tok _) h) fun u s1 ⟨x,H1,I1,r,i,ex,li,q⟩=>?_))⟩));subst ex;obtain ⟨tk,rfl⟩:=r;have lt:(Str.ofString (toString i)).length<=101:=by
  have:=int_text_length_le (a:=i) (k:=100) (by decide) li;rw [PySem.ofString_length];exact this
 refine formatField_int_small (by omega) ⟨by rw [strLen_append,l0]; show a.length + (Str.ofString (toString i)).length<=sizeLine; omega,joinParts_cons (Calls.Constant_str ⟨by rw [strLen_append,strLen_append,l0]; show a.length + (Str.ofString (toString i)).length + b.length<=sizeLine; omega,joinParts_nil ?_ (by rw [strLen_append,strLen_append,l0]; show a.length + (Str.ofString (toString i)).length + b.length<=sizeLine; omega)⟩)⟩;exact ⟨.str _,H1,I1.tok _,⟨_,rfl⟩,q _⟩
structure aep (K:Fg) (C:aA) (f:Str):Prop where
 hs:findIn K (.ref C) "__setattr__"=some (some (.builtin "object.__setattr__"))
 hp:zy K C=true
 ht:takerIn K C f=some none
 hh:hasDictIn K C=true
noncomputable def ai9 (K:Fg) (ta tv:TE) (f:Str):TS:=fun D σ H=>tv σ H fun y H1=>ta σ H1 fun x H2=>∃ e C,x=.ref e/\H2 e=some (iB e C none)/\aep K C f/\∀ dx,H2 dx=none->D.nx σ (upd (upd H2 dx (.xd [(f,y)])) e (iB e C (some dx)))
theorem ZR {X:Cx} {o value:Expr} {f:Str} {ta tv:TE} {pos pos':Pos} (ha:PE X o ta) (hv:PE X value tv) (hs:swapsWith value (some (.Attribute o f pos')) pos.line X.env=pure false):PS X (.Assign [.Attribute o f pos'] value pos) (ai9 X.K ta tv f):=by
 intro pins s σ H D I h;refine plainObj_wpAny_Assign_Attribute (dX (hv pins s σ H _ I h) fun u s1 ⟨y,H1,I1,ry,q⟩=>dX (ha pins s1 σ H1 _ I1 q) fun ov s2 ⟨x,H2,I2,rx,e,C,ex,he,ca,q2⟩=>?_) hs;subst ex;obtain rfl:ov=Value.ref e:=rx;obtain ⟨a0,sl,hoe⟩:=(show dJ X.prog X.w H2 s2.heap e (iB e C none) from I2.hok e _ he).1;refine QZ I2.jM hoe ca.hs ca.hp ca.ht ca.hh fun h' tk k new nd=>?_
 have hn:H2 s2.heap.objs.size=none:=I2.hok.fresh (aH _);have nde:s2.heap.objs.size≠e:=fun z=>by rw [z,he] at hn; cases hn
 have ne1:∀ b,H2 b=none->b≠e:=fun b n z=>by rw [z,he] at n; cases n
 have ned:∀ b u,H2 b=some u->b≠s2.heap.objs.size:=fun b u q z=>by rw [z,hn] at q; cases q
 have nee:∀ b u,H2 b=some u->(∀ φ,u≠.ext φ)->b≠e:=fun b u q n z=>by
  rw [z,he] at q;cases q;exact n _ rfl
 have I3:=I2.un (t':=tk) (H':=upd (upd H2 s2.heap.objs.size (.xd [(f,y)])) e (iB e C (some s2.heap.objs.size))) ⟨fun b o q n _ _=>k b o (ne1 b n) q,fun b o q n _ _=>⟨o.slots,k b o (ne1 b n) q⟩,
  fun b o q n _=>by rw [bx (ne1 b n),bx (Nat.ne_of_lt (Heap.lt_size q))]; exact n,fun b o q _=>by
   by_cases z:b=e
   ·rw [z]; exact ⟨_,new⟩
   ·exact ⟨o,k b o z q⟩,
  fun b xs q=>by rw [bx (nee b _ q fun _ z=>by cases z),bx (ned b _ q)]; exact q,fun b o u q=>by rw [bx (nee b _ q fun _ z=>by cases z),bx (ned b _ q)]; exact q,
  fun b ps q=>⟨#[],by rw [bx (nee b _ q fun _ z=>by cases z),bx (ned b _ q),q]; simp⟩⟩ fun b u q=>by
   by_cases z:b=e
   ·subst z;rw [aC] at q;cases q;exact uK new
   ·rw [bx z] at q
    by_cases z2:b=s2.heap.objs.size
    ·subst z2;rw [aC] at q;cases q;refine ⟨_,nd,fun f'=>?_⟩
     by_cases ef:f'=f
     ·subst ef;have:([(f',y)]:List (Str × V)).lookup f'=some y:=by simp [List.lookup]
      rw [this,if_pos rfl];exact ry
     ·have:([(f,y)]:List (Str × V)).lookup f'=none:=by
       have z:(f' == f)=false:=by simpa using ef
       simp [List.lookup,z]
      rw [this,if_neg ef];trivial
    ·rw [bx z2] at q;refine (I2.hok b u q).stay (fun c o hc r=>k c o ?_ r) (fun c r=>by rw [bx (nee c _ r fun _ z=>by cases z),bx (ned c _ r)]; exact r) fun c xs r=>by rw [bx (nee c _ r fun _ z=>by cases z),bx (ned c _ r)]; exact r
     rcases hc with rfl | hc
     ·exact z
     ·exact nee c _ hc fun _ z=>by cases z
 exact ⟨σ,_,I3,q2 _ hn⟩
section
variable {prog:bT} {w:World} {A:cL} {E:au->aG->Prop} {s:aG} {K:Fg} {e C:aA} {oe od:Obj} {name:Str} {v:au}
theorem exc_value {tk:Tok} {Q:Fin->aG->Prop} (k:K.In s.heap) (I:InstAt s.heap e oe C (some od)) (hf:findObj K C (some od) name=some (.value v)) (h:Q (.done (.ret v)) s) : wpAny (model prog w) A (Builtin.«object.__getattribute__» ⟨[.ref e,.str name tk],[]⟩) Q E s:=by
 obtain ⟨h0,g0,d0,tt,o0⟩:=s;have ht:=I.type (M:=model prog w);have lf:=looks_find (M:=model prog w) k I hf
 (unfold Builtin.«object.__getattribute__»; refine aj (ak (aj (ak (aj (ht.at (aj (lf.at ?_))))))))
 exact ak h
theorem Q6 {expr:Bool} {Q:au->aG->Prop} (k:K.In s.heap) (t:QK K C) (I:InstAt s.heap e oe C (some od)) (hf:findObj K C (some od) name=some (.value v)) (hv:handedIn v=true) (h:Q v { s with toks:=s.toks + 1 }) : wpAny (model prog w) A (getAttr (.ref e) name expr) Q E s:=by
 obtain ⟨h0,g0,d0,tt,o0⟩:=s;have ht:=I.type (M:=model prog w);have lg:=looks_findIn (M:=model prog w) k t.ga;have lk:=looks_findIn (M:=model prog w) k t.hk;have ZG:Looks (model prog w) h0 (isInstance (.ref e) (.type "BaseException")) true:=ht.andThen (looks_subIn k t.be)
 (unfold getAttr getAttrBy; refine aj (wpAny_mkText (wpAny_holding (aj (ht.at (aj (lg.at ?_)))))))
 have no:(onTheHeap (Value.ref C) && Value.builtin "BaseException.__getattribute__" == Value.builtin "object.__getattribute__")=false:=by
  rw [show (Value.builtin "BaseException.__getattribute__" == Value.builtin "object.__getattribute__")=false by decide +kernel]; rfl
 dsimp only;rw [no,if_neg Bool.false_ne_true];unfold getAttrByItsOwn hookBefore;rw [if_pos (show onTheHeap (Value.ref C)=true from rfl)];refine aj (lk.at (aj (wpAny_attempt (wpAny_holding ?_))));unfold callGetattribute;rw [show (expr && onTheHeap (Value.builtin "BaseException.__getattribute__"))=false by cases expr <;> rfl,if_neg Bool.false_ne_true];unfold boundAndCalled;rw [(F.attr_ValueError).ga.bind];refine aj (ak ?_)
 show wpAny _ _ (call (.builtin "BaseException.__getattribute__") [.ref e,.str name tt]) _ _ _
 refine wpAny_call (codeAny_call_builtin (F.attr_ValueError).ga.plain F.entry_bexc_ga ?_);have hB:builtinKind "BaseException.__getattribute__"=some .slot:=by decide +kernel
 have hS:splitId "BaseException.__getattribute__"=some ("BaseException","__getattribute__"):=by decide +kernel
 have hA:=F.args_bexc_ga (.ref e) (.str name tt);refine @check_slot (model prog w) _ _ ⟨h0,g0,d0,tt + 1,o0⟩ _ _ _ (.ref e) [.str name tt] [] _ hB hS ZG hA ?_;refine exc_value (s:=⟨h0,g0,d0,tt + 1,o0⟩) k I hf ?_
 show wpAny (model prog w) A (handedOut v) _ _ _
 exact handed_on hv h
end
def ExcAt (H:Hp) (e C:aA) (fs:List (Str × V)):Prop:=∃ dx,H e=some (lR e (.ref C) (some dx))/\H dx=some (.xd fs)
section
variable {X:Cx} {pins:List (aA × Obj)} {σ:St} {H:Hp} {s:aG}
theorem ExcAt.inst {e C:aA} {fs:List (Str × V)} (I:Inv X pins σ H s) (x:ExcAt H e C fs):∃ oe od,InstAt s.heap e oe C (some od)/\∀ f,∃ u,lookIn f od=some u/\uR (fs.lookup f) u:=by
 obtain ⟨dx,he,hd⟩:=x;obtain ⟨oe,vs,h1,h2,h3,h4,_⟩:=(show dJ X.prog X.w H s.heap e (lR e (.ref C) (some dx)) from I.hok e _ he).1;obtain ⟨mA,ns,rel⟩:=(show dJ X.prog X.w H s.heap dx (.xd fs) from I.hok dx _ hd);obtain ⟨od,ho,lk⟩:=xO ns;exact ⟨oe,od,⟨h1,h2,by unfold notCls; rw [h4],by rw [h3]; exact ho⟩,fun f=>⟨_,lk f,rel f⟩⟩
end
noncomputable def aes (K:Fg) (ta:TE) (f:Str):TE:=fun σ H Q=>ta σ H fun x H1=>∃ e C fs v,x=.ref e/\ExcAt H1 e C fs/\QK K C/\hasDictIn K C=true/\findIn K (.ref C) f=some none/\fs.lookup f=some (.int v)/\Q (.int v) H1
theorem Q7 (K:Fg) {X:Cx} {o:Expr} {f:Str} {ta:TE} {pos:Pos} (he:PE X o ta) (hK:autoParam (X.K=K) zau0) (hb:autoParam (attributeBase o f X.env (eval o X.env)=eval o X.env) zau0):PE X (.Attribute o f pos) (aes K ta f):=by
 subst hK;intro pins s σ H Q I h;refine Gg hb (dX (he pins s σ H _ I h) fun u s1 ⟨x,H1,I1,rx,e,C,fs,v,ex,ea,t,hh,ha,l,q⟩=>?_);subst ex;obtain rfl:u=Value.ref e:=rx;obtain ⟨oe,od,J,lk⟩:=ea.inst I1;obtain ⟨u,hu,ru⟩:=lk f;rw [l] at ru;cases u with
 | none=>exact False.elim ru
 | some u =>
  obtain ⟨tk,rfl⟩:=(show RelV (.int v) u from ru);exact Q6 I1.jM t J (findObj_own hh ha rfl hu) rfl ⟨.int v,H1,I1.tok _,⟨_,rfl⟩,q⟩
def KQ (e C:aA) (h:Heap):Prop:=∃ oe od,InstAt h e oe C od
theorem KR {K:Fg} {e C:aA} (t:QK K C):KitX K (.ref e) (.ref C) (KQ e C) where
 ty:=fun M h k x=>by
  obtain ⟨oe,od,I⟩:=x;exact I.type
 it:=fun M h k x=>by
  obtain ⟨c,dd,cd,sl,q⟩:=t.obj;intro A' Q' E' s' keep hq;unfold isType loadHead;exact aj (wpAny_loadPart (keep C _ (k C _ q)) (ak hq))
 ne:=fun h tp dd its n sl k q=>by
  obtain ⟨c,d',cd,sl',q'⟩:=t.obj;cases z:(Value.ref C == Value.ref tp) with
  | false=>rfl
  | true =>
   cases Value.ref.inj (beq_iff_eq.mp z);rw [k C _ q'] at q;cases q
 ca:=fun k x h=>by
  obtain ⟨oe,od,I⟩:=x;exact Il k t I h
def vJ (H:Hp) (e C:aA):Prop:=H e=some (lR e (.ref C) none)\/∃ fs,ExcAt H e C fs
theorem vJ.is {X:Cx} {pins:List (aA × Obj)} {σ:St} {H:Hp} {s:aG} {e C:aA} (I:Inv X pins σ H s) (x:vJ H e C):KQ e C s.heap:=by
 rcases x with h | ⟨fs,h⟩
 ·obtain ⟨oe,vs,h1,h2,h3,h4,_⟩:=(show dJ X.prog X.w H s.heap e (lR e (.ref C) none) from I.hok e _ h).1;exact ⟨oe,none,h1,h2,by unfold notCls; rw [h4],by rw [h3]; trivial⟩
 ·obtain ⟨oe,od,J,_⟩:=h.inst I;exact ⟨oe,some od,J⟩
theorem jt (K:Fg) {X:Cx} (hK:autoParam (X.K=K) zau0):gK X (.builtin "isinstance") (fun xs H Q=>∃ e C c cv b,xs=[.ref e,c]/\RelV c cv/\(∃ C',c=.ref C'\/∃ T,c=.ty T)/\vJ H e C/\QK K C/\kitOne K (.ref C) cv=some b/\Q (.bl b) H):=by
 subst hK;intro pins s σ H xs us Q I r h;obtain ⟨e,C,c,cv,b,rfl,rc,kd,he,t,k1,q⟩:=h;obtain ⟨u,v,rfl,ru,rv⟩:=Vals.two r;cases (show u=Value.ref e from ru);have ev:v=cv:=by
  obtain ⟨C',rfl | ⟨T,rfl⟩⟩:=kd
  ·exact rv.trans (Eq.symm rc)
  ·exact rv.trans (Eq.symm rc)
 subst ev;exact kia_one (KR t) I.jM (he.is I) k1 (by
  obtain ⟨C',rfl | ⟨T,rfl⟩⟩:=kd
  ·intro z; cases (show v=Value.ref C' from rv); cases z
  ·intro z; cases (show v=Value.type T from rv); cases z) fun tk=>⟨.bl b,H,I.tok tk,rfl,q⟩
section
variable {X:Cx}
end
theorem Iz {prog:bT} {w:World} {A:cL} {it l:aA} {xs:Array au} {tu:Bool} (f:Nat) (hh:A.handled=none) (ne:l≠it) : PySem.Draws prog w A it [it,l] (f + xs.size) (fun j v=>xs[j - f]?=some v) (fun j h=>f<=j/\Over h it l xs (j - f) tu) where
 live:=fun _ _ st=>st.2.Ko
 frame:=fun _ _ _ st hk=>⟨st.1,DG _ _ st.2 hk⟩
 item:=fun j s Q E lt0 st hQ=>by
  have lt:j - f < xs.size:=by omega
  refine DK ne (Array.getElem?_eq_getElem lt) s Q E st.2 fun h' o' sb=>hQ _ h' s.toks (Array.getElem?_eq_getElem lt) ⟨by omega,?_⟩ sb
  rw [show j + 1 - f=j - f + 1 by omega];exact o'
 done:=fun s Q E st hE=>xY (k:=f + xs.size - f) (by rw [Nat.add_sub_cancel_left]; simp) hh s Q E st.2 fun h' e x y=>hE h' e x y
def SqB (K:Fg) (tu:Bool) (H:Hp) (l:aA) (xs:List V):Prop:=match tu with
 | false=>cY K H l xs
 | true=>tY K H l xs
def Bs (tu:Bool) (h:Heap) (it l:aA) (i:Nat):Prop:=match tu with
 | false=>h.IsListIter it l i
 | true=>h.IsTupleIter it l i
noncomputable def Itx (K:Fg) (tu:Bool) (f:Nat) (l:aA):It := ⟨fun i H=>∃ xs x,SqB K tu H l xs/\xs[i]?=some x,fun i H v H'=>∃ T,H T=none/\v=.ref T/\∀ xs x,SqB K tu H l xs->xs[i]?=some x->H'=upd H T (.tup [.int (f + i:Nat),x]),fun i H=>∃ xs,SqB K tu H l xs/\xs.length<=i⟩
structure Bt (tu:Bool) (f:Nat) (e it l:aA) (i:Nat) (h:Heap):Prop where
 cell:∃ old,IsEnum h e it ((f + i:Nat):Int) old
 one:Bs tu h it l i
theorem Bs.obj {tu:Bool} {h:Heap} {it l:aA} {i:Nat} (o:Bs tu h it l i):∃ ob vs,h.get? it=some ob/\ob.data=.fields vs:=by
 cases tu with
 | false=>obtain ⟨ob,q,_,d⟩:=o; exact ⟨ob,_,q,d⟩
 | true=>obtain ⟨ob,q,_,d⟩:=o; exact ⟨ob,_,q,d⟩
theorem Bs.stays {tu:Bool} {h h':Heap} {it l:aA} {i:Nat} (o:Bs tu h it l i) (k:∀ ob,h.get? it=some ob->h'.get? it=some ob):Bs tu h' it l i:=by
 cases tu with
 | false=>obtain ⟨ob,q,r⟩:=o; exact ⟨ob,k ob q,r⟩
 | true=>obtain ⟨ob,q,r⟩:=o; exact ⟨ob,k ob q,r⟩
theorem over_of {X:Cx} {pins:List (aA × Obj)} {σ:St} {H:Hp} {s:aG} {tu:Bool} {l it:aA} {xs:List V} {i:Nat} (I:Inv X pins σ H s) (sx:SqB X.K tu H l xs) (o:Bs tu s.heap it l i):∃ its:List au,Vals xs its/\Over s.heap it l its.toArray i tu/\l≠it:=by
 cases tu with
 | false =>
  obtain ⟨its,v,p,_⟩:=I.list sx;refine ⟨its,v,.lst o p.isList,fun z=>?_⟩;obtain ⟨o1,q1,c1,_⟩:=o;obtain ⟨o2,q2,c2,_⟩:=p.isList;rw [z,q1] at q2;cases q2;rw [c1] at c2;exact absurd (Value.type.inj c2) (by decide)
 | true =>
  obtain ⟨its,v,p,_⟩:=I.tuple sx;refine ⟨its,v,.tup o p,fun z=>?_⟩;obtain ⟨o1,q1,c1,_⟩:=o;obtain ⟨o2,q2,c2,_⟩:=p;rw [z,q1] at q2;cases q2;rw [c1] at c2;exact absurd (Value.type.inj c2) (by decide)
theorem Over.on {h:Heap} {it l:aA} {xs:Array au} {k:Nat} {tu:Bool} (o:Over h it l xs k tu):Bs tu h it l k:=by
 cases o with
 | lst a _=>exact a
 | tup a _=>exact a
theorem Q8 {X:Cx} {pins:List (aA × Obj)} {σ:St} {H:Hp} {s:aG} {tu:Bool} {l:aA} {xs ys:List V} (I:Inv X pins σ H s) (h:SqB X.K tu H l xs) (h':SqB X.K tu H l ys):xs=ys:=by
 cases tu with
 | false=>exact I.Ak h h'
 | true=>exact I.HF h h'
theorem DP {P:bT} {w:World} {K:Fg} {elts:List Expr} {k:Nat} {pos:Pos} {e it l:aA} {tu:Bool} {f:Nat} (ne:e≠it) (nl:e≠l):Turn P w K (.Tuple elts k pos) (Itx K tu f l) [e,it] e (Bt tu f e it l) where
 mem:=by simp
 obj:=fun i h R c hc=>by
  obtain ⟨old,q0⟩:=R.cell;obtain ⟨o1,vs,q1,d1⟩:=R.one.obj;simp only [aK,not_mem_nil,or_false] at hc;rcases hc with rfl | rfl
  ·exact ⟨_,q0,fun v q=>by cases q⟩
  ·exact ⟨o1,q1,fun v q=>by rw [d1] at q; cases q⟩
 keep:=fun i h h' R kp=>by
  obtain ⟨old,q0⟩:=R.cell;exact ⟨⟨old,kp e (by simp) _ q0⟩,R.one.stays (kp it (by simp))⟩
 item:=by
  intro X hP hw hK hc i pins s σ H E I hf R go;subst hP hw hK;obtain ⟨xs,x,sx,hx⟩:=go;obtain ⟨its,v1,ov,lne⟩:=over_of I sx R.one;obtain ⟨ux,gx,rx⟩:=v1.get hx;obtain ⟨old,q0⟩:=R.cell;have fr:s.heap.get? s.heap.objs.size=none:=Heap.get?_none_of_le (aH _);have there:∀ c ∈ [e,it],∃ o,s.heap.get? c=some o:=fun c hc=>by
   obtain ⟨o1,_,q1,_⟩:=R.one.obj;simp only [aK,not_mem_nil,or_false] at hc;rcases hc with z | z <;> rw [z]
   ·exact ⟨_,q0⟩
   ·exact ⟨_,q1⟩
  have elt:s.heap.objs.size≠e:=Nat.ne_of_gt (Heap.lt_size q0);have li:i < its.toArray.size:=by
   rw [size_toArray];exact (aP.mp gx).1
  refine wpAny_pyNext_enum_itemD (Iz f (I.ok.hd hc) lne) (i:=f + i) q0 ⟨Nat.le_add_right _ _,by rw [Nat.add_sub_cancel_left]; exact ov⟩ (by omega) ne (by simp [ne,nl]) fun x' h1 tk hx1 c1 st1 pr _ past=>⟨.ref s.heap.objs.size,rfl,wpAny_letOwnedTupleGo_enum (s:={ s with heap:=h1,toks:=tk + 1 }) c1 fun h2 c2 sb=>?_⟩
  have ex:x'=ux:=by
   rw [Nat.add_sub_cancel_left] at hx1;have:its[i]?=some x':=by simpa using hx1
   rw [gx] at this;exact Eq.symm (bY this)
  subst ex;have pr2:=sb.extBut _ _ elt pr;refine ⟨.ref s.heap.objs.size,upd H s.heap.objs.size (.tup [.int (f + i:Nat),x]),Inv.drawn (h':=h2) (t':=tk + 1) (ch:=[e,it]) (s:=s) I hf (fun c o out q=>?_) fr ⟨QJ,[.int (f + i:Nat) tk,x'],.cons ⟨_,rfl⟩ (.cons rx .nil),⟨_,pr2,rfl,_,rfl⟩⟩,rfl,⟨_,I.hok.none_of fr,rfl,fun xs' x2 sx' hx'=>?_⟩,⟨⟨x',c2⟩,?_⟩,fun c hc=>?_⟩
  ·simp only [aK,not_mem_nil,or_false,not_or] at out;exact sb.extBut c o out.1 (past c o out.1 out.2 q)
  ·have e1:=Q8 I sx' sx;subst e1;rw [hx] at hx';cases hx'; rfl
  ·have o2:=st1.2;rw [show f + i + 1 - f=i + 1 by omega] at o2;exact o2.on.stays fun ob q=>sb.extBut _ _ (Ne.symm ne) q
  ·obtain ⟨o,q⟩:=there c hc;rw [bx (fun z=>by rw [z,fr] at q; cases q)];exact (hf c hc).1
 done:=by
  intro X hP hw hK hc i pins s σ H E I hf R stop;subst hP hw hK;obtain ⟨xs,sx,le⟩:=stop;obtain ⟨its,v1,ov,lne⟩:=over_of I sx R.one;obtain ⟨old,q0⟩:=R.cell;have l1:=v1.length;have none_:its.toArray[i]?=none:=by simp; omega
  have hT:s.TypeIs (.ref e) "enumerate":=⟨_,q0,rfl⟩;refine aj (wpAny_attempt (wpAny_callSpecial?_slot (name:=Str.ofString "__next__") hT PySem.F.slot_enumerate_next (wpAny_call_entry PySem.F.slot_enumerate_next hT PySem.F.entry_enumerate_next ?_ (PySem.F.args_enumerate_next_1 _))));refine aj (m:=field (.ref e) 2) (wpAny_field q0 rfl (x:=.ref it) rfl (aj (xY none_ (show X.A.in1.handled=none from I.ok.hd hc) _ _ _ ov fun h' x past hx=>?_)));obtain ⟨o,ho,ho2⟩:=hx;refine aj (wpAny_isInstance (T:="StopIteration") (b:=true) ⟨o,ho,ho2⟩ isSubtype_stop (ak ⟨rfl,I.turns (t':=s.toks) (ch:=[e,it]) hf fun c o' out q=>?_⟩));simp only [aK,not_mem_nil,or_false,not_or] at out;exact past c o' out.2 q
 self:=fun _ _ _ _ _ R q=>by
  obtain ⟨old,q0⟩:=R.cell;exact wpAny_pyIter_enum q0 q
theorem Q9 {T newId:String} {o a u:au} {k:Str} (hl:typeLookup (.type T) "__init__"=pure (some (.builtin "object.__init__"))) (hm:Bind.madeBy (.type T)=pure (some newId)) (hne:(some newId != some "object.__new__")=true) : Meets (Builtin.«object.__init__» ⟨[o,a],[(k,u)]⟩) (fun _ R s=>s.TypeIs o T/\R (.ok (.ret .none)) s) := .of_wp fun prog w A R s hs=>by
 obtain ⟨ty,q⟩:=hs
 repeat any_goals first | assumption | wp_step
 exact ⟨_,rfl,q⟩
def uL (it:aA) (f:Nat):Obj:={ cls:=.type "enumerate",data:=.fields #[.none,.bool false,.ref it,rawInt f,.none,.none] }
theorem KY (a u:au):checkTypeCall "enumerate" ⟨[a],[(Str.ofString "start",u)]⟩=pure ():=by kernel_rfl
theorem KZ (a u:au):checkBuiltinCall "enumerate.__new__" ⟨[.type "enumerate",a],[(Str.ofString "start",u)]⟩=pure ():=by kernel_rfl
theorem K1 (o a u:au):argsOk "object.__init__" ⟨[o,a],[(Str.ofString "start",u)]⟩:=by
 unfold argsOk; rw [signature?_of (id:="object.__init__") (n:=['_','_','t','i','n','i','_','_']) (o:=['t','c','e','j','b','o']) (by kernel_rfl) PySem.F.owner_object]; kernel_rfl
section
variable {prog:bT} {w:World} {A:cL} {E:au->aG->Prop} {s:aG}
theorem K3 {T newId:String} {Bn:Builtin} {a u:au} {k:Str} {S:PySem.Spec} {Q:au->aG->Prop} (ft:TypeCalled T newId "object.__init__") (hne:(some newId != some "object.__new__")=true) (hct:checkTypeCall T ⟨[a],[(k,u)]⟩=pure ()) (hcn:checkBuiltinCall newId ⟨[.type T,a],[(k,u)]⟩=pure ()) (hok:∀ o,argsOk "object.__init__" ⟨[o,a],[(k,u)]⟩) (entryN:entryFor table newId=some Bn) (g:Meets (Bn ⟨[.type T,a],[(k,u)]⟩) S) (h:S A.in1 (wants (fun o s₁=>s₁.TypeIs o T/\Q o s₁) E) s):wpAny (model prog w) A (call (.type T) [a] [(k,u)]) Q E s:=by
 obtain ⟨cl,tl,hmro⟩:=ft.mro;have hmade:=ft.made;have hsub:=ft.sub;refine wpAny_call (codeAny_of_tree ?_); change wpAny _ _ (callAny (.type T) _) _ _ _;refine ak (And.intro (Code.quiet_builtin _ (by decide +kernel)) (codeAny_builtin PySem.F.entry_type_call ?_));rw [Around.under_plain (weight_type_call_type T [a] [(k,u)]) (units_type_call_type T [a] [(k,u)])];have h1:=ft.notType;have h2:=ft.canCreate;have w1:=g prog w A.in1 _ s h
 repeat any_goals first | assumption | wp_step
 refine bL (codeAny_call_builtin ft.plain entryN (wpAny_of_eq hcn w1)) fun r s₁ hr=>?_
 rcases r with e | fl
 ·exact hr
 cases fl with
 | ret o =>
  have hli:=ft.init.lookup;have hbi:=ft.init.bind o;have w2:=Q9 (o:=o) (a:=a) (u:=u) (k:=k) ft.init.lookup ft.made hne prog w A.in1 (wants (fun r s₂=>r=.none/\Q o s₂) E) s₁ ⟨hr.1,rfl,hr.2⟩;have hT:=hr.1
  repeat any_goals first | assumption | wp_step
  refine bL (codeAny_call_builtin ft.init.plain PySem.F.entry_object_init (ft.init.check _ _ _ _ _ _ _ _ hT (hok o) w2)) fun r₂ s₂ hr₂=>?_
  rcases r₂ with e | fl₂
  ·exact hr₂
  cases fl₂ with
  | ret r =>
   obtain ⟨rfl,hq⟩:=hr₂
   repeat any_goals first | assumption | wp_step
  | _=>exact hr₂.elim
 | _=>exact hr.elim
end
theorem IK (l:aA) (xs:Array au) (f:Nat) (t:Tok) (hf:Builtin.SmallTypes.fitsIndex (f:Int)=true):Meets (Builtin.«enumerate.__new__» ⟨[.type "enumerate",.ref l],[(Str.ofString "start",.int (f:Int) t)]⟩) (fun _ R s=>s.heap.IsList l xs/\R (.ok (.ret (.ref (s.heap.objs.size + 1)))) { s with heap:=(s.heap.push (zip2 l)).push (uL s.heap.objs.size f) }) := .of_wp fun prog w A R s h=>by
 obtain ⟨hp,gs,dr,tk,oss⟩:=s; obtain ⟨q1,r⟩:=h;have sub:=sub_enumerate;have q1':Heap.IsList (Shared.heap ⟨hp,gs,dr,tk,oss⟩) l xs:=q1
 wp_walk using wpAny_pyIter_list q1'
 refine wpAny_stack_any fun _=>ak ?_
 have e1:(hp.push { cls:=.type "list_iterator",data:=.fields #[.ref l,.int 0 0] }).objs.size=hp.objs.size + 1:=Heap.size_push _ _;generalize (Builtin.SmallTypes.fitsIndex:Int->Bool)=fits at hf ⊢
 split
 ·rename_i cl _ _ _ _ _
  cases (cl == Value.type "enumerate") <;> (wp_walk using wpAny_pyIter_list q1'; refine ⟨_,rfl,?_⟩; rw [e1]; exact r)
 ·wp_walk using wpAny_pyIter_list q1'
  refine ⟨_,rfl,?_⟩;rw [e1];exact r
section
variable {prog:bT} {w:World} {A:cL} {E:au->aG->Prop} {s:aG}
theorem Ra {h:Heap} {o:Obj} {f:Nat} (hf:o.isFreed=false):((h.push o).push (uL h.objs.size f)).get? (h.objs.size + 1)=some (uL h.objs.size f)/\((h.push o).push (uL h.objs.size f)).get? h.objs.size=some o:=by
 have z:(h.push o).objs.size=h.objs.size + 1:=Heap.size_push _ _;refine ⟨?_,ao _ (aD _ hf)⟩;rw [<- z];exact aD _ rfl
theorem DQ {l:aA} {xs:Array au} {f:Nat} {t:Tok} {Q:au->aG->Prop} (hf:Builtin.SmallTypes.fitsIndex (f:Int)=true) (hl:s.heap.IsList l xs) (q:∀ h',Bt false f (s.heap.objs.size + 1) s.heap.objs.size l 0 h'->(∀ b o,s.heap.get? b=some o->h'.get? b=some o)->Q (.ref (s.heap.objs.size + 1)) { s with heap:=h' }) : wpAny (model prog w) A (call (.type "enumerate") [.ref l] [(Str.ofString "start",.int (f:Int) t)]) Q E s:=by
 have at_:=Ra (h:=s.heap) (o:=zip2 l) (f:=f) rfl;refine K3 PySem.F.called_enumerate (by decide) (KY _ _) (KZ _ _) (fun _=>K1 _ _ _) PySem.F.entry_enumerate_new (IK l xs f t hf) ⟨hl,⟨_,at_.1,rfl⟩,q _ ⟨⟨_,at_.1⟩,⟨_,at_.2,rfl,rfl⟩⟩ fun b o e=>ao _ (ao _ e)⟩
theorem vK {M:Model} {env:Env} {pos:Pos} {T:String} {e:Expr} {kws:List Keyword} {Q:au->aG->Prop} (h:wpAny M A (spliced (backTo pos (starEach [e] env))) (fun vs s₁=>wpAny M A (evalAll ((backToKw pos (keywordEach kws env)).map (·.2))) (fun kvs s₂=>wpAny M A (call (.type T) vs (((backToKw pos (keywordEach kws env)).filterMap (·.1)).zip kvs)) Q E s₂) E s₁) E s) (he:starEach [e] env=[(false,eval e env)]) (hall:(backToKw pos (keywordEach kws env)).all (·.1.isSome)=true) (hkw:(backToKw pos (keywordEach kws env)).any (·.1.isNone)=false) : wpAny M A (callWith pos (.type T) [] (backTo pos (starEach [e] env)) (backToKw pos (keywordEach kws env))) Q E s:=by
 have e2:backTo pos (starEach [e] env)=(false,eval e env)::[]:=by rw [he]; rfl
 rw [e2] at h ⊢;unfold callWith;refine aj (wpAny_holding (bF (evalArgs_kwB (Q:=fun a s₂=>wpAny M A (call (.type T) a.pos a.kw) Q E s₂) hall h) (fun a s₁ h₁=>aj (wpAny_standAt ?_)) fun _ _ x=>x));have pl:[(false,eval e env)].any (·.1)=false:=rfl;simp only [pl,hkw,Bool.or_false];exact aj (ak (aj (bF h₁ (fun r s₂ hr=>aj (wpAny_holding (wpAny_point (ak hr)))) fun _ _ x=>x)))
end
section
variable {X:Cx}
def ZS (K:Fg) (ta:TA) (tf:TE):TI:=fun σ H R=>ta σ H fun vs H1=>tf σ H1 fun u H2=>∃ (l:aA) (xs:List V) (f:Nat),vs=[.ref l]/\u=.int (f:Nat)/\f < 2 ^ 62/\cY K H2 l xs/\R (Itx K false f l) H2
theorem Rb {X:Cx} {pins:List (aA × Obj)} {σ:St} {H:Hp} {s:aG} (I:Inv X pins σ H s):∀ b ∈ [s.heap.objs.size + 1,s.heap.objs.size],pA X pins H b:=fun b hb=>by
 have le:s.heap.objs.size<=b:=by
  simp only [aK,or_false,not_mem_nil] at hb;omega
 exact I.Qp (H':=H) le (I.hok.fresh le)
theorem K4 {e1 e2:Expr} {elts:List Expr} {k:Nat} {tp p pos kp:Pos} {ta:TA} {tf:TE} (hg:Gl X "enumerate") (hm:X.mg "enumerate"=none) (ha:PA X [e1] ta) (hf:PE X e2 tf) (st1:autoParam (starEach [e1] X.env=[(false,eval e1 X.env)]) zau0) : PI X (.Tuple elts k tp) (.Call (.Name "enumerate" p) [e1] [⟨some "start",e2,kp⟩] pos) (ZS X.K ta tf):=by
 intro pins s σ H R I h;refine wpAny_Call_Name_kw (uU I hg hm boot_enumerate (vK (dX (ha pos pins s σ H _ I h) fun us a ⟨vs,H1,I1,r,q⟩=>kws_cons (dX (hf pins a σ H1 _ I1 q) fun u2 a2 ⟨v2,H2,I2,r2,l,xs,f,e,e2,le,sx,q2⟩=>kws_nil ?_)) st1 (by rfl) (by rfl)));subst e e2;obtain ⟨u1,e,r1⟩:=vals1 r;subst e;cases r1;obtain ⟨tk,rfl⟩:=r2;obtain ⟨its,v1,p1,_⟩:=I2.list sx;have lt:l < a2.heap.objs.size:=by obtain ⟨o,ho,_⟩:=p1.isList; exact Heap.lt_size ho
 refine DQ (f:=f) ?_ p1.isList fun h' c1 old=>?_
 ·unfold Builtin.SmallTypes.fitsIndex;simp only [decide_eq_true_eq,Bool.and_eq_true];omega
 have I3:Inv X pins σ H2 { a2 with heap:=h' }:=I2.kept (t':=a2.toks) old;obtain ⟨ov,c0⟩:=c1.cell;exact wpAny_pyIter_enum (s:={ a2 with heap:=h' }) c0 ⟨_,[a2.heap.objs.size + 1,a2.heap.objs.size],_,_,H2,rfl,I3,DP (tu:=false) (f:=f) (Nat.succ_ne_self _) (Nat.ne_of_gt (Nat.lt_succ_of_lt lt)),c1,Rb I2,q2⟩
end
section
variable {prog:bT} {w:World} {A:cL} {E:au->aG->Prop} {s:aG} {z ti to a b l m:aA} {xs ys:Array au} {i j:Nat} {u v:au} {t1 t2:Bool}
end
section
variable {X:Cx}
end
end L2
namespace Tw
open PySem L2
section
variable {K:Fg} {α β:Type} {S:Rep β}
theorem oU (R:Rep α) (sS:QT S) {J:It} {D:aA} {H:Hp} {xs:List α} {σ0:St} {g:TG} {tc:TT} {te:TE} {Qe:Hp->Prop} (pr:α->Bool) (f:α->β) (ok:α->Prop) (hz:xs.length<=sizeLine) (hD:H D=none) (go:∀ i H',i < xs.length->Same H H'->J.go i H') (stop:∀ H',Same H H'->J.stop xs.length H') (yl:∀ i x v H' H2,xs[i]?=some x->Same H H'->J.Jx i H' v H2->Same H' H2/\R H2 v x) (body:∀ (i:Nat) x v H2,xs[i]?=some x->R H2 v x->Same H H2->∀ (Qc:VK) (Qn:Hp->Prop),(pr x=true->ok x->∀ u H3,Same H2 H3->S H3 u (f x)->Qc u H3)->(pr x=false->∀ H3,Same H2 H3->Qn H3) -> g v σ0 H2 fun σ2 H'=>mF σ0 σ2/\tc σ2 H' fun b H3=>if b=true then te σ2 H3 Qc else Qn H3) (q:∀ H',Same H H'->(∀ x ∈ xs,pr x=true->ok x)->jO S H' (.ref D) ((xs.filter pr).map f)->Qe H') : ∃ W:Nat->Nat->List V->Hp->Prop,(∃ m,W 0 m [] (L2.upd H D (.lst [])))/\pJ D J σ0 g tc te Qe W:=by
 refine zu xs.length hz (fun i acc H'=>Same H H'/\H' D=some (.lst acc)/\(∀ x ∈ xs.take i,pr x=true->ok x)/\Paired (S H') acc (((xs.take i).filter pr).map f)) ⟨aQ hD,aC,fun x hx=>by rw [List.take_zero] at hx; exact absurd hx (by simp),.nil⟩ (fun i acc H' le ⟨_,e,_,p⟩=>⟨?_,e⟩) ?_ ?_
 ·rw [Paired.length p,aq];exact bA (length_filter_le _ _) (by rw [length_take]; omega)
 ·rintro acc H' ⟨s',e,al,p⟩;rw [cJ] at p al;exact ⟨stop H' s',q H' s' al ⟨D,acc,rfl,e,p⟩⟩
 ·rintro i acc H' lt ⟨s',e,al,p⟩;have hx:xs[i]?=some xs[i]:=aR lt;refine ⟨go i H' lt s',?_⟩;intro y za hy Qc Qn k kn;obtain ⟨s2,rv⟩:=yl i xs[i] y H' za hx s' hy;refine body i xs[i] y za hx rv (s'.trans s2) Qc Qn (fun ep eo u H3 s3 ru=>?_) (fun ep H3 s3=>?_)
  ·have e3:=s3 _ _ (s2 _ _ e);refine k u H3 e3 ⟨oR ((s'.trans s2).trans s3) hD,aC,fun x hx' hp=>?_,?_⟩
   ·rw [take_snoc hx] at hx';rcases bZ.mp hx' with z | z
    ·exact al x z hp
    ·rw [aL.mp z]; exact eo
   ·rw [take_snoc hx,cG,aW];have ef:[xs[i]].filter pr=[xs[i]]:=by simp [ep]
    rw [ef];exact Paired.snoc (Paired.mX p fun _ _ z=>sS.upd (sS.same z (s2.trans s3)) e3) (sS.upd ru e3)
  ·refine kn H3 ⟨(s'.trans s2).trans s3,s3 _ _ (s2 _ _ e),fun x hx' hp=>?_,?_⟩
   ·rw [take_snoc hx] at hx';rcases bZ.mp hx' with z | z
    ·exact al x z hp
    ·rw [aL.mp z,ep] at hp; cases hp
   ·rw [take_snoc hx,cG];have ef:[xs[i]].filter pr=[]:=by simp [ep]
    rw [ef,cN];exact Paired.mX p fun _ _ z=>sS.same z (s2.trans s3)
end
end Tw
namespace L2
open PySem PySem.Spec PyProof.Rows
def Gr (X:Cx) (σ:St) (E:XK):Prop:=∀ pins H s e cls dx,Inv X pins σ H s->Fly X pins H s e cls dx->E cls dx H->X.xe (.ref e) s
def PES (X:Cx) (σ:St) (e:Expr) (t:TE):Prop:=∀ pins s H Q,Inv X pins σ H s->t σ H Q->wpAny (model X.prog X.w) X.A (eval e X.env) (EP X pins σ Q) X.xe s
def PSS (X:Cx) (σ:St) (st:cQ) (t:TS):Prop:=∀ pins s H D,Inv X pins σ H s->t D σ H->wpAny (model X.prog X.w) X.A (exec st X.env) (SP X pins D) X.xe s
def IV (X:Cx) (σ:St) (b:List cQ) (t:TS):Prop:=∀ pins s H D,Inv X pins σ H s->t D σ H->wpAny (model X.prog X.w) X.A (execs b X.env) (SP X pins D) X.xe s
section
variable {X:Cx} {σ:St} {E:XK} {k:Nat} {f:aA} {fd:dN} {ps:List Str} {sp:Sp} {oJ:List V} {ds:List au} {x:Str} {p pos:Pos} {e:Expr} {es:List Expr} {t:TA}
theorem Rc (acc:Gr X σ E) {pins:List (aA × Obj)} {H:Hp} {s s':aG} {ev:au} (I:Inv X pins σ H s) (h:eZ X.prog X.w X.stack H s E ev s'):X.xe ev s':=by
 obtain ⟨e,cls,dx,H',t,rfl,os,bare,un,hok,x,ne,nt,fe,ft,q⟩:=h;have I':Inv X pins σ H' s':=I.call' (ch:=[]) os un hok bare (fun b z=>nomatch z);refine acc pins H' s' e cls dx I' ⟨some t,x,⟨ne,(I.gB fe).2⟩,fun y z=>?_⟩ q;cases z;exact ⟨nt,(I.gB ft).2⟩
theorem vL {st:cQ} {t:TS} (h1:PSS X σ st t):IV X σ [st] t:=by
 intro pins s H D I h;refine wpAny_execs_cons (dX (h1 pins s H D I h) fun f s1 q=>?_);cases f with
 | next=>exact wpAny_execs_nil q
 | ret v=>exact q
 | brk=>exact q
 | cont=>exact q
end
section
variable {X:Cx} {x n:Str} {c:au} {i:Nat} {np hpos pos:Pos} {body suite:List cQ} {b₀:cQ} {tb:XK->TS} {ts:TS} {L:aA} {hit:au->Prop}
end
end L2
namespace Tw
open PySem L2
section
variable {K:Fg} {α β:Type}
theorem rm (R:Rep α) {S:Rep β} {J:It} {D:aA} {H:Hp} {xs:List α} {σ0:St} {g:TG} {tc:TT} {te:TE} {Qe:Hp->Prop} (sS:∀ {H1 H2:Hp} {v:V} {x:β},S H1 v x->Same H1 H2->S H2 v x) (sU:∀ {H1:Hp} {v:V} {x:β} {o:HO},S H1 v x->S (L2.upd H1 D o) v x) (pr:α->Bool) (f:α->β) (ok:α->Prop) (hz:xs.length<=sizeLine) (hD:H D=none) (go:∀ i H',i < xs.length->Same H H'->J.go i H') (stop:∀ H',Same H H'->J.stop xs.length H') (yl:∀ i x v H' H2,xs[i]?=some x->Same H H'->J.Jx i H' v H2->Same H' H2/\R H2 v x) (body:∀ (i:Nat) x v H2,xs[i]?=some x->R H2 v x->Same H H2->(∃ acc,H2 D=some (.lst acc))->∀ (Qc:VK) (Qn:Hp->Prop),(pr x=true->ok x->∀ u H3,Same H2 H3->S H3 u (f x)->Qc u H3)->(pr x=false->∀ H3,Same H2 H3->Qn H3) -> g v σ0 H2 fun σ2 H'=>mF σ0 σ2/\tc σ2 H' fun b H3=>if b=true then te σ2 H3 Qc else Qn H3) (q:∀ H',Same H H'->(∀ x ∈ xs,pr x=true->ok x)->jO S H' (.ref D) ((xs.filter pr).map f)->Qe H') : ∃ W:Nat->Nat->List V->Hp->Prop,(∃ m,W 0 m [] (L2.upd H D (.lst [])))/\pJ D J σ0 g tc te Qe W:=by
 refine zu xs.length hz (fun i acc H'=>Same H H'/\H' D=some (.lst acc)/\(∀ x ∈ xs.take i,pr x=true->ok x)/\Paired (S H') acc (((xs.take i).filter pr).map f)) ⟨aQ hD,aC,fun x hx=>by rw [List.take_zero] at hx; exact absurd hx (by simp),.nil⟩ (fun i acc H' le ⟨_,e,_,p⟩=>⟨?_,e⟩) ?_ ?_
 ·rw [Paired.length p,aq];exact bA (length_filter_le _ _) (by rw [length_take]; omega)
 ·rintro acc H' ⟨s',e,al,p⟩;rw [cJ] at p al;exact ⟨stop H' s',q H' s' al ⟨D,acc,rfl,e,p⟩⟩
 ·rintro i acc H' lt ⟨s',e,al,p⟩;have hx:xs[i]?=some xs[i]:=aR lt;refine ⟨go i H' lt s',?_⟩;intro y za hy Qc Qn k kn;obtain ⟨s2,rv⟩:=yl i xs[i] y H' za hx s' hy;refine body i xs[i] y za hx rv (s'.trans s2) ⟨acc,s2 _ _ e⟩ Qc Qn (fun ep eo u H3 s3 ru=>?_) (fun ep H3 s3=>?_)
  ·refine k u H3 (s3 _ _ (s2 _ _ e)) ⟨oR ((s'.trans s2).trans s3) hD,aC,fun x hx' hp=>?_,?_⟩
   ·rw [take_snoc hx] at hx';rcases bZ.mp hx' with z | z
    ·exact al x z hp
    ·rw [aL.mp z]; exact eo
   ·rw [take_snoc hx,cG,aW];have ef:[xs[i]].filter pr=[xs[i]]:=by simp [ep]
    rw [ef];exact Paired.snoc (Paired.mX p fun _ _ z=>sU (sS z (s2.trans s3))) (sU ru)
  ·refine kn H3 ⟨(s'.trans s2).trans s3,s3 _ _ (s2 _ _ e),fun x hx' hp=>?_,?_⟩
   ·rw [take_snoc hx] at hx';rcases bZ.mp hx' with z | z
    ·exact al x z hp
    ·rw [aL.mp z,ep] at hp; cases hp
   ·rw [take_snoc hx,cG];have ef:[xs[i]].filter pr=[]:=by simp [ep]
    rw [ef,cN];exact Paired.mX p fun _ _ z=>sS z (s2.trans s3)
theorem Rf {R:Rep α} (sR:∀ {H1 H2:Hp} {v:V} {x:α},R H1 v x->Same H1 H2->R H2 v x) {H:Hp} {l:aA} {f:Nat} {xs:List α} (hl:jO R H (.ref l) xs):(∀ i H',i < xs.length->Same H H'->(Itx K false f l).go i H')/\(∀ H',Same H H'->(Itx K false f l).stop xs.length H') /\ ∀ i x v H' H2,xs[i]?=some x->Same H H'->(Itx K false f l).Jx i H' v H2->Same H' H2/\∃ t u,v=.ref t/\H2 t=some (.tup [.int (f + i:Nat),u])/\R H2 u x:=by
 obtain ⟨l',vs,el,hv,pv⟩:=hl;cases el;have ln:=Paired.length pv;refine ⟨fun i H' lt s'=>?_,fun H' s'=>⟨vs,cY.of (s' _ _ hv),by omega⟩,fun i x v H' H2 hx s' hy=>?_⟩
 ·obtain ⟨v,Io,_⟩:=jl pv (aR lt);exact ⟨vs,v,cY.of (s' _ _ hv),Io⟩
 ·obtain ⟨T,hT,rfl,hy⟩:=hy;obtain ⟨v',Io,rv⟩:=jl pv hx;rw [hy vs v' (cY.of (s' _ _ hv)) Io];have n:=aQ (o:=.tup [V.int (f + i:Nat),v']) hT;exact ⟨n,T,v',rfl,aC,sR rv (s'.trans n)⟩
theorem qC {R:Rep α} (sR:∀ {H1 H2:Hp} {v:V} {x:α},R H1 v x->Same H1 H2->R H2 v x) {H:Hp} {l:aA} {xs:List α} (hl:jO R H (.ref l) xs):(∀ i H',i < xs.length->Same H H'->(Oh K l).go i H')/\(∀ H',Same H H'->(Oh K l).stop xs.length H') /\ ∀ i x v H' H2,xs[i]?=some x->Same H H'->(Oh K l).Jx i H' v H2->Same H' H2/\R H2 v x:=by
 obtain ⟨l',vs,el,hv,pv⟩:=hl;cases el;have ln:=Paired.length pv;refine ⟨fun i H' lt s'=>?_,fun H' s'=>⟨vs,cY.of (s' _ _ hv),by omega⟩,fun i x v H' H2 hx s' hy=>?_⟩
 ·obtain ⟨v,Io,_⟩:=jl pv (aR lt);exact ⟨vs,v,cY.of (s' _ _ hv),Io⟩
 ·obtain ⟨e,hy⟩:=hy;subst e;obtain ⟨v',Io,rv⟩:=jl pv hx;have ey:=hy vs (cY.of (s' _ _ hv));rw [Io] at ey;cases ey;exact ⟨Same.refl _,sR rv s'⟩
end
end Tw
namespace L2
open PySem
section
variable {prog:bT} {w:World} {A:cL} {E:au->aG->Prop} {s:aG}
end
section
variable {X:Cx}
end
end L2
namespace L2
open PySem PySem.Spec PyProof.Rows Builtin Builtin.Str
section
variable {X:Cx}
theorem yd:∀ {zs:List Str} {us:List au},Vals (zs.map V.str) us->∃ l:List (Str × Tok),us=strValues l/\l.map (·.1)=zs
 | [],us,h=>by
  cases h;exact ⟨[],rfl,rfl⟩
 | z::zs,us,h=>by
  cases h with
  | cons h1 h2 =>
   obtain ⟨t,rfl⟩:=h1;obtain ⟨l,rfl,e⟩:=yd h2;exact ⟨(z,t)::l,rfl,by rw [bw,e]⟩
theorem yg:∀ (l:List (Str × Tok)),Vals ((l.map (·.1)).map V.str) (strValues l)
 | []=>.nil
 | (_,t)::l=>.cons ⟨t,rfl⟩ (yg l)
def ZV:V->List V->Hp->VK->Prop:=fun v ws H Q=>∃ x y,v=.str x/\ws=[.str y]/\(y.length == 0)=false/\x.length + 2<=sizeLine/\∀ p,H p=none->Q (.ref p) (upd H p (.lst ((Txt.split x y).map V.str)))
theorem Bu:MtR X "str.split" ZV:=by
 intro pins s σ H v ws u us Q I rv HX h;obtain ⟨x,y,rfl,rfl,hy,hx2,q⟩:=h;have hx:x.length<=sizeLine:=by omega
 have hn:sizeLine >= (partsBetween x (occurrences x y 0 x.length (x.length + 1)) y.length).length:=by
  have few:=StrLaws.occ_length_le x y 0 x.length (x.length + 1);rw [PyProof.Rows.len_partsBetween];omega
 obtain ⟨t,rfl⟩:=rv;obtain ⟨u2,rfl,r2⟩:=Vals.one HX;obtain ⟨t2,rfl⟩:=r2;have fin:∀ (l:List (Str × Tok)) (k:Nat),l.map (·.1)=Txt.split x y->l.length<=sizeLine->EP X pins σ Q (.ref s.heap.objs.size) { s with toks:=k,heap:=s.heap.push { cls:=.type "list",data:=.seq (strValues l).toArray } }:=fun l k e hz =>
  ⟨.ref s.heap.objs.size,_,I.laid (a:=s.heap.objs.size) (o:=.lst ((Txt.split x y).map V.str)) (t':=k) (fun _ _ z=>ao _ z) (aH _) (show dJ X.prog X.w _ _ _ (.lst _) from ⟨by rw [<- e,aq,aq]; exact hz,strValues l,0,by rw [<- e]; exact yg l,aD _ rfl⟩),rfl,q _ (I.hok.fresh (aH _))⟩
 have one:1<=sizeLine:=by decide
 cases h1:(decide (x.length < y.length) || decide (strKind x < strKind y)) with
 | false =>
  cases hf:(occurrences x y 0 x.length (x.length + 1)).isEmpty with
  | false =>
   refine call_meets F.slot_str_split (typeIs_str _ _ _) F.entry_str_split (F.args_str_split_2 _ _) (meets_str_split_sep x y t t2 h1 hy hf hx hn) (?_)
   show wants (EP X pins σ Q) X.xe _ { s with toks:=_,heap:=s.heap.push { cls:=.type "list",data:=.seq (strsFrom s.toks (partsBetween x (occurrences x y 0 x.length (x.length + 1)) y.length)).toArray } }
   rw [strsFrom_eq];have e:(numbered s.toks (partsBetween x (occurrences x y 0 x.length (x.length + 1)) y.length)).map (·.1)=partsBetween x (occurrences x y 0 x.length (x.length + 1)) y.length:=numbered_texts _ _;exact fin _ _ (e.trans ((if_neg (ne_true_of_eq_false h1)).trans (if_neg (ne_true_of_eq_false hf))).symm) (by rw [<- aq (f:=fun p:Str × Tok=>p.1),e]; exact hn)
  | true=>exact call_meets F.slot_str_split (typeIs_str _ _ _) F.entry_str_split (F.args_str_split_2 _ _) (meets_str_split_not_found x y t t2 h1 hy hf) (fin [(x,t)] s.toks ((if_neg (ne_true_of_eq_false h1)).trans (if_pos hf)).symm one)
 | true=>exact call_meets F.slot_str_split (typeIs_str _ _ _) F.entry_str_split (F.args_str_split_2 _ _) (meets_str_split_cannot_occur x y t t2 h1) (fin [(x,t)] s.toks (if_pos h1).symm one)
def rJoin (K:Fg):V->List V->Hp->VK->Prop:=fun v ws H Q=>∃ x p zs,v=.str x/\ws=[.ref p]/\cY K H p (zs.map V.str)/\JoinOk x zs=true/\Q (.str (Txt.join x zs)) H
theorem iQ (K:Fg) (hK:autoParam (X.K=K) zau0):MtR X "str.join" (rJoin K):=by
 subst hK;intro pins s σ H v ws u us Q I rv HX h;obtain ⟨x,p,zs,rfl,rfl,hp,hj,q⟩:=h;obtain ⟨t,rfl⟩:=rv;obtain ⟨u2,rfl,r2⟩:=Vals.one HX;cases r2;obtain ⟨its,r,pl,hz⟩:=I.list hp;obtain ⟨l,rfl,e⟩:=yd r;exact SC.join pl.isList e hj fun t' k=>⟨.str _,H,I.tok _,⟨t',rfl⟩,q⟩
def Rg:V->List V->Hp->VK->Prop:=fun v ws H Q=>∃ x y,v=.str x/\ws=[.str y]/\Q (.bl (Txt.startswith x y)) H
theorem yh:MtR X "str.startswith" Rg:=by
 intro pins s σ H v ws u us Q I rv HX h;obtain ⟨x,y,rfl,rfl,q⟩:=h;obtain ⟨t,rfl⟩:=rv;obtain ⟨u2,rfl,r2⟩:=Vals.one HX;obtain ⟨t2,rfl⟩:=r2;exact SC.startswith ⟨.bl _,H,I,rfl,q⟩
def ZW:V->List V->Hp->VK->Prop:=fun v ws H Q=>∃ x y,v=.str x/\ws=[.str y]/\x.length<=sizeLine/\Q (.str (Txt.stripChars x y)) H
theorem K5:MtR X "str.strip" ZW:=by
 intro pins s σ H v ws u us Q I rv HX h;obtain ⟨x,y,rfl,rfl,hx,q⟩:=h;obtain ⟨t,rfl⟩:=rv;obtain ⟨u2,rfl,r2⟩:=Vals.one HX;obtain ⟨t2,rfl⟩:=r2;exact SC.stripChars (fun t' k=>⟨.str _,H,I.tok _,⟨t',rfl⟩,q⟩) hx
def fG (n:Int):Str:=Str.ofString (toString n)
theorem gM:gK X (.type "str") (fun xs H Q=>∃ n,xs=[.int n]/\n.natAbs.log2 < 1920/\Q (.str (fG n)) H):=by
 intro pins s σ H xs us Q I r h;obtain ⟨n,rfl,hn,q⟩:=h;obtain ⟨u,rfl,rx⟩:=Vals.one r;obtain ⟨t,rfl⟩:=rx;exact PySem.P.str_of_int hn ⟨.str _,H,I.tok _,⟨_,rfl⟩,q⟩
theorem IW:gK X (.type "int") (fun xs H Q=>∃ x n,xs=[.str x]/\PySem.intText? x=some n/\x.length<=640/\Q (.int n) H):=by
 intro pins s σ H xs us Q I r h;obtain ⟨x,n,rfl,hn,hl,q⟩:=h;obtain ⟨u,rfl,rx⟩:=Vals.one r;obtain ⟨t,rfl⟩:=rx;exact PySem.W.KIN.call_text hn hl ⟨.int _,H,I.tok _,⟨_,rfl⟩,q⟩
theorem zA (K:Fg) {T:String} {name:Str} {id:String} {r:V->List V->Hp->VK->Prop} {o e:Expr} {es:List Expr} {to:TE} {t:TA} {apos cpos:Pos} (pa:PlainAttrs T) (slot:Slot T name id) (hty:typeOf (.builtin id)=pure (.type "method_descriptor")) (hm:MtR X id r) (ho:PE X o to) (ha:PA X (e::es) t) (hK:autoParam (X.K=K) zau0) (hbase:autoParam (attributeBase o name X.env (eval o X.env)=eval o X.env) zau0) (hfew:autoParam (((backTo cpos (starEach (e::es) X.env)).all (fun x=>!x.1) && (backToKw cpos (keywordEach [] X.env)).all (fun x=>x.1.isSome) && decide ((e::es).length + ([]:List Keyword).length + (if ([]:List Keyword).isEmpty then 0 else 1) < 30))=true) zau0) (hline:autoParam ((apos.endLine == cpos.line)=true) zau0) (hs:autoParam (starEach (e::es) X.env=(false,eval e X.env)::starEach es X.env) zau0) (hplain:autoParam ((backTo cpos (starEach es X.env)).any (·.1)=false) zau0) : PE X (.Call (.Attribute o name apos) (e::es) [] cpos) (tBM K T r to t):=by
 subst hK;exact jd pa slot hty hm ho ha hbase hfew hline hs hplain
theorem TV {pos:Pos} (K:Fg) {es:List Expr} {k:Nat} {t:Tf} {n:Nat} (hc:X.calm=true) (h:PGs X es t) (hK:autoParam (X.K=K) zau0) (hn:autoParam ((assignEach es X.env).length=n) zau0) (hst:autoParam ((assignEach es X.env).findIdx? (·.1)=none) zau0):PG X (.Tuple es k pos) (adV K n t):=by
 subst hK;exact JF hc h hn hst
theorem Ja (K:Fg) {e:Expr} {te:TE} (ha:PE X e te) (he:∀ whole,isTrue e X.env whole=(do let v <- whole; standAt e.pos; holding [v] (truthy v))) (hK:autoParam (X.K=K) zau0):PT X e (fun σ H Q=>te σ H fun x H'=>∃ k,Zk K x H' k/\Q k H'):=by
 subst hK;exact Am ha he
end
end L2
namespace Tw
open PySem L2
section
variable {K:Fg} {α β:Type} {S:Rep β}
theorem DR (sS:QT S) {D:aA} {H:Hp} {n m:Nat} {σ0:St} {g:TG} {tc:TT} {te:TE} {Qe:Hp->Prop} (pr:Nat->Bool) (f:Nat->β) (em:m=n) (hz:n<=sizeLine) (hD:H D=none) (body:∀ (i:Nat) H2,i < n->Same H H2->∀ (Qc:VK) (Qn:Hp->Prop),(pr i=true->∀ u H3,Same H2 H3->S H3 u (f i)->Qc u H3)->(pr i=false->∀ H3,Same H2 H3->Qn H3) -> g (.int ((i:Nat):Int)) σ0 H2 fun σ2 H'=>mF σ0 σ2/\tc σ2 H' fun b H3=>if b=true then te σ2 H3 Qc else Qn H3) (q:∀ H',Same H H'->jO S H' (.ref D) (((List.range n).filter pr).map f)->Qe H') : ∃ W:Nat->Nat->List V->Hp->Prop,(∃ m,W 0 m [] (L2.upd H D (.lst [])))/\pJ D (Zd 0 m) σ0 g tc te Qe W:=by
 subst em;have lr:(List.range m).length=m:=length_range;refine oU (R:=fun _ v (k:Nat)=>v=.int ((k:Nat):Int)) sS (xs:=List.range m) pr f (fun _=>True) (by rw [lr]; exact hz) hD (fun i H' lt _=>by rw [lr] at lt; exact lt) (fun H' _=>by rw [lr]; exact aH _) ?_ ?_ (fun H' s' _ r=>q H' s' r)
 ·rintro i x v H' H2 hx s' ⟨rfl,rfl⟩;obtain ⟨h1,h2⟩:=aP.mp hx;rw [List.getElem_range] at h2;subst h2;exact ⟨Same.refl _,by rw [Int.zero_add]⟩
 ·intro i x v H2 hx rv s2 Qc Qn k kn;obtain ⟨h1,h2⟩:=aP.mp hx;rw [List.getElem_range] at h2;rw [lr] at h1;subst h2;subst rv;exact body i H2 h1 s2 Qc Qn (fun e=>k e trivial) kn
def TX:Rep (List Str):=fun H v ws=>∃ l,v=.ref l/\H l=some (.lst (ws.map V.str))
def uE (D:aA):Rep (List Str):=fun H v ws=>∃ l,v=.ref l/\l≠D/\H l=some (.lst (ws.map V.str))
theorem TX.same {H H':Hp} {v:V} {c:List Str} (h:TX H v c) (s:Same H H'):TX H' v c:=by
 obtain ⟨l,e,h1⟩:=h;exact ⟨l,e,s _ _ h1⟩
theorem uE.same {D:aA} {H H':Hp} {v:V} {c:List Str} (h:uE D H v c) (s:Same H H'):uE D H' v c:=by
 obtain ⟨l,e,n,h1⟩:=h;exact ⟨l,e,n,s _ _ h1⟩
theorem uE.upd {D:aA} {H:Hp} {v:V} {c:List Str} {o:HO} (h:uE D H v c):uE D (L2.upd H D o) v c:=by
 obtain ⟨l,e,n,h1⟩:=h;exact ⟨l,e,n,by rw [bx n]; exact h1⟩
theorem uE.to {D:aA} {H:Hp} {v:V} {c:List Str} (h:uE D H v c):TX H v c:=by
 obtain ⟨l,e,n,h1⟩:=h;exact ⟨l,e,h1⟩
end
end Tw
namespace L2
open PySem PySem.Spec PyProof.Rows
theorem vM {xs:Array Nat} {j:Nat} (up:xs.toList.Pairwise (· < ·)):∀ (fuel lo hi:Nat),hi - lo<=fuel->lo<=hi->hi<=xs.size -> (∀ i a,i < lo->xs[i]?=some a->a < j)->(∀ i a,hi<=i->xs[i]?=some a->j<=a) -> (∀ i a,i < SetTable.below.go xs j fuel lo hi->xs[i]?=some a->a < j)/\(∀ i a,SetTable.below.go xs j fuel lo hi<=i->xs[i]?=some a->j<=a)/\SetTable.below.go xs j fuel lo hi<=xs.size
 | 0,lo,hi,f,l,z,p,q=>by
  have:hi=lo:=by omega
  subst this;exact ⟨p,q,z⟩
 | fuel + 1,lo,hi,f,l,z,p,q=>by
  unfold SetTable.below.go;have lt:∀ {i k a b:Nat},i<=k->xs[i]?=some a->xs[k]?=some b->a<=b:=by
   intro i k a b ik ha hb;rw [<- Array.getElem?_toList] at ha hb;obtain ⟨h1,e1⟩:=aP.mp ha;obtain ⟨h2,e2⟩:=aP.mp hb;rcases Nat.lt_or_eq_of_le ik with c | c
   ·have:=List.pairwise_iff_getElem.mp up i k h1 h2 c;rw [e1,e2] at this;omega
   ·subst c;rw [e1] at e2;omega
  by_cases c:lo < hi
  ·rw [if_pos c];have m1:(lo + hi) / 2 < xs.size:=by omega
   have em:xs[(lo + hi) / 2]?=some (xs.getD ((lo + hi) / 2) j):=by
    rw [Array.getElem?_eq_getElem m1];simp [Array.getD,m1]
   dsimp only
   by_cases d:xs.getD ((lo + hi) / 2) j < j
   ·rw [if_pos d];refine vM up fuel _ hi (by omega) (by omega) z (fun i a hi' e=>?_) q;have:=lt (show i<=(lo + hi) / 2 by omega) e em;omega
   ·rw [if_neg d];refine vM up fuel lo _ (by omega) (by omega) (by omega) p fun i a hi' e=>?_
    have:=lt hi' em e;omega
  ·rw [if_neg c];have:hi=lo:=by omega
   subst this;exact ⟨p,q,z⟩
theorem below_at {xs:Array Nat} (up:xs.toList.Pairwise (· < ·)) (j:Nat):(∀ i a,i < SetTable.below xs j->xs[i]?=some a->a < j)/\(∀ i a,SetTable.below xs j<=i->xs[i]?=some a->j<=a)/\SetTable.below xs j<=xs.size := vM up xs.size 0 xs.size (by omega) (dD _) (aH _) (fun _ _ h=>nomatch h) fun i a h e=>by
 rw [Array.getElem?_eq_none h] at e;cases e
structure iC (b:Bool) (t:SetTable):Prop where
 led:t.led=b
 dum:t.dummies=#[]
 up:t.place.toList.Pairwise (· < ·)
theorem iC.fresh (b:Bool):iC b (.fresh 0 0 b):=⟨rfl,rfl,.nil⟩
theorem iC.stand {b:Bool} {t:SetTable} (T:iC b t) (n:Nat):iC b (t.standIn n):=by
 refine ⟨T.led,rfl,?_⟩
 show (Array.range n).toList.Pairwise (· < ·)
 rw [Array.toList_range];exact List.pairwise_lt_range
theorem iC.Rh {b:Bool} {t:SetTable} (T:iC b t) (n:Nat):iC b (t.orStandIn n):=by
 unfold SetTable.orStandIn
 split
 ·exact T
 ·exact T.stand n
theorem iC.Gs {b:Bool} {t:SetTable} (T:iC b t) (j:Nat):SetTable.has t.dummies j=false:=by
 rw [T.dum]; rfl
theorem iC.probe {b:Bool} {t:SetTable} (T:iC b t) {f:Nat->Int} {h:Int}:∀ (fuel:Nat) (p:SetTable.Probe) {j:Nat} {d:Option Nat},p.dummy=none->SetTable.probe.go t f h fuel p=some (.empty j d)->d=none/\t.slot j=.empty
 | 0,_,_,_,_,e=>by simp [SetTable.probe.go] at e
 | fuel + 1,p,j,d,hp,e=>by
  unfold SetTable.probe.go at e;cases c:t.slot p.j with
  | empty =>
   rw [c] at e;simp only [Option.some.injEq,SetTable.Met.empty.injEq] at e;obtain ⟨e1,e2⟩:=e;subst e1;exact ⟨by rw [<- e2,hp],c⟩
  | dummy =>
   exfalso
   unfold SetTable.slot at c;dsimp only at c
   split at c
   ·cases c
   ·rw [T.Gs] at c;simp at c
  | live i =>
   rw [c] at e;dsimp only at e
   split at e
   ·simp at e
   ·refine T.probe fuel _ ?_ e;unfold SetTable.advance
    split
    ·exact hp
    ·exact hp
theorem iC.free {b:Bool} {t:SetTable} (T:iC b t) {h:Int} {j:Nat} {d:Bool} (e:t.freeSlot h=some (j,d)):t.slot j=.empty:=by
 unfold SetTable.freeSlot at e
 split at e
 ·rename_i k dm q
  obtain ⟨rfl,s⟩:=T.probe _ (t.probeStart h) rfl q;simp only [Prod.mk.injEq,Option.some.injEq] at e;rw [<- e.1];exact s
 ·cases e
theorem iC.put {b:Bool} {t:SetTable} (T:iC b t) {j:Nat} (s:t.slot j=.empty):iC b (t.put j).1:=by
 refine ⟨T.led,?_,?_⟩
 ·show (if SetTable.has t.dummies j then _ else t.dummies)=_
  rw [T.Gs];exact T.dum
 ·show (SetTable.insertAt t.place (SetTable.below t.place j) j).toList.Pairwise (· < ·)
  obtain ⟨a1,a2,a3⟩:=below_at T.up j;have no:∀ i:Nat,t.place[i]?≠some j:=by
   intro i e;have i1:¬ i < SetTable.below t.place j:=fun z=>cV _ (a1 i j z e)
   have e0:t.place[SetTable.below t.place j]?=some j:=by
    obtain ⟨v,ev⟩:∃ v,t.place[SetTable.below t.place j]?=some v:=by
     have:i < t.place.size:=by
      rcases Nat.lt_or_ge i t.place.size with z | z
      ·exact z
      ·rw [Array.getElem?_eq_none z] at e; cases e
     exact ⟨_,Array.getElem?_eq_getElem (by omega)⟩
    have v1:=a2 _ v (aH _) ev;have v2:v<=j:=by
     rcases Nat.lt_or_eq_of_le (Nat.le_of_not_lt i1) with z | z
     ·rw [<- Array.getElem?_toList] at ev e;obtain ⟨h1,e1⟩:=aP.mp ev;obtain ⟨h2,e2⟩:=aP.mp e;have:=List.pairwise_iff_getElem.mp T.up _ _ h1 h2 z;omega
     ·rw [z] at ev;rw [e] at ev;cases ev;omega
    rw [ev,show v=j by omega]
   unfold SetTable.slot at s;dsimp only at s;rw [e0] at s;simp at s
  rw [SetTable.toList_insertAt,List.pairwise_append];have hd:∀ x ∈ t.place.toList.take (SetTable.below t.place j),x < j:=by
   intro x hx;obtain ⟨i,hi,e⟩:=List.mem_take_iff_getElem.mp hx;refine a1 i x (by omega) ?_;rw [<- Array.getElem?_toList];exact aP.mpr ⟨by omega,e⟩
  have tl:∀ x ∈ t.place.toList.drop (SetTable.below t.place j),j < x:=by
   intro x hx;obtain ⟨i,hi,e⟩:=List.mem_drop_iff_getElem.mp hx;have q:t.place[i + SetTable.below t.place j]?=some x:=by
    rw [<- Array.getElem?_toList];exact aP.mpr ⟨by omega,by rw [<- e]; congr 1; omega⟩
   have:=a2 _ x (by omega) q;rcases Nat.lt_or_eq_of_le this with z | z
   ·exact z
   ·rw [<- z] at q;exact absurd q (no _)
  refine ⟨T.up.sublist (List.take_sublist _ _),List.pairwise_cons.mpr ⟨tl,T.up.sublist (List.drop_sublist _ _)⟩,fun x hx y hy=>?_⟩;rcases aK.mp hy with rfl | hz
  ·exact hd x hx
  ·exact Nat.lt_trans (hd x hx) (tl y hz)
theorem iC.lay {b:Bool} {t:SetTable} (T:iC b t) (es:Array (Int × au)) (h:Int) (x:au):iC b (layNew t es h x).2.1:=by
 unfold layNew
 split
 ·rename_i j d e
  exact (T.put (T.free e)).Rh _
 ·exact T.stand _
theorem iC.aev {b:Bool} {t:SetTable} (T:iC b t) (es:Array (Int × au)) (n:Nat):iC b (relayAll t es n).2.1:=by
 unfold relayAll
 split
 ·rename_i t' o e
  dsimp only
  split
  ·unfold SetTable.relaid SetTable.laid at e;cases c:SetTable.layClean (SetTable.sizeAbove n - 1) (es.map (·.1)) with
   | none=>rw [c] at e; cases e
   | some ow =>
    rw [c] at e;have e':=bY e;rw [<- (Prod.mk.inj e').1];refine ⟨T.led,rfl,?_⟩
    show (List.map _ _).Pairwise (· < ·)
    rw [List.pairwise_map,List.pairwise_filterMap];refine Pairwise.imp ?_ List.pairwise_lt_range;intro p q pq u hu v hv;obtain ⟨_,_,rfl⟩:=bB.mp hu;obtain ⟨_,_,rfl⟩:=bB.mp hv;exact pq
  ·exact T.stand _
 ·exact T.stand _
noncomputable def pD (P:bT) (w:World) (h:Heap) (a:aA) (ns:List Int):Prop := ∃ es ep t,h.get? a=some { cls:=.type "set",data:=.set es ep t }/\t.fits es.size=true/\iC (!w.params.followText "set-order") t/\ElemsOf (intKind P w) es.toList/\∃ ms,IntsAre (es.toList.map (·.2)) ms/\ms.Perm ns
theorem IntsAre.has {k:Int}:∀ {es:List (Int × au)} {ms:List Int},IntsAre (es.map (·.2)) ms->((es.findIdx? fun e=>Value.isInt k e.2).isSome=true ↔ k ∈ ms)
 | [],_,r=>by cases r; simp
 | (_,v)::es,_,r=>by
  cases r with
  | cons n t r =>
   have ih:=IntsAre.has (k:=k) r
   by_cases c:k=n
   ·subst c;simp [List.findIdx?_cons,Value.isInt]
   ·have c':¬ n=k:=fun z=>c z.symm
    have e0:Value.isInt k (.int n t)=false:=by simp [Value.isInt,c']
    show ((List.findIdx? _ (_::es)).isSome=true ↔ _)
    rw [List.findIdx?_cons];dsimp only;rw [e0];simp only [Bool.false_eq_true,if_false,Option.isSome_map,aK,c,false_or];exact ih
theorem IntsAre.perm:∀ {l l':List au},l.Perm l'->∀ {ms:List Int},IntsAre l' ms->∃ ns,IntsAre l ns/\ns.Perm ms:=by
 intro l l' p
 induction p with
 | nil=>intro ms r; exact ⟨ms,r,.refl _⟩
 | cons x p ih =>
  intro ms r;cases r with
  | cons n t r =>
   obtain ⟨ns,a,b⟩:=ih r;exact ⟨n::ns,.cons n t a,b.cons n⟩
 | swap x y l =>
  intro ms r;cases r with
  | cons n t r =>
   cases r with
   | cons m u r=>exact ⟨m::n::_,.cons m u (.cons n t r),.swap n m _⟩
 | trans p q ih1 ih2 =>
  intro ms r;obtain ⟨ns,a,b⟩:=ih2 r;obtain ⟨ns',a',b'⟩:=ih1 a;exact ⟨ns',a',b'.trans b⟩
theorem IntsAre.snoc {k:Int} {t:Tok}:∀ {l:List au} {ms:List Int},IntsAre l ms->IntsAre (l++[.int k t]) (ms++[k])
 | _,_,.nil=>.cons k t .nil
 | _,_,.cons n u r=>.cons n u (IntsAre.snoc r)
section
variable {prog:bT} {w:World} {A:cL} {E:au->aG->Prop} {s:aG}
theorem pD.stored {h:Heap} {a:aA} {es es':Array (Int × au)} {ep:Nat} {t t':SetTable} {ns ms:List Int} (at_:h.get? a=some { cls:=.type "set",data:=.set es ep t }) (f:t'.fits es'.size=true) (T:iC (!w.params.followText "set-order") t') (el:ElemsOf (intKind prog w) es'.toList) (r:IntsAre (es'.toList.map (·.2)) ms) (p:ms.Perm ns) : (h.update a (Obj.putSet es' t')).get? a=some { cls:=.type "set",data:=.set es' (ep + 1) t' }/\pD prog w (h.update a (Obj.putSet es' t')) a ns:=by
 have g:(h.update a (Obj.putSet es' t')).get? a=some { cls:=.type "set",data:=.set es' (ep + 1) t' }:=Heap.get?_update_self (Obj.putSet es' t') at_ rfl;exact ⟨g,es',ep + 1,t',g,f,T,el,ms,r,p⟩
theorem K6 {S:aA} {ns:List Int} {x:Int} {t₀:Tok} {Qu:Bool->aG->Prop} (small:ns.length + 1 < scanBound) (at_:pD prog w s.heap S ns) (k:∀ h' tk b,Heap.SameBut S s.heap h'->pD prog w h' S (if x ∈ ns then ns else ns++[x])->Qu b { s with heap:=h',toks:=tk }):wpAny (model prog w) A (setAdd S (.int x t₀)) Qu E s:=by
 have is:(intKind prog w).is x (.int x t₀)=true:=by show Value.isInt x (.int x t₀)=true; simp [Value.isInt]
 obtain ⟨es,ep,t,ho,hf,T,hel,ms,r,p⟩:=at_;have len:es.size=ns.length:=by
  have:=IntsAre.length r;rw [aq,Array.length_toList] at this;rw [this,p.length_eq]
 unfold setAdd;refine wpAny_holding (aj ((intKind prog w).pyHash (k:=x) is ?_));unfold setAddHashed;unfold setAddHashedIn;refine wpAny_holding (aj (wpAny_setState_of (s:={ s with toks:=s.toks + 1 }) ho rfl hf ?_));dsimp only;have sc:byScan (.int x t₀) es=true:=byScan_of (knd:=intKind prog w) rfl (by omega) hel;rw [sc];simp only [↓reduceIte];unfold setAddByScan;refine aj (aj (wpAny_rule (aj (wpAny_setScan_of is ho rfl hf hel ?_))));have has:(es.toList.findIdx? fun e=>(intKind prog w).is x e.2).isSome=true ↔ x ∈ ms:=IntsAre.has r;cases c:es.toList.findIdx? (fun e=>(intKind prog w).is x e.2) with
 | some j =>
  rw [c] at has;have mem:x ∈ ns:=p.mem_iff.mp (has.mp rfl);refine ak (ak (k s.heap _ _ (Heap.SameBut.refl S s.heap) ?_));rw [if_pos mem];exact ⟨es,ep,t,ho,hf,T,hel,ms,r,p⟩
 | none =>
  rw [c] at has;have mem:¬ x ∈ ns:=fun z=>by have:=has.mpr (p.mem_iff.mpr z); cases this
  have q1:=layNew_perm t es ((intKind prog w).hash x) (.int x t₀);have q2:=layNew_fits t es ((intKind prog w).hash x) (.int x t₀);have q3:=T.lay es ((intKind prog w).hash x) (.int x t₀);rw [if_neg mem] at k;dsimp only;generalize layNew t es ((intKind prog w).hash x) (.int x t₀)=L at q1 q2 q3 ⊢;obtain ⟨es1,t1,dm,gv⟩:=L;dsimp only at q1 q2 q3 ⊢;rw [Array.toList_push] at q1;have el1:ElemsOf (intKind prog w) es1.toList:=(hel.push is rfl).perm q1;obtain ⟨ms1,r1,p1⟩:∃ ms1,IntsAre (es1.toList.map (·.2)) ms1/\ms1.Perm (ns++[x]):=by
   have pm:=q1.map (·.2);rw [aW] at pm;obtain ⟨m1,a1,a2⟩:=IntsAre.perm pm (IntsAre.snoc (k:=x) (t:=t₀) r);exact ⟨m1,a1,a2.trans (p.append_right _)⟩
  have sz1:es1.size < scanBound:=by
   have:=q1.length_eq;rw [aM,Array.length_toList,Array.length_toList] at this;simp at this;omega
  have quiet:∀ (b:Bool) (s₁:aG) (Q':Unit->aG->Prop),Q' () s₁->wpAny (model prog w) A (match b with | true=>rule "set.scan.the-table-gave-way" | false=>pure ()) Q' E s₁:=by
   intro b s₁ Q' z;cases b
   ·exact ak z
   ·exact wpAny_rule z
  refine aj (quiet _ _ _ ?_);have tail:∀ t2,t2.fits es1.size=true->iC (!w.params.followText "set-order") t2->wpAny (model prog w) A (do
    storeSet S es1 t2
    if (
      !dm && t2.tooFull)=true then do
      (match (relayAll t2 es1 (SetTable.grown es1.size)).2.2 with | true=>rule "set.scan.the-table-gave-way" | false=>pure ())
      storeSet S (relayAll t2 es1 (SetTable.grown es1.size)).1 (relayAll t2 es1 (SetTable.grown es1.size)).2.1
      pure (some true)
     else pure (some true)) (fun a s'=>wpAny (model prog w) A (match a with | some added=>pure added | none=>setAddHashedIn S (.int x t₀) ((intKind prog w).hash x) 99999) Qu E s') E { s with toks:=s.toks + 1 }:=by
   intro t2 f2 T2;refine aj (wpAny_storeSet_of ho rfl ?_ (fits_of_scanBound sz1));obtain ⟨g1,S1⟩:=pD.stored (prog:=prog) ho f2 T2 el1 r1 p1;have sb1:=Heap.SameBut.update s.heap S (Obj.putSet es1 t2)
   split
   ·have q1:=relayAll_perm t2 es1 (SetTable.grown es1.size);have q2:=relayAll_fits t2 es1 (SetTable.grown es1.size);have q3:=T2.aev es1 (SetTable.grown es1.size);generalize relayAll t2 es1 (SetTable.grown es1.size)=L at q1 q2 q3 ⊢;obtain ⟨es2,t3,gv2⟩:=L;dsimp only at q1 q2 q3 ⊢;have sz2:es2.size < scanBound:=by
     have:=q1.length_eq;rw [Array.length_toList,Array.length_toList] at this;omega
    obtain ⟨ms2,r2,p2⟩:=IntsAre.perm (q1.map (·.2)) r1;refine aj (quiet _ _ _ (aj (wpAny_storeSet_of g1 rfl ?_ (fits_of_scanBound sz2))));exact ak (ak (k _ _ _ (sb1.trans (Heap.SameBut.update _ S _)) (pD.stored (prog:=prog) g1 q2 q3 (el1.perm q1) r2 (p2.trans p1)).2))
   ·exact ak (ak (k _ _ _ sb1 S1))
  split
  ·exact aj (ak (tail t1 q2 q3))
  ·exact aj (ak (tail t1 q2 q3))
def ig:List Int->List Int->List Int
 | done,[]=>done
 | done,x::l=>ig (if x ∈ done then done else done++[x]) l
theorem Bv {k:Int}:∀ {l done:List Int},k ∈ ig done l ↔ k ∈ done\/k ∈ l
 | [],done=>by simp [ig]
 | x::l,done=>by
  rw [ig,Bv]
  by_cases c:x ∈ done
  ·rw [if_pos c,aK];constructor
   ·rintro (h | h)
    ·exact .inl h
    ·exact .inr (.inr h)
   ·rintro (h | h | h)
    ·exact .inl h
    ·exact .inl (h ▸ c)
    ·exact .inr h
  ·rw [if_neg c];simp [or_assoc]
theorem vN:∀ {l done:List Int},done.Nodup->(ig done l).Nodup
 | [],_,h=>h
 | x::l,done,h=>by
  rw [ig];refine vN ?_
  split
  ·exact h
  ·rename_i c
   rw [List.nodup_append];refine ⟨h,by simp,fun a ha b hb=>?_⟩;rw [aL.mp hb];exact fun z=>c (z ▸ ha)
theorem Bw:∀ {l done:List Int},(ig done l).length<=done.length + l.length
 | [],_=>by simp [ig]
 | x::l,done=>by
  rw [ig];refine bA Bw ?_
  split
  ·rw [length_cons]; omega
  ·simp only [length_cons,aM,length_nil]; omega
theorem pD.at {h h':Heap} {a:aA} {ns:List Int} (x:pD prog w h a ns) (k:∀ o,h.get? a=some o->h'.get? a=some o):pD prog w h' a ns:=by
 obtain ⟨es,ep,t,ho,r⟩:=x;exact ⟨es,ep,t,k _ ho,r⟩
theorem yj {S I l:aA} {its:List au} (calm:A.handled=none) (SI:S≠I) (Sl:S≠l) (lI:l≠I) {R:Result->aG->Prop} : ∀ (todo:List Int) (us:List au) (i:Nat) (done:List Int) (s:aG),IntsAre us todo->its.drop i=us->done.length + todo.length + 1 < scanBound->s.heap.IsListIter I l i->s.heap.IsList l its.toArray->pD prog w s.heap S done -> (∀ h' tk,(∀ b o,b≠S->b≠I->s.heap.get? b=some o->h'.get? b=some o)->pD prog w h' S (ig done todo)->R (.ok (.ret .none)) { s with heap:=h',toks:=tk }) -> codeAny (model prog w) A (.builtin "set.update.loop" ⟨[.ref S,.ref I],[]⟩) R s
 | _,_,i,done,s,.nil,e,small,it,li,at_,k=>by
  refine codeAny_builtin PyProof.Rows.F.entry_set_update_loop ?_;rw [Around.under_plainId PyProof.Rows.F.plain_set_update_loop _];have le:its.length<=i:=by rw [<- List.drop_eq_nil_iff]; exact e
  refine aj (m:=pyNext (.ref I)) (wpAny_pyNext_list_end (by simpa using calm) it li (by simp [le]) fun h' ext=>?_);exact ak (k h' s.toks (fun b o _ nI q=>ext b o nI q) (at_.at fun o q=>ext S o SI q))
 | _,_,i,done,s,.cons x t (vs:=vs) (ns:=ns) r,e,small,it,li,at_,k=>by
  have item:its[i]?=some (Value.int x t):=by
   have:=List.getElem?_drop (xs:=its) (i:=i) (j:=0);rw [e] at this;simpa using this.symm
  have rest:its.drop (i + 1)=vs:=by
   rw [<- List.drop_drop,e];rfl
  refine codeAny_builtin PyProof.Rows.F.entry_set_update_loop ?_;rw [Around.under_plainId PyProof.Rows.F.plain_set_update_loop _];refine aj (m:=pyNext (.ref I)) (wpAny_pyNext_list_item it li (x:=Value.int x t) (by simpa using item) fun h' it' sb=>?_);rw [length_cons] at small;refine aj (wpAny_holding (K6 (s:={ s with heap:=h' }) (by omega) (at_.at fun o q=>(sb.2 S SI).trans q) fun g tk b sg set=>?_));refine ak ⟨plainId_quiet PyProof.Rows.F.plain_set_update_loop _,yj calm SI Sl lI ns vs (i + 1) _ _ r rest ?_ ?_ ?_ set fun g' tk' keep fin=>?_⟩
  ·split
   ·omega
   ·simp only [aM,List.length_singleton]; omega
  ·exact it'.at fun o q=>(sg.2 I (Ne.symm SI)).trans q
  ·exact (li.at fun o q=>(sb.2 l lI).trans q).at fun o q=>(sg.2 l (Ne.symm Sl)).trans q
  ·exact k g' tk' (fun b o nS nI q=>keep b o nS nI ((sg.2 b nS).trans ((sb.2 b nI).trans q))) fin
theorem zB (a:au) {Q₁:au->aG->Prop} (h:Q₁ (.ref s.heap.objs.size) { s with heap:=s.heap.push { cls:=.type "set",data:=.set #[] 0 (.fresh 0 0 (!w.params.followText "set-order")) } }) : codeAny (model prog w) A (.call (.builtin "set.__new__") ⟨[Value.type "set",a],[]⟩) (wants Q₁ E) s:=by
 refine codeAny_of_tree (show wpAny _ A.in1 (checkBuiltinCall "set.__new__" ⟨[.type "set",a],[]⟩ >>= fun _=>again (.builtin "set.__new__" ⟨[.type "set",a],[]⟩)) _ _ s from ?_);refine aj (wpAny_of_eq (PySem.F.newCall_set_1 a) (ak ⟨plainId_quiet PySem.F.plain_set_new _,codeAny_builtin PySem.F.entry_set_new ?_⟩));rw [Around.under_plainId PySem.F.plain_set_new];unfold Builtin.«set.__new__»;unfold Builtin.Frozenset.newClass;have sub:=sub_set_self;obtain ⟨hp,gs,d,tk,os⟩:=s;dsimp only
 wp_walk
 refine (wpAny_askSetting (ak ?_));dsimp only;simp only [newObj];exact aj (wpAny_alloc (ak (ak h)))
theorem xq {Q:au->aG->Prop} {l:aA} {its:List au} {ns:List Int} (calm:A.handled=none) (li:s.heap.IsList l its.toArray) (r:IntsAre its ns) (small:ns.length + 1 < scanBound) (k:∀ h' tk,pD prog w h' s.heap.objs.size (ig [] ns)->(∀ b o,s.heap.get? b=some o->h'.get? b=some o)->Q (.ref s.heap.objs.size) { s with heap:=h',toks:=tk }) : wpAny (model prog w) A (call (Value.type "set") [Value.ref l]) Q E s:=by
 refine qz PySem.F.called_set (PySem.F.typeCall_set_1 _) (zB (.ref l) ?_)
 let o₀:Obj:={ cls:=.type "set",data:=.set #[] 0 (.fresh 0 0 (!w.params.followText "set-order")) }
 have there:(s.heap.push o₀).get? s.heap.objs.size=some o₀:=aD s.heap rfl;have ty:Shared.TypeIs { s with heap:=s.heap.push o₀ } (.ref s.heap.objs.size) "set":=⟨o₀,there,rfl⟩;refine ⟨ty,codeAny_call_builtin PySem.F.called_set.init.plain PySem.F.entry_set_init (check_set_init_1 ty ?_)⟩;have lt:l < s.heap.objs.size:=by obtain ⟨o,q,_⟩:=li; exact Heap.lt_size q
 have ZD:(s.heap.push o₀).IsList l its.toArray:=li.push o₀;obtain ⟨⟨c,d,dt,sl⟩,get,rfl,n,rfl⟩:=id ZD;have ZF:=PySem.F.sub_list_set; have Ih:=PySem.F.sub_list_frozenset;have notDict:(Value.type "list" == Value.type "dict")=false:=by decide
 unfold Builtin.«set.__init__»;unfold noKeywords;unfold Builtin.Frozenset.updateFrom;generalize vq:pyIter=PI
 wp_walk
 subst vq;refine wpAny_pyIter_list ZD (aj (wpAny_runValue ?_))
 let it₀:Obj:={ cls:=.type "list_iterator",data:=.fields #[.ref l,.int 0 0] }
 have vA:(s.heap.push o₀).objs.size=s.heap.objs.size + 1:=Heap.size_push _ _;refine yj (its:=its) (by simpa using calm) (by rw [vA]; exact Nat.ne_of_lt (Nat.lt_succ_self _)) (Nat.ne_of_gt lt) (by rw [vA]; exact Nat.ne_of_lt (Nat.lt_succ_of_lt lt)) ns its 0 [] _ r rfl (by simpa using small) ⟨it₀,aD _ rfl,rfl,rfl⟩ (ZD.push it₀) ?_ fun h' tk keep fin=>?_
 ·exact ⟨#[],0,_,ao it₀ there,rfl,.fresh _,fun e he=>by simp at he,[],.nil,.nil⟩
 ·refine ak (show wpAny _ _ (ret Value.none) _ _ _ from ak ⟨rfl,k h' tk fin fun b o q=>?_⟩);have below:=Heap.lt_size q;exact keep b o (Nat.ne_of_lt below) (by rw [vA]; exact Nat.ne_of_lt (Nat.lt_succ_of_lt below)) (ao it₀ (ao o₀ q))
end
theorem Bx {α:Type} {l:List α} {i:Nat} (h:i < l.length):(l[i]::l.eraseIdx i).Perm l:=by
 rw [List.eraseIdx_eq_take_drop_succ];refine List.perm_middle.symm.trans ?_;rw [<- List.drop_eq_getElem_cons h,List.take_append_drop]
theorem yp {α:Type} (next:Nat->Nat):∀ (fuel k:Nat) (left:List α) (out:Array α),left.length=fuel->(pickOrder.go next fuel k left out).toList.Perm (out.toList++left)
 | 0,_,[],out,_=>by unfold pickOrder.go; simp
 | fuel + 1,k,left,out,e=>by
  have lt:next k % left.length < left.length:=Nat.mod_lt _ (by omega);unfold pickOrder.go;rw [aR lt];dsimp only;refine (yp next fuel (k + 1) _ _ (by rw [List.length_eraseIdx_of_lt lt]; omega)).trans ?_;rw [Array.toList_push,append_assoc];exact Perm.append_left _ (Bx lt)
section
variable {prog:bT} {w:World} {A:cL} {E:au->aG->Prop} {s:aG}
theorem DW {M:Model} {src:Source} {n:Nat} {Q:Nat->aG->Prop} (hn:0 < n) (h:∀ i d,i < n->Q i { s with drawn:=d }):wpAny M A (choose src n) Q E s := fun _ _ _=>⟨Nat.ne_of_gt hn,h _ _ (Nat.mod_lt _ hn)⟩
theorem Gu {M:Model} {α:Type} {Q:List α->aG->Prop}:∀ (n:Nat) (xs:List α) (s:aG),xs.length=n->(∀ ys d,ys.Perm xs->Q ys { s with drawn:=d })->wpAny M A (drawOrder n xs) Q E s
 | 0,xs,s,e,q=>by
  cases xs with
  | nil=>unfold drawOrder; exact ak (q [] s.drawn (.refl _))
  | cons=>cases e
 | n + 1,xs,s,e,q=>by
  obtain ⟨x,xs',rfl⟩:∃ x l,xs=x::l:=by
   cases xs with
   | nil=>cases e
   | cons x l=>exact ⟨x,l,rfl⟩
  unfold drawOrder;refine aj (DW (by rw [e]; omega) fun i d hi=>?_);rw [aR hi];dsimp only;refine aj (Gu n _ _ (by rw [List.length_eraseIdx_of_lt hi]; omega) fun ys d' p=>?_);exact ak (q _ d' ((Perm.cons _ p).trans (Bx hi)))
noncomputable def Way (prog:bT) (w:World) (a:aA) (oS:Obj) (ep:Nat) (f:Nat->Nat) (vs:List au):Prop := ∀ (A:cL) (E:au->aG->Prop) (s:aG) (Q:Option (au × Nat)->aG->Prop) (i:Nat),s.heap.get? a=some oS->i<=vs.length->Q ((vs[i]?).map fun v=>(v,f (i + 1))) s->wpAny (model prog w) A (setNext a (f i) i ep) Q E s
theorem K7 {a:aA} {es:Array (Int × au)} {ep:Nat} {t:SetTable} (hf:t.fits es.size=true) (hT:w.params.followText "set-order"=true) : Way prog w a { cls:=.type "set",data:=.set es ep t } ep (fun _=>0) ((pickOrder (w.params.setOrder a ep) es).toList.map (·.2)):=by
 intro A E s Q i ho hi q;unfold setNext setsByText;refine aj (wpAny_setState_of ho rfl hf (aj (aj (wpAny_askSetting (ak ?_)))))
 show wpAny _ _ (if w.params.followText "set-order"=true then _ else _) _ _ _
 rw [if_pos hT];simp only [↓reduceIte,bne_self_eq_false,Bool.false_eq_true];refine aj ?_;unfold setWalk setsByText;refine aj (wpAny_setState_of ho rfl hf (aj (aj (wpAny_askSetting (ak ?_)))))
 show wpAny _ _ (if w.params.followText "set-order"=true then _ else _) _ _ _
 rw [if_pos hT];refine aj (wpAny_askSetting (ak (ak ?_)));have e:((pickOrder (w.params.setOrder a ep) es)[i]?).map (fun e=>(e.2,0))=(((pickOrder (w.params.setOrder a ep) es).toList.map (·.2))[i]?).map fun v=>(v,0):=by
  rw [bG,Array.getElem?_toList,Option.map_map];rfl
 exact e ▸ q
def slotAt (t:SetTable):Nat->Nat
 | 0=>0
 | i + 1=>t.place.getD i 0 + 1
theorem DX {b:Bool} {t:SetTable} (T:iC b t):∀ i,i<=t.place.size->SetTable.below t.place (slotAt t i)=i:=by
 intro i hi;obtain ⟨a1,a2,a3⟩:=below_at T.up (slotAt t i);cases i with
 | zero =>
  rcases Nat.eq_zero_or_pos (SetTable.below t.place (slotAt t 0)) with z | z
  ·exact z
  ·have lt:0 < t.place.size:=by omega
   have:=a1 0 _ z (Array.getElem?_eq_getElem lt);exact absurd this (Nat.not_lt_zero _)
 | succ m =>
  have em:t.place[m]?=some (t.place.getD m 0):=by
   rw [Array.getElem?_eq_getElem hi];simp [Array.getD,show m < t.place.size from hi]
  have m1:m < SetTable.below t.place (slotAt t (m + 1)):=by
   apply Nat.lt_of_not_le;intro z;have:=a2 m _ z em;simp only [slotAt] at this;omega
  have m2:¬ m + 1 < SetTable.below t.place (slotAt t (m + 1)):=by
   intro z;have lt:m + 1 < t.place.size:=by omega
   have en:t.place[m + 1]?=some (t.place[m + 1]):=Array.getElem?_eq_getElem lt;have l1:=a1 (m + 1) _ z en;rw [<- Array.getElem?_toList] at em en;obtain ⟨h1,e1⟩:=aP.mp em;obtain ⟨h2,e2⟩:=aP.mp en;have:=List.pairwise_iff_getElem.mp T.up m (m + 1) h1 h2 (Nat.lt_succ_self _);simp only [slotAt] at l1;omega
  omega
theorem Jb {a:aA} {es:Array (Int × au)} {ep:Nat} {t:SetTable} (hf:t.fits es.size=true) (hF:w.params.followText "set-order"=false) (T:iC true t) (nd:(!t.plain && decide (es.size > 1))=false) : Way prog w a { cls:=.type "set",data:=.set es ep t } ep (slotAt t) (es.toList.map (·.2)):=by
 intro A E s Q i ho hi q;rw [aq,Array.length_toList] at hi;have sz:t.place.size=es.size:=by
  simp only [SetTable.fits,Bool.and_eq_true,beq_iff_eq] at hf;exact hf.1
 unfold setNext setsByText;refine aj (wpAny_setState_of ho rfl hf (aj (aj (wpAny_askSetting (ak ?_)))))
 show wpAny _ _ (if w.params.followText "set-order"=true then _ else _) _ _ _
 rw [if_neg (by rw [hF]; exact Bool.false_ne_true)]
 split
 ·rename_i c
  exact absurd (show (!t.plain && decide (es.size > 1))=true from c) (by rw [nd]; exact Bool.false_ne_true)
 ·refine aj (show wpAny _ _ (if (!t.led && !es.isEmpty)=true then unsupported "set:maker-not-led" else pure ()) _ _ _ from ?_);rw [T.led,if_neg (by simp)];refine ak ?_;rw [DX T i (by omega)];dsimp only;rw [bG,Array.getElem?_toList] at q;rcases Nat.lt_or_eq_of_le hi with c | c
  ·have e1:es[i]?=some es[i]:=Array.getElem?_eq_getElem c;have e2:t.place[i]?=some (t.place.getD i 0):=by
    rw [Array.getElem?_eq_getElem (by omega)];simp [Array.getD,show i < t.place.size by omega]
   rw [e1] at q ⊢;rw [e2];exact ak q
  ·rw [Array.getElem?_eq_none (by omega)] at q ⊢;exact ak q
theorem dY:Slot "set_iterator" "__next__" "set_iterator.__next__" := .of (owner:="set_iterator") (n:="__next__") (by rw [typeLookup_type]; rw [builtinLookup_eq_fast]; kernel_rfl) (by decide +kernel) (by decide +kernel) (by decide +kernel) (by first | exact .inr (by decide +kernel) | exact .inl (by decide +kernel)) (by rw [isSubtype_type]; kernel_rfl)
theorem kZ:entryFor table "set_iterator.__next__"=some Builtin.«set_iterator.__next__»:=entryFor_of_fast (by kernel_rfl)
theorem mO (a:au):argsOk "set_iterator.__next__" ⟨[a],[]⟩:=by unfold argsOk; kernel_rfl
theorem vO:entryFor table "set.__iter__"=some Builtin.«frozenset.__iter__» := entryFor_alias (id':="frozenset.__iter__") (by kernel_rfl) rfl (by decide +kernel) (by kernel_rfl)
def ji (h:Heap) (it a:aA) (x:au) (i n ep:Nat):Prop:=∃ o,h.get? it=some o/\o.cls=.type "set_iterator"/\o.data=.fields #[x,.int i 0,.ref a,.int n 0,.int ep 0]
theorem DY {it a:aA} {es:Array (Int × au)} {ep i:Nat} {t:SetTable} {f:Nat->Nat} {vs:List au} {Q:Option au->aG->Prop} (calm:A.handled=none) (W:Way prog w a { cls:=.type "set",data:=.set es ep t } ep f vs) (hf:t.fits es.size=true) (ne:a≠it) (hn:vs.length=es.size) (I:ji s.heap it a (.int (f i) 0) i es.size ep) (ho:s.heap.get? a=some { cls:=.type "set",data:=.set es ep t }) (hi:i<=vs.length) (item:∀ v h',vs[i]?=some v->ji h' it a (.int (f (i + 1)) 0) (i + 1) es.size ep->Heap.SameBut it s.heap h'->Q (some v) { s with heap:=h' }) (stop:vs[i]?=none->∀ h',Heap.ExtBut it s.heap h'->Q none { s with heap:=h' }):wpAny (model prog w) A (pyNext (.ref it)) Q E s:=by
 obtain ⟨o,hit,hc,hd⟩:=I;have ty:s.TypeIs (.ref it) "set_iterator":=⟨o,hit,hc⟩;unfold pyNext;refine aj (wpAny_attempt (wpAny_callSpecial?_slot (name:=Str.ofString "__next__") ty dY (wpAny_call_entry dY ty kZ ?_ (mO _))));unfold Builtin.«set_iterator.__next__»;refine aj (wpAny_of_eq (a:=(Value.ref it,[])) rfl (aj (wpAny_fieldsOf hit hd ?_)));dsimp only;refine aj (wpAny_setEntries_of ho rfl hf ?_);rw [if_neg (by simp)];refine aj (show wpAny _ _ (setNext a ((f i:Nat):Int).toNat ((i:Nat):Int).toNat ((ep:Nat):Int).toNat) _ _ _ from ?_);simp only [cA];refine W _ _ s _ i ho hi ?_;cases c:vs[i]? with
 | none =>
  dsimp only [Option.map];refine aj (wpAny_setField hit hd (by simp) (aj (m:=newExc (.type "StopIteration") []) ?_));simp only [newExc,newTuple];refine aj (wpAny_newObj_type (aj (m:=firstArgMember _ _) (wpAny_of_eq (a:=Value.none) (by first | rfl | (simp only [firstArgMember]; rfl)) (wpAny_newObj_type ?_ (by size_fits)))) (by size_fits));refine wpAny_raiseNew_none (show A.in1.handled=none from calm) (aj (wpAny_isInstance (T:="StopIteration") (b:=true) ⟨_,aD _ rfl,rfl⟩ isSubtype_stop ?_));exact ak (stop c _ (((Heap.SameBut.update ..).extBut.push _).push _))
 | some v =>
  dsimp only [Option.map];have d1:=Obj.data_mapFields hd fun v=>v.setIfInBounds 0 (rawInt (f (i + 1)))
  have g1:=Heap.get?_update_self (Obj.mapFields fun v=>v.setIfInBounds 0 (rawInt (f (i + 1)))) hit (Obj.isFreed_of_fields d1);refine aj (wpAny_setField hit hd (by simp) ?_);have d2:=Obj.data_mapFields d1 fun v=>v.setIfInBounds 1 (rawInt ((i:Int) + 1))
  have g2:=Heap.get?_update_self (Obj.mapFields fun v=>v.setIfInBounds 1 (rawInt ((i:Int) + 1))) g1 (Obj.isFreed_of_fields d2);refine aj (wpAny_setField g1 d1 (by simp) (ak ⟨v,rfl,ak (item v _ c ⟨_,g2,(Obj.cls_mapFields ..).trans ((Obj.cls_mapFields ..).trans hc),?_⟩ ((Heap.SameBut.update ..).trans (Heap.SameBut.update ..)))⟩));rw [d2];simp [rawInt]
theorem BJ {it a tp:aA} {es:Array (Int × au)} {ep i m:Nat} {t:SetTable} {ps:List Nat} {ot:Obj} {Q:Option au->aG->Prop} (calm:A.handled=none) (hf:t.fits es.size=true) (hn:ps.length=es.size) (lt:∀ j ∈ ps,j < es.size) (I:ji s.heap it a (.ref tp) i es.size ep) (ho:s.heap.get? a=some { cls:=.type "set",data:=.set es ep t }) (ht:s.heap.get? tp=some ot) (hdt:ot.data=.seq (ps.map fun j:Nat=>rawInt j).toArray m) (hi:i<=ps.length) (item:∀ v h',(ps.map fun j=>(es.getD j (0,.none)).2)[i]?=some v->ji h' it a (.ref tp) (i + 1) es.size ep->Heap.SameBut it s.heap h'->Q (some v) { s with heap:=h' }) (stop:(ps.map fun j=>(es.getD j (0,.none)).2)[i]?=none->∀ h',Heap.ExtBut it s.heap h'->Q none { s with heap:=h' }):wpAny (model prog w) A (pyNext (.ref it)) Q E s:=by
 obtain ⟨o,hit,hc,hd⟩:=I;have ty:s.TypeIs (.ref it) "set_iterator":=⟨o,hit,hc⟩;unfold pyNext;refine aj (wpAny_attempt (wpAny_callSpecial?_slot (name:=Str.ofString "__next__") ty dY (wpAny_call_entry dY ty kZ ?_ (mO _))));unfold Builtin.«set_iterator.__next__»;refine aj (wpAny_of_eq (a:=(Value.ref it,[])) rfl (aj (wpAny_fieldsOf hit hd ?_)));dsimp only;refine aj (wpAny_setEntries_of ho rfl hf ?_);rw [if_neg (by simp)];refine aj (wpAny_seqItems ht hdt ?_);dsimp only;simp only [cA,List.getElem?_toArray,bG];cases c:ps[i]? with
 | none =>
  have d1:=Obj.data_mapFields hd fun v=>v.setIfInBounds 0 (rawInt 0)
  have g1:=Heap.get?_update_self (Obj.mapFields fun v=>v.setIfInBounds 0 (rawInt 0)) hit (Obj.isFreed_of_fields d1);dsimp only [Option.map];refine aj (wpAny_setField hit hd (by simp) (aj (wpAny_setField g1 d1 (by simp) (aj (m:=newExc (.type "StopIteration") []) ?_))));simp only [newExc,newTuple];refine aj (wpAny_newObj_type (aj (m:=firstArgMember _ _) (wpAny_of_eq (a:=Value.none) (by first | rfl | (simp only [firstArgMember]; rfl)) (wpAny_newObj_type ?_ (by size_fits)))) (by size_fits));refine wpAny_raiseNew_none (show A.in1.handled=none from calm) (aj (wpAny_isInstance (T:="StopIteration") (b:=true) ⟨_,aD _ rfl,rfl⟩ isSubtype_stop ?_));exact ak (stop (by rw [bG,c]; rfl) _ ((((Heap.SameBut.update ..).trans (Heap.SameBut.update ..)).extBut.push _).push _))
 | some j =>
  have lj:j < es.size:=lt j (aV c);dsimp only [Option.map,rawInt];unfold setNextDrawn;refine aj (aj (wpAny_setState_of ho rfl hf ?_));simp only [cA,bne_self_eq_false,Bool.false_eq_true,↓reduceIte];have ej:es[j]?=some (es.getD j (0,.none)):=by
   rw [Array.getElem?_eq_getElem lj];simp [Array.getD,lj]
  rw [ej];refine ak ?_;have d1:=Obj.data_mapFields hd fun v=>v.setIfInBounds 1 (rawInt ((i:Int) + 1))
  have g1:=Heap.get?_update_self (Obj.mapFields fun v=>v.setIfInBounds 1 (rawInt ((i:Int) + 1))) hit (Obj.isFreed_of_fields d1);refine aj (wpAny_setField hit hd (by simp) (ak ⟨(es.getD j (0,.none)).2,rfl,ak (item _ _ (by rw [bG,c]; rfl) ⟨_,g1,(Obj.cls_mapFields ..).trans hc,?_⟩ (Heap.SameBut.update ..))⟩));rw [d1];simp [rawInt]
theorem mQ:Slot "set_iterator" "__iter__" "set_iterator.__iter__" := .of (owner:="set_iterator") (n:="__iter__") (by rw [typeLookup_type]; rw [builtinLookup_eq_fast]; kernel_rfl) (by decide +kernel) (by decide +kernel) (by decide +kernel) (by first | exact .inr (by decide +kernel) | exact .inl (by decide +kernel)) (by rw [isSubtype_type]; kernel_rfl)
theorem rz:entryFor table "set_iterator.__iter__"=some Builtin.«dict_keyiterator.__iter__» := entryFor_alias (id':="dict_keyiterator.__iter__") (by kernel_rfl) (by rfl) (by decide +kernel) (by kernel_rfl)
theorem uF (a:au):argsOk "set_iterator.__iter__" ⟨[a],[]⟩:=by unfold argsOk; kernel_rfl
theorem uf {it a:aA} {X:Nat->au} {n ep:Nat} {vs:List au} {fp:List aA} {keep:Heap->Prop} (out:it ∉ fp) (kf:∀ h h',keep h->(∀ b ∈ fp,∀ o,h.get? b=some o->h'.get? b=some o)->keep h') (hv:vs.length=n) (nxt:∀ i (s:aG) (Q:Option au->aG->Prop) (E:au->aG->Prop),keep s.heap->ji s.heap it a (X i) i n ep->i<=n -> (∀ v h',vs[i]?=some v->ji h' it a (X (i + 1)) (i + 1) n ep->Heap.SameBut it s.heap h'->Q (some v) { s with heap:=h' })->(vs[i]?=none->∀ h',Heap.ExtBut it s.heap h'->Q none { s with heap:=h' })->wpAny (model prog w) A (pyNext (.ref it)) Q E s) : WalksS prog w A it (it::fp) [it] (fun a b=>b=a) n (fun i v=>vs[i]?=some v) (fun i s=>ji s.heap it a (X i) i n ep/\keep s.heap) where
 sub:=fun b hb=>by rw [aL.mp hb]; exact mem_cons_self
 grefl:=fun _=>rfl
 gtrans:=fun _ _ _ p q=>q.trans p
 frame:=fun i s h' _ st _ hk=>by
  obtain ⟨⟨o,h1,h2⟩,k⟩:=st;exact ⟨⟨o,hk it mem_cons_self o h1,h2⟩,kf _ _ k fun b hb=>hk b (mem_cons_of_mem _ hb)⟩
 item:=fun i s Q E hi st q=>nxt i s Q E st.2 st.1 (Nat.le_of_lt hi) (fun v h' e I sb=>q v _ e ⟨I,kf _ _ st.2 fun b hb o z=>(sb.2 b fun y=>out (y ▸ hb)).trans z⟩ ⟨fun b o hb z=>(sb.2 b fun y=>hb (by simp [y])).trans z,rfl,rfl,rfl,aH _⟩) fun z=>by rw [aR (by omega)] at z; cases z
 done:=fun s Q E st q=>nxt n s Q E st.2 st.1 (aH _) (fun v h' e I sb=>by rw [List.getElem?_eq_none (by omega)] at e; cases e) fun _ h' ext=>q _ ⟨fun b o hb z=>ext b o (fun y=>hb (by simp [y])) z,rfl,rfl,rfl,aH _⟩
 self:=fun i s Q E st q=>by
  obtain ⟨⟨o,h1,h2,_⟩,_⟩:=st;have ty:s.TypeIs (.ref it) "set_iterator":=⟨o,h1,h2⟩;exact wpAny_pyIter_slot ty mQ (wpAny_call_entry mQ ty rz (show wpAny _ _ (slotArgs "__iter__" 0 ⟨[.ref it],[]⟩ >>= fun p=>ret p.1) _ _ _ from aj (wpAny_of_eq (a:=(Value.ref it,[])) rfl (ak ⟨_,rfl,_,_,ty,dY.lookup,q⟩))) (uF _))
theorem Jc {a:aA} {ns:List Int} {Q:au->aG->Prop} (calm:A.handled=none) (small:ns.length < scanBound) (S:pD prog w s.heap a ns) (k:∀ (it:aA) (h':Heap) (d:Drawn) (n:Nat) (vs:List au) (fp:List aA) (St:Nat->aG->Prop) (ms:List Int),WalksS prog w A it fp [it] (fun a b=>b=a) n (fun i v=>vs[i]?=some v) St->St 0 { s with heap:=h',drawn:=d }->vs.length=n->IntsAre vs ms->ms.Perm ns -> (∀ b ∈ fp,b=a\/s.heap.objs.size<=b)->s.heap.objs.size<=it->(∀ b o,s.heap.get? b=some o->h'.get? b=some o)->Q (.ref it) { s with heap:=h',drawn:=d }):wpAny (model prog w) A (pyIter (.ref a)) Q E s:=by
 obtain ⟨es,ep,t,ho,hf,T,hel,ms,r,p⟩:=S;have ty:s.TypeIs (.ref a) "set":=⟨_,ho,rfl⟩;have la:=Heap.lt_size ho;have len:es.size=ms.length:=by
  have:=IntsAre.length r;rw [aq,Array.length_toList] at this;exact this
 have big:∀ {h h':Heap},(∀ b ∈ [a],∀ o,h.get? b=some o->h'.get? b=some o)->∀ o,h.get? a=some o->h'.get? a=some o:=fun z=>z a (by simp)
 refine wpAny_pyIter_slot ty PySem.F.slot_set_iter (wpAny_call_entry PySem.F.slot_set_iter ty vO ?_ (PySem.F.args_set_iter_1 _));unfold Builtin.«frozenset.__iter__» Builtin.Frozenset.slot0 Builtin.Frozenset.sizeOf setDrawn;refine aj (aj (wpAny_of_eq (a:=(Value.ref a,[])) rfl (ak ?_)));refine aj (aj (wpAny_setEntries_of ho rfl hf (ak ?_)));refine aj (aj (wpAny_setState_of ho rfl hf (aj (aj (wpAny_askSetting (ak (ak ?_)))))))
 show wpAny _ _ (if (!w.params.followText "set-order" && (!t.plain && decide (es.size > 1)))=true then _ else _) _ _ _
 have push:∀ (h:Heap) (x:au),(∀ b o,s.heap.get? b=some o->h.get? b=some o)->ji (h.push { cls:=.type "set_iterator",data:=.fields #[x,.int 0 0,.ref a,.int es.size 0,.int ep 0] }) h.objs.size a x 0 es.size ep:=fun h x _=>⟨_,aD _ rfl,rfl,rfl⟩
 split
 ·rename_i c
  refine aj (Gu es.size (List.range es.size) s (by simp) fun ps d pp=>?_);have pl:ps.length=es.size:=by rw [pp.length_eq,length_range]
  have lt:∀ j ∈ ps,j < es.size:=fun j hj=>mem_range.mp (pp.mem_iff.mp hj)
  refine aj (wpAny_newTuple ?_ (by rw [aq,pl,len,p.length_eq]; exact fits_of_scanBound small));have ho1:(s.heap.push (seqObj "tuple" (ps.map fun j:Nat=>rawInt j).toArray 0)).get? a=some { cls:=.type "set",data:=.set es ep t }:=ao _ ho;refine aj (wpAny_setEpoch_of ho1 rfl hf (aj (wpAny_newObj_type (ak ⟨_,rfl,"set_iterator",_,⟨_,aD _ rfl,rfl⟩,dY.lookup,?_⟩))));have pv:(ps.map fun j=>(es.getD j (0,.none)).2).Perm (es.toList.map (·.2)):=by
   refine (pp.map _).trans (Perm.of_eq ?_);apply ext_getElem?;intro j;rw [bG,bG,Array.getElem?_toList (xs:=es)];rcases Nat.lt_or_ge j es.size with z | z
   ·rw [List.getElem?_range z,Array.getElem?_eq_getElem z];simp [Array.getD,z]
   ·rw [Array.getElem?_eq_none z,List.getElem?_eq_none (by simpa using z)];rfl
  obtain ⟨ms',r',p'⟩:=IntsAre.perm pv r;have hv:(ps.map fun j=>(es.getD j (0,.none)).2).length=es.size:=by rw [aq,pl]
  have z1:(s.heap.push (seqObj "tuple" (ps.map fun j:Nat=>rawInt j).toArray 0)).objs.size=s.heap.objs.size + 1:=Heap.size_push _ _
  let otp:Obj:=seqObj "tuple" (ps.map fun j:Nat=>rawInt j).toArray 0
  refine show Q (.ref (s.heap.push otp).objs.size) { s with heap:=(s.heap.push otp).push { cls:=.type "set_iterator",data:=.fields #[.ref s.heap.objs.size,.int 0 0,.ref a,.int es.size 0,.int ep 0] },drawn:=d } from ?_;rw [show (s.heap.push otp).objs.size=s.heap.objs.size + 1 from z1];refine k (s.heap.objs.size + 1) _ d es.size _ [s.heap.objs.size + 1,a,s.heap.objs.size] _ ms' (uf (a:=a) (ep:=ep) (X:=fun _=>.ref s.heap.objs.size) (keep:=fun h=>h.get? a=some { cls:=.type "set",data:=.set es ep t }/\h.get? s.heap.objs.size=some otp) (fun z=>(aK.mp z).elim (Nat.ne_of_gt (Nat.lt_succ_of_lt la)) fun z=>Nat.ne_of_gt (Nat.lt_succ_self _) (aL.mp z)) (fun h h' z q=>⟨q a (by simp) _ z.1,q s.heap.objs.size (by simp) _ z.2⟩) hv fun i s' Q E kp I hi item stop=>?_) ⟨?_,?_,?_⟩ hv r' (p'.trans p) (fun b hb=>?_) (Nat.le_succ _) (fun b o q=>ao _ (ao _ q))
  ·exact BJ calm hf pl lt I kp.1 kp.2 rfl (by rw [pl]; exact hi) item stop
  ·exact ⟨_,by rw [<- z1]; exact aD _ rfl,rfl,rfl⟩
  ·exact ao _ ho1
  ·exact ao _ (aD s.heap rfl)
  ·rcases aK.mp hb with z | z
   ·rw [z]; exact .inr (Nat.le_succ _)
   rcases aK.mp z with z | z
   ·exact .inl z
   ·rw [aL.mp z]; exact .inr (aH _)
 ·rename_i c
  refine aj (ak (aj (wpAny_setEpoch_of ho rfl hf (aj (wpAny_newObj_type (ak ⟨_,rfl,"set_iterator",_,⟨_,aD _ rfl,rfl⟩,dY.lookup,?_⟩))))));have all:∀ (f:Nat->Nat) (vs:List au),f 0=0->Way prog w a { cls:=.type "set",data:=.set es ep t } ep f vs->vs.Perm (es.toList.map (·.2))->Q (.ref s.heap.objs.size) { s with heap:=s.heap.push { cls:=.type "set_iterator",data:=.fields #[.int 0 0,.int 0 0,.ref a,.int es.size 0,.int ep 0] } }:=by
   intro f vs f0 W pv;obtain ⟨ms',r',p'⟩:=IntsAre.perm pv r;have hv:vs.length=es.size:=by rw [pv.length_eq,aq,Array.length_toList]
   have ne:a≠s.heap.objs.size:=Nat.ne_of_lt la;refine k s.heap.objs.size _ s.drawn es.size vs [s.heap.objs.size,a] _ ms' (uf (a:=a) (ep:=ep) (X:=fun i=>.int (f i) 0) (vs:=vs) (keep:=fun h=>h.get? a=some { cls:=.type "set",data:=.set es ep t }) (by simpa using fun z=>ne z.symm) (fun h h' z q=>q a (by simp) _ z) hv fun i s Q E kp I hi item stop=>?_) ⟨?_,?_⟩ hv r' (p'.trans p) (fun b hb=>?_) (aH _) (fun b o=>ao _)
   ·exact DY calm W hf ne hv I kp (by rw [hv]; exact hi) item stop
   ·show ji _ _ _ (.int (f 0) 0) 0 _ _
    rw [f0];exact ⟨_,aD _ rfl,rfl,rfl⟩
   ·exact ao _ ho
   ·rcases aK.mp hb with z | z
    ·rw [z]; exact .inr (aH _)
    ·exact .inl (aL.mp z)
  cases hT:w.params.followText "set-order" with
  | true =>
   refine all _ _ rfl (K7 hf hT) ?_;have:=yp (w.params.setOrder a ep) es.size 0 es.toList #[] (by simp);simp only [List.nil_append] at this;exact (show (pickOrder (w.params.setOrder a ep) es).toList.Perm es.toList from this).map _
  | false =>
   rw [hT] at T c;exact all _ _ rfl (Jb hf hT T (by simpa using c)) (.refl _)
end
section
variable {prog:bT} {w:World} {A:cL} {E:au->aG->Prop} {s:aG}
theorem xr:∀ {vs:List au} {ms:List Int} {acc:Array au},IntsAre vs ms->ItemsOf (fun i v=>vs[i]?=some v) acc vs.length->acc.toList=vs:=by
 intro vs ms acc r h;apply ext_getElem?;intro i;rw [Array.getElem?_toList];rcases Nat.lt_or_ge i acc.size with z | z
 ·have e:=Array.getElem?_eq_getElem z;rw [h.2 i _ e,e]
 ·rw [Array.getElem?_eq_none z,List.getElem?_eq_none (by rw [<- h.1]; exact z)]
theorem Gv {M:Model} {α:Type} {c:Prop} [Decidable c] {a b:Sem α} {Q:α->aG->Prop} (h:c) (k:wpAny M A a Q E s):wpAny M A (if c then a else b) Q E s:=by
 rw [if_pos h];exact k
theorem zE {a:aA} {ns:List Int} {Q:List au->aG->Prop} (calm:A.handled=none) (small:ns.length < scanBound) (S:pD prog w s.heap a ns) (k:∀ vs ms s',IntsAre vs ms->ms.Perm ns->(∀ b o,s.heap.get? b=some o->s'.heap.get? b=some o)->s'.gens=s.gens->s'.os=s.os->s.heap.objs.size<=s'.heap.objs.size->Q vs s'):wpAny (model prog w) A (collect (.ref a)) Q E s:=by
 obtain ⟨es,ep,t,ho,_⟩:=id S;have la:=Heap.lt_size ho;have neA:s.heap.objs.size≠a:=Nat.ne_of_gt la
 let l₀:Obj:={ cls:=.type "list",data:=.seq ([]:List au).toArray }
 have ho1:(s.heap.push l₀).get? a=some { cls:=.type "set",data:=.set es ep t }:=ao _ ho;have ty:({ s with heap:=s.heap.push l₀ }:aG).TypeIs (.ref a) "set":=⟨_,ho1,rfl⟩;have aex:A.in1.handled=none:=calm;unfold collect;refine aj (wpAny_runValue (codeAny_builtin PySem.F.entry_proto_collect ?_));rw [Around.under_plainId PySem.F.plain_proto_collect];refine show wpAny _ A.in1 (newList [] >>= fun l=>again (.builtin "list.__iadd__" ⟨[l,.ref a],[]⟩)) _ _ s from aj (wpAny_newObj_type (ak ⟨plainId_quiet PySem.F.plain_list_iadd _,codeAny_builtin PySem.F.entry_list_iadd ?_⟩));rw [Around.under_plainId PySem.F.plain_list_iadd];refine show wpAny _ A.in1 (Builtin.List.listExtendWith (.ref s.heap.objs.size) (.ref a) (.ref s.heap.objs.size)) _ _ { s with heap:=s.heap.push l₀ } from ?_;unfold Builtin.List.listExtendWith; refine aj (wpAny_typeOf ty ?_);have n1:Builtin.List.listSameRef (.ref s.heap.objs.size) (.ref a)=false:=by simp [Builtin.List.listSameRef,neA]
 have n2:(Value.type "set" == Value.type "list")=false:=by decide
 have n3:(Value.type "set" == Value.type "tuple")=false:=by decide
 simp only [n1,n2,n3,Bool.or_false,Bool.false_eq_true,if_false];refine aj (Jc aex small (S.at fun o=>ao _) fun it h' d n vs fp St ms W st hv r p lt le keep=>?_);have TY:=keep s.heap.objs.size _ (aD _ rfl);have zl:(s.heap.push l₀).objs.size=s.heap.objs.size + 1:=Heap.size_push _ _;have ty':({ s with heap:=h',drawn:=d }:aG).TypeIs (.ref a) "set":=⟨_,keep a _ ho1,rfl⟩;refine aj (wpAny_holding (?_));unfold Builtin.List.listLengthHint; refine aj (wpAny_specialOf ty' PySem.F.slot_set_len.lookup ?_);have sp:splitId "set.__len__"=some ("set","__len__"):=by decide +kernel
 dsimp only;rw [sp];dsimp only;refine aj (wpAny_isInstance ty' sub_set_self ?_);simp only [Bool.false_eq_true,Bool.not_true,if_false];refine Gv (by decide +kernel) (aj (wpAny_typeOf ty' (ak (Gv (by decide +kernel) ?_))));have sf:s.heap.objs.size ∉ fp:=fun z=>by
  rcases lt _ z with z | z
  ·exact neA z
  ·rw [zl] at z;exact cV _ z
 let g:Heap:=(h'.update s.heap.objs.size (Obj.mapSeq (·.push Value.none))).update s.heap.objs.size (Obj.mapSeq (·.pop))
 refine aj (wpAny_rule (aj ?_));refine show wpAny _ A.in1 (updateSeq s.heap.objs.size (·.push .none) >>= fun _=>updateSeq s.heap.objs.size (·.pop)) _ _ _ from aj (wpAny_updateSeq TY rfl ?_);have e2:=Heap.get?_update_self (Obj.mapSeq (·.push Value.none)) TY rfl;refine wpAny_updateSeq e2 rfl ?_;have e3:=Heap.get?_update_self (Obj.mapSeq (·.pop)) e2 rfl;have oth:∀ b o,b≠s.heap.objs.size->h'.get? b=some o->g.get? b=some o:=fun b o hb e=>(Heap.get?_update_other _ _ (Ne.symm hb)).trans ((Heap.get?_update_other _ _ (Ne.symm hb)).trans e)
 have nl:n<=sizeLine:=by
  have:=IntsAre.length r;have:=p.length_eq;exact bA (by omega) (fits_of_scanBound small)
 refine ak ⟨plainId_quiet PySem.F.plain_extend_loop _,codeAny_extend_loopS W nl _ sf _ n 0 _ _ _ rfl (dD _) (W.frame 0 ({ s with heap:=h',drawn:=d }:aG) _ s.toks st (aH _) fun b hb o e=>oth b o (fun z=>sf (z ▸ hb)) e) e3 (ItemsOf.nil _) fun s' acc c' hm hS' hacc=>?_⟩;refine show wpAny _ A (load s.heap.objs.size >>= _) _ _ s' from aj (wpAny_load hS' (ak ?_));rw [xr r (by rw [hv]; exact hacc)];refine k vs ms s' r p (fun b o q=>?_) hm.gens hm.os (Nat.le_of_lt (Heap.lt_size hS'));have lb:=Heap.lt_size q;refine hm.heap b o ?_ (oth b o (Nat.ne_of_lt lb) (keep b o (ao _ q)));intro z;rcases aK.mp z with z | z
 ·exact absurd z (Nat.ne_of_lt lb)
 ·rw [aL.mp z] at lb;rw [zl] at le;exact absurd (aU lb (Nat.le_of_succ_le le)) (cV _)
theorem BK {a:aA} {ns:List Int} {Q:au->aG->Prop} (calm:A.handled=none) (small:ns.length < 64) (S:pD prog w s.heap a ns) (k:∀ (l:aA) (out:List au) (ms:List Int) (e:Nat) (s':aG),IntsAre out ms->ms.Perm ns->ms.Pairwise (·<=·)->s.heap.objs.size<=l->s'.heap.get? l=some (seqObj "list" out.toArray e)->(∀ b o,s.heap.get? b=some o->s'.heap.get? b=some o)->s'.gens=s.gens->s'.os=s.os->Q (.ref l) s') : wpAny (model prog w) A (call (.builtin "sorted") [.ref a]) Q E s:=by
 obtain ⟨es,ep,t,ho,_⟩:=id S;refine Calls.call_function_entry kind_sorted plain_sorted entry_sorted (args_sorted1 (.ref a)) ?_;unfold Builtin.«sorted»;refine aj (m:=checkCount "sorted" 1 1 _) (ak (aj (zE (show A.in1.handled=none from calm) (by unfold scanBound; omega) S fun vs ms s' r p keep hg ho' grow=>?_)));have lv:vs.length < 64:=by have:=IntsAre.length r; have:=p.length_eq; omega
 refine aj (wpAny_newList ?_ (by have:=sizeLine_eq; omega));have at_:(s'.heap.push (seqObj "list" vs.toArray 0)).get? s'.heap.objs.size=some (seqObj "list" vs.toArray 0):=aD _ rfl;refine aj (wpAny_holding (wpAny_call_entry slot_list_sort ⟨_,at_,rfl⟩ entry_list_sort (list_sort_tree at_ r lv fun out ms' a1 a2 a3=>⟨_,rfl,?_⟩) (args_list_sort _)));obtain ⟨e,fin⟩:=sortedHeap_at (vs:=vs) (out:=out) at_;refine ak ⟨_,rfl,k s'.heap.objs.size out.toList ms' e _ a1 (a2.trans p) a3 grow (by simpa using fin) (fun b o q=>?_) hg ho'⟩;have q1:=keep b o q;have lb:=Heap.lt_size q1
 show (sortedHeap _ _ _ _).get? b=some o
 rw [sortedHeap_old (Nat.ne_of_lt lb) (by rw [Heap.size_push]; exact Nat.lt_succ_of_lt lb)];exact ao _ q1
end
def zF (P:bT) (w:World) (a:aA) (ns:List Int):HO:=.ext fun h=>pD P w h a ns
section
variable {X:Cx}
theorem Jd (hc:X.calm=true):gK X (.type "set") (fun xs H Q=>∃ p ns,xs=[.ref p]/\cY X.K H p (ns.map V.int)/\ns.length + 1 < scanBound/\∀ l,H l=none->Q (.ref l) (upd H l (zF X.prog X.w l (ig [] ns)))):=by
 intro pins s σ H xs us Q I r h;obtain ⟨p,ns,rfl,hq,hb,q⟩:=h;obtain ⟨u,rfl,rx⟩:=Vals.one r;cases rx;obtain ⟨its,rv,pl,hz⟩:=I.list hq;refine xq (I.ok.hd hc) pl.isList (intsAre_of rv) hb fun h' tk hS hk=>?_
 refine ⟨.ref s.heap.objs.size,_,I.laid (a:=s.heap.objs.size) (o:=zF X.prog X.w s.heap.objs.size (ig [] ns)) hk (aH _) ?_,rfl,q _ (I.hok.fresh (aH _))⟩;obtain ⟨es,ep,t,ho,rest⟩:=id hS;exact ⟨hS,⟨_,ho⟩,fun h1 h2 p k=>p.at k⟩
theorem Inv.dr {pins:List (aA × Obj)} {σ:List (Option V)} {H:Hp} {s:aG} {d:Drawn} (I:Inv X pins σ H s):Inv X pins σ H { s with drawn:=d }:=⟨I.ok,I.os,I.bare,I.base,I.loc,I.cell,I.free,I.gJ,I.pin,I.hok,I.len⟩
theorem Ea (hc:X.calm=true):gK X (.builtin "sorted") (fun xs H Q=>∃ p ns,xs=[.ref p]/\H p=some (zF X.prog X.w p ns)/\ns.length < 64/\∀ l (out:List Int),H l=none->out.Perm ns->out.Pairwise (·<=·)->Q (.ref l) (upd H l (.lst (out.map V.int)))):=by
 intro pins s σ H xs us Q I r h;obtain ⟨p,ns,rfl,e,hb,q⟩:=h;obtain ⟨u,rfl,rx⟩:=Vals.one r;cases rx;obtain ⟨hS,_⟩:=(show dJ X.prog X.w H s.heap p (zF X.prog X.w p ns) from I.hok p _ e);refine BK (I.ok.hd hc) hb hS fun l out ms e s' r p up le at_ keep hg ho=>?_
 obtain ⟨h',g',d',t',o'⟩:=s';dsimp only at hg ho;subst hg; subst ho;have J:=(Inv.dr (d:=d') I).laid (a:=l) (o:=.lst (ms.map V.int)) (h':=h') (t':=t') keep le ⟨?_,out,e,qX r,at_⟩
 ·exact ⟨.ref l,_,J,rfl,q l ms (I.hok.fresh le) p up⟩
 ·rw [aq,p.length_eq,sizeLine_eq];omega
end
theorem BL {xs out:List Int} (p:out.Perm (ig [] xs)) (up:out.Pairwise (·<=·)):xs=out ↔ xs.Pairwise (· < ·):=by
 have nd:out.Nodup:=p.nodup_iff.mpr (vN .nil);have up':out.Pairwise (· < ·):=by
  have:=up.and nd;exact this.imp fun h=>by have:=h.1; have:=h.2; omega
 constructor
 ·rintro rfl;exact up'
 ·intro h;have n2:xs.Nodup:=h.imp fun h=>by omega
  refine PySem.W.ksm_same ((List.perm_ext_iff_of_nodup n2 nd).mpr fun a=>?_) (h.imp fun h=>by omega) up;rw [p.mem_iff,Bv];simp
theorem K8:∀ {kvs:List (Key × V)} {vs:List (Key × au)} {k:Key},KV kvs vs->(∀ p ∈ kvs,p.1≠k)->∀ q ∈ vs,q.1≠k
 | _,_,_,.nil,_=>fun q hq=>nomatch hq
 | _,_,_,.cons h t,n=>fun q hq=>by
  rcases aK.mp hq with z | z
  ·rw [z,<- h.1];exact n _ (by simp)
  ·exact K8 t (fun p hp=>n p (by simp [hp])) q z
section
variable {X:Cx}
theorem K9 {pos:Pos}:PE X (.Dict [] [] pos) (fun _ H Q=>∀ p,H p=none->Q (.ref p) (upd H p (.dK []))):=by
 intro pins s σ H Q I h;refine wpAny_Dict_empty ⟨.ref s.heap.objs.size,_,I.laid (a:=s.heap.objs.size) (o:=.dK []) (t':=s.toks) (fun _ _ q=>ao _ q) (aH _) ?_,rfl,h _ (I.hok.fresh (aH _))⟩;exact ⟨dD _,beq_eq_false_iff_ne.mpr (Ne.symm (Nat.ne_of_lt I.Ip)),[],.nil,Heap.DictOf.new _⟩
def aey:Qm:=fun o i v H Q=>∃ (D:aA) (kvs:List (Key × V)) (n:Str),o=.ref D/\i=.str n/\H D=some (.dK kvs)/\(∀ p ∈ kvs,p.1≠Sum.inr n)/\kvs.length < sizeLine/\Q (upd H D (.dK (kvs++[(Sum.inr n,v)])))
theorem Je:adT X aey:=by
 intro pins s σ H o i v ov iv u Q I ro ri rv h;obtain ⟨D,kvs,n,rfl,rfl,hD,nk,lz,q⟩:=h;cases ro;obtain ⟨t,rfl⟩:=(show ∃ t,iv=Value.str n t from ri);obtain ⟨z,hd,vs,rel,dd⟩:=(show dJ X.prog X.w H s.heap D (.dK kvs) from I.hok D _ hD);have lv:kvs.length=vs.length:=Paired.length rel;refine wpAny_setItem_pairs (hsz:=by omega) (tX X.prog X.w n t) dd fun h' T3 hs=>?_
 have st:stored vs (Sum.inr n) u=vs++[(Sum.inr n,u)]:=by
  unfold stored;rw [if_neg];intro y;obtain ⟨q',hq',eq'⟩:=List.any_eq_true.mp y;exact K8 rel nk q' hq' (of_decide_eq_true eq')
 rw [st] at T3;have he:∃ q,h'.get? D=some q:=let ⟨q,_,_,hq,_⟩:=T3; ⟨q,hq⟩;refine ⟨_,I.write (x:=D) (e:=D) (o:=.dK (kvs++[(Sum.inr n,v)])) (by rw [hD]; trivial) (.inl rfl) (fun b z nb e=>(hs.2 b nb).trans e) he ?_,q⟩;exact ⟨by rw [aM]; exact lz,hd,_,Paired.snoc rel ⟨rfl,rv⟩,T3⟩
theorem pK (K:Fg) (hK:autoParam (X.K=K) zau0):gK X (.builtin "len") (fun xs H Q=>∃ p ys,xs=[.ref p]/\(cY K H p ys\/tY K H p ys)/\Q (.int ys.length) H):=by
 subst hK;exact eN
end
abbrev Cx.pL (X:Cx) (e:aA) (E':au->aG->Prop) (jN:List (aA × Obj)):Cx:={ X with A:=X.A.mark (some (.ref e)),calm:=false,xe:=E',pn:=jN }
section
variable {X:Cx} {pins jN:List (aA × Obj)} {σ:St} {H:Hp} {s:aG} {E':au->aG->Prop} {e:aA}
theorem Inv.pL (I:Inv X pins σ H s) (e:aA) (E':au->aG->Prop):Inv (X.pL e E' (X.pn++pins)) [] σ H s := ⟨⟨I.ok.mod,I.ok.kind,I.ok.glob,I.ok.blt,I.ok.above,I.ok.inj,I.ok.has,I.ok.cab,(fun z=>nomatch z),I.ok.frames,I.ok.stk,I.ok.exf,I.ok.bs,I.ok.HB,I.ok.Dm,I.ok.HD,I.ok.o9,I.ok.Og⟩,I.os,I.bare,I.base,I.loc,I.cell,I.free,I.gJ,fun p hp=>I.pin p (by simpa using hp),I.hok,I.len⟩
theorem Inv.Ri {jo:List (aA × Obj)} (ok:X.Ok) (I:Inv (X.pL e E' (X.pn++pins)) jo σ H s):Inv X pins σ H s := ⟨ok,I.os,I.bare,I.base,I.loc,I.cell,I.free,I.gJ,fun p hp=>I.pin p (mem_append_left _ hp),I.hok,I.len⟩
end
noncomputable def aez (i:Nat) (hit:au->Prop) (tb:XK->TS) (ts:aA->TS):TS:=fun D σ H=>∃ E0:XK,(∀ cls dx H',E0 cls dx H'->hit cls/\∀ e,H' e=none->ts e { nx:=fun _ _=>False,rt:=fun _ _=>False } (σ.set i (some (.ref e))) (upd H' e (lR e cls dx)))/\tb E0 D σ H
section
variable {X:Cx} {x n:Str} {c:au} {i:Nat} {np hpos pos:Pos} {body suite:List cQ} {b₀:cQ} {tb:XK->TS} {ts:aA->TS} {L:aA} {hit:au->Prop} {E:XK}
theorem Gw (acc:m6 X E) (hex:X.ex=[]) (F:oM X L) (hN:X.N.Nodup) (hi:X.N[i]?=some n) (Zv:X.env.scope.names.lookup n=some .local) (hg:Gl X x) (hm:X.mg x=some c) (Zw:∀ cls,hit cls->exmOne X.K cls c=some true) (hb:∀ (E':au->aG->Prop) (jN:List (aA × Obj)) (Eb:XK) (σ:St),Gr (X.pC E' jN) σ Eb->IV (X.pC E' jN) σ body (tb Eb)) (hs:∀ (e:aA) (E':au->aG->Prop) (jN:List (aA × Obj)),m6 (X.pL e E' jN) E->Dh (X.pL e E' jN) (b₀::suite) (ts e)) (hdb:autoParam ((x == ("__debug__":Str))=false) zau1) : PS X (.Try body [.ExceptHandler (some (.Name x np)) (some n) (b₀::suite) hpos] [] [] pos) (aez i hit tb ts):=by
 intro pins s σ H D I h;have hcls:(X.env.scope.kind == .class || (X.env.scope.kind == .module && X.env.locals != X.env.globals))=false:=by rw [I.ok.kind]; rfl
 refine wpAny_Try_except ?_;obtain ⟨Eb,met,h⟩:=h
 let E1:au->aG->Prop:=fun ev s₁=>wpAny (model X.prog X.w) X.A (noteFrame ev X.env) (fun _ s₂=>wpAny (model X.prog X.w) X.A (setFlight ev none) (fun _ s₃ =>
   wpAny (model X.prog X.w) X.A (handleBy ev X.env [.ExceptHandler (some (.Name x np)) (some n) (b₀::suite) hpos]) (SP X pins D) X.xe s₃) X.xe s₂) X.xe s₁
 suffices ajb:Gr (X.pC E1 (X.pn++pins)) σ Eb by
  refine bF (hb E1 (X.pn++pins) Eb σ ajb [] s H D (I.pC E1) h) (fun f s1 h1=>?_) fun ev s1 h1=>h1
  have un:∀ {σ':St} {H':Hp},Inv (X.pC E1 (X.pn++pins)) [] σ' H' s1->Inv X pins σ' H' s1:=fun J=>J.pP I.ok
  cases f with
  | next=>obtain ⟨σ',H',J,q⟩:=h1; exact wpAny_execs_nil ⟨σ',H',un J,q⟩
  | brk=>obtain ⟨σ',H',J,q⟩:=h1; exact ⟨σ',H',un J,q⟩
  | cont=>obtain ⟨σ',H',J,q⟩:=h1; exact ⟨σ',H',un J,q⟩
  | ret u=>obtain ⟨v,σ',H',J,r,q⟩:=h1; exact ⟨v,σ',H',un J,r,q⟩
 ·intro jo H' s' e cls dx I' fl q;obtain ⟨hh,q⟩:=met cls dx H' q;refine qY (X:=X.pC E1 (X.pn++pins)) I' I'.ok.frames F fl fun s1 I1 f1=>?_
  refine iU I1 f1 fun s2 I2 f2=>?_
  obtain ⟨t2,x2,le2,lt2⟩:=f2;have J2:Inv X pins σ H' s2:=I2.pP I.ok;have J2h:=J2.hand e;refine wpAny_handleBy_cons (codeAny_handlers_test ?_) (by intro z; cases z);refine gF (X:=X.hand e) J2h hg hm ?_ hdb;obtain ⟨oe,vs,he,hc,hd,hv,_⟩:=id x2;have ty:Looks (model X.prog X.w) s2.heap (typeOf (.ref e)) cls:=hc ▸ (Looks.ld he).andThen .now;refine (exm_one J2.jM ty (Zw cls hh)).here ?_;refine codeAny_handlers_suite_as (iU I2 ⟨t2,x2,le2,lt2⟩ fun s3 I3 f3=>?_);obtain ⟨t3,x3,Dy,lt3⟩:=f3;obtain ⟨oe3,vs3,Zx,hc3,Tt,hv3,cx3,_⟩:=id x3;have J3:Inv X pins σ H' s3:=I3.pP I.ok;have lX:Loose X pins H' e:=⟨Dy.1,Dy.2.1,Dy.2.2.1,Dy.2.2.2.1,Dy.2.2.2.2.1,fun p hp=>Dy.2.2.2.2.2 p (mem_append_left _ hp)⟩;have J4:Inv X pins σ (upd H' e (lR e cls dx)) s3:=J3.adopt lX (by rw [hex]; exact fun z=>nomatch z) (by
   refine ⟨⟨oe3,vs3,Zx,hc3,Tt,hv3,cx3⟩,⟨oe3,Zx⟩,fun h1 h2 p k=>?_⟩;obtain ⟨o,v,a,b⟩:=p;exact ⟨o,v,k o a,b⟩)
  let E2:au->aG->Prop:=fun xv s₃=>wpAny (model X.prog X.w) (X.A.mark (some (.ref e))) (noteFrame xv X.env) (fun _ s₃' =>
    wpAny (model X.prog X.w) (X.A.mark (some (.ref e))) (do bindName X.env n .none; unbindBehindTheSuite X.env n hpos) (fun _ s₄=>wpAny (model X.prog X.w) (X.A.mark (some (.ref e))) (passOn "try.except-as" xv X.env:Sem Flow) (fun _ _=>False) (notedBy (model X.prog X.w) (X.A.mark (some (.ref e))) X.env fun y s'=>cameBackBy (model X.prog X.w) X.A X.env X.xe y s') s₄) (fun y s₄=>wpAny (model X.prog X.w) (X.A.mark (some (.ref e))) (setFlight xv none) (fun _ s₅=>(notedBy (model X.prog X.w) (X.A.mark (some (.ref e))) X.env fun y s'=>cameBackBy (model X.prog X.w) X.A X.env X.xe y s') y s₅) (notedBy (model X.prog X.w) (X.A.mark (some (.ref e))) X.env fun y s'=>cameBackBy (model X.prog X.w) X.A X.env X.xe y s') s₄) s₃')
    (notedBy (model X.prog X.w) (X.A.mark (some (.ref e))) X.env fun y s'=>cameBackBy (model X.prog X.w) X.A X.env X.xe y s') s₃
  have ajc:m6 (X.pL e E2 (X.pn++pins)) E:=by
   intro aeA σ2 H2 s5 y cls2 dx2 I5 fl2 q2;have lY:∀ b,Loose (X.pL e E2 (X.pn++pins)) aeA H2 b->Loose X pins H2 b:=fun b l=>⟨l.1,l.2.1,l.2.2.1,l.2.2.2.1,l.2.2.2.2.1,fun p hp=>l.2.2.2.2.2 p (mem_append_left _ hp)⟩
   show wpAny (model X.prog X.w) (X.A.mark (some (.ref e))) (noteFrame (.ref y) X.env) _ _ s5
   refine qY (X:=X.pL e E2 (X.pn++pins)) I5 I5.ok.frames F fl2 fun s6 I6 f6=>?_
   obtain ⟨t6,x6,le6,lt6⟩:=f6;obtain ⟨m,hn6,_⟩:=id I6.loc;refine wpAny_nameGoes Zv hn6 hcls fun h' m' hn' sb=>?_
   have J7:=Inv.Bd (t':=s6.toks + 1) (I6.Ri I.ok) hn' sb;have x7:Exc h' y cls2 dx2 (some t6):=x6.keeps fun b o hb z=>(sb.2 b (by
    rcases hb with w | w
    ·rw [w]; exact le6.2.1
    ·cases w; exact lt6.2.1)).trans z
   unfold PySem.passOn;obtain ⟨oy,vy,hy7,hc7,hd7,hv7,_,h17,_⟩:=id x7;refine aj (wpAny_field hy7 hv7 h17 ?_);rw [if_neg (by simp)];refine aj (iU (X:=X) J7 ⟨t6,x7,lY _ le6,lY _ lt6⟩ fun s8 I8 f8=>?_);refine wpAny_throw ?_;refine qY (X:=X) I8 I8.ok.frames F f8.fly fun s9 I9 f9=>?_
   obtain ⟨t9,x9,le9,lt9⟩:=id f9;obtain ⟨oy9,vy9,hy9,hc9,hd9,hv9,_,h19,_⟩:=id x9
   show wpAny (model X.prog X.w) X.A _ _ X.xe s9
   refine aj (wpAny_field hy9 hv9 h19 ?_);rw [if_neg (by simp)];exact iU (X:=X) I9 f9 fun Oi I10 f10=>acc pins _ H2 Oi y cls2 dx2 I10 f10.fly q2
  refine qt (X:=X.pL e E2 (X.pn++pins)) (J4.pL e E2) hN hi (.inl Zv) (show RelV (.ref e) (.ref e) from rfl) (fun s4 I4=>?_) (.inr Zv);refine bF (hs e E2 (X.pn++pins) ajc [] s4 _ _ _ I4 (q e Dy.1)) (fun f s5 h5=>?_) fun _ _ z=>z
  cases f with
  | next=>obtain ⟨_,_,_,z⟩:=h5; exact z.elim
  | ret u=>obtain ⟨_,_,_,_,_,z⟩:=h5; exact z.elim
  | brk=>obtain ⟨_,_,_,z⟩:=h5; exact z.elim
  | cont=>obtain ⟨_,_,_,z⟩:=h5; exact z.elim
end
theorem xu:entryFor table "proto.unchain"=some Builtin.«proto.unchain»:=entryFor_of_tree (by kernel_rfl)
section
variable {pg:bT} {w:World} {A:cL} {E:au->aG->Prop}
theorem zG {e h:aA} {oh:Obj} {vh:Array au} {s:aG} {Q:au->aG->Prop} (hh:s.heap.get? h=some oh) (hd:oh.data=.fields vh) (h2:vh[2]?=some Value.none) (q:Q .none s) : wpAny (model pg w) A (runValue (.builtin "proto.unchain" ⟨[.ref e,.ref h,.ref h,.bool false],[]⟩)) Q E s:=by
 refine wpAny_runValue (codeAny_of_tree ?_)
 show wpAny _ _ (match entryFor table "proto.unchain" with | some b=>b ⟨[.ref e,.ref h,.ref h,.bool false],[]⟩ | none=>unsupported ((withoutEnding? "proto.unchain" "#data").getD "proto.unchain")) _ _ s
 rw [xu]
 show wpAny _ _ (Builtin.«proto.unchain» ⟨[.ref e,.ref h,.ref h,.bool false],[]⟩) _ _ s
 unfold Builtin.«proto.unchain»;refine aj (wpAny_field hh hd h2 ?_);rw [if_pos (by decide)];exact ak q
theorem xG {e h C:aA} {a0:au} {dx:Option aA} {sl:Array (Option au)} {oh:Obj} {vh:Array au} {s:aG} {Q:Flow->aG->Prop} (hh:A.handled=some (.ref h)) (nhe:h≠e) (he:s.heap.get? e=some { cls:=.ref C,dict:=dx,data:=.fields #[a0,.none,.none,.ref h,.bool true,.none],slots:=sl }) (hoh:s.heap.get? h=some oh) (hd:oh.data=.fields vh) (h2:vh[2]?=some Value.none) (fin:∀ h',(∀ b,b≠e->h'.get? b=s.heap.get? b)->h'.get? e=some { cls:=.ref C,dict:=dx,data:=.fields #[a0,.none,.ref h,.ref h,.bool true,.none],slots:=sl }->E (.ref e) { s with heap:=h' }) : wpAny (model pg w) A (raiseNew (.ref e):Sem Flow) Q E s:=by
 unfold raiseNew;refine aj (wpAny_handled ?_);rw [hh];have ne':(Value.ref h != Value.ref e)=true:=by
  rw [bne_iff_ne];intro z;injection z with z;exact nhe z
 dsimp only;rw [if_pos ne'];refine aj (wpAny_holding (zG hoh hd h2 ?_))
 show wpAny (model pg w) A (setField (.ref e) 2 (.ref h) >>= fun _=>throw (Value.ref e)) Q E s
 refine aj (wpAny_setField he rfl (by show 2 < 6; decide) ?_);refine wpAny_throw (fin _ (fun b nb=>Heap.get?_update_other _ _ (Ne.symm nb)) ?_);exact Heap.get?_update_self _ he rfl
variable {q nm q' nm':Str} {N C N' B:aA} {bmB bm bs bm' bs':List au} {hdct Gx:Bool} {sn sn':List Str} {sub sub':List au} {ab ab':Bool} {col col':Option Bool} {dd T3:Option aA} {k0 k1 k2 k3 k5 k0' k1' k2' k3' k5':Option au} {newId newId':String}
theorem Ec {s:aG} {env:Env} {x c:Sem au} {h:aA} {Q:Flow->aG->Prop} (hbase:bm.contains (.type "BaseException")=true) (ZX:bm'.contains (.type "BaseException")=true) (hh:A.handled=some (.ref h)) (hx:wpAny (model pg w) A x (fun v s₁=>∃ e,v=.ref e/\wpAny (model pg w) A c (fun v2 s₂=>v2=.ref h/\∃ a0 dx sl,s₂.heap.get? C=some (excClassObj nm q C N bs bm hdct sn sub ab col dd k0 k1 k2 k3 k5 newId) /\ s₂.heap.get? e=some { cls:=.ref C,dict:=dx,data:=.fields #[a0,.none,.none,.none,.bool false,.none],slots:=sl }/\h≠e/\C≠e/\B≠e /\ s₂.heap.get? B=some (excClassObj nm' q' B N' bs' bm' Gx sn' sub' ab' col' T3 k0' k1' k2' k3' k5' newId')/\(∃ oh vh,s₂.heap.get? h=some oh/\oh.cls=.ref B/\oh.data=.fields vh/\vh[2]?=some Value.none) /\ ∀ h',(∀ b,b≠e->h'.get? b=s₂.heap.get? b)->h'.get? e=some { cls:=.ref C,dict:=dx,data:=.fields #[a0,.none,.ref h,.ref h,.bool true,.none],slots:=sl }->E (.ref e) { s₂ with heap:=h' }) E s₁) E s) : wpAny (model pg w) A (raiseStmt env (some x) (some c)) Q E s:=by
 have ZG:(Value.ref C::bm).contains (.type "BaseException")=true:=by rw [contains_cons,hbase,Bool.or_true]
 have aje:(Value.ref B::bm').contains (.type "BaseException")=true:=by rw [contains_cons,ZX,Bool.or_true]
 unfold raiseStmt;refine aj (bF hx (fun v s₁ h₁=>?_) fun _ _ x=>x);obtain ⟨e,rfl,hc⟩:=h₁;refine aj (wpAny_holding (bF hc (fun v2 s₂ h₂=>?_) fun _ _ x=>x));obtain ⟨ev2,a0,dx,sl,hcl,he,nhe,nCe,nBe,hcl',⟨oh,vh,hoh,Z0,Z1,hv2⟩,fin⟩:=h₂;subst ev2;obtain ⟨hp,g1,d1,tk,o1⟩:=s₂;have anL:=hoh;obtain ⟨och,odh,odt,osh⟩:=oh;cases Z0;cases Z1
 repeat (first | with_reducible refine wpAny_loadPart_at he ?_ | with_reducible refine wpAny_loadPart_at hcl ?_ | (with_reducible refine wpAny_isSubtype_exc hcl ?_; rw [ZG]) | wp_step)
 with_reducible refine wpAny_isSubtype_exc hcl' ?_
 rw [aje,if_pos rfl];refine ak ?_;have oth:∀ (hq:Heap) (f:Obj->Obj) b,b≠e->(hq.update e f).get? b=hq.get? b:=fun hq f b nb=>Heap.get?_update_other hq f (Ne.symm nb)
 have u1:(hp.update e (Obj.mapFields fun xs=>xs.setIfInBounds 3 (.ref h))).get? e=some { cls:=.ref C,dict:=dx,data:=.fields #[a0,.none,.none,.ref h,.bool false,.none],slots:=sl }:=Heap.get?_update_self _ he rfl;refine aj (wpAny_setField he rfl (by show 3 < 6; decide) ?_);have u2:((hp.update e (Obj.mapFields fun xs=>xs.setIfInBounds 3 (.ref h))).update e (Obj.mapFields fun xs=>xs.setIfInBounds 4 (.bool true))).get? e=some { cls:=.ref C,dict:=dx,data:=.fields #[a0,.none,.none,.ref h,.bool true,.none],slots:=sl }:=Heap.get?_update_self _ u1 rfl;refine aj (wpAny_setField (s:={ heap:=hp.update e (Obj.mapFields fun xs=>xs.setIfInBounds 3 (.ref h)),gens:=g1,drawn:=d1,toks:=tk,os:=o1 }) u1 rfl (by show 4 < 6; decide) ?_);have o2:∀ b,b≠e->((hp.update e (Obj.mapFields fun xs=>xs.setIfInBounds 3 (.ref h))).update e (Obj.mapFields fun xs=>xs.setIfInBounds 4 (.bool true))).get? b=hp.get? b:=fun b nb=>(oth _ _ b nb).trans (oth _ _ b nb)
 generalize (hp.update e (Obj.mapFields fun xs=>xs.setIfInBounds 3 (.ref h))).update e (Obj.mapFields fun xs=>xs.setIfInBounds 4 (.bool true))=h2 at u2 o2 ⊢;have ajg:=(o2 C nCe).trans hcl;have ajh:=(o2 h nhe).trans hoh
 repeat (first | with_reducible refine wpAny_loadPart_at u2 ?_ | with_reducible refine wpAny_loadPart_at ajg ?_ | wp_step)
 exact xG hh nhe u2 ajh rfl hv2 fun h' o3 e3=>fin h' (fun b nb=>(o3 b nb).trans (o2 b nb)) e3
end
theorem gY.make {k:Nat} {A:cL} (r:gY (k + 1) A) (C:aA) (us:List au) (kw:List (Str × au)):gY k (A.under (.builtin "type.__call__" ⟨.ref C::us,kw⟩)):=by
 have h1:=r.dp;have h2:=r.un;exact ⟨by rw [uY]; omega,by rw [uZ]; omega⟩
noncomputable def Rj (C:aA) (E:XK) (sp:Sp) (ta:TA) (i:Nat) (h B:aA):TS:=fun _ σ H=>σ[i]?=some (some (.ref h))/\ta σ H fun vs H1=>vs.length<=sizeLine/\H1 h=some (lR h (.ref B) none)/\∀ e,H1 e=none->sp (.ref e::vs) (upd H1 e (iB e C none)) (fun v H2=>v=.non/\∃ dx,H2 e=some (iB e C (some dx))/\H2 h=some (lR h (.ref B) none)/\E (.ref C) (some dx) (del H2 e)) fun _ _ _=>False
section
variable {X:Cx} {E:XK} {x y n:Str} {C B h fI:aA} {fd:dN} {k i:Nat} {ps:List Str} {sp:Sp} {bmB aeB:List au} {B0 B1 newId newId' initId Rk:String} {np np2 cpos pos:Pos} {e₀:Expr} {rest:List Expr} {ta:TA}
theorem yq (acc:m6 X E) (hh:X.A.handled=some (.ref h)) (hg:Gl X x) (hm:X.mg x=some (.ref C)) (q:QW X.K C fI bmB newId) (hfn:isFn X.K (.ref fI)=true) (FB:ExcBaseFacts B0 newId initId bmB) (hmB:X.mg y=some (.ref B)) (qB:excIn X.K B aeB newId'=true) (FB':ExcBaseFacts B1 newId' Rk aeB) (F:mJ X.prog X.w X.K X.mg X.base (eZ X.prog X.w) k fI fd ps sp) (hr:gY (k + 1) X.A) (hb:Binds X.K fd ps []) (ha:PA X (e₀::rest) ta) (hc:PE X (.Name n np2) (Qk i)) (ex0:autoParam (X.ex=[]) zau0) (he:autoParam (starEach (e₀::rest) X.env=(false,eval e₀ X.env)::starEach rest X.env) zau0) (hpl:autoParam ((backTo cpos (starEach rest X.env)).any (·.1)=false) zau0) (hdb:autoParam ((x == ("__debug__":Str))=false) zau1) : PS X (.Raise (some (.Call (.Name x np) (e₀::rest) [] cpos)) (some (.Name n np2)) pos) (Rj C E sp ta i h B):=by
 intro pins s σ H D I h0;obtain ⟨hσ,h0⟩:=h0;obtain ⟨dd,nm,bs,up,N,qn,hd,sn,sub,ab,col,a,b,c,d,f,look,tl,ok,ini⟩:=q.ex;obtain ⟨tl',N',nm',qn',bs',Gx,sn',sub',ab',col',T3,k0',k1',k2',k3',k5',mN',hC',hN',anO,T'⟩:=(Kf (mg:=X.mg) I.mod.wW hmB qB).obj;have hC:=I.mod.wW C _ look;have hN:=Heap.Ns.of_isNs (isNs_of_in I.mod.wW ok);have T:=tail_of_in I.mod.wW tl;have hty:typeIn X.K (.ref fI)=some (.type "function"):=beq_iff_eq.mp hfn;have hin:X.base.nsMap N "__init__"=some (.ref fI):=TQ I.mod.wW hN ini;rw [arm_exec_Raise];refine aj (wpAny_standAt (Ec (C:=C) (nm:=nm) (q:=qn) (N:=N) (bs:=bs) (bm:=up) (hdct:=hd) (sn:=sn) (sub:=sub) (ab:=ab) (col:=col) (dd:=dd) (k0:=a) (k1:=b) (k2:=c) (k3:=d) (k5:=f) (newId:=newId) (B:=B) (nm':=nm') (q':=qn') (N':=N') (bs':=bs') (bm':=tl') (Gx:=Gx) (sn':=sn') (sub':=sub') (ab':=ab') (col':=col') (T3:=T3) (k0':=k0') (k1':=k1') (k2':=k2') (k3':=k3') (k5':=k5') (newId':=newId') (T.hasType FB.hasBase) (T'.hasType FB'.hasBase) hh ?_));refine aj (bF (wpAny_Call_ofName (gF I hg hm ?_ hdb)) (fun v s₃ h₃=>aj (wpAny_standAt (ak h₃))) fun _ _ z=>z);have hA:=ha cpos pins s σ H _ I h0;rw [he] at hA ⊢;unfold callWith;refine aj (wpAny_holding (Calls.evalArgs_plain (dX hA fun us s2 h2=>aj (wpAny_standAt ?_))));obtain ⟨vs,H1,I1,rv,hz,hh1,hE⟩:=h2;have hall:((backTo cpos ((false,eval e₀ X.env)::starEach rest X.env)).any (·.1) || (backToKw cpos (keywordEach [] X.env)).any (·.1.isNone))=false:=by
  show ((false || (backTo cpos (starEach rest X.env)).any (·.1)) || false)=false
  rw [hpl];rfl
 obtain ⟨hp,g0,d0,tk,o0⟩:=s2;have Oj:=I1.bk _ _ hC;have hB1:=I1.bk _ _ hC';obtain ⟨oI,hfI,hfc⟩:=KD I1.jM hty;simp only [hall];refine aj (wpAny_keeperOf_exc Oj ?_);refine aj (Br FB (T.keeps I1.bk) Oj (hN.keeps I1.bk) hin hfI hfc (fun h' e hm'=>?_) (by show us.length<=sizeLine; rw [<- rv.length]; exact hz));have I2:Inv X pins σ H1 ⟨h',g0,d0,tk,o0⟩:=I1.kept (t':=tk) hm'.keeps;obtain ⟨t,hte,_,_⟩:=hm'.there;have lo:=I1.gB hm'.new;have hex:e ∉ X.ex:=by rw [ex0]; simp
 have I3:=I2.adopt (b:=e) (o:=iB e C none) lo hex (uK hte);have r2:Vals (V.ref e::vs) (Value.ref e::us):=.cons rfl rv;have hq:=hE e lo.1;have hl:(Value.ref e::us).length=ps.length:=by
  have z:=r2.length;rw [F.len _ _ _ _ hq] at z;exact z.symm
 have hbs:=hb ⟨h',g0,d0,tk,o0⟩ (Value.ref e::us) I3.jM (by rw [cN]; exact hl);rw [cN] at hbs;have nhe:h≠e:=fun z=>by rw [z,lo.1] at hh1; cases hh1
 have nCe:C≠e:=fun z=>by rw [z,hm'.new] at Oj; cases Oj
 have nBe:B≠e:=fun z=>by rw [z,hm'.new] at hB1; cases hB1
 refine wpAny_call (bL (F.run _ X.stack _ _ ⟨Value.ref e::us,[]⟩ (Value.ref e::us) _ _ _ (hr.make C us []) (I3.env0.make C us []) hbs r2 hq) fun r s' hq'=>?_);cases r with
 | error ev =>
  obtain ⟨_,_,_,_,_,_,_,_,_,_,_,_,_,_,_,z⟩:=hq';exact z.elim
 | ok fl =>
  cases fl with
  | ret u =>
   obtain ⟨v,H',I4,rv',ev,dx,hx,hh4,hE'⟩:=I3.after hq';subst ev;refine ⟨rv',aj (wpAny_holding (wpAny_point (ak ⟨e,rfl,?_⟩)))⟩;refine aj (bF (hc pins s' σ H' _ I4 (show Qk i σ H' (fun u za=>u=.ref h/\za=H') from ⟨_,hσ,rfl,rfl⟩)) (fun v2 s5 h5=>aj (wpAny_standAt (ak ?_))) fun _ _ z=>z);obtain ⟨u5,H5,I5,r5,eu,eH⟩:=h5;subst eu eH;obtain rfl:v2=Value.ref h:=r5;obtain ⟨a0',sl',aji⟩:=(show dJ X.prog X.w H5 s5.heap e (iB e C (some dx)) from I5.hok e _ hx).1;obtain ⟨oh,vh,hoh,Z0,_,Z1,hcx⟩:=(show dJ X.prog X.w H5 s5.heap h (lR h (.ref B) none) from I5.hok h _ hh4).1;refine ⟨rfl,a0',some dx,sl',I5.bk _ _ hC,aji,nhe,nCe,nBe,I5.bk _ _ hC',⟨oh,vh,hoh,Z0,Z1,hcx rfl⟩,fun h6 o6 e6=>?_⟩;have J5:=I5.Gp hx;have le:Loose X pins (del H5 e) e:=⟨vI,lo.2⟩;have J6:Inv X pins σ (del H5 e) { s5 with heap:=h6,toks:=s5.toks }:=J5.kJ (ch:=[e]) (fun b hb=>by rw [aL.mp hb]; exact le)
    (fun b o _ hc' z=>(o6 b fun y=>hc' (by rw [y]; exact mem_cons_self)).trans z) (fun b o hc' z=>⟨o.slots,(o6 b fun y=>hc' (by rw [y]; exact mem_cons_self)).trans z⟩)
   exact acc pins σ (del H5 e) _ e (.ref C) (some dx) J6 ⟨none,⟨_,_,e6,rfl,rfl,rfl,(fun z=>nomatch z),rfl⟩,le,fun _ z=>nomatch z⟩ hE'
  | next=>exact False.elim hq'
  | brk=>exact False.elim hq'
  | cont=>exact False.elim hq'
end
section
variable {X:Cx} {σ:St} {E:XK} {C f:aA} {k:Nat} {fd:dN} {ps:List Str} {sp:Sp} {oJ:List V} {ds:List au} {x:Str} {p pos:Pos} {e:Expr} {es:List Expr} {ta:TA} {te:TE}
theorem Ed (M:Mk X.K C f) (F:cC X.prog X.w X.K X.mg X.base (eZ X.prog X.w) k f fd ps sp) (hr:d7 (k + 1) X.A) (hm:X.mg x=some (.ref C)) (hb:Binds X.K fd ps ds) (hd:Vals oJ ds) (acc:Gr X σ E) (ha:PA X (e::es) ta) (hg:autoParam (Gl X x) zau0) (hdb:autoParam ((x == ("__debug__":Str))=false) zau1) (he:autoParam (starEach (e::es) X.env=(false,eval e X.env)::starEach es X.env) zau0) (hpl:autoParam ((backTo pos (starEach es X.env)).any (·.1)=false) zau0) : PES X σ (.Call (.Name x p) (e::es) [] pos) (JT C sp oJ E ta):=by
 intro pins s H Q I h0;refine wpAny_Call_Name_kw (gF I hg hm ?_ hdb);refine callWith_K (h₀:=X.base) I.ok.mod.wW M.kp (dX (ha pos pins s σ H _ I h0) fun us s1 ⟨vs,H1,I1,r,h⟩=>⟨I1.jM,?_⟩) he hpl;have hq:=h (s1.heap.objs.size + 1) s1.heap.objs.size (I1.hok.fresh (Nat.le_succ _)) (I1.hok.fresh (aH _)) (Nat.ne_of_lt (Nat.lt_succ_self _));have I2:=Inv.made (C:=C) I1;have r2:Vals (V.ref (s1.heap.objs.size + 1)::(vs++oJ)) (Value.ref (s1.heap.objs.size + 1)::(us++ds)):=.cons rfl (r.append hd);have hl:(Value.ref (s1.heap.objs.size + 1)::us++ds).length=ps.length:=by
  have z:=r2.length;rw [F.len _ _ _ _ hq] at z;exact z.symm
 refine wpAny_call (Ao (f:=f) I1.jM M.makes M.init (beq_iff_eq.mp M.fn) (bL (F.run _ X.stack _ _ ⟨Value.ref (s1.heap.objs.size + 1)::us,[]⟩ (Value.ref (s1.heap.objs.size + 1)::(us++ds)) _ _ E (hr.make C us []) (I2.env0.make C us []) (hb _ (Value.ref (s1.heap.objs.size + 1)::us) I2.jM hl) r2 hq) fun r s' hq'=>?_));rcases r with ev | fl
 ·exact Rc acc I2 hq'
 ·cases fl with
  | ret u =>
   obtain ⟨v,H',I3,rv,ev,q3⟩:=I2.after hq';subst ev;exact ⟨rv,⟨V.ref (s1.heap.objs.size + 1),H',I3,rfl,q3⟩⟩
  | next=>exact False.elim hq'
  | brk=>exact False.elim hq'
  | cont=>exact False.elim hq'
theorem zH (he:PES X σ e te):PSS X σ (.Return (some e) pos) (adR te):=by
 intro pins s H D I h;exact wpAny_Return_some (dX (he pins s H _ I h) fun v s1 ⟨y,H1,I1,r1,q1⟩=>⟨y,σ,H1,I1,r1,q1⟩)
theorem La:IV X σ [] (fun D σ' H=>D.nx σ' H):=fun pins s H D I h=>wpAny_execs_nil ⟨σ,H,I,h⟩
def ajj (tc:TT) (t u:TS):TS:=fun D σ' H=>tc σ' H fun d H1=>if d=true then t { nx:=fun _ _=>False,rt:=D.rt } σ' H1 else u D σ' H1
theorem Gy {c:Expr} {a rest:List cQ} {tc:TT} {t u:TS} (hc:PT X c tc) (ha:IV X σ a t) (hb:IV X σ rest u):IV X σ (.If c a [] pos::rest) (ajj tc t u):=by
 intro pins s H D I h;refine wpAny_execs_cons (wpAny_If (dX (hc pins s σ H _ I h) fun d s1 ⟨H1,I1,q1⟩=>?_));cases d with
 | true =>
  refine bF (ha pins s1 H1 _ I1 q1) (fun fl s2 h2=>?_) fun _ _ z=>z
  cases fl with
  | next=>obtain ⟨_,_,_,z⟩:=h2; exact z.elim
  | ret v=>exact h2
  | brk=>obtain ⟨_,_,_,z⟩:=h2; exact z.elim
  | cont=>obtain ⟨_,_,_,z⟩:=h2; exact z.elim
 | false=>exact wpAny_execs_nil (hb pins s1 H1 D I1 q1)
end
theorem Lb:∀ {kvs:List (Key × V)} {vs:List (Key × au)} {k:Key},KV kvs vs->(valueAt vs k).isSome=kvs.any fun p=>decide (p.1=k)
 | _,_,_,.nil=>rfl
 | _,_,k,.cons (a:=p) (b:=q) h t=>by
  have ih:=Lb (k:=k) t;have e:p.1=q.1:=h.1;rw [List.any_cons,<- ih];unfold valueAt;rw [List.find?_cons]
  by_cases z:q.1=k
  ·have z':p.1=k:=e.trans z;simp [z,z']
  ·have z':¬ p.1=k:=fun y=>z (e.symm.trans y)
   simp [z,z']
section
variable {X:Cx}
def ajk:R2:=fun x y H Q=>∃ (D:aA) (kvs:List (Key × V)) (n:Str),x=.str n/\y=.ref D/\H D=some (.dK kvs)/\Q (.bl (kvs.any fun p=>decide (p.1=Sum.inr n))) H
theorem Z2:pI X (compareOp .In) ajk:=by
 intro pins s σ H x y v u Q I rx ry h;obtain ⟨D,kvs,n,rfl,rfl,hD,q⟩:=h;obtain ⟨t,rfl⟩:=(show ∃ t,v=Value.str n t from rx);cases ry;obtain ⟨z,hd,vs,rel,dd⟩:=(show dJ X.prog X.w H s.heap D (.dK kvs) from I.hok D _ hD);refine wpAny_in_of (tX X.prog X.w n t) hd dd.mapOf ?_;rw [Lb rel];exact ⟨.bl _,H,I.tok _,rfl,q⟩
end
end L2
namespace Tw
open PySem L2
abbrev Ln:=List Nat
def iu (c:Nat):Ln->List Ln
 | []=>[[]]
 | x::xs=>if x=c then []::iu c xs else match iu c xs with
  | []=>[[x]]
  | p::ps=>(x::p)::ps
def ju (s:Ln):List Ln->Ln
 | []=>[]
 | [p]=>p
 | p::q::ps=>p++s++ju s (q::ps)
theorem ug {c:Nat}:∀ {w:Ln},c ∉ w->∀ l,iu c (w++c::l)=w::iu c l
 | [],_,l=>by
  show iu c (c::l)=_
  rw [iu,if_pos rfl]
 | x::w,h,l=>by
  have hx:¬ x=c:=fun z=>h (by rw [z]; simp)
  have ih:=ug (c:=c) (w:=w) (fun z=>h (mem_cons_of_mem _ z)) l
  show iu c (x::(w++c::l))=_
  rw [iu,if_neg hx,ih]
theorem yr {c:Nat}:∀ {w:Ln},c ∉ w->iu c w=[w]
 | [],_=>rfl
 | x::w,h=>by
  have hx:¬ x=c:=fun z=>h (by rw [z]; simp)
  rw [iu,if_neg hx,yr (c:=c) (w:=w) (fun z=>h (mem_cons_of_mem _ z))]
theorem pU {c:Nat}:∀ {ps:List Ln},ps≠[]->(∀ p ∈ ps,c ∉ p)->iu c (ju [c] ps)=ps
 | [],h,_=>absurd rfl h
 | [p],_,f=>yr (f p (by simp))
 | p::q::ps,_,f=>by
  show iu c (p++[c]++ju [c] (q::ps))=_
  rw [append_assoc,show [c]++ju [c] (q::ps)=c::ju [c] (q::ps) from rfl,ug (f p (by simp)),pU (ps:=q::ps) (by simp) fun r hr=>f r (by simp [hr])]
abbrev Lo (x:Str):Ln:=x.cps.toList
theorem vP (x y:Str):Lo (x++y)=Lo x++Lo y:=Array.toList_append
theorem Ld {x y:Str} (h:Lo x=Lo y):x=y:=by
 cases x with
 | mk a =>
  cases y with
  | mk b =>
   have:a=b:=Array.toList_inj.mp h;rw [this]
theorem uM (s:Str):∀ zs:List Str,Lo (Str.join s zs)=ju (Lo s) (zs.map Lo)
 | []=>rfl
 | [z]=>rfl
 | z::y::zs=>by
  show Lo (z++s++Str.join s (y::zs))=Lo z++Lo s++ju (Lo s) ((y::zs).map Lo)
  rw [vP,vP,uM s (y::zs)]
theorem BP (s:Str) (zs:List Str):Lo (Txt.join s zs)=ju (Lo s) (zs.map Lo):=by
 show Lo (Builtin.Str.glued s zs)=_
 rw [StrLaws.glued_eq_join,uM]
theorem yt (x:Str) (c:Nat):(Txt.split x ⟨#[c]⟩).map Lo=iu c (Lo x):=by
 have e:=StrLaws.join_split x ⟨#[c]⟩;have e2:Lo x=ju [c] ((Txt.split x ⟨#[c]⟩).map Lo):=by
  rw [<- uM ⟨#[c]⟩,e]
 rw [e2,pU]
 ·intro h;have:=split_pos x ⟨#[c]⟩;rw [List.map_eq_nil_iff] at h;rw [h] at this;exact absurd this (by decide)
 ·intro p hp;obtain ⟨q,hq,rfl⟩:=bJ.mp hp;exact StrLaws.split_free x c q hq
def cD (l:Ln):List Ln:=(iu 32 l).filter fun w=>!w.isEmpty
def gw:Ln->Option Nat
 | [a]=>if 48<=a/\a<=57 then some (a - 48) else none
 | [a,b]=>if (48 < a/\a<=57)/\(48<=b/\b<=57) then some ((a - 48) * 10 + (b - 48)) else none
 | _=>none
def qD (n:Nat):Ln:=if n < 10 then [48 + n] else [48 + n / 10,48 + n % 10]
theorem Le {n:Nat} (h:n < 100):gw (qD n)=some n:=by
 unfold qD
 split
 ·rename_i h1
  show (if 48<=48 + n/\48 + n<=57 then some (48 + n - 48) else none)=_
  rw [if_pos (by omega),Nat.add_sub_cancel_left]
 ·rename_i h1
  show (if (48 < 48 + n / 10/\48 + n / 10<=57)/\(48<=48 + n % 10/\48 + n % 10<=57) then some ((48 + n / 10 - 48) * 10 + (48 + n % 10 - 48)) else none)=_
  rw [if_pos (by omega)]
  congr 1
  omega
theorem BW:∀ n:Nat,n < 100->Lo (fG (n:Int))=qD n:=by
 have:∀ n:Fin 100,Lo (fG ((n:Nat):Int))=qD n:=by decide +kernel
 exact fun n h=>this ⟨n,h⟩
theorem Rm:∀ a:Nat,a < 10->PySem.intText? ⟨#[48 + a]⟩=some (a:Int):=by
 have:∀ a:Fin 10,PySem.intText? ⟨#[48 + (a:Nat)]⟩=some ((a:Nat):Int):=by decide +kernel
 exact fun a h=>this ⟨a,h⟩
theorem Rn:∀ a b:Nat,a < 10->b < 10->PySem.intText? ⟨#[48 + a,48 + b]⟩=some ((a * 10 + b:Nat):Int):=by
 have:∀ a b:Fin 10,PySem.intText? ⟨#[48 + (a:Nat),48 + (b:Nat)]⟩=some (((a:Nat) * 10 + (b:Nat):Nat):Int):=by decide +kernel
 exact fun a b h h'=>this ⟨a,h⟩ ⟨b,h'⟩
theorem Ro {x:Str} {n:Nat} (h:gw (Lo x)=some n):PySem.intText? x=some (n:Int)/\1<=x.length/\x.length<=2:=by
 obtain ⟨a⟩:=x;have e:a=a.toList.toArray:=by simp
 have hl:a.size=a.toList.length:=by simp
 show PySem.intText? ⟨a⟩=_/\1<=a.size/\a.size<=2
 change gw a.toList=some n at h
 rw [e,hl];generalize a.toList=l at h ⊢
 match l,h with
 | [],h=>cases h
 | [c],h =>
  change (if 48<=c/\c<=57 then some (c - 48) else none)=some n at h
  split at h
  ·rename_i hc
   cases h;have:=Rm (c - 48) (by omega);rw [show 48 + (c - 48)=c by omega] at this;refine ⟨this,?_,?_⟩ <;> simp
  ·cases h
 | [c,d],h =>
  change (if (48 < c/\c<=57)/\(48<=d/\d<=57) then some ((c - 48) * 10 + (d - 48)) else none)=some n at h
  split at h
  ·rename_i hc
   cases h;have:=Rn (c - 48) (d - 48) (by omega) (by omega);rw [show 48 + (c - 48)=c by omega,show 48 + (d - 48)=d by omega] at this;refine ⟨this,?_,?_⟩ <;> simp
  ·cases h
 | _::_::_::_,h=>cases h
theorem yu {n c:Nat} (h:n < 100) (hc:c < 48\/57 < c):c ∉ qD n:=by
 unfold qD
 split
 ·intro z;rw [aL] at z;omega
 ·intro z;simp at z;omega
theorem Rp (n:Nat):qD n≠[]:=by
 unfold qD
 split <;> simp
def oV:Ln:=[103,97,114,100,101,110]
def BX:Ln:=[112,111,116]
def jV:Ln:=[99,97,99,116,117,115]
def iw (ws:List Ln):Option (List Nat):=if ws.all (fun x=>(gw x).isSome) then some (ws.map fun x=>(gw x).getD 0) else none
theorem yw {ws:List Ln} {x:Ln} (m:x ∈ ws) (h:gw x=none):iw ws=none:=by
 unfold iw;rw [if_neg];intro z;have:=all_eq_true.mp z x m;rw [h] at this;cases this
theorem oW {ws:List Ln} (h:∀ x ∈ ws,gw x≠none):iw ws=some (ws.map fun x=>(gw x).getD 0):=by
 unfold iw;rw [if_pos];rw [all_eq_true];intro x m;exact Option.isSome_iff_ne_none.mpr (h x m)
theorem Z4 {x:Ln}:(gw x).getD 0 < 100:=by
 unfold gw
 split
 ·split <;> simp <;> omega
 ·split <;> simp <;> omega
 ·simp
def jw:List Ln->Option (Nat × Nat × List Nat)
 | []=>none
 | w0::ws=>match iw ws with
  | some (c::k::cl)=>if w0=oV/\cl.Pairwise (· < ·)/\∀ d ∈ cl,d < k then some (c,k,cl) else none
  | _=>none
def je (cl:List Nat):Nat:=(cl.map (2 ^ ·)).sum
def gk (w:Ln):Bool:=decide (1<=w.length/\w.length<=12) && w.all fun c=>decide (97<=c/\c<=122)
noncomputable def fX:List Ln->Option (Ln × Nat × Option Nat)
 | w0::nm::ws=>match iw ws with
  | some [g]=>if w0=BX/\gk nm=true/\1<=g/\g<=60 then some (nm,g,none) else none
  | some [g,r]=>if w0=jV/\gk nm=true/\1<=g/\g<=60/\r < g then some (nm,g,some r) else none
  | _=>none
 | _=>none
theorem BZ {s m:Nat}:∀ (zs:List Str) (n:Nat),(∀ z ∈ zs,z.length<=m)->zs.foldl (fun c z=>c + z.length + s) n<=n + zs.length * (m + s)
 | [],n,_=>by simp
 | z::zs,n,h=>by
  have h1:=BZ (s:=s) (m:=m) zs (n + z.length + s) fun y hy=>h y (by simp [hy])
  have h2:=h z (by simp);rw [List.foldl_cons,length_cons,Nat.succ_mul];omega
theorem qF {s:Str} {zs:List Str} {m:Nat} (h:∀ z ∈ zs,z.length<=m) (hb:zs.length * (m + s.length)<=100000):JoinOk s zs=true:=by
 have h1:=BZ (s:=s.length) zs 0 h;have h2:zs.toArray.foldl (fun c z=>c + z.length + s.length) 0=zs.foldl (fun c z=>c + z.length + s.length) 0:=by simp
 have h3:¬ zs.toArray.foldl (fun c z=>c + z.length + s.length) 0 > sizeLine:=by
  have:100000<=sizeLine:=by decide
  rw [h2];omega
 show (!decide (zs.toArray.foldl (fun c z=>c + z.length + s.length) 0 > sizeLine))=true
 rw [aF h3];rfl
theorem Ca {s:Ln} {m:Nat}:∀ (zs:List Ln),(∀ z ∈ zs,z.length<=m)->(ju s zs).length<=zs.length * (m + s.length)
 | [],_=>by simp [ju]
 | [z],h=>by
  have:=h z (by simp)
  show z.length<=(0 + 1) * (m + s.length)
  omega
 | z::y::zs,h=>by
  have h1:=Ca (s:=s) (m:=m) (y::zs) fun u hu=>h u (by simp [hu])
  have h2:=h z (by simp)
  show (z++s++ju s (y::zs)).length<=_
  rw [aM,aM,length_cons,Nat.succ_mul];omega
theorem gH (x:Str):(Lo x).length=x.length:=Array.length_toList
theorem Cd {s:Str} {zs:List Str} {m:Nat} (h:∀ z ∈ zs,z.length<=m):(Txt.join s zs).length<=zs.length * (m + s.length):=by
 rw [<- gH,BP];have:=Ca (s:=Lo s) (m:=m) (zs.map Lo) fun u hu=>by
  obtain ⟨z,hz,rfl⟩:=bJ.mp hu;rw [gH];exact h z hz
 rw [aq,gH] at this;exact this
theorem vQ:∀ {xs ys:List Str},xs.map Lo=ys.map Lo->xs=ys
 | [],[],_=>rfl
 | x::xs,y::ys,h=>by
  rw [bw,bw] at h;injection h with h1 h2;rw [Ld h1,vQ h2]
 | [],_::_,h=>by cases h
 | _::_,[],h=>by cases h
theorem zJ {c:Nat} {zs:List Str} (ne:zs≠[]) (h:∀ z ∈ zs,c ∉ Lo z):Txt.split (Txt.join ⟨#[c]⟩ zs) ⟨#[c]⟩=zs:=by
 apply vQ;rw [yt,BP];refine pU (fun z=>ne (List.map_eq_nil_iff.mp z)) fun p hp=>?_
 obtain ⟨z,hz,rfl⟩:=bJ.mp hp;exact h z hz
abbrev rA:cQ:=top 2
abbrev oX:cQ:=top 15
structure T4 (mg:Str->Option au):Prop where
 isinstance:mg "isinstance"=none
 bool:mg "bool"=none
 int:mg "int"=none
 str:mg "str"=none
 list:mg "list"=none
 tuple:mg "tuple"=none
 len:mg "len"=none
 all:mg "all"=none
 set:mg "set"=none
 zip:mg "zip"=none
 reversed:mg "reversed"=none
 range:mg "range"=none
section
variable {P:bT} {w:World} {K:Fg} {mg:Str->Option au} {base:Heap}
def dZ (v:V) (l m:Int):Bool:=match v with
 | .int i=>decide (l<=i) && decide (i<=m)
 | _=>false
def Gz (K:Fg):Sp:=fun vs H Q _=>∃ v l m k,vs=[v,.int l,.int m]/\eV K H v k/\Q (.bl (dZ v l m)) H
theorem Rq:bV ["value","least","most"] ["value","least","most"] (aZ rA):=d8 (by decide +kernel)
theorem Lf {f:aA} {fd:dN} (F:oK K "is_whole" "is_whole" rA f fd) (B:T4 mg):cC P w K mg base (eZ P w) 1 f fd ["value","least","most"] (Gz K):=by
 refine F.pR Rq (fun vs H Q E h=>?_) (fun cdv A outer s H vs Q E hr h=>?_)
 ·obtain ⟨v,l,m,k,rfl,_⟩:=h;rfl
 ·obtain ⟨v,l,m,k,rfl,hk,q⟩:=h;refine ⟨_,aN (eY (pw_or (fU (zp .bool B.isinstance B.bool (pv 0))) (pw_or1 (fM (fU (zp .int B.isinstance B.int (pv 0)))))).pt (aX (cU pH)) cW) (aX (cU (uW xM xM (pv 1) (pv 0) (pv 2)))),?_⟩;refine ⟨_,rfl,v,k,rfl,hk,_,rfl,?_⟩;have no:(∀ i,v≠.int i)->dZ v l m=false:=fun h=>by
   cases v with
   | int i=>exact absurd rfl (h i)
   | _=>rfl
  cases k with
  | bl=>obtain ⟨b,rfl⟩:=hk; exact c7 (c7 q)
  | int =>
   obtain ⟨z,rfl⟩:=hk;refine dI ⟨_,rfl,_,.int,rfl,⟨z,rfl⟩,_,rfl,?_⟩;refine dI ⟨_,rfl,_,rfl,_,_,rfl,rfl,_,rfl,?_⟩;have e:dZ (.int z) l m=(decide (l<=z) && decide (z<=m)):=rfl;rw [e] at q
   by_cases h1:l<=z
   ·rw [aO h1] at q ⊢;exact c7 ⟨_,rfl,_,_,rfl,rfl,q⟩
   ·rw [aF h1] at q ⊢;exact dI q
  | non=>cases hk; exact dI ⟨_,rfl,_,.non,rfl,rfl,_,rfl,c7 q⟩
  | str=>obtain ⟨x,rfl⟩:=hk; exact dI ⟨_,rfl,_,.str,rfl,⟨x,rfl⟩,_,rfl,c7 q⟩
  | lst=>obtain ⟨a,xs,rfl,e⟩:=hk; exact dI ⟨_,rfl,_,.lst,rfl,⟨a,xs,rfl,e⟩,_,rfl,c7 q⟩
  | tup=>obtain ⟨a,xs,rfl,e⟩:=hk; exact dI ⟨_,rfl,_,.tup,rfl,⟨a,xs,rfl,e⟩,_,rfl,c7 q⟩
  | ins C=>obtain ⟨a,dx,fs,rfl,e⟩:=hk; exact dI ⟨_,rfl,_,.ins C,rfl,⟨a,dx,fs,rfl,e⟩,_,rfl,c7 q⟩
def letter (c:Nat):Bool:=!decide ([c] < [97]) && !decide ([122] < [c])
def nameV (v:V):Bool:=match v with
 | .str x=>decide (1<=x.length) && decide (x.length<=12) && x.cps.toList.all letter
 | _=>false
theorem Jf (a:Array Nat):((List.range a.size).map fun i=>letter (a.getD i 0)).all id=a.toList.all letter:=by
 have e:a.toList=(List.range a.size).map fun i=>a.getD i 0:=by
  apply ext_getElem?;intro i
  by_cases h:i < a.size
  ·simp [h]
  ·simp [h]
 rw [e,all_map,all_map];rfl
def Lg (K:Fg):Sp:=fun vs H Q _=>∃ v k,vs=[v]/\eV K H v k/\(∀ x,v=.str x->x.length<=sizeLine)/\∀ H',Same H H'->Q (.bl (nameV v)) H'
theorem Z5:bV ["value"] ["value"] (aZ oX):=d8 (by decide +kernel)
theorem Rr {f:aA} {fd:dN} {t:Tok} (F:oK K "is_name" "is_name" oX f fd) (B:T4 mg) (hl:mg "LONGEST_NAME"=some (.int 12 t)):cC P w K mg base (eZ P w) 1 f fd ["value"] (Lg K):=by
 refine F.pR Z5 (fun vs H Q E h=>?_) (fun cdv A outer s H vs Q E hr h=>?_)
 ·obtain ⟨v,k,rfl,_⟩:=h;rfl
 ·obtain ⟨v,k,rfl,hk,hz,q⟩:=h;refine ⟨_,aN (eY (pw_or (fM (fU (zp .str B.isinstance B.str (pv 0)))) (pw_or1 (fM (Al xM xM aY (fK lN B.len PySem.boot_len (aB (pv 0) aJ)) (mK (.int 12) hl ⟨t,rfl⟩))))).pt (aX (cU pH)) cW) (aX (cU (fK (qZ rfl) B.all boot_all (aB (gG bK rfl ⟨_,_,rfl,rfl,rfl⟩ (eU.plain (N':=["sign"]) rfl (by decide +kernel) (by decide +kernel)) (DN (pv 0)) (fun _ _ _ _ _=>fj 0 (show [("sign":Str)].Nodup by decide +kernel)) (fun _ _ _ _ _=>gj) (fun _ _ _ _ _ _=>uW oN oN bQ (pv 0) bQ)) aJ)))),?_⟩;refine ⟨_,rfl,v,k,rfl,hk,_,rfl,?_⟩;cases k with
  | str =>
   obtain ⟨x,rfl⟩:=hk;refine dI ⟨_,rfl,x,rfl,hz x rfl,_,_,rfl,rfl,_,rfl,?_⟩;have en:nameV (.str x)=(decide (1<=x.length) && decide (x.length<=12) && x.cps.toList.all letter):=rfl
   by_cases h1:1<=x.length
   ·have h1':(1:Int)<=(x.length:Int):=by omega
    rw [aO h1'];refine c7 ⟨_,_,rfl,rfl,_,rfl,?_⟩
    by_cases h2:x.length<=12
    ·have h2':(x.length:Int)<=12:=by omega
     rw [aO h2'];refine dI ⟨_,rfl,x,rfl,fun D hD=>?_⟩;rw [aO h1,aO h2] at en;have hD1:Same H (upd H D (.lst ((List.range x.cps.size).map fun i=>V.bl (letter (x.cps.getD i 0))))):=aQ hD;refine zq x.cps.size (hz x rfl) (fun i=>.bl (letter (x.cps.getD i 0))) (fun i H'=>H'=upd H D (.lst ((List.range i).map fun i=>V.bl (letter (x.cps.getD i 0))))) rfl (fun i H' _ e=>by rw [e,aC]) (fun H' e=>⟨rfl,?_⟩) (fun i H' lt e=>⟨lt,?_⟩)
     ·subst e;refine ⟨D,(List.range x.cps.size).map fun i=>letter (x.cps.getD i 0),rfl,cY.of (by rw [aC,cM]; rfl),?_⟩;rw [Jf];have q':=q _ hD1;rw [en] at q';exact q'
     ·rintro v za ⟨rfl,c,hc,rfl⟩ Qc k;subst e;refine ⟨eO,_,rfl,_,_,rfl,rfl,_,rfl,?_⟩;have k':=k _ aC (by rw [lJ]);have ec:x.cps.getD i 0=c:=by simp [hc]
      have el:letter c=(!decide ([c] < [97]) && !decide ([122] < [c])):=rfl;rw [ec,el] at k'
      change if (!decide ([c] < [97]))=true then _ else _
      cases h3:!decide ([c] < [97]) with
      | false =>
       rw [h3] at k';exact dI k'
      | true =>
       rw [h3] at k';exact c7 ⟨_,_,rfl,rfl,k'⟩
    ·have h2':¬ (x.length:Int)<=12:=by omega
     rw [aF h2'];have q':=q H (Same.refl _);rw [en,aO h1,aF h2] at q';exact c7 q'
   ·have h1':¬ (1:Int)<=(x.length:Int):=by omega
    rw [aF h1'];have q':=q H (Same.refl _);rw [en,aF h1] at q';exact dI ⟨_,rfl,c7 q'⟩
  | non=>cases hk; exact c7 (c7 (q H (Same.refl _)))
  | bl=>obtain ⟨x,rfl⟩:=hk; exact c7 (c7 (q H (Same.refl _)))
  | int=>obtain ⟨x,rfl⟩:=hk; exact c7 (c7 (q H (Same.refl _)))
  | lst=>obtain ⟨a,xs,rfl,e⟩:=hk; exact c7 (c7 (q H (Same.refl _)))
  | tup=>obtain ⟨a,xs,rfl,e⟩:=hk; exact c7 (c7 (q H (Same.refl _)))
  | ins C=>obtain ⟨a,dx,fs,rfl,e⟩:=hk; exact c7 (c7 (q H (Same.refl _)))
end
abbrev m8:cQ:=inClass (top 16) 0
abbrev qG:cQ:=inClass (top 16) 3
abbrev m9:cQ:=inClass (top 17) 0
abbrev qH:cQ:=inClass (top 17) 3
abbrev Ef:List au:=[.type "ValueError",.type "Exception",.type "BaseException",.type "object"]
structure Fn (K:Fg) (x qual:Str) (st:cQ) (ps:List Str) (f:aA) (fd:dN):Prop where
 F:oK K x qual st f fd
 b:Binds K fd ps []
structure gR where
 (pot cactus garden cu tooMany jW uh uG bM pW:aA)
 (Eh fName Lh Rt Ru Rv Ce Cg Ci Ol Li amb amc anR amd ame ajl anS anT anU:aA)
 (Lj dName dPI dPG dCI dCG aeC aeD aeE dGI T5 amj amk anV aml amm ajm anW anY anZ:dN)
structure Exn (K:Fg) (mg:Str->Option au) (x:Str) (C:aA):Prop where
 m:mg x=some (.ref C)
 q:excIn K C Ef "ValueError.__new__"=true
structure lq (K:Fg) (mg:Str->Option au) (a:gR):Prop where
 B:T4 mg
 longest:∃ t,mg "LONGEST_NAME"=some (.int 12 t)
 Rw:∃ t,mg "MOST_GAP"=some (.int 60 t)
 cu:Exn K mg "BadPot" a.cu
 wh:Fn K "is_whole" "is_whole" rA ["value","least","most"] a.Eh a.Lj
 mwh:mg "is_whole"=some (.ref a.Eh)
 nm:Fn K "is_name" "is_name" oX ["value"] a.fName a.dName
 mnm:mg "is_name"=some (.ref a.fName)
 Rx:mg "Pot"=some (.ref a.pot)
 aeH:mg "Cactus"=some (.ref a.cactus)
 tP:Bo K a.pot
 tC:Bo K a.cactus
 nP:∀ f ∈ (["name","gap","rest"]:List Str),iH K a.pot f
 nC:∀ f ∈ (["name","gap","rest"]:List Str),iH K a.cactus f
 PI:Fn K "__init__" "Pot.__init__" m8 ["self","name","gap"] a.Lh a.dPI
 PG:Fn K "with_gap" "Pot.with_gap" qG ["self","gap"] a.Rt a.dPG
 CI:Fn K "__init__" "Cactus.__init__" m9 ["self","name","gap","rest"] a.Ru a.dCI
 CG:Fn K "with_gap" "Cactus.with_gap" qH ["self","gap"] a.Rv a.dCG
 kP:Mk K a.pot a.Lh
 kC:Mk K a.cactus a.Ru
 gP:Meth K a.pot "with_gap" a.Rt
 gC:Meth K a.cactus "with_gap" a.Rv
 cI:aek K a.pot "__init__" a.Lh
 ne:a.pot≠a.cactus
section
variable {P:bT} {w:World} {K:Fg} {mg:Str->Option au} {base:Heap} {a:gR}
theorem aeI:¬ (("name":Str)="gap"):=by decide +kernel
theorem aeJ:¬ (("name":Str)="rest"):=by decide +kernel
theorem aeK:¬ (("gap":Str)="rest"):=by decide +kernel
theorem Ry (u v:V):gh "gap" v [(("name":Str),u)]=([("name",u),("gap",v)]:List (Str × V)):=by
 show (if ("name":Str)="gap" then _ else _)=_
 rw [if_neg aeI]; rfl
theorem Lk (u v x:V):gh "rest" x ([("name",u),("gap",v)]:List (Str × V))=([("name",u),("gap",v),("rest",x)]:List (Str × V)):=by
 show (if ("name":Str)="rest" then _ else (("name":Str),u)::(if ("gap":Str)="rest" then _ else (("gap":Str),v)::gh "rest" x []))=_
 rw [if_neg aeJ,if_neg aeK]; rfl
def But (p:aA) (H H':Hp):Prop:=∀ b o,b≠p->H b=some o->H' b=some o
def gO (n g:V):Bool:=nameV n && dZ g 1 60
def rB (v:V):Prop:=∀ x,v=.str x->x.length<=sizeLine
noncomputable def yx (K:Fg) (a:gR):Sp:=fun vs H Q E=>∃ p dx C n g kn kg,vs=[.ref p,n,g]/\H p=some (.ins C dx [])/\(C=a.pot\/C=a.cactus)/\eV K H n kn/\rB n/\eV K H g kg /\ (gO n g=false->∀ H',Same H H'->E (.ref a.cu) none H')/\(gO n g=true->∀ H',But p H H'->H' p=some (.ins C dx [("name",n),("gap",g)])->Q .non H')
theorem ajn:bV ["self","name","gap"] ["self","name","gap"] (aZ m8):=d8 (by decide +kernel)
theorem lq.cls (T:lq K mg a) {C:aA} (h:C=a.pot\/C=a.cactus):Bo K C/\∀ f ∈ (["name","gap","rest"]:List Str),iH K C f:=by
 rcases h with rfl | rfl
 ·exact ⟨T.tP,T.nP⟩
 ·exact ⟨T.tC,T.nC⟩
theorem lq.okW (T:lq K mg a):cC P w K mg base (eZ P w) 1 a.Eh a.Lj ["value","least","most"] (Gz K):=Lf T.wh.F T.B
theorem lq.okN (T:lq K mg a):cC P w K mg base (eZ P w) 1 a.fName a.dName ["value"] (Lg K):=by
 obtain ⟨t,e⟩:=T.longest;exact Rr T.nm.F T.B e
theorem pX (T:lq K mg a):cC P w K mg base (eZ P w) 2 a.Lh a.dPI ["self","name","gap"] (yx K a):=by
 refine T.PI.F.pR ajn (fun vs H Q E h=>?_) (fun cdv A outer s H vs Q E hr h=>?_)
 ·obtain ⟨p,dx,C,n,g,kn,kg,rfl,_⟩:=h;rfl
 ·obtain ⟨p,dx,C,n,g,kn,kg,rfl,hp,hC,hn,sn,hg,bad,good⟩:=h;obtain ⟨t,mG⟩:=T.Rw;obtain ⟨tC,nA⟩:=T.cls hC;refine ⟨_,aN (eY (fM (fU (dH T.okN hr T.mnm T.nm.F.kp T.nm.b cg (aB (pv 1) aJ)))) (aX (fV bK rfl (by rfl) T.cu.m T.cu.q PySem.F.excBase_ValueError (aB bQ aJ))) cW) (aN (eY (fM (fU (dH T.okW hr T.mwh T.wh.F.kp T.wh.b cg (aB (pv 2) (aB aY (aB (mK (.int 60) mG ⟨t,rfl⟩) aJ)))))) (aX (fV bK rfl (by rfl) T.cu.m T.cu.q PySem.F.excBase_ValueError (aB bQ aJ))) cW) (aN (pN (pv 0) (pv 1) rfl) (aX (pN (pv 0) (pv 2) rfl)))),?_⟩;refine ⟨_,rfl,n,kn,rfl,hn,sn,fun H1 s1=>⟨_,rfl,?_⟩⟩;cases en:nameV n with
  | false=>exact c7 ⟨by show 1<=sizeLine; decide,bad (by simp [gO,en]) H1 s1⟩
  | true =>
   refine dI ⟨_,rfl,g,1,60,kg,rfl,hg.same s1,_,rfl,?_⟩;cases eg:dZ g 1 60 with
   | false=>exact c7 ⟨by show 1<=sizeLine; decide,bad (by simp [gO,en,eg]) H1 s1⟩
   | true =>
    refine dI ⟨_,rfl,_,rfl,p,C,dx,_,rfl,s1 _ _ hp,tC.cl,nA _ (by simp),by show 0 < 1000; decide,?_⟩;refine ⟨_,rfl,_,rfl,p,C,dx,_,rfl,aC,tC.cl,nA _ (by simp),by show 1 < 1000; decide,?_⟩;refine good (by simp [gO,en,eg]) _ (fun b o hb e=>?_) ?_
    ·rw [bx hb,bx hb]; exact s1 _ _ e
    ·rw [aC];exact congrArg (fun l=>some (HO.ins C dx l)) (Ry n g)
structure cB where
 nm:Str
 gap:Int
 rest:Option Int
def cB.fs (p:cB):List (Str × V):=match p.rest with
 | none=>[("name",.str p.nm),("gap",.int p.gap)]
 | some r=>[("name",.str p.nm),("gap",.int p.gap),("rest",.int r)]
def cB.cls (a:gR) (p:cB):aA:=match p.rest with
 | none=>a.pot
 | some _=>a.cactus
def fY (a:gR) (H:Hp) (x:aA) (p:cB):Prop:=∃ dx,H x=some (.ins (p.cls a) dx p.fs)
structure cB.Ok (p:cB):Prop where
 nm:nameV (.str p.nm)=true
 gap:1<=p.gap/\p.gap<=60
 rest:∀ r,p.rest=some r->0<=r/\r < p.gap
theorem fY.same {H H':Hp} {x:aA} {p:cB} (h:fY a H x p) (s:Same H H'):fY a H' x p:=h.imp fun _ e=>s _ _ e
theorem cB.lV (p:cB):p.cls a=a.pot\/p.cls a=a.cactus:=by
 unfold cB.cls;cases p.rest
 ·exact .inl rfl
 ·exact .inr rfl
theorem cB.pY (p:cB):p.fs.lookup ("name":Str)=some (.str p.nm):=by
 unfold cB.fs;cases p.rest <;> rfl
theorem iD {k k':Str} {v:V} {l:List (Str × V)} (h:(k == k')=false):((k',v)::l).lookup k=l.lookup k:=by simp only [List.lookup,h]
theorem yC {k:Str} {v:V} {l:List (Str × V)}:((k,v)::l).lookup k=some v:=by simp only [List.lookup,beq_self_eq_true]
theorem gn:(("gap":Str) == "name")=false:=by decide +kernel
theorem rn:(("rest":Str) == "name")=false:=by decide +kernel
theorem rg:(("rest":Str) == "gap")=false:=by decide +kernel
theorem Lp (u v:V) (l:List (Str × V)):((("name",u)::("gap",v)::l:List (Str × V))).lookup ("gap":Str)=some v:=by rw [iD gn,yC]
theorem cB.GC (p:cB):p.fs.lookup ("gap":Str)=some (.int p.gap):=by
 unfold cB.fs;cases p.rest with
 | none=>exact Lp _ _ []
 | some r=>exact Lp _ _ [("rest",.int r)]
theorem GD (u v x:V):([("name",u),("gap",v),("rest",x)]:List (Str × V)).lookup ("rest":Str)=some x:=by rw [iD rn,iD rg,yC]
theorem cB.aeM (p:cB) {m:Str} (h1:(m == "name")=false) (h2:(m == "gap")=false) (h3:(m == "rest")=false):p.fs.lookup m=none:=by
 unfold cB.fs;cases p.rest with
 | none=>exact (iD h1).trans (iD h2)
 | some r=>exact (iD h1).trans ((iD h2).trans (iD h3))
theorem vR {x:Str} (h:nameV (.str x)=true):rB (.str x):=by
 intro y e;cases e;have e:nameV (.str x)=(decide (1<=x.length) && decide (x.length<=12) && x.cps.toList.all letter):=rfl;rw [e] at h;simp only [Bool.and_eq_true,decide_eq_true_eq] at h;exact bA h.1.2 (by decide)
theorem But.made {H H':Hp} {x dx C:aA} (nx:H x=none) (ndx:H dx=none) (h:But x (upd (upd H dx (.own x)) x (.ins C dx [])) H'):Same H H':=fun b o e=>by
 have n1:=cZ e nx;have n2:=cZ e ndx;exact h b o n1 (by rw [bx n1,bx n2]; exact e)
theorem rD {H:Hp} {x dx C:aA} (nx:H x=none) (ndx:H dx=none):Same H (upd (upd H dx (.own x)) x (.ins C dx [])):=fun b o e=>by
 rw [bx (cZ e nx),bx (cZ e ndx)]; exact e
theorem Lq {H:Hp} {Q:aA->Hp->Prop} {E:XK} {n g:V} {kn kg:Kd} (hn:eV K H n kn) (sn:rB n) (hg:eV K H g kg) (bad:gO n g=false->∀ H',Same H H'->E (.ref a.cu) none H') (good:gO n g=true->∀ H' x,H x=none->Same H H'->(∃ dx,H' x=some (.ins a.pot dx [("name",n),("gap",g)]))->Q x H') : ∀ x dx,H x=none->H dx=none->dx≠x->yx K a [.ref x,n,g] (upd (upd H dx (.own x)) x (.ins a.pot dx [])) (fun v H2=>v=.non/\Q x H2) E:=by
 intro x dx nx ndx ne;have s0:=rD (C:=a.pot) nx ndx;exact ⟨x,dx,a.pot,n,g,kn,kg,rfl,aC,.inl rfl,hn.same s0,sn,hg.same s0,fun e H' s'=>bad e H' (s0.trans s'),fun e H' b' hp=>⟨rfl,good e H' x nx (b'.made nx ndx) ⟨dx,hp⟩⟩⟩
def uo (p:cB) (g:V):Bool:=match p.rest with
 | none=>dZ g 1 60
 | some r=>dZ g 1 60 && match g with
  | .int i=>dZ (.int r) 0 (i - 1)
  | _=>false
noncomputable def GF (K:Fg) (a:gR) (C:aA):Sp:=fun vs H Q E=>∃ x p g kg,vs=[.ref x,g]/\p.cls a=C/\fY a H x p/\p.Ok/\eV K H g kg /\ (uo p g=false->∀ H',Same H H'->E (.ref a.cu) none H')/\(uo p g=true->∀ i H' y,g=.int i->H y=none->Same H H'->fY a H' y { p with gap:=i }->Q (.ref y) H')
theorem ajo:bV ["self","gap"] ["self","gap"] (aZ qG):=d8 (by decide +kernel)
theorem jm {g:V} {l m:Int} (h:dZ g l m=true):∃ i,g=.int i/\l<=i/\i<=m:=by
 cases g with
 | int i=>exact ⟨i,rfl,by simpa [dZ] using h⟩
 | _=>exact absurd h (by simp [dZ])
theorem Jg (T:lq K mg a):cC P w K mg base (eZ P w) 4 a.Rt a.dPG ["self","gap"] (GF K a a.pot):=by
 refine T.PG.F.pR ajo (fun vs H Q E h=>?_) (fun cdv A outer s H vs Q E hr h=>?_)
 ·obtain ⟨x,p,g,kg,rfl,_⟩:=h;rfl
 ·obtain ⟨x,p,g,kg,rfl,hc,⟨dx,hx⟩,ok,hg,bad,good⟩:=h;refine ⟨_,aX (cU (TF T.kP (pX T) hr T.Rx T.PI.b (dU bK) (aB (fP (pv 0) rfl) (aB (pv 1) aJ)))),?_⟩;rw [hc] at hx;have hr0:p.rest=none:=by
   cases e:p.rest with
   | none=>rfl
   | some r=>rw [cB.cls,e] at hc; exact absurd hc.symm T.ne
  refine ⟨_,rfl,x,a.pot,dx,_,_,rfl,hx,T.tP.cl,T.nP _ (by simp),p.pY,_,rfl,?_⟩;refine Lq (kn:=.str) ⟨_,rfl⟩ (vR ok.nm) hg (fun e=>bad (by simpa [uo,hr0,gO,ok.nm] using e)) (fun e H' y hy s' hy'=>?_);have eg:dZ g 1 60=true:=by simpa [gO,ok.nm] using e
  obtain ⟨i,rfl,_⟩:=jm eg;obtain ⟨dy,hy'⟩:=hy';refine good (by simpa [uo,hr0] using eg) i H' y rfl hy s' ⟨dy,?_⟩;rw [hy'];simp only [cB.cls,cB.fs,hr0]
end
section
variable {P:bT} {w:World} {K:Fg} {mg:Str->Option au} {base:Heap} {a:gR}
def restOk (g r:V):Bool:=match g with
 | .int i=>dZ r 0 (i - 1)
 | _=>false
noncomputable def yD (K:Fg) (a:gR):Sp:=fun vs H Q E=>∃ p dx n g r kn kg kr,vs=[.ref p,n,g,r]/\H p=some (.ins a.cactus dx [])/\eV K H n kn/\rB n/\eV K H g kg/\eV K H r kr/\(∀ q,r=.ref q->q≠p) /\ ((gO n g && restOk g r)=false->∀ H',But p H H'->E (.ref a.cu) none H')/\((gO n g && restOk g r)=true->∀ H',But p H H'->H' p=some (.ins a.cactus dx [("name",n),("gap",g),("rest",r)])->Q .non H')
theorem ajp:bV ["self","name","gap","rest"] ["self","name","gap","rest"] (aZ m9):=d8 (by decide +kernel)
theorem eV.but {H H':Hp} {p:aA} {v:V} {k:Kd} (h:eV K H v k) (b:But p H H') (ne:∀ q,v=.ref q->q≠p):eV K H' v k:=by
 cases k with
 | lst =>
  obtain ⟨a,xs,rfl,e | ⟨o,e⟩⟩:=h
  ·exact ⟨a,xs,rfl,.inl (b _ _ (ne _ rfl) e)⟩
  ·exact ⟨a,xs,rfl,.inr ⟨o,b _ _ (ne _ rfl) e⟩⟩
 | tup=>obtain ⟨a,xs,rfl,e⟩:=h; exact ⟨a,xs,rfl,b _ _ (ne _ rfl) e⟩
 | ins C=>obtain ⟨a,dx,fs,rfl,e,t⟩:=h; exact ⟨a,dx,fs,rfl,b _ _ (ne _ rfl) e,t⟩
 | _=>exact h
theorem Same.but {H H':Hp} {p:aA} (s:Same H H'):But p H H':=fun b o _ e=>s b o e
theorem But.trans {H H1 H2:Hp} {p:aA} (s:But p H H1) (t:But p H1 H2):But p H H2:=fun b o n e=>t b o n (s b o n e)
theorem Rz {H:Hp} {p:aA} {o:HO}:But p H (upd H p o):=fun b u n e=>by rw [bx n]; exact e
theorem vU (T:lq K mg a):cC P w K mg base (eZ P w) 3 a.Ru a.dCI ["self","name","gap","rest"] (yD K a):=by
 refine T.CI.F.pR ajp (fun vs H Q E h=>?_) (fun cdv A outer s H vs Q E hr h=>?_)
 ·obtain ⟨p,dx,n,g,r,kn,kg,kr,rfl,_⟩:=h;rfl
 ·obtain ⟨p,dx,n,g,r,kn,kg,kr,rfl,hp,hn,sn,hg,hkr,nr,bad,good⟩:=h;refine ⟨_,aN (jf (QL T.Rx T.cI (pX T) hr T.PI.b (dU bK) (aB (pv 0) (aB (pv 1) (aB (pv 2) aJ))))) (aN (eY (fM (fU (dH T.okW (hr.mono (by decide)) T.mwh T.wh.F.kp T.wh.b cg (aB (pv 3) (aB aY (aB (bO Dq (pv 2) aY) aJ)))))) (aX (fV bK rfl (by rfl) T.cu.m T.cu.q PySem.F.excBase_ValueError (aB bQ aJ))) cW) (aX (pN (pv 0) (pv 3) rfl))),?_⟩;refine ⟨_,rfl,_,rfl,_,rfl,p,dx,a.cactus,n,g,kn,kg,rfl,hp,.inr rfl,hn,sn,hg,fun e H' s'=>bad (by simp [e]) H' (Same.but s'),fun e H1 b1 hp1=>?_⟩;have eg:dZ g 1 60=true:=by
   rw [gO,Bool.and_eq_true] at e;exact e.2
  obtain ⟨i,rfl,_⟩:=jm eg;refine ⟨_,rfl,_,rfl,_,_,rfl,rfl,r,0,i - 1,kr,rfl,hkr.but b1 nr,_,rfl,?_⟩;cases er:dZ r 0 (i - 1) with
  | false=>exact c7 ⟨by show 1<=sizeLine; decide,bad (by simp [restOk,er]) H1 b1⟩
  | true =>
   refine dI ⟨_,rfl,_,rfl,p,a.cactus,dx,_,rfl,hp1,T.tC.cl,T.nC _ (by simp),by show 2 < 1000; decide,?_⟩;refine good (by simp [e,restOk,er]) _ (b1.trans Rz) ?_;rw [aC];exact congrArg (fun l=>some (HO.ins a.cactus dx l)) (Lk n (.int i) r)
theorem Lr {H:Hp} {Q:aA->Hp->Prop} {E:XK} {n g r:V} {kn kg kr:Kd} (hn:eV K H n kn) (sn:rB n) (hg:eV K H g kg) (hr:eV K H r kr) (bad:(gO n g && restOk g r)=false->∀ H',Same H H'->E (.ref a.cu) none H') (good:(gO n g && restOk g r)=true->∀ H' x,H x=none->Same H H'->(∃ dx,H' x=some (.ins a.cactus dx [("name",n),("gap",g),("rest",r)]))->Q x H') : ∀ x dx,H x=none->H dx=none->dx≠x->yD K a [.ref x,n,g,r] (upd (upd H dx (.own x)) x (.ins a.cactus dx [])) (fun v H2=>v=.non/\Q x H2) E:=by
 intro x dx nx ndx ne;have s0:=rD (C:=a.cactus) nx ndx;refine ⟨x,dx,n,g,r,kn,kg,kr,rfl,aC,hn.same s0,sn,hg.same s0,hr.same s0,fun q e z=>?_,fun e H' s'=>bad e H' (s'.made nx ndx),fun e H' b' hp=>⟨rfl,good e H' x nx (b'.made nx ndx) ⟨dx,hp⟩⟩⟩;subst e z;cases kr with
 | lst =>
  obtain ⟨_,_,e,h | ⟨_,h⟩⟩:=hr
  ·cases e; rw [nx] at h; cases h
  ·cases e; rw [nx] at h; cases h
 | tup=>obtain ⟨_,_,e,h⟩:=hr; cases e; rw [nx] at h; cases h
 | ins C=>obtain ⟨_,_,_,e,h,_⟩:=hr; cases e; rw [nx] at h; cases h
 | non=>cases hr
 | bl=>obtain ⟨_,e⟩:=hr; cases e
 | int=>obtain ⟨_,e⟩:=hr; cases e
 | str=>obtain ⟨_,e⟩:=hr; cases e
theorem ajq:bV ["self","gap"] ["self","gap"] (aZ qH):=d8 (by decide +kernel)
theorem Jh (T:lq K mg a):cC P w K mg base (eZ P w) 5 a.Rv a.dCG ["self","gap"] (GF K a a.cactus):=by
 refine T.CG.F.pR ajq (fun vs H Q E h=>?_) (fun cdv A outer s H vs Q E hr h=>?_)
 ·obtain ⟨x,p,g,kg,rfl,_⟩:=h;rfl
 ·obtain ⟨x,p,g,kg,rfl,hc,⟨dx,hx⟩,ok,hg,bad,good⟩:=h;refine ⟨_,aX (cU (TF T.kC (vU T) hr T.aeH T.CI.b (dU bK) (aB (fP (pv 0) rfl) (aB (pv 1) (aB (fP (pv 0) rfl) aJ))))),?_⟩;rw [hc] at hx;obtain ⟨r,hr0⟩:∃ r,p.rest=some r:=by
   cases e:p.rest with
   | none=>rw [cB.cls,e] at hc; exact absurd hc T.ne
   | some r=>exact ⟨r,rfl⟩
  have lr:p.fs.lookup ("rest":Str)=some (.int r):=by simp only [cB.fs,hr0]; exact GD _ _ _
  refine ⟨_,rfl,x,a.cactus,dx,_,_,rfl,hx,T.tC.cl,T.nC _ (by simp),p.pY,_,rfl,_,rfl,x,a.cactus,dx,_,_,rfl,hx,T.tC.cl,T.nC _ (by simp),lr,?_⟩;have e0:(gO (.str p.nm) g && restOk g (.int r))=uo p g:=by
   rw [gO,ok.nm,Bool.true_and,uo,hr0];rfl
  refine Lr (kn:=.str) (kr:=.int) ⟨_,rfl⟩ (vR ok.nm) hg ⟨_,rfl⟩ (fun e=>bad (by rw [<- e0]; exact e)) (fun e H' y hy s' hy'=>?_);obtain ⟨i,rfl,_⟩:∃ i,g=.int i/\True:=by
   cases g with
   | int i=>exact ⟨i,rfl,trivial⟩
   | _=>exact absurd e (by simp [restOk])
  obtain ⟨dy,hy'⟩:=hy';refine good (by rw [<- e0]; exact e) i H' y rfl hy s' ⟨dy,?_⟩;rw [hy'];simp only [cB.cls,cB.fs,hr0]
theorem lq.gap (T:lq K mg a):∀ C,(C=a.pot\/C=a.cactus)->∃ f fd,Cls K C/\Meth K C "with_gap" f/\cC P w K mg base (eZ P w) 5 f fd ["self","gap"] (GF K a C)/\Binds K fd ["self","gap"] []:=by
 intro C h;rcases h with rfl | rfl
 ·exact ⟨_,_,T.tP.cl,T.gP,(Jg T).mono (by decide),T.PG.b⟩
 ·exact ⟨_,_,T.tC.cl,T.gC,Jh T,T.CG.b⟩
theorem Z6 {X:Cx} {pl:Sem Bool} {o e:Expr} {es:List Expr} {ta:TE} {t:TA} {apos pos:Pos} {E:XK} (he:PE X o ta) (ha:PA X (e::es) t) (T:lq K mg a) (hr:d7 5 X.A) (hx:Passes (eZ X.prog X.w) X E) (hK:autoParam (X.K=K) zau0) (hm:autoParam (X.mg=mg) zau0) (hst:autoParam (starEach (e::es) X.env=(false,eval e X.env)::starEach es X.env) zau0) (hpl:autoParam ((backTo pos (starEach es X.env)).any (·.1)=false) zau0) (ht:autoParam (eval (.Call (.Attribute o "with_gap" apos) (e::es) [] pos) X.env=(do
   let ov <- eval o X.env
   standAt apos.atName
   let (f,first) <- holding [ov] (getMethod ov "with_gap" pl)
   callWith pos f first (backTo pos (starEach (e::es) X.env)) (backToKw pos (keywordEach [] X.env)))) zau0) :
  PE X (.Call (.Attribute o "with_gap" apos) (e::es) [] pos) (Kv (fun C=>C=a.pot\/C=a.cactus) "with_gap" (GF K a) E ta t):=by
 subst hK hm;exact Kw he hr T.gap hx ha hst hpl ht
end
abbrev Ls:cQ:=top 23
abbrev Lw:cQ:=top 24
abbrev Lx:cQ:=top 25
structure Ei (K:Fg) (mg:Str->Option au) (a:gR):Prop where
 T:lq K mg a
 kpp:kitOne K (.ref a.pot) (.ref a.pot)=some true
 kcp:kitOne K (.ref a.cactus) (.ref a.pot)=some true
 kb:∀ k:Kd,(∀ C,k≠.ins C)->kitOne K k.ty (.ref a.pot)=some false
 own:Fn K "own_pots" "own_pots" Ls ["pots"] a.Ce a.aeC
 Z7:mg "own_pots"=some (.ref a.Ce)
 cnt:Fn K "refuse_bad_counts" "refuse_bad_counts" Lw ["pots","cans","week","closed"] a.Cg a.aeD
 Z8:mg "refuse_bad_counts"=some (.ref a.Cg)
 twc:Fn K "refuse_name_twice" "refuse_name_twice" Lx ["pots"] a.Ci a.aeE
 Z9:mg "refuse_name_twice"=some (.ref a.Ci)
 tooMany:Exn K mg "TooMany" a.tooMany
 Ly:∃ t,mg "MOST_POTS"=some (.int 8 t)
 Lz:∃ t,mg "MOST_CANS"=some (.int 8 t)
 LC:∃ t,mg "MOST_WEEK"=some (.int 14 t)
 Ej:∃ t,mg "MOST_STATES"=some (.int 20000 t)
section
variable {P:bT} {w:World} {K:Fg} {mg:Str->Option au} {base:Heap} {a:gR}
def Om (a:gR):Kd->Bool
 | .ins C=>decide (C=a.pot\/C=a.cactus)
 | _=>false
def PK (a:gR) (k:Kd):Prop:=∀ C,k=.ins C->C=a.pot\/C=a.cactus
theorem Ei.Om (G:Ei K mg a) {k:Kd} (h:PK a k):kitOne K k.ty (.ref a.pot)=some (Tw.Om a k):=by
 cases k with
 | ins C =>
  have e:Tw.Om a (.ins C)=true:=aO (h C rfl);rw [e];rcases h C rfl with rfl | rfl
  ·exact G.kpp
  ·exact G.kcp
 | _=>exact G.kb _ (fun C z=>nomatch z)
theorem fY.upd {H:Hp} {b D:aA} {p:cB} {xs:List V} {o:HO} (h:fY a H b p) (hD:H D=some (.lst xs)):fY a (L2.upd H D o) b p:=by
 obtain ⟨dx,e⟩:=h;exact ⟨dx,by rw [bx (S8 e hD (by intro z; cases z))]; exact e⟩
theorem cB.aac {p:cB} (h:p.Ok):uo p (.int p.gap)=true:=by
 have h1:dZ (.int p.gap) 1 60=true:=by simp [dZ,h.gap.1,h.gap.2]
 unfold uo;cases e:p.rest with
 | none=>exact h1
 | some r =>
  obtain ⟨r0,r1⟩:=h.rest r e;have r1':r<=p.gap - 1:=by omega
  rw [h1]
  show (true && dZ (.int r) 0 (p.gap - 1))=true
  simp [dZ,r0,r1']
theorem lu {H H':Hp} {D:aA} {o:HO} (s:Same H H') (h:H D=none):Same H (L2.upd H' D o):=fun b u e=>by rw [bx (cZ e h)]; exact s b u e
def j5 (a:gR) (H:Hp) (as:List aA) (ps:List cB):Prop:=Paired (fY a H) as ps
theorem j5.same {H H':Hp} {as:List aA} {ps:List cB} (h:j5 a H as ps) (s:Same H H'):j5 a H' as ps:=Paired.mX h fun _ _ e=>e.same s
theorem j5.upd {H:Hp} {as:List aA} {ps:List cB} {D:aA} {xs:List V} {o:HO} (h:j5 a H as ps) (hD:H D=some (.lst xs)):j5 a (L2.upd H D o) as ps:=Paired.mX h fun _ _ e=>e.upd hD
noncomputable def T6 (K:Fg) (a:gR):Sp:=fun vs H Q E=>∃ v k,vs=[v]/\eV K H v k/\(bi k .list=false->∀ H',Same H H'->E (.ref a.cu) none H') /\ (bi k .list=true->∃ l xs ks,v=.ref l/\cY K H l xs/\xs.length<=1000/\Paired (eV K H) xs ks/\(∀ k ∈ ks,PK a k)/\(ks.all (Om a)=false->∀ H',Same H H'->E (.ref a.cu) none H') /\ (ks.all (Om a)=true->∃ as ps,xs=as.map V.ref/\j5 a H as ps/\(∀ p ∈ ps,p.Ok)/\∀ H' l' bs,Same H H'->H l'=none->H' l'=some (.lst (bs.map V.ref))->j5 a H' bs ps->Q (.ref l') H'))
theorem T7:bV ["pots","pot"] ["pots"] (aZ Ls):=d8 (by decide +kernel)
theorem aad (G:Ei K mg a):cC P w K mg base (eZ P w) 6 a.Ce a.aeC ["pots"] (T6 K a):=by
 refine G.own.F.pR T7 (fun vs H Q E h=>?_) (fun cdv A outer s H vs Q E hr h=>?_)
 ·obtain ⟨v,k,rfl,_⟩:=h;rfl
 ·obtain ⟨v,k,rfl,hk,no,yes⟩:=h;have T:=G.T;refine ⟨_,aN (eY (fM (fU (zp .list T.B.isinstance T.B.list (pv 0)))) (aX (fV bK rfl (by rfl) T.cu.m T.cu.q PySem.F.excBase_ValueError (aB bQ aJ))) cW) (aN (qT kO rfl (eX (pv 0)) (fj 1 T7.nd) (aX (eY (fM (fU (ZJ T.B.isinstance T.Rx (pv 1)))) (aX (fV bK rfl (by rfl) T.cu.m T.cu.q PySem.F.excBase_ValueError (aB bQ aJ))) cW))) (aX (cU (gG bK rfl ⟨_,_,rfl,rfl,rfl⟩ (eU.plain (N':=["pot"]) rfl (by decide +kernel) (by decide +kernel)) (eX (pv 0)) (fun _ _ _ _ _=>fj 0 (show [("pot":Str)].Nodup by decide +kernel)) (fun _ _ _ _ _=>gj) (fun _ _ _ _ _ acc=>Z6 (pv 0) (aB (Ky K (pv 0)) aJ) T hr (dU acc)))))),?_⟩;refine ⟨_,rfl,v,k,rfl,hk,_,rfl,?_⟩;cases ek:bi k .list with
  | false=>exact c7 ⟨by show 1<=sizeLine; decide,no ek H (Same.refl _)⟩
  | true =>
   obtain ⟨l,xs,ks,rfl,hl,hlen,kds,pks,bad,good⟩:=yes ek;refine dI ⟨_,rfl,l,rfl,⟨_,hl⟩,qw (K:=K) (a:=l) (xs:=xs) (fun i σ H'=>∃ u,σ=[some (.ref l),u]/\H=H'/\(ks.take i).all (Om a)=true) ⟨none,rfl,rfl,rfl⟩ (fun i σ H' _ ⟨_,_,e,_⟩=>e ▸ hl) ?_ ?_⟩
   ·rintro i x σ H' hi ⟨u,rfl,rfl,al⟩;obtain ⟨kx,hkx,kd⟩:=fC kds hi;refine ⟨_,rfl,x,kx,a.pot,_,rfl,kd,G.Om (pks kx (aV hkx)),_,rfl,?_⟩;cases e:Om a kx with
    | false =>
     refine c7 ⟨by show 1<=sizeLine; decide,bad ?_ _ (Same.refl _)⟩;rw [Bool.eq_false_iff];intro z;rw [all_eq_true] at z;rw [z kx (aV hkx)] at e;cases e
    | true=>exact dI ⟨_,rfl,rfl,by rw [take_snoc hkx,List.all_append,al]; simp [e]⟩
   ·rintro σ H' ⟨u,rfl,rfl,al⟩;have lk:xs.length=ks.length:=Paired.length kds;rw [lk,cJ] at al;obtain ⟨as,ps,rfl,pots,Ah,q⟩:=good al;refine ⟨_,rfl,l,rfl,⟨_,hl⟩,fun D hD=>?_⟩;have sD:=aQ (o:=.lst []) hD;have lp:as.length=ps.length:=Paired.length pots;refine vC as.length (by rw [aq] at hlen; exact bA hlen (by decide)) (fun i acc H'=>∃ bs:List aA,acc=bs.map V.ref/\bs.length=i/\H' D=some (.lst acc)/\Same H H'/\j5 a H' bs (ps.take i)) ⟨[],rfl,rfl,aC,sD,.nil⟩ (fun i acc H' _ ⟨bs,e,lb,hd,_⟩=>⟨by rw [e,aq,lb],hd⟩) ?_ ?_
    ·rintro acc H' ⟨bs,rfl,lb,hd,s',pt⟩;refine ⟨⟨_,s'.seq hl,by rw [aq]; exact aH _⟩,?_⟩;rw [lp,cJ] at pt;exact q H' D bs s' hD hd pt
    ·rintro i acc H' lt ⟨bs,rfl,lb,hd,s',pt⟩;have hl':=s'.seq hl;obtain ⟨b,hb⟩:∃ b,as[i]?=some b:=⟨as[i],aR lt⟩;obtain ⟨p,hp,pb⟩:=fC pots hb;have hx:(as.map V.ref)[i]?=some (.ref b):=by rw [bG,hb]; rfl
     refine ⟨⟨_,_,hl',hx⟩,?_⟩;rintro x za ⟨rfl,hx'⟩ Qc k;have ex:=hx' _ hl';rw [hx] at ex;cases ex;obtain ⟨dx,hb'⟩:=pb.same s';have LK:=Ah p (aV hp);have cT:=T.cls p.lV;refine ⟨eO,_,rfl,b,p.cls a,dx,_,rfl,hb',p.lV,p.aeM (by decide +kernel) (by decide +kernel) (by decide +kernel),_,rfl,b,p.cls a,dx,_,_,rfl,hb',cT.1.cl,cT.2 _ (by simp),p.GC,?_⟩;refine ⟨b,p,.int p.gap,.int,rfl,rfl,⟨dx,hb'⟩,LK,⟨_,rfl⟩,fun z=>(by rw [cB.aac LK] at z; cases z),fun _ j H3 y ej hy s3 py=>?_⟩;cases ej;refine k (.ref y) H3 (s3 _ _ hd) ⟨bs++[y],by rw [aW]; rfl,by rw [aM,lb]; rfl,aC,lu (s'.trans s3) hD,?_⟩
     ·rw [take_snoc hp];exact Paired.snoc ((pt.same s3).upd (s3 _ _ hd)) (fY.upd py (s3 _ _ hd))
end
section
variable {X:Cx} {e:Expr} {p pos:Pos}
theorem ni {x:Str} {T:String} {r:List V->Hp->VK->Prop} {es:List Expr} {t:TA} (hc:gK X (.type T) r) (hm:X.mg x=none) (hv:bootBuiltins x=some (.type T)) (ha:PA X (e::es) t) (hg:autoParam (Gl X x) zau0) (hn:autoParam (x≠"__name__") zau1) (hdb:autoParam ((x == ("__debug__":Str))=false) zau1) (he:autoParam (starEach (e::es) X.env=(false,eval e X.env)::starEach es X.env) zau0) (hpl:autoParam ((backTo pos (starEach es X.env)).any (·.1)=false) zau0):PE X (.Call (.Name x p) (e::es) [] pos) (tCB r t):=HW hc hg hm hv ha hn hdb he hpl
end
section
variable {P:bT} {w:World} {K:Fg} {mg:Str->Option au} {base:Heap} {a:gR}
def vV (w c:V):Bool:=match w with
 | .int i=>dZ c 0 (1 * 2 ^ i.toNat - 1)
 | _=>false
def vW (n:Nat) (c w cl:V):Bool:=decide (1<=n) && decide (n<=8) && dZ c 0 8 && dZ w 1 14 && vV w cl
noncomputable def aeO (K:Fg) (a:gR):Sp:=fun vs H Q E=>∃ l xs c w cl kc kw kl,vs=[.ref l,c,w,cl]/\cY K H l xs/\eV K H c kc/\eV K H w kw/\eV K H cl kl /\ (vW xs.length c w cl=false->E (.ref a.tooMany) none H)/\(vW xs.length c w cl=true->Q .non H)
theorem aeP:bV ["pots","cans","week","closed"] ["pots","cans","week","closed"] (aZ Lw):=d8 (by decide +kernel)
theorem aaf (G:Ei K mg a):cC P w K mg base (eZ P w) 2 a.Cg a.aeD ["pots","cans","week","closed"] (aeO K a):=by
 refine G.cnt.F.pR aeP (fun vs H Q E h=>?_) (fun cdv A outer s H vs Q E hr h=>?_)
 ·obtain ⟨l,xs,c,wk,cl,kc,kw,kl,rfl,_⟩:=h;rfl
 ·obtain ⟨l,xs,c,wk,cl,kc,kw,kl,rfl,hl,hc,hw,hcl,bad,good⟩:=h;have T:=G.T;obtain ⟨t1,m1⟩:=G.Ly;obtain ⟨t2,m2⟩:=G.Lz;obtain ⟨t3,m3⟩:=G.LC;refine ⟨_,aN (eY (fM (Al xM xM aY (fK eN T.B.len PySem.boot_len (aB (pv 0) aJ)) (mK (.int 8) m1 ⟨t1,rfl⟩))) (aX (fV bK rfl (by rfl) G.tooMany.m G.tooMany.q PySem.F.excBase_ValueError (aB bQ aJ))) cW) (aN (eY (fM (fU (dH T.okW hr T.mwh T.wh.F.kp T.wh.b cg (aB (pv 1) (aB aY (aB (mK (.int 8) m2 ⟨t2,rfl⟩) aJ)))))) (aX (fV bK rfl (by rfl) G.tooMany.m G.tooMany.q PySem.F.excBase_ValueError (aB bQ aJ))) cW) (aN (eY (fM (fU (dH T.okW hr T.mwh T.wh.F.kp T.wh.b cg (aB (pv 2) (aB aY (aB (mK (.int 14) m3 ⟨t3,rfl⟩) aJ)))))) (aX (fV bK rfl (by rfl) G.tooMany.m G.tooMany.q PySem.F.excBase_ValueError (aB bQ aJ))) cW) (aX (eY (fM (fU (dH T.okW hr T.mwh T.wh.F.kp T.wh.b cg (aB (pv 3) (aB aY (aB (bO Dq (bO JH aY (pv 2)) aY) aJ)))))) (aX (fV bK rfl (by rfl) G.tooMany.m G.tooMany.q PySem.F.excBase_ValueError (aB bQ aJ))) cW)))),?_⟩;refine ⟨_,rfl,l,xs,rfl,.inl hl,_,_,rfl,rfl,_,rfl,?_⟩;unfold vW at bad good
  by_cases h1:1<=xs.length
  ·have h1':(1:Int)<=(xs.length:Int):=by omega
   rw [aO h1'];refine c7 ⟨_,_,rfl,rfl,_,rfl,?_⟩
   by_cases h2:xs.length<=8
   ·have h2':(xs.length:Int)<=8:=by omega
    rw [aO h2'];rw [aO h1,aO h2] at bad good;refine dI ⟨_,rfl,c,0,8,kc,rfl,hc,_,rfl,?_⟩;cases ec:dZ c 0 8 with
    | false=>exact c7 ⟨by show 1<=sizeLine; decide,bad (by rw [ec]; rfl)⟩
    | true =>
     refine dI ⟨_,rfl,wk,1,14,kw,rfl,hw,_,rfl,?_⟩;cases ew:dZ wk 1 14 with
     | false=>exact c7 ⟨by show 1<=sizeLine; decide,bad (by rw [ec,ew]; rfl)⟩
     | true =>
      obtain ⟨i,rfl,i1,i2⟩:=jm ew;refine dI ⟨_,rfl,_,rfl,_,_,rfl,rfl,⟨by omega,by omega,by decide⟩,_,_,rfl,rfl,cl,0,_,kl,rfl,hcl,_,rfl,?_⟩;rw [ec,ew] at bad good;cases el:dZ cl 0 (1 * 2 ^ i.toNat - 1) with
      | false=>exact c7 ⟨by show 1<=sizeLine; decide,bad (by rw [vV,el]; rfl)⟩
      | true=>exact dI (good (by rw [vV,el]; rfl))
   ·have h2':¬ (xs.length:Int)<=8:=by omega
    rw [aF h2'];exact c7 ⟨by show 1<=sizeLine; decide,bad (by rw [aF h2]; simp)⟩
  ·have h1':¬ (1:Int)<=(xs.length:Int):=by omega
   rw [aF h1'];exact dI ⟨_,rfl,c7 ⟨by show 1<=sizeLine; decide,bad (by rw [aF h1]; simp)⟩⟩
noncomputable def aeQ (K:Fg) (a:gR):Sp:=fun vs H Q E=>∃ l as ps,vs=[.ref l]/\cY K H l (as.map V.ref)/\j5 a H as ps/\as.length<=8 /\ (¬ (ps.map cB.nm).Nodup->∀ H',Same H H'->E (.ref a.cu) none H')/\((ps.map cB.nm).Nodup->∀ H',Same H H'->Q .non H')
theorem aeR:bV ["pots"] ["pots"] (aZ Lx):=d8 (by decide +kernel)
theorem aag (G:Ei K mg a):cC P w K mg base (eZ P w) 2 a.Ci a.aeE ["pots"] (aeQ K a):=by
 refine G.twc.F.pR aeR (fun vs H Q E h=>?_) (fun cdv A outer s H vs Q E hr h=>?_)
 ·obtain ⟨l,as,ps,rfl,_⟩:=h;rfl
 ·obtain ⟨l,as,ps,rfl,hl,pots,h8,bad,good⟩:=h;have T:=G.T;refine ⟨_,aX (eY (dj m5 (fK Ij T.B.len PySem.boot_len (aB (ni (Ii rfl) T.B.set boot_set (aB (gG bK rfl ⟨_,_,rfl,rfl,rfl⟩ (eU.plain (N':=["pot"]) rfl (by decide +kernel) (by decide +kernel)) (eX (pv 0)) (fun _ _ _ _ _=>fj 0 (show [("pot":Str)].Nodup by decide +kernel)) (fun _ _ _ _ _=>gj) (fun _ _ _ _ _ _=>Ky K (pv 0))) aJ)) aJ)) (fK eN T.B.len PySem.boot_len (aB (pv 0) aJ)) (dM _)) (aX (fV bK rfl (by rfl) T.cu.m T.cu.q PySem.F.excBase_ValueError (aB bQ aJ))) cW),?_⟩;refine ⟨_,rfl,l,rfl,⟨_,hl⟩,fun D hD=>?_⟩;have lp:as.length=ps.length:=Paired.length pots;refine vC as.length (bA h8 (by decide)) (fun i acc H'=>acc=((ps.take i).map cB.nm).map V.str/\upd H D (.lst acc)=H') ⟨rfl,rfl⟩ (fun i acc H' le ⟨e,eh⟩=>⟨?_,by rw [<- eh,aC]⟩) ?_ ?_
  ·rw [e,aq,aq,length_take,<- lp]; omega
  ·rintro acc H' ⟨rfl,rfl⟩;have sD:=aQ (o:=.lst (((ps.take as.length).map cB.nm).map V.str)) hD;rw [lp,cJ] at sD ⊢;refine ⟨⟨_,sD.seq hl,by rw [aq,lp]; exact aH _⟩,D,ps.map cB.nm,rfl,cY.of aC,?_,fun S hS=>?_⟩
   ·rw [aq,<- lp]; exact Nat.lt_of_le_of_lt (Nat.succ_le_succ h8) (by decide)
   ·have sS:=sD.trans (aQ (o:=vB P w S (gZ (ps.map cB.nm)).length) hS);refine ⟨S,_,rfl,aC,_,rfl,l,_,rfl,.inl (sS.seq hl),rfl,_,rfl,?_⟩;have e1:(V.int ((gZ (ps.map cB.nm)).length:Int)=V.int ((as.map V.ref).length:Int)) ↔ (ps.map cB.nm).Nodup:=by
     rw [<- Gm,aq,aq,<- lp];constructor
     ·intro z; injection z with z; exact Int.ofNat.inj z
     ·intro z; rw [z]
    by_cases nd:(ps.map cB.nm).Nodup
    ·rw [aO (e1.mpr nd)];exact dI (good nd _ sS)
    ·rw [aF (fun z=>nd (e1.mp z))];exact c7 ⟨by show 1<=sizeLine; decide,bad nd _ sS⟩
  ·rintro i acc H' lt ⟨rfl,rfl⟩;have sD:=aQ (o:=.lst (((ps.take i).map cB.nm).map V.str)) hD;have hl':=sD.seq hl;obtain ⟨b,hb⟩:∃ b,as[i]?=some b:=⟨as[i],aR lt⟩;obtain ⟨q,hq,pb⟩:=fC pots hb;have hx:(as.map V.ref)[i]?=some (.ref b):=by rw [bG,hb]; rfl
   refine ⟨⟨_,_,hl',hx⟩,?_⟩;rintro x za ⟨rfl,hx'⟩ Qc k;have ex:=hx' _ hl';rw [hx] at ex;cases ex;obtain ⟨dx,hb'⟩:=pb.same sD;have cT:=T.cls q.lV;refine ⟨eO,_,rfl,b,q.cls a,dx,_,_,rfl,hb',cT.1.cl,cT.2 _ (by simp),q.pY,?_⟩;refine k _ _ aC ⟨?_,by rw [lJ]⟩;rw [take_snoc hq,aW,aW];rfl
end
abbrev RB:cQ:=inClass (top 28) 0
abbrev Cj:cQ:=inClass (top 28) 1
structure RD (K:Fg) (x qual:Str) (st:cQ) (dV:au) (f:aA) (fd:dN):Prop where
 ex:∃ (oc:au) (od:Option aA) (kV doc pm:au) (an:Option aA) (cdv ct:au) (osl:Array (Option au)),fd=fnOf x qual (jP st) (gD st) (aZ st) dV kV doc pm an cdv ct/\K.lookup f=some ⟨oc,od,.func fd,osl⟩/\codeIn K cdv qual=true
 kp:keepIn K (.ref f)=true
theorem RD.pR {P:bT} {w:World} {K:Fg} {mg:Str->Option au} {base:Heap} {x qual:Str} {st:cQ} {dV:au} {f:aA} {fd:dN} {N ps:List Str} {k:Nat} {sp:Sp} (F:RD K x qual st dV f fd) (S:bV N ps (aZ st)) (len:∀ vs H Q E,sp vs H Q E->vs.length=ps.length) (body:∀ (cdv:au) (A:cL) (outer:List Env) (s:aG) (H:Hp) (vs:List V) (Q:VK) (E:XK),d7 k (A.deeper (PyProof.Rows.envOfC qual (aZ st) s.heap.objs.size f cdv))->sp vs H Q E -> ∃ t,Dh (qx (eZ P w) P w K mg base N qual (aZ st) f cdv A outer s H E) (gD st) t/\t { nx:=fun _ H'=>Q .non H',rt:=Q } (start N vs) H):cC P w K mg base (eZ P w) (k + 1) f fd ps sp:=by
 obtain ⟨oc,od,kV,doc,pm,an,cdv,ct,osl,rfl,lk,hcd⟩:=F.ex;exact Tr lk hcd S len fun A outer s H vs Q E hr h=>body cdv A outer s H vs Q E hr h
structure LQ (K:Fg) (mg:Str->Option au) (a:gR) (dV:au):Prop where
 G:Ei K mg a
 tG:Bo K a.garden
 ajs:mg "Garden"=some (.ref a.garden)
 nG:∀ f ∈ (["pots","cans","week","closed"]:List Str),iH K a.garden f
 gi:RD K "__init__" "Garden.__init__" RB dV a.Ol a.dGI
 b4:Binds K a.dGI ["self","pots","cans","week","closed"] []
 b1:∃ t1 t2 t3,Binds K a.dGI ["self","pots","cans","week","closed"] [.int 1 t1,.int 1 t2,.int 0 t3]
 b2:∃ t2 t3,Binds K a.dGI ["self","pots","cans","week","closed"] [.int 1 t2,.int 0 t3]
 kG:Mk K a.garden a.Ol
 size:Fn K "size" "Garden.size" Cj ["self"] a.Li a.T5
 aeS:Meth K a.garden "size" a.Li
section
variable {P:bT} {w:World} {K:Fg} {mg:Str->Option au} {base:Heap} {a:gR} {dV:au}
structure gU where
 pots:List cB
 cans:Int
 week:Int
 closed:Int
def LR (l:aA) (c w cl:V):List (Str × V):=[("pots",.ref l),("cans",c),("week",w),("closed",cl)]
theorem Ma (l:aA) (c w cl:V):(LR l c w cl).lookup ("pots":Str)=some (.ref l):=yC
theorem aah (l:aA) (c w cl:V):(LR l c w cl).lookup ("cans":Str)=some c:=(iD (by decide +kernel)).trans yC
theorem Ek (l:aA) (c w cl:V):(LR l c w cl).lookup ("week":Str)=some w:=(iD (by decide +kernel)).trans ((iD (by decide +kernel)).trans yC)
theorem Mf (l:aA) (c w cl:V):(LR l c w cl).lookup ("closed":Str)=some cl:=(iD (by decide +kernel)).trans ((iD (by decide +kernel)).trans ((iD (by decide +kernel)).trans yC))
theorem ajt (l:aA) (c w cl:V) {m:Str} (h1:(m == "pots")=false) (h2:(m == "cans")=false) (h3:(m == "week")=false) (h4:(m == "closed")=false):(LR l c w cl).lookup m=none := (iD h1).trans ((iD h2).trans ((iD h3).trans (iD h4)))
theorem lW {f g:Str} {v x:V} {r:List (Str × V)} (h:¬ g=f):gh f v ((g,x)::r)=(g,x)::gh f v r:=by
 show (if g=f then _ else _)=_
 rw [if_neg h]
theorem aeT (l:aA) (c w cl:V):gh "closed" cl (gh "week" w (gh "cans" c (gh "pots" (.ref l) [])))=LR l c w cl:=by
 have e1:gh "pots" (V.ref l) []=[(("pots":Str),V.ref l)]:=rfl;have e2:gh "cans" c [(("pots":Str),V.ref l)]=([("pots",V.ref l),("cans",c)]:List (Str × V)):=by rw [lW (by decide +kernel)]; rfl
 have e3:gh "week" w ([("pots",V.ref l),("cans",c)]:List (Str × V))=([("pots",V.ref l),("cans",c),("week",w)]:List (Str × V)):=by rw [lW (by decide +kernel),lW (by decide +kernel)]; rfl
 have e4:gh "closed" cl ([("pots",V.ref l),("cans",c),("week",w)]:List (Str × V))=([("pots",V.ref l),("cans",c),("week",w),("closed",cl)]:List (Str × V)):=by rw [lW (by decide +kernel),lW (by decide +kernel),lW (by decide +kernel)]; rfl
 rw [e1,e2,e3,e4];rfl
def sizeOf (wk:Int) (ps:List cB):Int:=ps.foldl (fun s p=>s * p.gap) wk
def Mg (a:gR) (H:Hp) (x:aA) (g:gU):Prop:=∃ dx l as,H x=some (.ins a.garden dx (LR l (.int g.cans) (.int g.week) (.int g.closed)))/\H l=some (.lst (as.map V.ref))/\j5 a H as g.pots
noncomputable def aai (K:Fg) (a:gR):Sp:=fun vs H Q _=>∃ x dx l as ps c wk cl,vs=[.ref x]/\H x=some (.ins a.garden dx (LR l c (.int wk) cl))/\cY K H l (as.map V.ref)/\j5 a H as ps/\(∀ p ∈ ps,p.Ok)/\Q (.int (sizeOf wk ps)) H
theorem zK:bV ["self","states","pot"] ["self"] (aZ Cj):=d8 (by decide +kernel)
theorem RG (Z:LQ K mg a dV):cC P w K mg base (eZ P w) 1 a.Li a.T5 ["self"] (aai K a):=by
 refine Z.size.F.pR zK (fun vs H Q E h=>?_) (fun cdv A outer s H vs Q E hr h=>?_)
 ·obtain ⟨x,dx,l,as,ps,c,wk,cl,rfl,_⟩:=h;rfl
 ·obtain ⟨x,dx,l,as,ps,c,wk,cl,rfl,hx,hl,pots,Ah,q⟩:=h;have T:=Z.G.T;refine ⟨_,aN (cj (i:=1) zK.nd rfl (Or.inl rfl) (fP (pv 0) rfl)) (aN (qT kO rfl (eX (fP (pv 0) rfl)) (fj 2 zK.nd) (aX (cj (i:=1) zK.nd rfl (Or.inl rfl) (bO uV (pv 1) (fP (pv 2) rfl))))) (aX (cU (pv 1)))),?_⟩;refine ⟨_,rfl,x,a.garden,dx,_,_,rfl,hx,Z.tG.cl,Z.nG _ (by simp),Ek ..,_,rfl,x,a.garden,dx,_,_,rfl,hx,Z.tG.cl,Z.nG _ (by simp),Ma ..,l,rfl,⟨_,hl⟩,qw (K:=K) (a:=l) (xs:=as.map V.ref) (fun i σ H'=>∃ u,σ=[some (.ref x),some (.int (sizeOf wk (ps.take i))),u]/\H=H') ⟨none,rfl,rfl⟩ (fun i σ H' _ ⟨_,_,e⟩=>e ▸ hl) ?_ ?_⟩
  ·rintro i y σ H' hi ⟨u,rfl,rfl⟩;rw [bG] at hi;obtain ⟨b,hb,rfl⟩:=bB.mp hi;obtain ⟨p,hp,dy,hb'⟩:=fC pots hb;have LK:=Ah p (aV hp);have cT:=T.cls p.lV;refine ⟨_,rfl,_,rfl,b,p.cls a,dy,_,_,rfl,hb',cT.1.cl,cT.2 _ (by simp),p.GC,_,_,rfl,rfl,.inr ⟨by have:=LK.gap; omega,by have:=LK.gap; omega⟩,?_⟩;have e:sizeOf wk (ps.take (i + 1))=sizeOf wk (ps.take i) * p.gap:=by
    rw [take_snoc hp,sizeOf,sizeOf,List.foldl_append];rfl
   refine ⟨some (.ref b),?_,rfl⟩;rw [e];rfl
  ·rintro σ H' ⟨u,rfl,rfl⟩;refine ⟨_,rfl,?_⟩;have lp:as.length=ps.length:=Paired.length pots;rw [aq,lp,cJ];exact q
theorem aaj {σ:St} {H:Hp} {R:List V->Hp->Prop} (h:R [] H):JR σ H R:=h
inductive RJ where
 | bad | many | ok
 deriving DecidableEq
noncomputable def vX (ps:List cB) (c w cl:V):RJ := if vW ps.length c w cl=false then .many else if ¬ (ps.map cB.nm).Nodup then .bad else
 match w with
 | .int wk=>if 20000 < sizeOf wk ps then .many else .ok
 | _=>.many
def mY (o:Option (List cB)) (c w cl:V):RJ:=match o with
 | none=>.bad
 | some ps=>vX ps c w cl
inductive xH (K:Fg) (a:gR) (H:Hp):V->Option (List cB)->Prop where
 | no {v:V} {k:Kd} (hk:eV K H v k) (h:bi k .list=false):xH K a H v none
 | mix {l:aA} {xs:List V} {ks:List Kd} (hk:eV K H (.ref l) .lst) (hl:cY K H l xs) (len:xs.length<=1000) (kds:Paired (eV K H) xs ks) (pk:∀ k ∈ ks,PK a k) (h:ks.all (Om a)=false):xH K a H (.ref l) none
 | pots {l:aA} {as:List aA} {ps:List cB} (hk:eV K H (.ref l) .lst) (hl:cY K H l (as.map V.ref)) (len:as.length<=1000) (pots:j5 a H as ps) (Ah:∀ p ∈ ps,p.Ok):xH K a H (.ref l) (some ps)
theorem Mh (T:lq K mg a) {H:Hp} {as:List aA} {ps:List cB} (h:j5 a H as ps):Paired (eV K H) (as.map V.ref) (ps.map fun p=>Kd.ins (p.cls a)):=by
 induction h with
 | nil=>exact .nil
 | cons r _ ih =>
  obtain ⟨dx,e⟩:=r;exact .cons ⟨_,dx,_,rfl,e,(T.cls (cB.lV _)).1⟩ ih
theorem Mi {ps:List cB}:(ps.map fun p=>Kd.ins (p.cls a)).all (Om a)=true:=by
 rw [all_map,all_eq_true];intro p _;exact aO p.lV
theorem aak (T:lq K mg a) {H:Hp} {Q:VK} {E:XK} {v:V} {o:Option (List cB)} (g:xH K a H v o) (bad:o=none->∀ H',Same H H'->E (.ref a.cu) none H') (good:∀ ps,o=some ps->(∀ p ∈ ps,p.Ok)->∀ H' l' bs,Same H H'->H l'=none->H' l'=some (.lst (bs.map V.ref))->j5 a H' bs ps->Q (.ref l') H'):T6 K a [v] H Q E:=by
 cases g with
 | no hk h=>exact ⟨v,_,rfl,hk,fun _=>bad rfl,fun z=>by rw [h] at z; cases z⟩
 | mix hk hl len kds pk h=>exact ⟨_,_,rfl,hk,(fun z=>nomatch z),fun _=>⟨_,_,_,rfl,hl,len,kds,pk,fun _=>bad rfl,fun z=>by rw [h] at z; cases z⟩⟩
 | pots hk hl len pots Ah =>
  refine ⟨_,_,rfl,hk,(fun z=>nomatch z),fun _=>⟨_,_,_,rfl,hl,by rw [aq]; exact len,Mh T pots,?_,fun z=>?_,fun _=>⟨_,_,rfl,pots,Ah,good _ rfl Ah⟩⟩⟩
  ·intro k hk C e;obtain ⟨p,_,rfl⟩:=bJ.mp hk;cases e;exact p.lV
  ·rw [Mi] at z;cases z
def pZ (a:gR) (H H':Hp) (x:aA) (g:gU):Prop:=∃ dx l as,H' x=some (.ins a.garden dx (LR l (.int g.cans) (.int g.week) (.int g.closed)))/\H' l=some (.lst (as.map V.ref))/\j5 a H' as g.pots/\H l=none
theorem pZ.at {H H':Hp} {x:aA} {g:gU} (h:pZ a H H' x g):Mg a H' x g:=by
 obtain ⟨dx,l,as,h1,h2,h3,_⟩:=h;exact ⟨dx,l,as,h1,h2,h3⟩
theorem pZ.from {H0 H H':Hp} {x:aA} {g:gU} (h:pZ a H H' x g) (s:Same H0 H):pZ a H0 H' x g:=by
 obtain ⟨dx,l,as,h1,h2,h3,h4⟩:=h;exact ⟨dx,l,as,h1,h2,h3,s.free h4⟩
noncomputable def aeU (K:Fg) (a:gR):Sp:=fun vs H Q E=>∃ x dx v c w cl o kc kw kl,vs=[.ref x,v,c,w,cl]/\H x=some (.ins a.garden dx [])/\xH K a H v o/\eV K H c kc/\eV K H w kw/\eV K H cl kl /\ (mY o c w cl=.bad->∀ H',But x H H'->E (.ref a.cu) none H')/\(mY o c w cl=.many->∀ H',But x H H'->E (.ref a.tooMany) none H') /\ (mY o c w cl=.ok->∀ ps ci wi li H',o=some ps->c=.int ci->w=.int wi->cl=.int li->But x H H'->pZ a H H' x ⟨ps,ci,wi,li⟩->Q .non H')
theorem aeV:bV ["self","pots","cans","week","closed","copies"] ["self","pots","cans","week","closed"] (aZ RB):=d8 (by decide +kernel)
theorem aeW (Z:LQ K mg a dV):cC P w K mg base (eZ P w) 7 a.Ol a.dGI ["self","pots","cans","week","closed"] (aeU K a):=by
 refine Z.gi.pR aeV (fun vs H Q E h=>?_) (fun cdv A outer s H vs Q E hr h=>?_)
 ·obtain ⟨x,dx,v,c,wk,cl,o,kc,kw,kl,rfl,_⟩:=h;rfl
 ·obtain ⟨x,dx,v,c,wk,cl,o,kc,kw,kl,rfl,hx,ga,hc,hw,hcl,bad,many,good⟩:=h;have G:=Z.G;have T:=G.T;obtain ⟨t1,m1⟩:=G.Ej;have hr2:d7 2 _:=hr.mono (by decide);refine ⟨_,aN (cj (i:=5) aeV.nd rfl (Or.inl rfl) (dH (aad G) hr G.Z7 G.own.F.kp G.own.b (dU bK) (aB (pv 1) aJ))) (aN (jf (dH (aaf G) hr2 G.Z8 G.cnt.F.kp G.cnt.b (dU bK) (aB (pv 5) (aB (pv 2) (aB (pv 3) (aB (pv 4) aJ)))))) (aN (jf (dH (aag G) hr2 G.Z9 G.twc.F.kp G.twc.b (dU bK) (aB (pv 5) aJ))) (aN (pN (pv 0) (pv 5) rfl) (aN (pN (pv 0) (pv 2) rfl) (aN (pN (pv 0) (pv 3) rfl) (aN (pN (pv 0) (pv 4) rfl) (aX (eY (dj Tn (JV (pv 0) Z.tG.cl Z.aeS (RG Z) (hr.mono (by decide)) Z.size.b .nil cg) (mK (.int 20000) m1 ⟨t1,rfl⟩) (dM _)) (aX (fV bK rfl (by rfl) G.tooMany.m G.tooMany.q PySem.F.excBase_ValueError (aB bQ aJ))) cW)))))))),?_⟩;refine ⟨_,rfl,aaj (aak T ga (fun e H' s'=>bad (by rw [e]; rfl) H' (Same.but s')) (fun ps eo Ah H1 l bs s1 fl hl1 pt1=>?_))⟩;subst eo;have lb:bs.length=ps.length:=Paired.length pt1;have hl1':cY K H1 l (bs.map V.ref):=cY.of hl1;refine ⟨_,rfl,_,rfl,_,rfl,_,rfl,l,_,c,wk,cl,kc,kw,kl,rfl,hl1',hc.same s1,hw.same s1,hcl.same s1,fun e=>many ?_ H1 (Same.but s1),fun e=>?_⟩
  ·rw [aq,lb] at e
   show vX _ _ _ _=_
   unfold vX;rw [if_pos e]
  ·rw [aq,lb] at e;have e':¬ vW ps.length c wk cl=false:=by rw [e]; exact Bool.noConfusion
   have h8:ps.length<=8/\(∃ ci,c=.int ci)/\(∃ wi,wk=.int wi)/\∃ li,cl=.int li:=by
    unfold vW at e;simp only [Bool.and_eq_true,decide_eq_true_eq] at e;obtain ⟨⟨⟨⟨e1,e2⟩,e3⟩,e4⟩,e5⟩:=e;obtain ⟨ci,rfl,_⟩:=jm e3;obtain ⟨wi,rfl,_⟩:=jm e4;obtain ⟨li,rfl,_⟩:=jm e5;exact ⟨e2,⟨_,rfl⟩,⟨_,rfl⟩,⟨_,rfl⟩⟩
   obtain ⟨h8,⟨ci,rfl⟩,⟨wi,rfl⟩,⟨li,rfl⟩⟩:=h8;refine ⟨_,rfl,l,bs,ps,rfl,hl1',pt1,by rw [lb]; exact h8,fun nd H2 s2=>bad ?_ H2 (Same.but (s1.trans s2)),fun nd H2 s2=>?_⟩
   ·show vX _ _ _ _=_
    unfold vX;rw [if_neg e',if_pos nd]
   ·have nxl:x≠l:=cZ hx fl;have s12:=s1.trans s2;have hx2:=s12 _ _ hx;refine ⟨_,rfl,_,rfl,x,a.garden,dx,_,rfl,hx2,Z.tG.cl,Z.nG _ (by simp),by show 0 < 1000; decide,?_⟩;refine ⟨_,rfl,_,rfl,x,a.garden,dx,_,rfl,aC,Z.tG.cl,Z.nG _ (by simp),by show 1 < 1000; decide,?_⟩;refine ⟨_,rfl,_,rfl,x,a.garden,dx,_,rfl,aC,Z.tG.cl,Z.nG _ (by simp),(by rw [show gh "cans" (V.int ci) (gh "pots" (V.ref l) [])=[(("pots":Str),V.ref l),(("cans":Str),V.int ci)] from lW (by decide +kernel)]; show 2 < 1000; decide),?_⟩;refine ⟨_,rfl,_,rfl,x,a.garden,dx,_,rfl,aC,Z.tG.cl,Z.nG _ (by simp),?_,?_⟩
    ·have:=iR "week" (V.int wi) (gh "cans" (V.int ci) (gh "pots" (V.ref l) []));have:=iR "cans" (V.int ci) (gh "pots" (V.ref l) []);have:=iR "pots" (V.ref l) [];simp at this;omega
    ·rw [lJ,lJ,lJ,aeT];generalize eH:upd H2 x (.ins a.garden dx (LR l (.int ci) (.int wi) (.int li)))=H3;have hx3:H3 x=some (.ins a.garden dx (LR l (.int ci) (.int wi) (.int li))):=by rw [<- eH,aC]
     have b3:But x H H3:=fun b o n e=>by rw [<- eH,bx n]; exact s12 _ _ e
     have hl3:H3 l=some (.lst (bs.map V.ref)):=by rw [<- eH,bx nxl.symm]; exact s2 _ _ hl1
     have pt3:j5 a H3 bs ps:=by
      refine Paired.mX (pt1.same s2) fun b p e=>?_
      obtain ⟨dy,e⟩:=e;refine ⟨dy,?_⟩;rw [<- eH,bx ?_]
      ·exact e
      ·intro z;subst z;rw [e] at hx2;have:=(bY hx2);injection this with _ _ e3;unfold cB.fs at e3
       split at e3 <;> cases e3
     refine ⟨_,rfl,x,dx,_,rfl,hx3,ajt _ _ _ _ (by decide +kernel) (by decide +kernel) (by decide +kernel) (by decide +kernel),x,dx,l,bs,ps,_,wi,_,rfl,hx3,cY.of hl3,pt3,Ah,_,_,rfl,rfl,_,rfl,?_⟩
     by_cases big:20000 < sizeOf wi ps
     ·rw [aO big];refine c7 ⟨by show 1<=sizeLine; decide,many ?_ _ b3⟩
      show vX _ _ _ _=_
      unfold vX;rw [if_neg e',if_neg (fun z=>z nd)];exact if_pos big
     ·rw [aF big];refine dI (good ?_ ps ci wi li _ rfl rfl rfl rfl b3 ⟨dx,l,bs,hx3,hl3,pt3,fl⟩)
      show vX _ _ _ _=_
      unfold vX;rw [if_neg e',if_neg (fun z=>z nd)];exact if_neg big
end
theorem gY.mark {k:Nat} {A:cL} {o:Option au} (r:gY k A):gY k (A.mark o):=⟨r.dp,r.un⟩
section
variable {P:bT} {w:World} {K:Fg} {mg:Str->Option au} {base:Heap} {a:gR} {dV:au}
theorem xH.same {H H':Hp} {v:V} {o:Option (List cB)} (g:xH K a H v o) (s:Same H H'):xH K a H' v o:=by
 cases g with
 | no hk h=>exact .no (hk.same s) h
 | mix hk hl len kds pk h=>exact .mix (hk.same s) (s.seq hl) len (Paired.mX kds fun _ _ e=>e.same s) pk h
 | pots hk hl len pots Ah=>exact .pots (hk.same s) (s.seq hl) len (pots.same s) Ah
structure aeX (a:gR) (H:Hp) (Q:aA->Hp->Prop) (E:XK) (o:Option (List cB)) (c w cl:V):Prop where
 bad:mY o c w cl=.bad->∀ H',Same H H'->E (.ref a.cu) none H'
 many:mY o c w cl=.many->∀ H',Same H H'->E (.ref a.tooMany) none H'
 ok:mY o c w cl=.ok->∀ ps ci wi li H' x,o=some ps->c=.int ci->w=.int wi->cl=.int li->H x=none->Same H H'->pZ a H H' x ⟨ps,ci,wi,li⟩->Q x H'
theorem aal {H:Hp} {Q:aA->Hp->Prop} {E:XK} {v c w cl:V} {o:Option (List cB)} {kc kw kl:Kd} (ga:xH K a H v o) (hc:eV K H c kc) (hw:eV K H w kw) (hcl:eV K H cl kl) (p:aeX a H Q E o c w cl) : ∀ x dx,H x=none->H dx=none->dx≠x->aeU K a [.ref x,v,c,w,cl] (upd (upd H dx (.own x)) x (.ins a.garden dx [])) (fun v H2=>v=.non/\Q x H2) E:=by
 intro x dx nx ndx ne;have s0:=rD (C:=a.garden) nx ndx;exact ⟨x,dx,v,c,w,cl,o,kc,kw,kl,rfl,aC,ga.same s0,hc.same s0,hw.same s0,hcl.same s0,fun e H' b=>p.bad e H' (b.made nx ndx),fun e H' b=>p.many e H' (b.made nx ndx),fun e ps ci wi li H' h1 h2 h3 h4 b g=>⟨rfl,p.ok e ps ci wi li H' x h1 h2 h3 h4 nx (b.made nx ndx) (g.from s0)⟩⟩
theorem eqT {x y:Int} {A B:Prop} (e:x=y) (h:A):if decide (V.int x=V.int y)=true then A else B:=by
 rw [aO (by rw [e])]; exact c7 h
theorem eqF {x y:Int} {A B:Prop} (e:x≠y) (h:B):if decide (V.int x=V.int y)=true then A else B:=by
 rw [aF (fun z=>e (by injection z))]; exact dI h
theorem Mj {H:Hp} {n:Nat} {x:V} (h:ud x=true):Di K H n x x true:=by
 have:=Di.flat (K:=K) (H:=H) (n:=n) h h;rw [Kz h] at this;exact this
end
abbrev GJ:cQ:=top 39
abbrev GK:cQ:=top 40
section
variable {P:bT} {w:World} {K:Fg} {mg:Str->Option au} {base:Heap} {a:gR} {dV:au}
def zL (K:Fg):Sp:=fun vs H Q _=>∃ (s:aA) (ns:List Int) (k:Nat),vs=[.ref s,.int k]/\cY K H s (ns.map V.int)/\Q (.int (ns.getD k 0)) H
theorem aam:bV ["_law_script","_law_k"] ["_law_script","_law_k"] (aZ GJ):=d8 (by decide +kernel)
theorem zM {f:aA} {fd:dN} (F:oK K "_law_cell_at" "_law_cell_at" GJ f fd) (B:T4 mg):cC P w K mg base (eZ P w) 1 f fd ["_law_script","_law_k"] (zL K):=by
 refine F.pR aam (fun vs H Q E h=>?_) (fun cdv A outer s H vs Q E hr h=>?_)
 ·obtain ⟨x,ns,k,rfl,_⟩:=h;rfl
 ·obtain ⟨x,ns,k,rfl,hs,q⟩:=h;refine ⟨_,aN (eY (dj JM (pv 1) (fK eN B.len PySem.boot_len (aB (pv 0) aJ)) (dM _)) (aX (cU (fJ jg (pv 0) (pv 1) (fun _ _=>rfl)))) cW) (aX (cU aY)),?_⟩;refine ⟨_,rfl,_,rfl,x,_,rfl,.inl hs,_,_,rfl,rfl,_,rfl,?_⟩
  by_cases lt:k < ns.length
  ·rw [aO (by rw [aq]; omega)];have e:(ns.map V.int)[k]?=some (.int (ns.getD k 0)):=by simp [lt]
   exact c7 ⟨_,rfl,_,rfl,x,_,_,_,rfl,rfl,hs,dR e,q⟩
  ·rw [aF (by rw [aq]; omega)];have e:ns.getD k 0=0:=by simp [List.getD,List.getElem?_eq_none (by omega:ns.length<=k)]
   rw [e] at q;exact dI q
def zN:List Int:=[1000003,1000033,1000037,1000039,1000081,1000099,1000117,1000121]
def uN (k:Int):Int:=zN.getD (k % 8).toNat 1
def uq (c k m:Int):Int:=(c * 48271 + k * 69621 + c / 1000003 % 1000003 * 40692) % uN k % m
theorem zO (c k:Int) {m:Int} (h:0 < m):0<=uq c k m:=Int.emod_nonneg _ (by omega)
theorem zP (c k:Int) {m:Int} (h:0 < m):uq c k m < m:=Int.emod_lt_of_pos _ h
theorem Ml (k:Int):Qx (zN.map V.int) (k % 8)=some (.int (uN k))/\0 < uN k:=by
 have h0:0<=k % 8:=Int.emod_nonneg _ (by decide);have h1:k % 8 < 8:=Int.emod_lt_of_pos _ (by decide);unfold uN;have h:k % 8=0\/k % 8=1\/k % 8=2\/k % 8=3\/k % 8=4\/k % 8=5\/k % 8=6\/k % 8=7:=by omega
 rcases h with e | e | e | e | e | e | e | e <;> rw [e] <;> exact ⟨rfl,by decide⟩
def El:Sp:=fun vs H Q _=>∃ c k m:Int,vs=[.int c,.int k,.int m]/\0 < m/\∀ H',Same H H'->Q (.int (uq c k m)) H'
theorem Em:bV ["_law_cell","_law_k","_law_many","_law_primes","_law_blend"] ["_law_cell","_law_k","_law_many"] (aZ GK):=d8 (by decide +kernel)
theorem GP {f:aA} {fd:dN} (F:oK K "_law_draw" "_law_draw" GK f fd):cC P w K mg base (eZ P w) 1 f fd ["_law_cell","_law_k","_law_many"] El:=by
 refine F.pR Em (fun vs H Q E h=>?_) (fun cdv A outer s H vs Q E hr h=>?_)
 ·obtain ⟨c,k,m,rfl,_⟩:=h;rfl
 ·obtain ⟨c,k,m,rfl,m0,q⟩:=h;refine ⟨_,aN (cj (i:=3) Em.nd rfl (Or.inl rfl) (u0 (cR [.int 1000003,.int 1000033,.int 1000037,.int 1000039,.int 1000081,.int 1000099,.int 1000117,.int 1000121] rfl))) (aN (cj (i:=4) Em.nd rfl (Or.inl rfl) (bO jq (bO jq (bO uV (pv 0) aY) (bO uV (pv 1) aY)) (bO uV (bO gW (bO oH (pv 0) aY) aY) aY))) (aX (cU (bO gW (bO gW (pv 4) (fJ vg (pv 3) (bO gW (pv 1) aY) (fun _ _=>rfl))) (pv 2))))),?_⟩;refine ⟨by show 8<=sizeLine; decide,fun t ht=>?_⟩;have st:=aQ (o:=.tup (zN.map V.int)) ht;refine ⟨_,rfl,_,_,rfl,rfl,.inr ⟨by decide,by decide⟩,_,rfl,_,_,rfl,rfl,.inr ⟨by decide,by decide⟩,_,_,rfl,rfl,_,rfl,_,_,rfl,rfl,⟨by decide,by decide⟩,_,_,rfl,rfl,(by show (0:Int) < 1000003; decide),_,_,rfl,rfl,.inr ⟨by decide,by decide⟩,_,_,rfl,rfl,?_⟩;obtain ⟨pa,p0⟩:=Ml k;refine ⟨_,rfl,_,rfl,_,rfl,_,_,rfl,rfl,(by show (0:Int) < 8; decide),t,_,_,_,rfl,rfl,tY.of aC,pa,_,_,rfl,rfl,p0,_,rfl,_,_,rfl,rfl,m0,?_⟩;exact q _ st
end
abbrev zQ:cQ:=top 41
structure XC (K:Fg) (a:gR) (C:aA) (j:Nat):Prop where
 t:QK K C
 b0:kitOne K (.ref C) (.ref a.cu)=some (0 == j)
 b1:kitOne K (.ref C) (.ref a.tooMany)=some (1 == j)
 b2:kitOne K (.ref C) (.ref a.uh)=some (2 == j)
 b3:kitOne K (.ref C) (.ref a.pW)=some (3 == j)
 b4:kitOne K (.ref C) (.ref a.bM)=some (4 == j)
 b5:kitOne K (.ref C) (.ref a.jW)=some (5 == j)
 v:kitOne K (.ref C) (.type "ValueError")=some true
 m:exmOne K (.ref C) (.ref a.uG)=some true
structure En (mg:Str->Option au) (a:gR):Prop where
 is:mg "isinstance"=none
 ve:mg "ValueError"=none
 n0:mg "BadPot"=some (.ref a.cu)
 n1:mg "TooMany"=some (.ref a.tooMany)
 n2:mg "NoPot"=some (.ref a.uh)
 n3:mg "BadDay"=some (.ref a.pW)
 n4:mg "BadRow"=some (.ref a.bM)
 n5:mg "NoState"=some (.ref a.jW)
 ge:mg "GardenError"=some (.ref a.uG)
section
variable {P:bT} {w:World} {K:Fg} {mg:Str->Option au} {base:Heap} {a:gR} {dV:au}
def hot (j:Nat):List V:=[.bl (0 == j),.bl (1 == j),.bl (2 == j),.bl (3 == j),.bl (4 == j),.bl (5 == j)]
theorem GQ:bV ["_law_error","_law_found"] ["_law_error"] (aZ zQ):=d8 (by decide +kernel)
end
abbrev zR:cQ:=top 3
abbrev oY:cQ:=inClass (top 16) 2
abbrev oZ:cQ:=inClass (top 17) 2
structure Mp (K:Fg) (mg:Str->Option au) (a:gR) (dV:au):Prop where
 Z:LQ K mg a dV
 ajw:∃ f fd,Fn K "is_set" "is_set" zR ["number","bit"] f fd/\mg "is_set"=some (.ref f)
 wP:∃ f fd,Fn K "words" "Pot.words" oY ["self"] f fd/\Meth K a.pot "words" f
 wC:∃ f fd,Fn K "words" "Cactus.words" oZ ["self"] f fd/\Meth K a.cactus "words" f
section
variable {P:bT} {w:World} {K:Fg} {mg:Str->Option au} {base:Heap} {a:gR} {dV:au}
def GR:Sp:=fun vs H Q _=>∃ n b:Int,vs=[.int n,.int b]/\0<=b/\Q (.bl (Bq n b)) H
theorem RK:bV ["number","bit"] ["number","bit"] (aZ zR):=d8 (by decide +kernel)
theorem ajx {i j:Int}:decide (V.int i=V.int j)=decide (i=j):=by
 by_cases h:i=j
 ·rw [aO h,aO (by rw [h])]
 ·rw [aF h,aF (fun z=>h (by injection z))]
theorem Mq {f:aA} {fd:dN} (F:oK K "is_set" "is_set" zR f fd):cC P w K mg base (eZ P w) 1 f fd ["number","bit"] GR:=by
 refine F.pR RK (fun vs H Q E h=>?_) (fun cdv A outer s H vs Q E hr h=>?_)
 ·obtain ⟨n,b,rfl,_⟩:=h;rfl
 ·obtain ⟨n,b,rfl,b0,q⟩:=h;refine ⟨_,aX (cU (yS tZ (bO Zj (bO Zi (pv 0) (pv 1)) aY) aY (dM _))),?_⟩;refine ⟨_,rfl,_,rfl,_,_,rfl,rfl,b0,_,_,rfl,rfl,rfl,?_⟩;rw [ajx];exact q
theorem rE {n:Int} (h0:0<=n) (h:n<=100000):n.natAbs.log2 < 100:=by
 obtain ⟨k,rfl⟩:=Int.eq_ofNat_of_zero_le h0
 show ((k:Nat):Int).natAbs.log2 < 100
 rw [Int.natAbs_natCast]
 by_cases z:k=0
 ·subst z; decide
 ·rw [Nat.log2_lt z];exact Nat.lt_of_le_of_lt (show k<=100000 by omega) (by decide)
theorem nj {n:Int} (h0:0<=n) (h:n<=100000):n.natAbs.log2 < 1920:=Nat.lt_trans (rE h0 h) (by decide)
def cB.nums (p:cB):List Int:=match p.rest with
 | none=>[p.gap]
 | some r=>[p.gap,r]
def cB.ws (p:cB):List Str:=match p.rest with
 | none=>["pot",p.nm,fG p.gap]
 | some r=>["cactus",p.nm,fG p.gap,fG r]
def uO (a:gR) (C:aA):Sp:=fun vs H Q _=>∃ x p,vs=[.ref x]/\p.cls a=C/\fY a H x p/\p.Ok/\∀ H' l,Same H H'->H l=none->H' l=some (.lst (p.ws.map V.str))->Q (.ref l) H'
theorem ajy:bV ["self"] ["self"] (aZ oY):=d8 (by decide +kernel)
theorem ajz:bV ["self"] ["self"] (aZ oZ):=d8 (by decide +kernel)
theorem Ck {f:aA} {fd:dN} (F:oK K "words" "Pot.words" oY f fd) (T:lq K mg a):cC P w K mg base (eZ P w) 1 f fd ["self"] (uO a a.pot):=by
 refine F.pR ajy (fun vs H Q E h=>?_) (fun cdv A outer s H vs Q E hr h=>?_)
 ·obtain ⟨x,p,rfl,_⟩:=h;rfl
 ·obtain ⟨x,p,rfl,hc,⟨dx,hx⟩,ok,q⟩:=h;refine ⟨_,aX (cU (cX (aB bQ (aB (fP (pv 0) rfl) (aB (ni gM T.B.str boot_str (aB (fP (pv 0) rfl) aJ)) aJ))))),?_⟩;have er:p.rest=none:=by
   cases e:p.rest with
   | none=>rfl
   | some r=>rw [cB.cls,e] at hc; exact absurd hc.symm T.ne
  have ew:p.ws.map V.str=[V.str "pot",.str p.nm,.str (fG p.gap)]:=by unfold cB.ws; rw [er]; rfl
  have g:=ok.gap;rw [hc] at hx;refine ⟨_,rfl,x,a.pot,dx,_,_,rfl,hx,T.tP.cl,T.nP _ (by simp),p.pY,_,rfl,x,a.pot,dx,_,_,rfl,hx,T.tP.cl,T.nP _ (by simp),p.GC,_,rfl,nj (by omega) (by omega),by show 3<=sizeLine; decide,fun l hl=>?_⟩;exact q _ l (aQ hl) hl (by rw [aC,ew])
theorem Cm {f:aA} {fd:dN} (F:oK K "words" "Cactus.words" oZ f fd) (T:lq K mg a):cC P w K mg base (eZ P w) 1 f fd ["self"] (uO a a.cactus):=by
 refine F.pR ajz (fun vs H Q E h=>?_) (fun cdv A outer s H vs Q E hr h=>?_)
 ·obtain ⟨x,p,rfl,_⟩:=h;rfl
 ·obtain ⟨x,p,rfl,hc,⟨dx,hx⟩,ok,q⟩:=h;refine ⟨_,aX (cU (cX (aB bQ (aB (fP (pv 0) rfl) (aB (ni gM T.B.str boot_str (aB (fP (pv 0) rfl) aJ)) (aB (ni gM T.B.str boot_str (aB (fP (pv 0) rfl) aJ)) aJ)))))),?_⟩;obtain ⟨r,er⟩:∃ r,p.rest=some r:=by
   cases e:p.rest with
   | none=>rw [cB.cls,e] at hc; exact absurd hc T.ne
   | some r=>exact ⟨r,rfl⟩
  have lr:p.fs.lookup ("rest":Str)=some (.int r):=by simp only [cB.fs,er]; exact GD _ _ _
  have ew:p.ws.map V.str=[V.str "cactus",.str p.nm,.str (fG p.gap),.str (fG r)]:=by unfold cB.ws; rw [er]; rfl
  have g:=ok.gap;have gr:=ok.rest r er;rw [hc] at hx;refine ⟨_,rfl,x,a.cactus,dx,_,_,rfl,hx,T.tC.cl,T.nC _ (by simp),p.pY,_,rfl,x,a.cactus,dx,_,_,rfl,hx,T.tC.cl,T.nC _ (by simp),p.GC,_,rfl,nj (by omega) (by omega),_,rfl,x,a.cactus,dx,_,_,rfl,hx,T.tC.cl,T.nC _ (by simp),lr,_,rfl,nj (by omega) (by omega),by show 4<=sizeLine; decide,fun l hl=>?_⟩;exact q _ l (aQ hl) hl (by rw [aC,ew])
theorem Mp.words (W:Mp K mg a dV):∀ C,(C=a.pot\/C=a.cactus)->∃ f fd,Cls K C/\Meth K C "words" f/\cC P w K mg base (eZ P w) 1 f fd ["self"] (uO a C)/\Binds K fd ["self"] []:=by
 intro C h;have T:=W.Z.G.T;rcases h with rfl | rfl
 ·obtain ⟨f,fd,F,m⟩:=W.wP;exact ⟨f,fd,T.tP.cl,m,Ck F.F T,F.b⟩
 ·obtain ⟨f,fd,F,m⟩:=W.wC;exact ⟨f,fd,T.tC.cl,m,Cm F.F T,F.b⟩
end
abbrev Ji:cQ:=inClass (top 7) 0
abbrev zT:cQ:=top 31
structure Cp (K:Fg) (mg:Str->Option au) (a:gR):Prop where
 gE:mg "GardenError"=some (.ref a.uG)
 cb:aen K a.uG "ValueError.__init__"
 br:∃ f fd,Fn K "__init__" "BadRow.__init__" Ji ["self","row"] f fd/\QW K a.bM f Ef "ValueError.__new__"/\isFn K (.ref f)=true
 ea:aep K a.bM "row"
 m:mg "BadRow"=some (.ref a.bM)
section
variable {P:bT} {w:World} {K:Fg} {mg:Str->Option au} {base:Heap} {a:gR} {dV:au}
def qI (a:gR):Sp:=fun vs H Q _=>∃ e d,vs=[.ref e,.int d]/\H e=some (iB e a.bM none)/\d.natAbs.log2 < 100/\∀ dx,H dx=none->Q .non (upd (upd H dx (.xd [("row",.int d)])) e (iB e a.bM (some dx)))
theorem aeY:bV ["self","row"] ["self","row"] (aZ Ji):=d8 (by decide +kernel)
theorem zU {f:aA} {fd:dN} (F:oK K "__init__" "BadRow.__init__" Ji f fd) (X:Cp K mg a):mJ P w K mg base (eZ P w) 1 f fd ["self","row"] (qI a):=by
 refine F.okH aeY (fun vs H Q E h=>?_) (fun cdv A outer s H vs Q E hr h=>?_)
 ·obtain ⟨e,d,rfl,_⟩:=h;rfl
 ·obtain ⟨e,d,rfl,he,ld,q⟩:=h;obtain ⟨f',fd',_,q',_⟩:=X.br;refine ⟨_,aN (jf (KN X.gE X.cb q' PySem.F.excBase_ValueError (aB (pv 0) (aB (Q5 (pv 1)) aJ)))) (aX (ZR (pv 0) (pv 1) rfl)),?_⟩;refine ⟨_,rfl,_,rfl,d,rfl,ld,fun z=>⟨e,_,none,rfl,he,?_⟩⟩;exact ⟨_,rfl,_,rfl,e,_,rfl,he,X.ea,fun dx hdx=>q dx hdx⟩
theorem Eo {f:aA} {fd:dN} (F:oK K "__init__" "BadRow.__init__" Ji f fd) (X:Cp K mg a):cC P w K mg base (eZ P w) 1 f fd ["self","row"] (qI a):=(zU F X).fn
theorem GX {H:Hp} {e dx C:aA} {o:HO} (he:H e=none) (hdx:upd H e (iB e C none) dx=none):Same H (del (upd (upd (upd H e (iB e C none)) dx o) e (iB e C (some dx))) e)/\del (upd (upd (upd H e (iB e C none)) dx o) e (iB e C (some dx))) e dx=some o:=by
 have ne:dx≠e:=fun z=>by rw [z,aC] at hdx; cases hdx
 have h0:H dx=none:=by rw [bx ne] at hdx; exact hdx
 refine ⟨fun b u hb=>?_,?_⟩
 ·have be:b≠e:=cZ hb he;have bd:b≠dx:=cZ hb h0;rw [m7 be,bx be,bx bd,bx be];exact hb
 ·rw [m7 ne,bx ne,aC]
theorem jx {H:Hp} {E:XK} {d:Int} (ld:d.natAbs.log2 < 100) (q:∀ H' dx,Same H H'->H' dx=some (.xd [("row",.int d)])->E (.ref a.bM) (some dx) H') : 1<=sizeLine/\∀ e,H e=none->qI a [.ref e,.int d] (upd H e (iB e a.bM none)) (fun v H2=>v=.non/\∃ dx,H2 e=some (iB e a.bM dx)/\E (.ref a.bM) dx (del H2 e)) fun _ _ _=>False:=by
 refine ⟨by decide,fun e he=>⟨e,d,rfl,aC,ld,fun dx hdx=>⟨rfl,some dx,aC,?_⟩⟩⟩;have z:=GX (o:=.xd [("row",.int d)]) he hdx;exact q _ dx z.1 z.2
def vY (c:Nat):Bool:=!decide ([c] < [48]) && !decide ([57] < [c])
theorem Ep (c:Nat):vY c=decide (48<=c/\c<=57):=by
 have e1:decide ([c] < [48])=decide (c < 48):=decide_eq_decide.mpr (show ([c] < [48]) ↔ c < 48 by rw [cons_lt_cons_iff]; simp);have e2:decide ([57] < [c])=decide (57 < c):=decide_eq_decide.mpr (show ([57] < [c]) ↔ 57 < c by rw [cons_lt_cons_iff]; simp);unfold vY;rw [e1,e2]
 by_cases h1:c < 48 <;> by_cases h2:57 < c <;> simp [h1,h2] <;> omega
theorem Mr (a:Array Nat):((List.range a.size).map fun i=>vY (a.getD i 0)).all id=a.toList.all vY:=by
 have e:a.toList=(List.range a.size).map fun i=>a.getD i 0:=by
  apply ext_getElem?;intro i
  by_cases h:i < a.size
  ·simp [h]
  ·simp [h]
 rw [e,all_map,all_map];rfl
theorem aan {l:Ln} (ne:l≠[]):gw l=none ↔ (2 < l.length\/l.all vY=false)\/(l.length=2/\l[0]?=some 48):=by
 match l,ne with
 | [],ne=>exact absurd rfl ne
 | [c],_ =>
  show (if 48<=c/\c<=57 then some (c - 48) else none)=none ↔ _
  have:=Ep c
  by_cases h:48<=c/\c<=57
  ·rw [aO h] at this;rw [if_pos h];simp [this]
  ·rw [aF h] at this;rw [if_neg h];simp [this]
 | [c,d],_ =>
  show (if (48 < c/\c<=57)/\(48<=d/\d<=57) then some ((c - 48) * 10 + (d - 48)) else none)=none ↔ _
  have h1:=Ep c;have h2:=Ep d
  by_cases h:(48 < c/\c<=57)/\(48<=d/\d<=57)
  ·rw [if_pos h];rw [aO (by omega)] at h1;rw [aO (by omega)] at h2;simp [h1,h2];omega
  ·rw [if_neg h];refine ⟨fun _=>?_,fun _=>rfl⟩
   by_cases hc:48<=c/\c<=57
   ·by_cases hd:48<=d/\d<=57
    ·right
     have:c=48:=by omega
     simp [this]
    ·rw [aF hd] at h2;simp [h2]
   ·rw [aF hc] at h1;simp [h1]
 | _::_::_::_,_=>simp [gw]
def ur (a:gR) (H:Hp) (E:XK) (n:Int):Prop:=∀ H' dx,Same H H'->H' dx=some (.xd [("row",.int n)])->E (.ref a.bM) (some dx) H'
theorem ur.from {H H1:Hp} {E:XK} {n:Int} (h:ur a H E n) (s:Same H H1):ur a H1 E n:=fun H' dx s'=>h H' dx (s.trans s')
def zV (a:gR):Sp:=fun vs H Q E=>∃ x n,vs=[.str x,.int n]/\x.length<=sizeLine/\Lo x≠[]/\n.natAbs.log2 < 100/\(gw (Lo x)=none->ur a H E n)/\∀ k H',gw (Lo x)=some k->Same H H'->Q (.int (k:Nat)) H'
theorem RL:bV ["word","row"] ["word","row"] (aZ zT):=d8 (by decide +kernel)
theorem Cq {f:aA} {fd:dN} (F:oK K "number_in" "number_in" zT f fd) (B:T4 mg) (X:Cp K mg a):cC P w K mg base (eZ P w) 3 f fd ["word","row"] (zV a):=by
 refine F.pR RL (fun vs H Q E h=>?_) (fun cdv A outer s H vs Q E hr h=>?_)
 ·obtain ⟨x,n,rfl,_⟩:=h;rfl
 ·obtain ⟨x,n,rfl,hz,ne,ln,bad,good⟩:=h;obtain ⟨fi,di,iF,xi,Jj⟩:=X.br;have Er:cC P w K mg base (eZ P w) 1 fi di ["self","row"] (qI a):=Eo iF.F X;refine ⟨_,aN (eY (pw_or (dj Tn (fK lN B.len PySem.boot_len (aB (pv 0) aJ)) aY (dM _)) (pw_or1 (fM (fU (fK (qZ rfl) B.all boot_all (aB (gG bK rfl ⟨_,_,rfl,rfl,rfl⟩ (eU.plain (N':=["sign"]) rfl (by decide +kernel) (by decide +kernel)) (DN (pv 0)) (fun _ _ _ _ _=>fj 0 (show [("sign":Str)].Nodup by decide +kernel)) (fun _ _ _ _ _=>gj) (fun _ _ _ _ _ _=>uW oN oN bQ (pv 0) bQ)) aJ)))))).pt (aX (iJ bK rfl (by rfl) X.m xi Jj PySem.F.excBase_ValueError Er hr iF.b (aB (pv 1) aJ))) cW) (aN (eY (pw_and (dj tZ (fK lN B.len PySem.boot_len (aB (pv 0) aJ)) aY (dM _)) (pw_and1 (dj tZ (fJ JZ (pv 0) aY (fun _ _=>rfl)) bQ (dM _)))).pt (aX (iJ bK rfl (by rfl) X.m xi Jj PySem.F.excBase_ValueError Er hr iF.b (aB (pv 1) aJ))) cW) (aX (cU (ni IW B.int boot_int (aB (pv 0) aJ))))),?_⟩;have lo:(Lo x).length=x.length:=Array.length_toList;have nn:=aan ne;have z0:(Str.ofString "0":Str)=⟨#[48]⟩:=by decide +kernel
  refine ⟨_,rfl,x,rfl,hz,_,_,rfl,rfl,_,rfl,?_⟩
  by_cases h1:2 < x.length
  ·rw [aO (show (2:Int) < (x.length:Int) by omega)];exact c7 (c7 ⟨_,rfl,jx ln (bad (nn.mpr (.inl (.inl (by omega)))))⟩)
  rw [aF (show ¬ (2:Int) < (x.length:Int) by omega)];refine dI ⟨_,rfl,x,rfl,fun D hD=>?_⟩;have hD1:Same H (upd H D (.lst ((List.range x.cps.size).map fun i=>V.bl (vY (x.cps.getD i 0))))):=aQ hD;refine zq x.cps.size hz (fun i=>.bl (vY (x.cps.getD i 0))) (fun i H'=>H'=upd H D (.lst ((List.range i).map fun i=>V.bl (vY (x.cps.getD i 0))))) rfl (fun i H' _ e=>by rw [e,aC]) (fun H' e=>⟨rfl,?_⟩) (fun i H' lt e=>⟨lt,?_⟩)
  ·subst e;refine ⟨D,(List.range x.cps.size).map fun i=>vY (x.cps.getD i 0),rfl,cY.of (by rw [aC,cM]; rfl),_,rfl,?_⟩;rw [Mr];cases ha:x.cps.toList.all vY with
   | false=>exact c7 ⟨_,rfl,jx ln ((bad (nn.mpr (.inl (.inr ha)))).from hD1)⟩
   | true =>
    refine dI ⟨_,rfl,x,rfl,hz,rfl,_,rfl,?_⟩;have fin:¬ (x.length=2/\(Lo x)[0]?=some 48)->∀ H',Same H H'->(∃ x' n,[V.str x]=[V.str x']/\intText? x'=some n/\x'.length<=640/\Q (V.int n) H'):=fun no H' s'=>by
     cases en:gw (Lo x) with
     | none =>
      rcases nn.mp en with (h | h) | h
      ·omega
      ·rw [ha] at h; cases h
      ·exact absurd ⟨by omega,h.2⟩ no
     | some k =>
      obtain ⟨e1,e2,e3⟩:=Ro en;exact ⟨x,_,rfl,e1,by omega,good k H' en s'⟩
    by_cases h2:x.length=2
    ·rw [h2];obtain ⟨c,hc⟩:∃ c,x.cps[0]?=some c:=⟨x.cps[0]'(by show 0 < x.length; omega),Array.getElem?_eq_getElem _⟩;refine c7 ⟨_,rfl,x,0,c,rfl,rfl,hz,dR (j:=0) (by simpa using hc),rfl,_,rfl,?_⟩;rw [z0]
     by_cases h3:c=48
     ·subst h3;rw [aO rfl];exact c7 ⟨_,rfl,jx ln ((bad (nn.mpr (.inr ⟨by omega,by simpa using hc⟩))).from hD1)⟩
     ·rw [aF (fun z=>h3 (by injection z with z; injection z with z; simpa using z))];exact dI ⟨_,rfl,fin (fun z=>h3 (by have:=z.2; simp at this; rw [this] at hc; simpa using hc.symm)) _ hD1⟩
    ·rw [aF (fun z=>h2 (by injection z with z; omega))];exact dI (dI ⟨_,rfl,fin (fun z=>h2 z.1) _ hD1⟩)
  ·rintro v za ⟨rfl,c,hc,rfl⟩ Qc k;subst e;refine ⟨eO,_,rfl,_,_,rfl,rfl,_,rfl,?_⟩;have k':=k _ aC (by rw [lJ]);have ec:x.cps.getD i 0=c:=by simp [hc]
   have el:vY c=(!decide ([c] < [48]) && !decide ([57] < [c])):=rfl;rw [ec,el] at k'
   change if (!decide ([c] < [48]))=true then _ else _
   cases h3:!decide ([c] < [48]) with
   | false =>
    rw [h3] at k';exact dI k'
   | true =>
    rw [h3] at k';exact c7 ⟨_,_,rfl,rfl,k'⟩
end
abbrev nq:cQ:=top 34
abbrev qJ:cQ:=top 35
def gA (x:Str):List Str:=(Txt.split x ⟨#[32]⟩).filter fun z=>!decide (V.str z=V.str "")
theorem jj:(Str.ofString " ":Str)=⟨#[32]⟩:=by decide +kernel
theorem jy:(Str.ofString "\n":Str)=⟨#[10]⟩:=by decide +kernel
theorem Ms:(Str.ofString "#":Str)=⟨#[35]⟩:=by decide +kernel
theorem RM:(Str.ofString "":Str)=⟨#[]⟩:=by decide +kernel
theorem yE (z:Str):decide (V.str z=V.str "")=(Lo z).isEmpty:=by
 obtain ⟨a⟩:=z;rw [show (Str.ofString "":Str)=⟨#[]⟩ from RM]
 by_cases h:a=#[]
 ·subst h;rfl
 ·rw [aF (fun y=>h (by injection y with y; injection y))];cases e:a.toList with
  | nil=>exact absurd (Array.toList_eq_nil_iff.mp e) h
  | cons _ _=>rw [show Lo ⟨a⟩=a.toList from rfl,e]; rfl
theorem vZ (x:Str):(gA x).map Lo=cD (Lo x):=by
 unfold gA cD;rw [<- yt,List.filter_map]
 congr 1
 apply List.filter_congr;intro z _;rw [yE];rfl
theorem rG {H:Hp}:∀ gs:List Str,Paired (w6 H) (gs.map V.str) gs
 | []=>.nil
 | _::gs=>.cons rfl (rG gs)
theorem nu {H:Hp}:∀ {vs:List V} {bs:List Str},Paired (w6 H) vs bs->vs=bs.map V.str
 | [],[],_=>rfl
 | _::_,_::_,.cons h t=>by rw [nu t,bw]; cases h; rfl
abbrev NR:=Nat × List Str
def v7:List Ln->Bool
 | (c::_)::_=>decide (c=35)
 | _=>false
def d9 (ws:List Ln):Bool:=!ws.isEmpty && !v7 ws
def allR (lines:List Str):List NR:=lines.zipIdx.map fun q=>(q.2 + 1,gA q.1)
def qK (lines:List Str):List NR:=(allR lines).filter fun c=>d9 (c.2.map Lo)
theorem Cr (z:Str):Txt.startswith z ⟨#[35]⟩=v7 [Lo z]:=by
 obtain ⟨a⟩:=z;have e:a=a.toList.toArray:=by simp
 rw [e];cases a.toList with
 | nil=>rfl
 | cons c l =>
  by_cases h:c=35
  ·subst h;simp [Txt.startswith,Builtin.Str.subAt,v7,Str.length]
  ·simp [Txt.startswith,Builtin.Str.subAt,v7,Str.length,h]
section
variable {P:bT} {w:World} {K:Fg} {mg:Str->Option au} {base:Heap} {a:gR} {dV:au}
def yF:Sp:=fun vs H Q _=>∃ x,vs=[.str x]/\x.length + 2<=sizeLine/\∀ H' l,Same H H'->H l=none->H' l=some (.lst ((gA x).map V.str))->Q (.ref l) H'
theorem Jk:bV ["line"] ["line"] (aZ nq):=d8 (by decide +kernel)
theorem Es {f:aA} {fd:dN} (F:oK K "words_in" "words_in" nq f fd):cC P w K mg base (eZ P w) 1 f fd ["line"] yF:=by
 refine F.pR Jk (fun vs H Q E h=>?_) (fun cdv A outer s H vs Q E hr h=>?_)
 ·obtain ⟨x,rfl,_⟩:=h;rfl
 ·obtain ⟨x,rfl,hz,q⟩:=h;refine ⟨_,aX (cU (gG bK rfl ⟨_,_,rfl,rfl,rfl⟩ (eU.plain (N':=["word"]) rfl (by decide +kernel) (by decide +kernel)) (eX (jd PySem.F.plainAttrs_str PySem.F.slot_str_split PySem.F.type_str_split Bu (pv 0) (aB bQ aJ))) (fun _ _ _ _ _=>fj 0 (show [("word":Str)].Nodup by decide +kernel)) (fun _ _ _ _ _=>uJ (dj m5 (pv 0) bQ (dM _))) (fun _ _ _ _ _ _=>pv 0))),?_⟩;have l1:=split_le x ⟨#[32]⟩;refine ⟨_,rfl,rfl,x,_,rfl,rfl,rfl,hz,fun p hp=>?_⟩;rw [show (Str.ofString " ":Str)=⟨#[32]⟩ from jj];have s1:=aQ (o:=.lst ((Txt.split x ⟨#[32]⟩).map V.str)) hp;refine ⟨p,rfl,⟨_,cY.of aC⟩,fun D hD=>?_⟩;have rl:jO w6 (upd H p (.lst ((Txt.split x ⟨#[32]⟩).map V.str))) (.ref p) (Txt.split x ⟨#[32]⟩):=⟨p,_,rfl,aC,rG _⟩;refine vH jh jh (fun z=>!decide (V.str z=V.str "")) (fun z=>z) rl (by omega) hD ?_ ?_
  ·intro j z v5 H5 hj rv s5 Qc Qn k kn;cases rv;refine ⟨eO,_,rfl,rfl,_,rfl,?_⟩;cases e:!decide (V.str z=V.str "") with
   | true=>exact c7 ⟨_,rfl,k e _ _ (Same.refl _) rfl⟩
   | false=>exact dI (kn e _ (Same.refl _))
  ·intro H5 s5 r5;obtain ⟨D',rvs,eD,hr5,p5⟩:=r5;cases eD;have e5:=nu p5;rw [map_id' _] at e5;subst e5;have fD:H D=none:=by
    cases e:H D with
    | none=>rfl
    | some o=>rw [s1 _ _ e] at hD; cases hD
   exact q H5 D (s1.trans s5) fD hr5
theorem Cu {r:St} {x y:Option V}:mF (none::none::r) (((none::none::r).set 0 x).set 1 y):=by
 intro j v h
 match j,h with
 | 0,h=>simp at h
 | 1,h=>simp at h
 | j + 2,h=>exact h
def Mt:Rep NR:=fun H v c=>∃ t l,v=.ref t/\H t=some (.tup [.int ((c.1:Nat):Int),.ref l])/\H l=some (.lst (c.2.map V.str))
def pG (D:aA):Rep NR:=fun H v c=>∃ t l,v=.ref t/\t≠D/\l≠D/\H t=some (.tup [.int ((c.1:Nat):Int),.ref l])/\H l=some (.lst (c.2.map V.str))
theorem Mt.same {H H':Hp} {v:V} {c:NR} (h:Mt H v c) (s:Same H H'):Mt H' v c:=by
 obtain ⟨t,l,e,h1,h2⟩:=h;exact ⟨t,l,e,s _ _ h1,s _ _ h2⟩
theorem pG.same {D:aA} {H H':Hp} {v:V} {c:NR} (h:pG D H v c) (s:Same H H'):pG D H' v c:=by
 obtain ⟨t,l,e,n1,n2,h1,h2⟩:=h;exact ⟨t,l,e,n1,n2,s _ _ h1,s _ _ h2⟩
theorem pG.upd {D:aA} {H:Hp} {v:V} {c:NR} {o:HO} (h:pG D H v c):pG D (L2.upd H D o) v c:=by
 obtain ⟨t,l,e,n1,n2,h1,h2⟩:=h;exact ⟨t,l,e,n1,n2,by rw [bx n1]; exact h1,by rw [bx n2]; exact h2⟩
theorem pG.to {D:aA} {H:Hp} {v:V} {c:NR} (h:pG D H v c):Mt H v c:=by
 obtain ⟨t,l,e,n1,n2,h1,h2⟩:=h;exact ⟨t,l,e,h1,h2⟩
def yG:Sp:=fun vs H Q _=>∃ p lines,vs=[.ref p]/\H p=some (.lst (lines.map V.str))/\lines.length<=1000/\(∀ x ∈ lines,x.length<=100000)/\∀ H' q,Same H H'->jO Mt H' (.ref q) (qK lines)->Q (.ref q) H'
theorem yH:bV ["lines","rows"] ["lines"] (aZ qJ):=d8 (by decide +kernel)
theorem Et {f fw:aA} {fd dw:dN} (F:oK K "numbered_rows" "numbered_rows" qJ f fd) (en:mg "enumerate"=none) (wF:Fn K "words_in" "words_in" nq ["line"] fw dw) (mW:mg "words_in"=some (.ref fw)):cC P w K mg base (eZ P w) 2 f fd ["lines"] yG:=by
 refine F.pR yH (fun vs H Q E h=>?_) (fun cdv A outer s H vs Q E hr h=>?_)
 ·obtain ⟨p,lines,rfl,_⟩:=h;rfl
 ·obtain ⟨p,lines,rfl,hp,ln,lx,q⟩:=h;have okw:cC P w K mg base (eZ P w) 1 fw dw ["line"] yF:=Es wF.F;have kW:=wF.F.kp;have bW:=wF.b;have nd2:[("row":Str),"line"].Nodup:=by decide +kernel
  have ae0:[("row":Str),"words"].Nodup:=by decide +kernel
  refine ⟨_,aN (qy (i:=1) yH.nd rfl (Or.inl rfl) bK rfl ⟨_,_,rfl,rfl,rfl⟩ (eU.plain (N':=["row","line"]) rfl (by decide +kernel) (by decide +kernel)) (K4 (by rfl) en (aB (pv 0) aJ) aY) (fun _ _ _ _ _=>TV K (n:=2) rfl (kj (fj 0 nd2) (kj (fj 1 nd2) yR))) (fun _ _ _ _ _=>gj) (fun _ _ _ _ _ _=>u0 (aB (pv 0) (aB (dH okw hr mW kW bW cg (aB (pv 1) aJ)) aJ)))) (aX (cU (gG bK rfl ⟨_,_,rfl,rfl,rfl⟩ (eU.plain (N':=["row","words"]) rfl (by decide +kernel) (by decide +kernel)) (eX (pv 1)) (fun _ _ _ _ _=>TV K (n:=2) rfl (kj (fj 0 ae0) (kj (fj 1 ae0) yR))) (fun _ _ _ _ _=>uJ (PW.pt (pw_and (Ja K (pv 1) (fun _=>rfl)) (pw_and1 (fM (fU (zA K PySem.F.plainAttrs_str PySem.F.slot_str_startswith PySem.F.type_str_startswith yh (fJ (iV K) (pv 1) aY (fun _ _=>rfl)) (aB bQ aJ)))))))) (fun _ _ _ _ _ _=>u0 (aB (pv 0) (aB (pv 1) aJ)))))),?_⟩;have big:1000000<=sizeLine:=by decide
  refine ⟨_,rfl,p,_,1,rfl,rfl,(by decide),cY.of hp,fun D hD=>?_⟩;obtain ⟨go,stop,yl⟩:=Rf (K:=K) (R:=w6) (fun h s=>jh.same h s) (H:=H) (l:=p) (f:=1) (xs:=lines) ⟨p,_,rfl,hp,rG lines⟩;have ll:lines.zipIdx.length=lines.length:=List.length_zipIdx;refine rm (R:=fun H2 v q=>∃ T,v=.ref T/\H2 T=some (.tup [.int ((q.2 + 1:Nat):Int),.str q.1])) (S:=pG D) pG.same pG.upd (xs:=lines.zipIdx) (fun _=>true) (fun q=>(q.2 + 1,gA q.1)) (fun _=>True) (by omega) hD (fun i H' lt s'=>go i H' (by omega) s') (fun H' s'=>by rw [ll]; exact stop H' s') ?_ ?_ ?_
  ·intro i q v H' H2 hq s' hy;rw [List.getElem?_zipIdx] at hq;obtain ⟨z,hz,rfl⟩:=bB.mp hq;obtain ⟨s2,T,u,e1,e2,e3⟩:=yl i z v H' H2 hz s' hy;cases e3;exact ⟨s2,T,e1,by rw [e2,Nat.add_comm 1 i]; simp⟩
  ·rintro i ⟨z,j⟩ v H2 hq ⟨T,rfl,hT⟩ s2 ⟨acc,hacc⟩ Qc Qn k kn;have zm:z ∈ lines:=by
    rw [List.getElem?_zipIdx] at hq;obtain ⟨z',hz,e⟩:=bB.mp hq;cases e;exact aV hz
   have lz:=lx z zm;refine ⟨T,_,rfl,tY.of hT,rfl,_,_,rfl,_,_,rfl,rfl,Cu,?_⟩
   show if true=true then _ else Qn H2
   rw [if_pos rfl];refine ⟨_,rfl,_,rfl,z,rfl,by omega,fun H3 l s3 fl hl=>⟨by show 2<=sizeLine; decide,fun t ht=>?_⟩⟩;have w3:=aQ (o:=.tup [V.int ((j + 1:Nat):Int),.ref l]) ht;have nl:l≠D:=fun y=>by rw [y,hacc] at fl; cases fl
   have nt:t≠D:=fun y=>by rw [y,s3 _ _ hacc] at ht; cases ht
   exact k rfl trivial _ _ (s3.trans w3) ⟨t,l,rfl,nt,nl,aC,w3 _ _ hl⟩
  intro H1 s1 _ r1;rw [filter_eq_self.mpr fun _ _=>rfl] at r1;obtain ⟨_,vs1,e1,hv1,p1⟩:=r1;cases e1;have r1':jO (fun _ v c=>Mt H1 v c) H1 (.ref D) (allR lines):=⟨D,vs1,rfl,hv1,Paired.mX p1 fun _ _ z=>pG.to z⟩;have la:(allR lines).length=lines.length:=by unfold allR; rw [aq,ll]
  refine ⟨_,rfl,D,rfl,⟨_,cY.of hv1⟩,fun D2 hD2=>?_⟩;obtain ⟨go,stop,yl⟩:=qC (K:=K) (R:=fun _ v c=>Mt H1 v c) (fun h _=>h) r1';refine rm (R:=fun _ v c=>Mt H1 v c) (S:=pG D2) pG.same pG.upd (xs:=allR lines) (fun c=>d9 (c.2.map Lo)) (fun c=>c) (fun _=>True) (by omega) hD2 go stop yl ?_ ?_
  ·rintro i ⟨n,ws⟩ v H2 hq ⟨t,l,rfl,ht,hl⟩ s2 ⟨acc,hacc⟩ Qc Qn k kn;have nl:l≠D2:=fun y=>by rw [y,hD2] at hl; cases hl
   have hl2:=s2 _ _ hl;refine ⟨t,_,rfl,tY.of (s2 _ _ ht),rfl,_,_,rfl,_,_,rfl,rfl,Cu,_,rfl,!(ws.map V.str).isEmpty,.inl ⟨_,cY.of hl2,rfl⟩,?_⟩;cases ws with
   | nil=>exact dI (dI (kn rfl _ (Same.refl _)))
   | cons z zs =>
    refine c7 ⟨_,rfl,l,_,0,.str z,rfl,rfl,cY.of hl2,dR (j:=0) rfl,rfl,z,_,rfl,rfl,_,rfl,?_⟩;rw [show (Str.ofString "#":Str)=⟨#[35]⟩ from Ms,Cr];have eg:d9 ((n,z::zs).2.map Lo)=!v7 [Lo z]:=by
     show (!false && !v7 (Lo z::zs.map Lo))=_
     cases Lo z <;> rfl
    cases eh:v7 [Lo z] with
    | true =>
     rw [eh] at eg;exact dI (kn eg _ (Same.refl _))
    | false =>
     rw [eh] at eg;refine c7 ⟨_,rfl,_,rfl,by show 2<=sizeLine; decide,fun t2 ht2=>?_⟩;have w2:=aQ (o:=.tup [V.int ((n:Nat):Int),.ref l]) ht2;have nt:t2≠D2:=fun y=>by rw [y,hacc] at ht2; cases ht2
     exact k eg trivial _ _ w2 ⟨t2,l,rfl,nt,nl,aC,w2 _ _ hl2⟩
  ·intro H2 s2 _ r2;rw [map_id' _] at r2;obtain ⟨_,vs2,e2,hv2,p2⟩:=r2;cases e2;exact q H2 D2 (s1.trans s2) ⟨D2,vs2,rfl,hv2,Paired.mX p2 fun _ _ z=>pG.to z⟩
end
abbrev o7:cQ:=top 32
abbrev Mu:List Str:=["words","row","numbers","week","closed"]
structure Mv (K:Fg) (mg:Str->Option au) (a:gR):Prop where
 B:T4 mg
 R:Cp K mg a
 sum:mg "sum"=none
 sorted:mg "sorted"=none
 num:∃ f fd,Fn K "number_in" "number_in" zT ["word","row"] f fd/\mg "number_in"=some (.ref f)
theorem Mw:(Str.ofString "garden":Str)=⟨#[103,97,114,100,101,110]⟩:=by decide +kernel
theorem zW (z:Str) (l:Ln):decide (V.str z=V.str ⟨l.toArray⟩)=decide (Lo z=l):=by
 obtain ⟨a⟩:=z;apply decide_eq_decide.mpr;constructor
 ·intro h;injection h with h;injection h with h
  show a.toList=l
  rw [h]
 ·intro h;have:a=l.toArray:=by rw [<- h]
  rw [this]
theorem lA {xs:List V} (n:Nat):pB xs (some (n:Int)) none=xs.drop n:=by
 unfold pB;rw [HT.Gi,HT.JX];rcases Nat.le_total n xs.length with z | z
 ·rw [Nat.min_eq_left z];exact List.take_of_length_le (by rw [length_drop]; exact aH _)
 ·rw [Nat.min_eq_right z,List.drop_of_length_le (aH _),List.drop_of_length_le z,take_nil]
theorem nH {H:Hp}:∀ {vs:List V} {ds:List Int},Paired (Im H) vs ds->vs=ds.map V.int
 | _,_,.nil=>rfl
 | _,_,.cons h r=>by rw [bw,<- nH r]; cases h; rfl
theorem yI {H:Hp}:∀ ds:List Int,Paired (Im H) (ds.map V.int) ds
 | []=>.nil
 | _::ds=>.cons rfl (yI ds)
theorem Cv:∀ cl:List Nat,((cl.map fun k:Nat=>(k:Int)).map fun d=>1 * 2 ^ d.toNat).sum=((je cl:Nat):Int)
 | []=>rfl
 | d::cl=>by
  have ih:=Cv cl;unfold je at ih ⊢;simp only [bw,List.sum_cons,cA,Int.one_mul] at ih ⊢;rw [ih,Int.natCast_add,Int.natCast_pow];rfl
def RBl:Rep Bool:=fun _ v b=>v=.bl b
theorem aao:QT RBl:=⟨fun h _=>h,fun h _=>h⟩
theorem GZ {H:Hp}:∀ {vs:List V} {bs:List Bool},Paired (RBl H) vs bs->vs=bs.map V.bl
 | _,_,.nil=>rfl
 | _,_,.cons h r=>by rw [bw,<- GZ r]; cases h; rfl
section
variable {P:bT} {w:World} {K:Fg} {mg:Str->Option au} {base:Heap} {a:gR} {dV:au}
noncomputable def Cw (a:gR):Sp:=fun vs H Q E=>∃ l ws n,vs=[.ref l,.int n]/\H l=some (.lst (ws.map V.str))/\ws≠[]/\ws.length<=60/\(∀ x ∈ ws,Lo x≠[]/\x.length<=100000)/\n.natAbs.log2 < 100/\(jw (ws.map Lo)=none->ur a H E n) /\ ∀ c k cl H' t,jw (ws.map Lo)=some (c,k,cl)->Same H H'->H' t=some (.tup [.int (c:Nat),.int (k:Nat),.int (je cl:Nat)])->Q (.ref t) H'
theorem qL:bV Mu ["words","row"] (aZ o7):=d8 (by decide +kernel)
theorem Jl {f:aA} {fd:dN} (F:oK K "head_in" "head_in" o7 f fd) (T:Mv K mg a):cC P w K mg base (eZ P w) 4 f fd ["words","row"] (Cw a):=by
 refine F.pR qL (fun vs H Q E h=>?_) (fun cdv A outer s H vs Q E hr h=>?_)
 ·obtain ⟨l,ws,n,rfl,_⟩:=h;rfl
 ·obtain ⟨l,ws,n,rfl,hl,ne,l60,wk,ln,bad,good⟩:=h;have B:=T.B;have X:=T.R;obtain ⟨fi,di,iF,xi,Jj⟩:=X.br;obtain ⟨fn,dn,nF,mN⟩:=T.num;have Er:cC P w K mg base (eZ P w) 1 fi di ["self","row"] (qI a):=Eo iF.F X;have okn:cC P w K mg base (eZ P w) 3 fn dn ["word","row"] (zV a):=Cq nF.F B X;have kN:=nF.F.kp;have bN:=nF.b;have hr1:d7 2 _:=hr.mono (by decide);have ndW:[("word":Str),"row"].Nodup:=by decide +kernel
  have ndD:[("day":Str),"week"].Nodup:=by decide +kernel
  refine ⟨_,aN (qy (i:=2) qL.nd rfl (Or.inl rfl) bK rfl ⟨_,_,rfl,rfl,rfl⟩ (oO (N':=["word","row"]) (cl:=[("row",s.heap.objs.size + 1)]) [none,some 1] Mu (aZ o7).names [(".0",.local),("word",.local),("number_in",.globalImplicit),("row",.cell)] ["row"] rfl (by decide +kernel) (by decide +kernel) rfl (fun p hp=>by rw [aL.mp hp]; rfl) rfl rfl rfl rfl (by decide +kernel) rfl (by decide +kernel)) (eX (iT jT (pv 0) (jR aY) jQ)) (fun _ _ _ _ _=>fj 0 ndW) (fun _ _ _ _ _=>gj) (fun _ _ _ _ _ acc=>dH okn hr mN kN bN (dU acc) (aB (pv 0) (aB (pv 1) aJ)))) (aN (eY (pw_or (dj m5 (fJ jg (pv 0) aY (fun _ _=>rfl)) bQ (dM _)) (pw_or1 (dj JM (fK eN B.len PySem.boot_len (aB (pv 2) aJ)) aY (dM _)))).pt (aX (iJ bK rfl (by rfl) X.m xi Jj PySem.F.excBase_ValueError Er hr1 iF.b (aB (pv 1) aJ))) cW) (aN (cj (i:=3) qL.nd rfl (Or.inr rfl) (fJ jg (pv 2) aY (fun _ _=>rfl))) (aN (cj (i:=4) qL.nd rfl (Or.inl rfl) (iT jT (pv 2) (jR aY) jQ)) (aN (eY (pw_or (dj (Kr hr.units) (pv 4) (fK (Ea rfl) T.sorted PyProof.Rows.boot_sorted (aB (ni (Jd rfl) B.set boot_set (aB (pv 4) aJ)) aJ)) (dM _)) (pw_or1 (fM (fU (fK (qZ rfl) B.all boot_all (aB (gG bK rfl ⟨_,_,rfl,rfl,rfl⟩ (oO (N':=["day","week"]) (cl:=[("week",s.heap.objs.size + 2)]) [none,some 3] Mu (aZ o7).names [(".0",.local),("day",.local),("week",.cell)] ["week"] rfl (by decide +kernel) (by decide +kernel) rfl (fun p hp=>by rw [aL.mp hp]; rfl) rfl rfl rfl rfl (by decide +kernel) rfl (by decide +kernel)) (eX (pv 4)) (fun _ _ _ _ _=>fj 0 ndD) (fun _ _ _ _ _=>gj) (fun _ _ _ _ _ _=>yS JM (pv 0) (pv 1) (dM _))) aJ)))))).pt (aX (iJ bK rfl (by rfl) X.m xi Jj PySem.F.excBase_ValueError Er hr1 iF.b (aB (pv 1) aJ))) cW) (aX (cU (u0 (aB (fJ jg (pv 2) aY (fun _ _=>rfl)) (aB (pv 3) (aB (fK (Ir rfl) T.sum boot_sum (aB (gG bK rfl ⟨_,_,rfl,rfl,rfl⟩ (eU.plain (N':=["day"]) rfl (by decide +kernel) (by decide +kernel)) (eX (pv 4)) (fun _ _ _ _ _=>fj 0 (show [("day":Str)].Nodup by decide +kernel)) (fun _ _ _ _ _=>gj) (fun _ _ _ _ _ _=>bO JH aY (pv 0))) aJ)) aJ)))))))))),?_⟩
  match ws,ne,hl,l60,wk,bad,good with
  | [],ne,_,_,_,_,_=>exact absurd rfl ne
  | w0::wt,ne,hl,l60,wk,bad,good=>?_
  rw [length_cons] at l60;have big:1000<=sizeLine:=by decide
  refine ⟨_,rfl,1,rfl,l,_,rfl,cY.of hl,fun p hp=>?_⟩;rw [show pB ((w0::wt).map V.str) (some 1) none=wt.map V.str from lA 1];have s0:=aQ (o:=.lst (wt.map V.str)) hp;have hp0:upd H p (.lst (wt.map V.str)) p=some (.lst (wt.map V.str)):=aC;generalize upd H p (.lst (wt.map V.str))=H0 at s0 hp0 ⊢;refine ⟨p,rfl,⟨_,cY.of hp0⟩,fun D hD=>?_⟩;obtain ⟨go,stop,yl⟩:=qC (K:=K) (R:=w6) (fun h s=>jh.same h s) (H:=H0) (l:=p) (xs:=wt) ⟨p,_,rfl,hp0,rG wt⟩;refine oU (R:=w6) lU (xs:=wt) (fun _=>true) (fun x=>(((gw (Lo x)).getD 0:Nat):Int)) (fun x=>gw (Lo x)≠none) (by omega) hD go stop yl ?_ ?_
  ·intro i x v H2 hx rv s2 Qc Qn k kn;cases rv;have mx:=aV hx;obtain ⟨x1,x2⟩:=wk x (mem_cons_of_mem _ mx);refine ⟨iI,?_⟩
   show if true=true then _ else Qn H2
   rw [if_pos rfl];refine ⟨_,rfl,_,rfl,x,n,rfl,bA x2 (by decide),x1,ln,fun e=>(bad ?_).from (s0.trans s2),fun m H3 e s3=>k rfl (by rw [e]; simp) _ _ s3 (by rw [e]; rfl)⟩
   show (match iw (wt.map Lo) with | some (c::k::cl)=>_ | _=>none)=none
   rw [yw (List.mem_map_of_mem mx) e]
  intro H1 s1 al r1;rw [filter_eq_self.mpr fun _ _=>rfl] at r1;have al':∀ x ∈ wt.map Lo,gw x≠none:=fun x hx=>by
   obtain ⟨z,hz,rfl⟩:=bJ.mp hx;exact al z hz rfl
  have en:=oW al';obtain ⟨_,vs,el,hv,Oo⟩:=id r1;cases el;rw [nH Oo] at hv;generalize hns:(wt.map Lo).map (fun x=>(gw x).getD 0)=ns at en;have hv':H1 D=some (.lst (ns.map fun k:Nat=>V.int (k:Int))):=by
   rw [hv,<- hns,cM,cM,cM];rfl
  have small:∀ k ∈ ns,k < 100:=fun k hk=>by
   rw [<- hns] at hk;obtain ⟨y,_,rfl⟩:=bJ.mp hk;exact Z4
  have lns:ns.length=wt.length:=by rw [<- hns,aq,aq]
  have sA:=s0.trans s1;have hd:jw ((w0::wt).map Lo)=match some ns with | some (c::k::cl)=>if Lo w0=oV/\cl.Pairwise (· < ·)/\∀ d ∈ cl,d < k then some (c,k,cl) else none | _=>none:=by
   show (match iw (wt.map Lo) with | some (c::k::cl)=>_ | _=>none)=_
   rw [en]
  refine ⟨_,rfl,l,_,0,.str w0,rfl,rfl,cY.of (sA _ _ hl),dR (j:=0) rfl,rfl,_,rfl,?_⟩;rw [show (Str.ofString "garden":Str)=⟨oV.toArray⟩ from Mw,zW]
  by_cases g0:Lo w0=oV
  rotate_left
  ·rw [aF g0];refine c7 (c7 ⟨_,rfl,jx ln ((bad ?_).from sA)⟩);rw [hd]
   split
   ·rw [if_neg fun z=>g0 z.1]
   ·rfl
  rw [aO g0];refine dI ⟨_,rfl,D,_,rfl,.inl (cY.of hv'),_,_,rfl,rfl,_,rfl,?_⟩;rw [aq]
  match ns,hd,hv',small,lns with
  | [],hd,_,_,_=>exact c7 ⟨_,rfl,jx ln ((bad hd).from sA)⟩
  | [_],hd,_,_,_=>exact c7 ⟨_,rfl,jx ln ((bad hd).from sA)⟩
  | c::k::cl,hd,hv',small,lns=>?_
  rw [aF (by simp only [length_cons]; omega)];simp only [length_cons] at lns;refine dI ⟨_,rfl,D,_,1,_,rfl,rfl,cY.of hv',dR (j:=1) rfl,_,rfl,2,rfl,D,_,rfl,cY.of hv',fun C hC=>?_⟩;rw [show pB ((c::k::cl).map fun k:Nat=>V.int (k:Int)) (some 2) none=cl.map fun k:Nat=>V.int (k:Int) from lA 2];have s2:=aQ (o:=.lst (cl.map fun k:Nat=>V.int (k:Int))) hC;have hC0:upd H1 C (.lst (cl.map fun k:Nat=>V.int (k:Int))) C=some (.lst (cl.map fun k:Nat=>V.int (k:Int))):=aC;generalize upd H1 C (.lst (cl.map fun k:Nat=>V.int (k:Int)))=H2 at s2 hC0 ⊢;have sB:=sA.trans s2;have cli:(cl.map fun k:Nat=>V.int (k:Int))=(cl.map fun k:Nat=>(k:Int)).map V.int:=by rw [cM]; rfl
  refine ⟨_,rfl,_,rfl,C,cl.map fun k:Nat=>(k:Int),rfl,cY.of (by rw [hC0,cli]),by rw [aq]; unfold scanBound; omega,fun Z hZ=>⟨Z,_,rfl,aC,?_,fun O out hO po up=>?_⟩⟩
  ·have:=Bw (done:=[]) (l:=cl.map fun k:Nat=>(k:Int));rw [aq,length_nil] at this;omega
  have s3:=aQ (o:=zF P w Z (ig [] (cl.map fun k:Nat=>(k:Int)))) hZ;have s4:=aQ (o:=.lst (out.map V.int)) hO;have hO0:upd (upd H2 Z (zF P w Z (ig [] (cl.map fun k:Nat=>(k:Int))))) O (.lst (out.map V.int)) O=some (.lst (out.map V.int)):=aC;have s34:Same H2 (upd (upd H2 Z (zF P w Z (ig [] (cl.map fun k:Nat=>(k:Int))))) O (.lst (out.map V.int))):=s3.trans s4;have sC:=sB.trans s34;have hC3:=s34 _ _ hC0;have hD3:=(s2.trans s34) _ _ hv';clear s3 s4 s34
  show Kq K true (.ref C) (.ref O) (upd (upd H2 Z (zF P w Z (ig [] (cl.map fun k:Nat=>(k:Int))))) O (.lst (out.map V.int))) _
  generalize upd (upd H2 Z (zF P w Z (ig [] (cl.map fun k:Nat=>(k:Int))))) O (.lst (out.map V.int))=H3 at sC hC3 hD3 hO0 ⊢;refine ZM (n:=0) eq_int (by decide) (xs:=cl.map fun k:Nat=>(k:Int)) (ys:=out) ⟨C,_,rfl,hC3,by rw [cli]; exact yI _⟩ ⟨O,_,rfl,hO0,yI _⟩ ⟨_,rfl,?_⟩;have eso:=BL po up;have eup:(cl.map fun k:Nat=>(k:Int)).Pairwise (· < ·) ↔ cl.Pairwise (· < ·):=by
   rw [List.pairwise_map];exact ⟨fun h=>h.imp fun z=>by omega,fun h=>h.imp fun z=>by omega⟩
  by_cases rise:cl.Pairwise (· < ·)
  rotate_left
  ·rw [aF fun z=>rise (eup.mp (eso.mp z))];refine c7 (c7 ⟨_,rfl,jx ln ((bad ?_).from sC)⟩);rw [hd]
   show (if _ then _ else _)=_
   rw [if_neg fun z=>rise z.2.1]
  rw [aO (eso.mpr (eup.mpr rise))];refine dI ⟨_,rfl,C,rfl,⟨_,cY.of hC3⟩,fun L hL=>?_⟩;have rC:jO Im H3 (.ref C) (cl.map fun k:Nat=>(k:Int)):=⟨C,_,rfl,hC3,by rw [cli]; exact yI _⟩;refine vG (K:=K) lU aao (fun d=>decide (d < (k:Int))) rC (by rw [aq]; omega) hL ?_ ?_
  ·intro i x v H4 hx rv s5 Qc kk;cases rv;exact ⟨iI,_,rfl,_,rfl,_,_,rfl,rfl,kk _ _ (Same.refl _) rfl⟩
  intro H4 s5 r4;obtain ⟨_,vs4,el4,hv4,pv4⟩:=id r4;cases el4;rw [GZ pv4] at hv4;refine ⟨L,_,rfl,cY.of hv4,_,rfl,?_⟩;have ea:(((cl.map fun k:Nat=>(k:Int)).map fun d=>decide (d < (k:Int))).all id=true) ↔ ∀ d ∈ cl,d < k:=by
   rw [cM,all_map,all_eq_true];exact ⟨fun h d hd=>by have:=h d hd; simp at this; exact this,fun h d hd=>by simp; exact h d hd⟩
  have sD:=sC.trans s5
  by_cases under:∀ d ∈ cl,d < k
  rotate_left
  ·rw [Bool.eq_false_iff.mpr fun z=>under (ea.mp z)];refine c7 ⟨_,rfl,jx ln ((bad ?_).from sD)⟩;rw [hd]
   show (if _ then _ else _)=_
   rw [if_neg fun z=>under z.2.2]
  rw [ea.mpr under];have hC4:=s5 _ _ hC3;have rC4:jO Im H4 (.ref C) (cl.map fun k:Nat=>(k:Int)):=⟨C,_,rfl,hC4,by rw [cli]; exact yI _⟩;refine dI ⟨_,rfl,D,_,0,_,rfl,rfl,cY.of (s5 _ _ hD3),dR (j:=0) rfl,_,rfl,_,rfl,C,rfl,⟨_,cY.of hC4⟩,fun M hM=>?_⟩;refine vG (K:=K) lU lU (fun d=>1 * 2 ^ d.toNat) rC4 (by rw [aq]; omega) hM ?_ ?_
  ·intro i x v H5 hx rv s6 Qc kk;cases rv;have mx:=aV hx;obtain ⟨y,hy,rfl⟩:=bJ.mp mx;have:=small y (mem_cons_of_mem _ (mem_cons_of_mem _ hy));exact ⟨iI,_,rfl,_,_,rfl,rfl,⟨by omega,by omega,by decide⟩,kk _ _ (Same.refl _) rfl⟩
  intro H5 s6 r5;obtain ⟨_,vs5,el5,hv5,pv5⟩:=id r5;cases el5;rw [nH pv5] at hv5;refine ⟨M,_,rfl,cY.of hv5,by show 3<=sizeLine; decide,fun t ht=>?_⟩;rw [Cv];have v5:=aQ (o:=.tup [V.int (c:Nat),.int (k:Nat),.int (je cl:Nat)]) ht;exact good c k cl _ t (by rw [hd]; show (if _ then _ else _)=_; rw [if_pos ⟨g0,rise,under⟩]) (sD.trans (s6.trans v5)) aC
end
abbrev rH:cQ:=top 33
abbrev Mx:List Str:=["words","row","numbers","e"]
abbrev fL:=Ln × Nat × Option Nat
def dG (c:fL):cB:=⟨⟨c.1.toArray⟩,(c.2.1:Nat),c.2.2.map fun r:Nat=>(r:Int)⟩
theorem yJ (c:Nat):letter c=decide (97<=c/\c<=122):=by
 have e1:decide ([c] < [97])=decide (c < 97):=decide_eq_decide.mpr (show ([c] < [97]) ↔ c < 97 by rw [cons_lt_cons_iff]; simp);have e2:decide ([122] < [c])=decide (122 < c):=decide_eq_decide.mpr (show ([122] < [c]) ↔ 122 < c by rw [cons_lt_cons_iff]; simp);unfold letter;rw [e1,e2]
 by_cases h1:c < 97 <;> by_cases h2:122 < c <;> simp [h1,h2] <;> omega
theorem zX (x:Str):nameV (.str x)=gk (Lo x):=by
 have e:nameV (.str x)=(decide (1<=x.length) && decide (x.length<=12) && x.cps.toList.all letter):=rfl;have el:letter=fun c=>decide (97<=c/\c<=122):=funext yJ
 have lo:(Lo x).length=x.length:=Array.length_toList;rw [e,el];unfold gk;rw [lo]
 by_cases h1:1<=x.length <;> by_cases h2:x.length<=12 <;> simp [h1,h2]
theorem Cy {m:Int} (h0:0<=m) (h1:m < 100):gw (Lo (fG m))=some m.toNat:=by
 obtain ⟨k,rfl⟩:=Int.eq_ofNat_of_zero_le h0;rw [BW k (by omega),Le (by omega)];rfl
theorem zY {w0:Ln} {ws:List Ln} (h1:¬ (w0=BX/\ws.length=2)) (h2:¬ (w0=jV/\ws.length=3)):fX (w0::ws)=none:=by
 match ws with
 | []=>rfl
 | nm::xs =>
  show (match iw xs with | some [g]=>_ | some [g,r]=>_ | _=>none)=none
  cases e:iw xs with
  | none=>rfl
  | some ns =>
   have ln:ns.length=xs.length:=by
    unfold iw at e
    split at e
    ·cases e;rw [aq]
    ·cases e
   match ns,ln with
   | [],_=>rfl
   | [g],ln=>exact if_neg fun z=>h1 ⟨z.1,by rw [length_cons,<- ln]; rfl⟩
   | [g,r],ln=>exact if_neg fun z=>h2 ⟨z.1,by rw [length_cons,<- ln]; rfl⟩
   | _::_::_::_,_=>rfl
theorem Mz {w0:Ln} {ws:List Ln} {x:Ln} (m:x ∈ ws.drop 1) (h:gw x=none):fX (w0::ws)=none:=by
 match ws,m with
 | [],m=>exact absurd m (by simp)
 | nm::xs,m =>
  show (match iw xs with | some [g]=>_ | some [g,r]=>_ | _=>none)=none
  rw [yw (show x ∈ xs from m) h]
theorem aar {nm x:Ln} {g:Nat} (h:gw x=some g):fX [BX,nm,x]=if gk nm=true/\1<=g/\g<=60 then some (nm,g,none) else none:=by
 have en:iw [x]=some [g]:=by rw [oW (by intro y hy; rw [aL.mp hy,h]; exact Option.some_ne_none _)]; simp [h]
 show (match iw [x] with | some [g]=>_ | some [g,r]=>_ | _=>none)=_
 rw [en]
 show (if BX=BX/\_ then _ else _)=_
 by_cases z:gk nm=true/\1<=g/\g<=60
 ·rw [if_pos z,if_pos ⟨rfl,z⟩]
 ·rw [if_neg z,if_neg fun y=>z y.2]
theorem aas {nm x y:Ln} {g r:Nat} (h:gw x=some g) (h':gw y=some r):fX [jV,nm,x,y]=if gk nm=true/\1<=g/\g<=60/\r < g then some (nm,g,some r) else none:=by
 have en:iw [x,y]=some [g,r]:=by
  rw [oW]
  ·simp [h,h']
  ·intro z hz;simp only [aK,not_mem_nil,or_false] at hz;rcases hz with rfl | rfl
   ·rw [h]; exact Option.some_ne_none _
   ·rw [h']; exact Option.some_ne_none _
 show (match iw [x,y] with | some [g]=>_ | some [g,r]=>_ | _=>none)=_
 rw [en]
 show (if jV=jV/\_ then _ else _)=_
 by_cases z:gk nm=true/\1<=g/\g<=60/\r < g
 ·rw [if_pos z,if_pos ⟨rfl,z⟩]
 ·rw [if_neg z,if_neg fun y=>z y.2]
structure MF (K:Fg) (mg:Str->Option au) (a:gR):Prop where
 T:lq K mg a
 H:Mv K mg a
 xm:exmOne K (.ref a.cu) (.ref a.cu)=some true
section
variable {P:bT} {w:World} {K:Fg} {mg:Str->Option au} {base:Heap} {a:gR} {dV:au}
theorem G3 {H:Hp} {E:XK} {d:Int} {h B:aA} (ld:d.natAbs.log2 < 100) (hh:H h=some (lR h (.ref B) none)) (q:∀ H' dx,Same H H'->H' dx=some (.xd [("row",.int d)])->E (.ref a.bM) (some dx) H') : 1<=sizeLine/\H h=some (lR h (.ref B) none)/\∀ e,H e=none->qI a [.ref e,.int d] (upd H e (iB e a.bM none)) (fun v H2=>v=.non/\∃ dx,H2 e=some (iB e a.bM (some dx))/\H2 h=some (lR h (.ref B) none)/\E (.ref a.bM) (some dx) (del H2 e)) fun _ _ _=>False:=by
 refine ⟨by decide,hh,fun e he=>⟨e,d,rfl,aC,ld,fun dx hdx=>⟨rfl,dx,aC,?_,?_⟩⟩⟩
 ·have n1:h≠e:=fun z=>by rw [z,he] at hh; cases hh
  have n2:h≠dx:=fun z=>by rw [<- z,bx n1,hh] at hdx; cases hdx
  rw [bx n1,bx n2,bx n1];exact hh
 ·have z:=GX (o:=.xd [("row",.int d)]) he hdx;exact q _ dx z.1 z.2
noncomputable def G4 (a:gR):Sp:=fun vs H Q E=>∃ l ws n,vs=[.ref l,.int n]/\H l=some (.lst (ws.map V.str))/\ws≠[]/\ws.length<=60/\(∀ x ∈ ws,Lo x≠[]/\x.length<=100000)/\n.natAbs.log2 < 100/\(fX (ws.map Lo)=none->ur a H E n) /\ ∀ c H' y,fX (ws.map Lo)=some c->Same H H'->H y=none->fY a H' y (dG c)->Q (.ref y) H'
theorem zZ:bV Mx ["words","row"] (aZ rH):=d8 (by decide +kernel)
theorem MJ {f:aA} {fd:dN} (F:oK K "pot_in" "pot_in" rH f fd) (O:MF K mg a):cC P w K mg base (eZ P w) 5 f fd ["words","row"] (G4 a):=by
 refine F.pR zZ (fun vs H Q E h=>?_) (fun cdv A outer s H vs Q E hr h=>?_)
 ·obtain ⟨l,ws,n,rfl,_⟩:=h;rfl
 ·obtain ⟨l,ws,n,rfl,hl,ne,l60,wk,ln,bad,good⟩:=h;have T:=O.T;have B:=T.B;have X:=O.H.R;obtain ⟨fn,dn,nF,mN⟩:=O.H.num;obtain ⟨fi,di,iF,xi,Jj⟩:=X.br;have Er:mJ P w K mg base (eZ P w) 1 fi di ["self","row"] (qI a):=zU iF.F X;have okn:cC P w K mg base (eZ P w) 3 fn dn ["word","row"] (zV a):=Cq nF.F B X;have kN:=nF.F.kp;have bN:=nF.b;have hr2:d7 2 _:=hr.mono (by decide);have hr3:d7 3 _:=hr.mono (by decide);have hr4:d7 4 _:=hr.mono (by decide);have ndW:[("word":Str),"row"].Nodup:=by decide +kernel
  refine ⟨_,aN (qy (i:=2) zZ.nd rfl (Or.inl rfl) bK rfl ⟨_,_,rfl,rfl,rfl⟩ (oO (N':=["word","row"]) (cl:=[("row",s.heap.objs.size + 1)]) [none,some 1] Mx (aZ rH).names [(".0",.local),("word",.local),("number_in",.globalImplicit),("row",.cell)] ["row"] rfl (by decide +kernel) (by decide +kernel) rfl (fun p hp=>by rw [aL.mp hp]; rfl) rfl rfl rfl rfl (by decide +kernel) rfl (by decide +kernel)) (eX (iT jT (pv 0) (jR aY) jQ)) (fun _ _ _ _ _=>fj 0 ndW) (fun _ _ _ _ _=>gj) (fun _ _ _ _ _ acc=>dH okn hr3 mN kN bN (dU acc) (aB (pv 0) (aB (pv 1) aJ)))) (aN (Gw (hit:=fun cls=>cls=.ref a.cu) bK rfl ⟨_,_,rfl,rfl,rfl⟩ zZ.nd (i:=3) rfl rfl (by rfl) T.cu.m (fun cls h=>by rw [h]; exact O.xm) (fun E' jN Eb σ acc=>Gy (PW.pt (pw_and (dj tZ (fJ (iV K) (pv 0) aY (fun _ _=>rfl)) bQ (dM _)) (pw_and1 (dj tZ (fK (pK K) B.len PySem.boot_len (aB (pv 0) aJ)) aY (dM _))))) (vL (zH (Ed T.kP (pX T) hr3 T.Rx T.PI.b .nil acc (aB (fJ (iV K) (pv 0) aY (fun _ _=>rfl)) (aB (fJ (iV K) (pv 2) aY (fun _ _=>rfl)) aJ))))) (Gy (PW.pt (pw_and (dj tZ (fJ (iV K) (pv 0) aY (fun _ _=>rfl)) bQ (dM _)) (pw_and1 (dj tZ (fK (pK K) B.len PySem.boot_len (aB (pv 0) aJ)) aY (dM _))))) (vL (zH (Ed T.kC (vU T) hr4 T.aeH T.CI.b .nil acc (aB (fJ (iV K) (pv 0) aY (fun _ _=>rfl)) (aB (fJ (iV K) (pv 2) aY (fun _ _=>rfl)) (aB (fJ (iV K) (pv 2) aY (fun _ _=>rfl)) aJ)))))) La)) (fun e E' jN acc=>aX (yq (h:=e) acc rfl (by rfl) X.m xi Jj PySem.F.excBase_ValueError T.cu.m T.cu.q PySem.F.excBase_ValueError Er (gY.mark hr2.toH) iF.b (aB (pv 1) aJ) (pv 3)))) (aX (iJ bK rfl (by rfl) X.m xi Jj PySem.F.excBase_ValueError Er.fn hr2 iF.b (aB (pv 1) aJ)))),?_⟩;have big:1000<=sizeLine:=by decide
  match ws,ne,hl,l60,wk,bad,good with
  | [],ne,_,_,_,_,_=>exact absurd rfl ne
  | w0::wt,ne,hl,l60,wk,bad,good=>?_
  rw [length_cons] at l60;refine ⟨_,rfl,2,rfl,l,_,rfl,cY.of hl,fun c hc=>?_⟩;rw [show pB ((w0::wt).map V.str) (some 2) none=(wt.drop 1).map V.str from (lA 2).trans (by rw [map_drop]; rfl)];have s0:=aQ (o:=.lst ((wt.drop 1).map V.str)) hc;have hc0:upd H c (.lst ((wt.drop 1).map V.str)) c=some (.lst ((wt.drop 1).map V.str)):=aC;generalize upd H c (.lst ((wt.drop 1).map V.str))=H0 at s0 hc0 ⊢;refine ⟨c,rfl,⟨_,cY.of hc0⟩,fun D hD=>?_⟩;obtain ⟨go,stop,yl⟩:=qC (K:=K) (R:=w6) (fun h s=>jh.same h s) (H:=H0) (l:=c) (xs:=wt.drop 1) ⟨c,_,rfl,hc0,rG _⟩;have ldr:(wt.drop 1).length<=wt.length:=by rw [length_drop]; omega
  refine oU (R:=w6) lU (xs:=wt.drop 1) (fun _=>true) (fun x=>(((gw (Lo x)).getD 0:Nat):Int)) (fun x=>gw (Lo x)≠none) (by omega) hD go stop yl ?_ ?_
  ·intro i x v H2 hx rv s2 Qc Qn k kn;cases rv;have mx:=aV hx;obtain ⟨x1,x2⟩:=wk x (mem_cons_of_mem _ (List.mem_of_mem_drop mx));refine ⟨iI,?_⟩
   show if true=true then _ else Qn H2
   rw [if_pos rfl];refine ⟨_,rfl,_,rfl,x,n,rfl,bA x2 (by decide),x1,ln,fun e=>(bad ?_).from (s0.trans s2),fun m' H3 e s3=>k rfl (by rw [e]; simp) _ _ s3 (by rw [e]; rfl)⟩;rw [bw];exact Mz (x:=Lo x) (by rw [<- map_drop]; exact List.mem_map_of_mem mx) e
  intro H1 s1 al r1;rw [filter_eq_self.mpr fun _ _=>rfl] at r1;obtain ⟨_,vs,el,hv,Oo⟩:=id r1;cases el;rw [nH Oo] at hv;have sA:=s0.trans s1;have hl1:=sA _ _ hl;refine ⟨fun cls dx H'=>cls=.ref a.cu/\dx=none/\Same H1 H'/\fX ((w0::wt).map Lo)=none,?_,?_⟩
  ·rintro _ _ H3 ⟨rfl,rfl,s3,no⟩;exact ⟨rfl,fun e he=>⟨rfl,_,rfl,G3 ln aC (fun H' dx s' hx=>bad no H' dx ((sA.trans s3).trans ((aQ he).trans s')) hx)⟩⟩
  have MK:∀ x:Str,(⟨(Lo x).toArray⟩:Str)=x:=fun x=>Ld rfl
  have fin:fX ((w0::wt).map Lo)=none->_:=fun no=>jx (a:=a) (E:=E) (H:=H1) ln ((bad no).from sA)
  have sm:∀ x ∈ w0::wt,rB (.str x):=fun x hx y e=>by cases e; exact bA (wk x hx).2 (by decide)
  have ae2:(Str.ofString "pot":Str)=⟨BX.toArray⟩:=by decide +kernel
  have ae3:(Str.ofString "cactus":Str)=⟨jV.toArray⟩:=by decide +kernel
  have ll:((w0::wt).map V.str).length=wt.length + 1:=by rw [aq,length_cons]
  refine ⟨_,rfl,l,_,0,.str w0,rfl,rfl,cY.of hl1,dR (j:=0) rfl,rfl,_,rfl,?_⟩;rw [ae2,ae3,zW]
  by_cases p0:Lo w0=BX
  ·rw [aO p0];refine c7 ⟨_,rfl,l,_,rfl,.inl (cY.of hl1),rfl,_,rfl,?_⟩
   by_cases l2:wt.length=2
   ·match wt,l2,hl,hl1,wk,bad,good,al,hv,sm with
    | [nm,x],_,hl,hl1,wk,bad,good,al,hv,sm=>?_
    refine eqT rfl ?_;cases en:gw (Lo x) with
    | none=>exact absurd en (al x (by simp) rfl)
    | some g =>
     have hv':H1 D=some (.lst [V.int (g:Nat)]):=by
      rw [hv]
      show some (HO.lst [V.int (((gw (Lo x)).getD 0:Nat):Int)])=_
      rw [en];rfl
     have pw:fX ([w0,nm,x].map Lo)=if gk (Lo nm)=true/\1<=g/\g<=60 then some (Lo nm,g,none) else none:=by
      show fX [Lo w0,Lo nm,Lo x]=_
      rw [p0];exact aar en
     have po:gO (.str nm) (.int (g:Nat))=decide (gk (Lo nm)=true/\1<=g/\g<=60):=by
      unfold gO;rw [zX]
      show (gk (Lo nm) && (decide ((1:Int)<=(g:Nat)) && decide (((g:Nat):Int)<=60)))=_
      by_cases z1:gk (Lo nm)=true <;> by_cases z2:1<=g <;> by_cases z3:g<=60 <;> simp [z1,z2,z3] <;> omega
     refine ⟨_,rfl,l,_,1,_,rfl,rfl,cY.of hl1,dR (j:=1) rfl,_,rfl,D,_,0,_,rfl,rfl,cY.of hv',dR (j:=0) rfl,aaj ?_⟩;refine Lq (kn:=.str) (kg:=.int) ⟨_,rfl⟩ (sm nm (by simp)) ⟨_,rfl⟩ (fun e H3 s3=>⟨rfl,rfl,s3,?_⟩) (fun e H3 y hy s3 py=>good (Lo nm,g,none) H3 y ?_ (sA.trans s3) (sA.free hy) ?_)
     ·rw [po] at e;rw [pw,if_neg (of_decide_eq_false e)]
     ·rw [po] at e;rw [pw,if_pos (of_decide_eq_true e)]
     ·obtain ⟨dy,hy3⟩:=py;refine ⟨dy,?_⟩;rw [hy3]
      show some (HO.ins a.pot dy [("name",V.str nm),("gap",.int (g:Nat))])=some (HO.ins a.pot dy [("name",V.str ⟨(Lo nm).toArray⟩),("gap",.int (g:Nat))])
      rw [MK]
   ·have no:fX ((w0::wt).map Lo)=none:=by
     rw [bw];refine zY (fun z=>l2 (by have:=z.2; rwa [aq] at this)) (fun z=>?_);rw [p0] at z;exact absurd z.1 (by decide)
    refine eqF (by rw [ll]; omega) ?_;refine ⟨_,rfl,l,_,0,.str w0,rfl,rfl,cY.of hl1,dR (j:=0) rfl,rfl,_,rfl,?_⟩;rw [zW,aF (by rw [p0]; decide)];exact dI (dI ⟨_,rfl,fin no⟩)
  rw [aF p0];refine dI (dI ⟨_,rfl,l,_,0,.str w0,rfl,rfl,cY.of hl1,dR (j:=0) rfl,rfl,_,rfl,?_⟩);rw [zW]
  by_cases c0:Lo w0=jV
  ·rw [aO c0];refine c7 ⟨_,rfl,l,_,rfl,.inl (cY.of hl1),rfl,_,rfl,?_⟩
   by_cases l3:wt.length=3
   ·match wt,l3,hl,hl1,wk,bad,good,al,hv,sm with
    | [nm,x,y],_,hl,hl1,wk,bad,good,al,hv,sm=>?_
    refine eqT rfl ?_;cases en:gw (Lo x) with
    | none=>exact absurd en (al x (by simp) rfl)
    | some g =>
     cases er:gw (Lo y) with
     | none=>exact absurd er (al y (by simp) rfl)
     | some r =>
      have hv':H1 D=some (.lst [V.int (g:Nat),.int (r:Nat)]):=by
       rw [hv]
       show some (HO.lst [V.int (((gw (Lo x)).getD 0:Nat):Int),.int (((gw (Lo y)).getD 0:Nat):Int)])=_
       rw [en,er];rfl
      have pw:fX ([w0,nm,x,y].map Lo)=if gk (Lo nm)=true/\1<=g/\g<=60/\r < g then some (Lo nm,g,some r) else none:=by
       show fX [Lo w0,Lo nm,Lo x,Lo y]=_
       rw [c0];exact aas en er
      have po:(gO (.str nm) (.int (g:Nat)) && restOk (.int (g:Nat)) (.int (r:Nat)))=decide (gk (Lo nm)=true/\1<=g/\g<=60/\r < g):=by
       unfold gO restOk;rw [zX]
       show ((gk (Lo nm) && (decide ((1:Int)<=(g:Nat)) && decide (((g:Nat):Int)<=60))) && (decide ((0:Int)<=(r:Nat)) && decide (((r:Nat):Int)<=(g:Nat) - 1)))=_
       by_cases z1:gk (Lo nm)=true <;> by_cases z2:1<=g <;> by_cases z3:g<=60 <;> by_cases z4:r < g <;> simp [z1,z2,z3,z4] <;> omega
      refine ⟨_,rfl,l,_,1,_,rfl,rfl,cY.of hl1,dR (j:=1) rfl,_,rfl,D,_,0,_,rfl,rfl,cY.of hv',dR (j:=0) rfl,_,rfl,D,_,1,_,rfl,rfl,cY.of hv',dR (j:=1) rfl,aaj ?_⟩;refine Lr (kn:=.str) (kg:=.int) (kr:=.int) ⟨_,rfl⟩ (sm nm (by simp)) ⟨_,rfl⟩ ⟨_,rfl⟩ (fun e H3 s3=>⟨rfl,rfl,s3,?_⟩) (fun e H3 z hz s3 pz=>good (Lo nm,g,some r) H3 z ?_ (sA.trans s3) (sA.free hz) ?_)
      ·rw [po] at e;rw [pw,if_neg (of_decide_eq_false e)]
      ·rw [po] at e;rw [pw,if_pos (of_decide_eq_true e)]
      ·obtain ⟨dy,hy3⟩:=pz;refine ⟨dy,?_⟩;rw [hy3]
       show some (HO.ins a.cactus dy [("name",V.str nm),("gap",.int (g:Nat)),("rest",.int (r:Nat))])=some (HO.ins a.cactus dy [("name",V.str ⟨(Lo nm).toArray⟩),("gap",.int (g:Nat)),("rest",.int (r:Nat))])
       rw [MK]
   ·refine eqF (by rw [ll]; omega) ⟨_,rfl,fin ?_⟩;rw [bw];exact zY (fun z=>p0 z.1) (fun z=>l3 (by have:=z.2; rwa [aq] at this))
  ·rw [aF c0];refine dI (dI ⟨_,rfl,fin ?_⟩);rw [bw];exact zY (fun z=>p0 z.1) (fun z=>c0 z.1)
end
abbrev uP:cQ:=top 36
abbrev RN:List Str:=["rows","pots","names","row","words","pot"]
def gQ:List fL->List NR->Except Nat (List fL)
 | acc,[]=>.ok acc
 | acc,(n,ws)::rs=>match fX (ws.map Lo) with
  | none=>.error n
  | some c=>if c.1 ∈ acc.map (·.1) then .error n else gQ (acc++[c]) rs
section
variable {P:bT} {w:World} {K:Fg} {mg:Str->Option au} {base:Heap} {a:gR} {dV:au}
theorem fY.ae4 {H:Hp} {b D:aA} {p:cB} {kvs:List (Key × V)} {o:HO} (h:fY a H b p) (hD:H D=some (.dK kvs)):fY a (L2.upd H D o) b p:=by
 obtain ⟨dx,e⟩:=h;exact ⟨dx,by rw [bx (S8 e hD (by intro z; cases z))]; exact e⟩
def Jm (c:fL):Key:=Sum.inr (dG c).nm
theorem G5 {acc:List fL} {kvs:List (Key × V)} (h:kvs.map (·.1)=acc.map Jm) (c:fL):(kvs.any fun p=>decide (p.1=Sum.inr (dG c).nm))=decide (c.1 ∈ acc.map (·.1)):=by
 have e:(kvs.any fun p=>decide (p.1=Sum.inr (dG c).nm))=(kvs.map (·.1)).any fun k=>decide (k=Jm c):=by rw [List.any_map]; rfl
 rw [e,h];clear h e
 induction acc with
 | nil=>rfl
 | cons b acc ih =>
  rw [bw,List.any_cons,ih,bw];have:decide (Jm b=Jm c)=decide (c.1=b.1):=by
   apply decide_eq_decide.mpr;unfold Jm dG;constructor
   ·intro z;injection z with z;injection z with z;have:=congrArg Array.toList z;simpa using this.symm
   ·intro z;rw [z]
  rw [this]
  by_cases z:c.1=b.1 <;> simp [z]
noncomputable def Cz (a:gR):Sp:=fun vs H Q E=>∃ l rows,vs=[.ref l]/\jO Mt H (.ref l) rows/\rows.length<=100/\(∀ c ∈ rows,c.1<=1000/\c.2≠[]/\c.2.length<=60/\∀ x ∈ c.2,Lo x≠[]/\x.length<=100000)/\(∀ m,gQ [] rows=.error m->ur a H E (m:Nat)) /\ ∀ cs H' m as,gQ [] rows=.ok cs->Same H H'->H' m=some (.lst (as.map V.ref))->j5 a H' as (cs.map dG)->Q (.ref m) H'
theorem lB:bV RN ["rows"] (aZ uP):=d8 (by decide +kernel)
theorem Jo {f fp:aA} {fd dp:dN} (F:oK K "pots_in" "pots_in" uP f fd) (O:MF K mg a) (pF:Fn K "pot_in" "pot_in" rH ["words","row"] fp dp) (mP:mg "pot_in"=some (.ref fp)):cC P w K mg base (eZ P w) 6 f fd ["rows"] (Cz a):=by
 refine F.pR lB (fun vs H Q E h=>?_) (fun cdv A outer s H vs Q E hr h=>?_)
 ·obtain ⟨l,rows,rfl,_⟩:=h;rfl
 ·obtain ⟨l,rows,rfl,rl,aoa,small,bad,good⟩:=h;have T:=O.T;have X:=O.H.R;obtain ⟨fi,di,iF,xi,Jj⟩:=X.br;have Er:cC P w K mg base (eZ P w) 1 fi di ["self","row"] (qI a):=Eo iF.F X;have LK:cC P w K mg base (eZ P w) 5 fp dp ["words","row"] (G4 a):=MJ pF.F O;have kP:=pF.F.kp;have bP:=pF.b;have hr2:d7 2 _:=hr.mono (by decide);refine ⟨_,aN (cj (i:=1) lB.nd rfl (Or.inl rfl) (cX aJ)) (aN (cj (i:=2) lB.nd rfl (Or.inl rfl) K9) (aN (qT kO rfl (eX (pv 0)) (JF rfl (kj (fj 3 lB.nd) (kj (fj 4 lB.nd) yR))) (aN (cj (i:=5) lB.nd rfl (Or.inl rfl) (dH LK hr mP kP bP (dU bK) (aB (pv 4) (aB (pv 3) aJ)))) (aN (eY (dj Z2 (fP (pv 5) rfl) (pv 2) rfl) (aX (iJ bK rfl (by rfl) X.m xi Jj PySem.F.excBase_ValueError Er hr2 iF.b (aB (pv 3) aJ))) cW) (aN (Zc pH (Za (pv 2) (fP (pv 5) rfl) Je)) (aX (jf (jd PySem.F.plainAttrs_list PySem.F.slot_list_append PySem.F.type_list_append kE (pv 1) (aB (pv 5) aJ)))))))) (aX (cU (pv 1))))),?_⟩;refine ⟨by show 0<=sizeLine; decide,fun lp hlp dn hdn=>?_⟩;have v1:=aQ (o:=.lst []) hlp;have v2:=aQ (o:=.dK []) hdn;have ajI:=v1.free hdn;have ndl:lp≠dn:=fun z=>by rw [<- z,aC] at hdn; cases hdn
  obtain ⟨_,vs,el,hv,Oo⟩:=id rl;cases el;have lv:vs.length=rows.length:=Paired.length Oo;have big:1000<=sizeLine:=by decide
  have s12:=v1.trans v2;refine ⟨_,rfl,l,rfl,⟨_,cY.of (s12 _ _ hv)⟩,?_⟩;refine qw (K:=K) (a:=l) (xs:=vs) (fun i σ H'=>∃ u3 u4 u5 bs kvs,∃ acc:List fL,σ=[some (.ref l),some (.ref lp),some (.ref dn),u3,u4,u5]/\acc.length=i/\H' lp=some (.lst (bs.map V.ref))/\j5 a H' bs (acc.map dG)/\H' dn=some (.dK kvs)/\kvs.map (·.1)=acc.map Jm/\Same H H'/\gQ [] rows=gQ acc (rows.drop i)) ⟨none,none,none,[],[],[],rfl,rfl,v2 _ _ aC,.nil,aC,rfl,s12,rfl⟩ (fun i σ H' _ ⟨_,_,_,_,_,_,_,_,_,_,_,_,s',_⟩=>cY.of (s' _ _ hv)) ?_ ?_
  ·rintro i x σ H2 hi ⟨u3,u4,u5,bs,kvs,acc,rfl,la,hp2,pt2,hd2,ek,s2,ef⟩;obtain ⟨c,hc,rc⟩:=fC Oo hi;have li:i < rows.length:=(aP.mp hc).1;obtain ⟨c1,c2,c3,c4⟩:=small c (aV hc);obtain ⟨t,m,rfl,ht,hm⟩:=Mt.same rc s2;have ed:rows.drop i=c::rows.drop (i + 1):=by
    obtain ⟨lt,e⟩:=aP.mp hc;rw [List.drop_eq_getElem_cons lt,e]
   have ef':gQ [] rows=match fX (c.2.map Lo) with | none=>.error c.1 | some k=>if k.1 ∈ acc.map (·.1) then .error c.1 else gQ (acc++[k]) (rows.drop (i + 1)):=by
    rw [ef,ed];rfl
   refine ⟨t,_,rfl,tY.of ht,rfl,_,_,rfl,_,_,rfl,rfl,?_⟩;refine ⟨_,rfl,_,rfl,m,c.2,_,rfl,hm,c2,c3,c4,rE (by omega) (by omega),fun no=>(bad c.1 (by rw [ef',no])).from s2,fun k H3 y yes s3 hy py=>?_⟩;rw [yes] at ef';have Tt:=s3 _ _ hd2;have hp3:=s3 _ _ hp2;have lb:bs.length=i:=by rw [Paired.length pt2,aq,la]
   have lk:kvs.length=i:=by
    have:=congrArg List.length ek;rw [aq,aq] at this;omega
   obtain ⟨dy,hy3⟩:=id py;have cT:=T.cls (dG k).lV;refine ⟨_,rfl,y,(dG k).cls a,dy,_,_,rfl,hy3,cT.1.cl,cT.2 _ (by simp),(dG k).pY,_,rfl,dn,kvs,_,rfl,rfl,Tt,_,rfl,?_⟩;rw [G5 ek]
   by_cases dup:k.1 ∈ acc.map (·.1)
   ·rw [aO dup];refine c7 ⟨_,rfl,jx (rE (by omega) (by omega)) ((bad c.1 ?_).from (s2.trans s3))⟩;rw [ef']
    show (if _ then _ else _)=_
    rw [if_pos dup]
   rw [aF dup];have ajJ:∀ z ∈ kvs,z.1≠(Sum.inr (dG k).nm:Key):=fun z hz e=>by
    have h1:=G5 ek k;rw [aF dup,List.any_eq_false] at h1;exact h1 z hz (aO e)
   refine dI ?_;refine ⟨_,rfl,_,rfl,y,(dG k).cls a,dy,_,_,rfl,hy3,cT.1.cl,cT.2 _ (by simp),(dG k).pY,dn,kvs,(dG k).nm,rfl,rfl,Tt,ajJ,by omega,?_⟩;have hp4:upd H3 dn (.dK (kvs++[(Sum.inr (dG k).nm,V.bl true)])) lp=some (.lst (bs.map V.ref)):=by rw [bx ndl]; exact hp3
   have s4:Same H (upd H3 dn (.dK (kvs++[(Sum.inr (dG k).nm,V.bl true)]))):=lu (s2.trans s3) ajI;have py4:fY a (upd H3 dn (.dK (kvs++[(Sum.inr (dG k).nm,V.bl true)]))) y (dG k):=fY.ae4 py Tt;have pt4:j5 a (upd H3 dn (.dK (kvs++[(Sum.inr (dG k).nm,V.bl true)]))) bs (acc.map dG):=Paired.mX (pt2.same s3) fun _ _ z=>fY.ae4 z Tt
   have hd4:upd H3 dn (.dK (kvs++[(Sum.inr (dG k).nm,V.bl true)])) dn=some (.dK (kvs++[(Sum.inr (dG k).nm,V.bl true)])):=aC;generalize upd H3 dn (.dK (kvs++[(Sum.inr (dG k).nm,V.bl true)]))=H4 at hp4 s4 py4 pt4 hd4 ⊢;refine ⟨_,rfl,.inl ⟨rfl,_,cY.of hp4⟩,_,rfl,lp,_,_,rfl,rfl,hp4,by rw [aq]; omega,?_⟩;refine ⟨_,_,_,bs++[y],_,acc++[k],rfl,by rw [aM,la]; rfl,by rw [aC,aW]; rfl,?_,by rw [bx ndl.symm]; exact hd4,?_,lu s4 hlp,?_⟩
   ·rw [aW];exact Paired.snoc (pt4.upd hp4) (fY.upd py4 hp4)
   ·rw [aW,aW,ek];rfl
   ·rw [ef']
    show (if _ then _ else _)=_
    rw [if_neg dup]
  ·rintro σ H2 ⟨u3,u4,u5,bs,kvs,acc,rfl,la,hp2,pt2,hd2,ek,s2,ef⟩;rw [lv,List.drop_length] at ef;exact ⟨_,rfl,good acc H2 lp bs ef s2 hp2 pt2⟩
end
abbrev G6:cQ:=top 37
abbrev ae6:List Str:=["text","lines","rows","beyond","head","pots","e"]
def jX (g:gU):List Nat:=(List.range g.week.toNat).filter fun d:Nat=>Bq g.closed (d:Int)
def gU.hns (g:gU):List Int:=g.cans::g.week::(jX g).map fun d:Nat=>(d:Int)
def gU.hws (g:gU):List Str:="garden"::g.hns.map fG
def gU.rws (g:gU):List (List Str):=g.hws::g.pots.map cB.ws
structure yK (g:gU):Prop where
 Ah:∀ p ∈ g.pots,p.Ok
 n8:g.pots.length<=8
 nd:(g.pots.map cB.nm).Nodup
 c1:0<=g.cans
 c2:g.cans<=8
 w1:1<=g.week
 w2:g.week<=14
 l1:0<=g.closed
 l2:g.closed < 2 ^ g.week.toNat
 out:mY (some g.pots) (.int g.cans) (.int g.week) (.int g.closed)=.ok
def RP (z:Str):Prop:=z.length<=12/\Lo z≠[]/\32 ∉ Lo z/\10 ∉ Lo z
theorem qM {m:Int} (h0:0<=m) (h1:m < 100):RP (fG m):=by
 obtain ⟨k,rfl⟩:=Int.eq_ofNat_of_zero_le h0;have e:=BW k (by omega);refine ⟨?_,?_,?_,?_⟩
 ·rw [<- gH,e];unfold qD
  split <;> simp
 ·rw [e]; exact Rp k
 ·rw [e]; exact yu (by omega) (by omega)
 ·rw [e]; exact yu (by omega) (by omega)
theorem MN {x:Str} (h:nameV (.str x)=true):RP x:=by
 have e:nameV (.str x)=(decide (1<=x.length) && decide (x.length<=12) && x.cps.toList.all letter):=rfl;rw [e] at h;simp only [Bool.and_eq_true,decide_eq_true_eq,all_eq_true] at h;obtain ⟨⟨h1,h2⟩,h3⟩:=h;have no:∀ c,¬ (97<=c/\c<=122)->c ∉ Lo x:=fun c hc m=>hc (by have:=h3 c m; rw [yJ] at this; exact of_decide_eq_true this)
 refine ⟨h2,fun z=>?_,no 32 (by omega),no 10 (by omega)⟩;have:=gH x;rw [z] at this;simp at this;omega
theorem v8:RP "garden":=by unfold RP; decide +kernel
theorem RQ:RP "pot":=by unfold RP; decide +kernel
theorem v9:RP "cactus":=by unfold RP; decide +kernel
def RowW (ws:List Str):Prop:=d9 (ws.map Lo)=true/\ws.length<=17/\∀ z ∈ ws,RP z
theorem ae7 {p:cB} (h:p.Ok):RowW p.ws:=by
 have n1:=MN h.nm;have g:=h.gap;unfold cB.ws;cases e:p.rest with
 | none =>
  refine ⟨?_,by simp,fun z hz=>?_⟩
  ·have ep:Lo ("pot":Str)=[112,111,116]:=by decide +kernel
   show d9 (Lo ("pot":Str)::_)=true
   rw [ep];rfl
  ·simp only [aK,not_mem_nil,or_false] at hz;rcases hz with rfl | rfl | rfl
   ·exact RQ
   ·exact n1
   ·exact qM (by omega) (by omega)
 | some r =>
  have gr:=h.rest r e;refine ⟨?_,by simp,fun z hz=>?_⟩
  ·have ep:Lo ("cactus":Str)=[99,97,99,116,117,115]:=by decide +kernel
   show d9 (Lo ("cactus":Str)::_)=true
   rw [ep];rfl
  ·simp only [aK,not_mem_nil,or_false] at hz;rcases hz with rfl | rfl | rfl | rfl
   ·exact v9
   ·exact n1
   ·exact qM (by omega) (by omega)
   ·exact qM (by omega) (by omega)
theorem CJ (g:gU):(jX g).length<=g.week.toNat:=by
 unfold jX;exact bA (length_filter_le _ _) (by rw [length_range]; exact aH _)
theorem G7 {g:gU} {d:Nat} (h:d ∈ jX g):d < g.week.toNat:=mem_range.mp (mem_filter.mp h).1
theorem p7 {g:gU} (h:yK g):∀ m ∈ g.hns,0<=m/\m < 100:=by
 have:=h.c1;have:=h.c2;have:=h.w1;have:=h.w2;intro m hm;unfold gU.hns at hm;rcases aK.mp hm with ee | hm
 ·rw [ee]; omega
 rcases aK.mp hm with ee | hm
 ·rw [ee]; omega
 obtain ⟨d,hd,rfl⟩:=bJ.mp hm;have:=G7 hd;omega
theorem aat {g:gU} (h:yK g):RowW g.hws:=by
 refine ⟨?_,?_,fun z hz=>?_⟩
 ·have ep:Lo ("garden":Str)=[103,97,114,100,101,110]:=by decide +kernel
  show d9 (Lo ("garden":Str)::_)=true
  rw [ep];rfl
 ·have:=CJ g;have:=h.w2;unfold gU.hws gU.hns;simp only [length_cons,aq];omega
 ·rcases aK.mp hz with rfl | hz
  ·exact v8
  ·obtain ⟨m,hm,rfl⟩:=bJ.mp hz;exact qM (p7 h m hm).1 (p7 h m hm).2
theorem Eu {g:gU} (h:yK g):∀ ws ∈ g.rws,RowW ws:=by
 intro ws hw;rcases aK.mp hw with rfl | hw
 ·exact aat h
 ·obtain ⟨p,hp,rfl⟩:=bJ.mp hw;exact ae7 (h.Ah p hp)
theorem Ew {lines:List Str}:∀ c ∈ qK lines,c.1<=lines.length:=by
 intro c hc;obtain ⟨q,hq,rfl⟩:=bJ.mp (mem_filter.mp hc).1;obtain ⟨i,hi⟩:=mem_iff_getElem?.mp hq;rw [List.getElem?_zipIdx] at hi;obtain ⟨z,hz,rfl⟩:=bB.mp hi;have:=(aP.mp hz).1
 show 0 + i + 1<=_
 omega
theorem RT (g:gU):(jX g).Pairwise (· < ·):=Pairwise.filter _ List.pairwise_lt_range
theorem ahi {g:gU} (h:yK g):jw (g.hws.map Lo)=some (g.cans.toNat,g.week.toNat,jX g):=by
 have en:iw ((g.hns.map fG).map Lo)=some (g.cans.toNat::g.week.toNat::jX g):=by
  rw [oW]
  ·rw [cM,cM]
   congr 1
   refine (List.map_congr_left (g:=Int.toNat) fun m hm=>?_).trans ?_
   ·show (gw (Lo (fG m))).getD 0=_
    rw [Cy (p7 h m hm).1 (p7 h m hm).2];rfl
   ·unfold gU.hns;rw [bw,bw,cM]
    congr 2
    refine (List.map_congr_left fun d _=>?_).trans (List.map_id _);rfl
  ·intro y hy;obtain ⟨z,hz,rfl⟩:=bJ.mp hy;obtain ⟨m,hm,rfl⟩:=bJ.mp hz;rw [Cy (p7 h m hm).1 (p7 h m hm).2];exact Option.some_ne_none _
 have ep:Lo ("garden":Str)=oV:=by decide +kernel
 show (match iw ((g.hns.map fG).map Lo) with | some (c::k::cl)=>if Lo ("garden":Str)=oV/\cl.Pairwise (· < ·)/\∀ d ∈ cl,d < k then some (c,k,cl) else none | _=>none)=_
 rw [en]
 show (if _ then _ else _)=_
 rw [if_pos ⟨ep,RT g,fun d hd=>G7 hd⟩]
theorem G8 {s:Ln}:∀ {ps:List Ln} {p:Ln},p ∈ ps->p.length<=(ju s ps).length
 | [],_,h=>nomatch h
 | [q],p,h=>by rw [aL.mp h]; exact aH _
 | q::r::ps,p,h=>by
  show p.length<=(q++s++ju s (r::ps)).length
  rw [aM,aM];rcases aK.mp h with e | h
  ·rw [e]; omega
  ·have:=G8 (s:=s) h;omega
theorem G9 {x z:Str} (h:z ∈ gA x):z.length<=x.length/\Lo z≠[]:=by
 have h1:=(mem_filter.mp h);have e2:Lo x=ju [32] ((Txt.split x ⟨#[32]⟩).map Lo):=by rw [<- uM ⟨#[32]⟩,StrLaws.join_split]
 refine ⟨?_,fun e=>?_⟩
 ·have:=G8 (s:=[32]) (List.mem_map_of_mem (f:=Lo) h1.1);rw [<- e2,gH,gH] at this;exact this
 ·have h2:=h1.2;rw [yE,e] at h2;cases h2
theorem Jp (x:Str):(gA x).length<=x.length + 2:=by
 have h1:=split_le x ⟨#[32]⟩;have h2:=length_filter_le (fun z=>!decide (V.str z=V.str "")) (Txt.split x ⟨#[32]⟩)
 show ((Txt.split x ⟨#[32]⟩).filter _).length<=_
 omega
theorem RV {ws:List Ln} {c:fL} (h:fX ws=some c):gk c.1=true/\1<=c.2.1/\c.2.1<=60/\∀ r,c.2.2=some r->r < c.2.1:=by
 match ws,h with
 | [],h=>cases h
 | [_],h=>cases h
 | w0::nm::xs,h =>
  change (match iw xs with | some [g]=>if w0=BX/\gk nm=true/\1<=g/\g<=60 then some (nm,g,none) else none | some [g,r]=>if w0=jV/\gk nm=true/\1<=g/\g<=60/\r < g then some (nm,g,some r) else none | _=>none)=some c at h
  split at h
  ·split at h
   ·rename_i z
    cases h;exact ⟨z.2.1,z.2.2.1,z.2.2.2,fun r e=>nomatch e⟩
   ·cases h
  ·split at h
   ·rename_i z
    cases h;exact ⟨z.2.1,z.2.2.1,z.2.2.2.1,fun r e=>by cases e; exact z.2.2.2.2⟩
   ·cases h
  ·cases h
theorem z7 {c:fL} (h:gk c.1=true/\1<=c.2.1/\c.2.1<=60/\∀ r,c.2.2=some r->r < c.2.1):(dG c).Ok:=by
 obtain ⟨h1,h2,h3,h4⟩:=h;refine ⟨?_,⟨by show (1:Int)<=(c.2.1:Nat); omega,by show ((c.2.1:Nat):Int)<=60; omega⟩,fun r e=>?_⟩
 ·show nameV (.str ⟨c.1.toArray⟩)=true
  rw [zX];exact h1
 ·obtain ⟨r',e',rfl⟩:=bB.mp (show c.2.2.map (fun r:Nat=>(r:Int))=some r from e);have:=h4 r' e';exact ⟨by omega,by show (r':Int) < (c.2.1:Nat); omega⟩
theorem yL {Pr:fL->Prop}:∀ {rs:List NR} {acc cs:List fL},gQ acc rs=.ok cs->(∀ c ∈ acc,Pr c)->(∀ ws c,fX ws=some c->Pr c)->∀ c ∈ cs,Pr c
 | [],acc,cs,h,h1,_=>by cases h; exact h1
 | (n,ws)::rs,acc,cs,h,h1,h2=>by
  change (match fX (ws.map Lo) with | none=>(Except.error n:Except Nat (List fL)) | some c=>if c.1 ∈ acc.map (fun z:fL=>z.1) then Except.error n else gQ (acc++[c]) rs)=.ok cs at h
  cases e:fX (ws.map Lo) with
  | none=>rw [e] at h; cases h
  | some c =>
   rw [e] at h
   change (if _ then _ else _)=_ at h
   split at h
   ·cases h
   ·refine yL h (fun d hd=>?_) h2;rcases bZ.mp hd with z | z
    ·exact h1 d z
    ·rw [aL.mp z]; exact h2 _ _ e
theorem CK:∀ {rs:List NR} {acc cs:List fL},gQ acc rs=.ok cs->(acc.map (·.1)).Nodup->(cs.map (·.1)).Nodup
 | [],acc,cs,h,h1=>by cases h; exact h1
 | (n,ws)::rs,acc,cs,h,h1=>by
  change (match fX (ws.map Lo) with | none=>(Except.error n:Except Nat (List fL)) | some c=>if c.1 ∈ acc.map (fun z:fL=>z.1) then Except.error n else gQ (acc++[c]) rs)=.ok cs at h
  cases e:fX (ws.map Lo) with
  | none=>rw [e] at h; cases h
  | some c =>
   rw [e] at h
   change (if _ then _ else _)=_ at h
   split at h
   ·cases h
   ·rename_i nd
    refine CK h ?_;rw [aW];rw [List.nodup_append];refine ⟨h1,Pairwise.cons (fun _ z=>nomatch z) .nil,fun x hx y hy z=>nd ?_⟩;have hyc:y=c.1:=aL.mp hy;rw [<- hyc,<- z];exact hx
theorem Hf {cs:List fL} (h:(cs.map (·.1)).Nodup):((cs.map dG).map cB.nm).Nodup:=by
 rw [cM];have e:(cs.map (cB.nm ∘ dG))=(cs.map (·.1)).map fun l=>(⟨l.toArray⟩:Str):=by rw [cM]; rfl
 rw [e];refine Pairwise.map _ (fun x y ne z=>ne ?_) h;injection z with z;have:=congrArg Array.toList z;simpa using this
noncomputable def qN (lines:List Str):Except Nat gU:=match qK lines with
 | []=>.error (lines.length + 1)
 | c0::cs=>match jw (c0.2.map Lo) with
  | none=>.error c0.1
  | some (c,k,cl)=>match gQ [] cs with
   | .error m=>.error m
   | .ok ps=>if mY (some (ps.map dG)) (.int (c:Nat)) (.int (k:Nat)) (.int (je cl:Nat))=.many then .error (lines.length + 1) else .ok ⟨ps.map dG,(c:Nat),(k:Nat),(je cl:Nat)⟩
def aau (x:Str):Prop:=x.length<=100000/\(Txt.split x ⟨#[10]⟩).length<=99/\∀ z ∈ Txt.split x ⟨#[10]⟩,z.length<=50
structure MP (K:Fg) (mg:Str->Option au) (a:gR) (dV:au):Prop where
 O:MF K mg a
 Z:LQ K mg a dV
 en:mg "enumerate"=none
 xm:exmOne K (.ref a.tooMany) (.ref a.tooMany)=some true
 wi:∃ f fd,Fn K "words_in" "words_in" nq ["line"] f fd/\mg "words_in"=some (.ref f)
 nr:∃ f fd,Fn K "numbered_rows" "numbered_rows" qJ ["lines"] f fd/\mg "numbered_rows"=some (.ref f)
 hi:∃ f fd,Fn K "head_in" "head_in" o7 ["words","row"] f fd/\mg "head_in"=some (.ref f)
 pi:∃ f fd,Fn K "pot_in" "pot_in" rH ["words","row"] f fd/\mg "pot_in"=some (.ref f)
 ps:∃ f fd,Fn K "pots_in" "pots_in" uP ["rows"] f fd/\mg "pots_in"=some (.ref f)
section
variable {P:bT} {w:World} {K:Fg} {mg:Str->Option au} {base:Heap} {a:gR} {dV:au}
def Ey (a:gR):Sp:=fun vs H Q E=>∃ x,vs=[.str x]/\aau x/\(∀ m,qN (Txt.split x ⟨#[10]⟩)=.error m->ur a H E (m:Nat))/\∀ g,qN (Txt.split x ⟨#[10]⟩)=.ok g->∀ H' y,Same H H'->Mg a H' y g->Q (.ref y) H'
theorem p8:bV ae6 ["text"] (aZ G6):=d8 (by decide +kernel)
theorem Hg {f:aA} {fd:dN} (F:oK K "read" "read" G6 f fd) (R:MP K mg a dV):cC P w K mg base (eZ P w) 9 f fd ["text"] (Ey a):=by
 refine F.pR p8 (fun vs H Q E h=>?_) (fun cdv A outer s H vs Q E hr h=>?_)
 ·obtain ⟨x,rfl,_⟩:=h;rfl
 ·obtain ⟨x,rfl,⟨x1,x2,x3⟩,bad,good⟩:=h;have Z:=R.Z;have B:=Z.G.T.B;have X:=R.O.H.R;obtain ⟨fi,di,iF,xi,Jj⟩:=X.br;have Er:mJ P w K mg base (eZ P w) 1 fi di ["self","row"] (qI a):=zU iF.F X;obtain ⟨fw,dw,wF,mW⟩:=R.wi;obtain ⟨fr,dr,rF,mR⟩:=R.nr;obtain ⟨fh,dh,hF,mH⟩:=R.hi;obtain ⟨fp,dp,pF,mP⟩:=R.pi;obtain ⟨fs,ds,sF,mS⟩:=R.ps;have Jy:cC P w K mg base (eZ P w) 2 fr dr ["lines"] yG:=Et rF.F R.en wF mW;have okh:cC P w K mg base (eZ P w) 4 fh dh ["words","row"] (Cw a):=Jl hF.F R.O.H;have Ah:cC P w K mg base (eZ P w) 6 fs ds ["rows"] (Cz a):=Jo sF.F R.O pF mP;have hr2:d7 2 _:=hr.mono (by decide);have hr4:d7 4 _:=hr.mono (by decide);have hr6:d7 6 _:=hr.mono (by decide);refine ⟨_,aN (cj (i:=1) p8.nd rfl (Or.inl rfl) (jd PySem.F.plainAttrs_str PySem.F.slot_str_split PySem.F.type_str_split Bu (pv 0) (aB bQ aJ))) (aN (cj (i:=2) p8.nd rfl (Or.inl rfl) (dH Jy hr2 mR rF.F.kp rF.b cg (aB (pv 1) aJ))) (aN (cj (i:=3) p8.nd rfl (Or.inl rfl) (bO jq (fK eN B.len PySem.boot_len (aB (pv 1) aJ)) aY)) (aN (eY (fM (Am (pv 2) (fun _=>rfl))) (aX (iJ bK rfl (by rfl) X.m xi Jj PySem.F.excBase_ValueError Er.fn hr2 iF.b (aB (pv 3) aJ))) cW) (aN (cj (i:=4) p8.nd rfl (Or.inl rfl) (dH okh hr4 mH hF.F.kp hF.b (dU bK) (aB (fJ vg (fJ jg (pv 2) aY (fun _ _=>rfl)) aY (fun _ _=>rfl)) (aB (fJ vg (fJ jg (pv 2) aY (fun _ _=>rfl)) aY (fun _ _=>rfl)) aJ)))) (aN (cj (i:=5) p8.nd rfl (Or.inl rfl) (dH Ah hr6 mS sF.F.kp sF.b (dU bK) (aB (iT jT (pv 2) (jR aY) jQ) aJ))) (aX (Gw (hit:=fun cls=>cls=.ref a.tooMany) bK rfl ⟨_,_,rfl,rfl,rfl⟩ p8.nd (i:=6) rfl rfl (by rfl) Z.G.tooMany.m (fun cls h=>by rw [h]; exact R.xm) (fun E' jN Eb σ acc=>vL (zH (Ed Z.kG (aeW Z) hr Z.ajs Z.b4 .nil acc (aB (pv 5) (aB (fJ (zx K) (pv 4) aY (fun _ _=>rfl)) (aB (fJ (zx K) (pv 4) aY (fun _ _=>rfl)) (aB (fJ (zx K) (pv 4) aY (fun _ _=>rfl)) aJ))))))) (fun e E' jN acc=>aX (yq (h:=e) acc rfl (by rfl) X.m xi Jj PySem.F.excBase_ValueError Z.G.tooMany.m Z.G.tooMany.q PySem.F.excBase_ValueError Er (gY.mark hr2.toH) iF.b (aB (pv 3) aJ) (pv 6)))))))))),?_⟩;have big:1000000<=sizeLine:=by decide
  refine ⟨_,rfl,rfl,x,_,rfl,rfl,rfl,by omega,fun p hp=>?_⟩;rw [show (Str.ofString "\n":Str)=⟨#[10]⟩ from jy];generalize Txt.split x ⟨#[10]⟩=lines at x2 x3 bad good ⊢;have s1:=aQ (o:=.lst (lines.map V.str)) hp;have hp1:upd H p (.lst (lines.map V.str)) p=some (.lst (lines.map V.str)):=aC;generalize upd H p (.lst (lines.map V.str))=H1 at s1 hp1 ⊢;refine ⟨_,rfl,p,lines,rfl,hp1,by omega,fun z hz=>by have:=x3 z hz; omega,fun H2 q2 s2 r2=>?_⟩;refine ⟨_,rfl,p,_,rfl,.inl (cY.of (s2 _ _ hp1)),_,_,rfl,rfl,?_⟩;have eb:((fun i j:Int=>V.int (i + j)) (((lines.map V.str).length:Nat):Int) 1)=V.int ((lines.length + 1:Nat):Int):=by
   show V.int _=V.int _
   rw [aq];rfl
  rw [eb];have sm:=Ew (lines:=lines);have wd:∀ c ∈ qK lines,c.1<=1000/\c.2≠[]/\c.2.length<=60/\∀ y ∈ c.2,Lo y≠[]/\y.length<=100000:=by
   intro c hc;have h1:=sm c hc;obtain ⟨hm,hg⟩:=mem_filter.mp hc;obtain ⟨qq,hq,rfl⟩:=bJ.mp hm;have hz:qq.1 ∈ lines:=by
    obtain ⟨i,hi⟩:=mem_iff_getElem?.mp hq;rw [List.getElem?_zipIdx] at hi;obtain ⟨z,hz,rfl⟩:=bB.mp hi;exact aV hz
   have lz:=x3 _ hz;refine ⟨by omega,fun e=>?_,?_,fun y hy=>⟨(G9 hy).2,?_⟩⟩
   ·change gA qq.1=[] at e
    change d9 ((gA qq.1).map Lo)=true at hg
    rw [e] at hg;cases hg
   ·have:=Jp qq.1
    show (gA qq.1).length<=60
    omega
   ·have:=(G9 hy).1;omega
  have aav:(qK lines).length<=99:=by
   unfold qK allR;have:=length_filter_le (fun c:NR=>d9 (c.2.map Lo)) (lines.zipIdx.map fun q=>((q.2 + 1,gA q.1):NR));rw [aq,List.length_zipIdx] at this;omega
  have s12:=s1.trans s2;unfold qN at bad good;cases er:qK lines with
  | nil =>
   rw [er] at r2 bad;obtain ⟨_,vs,el,hv,Oo⟩:=id r2;cases el;cases Oo;refine ⟨_,rfl,false,.inl ⟨_,cY.of hv,rfl⟩,c7 ⟨_,rfl,jx (rE (by omega) (by omega)) ((bad _ rfl).from s12)⟩⟩
  | cons c0 cs =>
   rw [er] at r2 wd bad good aav;obtain ⟨_,vs,el,hv,Oo⟩:=id r2;cases el;cases Oo with
   | @cons v0 _ vt _ r0 rt =>
    obtain ⟨t0,l0,rfl,ht0,hl0⟩:=r0;obtain ⟨w1,w2,w3,w4⟩:=wd c0 (by simp);refine ⟨_,rfl,true,.inl ⟨_,cY.of hv,rfl⟩,dI ?_⟩;refine ⟨_,rfl,q2,_,0,_,rfl,rfl,cY.of hv,dR (j:=0) rfl,t0,_,1,_,rfl,rfl,tY.of ht0,rfl,_,rfl,q2,_,0,_,rfl,rfl,cY.of hv,dR (j:=0) rfl,t0,_,0,_,rfl,rfl,tY.of ht0,rfl,?_⟩;dsimp only at bad good;refine ⟨l0,c0.2,_,rfl,hl0,w2,w3,w4,rE (by omega) (by omega),(fun e=>by rw [e] at bad; exact (bad _ rfl).from s12),fun c k cl H3 t e s3 ht=>?_⟩;rw [e] at bad good;refine ⟨_,rfl,1,rfl,q2,_,rfl,cY.of (s3 _ _ hv),fun sl hsl=>?_⟩;rw [show pB (V.ref t0::vt) (some 1) none=vt from lA 1];have s4:=aQ (o:=.lst vt) hsl;have s14:=s12.trans (s3.trans s4);dsimp only at bad good;refine ⟨sl,cs,rfl,⟨sl,vt,rfl,aC,Paired.mX rt fun _ _ z=>Mt.same z (s3.trans s4)⟩,by rw [length_cons] at aav; omega,fun c hc=>wd c (by simp [hc]),(fun m em=>by rw [em] at bad; exact (bad _ rfl).from s14),fun ps H5 m as ep s5 hm pt=>?_⟩;rw [ep] at bad good;dsimp only at bad good;have s15:=s14.trans s5;have ht5:=(s4.trans s5) _ _ ht;have LK:∀ q ∈ ps.map dG,q.Ok:=fun q hq=>by
     obtain ⟨c,hc,rfl⟩:=bJ.mp hq;exact z7 (yL ep (fun _ z=>nomatch z) (fun _ _ z=>RV z) c hc)
    have la:as.length=(ps.map dG).length:=Paired.length pt;have lps:ps.length<=99:=by
     have:∀ {rs:List NR} {acc cs':List fL},gQ acc rs=.ok cs'->cs'.length=acc.length + rs.length:=by
      intro rs
      induction rs with
      | nil=>intro acc cs' h; cases h; rfl
      | cons q rs ih =>
       intro acc cs' h;obtain ⟨n,ws⟩:=q
       change (match fX (ws.map Lo) with | none=>(Except.error n:Except Nat (List fL)) | some c=>if c.1 ∈ acc.map (fun z:fL=>z.1) then Except.error n else gQ (acc++[c]) rs)=.ok cs' at h
       cases e:fX (ws.map Lo) with
       | none=>rw [e] at h; cases h
       | some c =>
        rw [e] at h
        change (if _ then _ else _)=_ at h
        split at h
        ·cases h
        ·rw [ih h,aM]
         show acc.length + 1 + rs.length=acc.length + (rs.length + 1)
         omega
     have:=this ep;rw [length_cons] at aav;simp at this;omega
    refine ⟨fun cls dx H'=>cls=.ref a.tooMany/\dx=none/\Same H5 H'/\mY (some (ps.map dG)) (.int (c:Nat)) (.int (k:Nat)) (.int (je cl:Nat))=.many,?_,?_⟩
    ·rintro _ _ H6 ⟨rfl,rfl,s6,mn⟩;refine ⟨rfl,fun e he=>⟨rfl,_,rfl,G3 (rE (by omega) (by omega)) aC (fun H' dx s' hx=>bad _ ?_ H' dx ((s15.trans s6).trans ((aQ he).trans s')) hx)⟩⟩;rw [if_pos mn]
    refine ⟨_,rfl,_,rfl,t,_,0,_,rfl,rfl,tY.of ht5,rfl,_,rfl,t,_,1,_,rfl,rfl,tY.of ht5,rfl,_,rfl,t,_,2,_,rfl,rfl,tY.of ht5,rfl,?_⟩;refine aal (kc:=.int) (kw:=.int) (kl:=.int) (xH.pots (as:=as) (ps:=ps.map dG) ⟨m,_,rfl,.inl hm⟩ (cY.of hm) (by rw [la,aq]; omega) pt LK) ⟨_,rfl⟩ ⟨_,rfl⟩ ⟨_,rfl⟩ ⟨fun e=>?_,fun e H' s'=>⟨rfl,rfl,s',e⟩,fun e ps' ci wi li H' y h1 h2 h3 h4 hy s' g=>?_⟩
    ·exfalso
     have nd:=Hf (CK ep .nil)
     change vX _ _ _ _=_ at e
     unfold vX at e
     by_cases c1:vW (ps.map dG).length (.int (c:Nat)) (.int (k:Nat)) (.int (je cl:Nat))=false
     ·rw [if_pos c1] at e;cases e
     ·rw [if_neg c1,if_neg (fun z=>z nd)] at e
      change (if 20000 < sizeOf _ _ then RJ.many else RJ.ok)=.bad at e
      split at e <;> cases e
    ·cases h1; cases h2; cases h3; cases h4;refine good _ ?_ H' y (s15.trans s') g.at;rw [if_neg (by rw [e]; decide)]
end
abbrev nJ:cQ:=top 30
abbrev ae9:List Str:=["garden","closed","head","rows"]
def iW (ws:List Str):Str:=Txt.join ⟨#[32]⟩ ws
def afa (wss:List (List Str)):Str:=Txt.join ⟨#[10]⟩ (wss.map iW)
theorem aaw {ws:List Str} (h:RowW ws):JoinOk ⟨#[32]⟩ ws=true:=qF (m:=12) (fun z hz=>(h.2.2 z hz).1) (by
 have:=h.2.1;have:ws.length * (12 + 1)<=17 * (12 + 1):=Nat.mul_le_mul_right _ this
 show ws.length * (12 + 1)<=_
 omega)
theorem RW {ws:List Str} (h:RowW ws):(iW ws).length<=221:=by
 have h1:=Cd (s:=⟨#[32]⟩) (m:=12) fun z hz=>(h.2.2 z hz).1
 have:=h.2.1;have:ws.length * (12 + 1)<=17 * (12 + 1):=Nat.mul_le_mul_right _ this
 change (iW ws).length<=ws.length * (12 + 1) at h1
 omega
theorem M4 {wss:List (List Str)} (h:∀ ws ∈ wss,RowW ws) (n9:wss.length<=9):JoinOk ⟨#[10]⟩ (wss.map iW)=true:=qF (m:=221) (fun z hz=>by
 obtain ⟨ws,hw,rfl⟩:=bJ.mp hz;exact RW (h ws hw)) (by
 rw [aq];have:wss.length * (221 + 1)<=9 * (221 + 1):=Nat.mul_le_mul_right _ n9
 show wss.length * (221 + 1)<=_
 omega)
section
variable {P:bT} {w:World} {K:Fg} {mg:Str->Option au} {base:Heap} {a:gR} {dV:au}
theorem Jq {H0:Hp} {as:List aA} {ps:List cB} (h:j5 a H0 as ps):Paired (fun v (p:cB)=>∃ b,v=V.ref b/\fY a H0 b p) (as.map V.ref) ps:=by
 induction h with
 | nil=>exact .nil
 | cons r _ ih=>exact .cons ⟨_,rfl,r⟩ ih
def T8 (a:gR):Sp:=fun vs H Q _=>∃ x g,vs=[.ref x]/\Mg a H x g/\yK g/\∀ H',Same H H'->Q (.str (afa g.rws)) H'
theorem Hh:bV ae9 ["garden"] (aZ nJ):=d8 (by decide +kernel)
theorem aax {f:aA} {fd:dN} (F:oK K "written" "written" nJ f fd) (W:Mp K mg a dV):cC P w K mg base (eZ P w) 2 f fd ["garden"] (T8 a):=by
 refine F.pR Hh (fun vs H Q E h=>?_) (fun cdv A outer s H vs Q E hr h=>?_)
 ·obtain ⟨x,g,rfl,_⟩:=h;rfl
 ·obtain ⟨x,g,rfl,gx,M5,q⟩:=h;have Z:=W.Z;have T:=Z.G.T;have B:=T.B;obtain ⟨fi,di,iF,mI⟩:=W.ajw;have Er:cC P w K mg base (eZ P w) 1 fi di ["number","bit"] GR:=Mq iF.F;have kI:=iF.F.kp;have bI:=iF.b;have ndD:[("day":Str),"garden"].Nodup:=by decide +kernel
  refine ⟨_,aN (qy (i:=1) Hh.nd rfl (Or.inl rfl) bK rfl ⟨_,_,rfl,rfl,rfl⟩ (oO (N':=["day","garden"]) (cl:=[("garden",s.heap.objs.size + 1)]) [none,some 0] ae9 (aZ nJ).names [(".0",.local),("day",.local),("is_set",.globalImplicit),("garden",.cell)] ["garden"] rfl (by decide +kernel) (by decide +kernel) rfl (fun p hp=>by rw [aL.mp hp]; rfl) rfl rfl rfl rfl (by decide +kernel) rfl (by decide +kernel)) (qR rfl B.range (aB (fP (pv 0) rfl) aJ)) (fun _ _ _ _ _=>fj 0 ndD) (fun _ _ _ _ _=>uJ (fU (dH Er hr mI kI bI cg (aB (Ky K (pv 1)) (aB (pv 0) aJ))))) (fun _ _ _ _ _ _=>pv 0)) (aN (cj (i:=2) Hh.nd rfl (Or.inl rfl) (bO fu (cX (aB bQ aJ)) (gG bK rfl ⟨_,_,rfl,rfl,rfl⟩ (eU.plain (N':=["number"]) rfl (by decide +kernel) (by decide +kernel)) (eX (bO fu (cX (aB (fP (pv 0) rfl) (aB (fP (pv 0) rfl) aJ))) (pv 1))) (fun _ _ _ _ _=>fj 0 (show [("number":Str)].Nodup by decide +kernel)) (fun _ _ _ _ _=>gj) (fun _ _ _ _ _ _=>ni gM B.str boot_str (aB (pv 0) aJ))))) (aN (cj (i:=3) Hh.nd rfl (Or.inl rfl) (bO fu (cX (aB (pv 2) aJ)) (gG bK rfl ⟨_,_,rfl,rfl,rfl⟩ (eU.plain (N':=["pot"]) rfl (by decide +kernel) (by decide +kernel)) (eX (fP (pv 0) rfl)) (fun _ _ _ _ _=>fj 0 (show [("pot":Str)].Nodup by decide +kernel)) (fun _ _ _ _ _=>gj) (fun _ _ _ _ _ _=>Iu (Cs:=fun C=>C=a.pot\/C=a.cactus) (sp:=uO a) (pv 0) hr W.words cg)))) (aX (cU (jd PySem.F.plainAttrs_str PySem.F.slot_str_join PySem.F.type_str_join (iQ K) bQ (aB (gG bK rfl ⟨_,_,rfl,rfl,rfl⟩ (eU.plain (N':=["words"]) rfl (by decide +kernel) (by decide +kernel)) (eX (pv 3)) (fun _ _ _ _ _=>fj 0 (show [("words":Str)].Nodup by decide +kernel)) (fun _ _ _ _ _=>gj) (fun _ _ _ _ _ _=>zA K PySem.F.plainAttrs_str PySem.F.slot_str_join PySem.F.type_str_join (iQ K) bQ (aB (pv 0) aJ))) aJ)))))),?_⟩;obtain ⟨dx,l,as,hx,hl,pt⟩:=id gx;have la:as.length=g.pots.length:=Paired.length pt;have n8:=M5.n8;have w1:=M5.w1;have w2:=M5.w2;have big:1000<=sizeLine:=by decide
  refine ⟨_,rfl,x,a.garden,dx,_,_,rfl,hx,Z.tG.cl,Z.nG _ (by simp),Ek ..,_,rfl,by omega,by omega,fun D hD=>?_⟩;refine DR lU (fun d=>Bq g.closed (d:Int)) (fun d:Nat=>(d:Int)) rfl (by omega) hD ?_ ?_
  ·intro i H2 lt s2 Qc Qn k kn;refine ⟨iI,?_⟩;refine ⟨_,rfl,x,a.garden,dx,_,_,rfl,s2 _ _ hx,Z.tG.cl,Z.nG _ (by simp),Mf ..,_,rfl,_,_,rfl,by omega,_,rfl,?_⟩;cases e:Bq g.closed (i:Int) with
   | true=>exact c7 ⟨_,rfl,k e _ _ (Same.refl _) rfl⟩
   | false=>exact dI (kn e _ (Same.refl _))
  intro H1 s1 r1;obtain ⟨_,vs1,el1,hv1,pv1⟩:=id r1;cases el1;rw [nH pv1] at hv1;have ld:=CJ g;have ld':(((List.range g.week.toNat).filter fun d:Nat=>Bq g.closed (d:Int)).map fun d:Nat=>(d:Int))=(jX g).map fun d:Nat=>(d:Int):=rfl
  rw [ld'] at hv1;have hx1:=s1 _ _ hx;refine ⟨by show 1<=sizeLine; decide,fun c1 hc1=>?_⟩;have t1:=aQ (o:=.lst [V.str "garden"]) hc1;have hx2:=t1 _ _ hx1;refine ⟨_,rfl,x,a.garden,dx,_,_,rfl,hx2,Z.tG.cl,Z.nG _ (by simp),aah ..,_,rfl,x,a.garden,dx,_,_,rfl,hx2,Z.tG.cl,Z.nG _ (by simp),Ek ..,by show 2<=sizeLine; decide,fun c2 hc2=>?_⟩;have t2:=aQ (o:=.lst [V.int g.cans,.int g.week]) hc2;refine ⟨_,rfl,c2,D,_,_,rfl,rfl,aC,(t1.trans t2) _ _ hv1,?_,fun c3 hc3=>?_⟩
  ·simp only [aq,length_cons,length_nil];omega
  have t3:=aQ (o:=.lst ([V.int g.cans,.int g.week]++((jX g).map fun d:Nat=>(d:Int)).map V.int)) hc3;have RX:upd (upd (upd H1 c1 (.lst [V.str "garden"])) c2 (.lst [V.int g.cans,.int g.week])) c3 (.lst ([V.int g.cans,.int g.week]++((jX g).map fun d:Nat=>(d:Int)).map V.int)) c3=some (.lst (g.hns.map V.int)):=aC;have aay:=(t2.trans t3) _ _ (aC (H:=H1) (a:=c1) (o:=.lst [V.str "garden"]));have s3:Same H (upd (upd (upd H1 c1 (.lst [V.str "garden"])) c2 (.lst [V.int g.cans,.int g.week])) c3 (.lst ([V.int g.cans,.int g.week]++((jX g).map fun d:Nat=>(d:Int)).map V.int))):=s1.trans (t1.trans (t2.trans t3));clear t1 t2 t3 hx2;generalize upd (upd (upd H1 c1 (.lst [V.str "garden"])) c2 (.lst [V.int g.cans,.int g.week])) c3 (.lst ([V.int g.cans,.int g.week]++((jX g).map fun d:Nat=>(d:Int)).map V.int))=H3 at RX aay s3 ⊢;refine ⟨c3,rfl,⟨_,cY.of RX⟩,fun E1 hE1=>?_⟩;have lh:g.hns.length<=16:=by
   unfold gU.hns;simp only [aq,length_cons];omega
  refine vG (K:=K) lU jh fG (xs:=g.hns) ⟨c3,_,rfl,RX,yI _⟩ (by omega) hE1 ?_ ?_
  ·intro i m v H4 hi rv s4 Qc kk;cases rv;have:=p7 M5 m (aV hi);exact ⟨iI,_,rfl,_,rfl,nj (by omega) (by omega),kk _ _ (Same.refl _) rfl⟩
  intro H4 s4 r4;obtain ⟨_,vs4,el4,hv4,pv4⟩:=id r4;cases el4;rw [nu pv4] at hv4;refine ⟨c1,E1,_,_,rfl,rfl,s4 _ _ aay,hv4,?_,fun hd hhd=>?_⟩
  ·simp only [aq,length_cons,length_nil];omega
  have t5:=aQ (o:=.lst ([V.str "garden"]++(g.hns.map fG).map V.str)) hhd;have hh5:upd H4 hd (.lst ([V.str "garden"]++(g.hns.map fG).map V.str)) hd=some (.lst (g.hws.map V.str)):=aC;have s5:Same H (upd H4 hd (.lst ([V.str "garden"]++(g.hns.map fG).map V.str))):=s3.trans (s4.trans t5);generalize upd H4 hd (.lst ([V.str "garden"]++(g.hns.map fG).map V.str))=H5 at hh5 s5 ⊢;clear t5 hv4 r4 pv4 s4 hE1 RX aay s3;refine ⟨_,rfl,by show 1<=sizeLine; decide,fun b1 hb1=>?_⟩;have t6:=aQ (o:=.lst [V.ref hd]) hb1;have s6:=s5.trans t6;have hx6:=s6 _ _ hx;have hl6:=s6 _ _ hl;refine ⟨_,rfl,x,a.garden,dx,_,_,rfl,hx6,Z.tG.cl,Z.nG _ (by simp),Ma ..,l,rfl,⟨_,cY.of hl6⟩,fun E2 hE2=>?_⟩;have pt6:=pt.same s6;have rp:jO (fun _ v (p:cB)=>∃ b,v=.ref b/\fY a (upd H5 b1 (.lst [V.ref hd])) b p) (upd H5 b1 (.lst [V.ref hd])) (.ref l) g.pots:=⟨l,_,rfl,hl6,Jq pt6⟩;obtain ⟨go,stop,yl⟩:=qC (K:=K) (R:=fun _ v (p:cB)=>∃ b,v=.ref b/\fY a (upd H5 b1 (.lst [V.ref hd])) b p) (fun h _=>h) rp;refine rm (R:=fun _ v (p:cB)=>∃ b,v=.ref b/\fY a (upd H5 b1 (.lst [V.ref hd])) b p) (S:=uE E2) uE.same uE.upd (xs:=g.pots) (fun _=>true) cB.ws (fun _=>True) (by omega) hE2 go stop yl ?_ ?_
  ·rintro i p v H7 hi ⟨b,rfl,pb⟩ s7 ⟨acc,hacc⟩ Qc Qn k kn;obtain ⟨db,hb⟩:=pb.same s7;have pok:=M5.Ah p (aV hi);refine ⟨eO,?_⟩
   show if true=true then _ else Qn H7
   rw [if_pos rfl];refine ⟨_,rfl,b,p.cls a,db,_,rfl,hb,p.lV,p.aeM (by decide +kernel) (by decide +kernel) (by decide +kernel),b,p,rfl,rfl,⟨db,hb⟩,pok,fun H8 m s8 fm hm=>k rfl trivial _ _ s8 ⟨m,rfl,fun z=>?_,hm⟩⟩;rw [z,hacc] at fm;cases fm
  intro H7 s7 _ r7;rw [filter_eq_self.mpr fun _ _=>rfl] at r7;obtain ⟨_,vs7,el7,hv7,pv7⟩:=id r7;cases el7;have l7:vs7.length=g.pots.length:=by rw [Paired.length pv7,aq]
  refine ⟨b1,E2,_,_,rfl,rfl,s7 _ _ aC,hv7,by rw [l7]; show 1 + _<=_; omega,fun rs hrs=>?_⟩;have t8:=aQ (o:=.lst ([V.ref hd]++vs7)) hrs;have s8:=(s6.trans s7).trans t8;have hh8:=(t6.trans (s7.trans t8)) _ _ hh5;have aaA:upd H7 rs (.lst ([V.ref hd]++vs7)) rs=some (.lst ([V.ref hd]++vs7)):=aC;have pv8:Paired (TX (upd H7 rs (.lst ([V.ref hd]++vs7)))) ([V.ref hd]++vs7) g.rws:=.cons ⟨hd,rfl,hh8⟩ (Paired.mX pv7 fun _ _ z=>(uE.to z).same t8);generalize upd H7 rs (.lst ([V.ref hd]++vs7))=H8 at s8 aaA pv8 ⊢;refine ⟨rfl,_,rfl,rs,rfl,⟨_,cY.of aaA⟩,fun E3 hE3=>?_⟩;have r8:jO (fun _ v c=>TX H8 v c) H8 (.ref rs) g.rws:=⟨rs,_,rfl,aaA,pv8⟩;obtain ⟨go,stop,yl⟩:=qC (K:=K) (R:=fun _ v c=>TX H8 v c) (fun h _=>h) r8;have l9:g.rws.length<=9:=by
   unfold gU.rws;rw [length_cons,aq];omega
  refine oU (R:=fun _ v c=>TX H8 v c) jh (xs:=g.rws) (fun _=>true) iW (fun _=>True) (by omega) hE3 go stop yl ?_ ?_
  ·rintro i ws v H9 hi ⟨m,rfl,hm⟩ s9 Qc Qn k kn;have HX:=Eu M5 ws (aV hi);refine ⟨eO,?_⟩
   show if true=true then _ else Qn H9
   rw [if_pos rfl];refine ⟨rfl,_,rfl,_,m,ws,rfl,rfl,cY.of (s9 _ _ hm),?_,k rfl trivial _ _ (Same.refl _) ?_⟩
   ·rw [show (Str.ofString " ":Str)=⟨#[32]⟩ from jj];exact aaw HX
   ·rw [show (Str.ofString " ":Str)=⟨#[32]⟩ from jj];rfl
  intro H9 s9 _ r9;rw [filter_eq_self.mpr fun _ _=>rfl] at r9;obtain ⟨_,vs9,el9,hv9,pv9⟩:=id r9;cases el9;rw [nu pv9] at hv9;refine ⟨_,E3,g.rws.map iW,rfl,rfl,cY.of hv9,?_,?_⟩
  ·rw [show (Str.ofString "\n":Str)=⟨#[10]⟩ from jy];exact M4 (Eu M5) l9
  ·rw [show (Str.ofString "\n":Str)=⟨#[10]⟩ from jy];exact q H9 (s8.trans s9)
end
abbrev wg:cQ:=top 42
theorem RZ {X:Cx} (K:Fg) (hu:X.A.units + 64 < cLine) (hK:autoParam (X.K=K) zau0):pI X (compareOp .NotEq) (Kq K true):=by
 subst hK;exact Kr hu
section
variable {P:bT} {w:World} {K:Fg} {mg:Str->Option au} {base:Heap} {a:gR} {dV:au}
theorem wj {H H':Hp} {e C:aA} {fs:List (Str × V)} (x:ExcAt H e C fs) (s:Same H H'):ExcAt H' e C fs:=by
 obtain ⟨dx,h1,h2⟩:=x;exact ⟨dx,s _ _ h1,s _ _ h2⟩
theorem wu {H H':Hp} {e C:aA} (x:vJ H e C) (s:Same H H'):vJ H' e C:=by
 rcases x with h | ⟨fs,h⟩
 ·exact .inl (s _ _ h)
 ·exact .inr ⟨fs,wj h s⟩
def CN (K:Fg) (a:gR):Sp:=fun vs H Q _=>∃ e C j,vs=[.ref e]/\vJ H e C/\XC K a C j/\∀ H' l,Same H H'->H' l=some (.lst (hot j))->Q (.ref l) H'
theorem Jr {f:aA} {fd:dN} (F:oK K "_law_sorts" "_law_sorts" zQ f fd) (N:En mg a):mJ P w K mg base (eZ P w) 1 f fd ["_law_error"] (CN K a):=by
 refine F.okH GQ (fun vs H Q E h=>?_) (fun cdv A outer s H vs Q E hr h=>?_)
 ·obtain ⟨e,C,j,rfl,_⟩:=h;rfl
 ·obtain ⟨e,C,j,rfl,he,x,q⟩:=h;refine ⟨_,aN (cj (i:=1) GQ.nd rfl (Or.inl rfl) (cX (aB (fK (jt K) N.is boot_isinstance (aB (pv 0) (aB (mK (.ref a.cu) N.n0 rfl) aJ))) (aB (fK (jt K) N.is boot_isinstance (aB (pv 0) (aB (mK (.ref a.tooMany) N.n1 rfl) aJ))) (aB (fK (jt K) N.is boot_isinstance (aB (pv 0) (aB (mK (.ref a.uh) N.n2 rfl) aJ))) aJ))))) (aX (cU (bO fu (pv 1) (cX (aB (fK (jt K) N.is boot_isinstance (aB (pv 0) (aB (mK (.ref a.pW) N.n3 rfl) aJ))) (aB (fK (jt K) N.is boot_isinstance (aB (pv 0) (aB (mK (.ref a.bM) N.n4 rfl) aJ))) (aB (fK (jt K) N.is boot_isinstance (aB (pv 0) (aB (mK (.ref a.jW) N.n5 rfl) aJ))) aJ))))))),?_⟩;refine ⟨_,rfl,e,C,_,_,_,rfl,rfl,⟨_,.inl rfl⟩,he,x.t,x.b0,_,rfl,e,C,_,_,_,rfl,rfl,⟨_,.inl rfl⟩,he,x.t,x.b1,_,rfl,e,C,_,_,_,rfl,rfl,⟨_,.inl rfl⟩,he,x.t,x.b2,by show 3<=sizeLine; decide,fun l1 h1=>?_⟩;have s1:=aQ (o:=.lst [V.bl (0 == j),.bl (1 == j),.bl (2 == j)]) h1;have he1:=wu he s1;refine ⟨_,rfl,_,rfl,e,C,_,_,_,rfl,rfl,⟨_,.inl rfl⟩,he1,x.t,x.b3,_,rfl,e,C,_,_,_,rfl,rfl,⟨_,.inl rfl⟩,he1,x.t,x.b4,_,rfl,e,C,_,_,_,rfl,rfl,⟨_,.inl rfl⟩,he1,x.t,x.b5,by show 3<=sizeLine; decide,fun l2 h2=>?_⟩;have s2:=aQ (o:=.lst [V.bl (3 == j),.bl (4 == j),.bl (5 == j)]) h2;refine ⟨l1,l2,_,_,rfl,rfl,s2 _ _ aC,aC,by show 6<=sizeLine; decide,fun l3 h3=>?_⟩;exact q _ l3 ((s1.trans s2).trans (aQ h3)) aC
structure R0 (K:Fg) (mg:Str->Option au) (a:gR) (dV:au):Prop where
 R:MP K mg a dV
 N:En mg a
 x4:XC K a a.bM 4
 dh:hasDictIn K a.bM=true
 dn:findIn K (.ref a.bM) "row"=some none
 so:∃ f fd,Fn K "_law_sorts" "_law_sorts" zQ ["_law_error"] f fd/\mg "_law_sorts"=some (.ref f)
 rd:∃ f fd,Fn K "read" "read" G6 ["text"] f fd/\mg "read"=some (.ref f)
def wz (lines:List Str):Int:=match qN lines with
 | .error m=>(m:Nat)
 | .ok _=>0
def Ez:Sp:=fun vs H Q _=>∃ x,vs=[.str x]/\aau x/\∀ H',Same H H'->Q (.int (wz (Txt.split x ⟨#[10]⟩))) H'
theorem M6:bV ["_law_text","_law_error"] ["_law_text"] (aZ wg):=d8 (by decide +kernel)
theorem Hi {f:aA} {fd:dN} (F:oK K "_law_refused" "_law_refused" wg f fd) (Z:R0 K mg a dV):cC P w K mg base (eZ P w) 10 f fd ["_law_text"] Ez:=by
 refine F.pR M6 (fun vs H Q E h=>?_) (fun cdv A outer s H vs Q E hr h=>?_)
 ·obtain ⟨x,rfl,_⟩:=h;rfl
 ·obtain ⟨x,rfl,tx,q⟩:=h;have N:=Z.N;obtain ⟨fr,dr,rF,mR⟩:=Z.rd;have Jy:cC P w K mg base (eZ P w) 9 fr dr ["text"] (Ey a):=Hg rF.F Z.R;obtain ⟨fs,ds,sF,mS⟩:=Z.so;have Ah:mJ P w K mg base (eZ P w) 1 fs ds ["_law_error"] (CN K a):=Jr sF.F N;refine ⟨_,aN (Kg (hit:=fun cls=>exmOne K cls (.ref a.uG)=some true) rfl ⟨_,_,rfl,rfl,rfl⟩ M6.nd (i:=1) rfl rfl (by rfl) N.ge (fun _ h=>h) (fun E' jN Eb acc=>aX (jf (dH Jy hr mR rF.F.kp rF.b (dU acc) (aB (pv 0) aJ)))) (fun e=>aN (eY (PW.pt (pw_or (dj (RZ K hr.units) (Kl Ah (gY.mark (hr.mono (by decide)).toH) (by rfl) mS sF.F.kp sF.b .nil cg (aB (pv 1) aJ)) (bO fu (bO yW (cX (cR [.bl false] rfl)) aY) (cX (cR [.bl true,.bl false] rfl))) (dM _)) (pw_or1 (fM (fU (fK (jt K) N.is boot_isinstance (aB (pv 1) (aB (Gn (T:="ValueError") (by rfl) N.ve (by decide +kernel)) aJ)))))))) (aX (cU (Tj JK aY))) cW) (aX (cU (Q7 K (pv 1)))))) (aX (cU aY)),?_⟩;refine ⟨_,rfl,x,rfl,tx,fun m em H1 dx s1 hx=>⟨Z.x4.m,fun e he=>?_⟩,fun g eg H1 y s1 _=>?_⟩
  ·have er:wz (Txt.split x ⟨#[10]⟩)=(m:Nat):=by unfold wz; rw [em]
   rw [er] at q;have s0:=aQ (o:=lR e (.ref a.bM) (some dx)) he;have ea:ExcAt (upd H1 e (lR e (.ref a.bM) (some dx))) e a.bM [("row",.int (m:Nat))]:=⟨dx,aC,s0 _ _ hx⟩;have hx0:vJ (upd H1 e (lR e (.ref a.bM) (some dx))) e a.bM:=.inr ⟨_,ea⟩;refine ⟨_,rfl,e,a.bM,4,rfl,hx0,Z.x4,fun H2 l s2 hl=>?_⟩;refine ⟨by show 1<=sizeLine; decide,fun l1 hl1=>⟨l1,4,_,rfl,rfl,aC,by decide,by decide,by show 4<=sizeLine; decide,fun l2 hl2=>⟨by show 2<=sizeLine; decide,fun l3 hl3=>?_⟩⟩⟩;have u1:=aQ (o:=.lst [V.bl false]) hl1;have u2:=aQ (o:=.lst (List.replicate (4:Int).toNat [V.bl false]).flatten) hl2;have u3:=aQ (o:=.lst [V.bl true,.bl false]) hl3;refine ⟨l2,l3,_,_,rfl,rfl,u3 _ _ aC,aC,by show 6<=sizeLine; decide,fun l4 hl4=>?_⟩;have u4:=aQ (o:=.lst ((List.replicate (4:Int).toNat [V.bl false]).flatten++[V.bl true,.bl false])) hl4;have sA:=((u1.trans u2).trans u3).trans u4;have hx1:=wu hx0 (s2.trans sA);have ea1:=wj ea (s2.trans sA);refine ⟨l,l4,hot 4,hot 4,0,fun _=>true,rfl,rfl,cY.of (sA _ _ hl),cY.of aC,by decide,fun _ j x y e1 e2=>?_,fun _=>⟨false,rfl,dI ?_⟩,fun z=>absurd rfl z⟩
   ·rw [e1] at e2;cases e2;exact Mj (all_eq_true.mp (show (hot 4).all ud=true from rfl) x (aV e1))
   ·refine ⟨_,rfl,e,a.bM,.ty "ValueError",_,_,rfl,rfl,⟨e,.inr ⟨_,rfl⟩⟩,hx1,Z.x4.t,Z.x4.v,_,rfl,dI ?_⟩;exact ⟨_,rfl,e,_,_,_,rfl,ea1,Z.x4.t,Z.dh,Z.dn,rfl,q _ ((s1.trans s0).trans (s2.trans sA))⟩
  ·have er:wz (Txt.split x ⟨#[10]⟩)=0:=by unfold wz; rw [eg]
   rw [er] at q;exact q H1 s1
end
inductive R3 where
 | no
 | go (h:Nat × Nat × List Nat) (acc:List fL)
 | bad (m:Nat)
noncomputable def eE (n:Nat) (l:Ln):R3->R3
 | .bad m=>.bad m
 | .no=>if d9 (cD l)=true then (match jw (cD l) with | none=>.bad n | some h=>.go h []) else .no
 | .go h acc=>if d9 (cD l)=true then (match fX (cD l) with | none=>.bad n | some c=>if c.1 ∈ acc.map (·.1) then .bad n else .go h (acc++[c])) else .go h acc
def fH:Nat->List Ln->R3->R3
 | _,[],s=>s
 | n,l::ls,s=>fH (n + 1) ls (eE n l s)
def rJ (n:Nat):R3->Nat
 | .bad m=>m
 | .no=>n + 1
 | .go (c,k,cl) acc=>if mY (some (acc.map dG)) (.int (c:Nat)) (.int (k:Nat)) (.int (je cl:Nat))=.many then n + 1 else 0
theorem o8:∀ (xs ys:List Ln) (n:Nat) (s:R3),fH n (xs++ys) s=fH (n + xs.length) ys (fH n xs s)
 | [],_,_,_=>rfl
 | x::xs,ys,n,s=>by
  show fH (n + 1) (xs++ys) (eE n x s)=_
  rw [o8 xs ys (n + 1),length_cons,show n + 1 + xs.length=n + (xs.length + 1) by omega];rfl
theorem lZ:∀ (xs:List Ln) (n m:Nat),fH n xs (.bad m)=.bad m
 | [],_,_=>rfl
 | _::xs,n,m=>lZ xs (n + 1) m
def mU (n:Nat) (lines:List Str):List NR:=((lines.zipIdx n).map fun q=>((q.2 + 1,gA q.1):NR)).filter fun c=>d9 (c.2.map Lo)
theorem wA (n:Nat) (x:Str) (xs:List Str):mU n (x::xs)=if d9 (cD (Lo x))=true then (n + 1,gA x)::mU (n + 1) xs else mU (n + 1) xs:=by
 unfold mU;rw [List.zipIdx_cons,bw,filter_cons]
 show (if d9 ((gA x).map Lo)=true then _ else _)=_
 rw [vZ]
theorem wB:∀ (lines:List Str) (n:Nat) (h:Nat × Nat × List Nat) (acc:List fL),fH (n + 1) (lines.map Lo) (.go h acc)=match gQ acc (mU n lines) with | .error m=>.bad m | .ok cs=>.go h cs
 | [],_,_,_=>rfl
 | x::xs,n,h,acc=>by
  rw [wA,bw]
  show fH (n + 1 + 1) (xs.map Lo) (if d9 (cD (Lo x))=true then _ else _)=_
  by_cases g:d9 (cD (Lo x))=true
  ·rw [if_pos g,if_pos g]
   show _=match (match fX ((gA x).map Lo) with | none=>(Except.error (n + 1):Except Nat (List fL)) | some c=>if c.1 ∈ acc.map (fun z:fL=>z.1) then Except.error (n + 1) else gQ (acc++[c]) (mU (n + 1) xs)) with | .error m=>R3.bad m | .ok cs=>R3.go h cs
   rw [vZ];cases fX (cD (Lo x)) with
   | none=>exact lZ _ _ _
   | some c =>
    by_cases d:c.1 ∈ acc.map (·.1)
    ·dsimp only;rw [if_pos d,if_pos d];exact lZ _ _ _
    ·dsimp only;rw [if_neg d,if_neg d];exact wB xs (n + 1) h (acc++[c])
  ·rw [if_neg g,if_neg g];exact wB xs (n + 1) h acc
theorem wD:∀ (lines:List Str) (n:Nat),fH (n + 1) (lines.map Lo) .no=match mU n lines with | []=>.no | c0::cs=>match jw (c0.2.map Lo) with | none=>.bad c0.1 | some h=>match gQ [] cs with | .error m=>.bad m | .ok ps=>.go h ps
 | [],_=>rfl
 | x::xs,n=>by
  rw [wA,bw]
  show fH (n + 1 + 1) (xs.map Lo) (if d9 (cD (Lo x))=true then _ else _)=_
  by_cases g:d9 (cD (Lo x))=true
  ·rw [if_pos g,if_pos g]
   show _=match jw ((gA x).map Lo) with | none=>R3.bad (n + 1) | some h=>match gQ [] (mU (n + 1) xs) with | .error m=>.bad m | .ok ps=>.go h ps
   rw [vZ];cases jw (cD (Lo x)) with
   | none=>exact lZ _ _ _
   | some h=>exact wB xs (n + 1) h []
  ·rw [if_neg g,if_neg g];exact wD xs (n + 1)
theorem R4 (lines:List Str):wz lines=(rJ lines.length (fH 1 (lines.map Lo) .no):Nat):=by
 rw [wD lines 0];unfold wz qN;rw [show qK lines=mU 0 lines from rfl];cases mU 0 lines with
 | nil=>rfl
 | cons c0 cs =>
  dsimp only;cases jw (c0.2.map Lo) with
  | none=>rfl
  | some h =>
   obtain ⟨c,k,cl⟩:=h;dsimp only;cases gQ [] cs with
   | error m=>rfl
   | ok ps =>
    dsimp only
    show _=(((if mY (some (ps.map dG)) (.int (c:Nat)) (.int (k:Nat)) (.int (je cl:Nat))=.many then lines.length + 1 else 0):Nat):Int)
    by_cases z:mY (some (ps.map dG)) (.int (c:Nat)) (.int (k:Nat)) (.int (je cl:Nat))=.many
    ·rw [if_pos z,if_pos z]
    ·rw [if_neg z,if_neg z];rfl
theorem R5 {lines:List Str} {c k:Nat} {cl:List Nat} {acc:List fL} (h:fH 1 (lines.map Lo) .no=.go (c,k,cl) acc) (g:mY (some (acc.map dG)) (.int (c:Nat)) (.int (k:Nat)) (.int (je cl:Nat))≠.many):qN lines=.ok ⟨acc.map dG,(c:Nat),(k:Nat),(je cl:Nat)⟩:=by
 rw [wD lines 0] at h;unfold qN;rw [show qK lines=mU 0 lines from rfl];cases e:mU 0 lines with
 | nil=>rw [e] at h; cases h
 | cons c0 cs =>
  rw [e] at h;dsimp only at h ⊢;cases e1:jw (c0.2.map Lo) with
  | none=>rw [e1] at h; cases h
  | some hh =>
   rw [e1] at h;dsimp only at h ⊢;cases e2:gQ [] cs with
   | error m=>rw [e2] at h; cases h
   | ok ps =>
    rw [e2] at h;cases h;dsimp only;rw [if_neg g]
structure qb (fs:List Str):Prop where
 ne:fs≠[]
 few:fs.length<=30
 row:∀ z ∈ fs,z.length<=50/\10 ∉ Lo z
def fZ (fs:List Str):Str:=Txt.join ⟨#[10]⟩ fs
theorem qb.split {fs:List Str} (h:qb fs):Txt.split (fZ fs) ⟨#[10]⟩=fs:=zJ h.ne fun z hz=>(h.row z hz).2
theorem qb.tx {fs:List Str} (h:qb fs):aau (fZ fs):=by
 have hf:=h.few;have l1:fs.length * (50 + 1)<=30 * (50 + 1):=Nat.mul_le_mul_right _ hf;refine ⟨?_,?_,?_⟩
 ·have:=Cd (s:=⟨#[10]⟩) (m:=50) fun z hz=>(h.row z hz).1
  change _<=fs.length * (50 + 1) at this
  show (fZ fs).length<=_
  unfold fZ;omega
 ·rw [h.split]; omega
 ·rw [h.split]; exact fun z hz=>(h.row z hz).1
theorem qb.join {fs:List Str} (h:qb fs):JoinOk ⟨#[10]⟩ fs=true:=by
 have l1:fs.length * (50 + 1)<=30 * (50 + 1):=Nat.mul_le_mul_right _ h.few;exact qF (m:=50) (fun z hz=>(h.row z hz).1) (by show fs.length * (50 + 1)<=_; omega)
theorem jz {fs:List Str} (h:qb fs):wz (Txt.split (fZ fs) ⟨#[10]⟩)=(rJ fs.length (fH 1 (fs.map Lo) .no):Nat):=by rw [h.split,R4]
noncomputable def bU:List Str:=["pot","pot q","pot q 0","pot q 61","pot q 03","pot q 1 1","pot Q 3","pot q3 3","pot q -1","pot q +1","cactus q 3","cactus q 3 3","cactus q 3 03","cactus q 0 0","cactus q 3 1 1","fern q 3","Pot q 3","pot aaaaaaaaaaaaa 3","pot q 100","pot q\t3","pot ivy 2","garden 1 1","pot q 3\t","\tpot q 3","\t"]
noncomputable def cH:List Str:=["garden","garden 1","garden 1 x","garden 01 1","garden 1 2 2","garden 1 3 1 1","garden 1 3 2 1","Garden 1 1","pot ivy 2","garden -1 1","garden 1 1 x","garden 1 100","garden 1 1\t","\t"]
def wG:List Str:=["","# one","   ","#one"]
def iy (f:Nat):Str:=wG.getD f ""
def abS (k:Nat):Str:=⟨#[97 + k]⟩
def hdS (c w:Nat):Str:=iW ["garden",fG (c:Int),fG (w:Int)]
def yM (g:Nat):Str:="pot ivy "++fG (g:Int)
def fQ (k r:Nat):Str:=iW ["cactus","fern"++abS k,"3",fG (r:Int)]
def iK:Ln:=[105,118,121]
def eF (k:Nat):Ln:=[102,101,114,110,97 + k]
def dW (z:Str):Bool:=decide (z.length<=50) && decide (10 ∉ Lo z)
theorem aaB:∀ (c:Fin 4) (w:Fin 3),d9 (cD (Lo (hdS c (w + 1))))=true/\jw (cD (Lo (hdS c (w + 1))))=some ((c:Nat),(w:Nat) + 1,[])/\dW (hdS c (w + 1))=true:=by decide +kernel
theorem aaC:∀ g:Fin 5,d9 (cD (Lo (yM (g + 1))))=true/\fX (cD (Lo (yM (g + 1))))=some (iK,(g:Nat) + 1,none)/\dW (yM (g + 1))=true:=by decide +kernel
theorem Hj:∀ f:Fin 4,d9 (cD (Lo (iy f)))=false/\dW (iy f)=true:=by decide +kernel
theorem R6:∀ (k:Fin 2) (r:Fin 3),d9 (cD (Lo (fQ k r)))=true/\fX (cD (Lo (fQ k r)))=some (eF k,3,some (r:Nat))/\dW (fQ k r)=true:=by decide +kernel
theorem z8:∀ (i:Fin 25) (b:Fin 3),d9 (cD (List.replicate b 32++Lo (bU.getD i "")))=true/\(fX (cD (List.replicate b 32++Lo (bU.getD i "")))=none\/(fX (cD (List.replicate b 32++Lo (bU.getD i "")))).map (fun c=>c.1)=some iK)/\(bU.getD i "").length<=40/\10 ∉ Lo (bU.getD i ""):=by decide +kernel
theorem CP:∀ i:Fin 14,d9 (cD (Lo (cH.getD i "")))=true/\jw (cD (Lo (cH.getD i "")))=none/\dW (cH.getD i "")=true:=by decide +kernel
theorem CQ:d9 (cD (Lo ("#":Str)))=false/\dW "#"=true:=by decide +kernel
theorem M7:dW "what"=true:=by decide +kernel
def jA:Nat->List (Nat × Nat)->List Str
 | _,[]=>[]
 | k,q::ks=>iy q.1::fQ k q.2::jA (k + 1) ks
theorem CT:∀ (ks:List (Nat × Nat)) (k:Nat) (q:Nat × Nat),jA k (ks++[q])=jA k ks++[iy q.1,fQ (k + ks.length) q.2]
 | [],k,q=>rfl
 | p::ks,k,q=>by
  show iy p.1::fQ k p.2::jA (k + 1) (ks++[q])=_
  rw [CT ks (k + 1) q,length_cons,show k + 1 + ks.length=k + (ks.length + 1) by omega];rfl
structure dg where
 c:Nat
 w:Nat
 g:Nat
 ks:List (Nat × Nat)
structure dg.Ok (p:dg):Prop where
 c4:p.c < 4
 w1:1<=p.w
 w3:p.w<=3
 g1:1<=p.g
 g5:p.g<=5
 k2:p.ks.length<=2
 kk:∀ q ∈ p.ks,q.1 < 4/\q.2 < 3
def dg.rows (p:dg):List Str:=hdS p.c p.w::yM p.g::jA 0 p.ks
theorem T9 {c w:Nat} (h1:c < 4) (h2:1<=w) (h3:w<=3):d9 (cD (Lo (hdS c w)))=true/\jw (cD (Lo (hdS c w)))=some (c,w,[])/\dW (hdS c w)=true:=by
 have:=aaB ⟨c,h1⟩ ⟨w - 1,by omega⟩;simp only [show w - 1 + 1=w by omega] at this;exact this
theorem Ua {g:Nat} (h1:1<=g) (h2:g<=5):d9 (cD (Lo (yM g)))=true/\fX (cD (Lo (yM g)))=some (iK,g,none)/\dW (yM g)=true:=by
 have:=aaC ⟨g - 1,by omega⟩;simp only [show g - 1 + 1=g by omega] at this;exact this
theorem M8 {k r:Nat} (h1:k < 2) (h2:r < 3):d9 (cD (Lo (fQ k r)))=true/\fX (cD (Lo (fQ k r)))=some (eF k,3,some r)/\dW (fQ k r)=true:=R6 ⟨k,h1⟩ ⟨r,h2⟩
theorem gb {n f:Nat} {h:Nat × Nat × List Nat} {acc:List fL} (hf:f < 4):eE n (Lo (iy f)) (.go h acc)=.go h acc:=by
 show (if d9 (cD (Lo (iy f)))=true then _ else _)=_
 rw [if_neg (by rw [(Hj ⟨f,hf⟩).1]; decide)]
theorem iY {n k r:Nat} {h:Nat × Nat × List Nat} {acc:List fL} (hk:k < 2) (hr:r < 3) (nd:eF k ∉ acc.map (·.1)):eE n (Lo (fQ k r)) (.go h acc)=.go h (acc++[(eF k,3,some r)]):=by
 obtain ⟨a1,a2,_⟩:=M8 hk hr
 show (if d9 (cD (Lo (fQ k r)))=true then (match fX (cD (Lo (fQ k r))) with | none=>_ | some c=>_) else _)=_
 rw [if_pos a1,a2];dsimp only;rw [if_neg nd]
def dg.acc (p:dg):List fL:=(iK,p.g,none)::(p.ks.zipIdx.map fun q=>(eF q.2,3,some q.1.2))
theorem Hl {p:dg} (h:p.Ok) (T:List Ln):fH 1 (Lo (hdS p.c p.w)::Lo (yM p.g)::T) .no=fH 3 T (.go (p.c,p.w,[]) [(iK,p.g,none)]):=by
 obtain ⟨a1,a2,_⟩:=T9 h.c4 h.w1 h.w3;obtain ⟨b1,b2,_⟩:=Ua h.g1 h.g5;have s1:eE 1 (Lo (hdS p.c p.w)) .no=.go (p.c,p.w,[]) []:=by
  show (if _ then _ else _)=_
  rw [if_pos a1,a2]
 have s2:eE 2 (Lo (yM p.g)) (.go (p.c,p.w,[]) [])=.go (p.c,p.w,[]) [(iK,p.g,none)]:=by
  show (if _ then _ else _)=_
  rw [if_pos b1,b2];rfl
 show fH 3 T (eE 2 (Lo (yM p.g)) (eE 1 (Lo (hdS p.c p.w)) .no))=_
 rw [s1,s2]
theorem nd1 {g:Nat}:eF 0 ∉ [((iK,g,none):fL)].map (·.1):=by
 show eF 0 ∉ [iK]
 decide
theorem nd2 {g r:Nat}:eF 1 ∉ ([((iK,g,none):fL)]++[((eF 0,3,some r):fL)]).map (fun z:fL=>z.1):=by
 show eF 1 ∉ [iK,eF 0]
 decide
theorem M9 {p:dg} (h:p.Ok) (j:Nat):∃ acc:List fL,iK ∈ acc.map (·.1)/\∀ n hh,fH n (((jA 0 p.ks).take j).map Lo) (.go hh [(iK,p.g,none)])=.go hh acc:=by
 have k2:=h.k2;have kk:=h.kk;have i1:iK ∈ [((iK,p.g,none):fL)].map (·.1):=by simp
 match e:p.ks,k2,kk with
 | [],_,_=>exact ⟨_,i1,fun n hh=>by cases j <;> rfl⟩
 | [q],_,kk =>
  obtain ⟨a1,a2⟩:=kk q (by simp)
  match j with
  | 0=>exact ⟨_,i1,fun n hh=>rfl⟩
  | 1=>exact ⟨_,i1,fun n hh=>gb a1⟩
  | j + 2 =>
   refine ⟨[(iK,p.g,none)]++[(eF 0,3,some q.2)],by simp,fun n hh=>?_⟩
   show fH (n + 1 + 1) (([]:List Str).take j |>.map Lo) (eE (n + 1) (Lo (fQ 0 q.2)) (eE n (Lo (iy q.1)) _))=_
   rw [gb a1,iY (by decide) a2 nd1,take_nil];rfl
 | [q,q'],_,kk =>
  obtain ⟨a1,a2⟩:=kk q (by simp);obtain ⟨b1,b2⟩:=kk q' (by simp)
  match j with
  | 0=>exact ⟨_,i1,fun n hh=>rfl⟩
  | 1=>exact ⟨_,i1,fun n hh=>gb a1⟩
  | 2 =>
   refine ⟨[(iK,p.g,none)]++[(eF 0,3,some q.2)],by simp,fun n hh=>?_⟩
   show eE (n + 1) (Lo (fQ 0 q.2)) (eE n (Lo (iy q.1)) _)=_
   rw [gb a1,iY (by decide) a2 nd1]
  | 3 =>
   refine ⟨[(iK,p.g,none)]++[(eF 0,3,some q.2)],by simp,fun n hh=>?_⟩
   show eE (n + 1 + 1) (Lo (iy q'.1)) (eE (n + 1) (Lo (fQ 0 q.2)) (eE n (Lo (iy q.1)) _))=_
   rw [gb a1,iY (by decide) a2 nd1,gb b1]
  | j + 4 =>
   refine ⟨[(iK,p.g,none)]++[(eF 0,3,some q.2)]++[(eF 1,3,some q'.2)],by simp,fun n hh=>?_⟩
   show fH (n + 1 + 1 + 1 + 1) (([]:List Str).take j |>.map Lo) (eE (n + 1 + 1 + 1) (Lo (fQ 1 q'.2)) (eE (n + 1 + 1) (Lo (iy q'.1)) (eE (n + 1) (Lo (fQ 0 q.2)) (eE n (Lo (iy q.1)) _))))=_
   rw [gb a1,iY (by decide) a2 nd1,gb b1,iY (by decide) b2 nd2,take_nil];rfl
theorem Ho {p:dg} (h:p.Ok):fH 1 (p.rows.map Lo) .no=.go (p.c,p.w,[]) p.acc:=by
 show fH 1 (Lo (hdS p.c p.w)::Lo (yM p.g)::(jA 0 p.ks).map Lo) .no=_
 rw [Hl h];have k2:=h.k2;have kk:=h.kk;unfold dg.acc
 match e:p.ks,k2,kk with
 | [],_,_=>rfl
 | [q],_,kk =>
  obtain ⟨a1,a2⟩:=kk q (by simp)
  show eE 4 (Lo (fQ 0 q.2)) (eE 3 (Lo (iy q.1)) _)=_
  rw [gb a1,iY (by decide) a2 nd1];rfl
 | [q,q'],_,kk =>
  obtain ⟨a1,a2⟩:=kk q (by simp);obtain ⟨b1,b2⟩:=kk q' (by simp)
  show eE 6 (Lo (fQ 1 q'.2)) (eE 5 (Lo (iy q'.1)) (eE 4 (Lo (fQ 0 q.2)) (eE 3 (Lo (iy q.1)) _)))=_
  rw [gb a1,iY (by decide) a2 nd1,gb b1,iY (by decide) b2 nd2];rfl
theorem jY {z:Str} (h:dW z=true):z.length<=50/\10 ∉ Lo z:=by
 unfold dW at h;rw [Bool.and_eq_true] at h;exact ⟨of_decide_eq_true h.1,of_decide_eq_true h.2⟩
theorem wH:∀ (c:Fin 4) (w:Fin 3) (g:Fin 5) (r r':Fin 3),mY (some ([((iK,(g:Nat) + 1,none):fL)].map dG)) (.int ((c:Nat):Int)) (.int (((w:Nat) + 1:Nat):Int)) (.int 0)=.ok /\ mY (some ([((iK,(g:Nat) + 1,none):fL),(eF 0,3,some (r:Nat))].map dG)) (.int ((c:Nat):Int)) (.int (((w:Nat) + 1:Nat):Int)) (.int 0)=.ok /\ mY (some ([((iK,(g:Nat) + 1,none):fL),(eF 0,3,some (r:Nat)),(eF 1,3,some (r':Nat))].map dG)) (.int ((c:Nat):Int)) (.int (((w:Nat) + 1:Nat):Int)) (.int 0)=.ok:=by decide +kernel
def dg.Nb (p:dg):gU:=⟨p.acc.map dG,(p.c:Nat),(p.w:Nat),0⟩
theorem z9 {p:dg} (h:p.Ok):mY (some (p.acc.map dG)) (.int (p.c:Nat)) (.int (p.w:Nat)) (.int 0)=.ok:=by
 have k2:=h.k2;have kk:=h.kk;have w1:=h.w1;have w3:=h.w3;have g1:=h.g1;have g5:=h.g5;unfold dg.acc
 match e:p.ks,k2,kk with
 | [],_,_ =>
  have:=(wH ⟨p.c,h.c4⟩ ⟨p.w - 1,by omega⟩ ⟨p.g - 1,by omega⟩ 0 0).1;simp only [show p.w - 1 + 1=p.w by omega,show p.g - 1 + 1=p.g by omega] at this;exact this
 | [q],_,kk =>
  have:=(wH ⟨p.c,h.c4⟩ ⟨p.w - 1,by omega⟩ ⟨p.g - 1,by omega⟩ ⟨q.2,(kk q (by simp)).2⟩ 0).2.1;simp only [show p.w - 1 + 1=p.w by omega,show p.g - 1 + 1=p.g by omega] at this;exact this
 | [q,q'],_,kk =>
  have:=(wH ⟨p.c,h.c4⟩ ⟨p.w - 1,by omega⟩ ⟨p.g - 1,by omega⟩ ⟨q.2,(kk q (by simp)).2⟩ ⟨q'.2,(kk q' (by simp)).2⟩).2.2;simp only [show p.w - 1 + 1=p.w by omega,show p.g - 1 + 1=p.g by omega] at this;exact this
theorem CV:∀ (ks:List (Nat × Nat)) (k:Nat),(jA k ks).length=2 * ks.length
 | [],_=>rfl
 | q::ks,k=>by
  show (jA (k + 1) ks).length + 1 + 1=2 * (ks.length + 1)
  rw [CV ks (k + 1)];omega
theorem lD (p:dg):p.rows.length=2 + 2 * p.ks.length:=by
 show (jA 0 p.ks).length + 1 + 1=_
 rw [CV];omega
theorem yN:∀ {ks:List (Nat × Nat)} {k:Nat},k + ks.length<=2->(∀ q ∈ ks,q.1 < 4/\q.2 < 3)->∀ z ∈ jA k ks,z.length<=50/\10 ∉ Lo z
 | [],_,_,_=>fun z hz=>nomatch hz
 | q::ks,k,h,kk=>fun z hz=>by
  rw [length_cons] at h;obtain ⟨a1,a2⟩:=kk q (by simp);rcases aK.mp hz with e | hz
  ·rw [e]; exact jY (Hj ⟨q.1,a1⟩).2
  rcases aK.mp hz with e | hz
  ·rw [e]; exact jY (M8 (by omega) a2).2.2
  ·exact yN (k:=k + 1) (by omega) (fun q' hq=>kk q' (by simp [hq])) z hz
theorem lE {p:dg} (h:p.Ok):∀ z ∈ p.rows,z.length<=50/\10 ∉ Lo z:=by
 intro z hz;rcases aK.mp hz with e | hz
 ·rw [e]; exact jY (T9 h.c4 h.w1 h.w3).2.2
 rcases aK.mp hz with e | hz
 ·rw [e]; exact jY (Ua h.g1 h.g5).2.2
 ·exact yN (k:=0) (by have:=h.k2; omega) h.kk z hz
theorem Hq {p:dg} (h:p.Ok):qb p.rows:=⟨(fun z=>nomatch z),by rw [lD]; have:=h.k2; omega,lE h⟩
theorem Nf {p:dg} (h:p.Ok):rJ p.rows.length (fH 1 (p.rows.map Lo) .no)=0:=by
 rw [Ho h]
 show (if mY (some (p.acc.map dG)) (.int (p.c:Nat)) (.int (p.w:Nat)) (.int (je []:Nat))=.many then _ else 0)=0
 rw [if_neg];rw [show (.int (je []:Nat):V)=.int 0 from rfl,z9 h]
 decide
theorem Js {p:dg} (h:p.Ok):qN p.rows=.ok p.Nb:=R5 (Ho h) (by rw [show (.int (je []:Nat):V)=.int 0 from rfl,z9 h]; decide)
def wI (i b:Nat):Str:=⟨(List.replicate b 32).toArray⟩++bU.getD i ""
def nM (p:dg) (pl i b m:Nat):List Str:=(p.rows.take pl++[wI i b]++p.rows.drop pl)++List.replicate m ("what":Str)
theorem EY (i b:Nat):Lo (wI i b)=List.replicate b 32++Lo (bU.getD i ""):=by
 unfold wI;rw [vP]
theorem aaD {p:dg} (h:p.Ok) {pl i b m:Nat} (hi:i < 25) (hb:b < 3) (hm:m < 2):qb (nM p pl i b m):=by
 have k2:=h.k2;have rl:=lD p;refine ⟨fun z=>?_,?_,fun z hz=>?_⟩
 ·have:=congrArg List.length z;unfold nM at this;simp at this
 ·unfold nM;simp only [aM,length_take,length_drop,bH,length_cons,length_nil];omega
 ·unfold nM at hz;simp only [bZ,aL] at hz;rcases hz with ((hz | hz) | hz) | hz
  ·exact lE h z (List.mem_of_mem_take hz)
  ·rw [hz];obtain ⟨_,_,a3,a4⟩:=z8 ⟨i,hi⟩ ⟨b,hb⟩;refine ⟨?_,?_⟩
   ·rw [<- gH,EY,aM,bH,gH]
    show b + (bU.getD i "").length<=50
    have:(bU.getD i "").length<=40:=a3;omega
   ·rw [EY,bZ];intro y;rcases y with y | y
    ·have:=List.eq_of_mem_replicate y;omega
    ·exact a4 y
  ·exact lE h z (List.mem_of_mem_drop hz)
  ·rw [List.eq_of_mem_replicate hz];exact jY M7
theorem R7 {p:dg} (h:p.Ok) {pl i b m:Nat} (p2:2<=pl) (pr:pl<=p.rows.length) (hi:i < 25) (hb:b < 3):rJ (nM p pl i b m).length (fH 1 ((nM p pl i b m).map Lo) .no)=pl + 1:=by
 obtain ⟨j,rfl⟩:∃ j,pl=j + 2:=⟨pl - 2,by omega⟩;obtain ⟨acc,iv,run⟩:=M9 h j;have l1:((p.rows.take (j + 2)).map Lo).length=j + 2:=by rw [aq,length_take]; omega
 have e1:fH 1 ((p.rows.take (j + 2)).map Lo) .no=.go (p.c,p.w,[]) acc:=by
  show fH 1 (Lo (hdS p.c p.w)::Lo (yM p.g)::((jA 0 p.ks).take j).map Lo) .no=_
  rw [Hl h,run]
 obtain ⟨a1,a2,_,_⟩:=z8 ⟨i,hi⟩ ⟨b,hb⟩;have e2:eE (1 + (j + 2)) (Lo (wI i b)) (.go (p.c,p.w,[]) acc)=.bad (1 + (j + 2)):=by
  rw [EY]
  show (if d9 (cD (List.replicate b 32++Lo (bU.getD i "")))=true then _ else _)=_
  rw [if_pos a1];rcases a2 with a2 | a2
  ·rw [show fX (cD (List.replicate b 32++Lo (bU.getD i "")))=none from a2]
  ·obtain ⟨c,hc,ec⟩:=bB.mp a2;rw [show fX (cD (List.replicate b 32++Lo (bU.getD i "")))=some c from hc];dsimp only;rw [if_pos (by rw [ec]; exact iv)]
 unfold nM;rw [aW,aW,aW,o8,o8,o8,e1,l1]
 show rJ _ (fH _ _ (fH _ _ (fH (1 + (j + 2)) [Lo (wI i b)] (.go (p.c,p.w,[]) acc))))=_
 show rJ _ (fH _ _ (fH _ _ (eE (1 + (j + 2)) (Lo (wI i b)) (.go (p.c,p.w,[]) acc))))=_
 rw [e2,lZ,lZ]
 show 1 + (j + 2)=j + 2 + 1
 omega
def jB (p:dg) (a i:Nat):List Str:=List.replicate a ("#":Str)++[cH.getD i ""]++p.rows.drop 1
theorem R8 {p:dg} (h:p.Ok) {a i:Nat} (ha:a < 3) (hi:i < 14):qb (jB p a i):=by
 have k2:=h.k2;have rl:=lD p;refine ⟨fun z=>?_,?_,fun z hz=>?_⟩
 ·have:=congrArg List.length z;unfold jB at this;simp at this
 ·unfold jB;simp only [aM,length_drop,bH,length_cons,length_nil];omega
 ·unfold jB at hz;simp only [bZ,aL] at hz;rcases hz with (hz | hz) | hz
  ·rw [List.eq_of_mem_replicate hz];exact jY CQ.2
  ·rw [hz];exact jY (CP ⟨i,hi⟩).2.2
  ·exact lE h z (List.mem_of_mem_drop hz)
theorem CW:∀ (a n:Nat),fH n ((List.replicate a ("#":Str)).map Lo) .no=.no
 | 0,_=>rfl
 | a + 1,n=>by
  have s:eE n (Lo ("#":Str)) .no=.no:=by
   unfold eE;rw [if_neg (by rw [CQ.1]; decide)]
  show fH (n + 1) ((List.replicate a ("#":Str)).map Lo) (eE n (Lo ("#":Str)) .no)=_
  rw [s];exact CW a (n + 1)
theorem Ng {p:dg} {a i:Nat} (hi:i < 14):rJ (jB p a i).length (fH 1 ((jB p a i).map Lo) .no)=1 + a:=by
 obtain ⟨a1,a2,_⟩:=CP ⟨i,hi⟩;have e2:eE (1 + a) (Lo (cH.getD i "")) .no=.bad (1 + a):=by
  show (if d9 (cD (Lo (cH.getD i "")))=true then _ else _)=_
  rw [if_pos a1,show jw (cD (Lo (cH.getD i "")))=none from a2]
 unfold jB;rw [aW,aW,o8,o8,CW,aq,bH]
 show rJ _ (fH _ _ (eE (1 + a) (Lo (cH.getD i "")) .no))=_
 rw [e2,lZ];rfl
def iz:List Str:=["garden 1 1","pot a 1","pot b 1","pot c 1","pot d 1","pot e 1","pot f 1","pot g 1","pot h 1","pot i 1"]
def wholes:List (List Str):=[["garden 1 1"],iz,["garden 1 1","pot a 60","pot b 60","pot c 6"],["garden 9 1","pot a 1"],["garden 1 0","pot a 1"],["garden 1 15","pot a 1"]]
theorem Jt:∀ (i:Fin 6) (m:Fin 3),rJ ((wholes.getD i [])++List.replicate m ("#":Str)).length (fH 1 (((wholes.getD i [])++List.replicate m ("#":Str)).map Lo) .no)=((wholes.getD i [])++List.replicate m ("#":Str)).length + 1/\((wholes.getD i [])++List.replicate m ("#":Str)).all dW=true/\1<=((wholes.getD i [])++List.replicate m ("#":Str)).length/\((wholes.getD i [])++List.replicate m ("#":Str)).length<=30:=by decide +kernel
theorem Nh:rJ 9 (fH 1 ((iz.take 9).map Lo) .no)=0/\(iz.take 9).all dW=true/\rJ 1 (fH 1 [[]] .no)=2/\rJ 2 (fH 1 [Lo ("# garden 1 1":Str),[]] .no)=3/\dW "# garden 1 1"=true/\dW ""=true:=by decide +kernel
theorem Hr {fs:List Str} (h1:1<=fs.length) (h2:fs.length<=30) (h:fs.all dW=true):qb fs:=⟨(fun z=>by rw [z] at h1; simp at h1),h2,fun z hz=>jY (all_eq_true.mp h z hz)⟩
def iG (z:Str):Bool:=!decide (V.str (Txt.stripChars z ⟨#[32]⟩)=V.str "") && !Txt.startswith z ⟨#[35]⟩
theorem R9:∀ (c:Fin 4) (w:Fin 3),iG (hdS c (w + 1))=true:=by decide +kernel
theorem Sd:∀ g:Fin 5,iG (yM (g + 1))=true/\yM (g + 1)=iW (dG (iK,g + 1,none)).ws:=by decide +kernel
theorem wJ:∀ f:Fin 4,iG (iy f)=false:=by decide +kernel
theorem lG:∀ (k:Fin 2) (r:Fin 3),iG (fQ k r)=true/\fQ k r=iW (dG (eF k,3,some (r:Nat))).ws:=by decide +kernel
theorem Ni {p:dg} (h:p.Ok):p.rows.filter iG=p.Nb.rws.map iW:=by
 have k2:=h.k2;have kk:=h.kk;have w1:=h.w1;have w3:=h.w3;have g1:=h.g1;have g5:=h.g5;have e1:iG (hdS p.c p.w)=true:=by
  have:=R9 ⟨p.c,h.c4⟩ ⟨p.w - 1,by omega⟩;simp only [show p.w - 1 + 1=p.w by omega] at this;exact this
 have e2:iG (yM p.g)=true/\yM p.g=iW (dG (iK,p.g,none)).ws:=by
  have:=Sd ⟨p.g - 1,by omega⟩;simp only [show p.g - 1 + 1=p.g by omega] at this;exact this
 have dz:jX p.Nb=[]:=by
  unfold jX;rw [List.filter_eq_nil_iff];intro d _
  show ¬ Bq 0 (d:Int)=true
  rw [show (0:Int)=((0:Nat):Int) from rfl,KC,Nat.zero_testBit]
  decide
 have eh:iW p.Nb.hws=hdS p.c p.w:=by
  unfold gU.hws gU.hns;rw [dz];rfl
 show (hdS p.c p.w::yM p.g::jA 0 p.ks).filter iG=iW p.Nb.hws::(((p.acc.map dG).map cB.ws).map iW)
 rw [filter_cons,if_pos e1,filter_cons,if_pos e2.1,eh]
 congr 1
 unfold dg.acc
 show yM p.g::_=iW (dG (iK,p.g,none)).ws::_
 rw [<- e2.2]
 congr 1
 match e:p.ks,k2,kk with
 | [],_,_=>rfl
 | [q],_,kk =>
  obtain ⟨a1,a2⟩:=kk q (by simp);have b1:iG (fQ 0 q.2)=true:=(lG 0 ⟨q.2,a2⟩).1;have b2:fQ 0 q.2=iW (dG (eF 0,3,some q.2)).ws:=(lG 0 ⟨q.2,a2⟩).2
  show (iy q.1::fQ 0 q.2::[]).filter iG=[iW (dG (eF 0,3,some q.2)).ws]
  rw [filter_cons,if_neg (by rw [show iG (iy q.1)=false from wJ ⟨q.1,a1⟩]; decide),filter_cons,if_pos b1];exact congrArg (fun z=>[z]) b2
 | [q,q'],_,kk =>
  obtain ⟨a1,a2⟩:=kk q (by simp);obtain ⟨a1',a2'⟩:=kk q' (by simp);have b1:iG (fQ 0 q.2)=true:=(lG 0 ⟨q.2,a2⟩).1;have b2:fQ 0 q.2=iW (dG (eF 0,3,some q.2)).ws:=(lG 0 ⟨q.2,a2⟩).2;have c1:iG (fQ 1 q'.2)=true:=(lG 1 ⟨q'.2,a2'⟩).1;have c2:fQ 1 q'.2=iW (dG (eF 1,3,some q'.2)).ws:=(lG 1 ⟨q'.2,a2'⟩).2
  show (iy q.1::fQ 0 q.2::iy q'.1::fQ 1 q'.2::[]).filter iG=[iW (dG (eF 0,3,some q.2)).ws,iW (dG (eF 1,3,some q'.2)).ws]
  rw [filter_cons,if_neg (by rw [show iG (iy q.1)=false from wJ ⟨q.1,a1⟩]; decide),filter_cons,if_pos b1,filter_cons,if_neg (by rw [show iG (iy q'.1)=false from wJ ⟨q'.1,a1'⟩]; decide),filter_cons,if_pos c1];have d1:fQ 0 q.2=iW (dG (eF 0,3,some q.2)).ws:=b2;have d2:fQ 1 q'.2=iW (dG (eF 1,3,some q'.2)).ws:=c2;rw [d1,d2];rfl
theorem aaE {p:dg} (h:p.Ok):yK p.Nb:=by
 have c4:=h.c4;have w1:=h.w1;have w3:=h.w3;have k2:=h.k2;have nd:(p.acc.map (fun z:fL=>z.1)).Nodup:=by
  unfold dg.acc
  match e:p.ks,k2 with
  | [],_=>exact Pairwise.cons (fun _ z=>nomatch z) .nil
  | [q],_=>show [iK,eF 0].Nodup; decide
  | [q,q'],_=>show [iK,eF 0,eF 1].Nodup; decide
 have la:p.acc.length=1 + p.ks.length:=by
  unfold dg.acc;rw [length_cons,aq,List.length_zipIdx];omega
 refine ⟨fun q hq=>?_,?_,Hf nd,by show (0:Int)<=(p.c:Nat); omega,by show ((p.c:Nat):Int)<=8; omega,by show (1:Int)<=(p.w:Nat); omega,by show ((p.w:Nat):Int)<=14; omega,by show (0:Int)<=0; decide,?_,z9 h⟩
 ·obtain ⟨c,hc,rfl⟩:=bJ.mp hq;unfold dg.acc at hc;rcases aK.mp hc with e | hc
  ·rw [e];exact z7 ⟨by show gk iK=true; decide,h.g1,by show p.g<=60; have:=h.g5; omega,fun r e=>nomatch e⟩
  ·obtain ⟨z,hz,rfl⟩:=bJ.mp hc;obtain ⟨i,hi⟩:=mem_iff_getElem?.mp hz;rw [List.getElem?_zipIdx] at hi;obtain ⟨y,hy,rfl⟩:=bB.mp hi;have lt:=(aP.mp hy).1;have r3:=(h.kk y (aV hy)).2;have hi2:i=0\/i=1:=by omega
   refine z7 ⟨?_,by show 1<=3; decide,by show 3<=60; decide,fun r e=>by cases e; exact r3⟩
   show gk (eF (0 + i))=true
   rcases hi2 with rfl | rfl <;> decide
 ·show (p.acc.map dG).length<=8
  rw [aq];omega
 ·show (0:Int) < 2 ^ ((p.w:Nat):Int).toNat
  exact Int.pow_pos (by decide)
abbrev Hs:cQ:=top 43
abbrev Ht:cQ:=top 44
abbrev Aa:cQ:=top 45
abbrev afb:List Str:=["_law_script","_law_cell","_law_rows_here","_law_k","_law_more"]
structure Sg (K:Fg) (mg:Str->Option au):Prop where
 B:T4 mg
 ce:∃ f fd,Fn K "_law_cell_at" "_law_cell_at" GJ ["_law_script","_law_k"] f fd/\mg "_law_cell_at"=some (.ref f)
 dr:∃ f fd,Fn K "_law_draw" "_law_draw" GK ["_law_cell","_law_k","_law_many"] f fd/\mg "_law_draw"=some (.ref f)
section
variable {P:bT} {w:World} {K:Fg} {mg:Str->Option au} {base:Heap} {a:gR} {dV:au}
def Nj:Sp:=fun vs H Q _=>∃ k:Nat,vs=[.int (k:Nat)]/\k < 25/\∀ H',Same H H'->Q (.str (bU.getD k "")) H'
theorem rK:bV ["_law_way","_law_rows_here"] ["_law_way"] (aZ Hs):=d8 (by decide +kernel)
theorem getD_at {xs:List Str} {k:Nat} (h:k < xs.length):(xs.map V.str)[k]?=some (.str (xs.getD k "")):=by
 rw [bG,aR h,List.getD_eq_getElem?_getD,aR h];rfl
theorem Sh {f:aA} {fd:dN} (F:oK K "_law_bad_pot" "_law_bad_pot" Hs f fd):cC P w K mg base (eZ P w) 1 f fd ["_law_way"] Nj:=by
 refine F.pR rK (fun vs H Q E h=>?_) (fun cdv A outer s H vs Q E hr h=>?_)
 ·obtain ⟨k,rfl,_⟩:=h;rfl
 ·obtain ⟨k,rfl,k25,q⟩:=h;refine ⟨_,aN (cj (i:=1) rK.nd rfl (Or.inl rfl) (cX (cR ((bU.take 8).map V.str) rfl))) (aN (cj (i:=1) rK.nd rfl (Or.inl rfl) (bO fu (pv 1) (cX (cR (((bU.drop 8).take 2).map V.str) rfl)))) (aN (cj (i:=1) rK.nd rfl (Or.inl rfl) (bO fu (pv 1) (cX (cR (((bU.drop 10).take 5).map V.str) rfl)))) (aN (cj (i:=1) rK.nd rfl (Or.inl rfl) (bO fu (pv 1) (cX (cR (((bU.drop 15).take 7).map V.str) rfl)))) (aN (cj (i:=1) rK.nd rfl (Or.inl rfl) (bO fu (pv 1) (cX (cR ((bU.drop 22).map V.str) rfl)))) (aX (cU (fJ jg (pv 1) (pv 0) (fun _ _=>rfl)))))))),?_⟩;refine ⟨by show 8<=sizeLine; decide,fun l1 h1=>?_⟩;have u1:=aQ (o:=.lst ((bU.take 8).map V.str)) h1;refine ⟨_,rfl,by show 2<=sizeLine; decide,fun l2 h2=>?_⟩;have u2:=aQ (o:=.lst (((bU.drop 8).take 2).map V.str)) h2;refine ⟨l1,l2,_,_,rfl,rfl,u2 _ _ aC,aC,by show 10<=sizeLine; decide,fun l3 h3=>?_⟩;have u3:=aQ (o:=.lst ((bU.take 8).map V.str++((bU.drop 8).take 2).map V.str)) h3;refine ⟨_,rfl,by show 5<=sizeLine; decide,fun l4 h4=>?_⟩;have u4:=aQ (o:=.lst (((bU.drop 10).take 5).map V.str)) h4;refine ⟨l3,l4,_,_,rfl,rfl,u4 _ _ aC,aC,by show 15<=sizeLine; decide,fun l5 h5=>?_⟩;have u5:=aQ (o:=.lst (((bU.take 8).map V.str++((bU.drop 8).take 2).map V.str)++((bU.drop 10).take 5).map V.str)) h5;refine ⟨_,rfl,by show 7<=sizeLine; decide,fun l6 h6=>?_⟩;have u6:=aQ (o:=.lst (((bU.drop 15).take 7).map V.str)) h6;refine ⟨l5,l6,_,_,rfl,rfl,u6 _ _ aC,aC,by show 22<=sizeLine; decide,fun l7 h7=>?_⟩;have u7:=aQ (o:=.lst ((((bU.take 8).map V.str++((bU.drop 8).take 2).map V.str)++((bU.drop 10).take 5).map V.str)++((bU.drop 15).take 7).map V.str)) h7;refine ⟨_,rfl,by show 3<=sizeLine; decide,fun l8 h8=>?_⟩;have u8:=aQ (o:=.lst ((bU.drop 22).map V.str)) h8;refine ⟨l7,l8,_,_,rfl,rfl,u8 _ _ aC,aC,by show 25<=sizeLine; decide,fun l9 h9=>?_⟩;have u9:=aQ (o:=.lst (((((bU.take 8).map V.str++((bU.drop 8).take 2).map V.str)++((bU.drop 10).take 5).map V.str)++((bU.drop 15).take 7).map V.str)++(bU.drop 22).map V.str)) h9;refine ⟨_,rfl,_,rfl,l9,bU.map V.str,_,_,rfl,rfl,cY.of aC,dR (getD_at (show k < bU.length from k25)),?_⟩;exact q _ (u1.trans (u2.trans (u3.trans (u4.trans (u5.trans (u6.trans (u7.trans (u8.trans u9))))))))
def Nk:Sp:=fun vs H Q _=>∃ k:Nat,vs=[.int (k:Nat)]/\k < 14/\∀ H',Same H H'->Q (.str (cH.getD k "")) H'
theorem Fb:bV ["_law_way","_law_rows_here"] ["_law_way"] (aZ Ht):=d8 (by decide +kernel)
theorem Sq {f:aA} {fd:dN} (F:oK K "_law_bad_head" "_law_bad_head" Ht f fd):cC P w K mg base (eZ P w) 1 f fd ["_law_way"] Nk:=by
 refine F.pR Fb (fun vs H Q E h=>?_) (fun cdv A outer s H vs Q E hr h=>?_)
 ·obtain ⟨k,rfl,_⟩:=h;rfl
 ·obtain ⟨k,rfl,k14,q⟩:=h;refine ⟨_,aN (cj (i:=1) Fb.nd rfl (Or.inl rfl) (cX (cR ((cH.take 6).map V.str) rfl))) (aN (cj (i:=1) Fb.nd rfl (Or.inl rfl) (bO fu (pv 1) (cX (cR (((cH.drop 6).take 5).map V.str) rfl)))) (aX (cU (fJ jg (bO fu (pv 1) (cX (cR ((cH.drop 11).map V.str) rfl))) (pv 0) (fun _ _=>rfl))))),?_⟩;refine ⟨by show 6<=sizeLine; decide,fun l1 h1=>?_⟩;have u1:=aQ (o:=.lst ((cH.take 6).map V.str)) h1;refine ⟨_,rfl,by show 5<=sizeLine; decide,fun l2 h2=>?_⟩;have u2:=aQ (o:=.lst (((cH.drop 6).take 5).map V.str)) h2;refine ⟨l1,l2,_,_,rfl,rfl,u2 _ _ aC,aC,by show 11<=sizeLine; decide,fun l3 h3=>?_⟩;have u3:=aQ (o:=.lst ((cH.take 6).map V.str++((cH.drop 6).take 5).map V.str)) h3;refine ⟨_,rfl,by show 3<=sizeLine; decide,fun l4 h4=>?_⟩;have u4:=aQ (o:=.lst ((cH.drop 11).map V.str)) h4;refine ⟨l3,l4,_,_,rfl,rfl,u4 _ _ aC,aC,by show 14<=sizeLine; decide,fun l5 h5=>?_⟩;have u5:=aQ (o:=.lst (((cH.take 6).map V.str++((cH.drop 6).take 5).map V.str)++(cH.drop 11).map V.str)) h5;refine ⟨_,rfl,l5,cH.map V.str,_,_,rfl,rfl,cY.of aC,dR (getD_at (show k < cH.length from k14)),?_⟩;exact q _ (u1.trans (u2.trans (u3.trans (u4.trans u5))))
def Hu (K:Fg):Sp:=fun vs H Q _=>∃ (s:aA) (ns:List Int),vs=[.ref s]/\cY K H s (ns.map V.int)/\∀ H' l p,Same H H'->H' l=some (.lst (p.rows.map V.str))->dg.Ok p->Q (.ref l) H'
theorem qO:bV afb ["_law_script"] (aZ Aa):=d8 (by decide +kernel)
theorem Nm {f:aA} {fd:dN} (F:oK K "_law_rows" "_law_rows" Aa f fd) (T:Sg K mg):cC P w K mg base (eZ P w) 2 f fd ["_law_script"] (Hu K):=by
 refine F.pR qO (fun vs H Q E h=>?_) (fun cdv A outer s H vs Q E hr h=>?_)
 ·obtain ⟨s,ns,rfl,_⟩:=h;rfl
 ·obtain ⟨sc,ns,rfl,hS,q⟩:=h;have B:=T.B;obtain ⟨fc,dc,cF,mC⟩:=T.ce;have okc:cC P w K mg base (eZ P w) 1 fc dc ["_law_script","_law_k"] (zL K):=zM cF.F B;obtain ⟨fd',dd,dF,mD⟩:=T.dr;have okd:cC P w K mg base (eZ P w) 1 fd' dd ["_law_cell","_law_k","_law_many"] El:=GP dF.F;have kD:=dF.F.kp;have bD:=dF.b;refine ⟨_,aN (cj (i:=1) qO.nd rfl (Or.inl rfl) (dH okc hr mC cF.F.kp cF.b cg (aB (pv 0) (cR [.int 0] rfl)))) (aN (cj (i:=2) qO.nd rfl (Or.inl rfl) (cX (aB (jd PySem.F.plainAttrs_str PySem.F.slot_str_join PySem.F.type_str_join (iQ K) bQ (aB (cX (aB bQ (aB (ni gM B.str boot_str (aB (bO gW (pv 1) aY) aJ)) (aB (ni gM B.str boot_str (aB (bO jq aY (bO gW (bO oH (pv 1) aY) aY)) aJ)) aJ)))) aJ)) aJ))) (aN (jf (jd PySem.F.plainAttrs_list PySem.F.slot_list_append PySem.F.type_list_append kE (pv 2) (aB (bO jr bQ (ni gM B.str boot_str (aB (bO jq aY (bO gW (bO oH (pv 1) aY) aY)) aJ))) aJ))) (aN (qT kO rfl (qR rfl B.range (aB (bO gW (bO oH (pv 1) aY) aY) aJ)) (fj 3 qO.nd) (aN (cj (i:=4) qO.nd rfl (Or.inl rfl) (fJ vg (u0 (cR (wG.map V.str) rfl)) (dH okd hr mD kD bD cg (aB (pv 1) (aB (pv 3) (cR [.int 4] rfl)))) (fun _ _=>rfl))) (aN (jf (jd PySem.F.plainAttrs_list PySem.F.slot_list_append PySem.F.type_list_append kE (pv 2) (aB (pv 4) aJ))) (aX (jf (jd PySem.F.plainAttrs_list PySem.F.slot_list_append PySem.F.type_list_append kE (pv 2) (aB (jd PySem.F.plainAttrs_str PySem.F.slot_str_join PySem.F.type_str_join (iQ K) bQ (aB (cX (aB bQ (aB (bO jr bQ (fJ JZ bQ (pv 3) (fun _ _=>rfl))) (aB bQ (aB (ni gM B.str boot_str (aB (dH okd hr mD kD bD cg (aB (pv 1) (aB (bO jq (pv 3) aY) (cR [.int 3] rfl)))) aJ)) aJ))))) aJ)) aJ))))))) (aX (cU (pv 2)))))),?_⟩;have big:1000<=sizeLine:=by decide
  refine ⟨_,rfl,sc,ns,0,rfl,hS,?_⟩;generalize ns.getD 0 0=cell;have a0:0<=cell % 4:=Int.emod_nonneg _ (by decide);have a1:cell % 4 < 4:=Int.emod_lt_of_pos _ (by decide);have b0:0<=cell / 4 % 3:=Int.emod_nonneg _ (by decide);have b1:cell / 4 % 3 < 3:=Int.emod_lt_of_pos _ (by decide);have c0:0<=cell / 12 % 5:=Int.emod_nonneg _ (by decide);have c1:cell / 12 % 5 < 5:=Int.emod_lt_of_pos _ (by decide);have d0:0<=cell / 60 % 3:=Int.emod_nonneg _ (by decide);have d1:cell / 60 % 3 < 3:=Int.emod_lt_of_pos _ (by decide);refine ⟨rfl,_,rfl,_,_,rfl,rfl,(by show (0:Int) < 4; decide),_,rfl,nj (by omega) (by omega),_,rfl,_,_,rfl,rfl,⟨by decide,by decide⟩,_,_,rfl,rfl,(by show (0:Int) < 3; decide),_,_,rfl,rfl,_,rfl,nj (by omega) (by omega),by show 3<=sizeLine; decide,fun l1 h1=>?_⟩;have lc:((cell % 4).toNat:Int)=cell % 4:=Int.toNat_of_nonneg a0;have lw:((1 + cell / 4 % 3).toNat:Int)=1 + cell / 4 % 3:=Int.toNat_of_nonneg (by omega);have lg:((1 + cell / 12 % 5).toNat:Int)=1 + cell / 12 % 5:=Int.toNat_of_nonneg (by omega);have t1:=aQ (o:=.lst [V.str "garden",.str (fG (cell % 4)),.str (fG (1 + cell / 4 % 3))]) h1;have wn:∀ m:Int,0<=m->m < 100->(fG m).length<=12:=fun m m0 m1=>(qM m0 m1).1
  refine ⟨_,l1,["garden",fG (cell % 4),fG (1 + cell / 4 % 3)],rfl,rfl,cY.of aC,qF (m:=12) (fun z hz=>?_) ?_,by show 1<=sizeLine; decide,fun l2 h2=>?_⟩
  ·simp only [aK,not_mem_nil,or_false] at hz;rcases hz with e | e | e
   ·rw [e]; exact v8.1
   ·rw [e]; exact wn _ (by omega) (by omega)
   ·rw [e]; exact wn _ (by omega) (by omega)
  ·rw [show (Str.ofString " ":Str)=⟨#[32]⟩ from jj]
   show 3 * (12 + 1)<=100000
   decide
  have eh:Txt.join (Str.ofString " ") ["garden",fG (cell % 4),fG (1 + cell / 4 % 3)]=hdS (cell % 4).toNat (1 + cell / 4 % 3).toNat:=by
   unfold hdS;rw [lc,lw,show (Str.ofString " ":Str)=⟨#[32]⟩ from jj];rfl
  rw [eh];have t2:=aQ (o:=.lst [V.str (hdS (cell % 4).toNat (1 + cell / 4 % 3).toNat)]) h2;have h20:upd (upd H l1 (.lst [V.str "garden",.str (fG (cell % 4)),.str (fG (1 + cell / 4 % 3))])) l2 (.lst [V.str (hdS (cell % 4).toNat (1 + cell / 4 % 3).toNat)]) l2=some (.lst [V.str (hdS (cell % 4).toNat (1 + cell / 4 % 3).toNat)]):=aC;have s2:=t1.trans t2;have f2:H l2=none:=t1.free h2;generalize upd (upd H l1 (.lst [V.str "garden",.str (fG (cell % 4)),.str (fG (1 + cell / 4 % 3))])) l2 (.lst [V.str (hdS (cell % 4).toNat (1 + cell / 4 % 3).toNat)])=H2 at h20 s2 ⊢;have lp:(Str.ofString "pot ivy ").length=8:=by decide +kernel
  refine ⟨_,rfl,.inl ⟨rfl,_,cY.of h20⟩,_,rfl,_,_,rfl,rfl,⟨by decide,by decide⟩,_,_,rfl,rfl,(by show (0:Int) < 5; decide),_,_,rfl,rfl,_,rfl,nj (by omega) (by omega),_,_,rfl,rfl,?_,l2,_,_,rfl,rfl,h20,by show 1 < sizeLine; decide,?_⟩
  ·have:=wn (1 + cell / 12 % 5) (by omega) (by omega);rw [lp];omega
  have ei:Str.ofString "pot ivy "++fG (1 + cell / 12 % 5)=yM (1 + cell / 12 % 5).toNat:=by
   unfold yM;rw [lg]
  rw [ei];refine ⟨_,rfl,_,_,rfl,rfl,⟨by decide,by decide⟩,_,_,rfl,rfl,(by show (0:Int) < 3; decide),_,rfl,by omega,by omega,?_⟩;refine xK (lo:=0) (n:=(cell / 60 % 3).toNat) (fun i σ H'=>∃ u3 u4,∃ ks:List (Nat × Nat),σ=[some (.ref sc),some (.int cell),some (.ref l2),u3,u4]/\ks.length=i/\(∀ z ∈ ks,z.1 < 4/\z.2 < 3)/\H' l2=some (.lst ((dg.rows ⟨(cell % 4).toNat,(1 + cell / 4 % 3).toNat,(1 + cell / 12 % 5).toNat,ks⟩).map V.str))/\Same H H') ⟨none,none,[],rfl,rfl,(fun z hz=>nomatch hz),aC,lu s2 f2⟩ ?_ ?_
  ·rintro i σ H3 lt ⟨u3,u4,ks,rfl,lk,kk,h3,s3⟩;have i2:i < 2:=by omega
   have e0:(0 + (i:Int))=((i:Nat):Int):=Int.zero_add _;rw [e0];refine ⟨by show 4<=sizeLine; decide,fun t ht=>?_⟩;have t3:=aQ (o:=.tup (wG.map V.str)) ht;refine ⟨_,rfl,_,rfl,_,_,_,rfl,by decide,fun H4 s4=>?_⟩;have x0:=zO cell (i:Int) (m:=4) (by decide);have x1:=zP cell (i:Int) (m:=4) (by decide);generalize uq cell (i:Int) 4=df at x0 x1 ⊢;have xf:Qx (wG.map V.str) df=some (.str (iy df.toNat)):=by
    have:=dR (getD_at (xs:=wG) (k:=df.toNat) (by show df.toNat < 4; omega));rw [Int.toNat_of_nonneg x0] at this;exact this
   refine ⟨t,_,_,_,rfl,rfl,tY.of (s4 _ _ aC),xf,?_⟩;have s34:=t3.trans s4;have h4:=s34 _ _ h3;have ll:((dg.rows ⟨(cell % 4).toNat,(1 + cell / 4 % 3).toNat,(1 + cell / 12 % 5).toNat,ks⟩).map V.str).length=2 + 2 * i:=by
    rw [aq,lD,lk]
   refine ⟨_,rfl,.inl ⟨rfl,_,cY.of h4⟩,_,rfl,l2,_,_,rfl,rfl,h4,by omega,?_⟩;have h5:upd H4 l2 (.lst ((dg.rows ⟨(cell % 4).toNat,(1 + cell / 4 % 3).toNat,(1 + cell / 12 % 5).toNat,ks⟩).map V.str++[V.str (iy df.toNat)])) l2=some (.lst ((dg.rows ⟨(cell % 4).toNat,(1 + cell / 4 % 3).toNat,(1 + cell / 12 % 5).toNat,ks⟩).map V.str++[V.str (iy df.toNat)])):=aC;have s5:Same H (upd H4 l2 (.lst ((dg.rows ⟨(cell % 4).toNat,(1 + cell / 4 % 3).toNat,(1 + cell / 12 % 5).toNat,ks⟩).map V.str++[V.str (iy df.toNat)]))):=lu (s3.trans s34) f2;generalize upd H4 l2 (.lst ((dg.rows ⟨(cell % 4).toNat,(1 + cell / 4 % 3).toNat,(1 + cell / 12 % 5).toNat,ks⟩).map V.str++[V.str (iy df.toNat)]))=H5 at h5 s5 ⊢;have lab:(Str.ofString "ab").length<=sizeLine:=by decide +kernel
   have cab:(Str.ofString "ab").cps[i]?=some (97 + i):=by
    have:i=0\/i=1:=by omega
    rcases this with rfl | rfl <;> decide +kernel
   have lfe:(Str.ofString "fern").length + (⟨#[97 + i]⟩:Str).length<=sizeLine:=by
    have:(Str.ofString "fern").length=4:=by decide +kernel
    have:(⟨#[97 + i]⟩:Str).length=1:=rfl;omega
   refine ⟨_,rfl,.inl ⟨rfl,_,cY.of h5⟩,rfl,_,rfl,_,_,97 + i,rfl,rfl,lab,dR (j:=i) (by simpa using cab),_,_,rfl,rfl,lfe,_,rfl,_,rfl,_,_,rfl,rfl,_,_,_,rfl,by decide,fun H6 s6=>?_⟩;have y0:=zO cell ((i:Int) + 3) (m:=3) (by decide);have y1:=zP cell ((i:Int) + 3) (m:=3) (by decide);generalize uq cell ((i:Int) + 3) 3=dr at y0 y1 ⊢;have lr:((dr.toNat:Nat):Int)=dr:=Int.toNat_of_nonneg y0;refine ⟨_,rfl,nj (by omega) (by omega),by show 4<=sizeLine; decide,fun l6 h6=>?_⟩;have t6:=aQ (o:=.lst [V.str "cactus",.str (Str.ofString "fern"++⟨#[97 + i]⟩),.str "3",.str (fG dr)]) h6;refine ⟨_,l6,["cactus",Str.ofString "fern"++⟨#[97 + i]⟩,"3",fG dr],rfl,rfl,cY.of aC,qF (m:=12) (fun z hz=>?_) ?_,?_⟩
   ·simp only [aK,not_mem_nil,or_false] at hz;rcases hz with e | e | e | e
    ·rw [e]; exact v9.1
    ·rw [e,<- gH,vP,aM,gH,gH];have:(Str.ofString "fern").length=4:=by decide +kernel
     have:(⟨#[97 + i]⟩:Str).length=1:=rfl;omega
    ·rw [e]; decide +kernel
    ·rw [e]; exact wn _ (by omega) (by omega)
   ·rw [show (Str.ofString " ":Str)=⟨#[32]⟩ from jj]
    show 4 * (12 + 1)<=100000
    decide
   have ajM:Txt.join (Str.ofString " ") ["cactus",Str.ofString "fern"++⟨#[97 + i]⟩,"3",fG dr]=fQ i dr.toNat:=by
    unfold fQ abS;rw [lr,show (Str.ofString " ":Str)=⟨#[32]⟩ from jj];rfl
   rw [ajM];have h7:=(s6.trans t6) _ _ h5;refine ⟨l2,_,_,rfl,rfl,h7,by rw [aM,ll]; show _ + 1 < _; omega,_,_,ks++[(df.toNat,dr.toNat)],rfl,by rw [aM,lk]; rfl,fun z hz=>?_,?_,lu (s5.trans (s6.trans t6)) f2⟩
   ·rcases bZ.mp hz with z1 | z1
    ·exact kk z z1
    ·rw [aL.mp z1];exact ⟨by show df.toNat < 4; omega,by show dr.toNat < 3; omega⟩
   ·rw [aC];have:dg.rows ⟨(cell % 4).toNat,(1 + cell / 4 % 3).toNat,(1 + cell / 12 % 5).toNat,ks++[(df.toNat,dr.toNat)]⟩=dg.rows ⟨(cell % 4).toNat,(1 + cell / 4 % 3).toNat,(1 + cell / 12 % 5).toNat,ks⟩++[iy df.toNat,fQ i dr.toNat]:=by
     show _::_::jA 0 (ks++[(df.toNat,dr.toNat)])=_::_::(jA 0 ks++_)
     rw [CT,lk,Nat.zero_add]
    rw [this,aW,append_assoc];rfl
  ·rintro σ H3 ⟨u3,u4,ks,rfl,lk,kk,h3,s3⟩;exact ⟨_,rfl,q H3 l2 ⟨(cell % 4).toNat,(1 + cell / 4 % 3).toNat,(1 + cell / 12 % 5).toNat,ks⟩ s3 h3 ⟨by show (cell % 4).toNat < 4; omega,by show 1<=(1 + cell / 4 % 3).toNat; omega,by show (1 + cell / 4 % 3).toNat<=3; omega,by show 1<=(1 + cell / 12 % 5).toNat; omega,by show (1 + cell / 12 % 5).toNat<=5; omega,by show ks.length<=2; omega,kk⟩⟩
end
abbrev uQ:cQ:=top 46
abbrev ajN:List Str:=["_law_script","_law_many","_law_wide","_law_some","_law_rows_here"]
theorem Hv (xs:List V) (k:Nat):pB xs none (some (k:Int))=xs.take k:=by
 unfold pB;rw [HT.Gi];simp only [HT.Ag,List.drop_zero,Nat.sub_zero];rcases Nat.le_total k xs.length with h | h
 ·rw [Nat.min_eq_left h]
 ·rw [Nat.min_eq_right h,cJ,List.take_of_length_le h]
def jZ:Str:=Str.ofString "abcdefghi"
def rM (c:Nat):Str:=(Str.ofString "pot "++⟨#[c]⟩)++Str.ofString " 1"
theorem Ss:([V.str "garden 1 1"]++(List.range jZ.cps.size).map fun i=>V.str (rM (jZ.cps.getD i 0)))=iz.map V.str:=by decide +kernel
theorem Np:jZ.cps.size=9:=by decide +kernel
section
variable {P:bT} {w:World} {K:Fg} {mg:Str->Option au} {base:Heap} {a:gR} {dV:au}
def CZ (K:Fg):Sp:=fun vs H Q _=>∃ (s:aA) (ns:List Int),vs=[.ref s]/\cY K H s (ns.map V.int)/\∀ H',Q (.bl true) H'
theorem lH:bV ajN ["_law_script"] (aZ uQ):=d8 (by decide +kernel)
theorem Ju {f fr:aA} {fd dr:dN} (F:oK K "_law_whole" "_law_whole" uQ f fd) (T:Sg K mg) (Z:R0 K mg a dV) (rF:Fn K "_law_refused" "_law_refused" wg ["_law_text"] fr dr) (mR:mg "_law_refused"=some (.ref fr)):cC P w K mg base (eZ P w) 11 f fd ["_law_script"] (CZ K):=by
 refine F.pR lH (fun vs H Q E h=>?_) (fun cdv A outer s H vs Q E hr h=>?_)
 ·obtain ⟨s,ns,rfl,_⟩:=h;rfl
 ·obtain ⟨sc,ns,rfl,hS,q⟩:=h;have B:=T.B;obtain ⟨fc,dc,cF,mC⟩:=T.ce;have okc:cC P w K mg base (eZ P w) 1 fc dc ["_law_script","_law_k"] (zL K):=zM cF.F B;have Jy:cC P w K mg base (eZ P w) 10 fr dr ["_law_text"] Ez:=Hi rF.F Z;have kR:=rF.F.kp;have bR:=rF.b;have hr1:d7 1 _:=hr.mono (by decide);refine ⟨_,aN (cj (i:=1) lH.nd rfl (Or.inl rfl) (bO fu (cX (cR [.str "garden 1 1"] rfl)) (gG bK rfl ⟨_,_,rfl,rfl,rfl⟩ (eU.plain (N':=["_law_name"]) rfl (by decide +kernel) (by decide +kernel)) (DN bQ) (fun _ _ _ _ _=>fj 0 (show [("_law_name":Str)].Nodup by decide +kernel)) (fun _ _ _ _ _=>gj) (fun _ _ _ _ _ _=>bO jr (bO jr bQ (pv 0)) bQ)))) (aN (cj (i:=2) lH.nd rfl (Or.inl rfl) (cX (cR ((wholes.getD 2 []).map V.str) rfl))) (aN (cj (i:=3) lH.nd rfl (Or.inl rfl) (cX (aB (cX (cR ((wholes.getD 3 []).map V.str) rfl)) (aB (cX (cR ((wholes.getD 4 []).map V.str) rfl)) (aB (cX (cR ((wholes.getD 5 []).map V.str) rfl)) aJ))))) (aN (qT kO rfl (eX (bO fu (cX (aB (cX (cR [.str "garden 1 1"] rfl)) (aB (pv 1) (aB (pv 2) aJ)))) (pv 3))) (fj 4 lH.nd) (aN (cj (i:=4) lH.nd rfl (Or.inl rfl) (bO fu (pv 4) (bO yW (cX (cR [.str "#"] rfl)) (bO gW (dH okc hr1 mC cF.F.kp cF.b cg (aB (pv 0) (cR [.int 3] rfl))) aY)))) (aX (eY (dj m5 (dH Jy hr mR kR bR cg (aB (jd PySem.F.plainAttrs_str PySem.F.slot_str_join PySem.F.type_str_join (iQ K) bQ (aB (pv 4) aJ)) aJ)) (bO jq (fK eN B.len PySem.boot_len (aB (pv 4) aJ)) aY) (dM _)) (aX (cU pH)) cW)))) (aN (eY (pw_or (dj m5 (dH Jy hr mR kR bR cg (aB bQ aJ)) aY (dM _)) (pw_or1 (dj m5 (dH Jy hr mR kR bR cg (aB bQ aJ)) aY (dM _)))).pt (aX (cU pH)) cW) (aX (cU (yS tZ (dH Jy hr mR kR bR cg (aB (jd PySem.F.plainAttrs_str PySem.F.slot_str_join PySem.F.type_str_join (iQ K) bQ (aB (iT jT (pv 1) jQ (jR aY)) aJ)) aJ)) aY (dM _)))))))),?_⟩;have big:1000<=sizeLine:=by decide
  have n9:=Np;refine ⟨by show 1<=sizeLine; decide,fun c1 hc1=>⟨jZ,rfl,fun D hD=>?_⟩⟩;have u1:=aQ (o:=.lst [V.str "garden 1 1"]) hc1;have uD:=aQ (o:=.lst ((List.range jZ.cps.size).map fun i=>V.str (rM (jZ.cps.getD i 0)))) hD;refine zq jZ.cps.size (by omega) (fun i=>.str (rM (jZ.cps.getD i 0))) (fun i H'=>H'=upd (upd H c1 (.lst [V.str "garden 1 1"])) D (.lst ((List.range i).map fun i=>V.str (rM (jZ.cps.getD i 0))))) rfl (fun i H' _ e=>by rw [e,aC]) (fun H' e=>⟨rfl,?_⟩) (fun i H' lt e=>⟨lt,?_⟩)
  rotate_left
  ·rintro v za ⟨rfl,c,hc,rfl⟩ Qc k;subst e;have ec:jZ.cps.getD i 0=c:=by simp [hc]
   have k':=k _ aC (by rw [lJ]);have l4:(Str.ofString "pot ").length=4:=by decide +kernel
   have l2:(Str.ofString " 1").length=2:=by decide +kernel
   have l1:(⟨#[c]⟩:Str).length=1:=rfl;have l5:(Str.ofString "pot "++⟨#[c]⟩).length=5:=by rw [<- gH,vP,aM,gH,gH,l4,l1]
   refine ⟨eO,_,rfl,_,_,rfl,rfl,by rw [l4,l1]; omega,_,_,rfl,rfl,by rw [l5,l2]; omega,?_⟩;rw [ec] at k';exact k'
  subst e;have hcc:=uD _ _ (aC (H:=H) (a:=c1) (o:=.lst [V.str "garden 1 1"]));refine ⟨c1,D,_,_,rfl,rfl,hcc,aC,by rw [aq,length_range]; show 1 + _<=_; omega,fun mn hmn=>?_⟩;rw [Ss];have um:=aQ (o:=.lst (iz.map V.str)) hmn;have hm0:upd (upd (upd H c1 (.lst [V.str "garden 1 1"])) D (.lst ((List.range jZ.cps.size).map fun i=>V.str (rM (jZ.cps.getD i 0))))) mn (.lst (iz.map V.str)) mn=some (.lst (iz.map V.str)):=aC;have s1:=u1.trans (uD.trans um);generalize upd (upd (upd H c1 (.lst [V.str "garden 1 1"])) D (.lst ((List.range jZ.cps.size).map fun i=>V.str (rM (jZ.cps.getD i 0))))) mn (.lst (iz.map V.str))=H1 at hm0 s1 ⊢;clear um uD u1 hcc;refine ⟨by show 4<=sizeLine; decide,fun wd hwd=>?_⟩;have uw:=aQ (o:=.lst ((wholes.getD 2 []).map V.str)) hwd;refine ⟨by show 2<=sizeLine; decide,fun e3 Zx=>⟨by show 2<=sizeLine; decide,fun e4 he4=>⟨by show 2<=sizeLine; decide,fun e5 he5=>⟨by show 3<=sizeLine; decide,fun sm hsm=>?_⟩⟩⟩⟩;have v3:=aQ (o:=.lst ((wholes.getD 3 []).map V.str)) Zx;have v4:=aQ (o:=.lst ((wholes.getD 4 []).map V.str)) he4;have v5:=aQ (o:=.lst ((wholes.getD 5 []).map V.str)) he5;have vs':=aQ (o:=.lst [V.ref e3,.ref e4,.ref e5]) hsm;have w4:=v5.trans vs';have w3:=v4.trans w4;have w2:=v3.trans w3;have w1:=uw.trans w2;have hm2:=w1 _ _ hm0;have hw2:=w2 _ _ (aC (H:=H1) (a:=wd) (o:=.lst ((wholes.getD 2 []).map V.str)));have h32:=w3 _ _ (aC (a:=e3) (o:=.lst ((wholes.getD 3 []).map V.str)));have h42:=w4 _ _ (aC (a:=e4) (o:=.lst ((wholes.getD 4 []).map V.str)));have h52:=vs' _ _ (aC (a:=e5) (o:=.lst ((wholes.getD 5 []).map V.str)));have hs2:(upd (upd (upd (upd (upd H1 wd (.lst ((wholes.getD 2 []).map V.str))) e3 (.lst ((wholes.getD 3 []).map V.str))) e4 (.lst ((wholes.getD 4 []).map V.str))) e5 (.lst ((wholes.getD 5 []).map V.str))) sm (.lst [V.ref e3,.ref e4,.ref e5])) sm=some (.lst [V.ref e3,.ref e4,.ref e5]):=aC;have s2:=s1.trans w1
  revert hm2 hw2 h32 h42 h52 hs2 s2
  generalize (upd (upd (upd (upd (upd H1 wd (.lst ((wholes.getD 2 []).map V.str))) e3 (.lst ((wholes.getD 3 []).map V.str))) e4 (.lst ((wholes.getD 4 []).map V.str))) e5 (.lst ((wholes.getD 5 []).map V.str))) sm (.lst [V.ref e3,.ref e4,.ref e5]))=H2;intro hm2 hw2 h32 h42 h52 hs2 s2;have nes:∀ {x y:Int} {A B:Prop},x=y->B->if (!decide (V.int x=V.int y))=true then A else B:=fun e h=>by rw [aO (by rw [e])]; exact dI h
  refine ⟨by show 1<=sizeLine; decide,fun g1 hg1=>⟨_,rfl,_,rfl,by show 3<=sizeLine; decide,fun g2 hg2=>?_⟩⟩;have y1:=aQ (o:=.lst [V.str "garden 1 1"]) hg1;have y2:=aQ (o:=.lst [V.ref g1,.ref mn,.ref wd]) hg2;refine ⟨_,rfl,g2,sm,_,_,rfl,rfl,aC,(y1.trans y2) _ _ hs2,by show 6<=sizeLine; decide,fun L hL=>?_⟩;have y3:=aQ (o:=.lst ([V.ref g1,.ref mn,.ref wd]++[V.ref e3,.ref e4,.ref e5])) hL;have y13:=y1.trans (y2.trans y3);have hL3:upd (upd (upd H2 g1 (.lst [V.str "garden 1 1"])) g2 (.lst [V.ref g1,.ref mn,.ref wd])) L (.lst ([V.ref g1,.ref mn,.ref wd]++[V.ref e3,.ref e4,.ref e5])) L=some (.lst [V.ref g1,.ref mn,.ref wd,.ref e3,.ref e4,.ref e5]):=aC;have hg3:=(y2.trans y3) _ _ (aC (H:=H2) (a:=g1) (o:=.lst [V.str "garden 1 1"]));have hm3:=y13 _ _ hm2;have hw3:=y13 _ _ hw2;have h33:=y13 _ _ h32;have h43:=y13 _ _ h42;have h53:=y13 _ _ h52;have s3:=s2.trans y13;generalize upd (upd (upd H2 g1 (.lst [V.str "garden 1 1"])) g2 (.lst [V.ref g1,.ref mn,.ref wd])) L (.lst ([V.ref g1,.ref mn,.ref wd]++[V.ref e3,.ref e4,.ref e5]))=H3 at hL3 hg3 hm3 hw3 h33 h43 h53 s3 ⊢;have at_:∀ (i:Nat) (x:V),[V.ref g1,V.ref mn,V.ref wd,V.ref e3,V.ref e4,V.ref e5][i]?=some x->i < 6/\∃ lx,x=.ref lx/\H3 lx=some (.lst ((wholes.getD i []).map V.str)):=by
   intro i x hx
   match i,hx with
   | 0,hx=>cases hx; exact ⟨by decide,g1,rfl,hg3⟩
   | 1,hx=>cases hx; exact ⟨by decide,mn,rfl,hm3⟩
   | 2,hx=>cases hx; exact ⟨by decide,wd,rfl,hw3⟩
   | 3,hx=>cases hx; exact ⟨by decide,e3,rfl,h33⟩
   | 4,hx=>cases hx; exact ⟨by decide,e4,rfl,h43⟩
   | 5,hx=>cases hx; exact ⟨by decide,e5,rfl,h53⟩
   | i + 6,hx=>cases hx
  clear hg3 hw3 h33 h43 h53 hm2 hw2 h32 h42 h52 hs2 y1 y2 y3 y13;have hS3:=s3.seq hS;refine ⟨L,rfl,⟨_,cY.of hL3⟩,?_⟩;refine qw (K:=K) (a:=L) (xs:=[V.ref g1,V.ref mn,V.ref wd,V.ref e3,V.ref e4,V.ref e5]) (fun i σ H'=>∃ u4,σ=[some (.ref sc),some (.ref mn),some (.ref wd),some (.ref sm),u4]/\Same H3 H') ⟨none,rfl,Same.refl _⟩ (fun i σ H' _ ⟨_,_,s'⟩=>cY.of (s' _ _ hL3)) ?_ ?_
  ·rintro i x σ H4 hi ⟨u4,rfl,s4⟩;obtain ⟨i6,lx,rfl,hlx⟩:=at_ i x hi;have ajU:=s4 _ _ hlx;refine ⟨_,rfl,by show 1<=sizeLine; decide,fun r1 ajV=>?_⟩;have z1:=aQ (o:=.lst [V.str "#"]) ajV;have hS4:=(s4.trans z1).seq hS3;refine ⟨_,rfl,sc,ns,3,rfl,hS4,_,_,rfl,rfl,(by show (0:Int) < 3; decide),?_⟩;have m0:0<=ns.getD 3 0 % 3:=Int.emod_nonneg _ (by decide);have m3:ns.getD 3 0 % 3 < 3:=Int.emod_lt_of_pos _ (by decide)
   show ad9 (.ref r1) (.int (ns.getD 3 0 % 3)) _ _
   generalize ns.getD 3 0 % 3=m at m0 m3 ⊢;refine ⟨r1,m,[V.str "#"],rfl,rfl,aC,by omega,by omega,by show 1 * m.toNat<=_; omega,fun r2 hr2=>?_⟩;have et:(List.replicate m.toNat [V.str "#"]).flatten=(List.replicate m.toNat ("#":Str)).map V.str:=by
    have:m=0\/m=1\/m=2:=by omega
    rcases this with rfl | rfl | rfl <;> rfl
   rw [et];have z2:=aQ (o:=.lst ((List.replicate m.toNat ("#":Str)).map V.str)) hr2;obtain ⟨w1',w2',w3',w4'⟩:=Jt ⟨i,i6⟩ ⟨m.toNat,by omega⟩;have w1:rJ (wholes.getD i []++List.replicate m.toNat ("#":Str)).length (fH 1 ((wholes.getD i []++List.replicate m.toNat ("#":Str)).map Lo) .no)=(wholes.getD i []++List.replicate m.toNat ("#":Str)).length + 1:=w1';have fs:qb (wholes.getD i []++List.replicate m.toNat ("#":Str)):=Hr w3' w4' w2';have lf:=fs.few;rw [aM,bH] at lf;refine ⟨lx,r2,_,_,rfl,rfl,(z1.trans z2) _ _ ajU,aC,by rw [aq,aq,bH]; omega,fun r3 hr3=>?_⟩;rw [<- aW];generalize wholes.getD i []++List.replicate m.toNat ("#":Str)=gs at w1 fs ⊢;have z3:=aQ (o:=.lst (gs.map V.str)) hr3;have hg5:upd (upd (upd H4 r1 (.lst [V.str "#"])) r2 (.lst ((List.replicate m.toNat ("#":Str)).map V.str))) r3 (.lst (gs.map V.str)) r3=some (.lst (gs.map V.str)):=aC;have s5:=s4.trans (z1.trans (z2.trans z3));generalize upd (upd (upd H4 r1 (.lst [V.str "#"])) r2 (.lst ((List.replicate m.toNat ("#":Str)).map V.str))) r3 (.lst (gs.map V.str))=H5 at hg5 s5 ⊢;refine ⟨rfl,_,rfl,_,r3,gs,rfl,rfl,cY.of hg5,?_,?_⟩
   ·rw [show (Str.ofString "\n":Str)=⟨#[10]⟩ from jy];exact fs.join
   rw [show (Str.ofString "\n":Str)=⟨#[10]⟩ from jy];refine ⟨fZ gs,rfl,fs.tx,fun H6 s6=>⟨_,rfl,r3,_,rfl,.inl (cY.of (s6 _ _ hg5)),_,_,rfl,rfl,rfl,_,rfl,nes ?_ ⟨_,rfl,s5.trans s6⟩⟩⟩;rw [jz fs,w1,aq];rfl
  ·rintro σ H4 ⟨u4,rfl,s4⟩;obtain ⟨l1,l2,l3,l4,l5,l6⟩:=Nh;have e1:(Str.ofString "":Str)=fZ [""]:=by decide +kernel
   have e2:(Str.ofString "# garden 1 1\n":Str)=fZ ["# garden 1 1",""]:=by decide +kernel
   have f1:qb [("":Str)]:=Hr (by decide) (by decide) (by show (dW "" && true)=true; rw [l6]; rfl);have f2:qb [("# garden 1 1":Str),""]:=Hr (by decide) (by decide) (by show (dW "# garden 1 1" && (dW "" && true))=true; rw [l5,l6]; rfl);have f3:qb (iz.take 9):=Hr (by decide) (by decide) l2;refine ⟨_,rfl,f1.tx |> fun t=>by rw [e1]; exact t,fun H5 s5=>⟨rfl,_,rfl,?_⟩⟩;have r1:wz (Txt.split (Str.ofString "") ⟨#[10]⟩)=2:=by
    rw [e1,jz f1];exact congrArg (fun z:Nat=>(z:Int)) l3
   rw [r1];refine nes rfl ?_;refine ⟨_,rfl,f2.tx |> fun t=>by rw [e2]; exact t,fun H6 s6=>⟨rfl,_,rfl,?_⟩⟩;have r2:wz (Txt.split (Str.ofString "# garden 1 1\n") ⟨#[10]⟩)=3:=by
    rw [e2,jz f2];exact congrArg (fun z:Nat=>(z:Int)) l4
   rw [r2];refine nes rfl ?_;have hm6:=(s4.trans (s5.trans s6)) _ _ hm3;refine ⟨rfl,_,rfl,9,rfl,mn,_,rfl,cY.of hm6,fun c9 hc9=>?_⟩;rw [show pB (iz.map V.str) none (some 9)=(iz.take 9).map V.str from (Hv _ 9).trans List.map_take.symm];refine ⟨_,c9,iz.take 9,rfl,rfl,cY.of aC,?_,?_⟩
   ·rw [show (Str.ofString "\n":Str)=⟨#[10]⟩ from jy];exact f3.join
   rw [show (Str.ofString "\n":Str)=⟨#[10]⟩ from jy];refine ⟨fZ (iz.take 9),rfl,f3.tx,fun H7 s7=>⟨rfl,?_⟩⟩;have r3:wz (Txt.split (fZ (iz.take 9)) ⟨#[10]⟩)=0:=by
    rw [jz f3];exact congrArg (fun z:Nat=>(z:Int)) l1
   rw [r3,aO rfl];exact q _
end
abbrev nO:cQ:=top 47
abbrev afe:List Str:=["_law_script","_law_rows_here","_law_good","_law_k","_law_cell","_law_other","_law_place","_law_odd","_law_bad","_law_ahead","_law_head","_law_plain"]
structure Nq (K:Fg) (mg:Str->Option au) (a:gR) (dV:au):Prop where
 Z:R0 K mg a dV
 D:Sg K mg
 W:Mp K mg a dV
 rf:∃ f fd,Fn K "_law_refused" "_law_refused" wg ["_law_text"] f fd/\mg "_law_refused"=some (.ref f)
 bp:∃ f fd,Fn K "_law_bad_pot" "_law_bad_pot" Hs ["_law_way"] f fd/\mg "_law_bad_pot"=some (.ref f)
 bh:∃ f fd,Fn K "_law_bad_head" "_law_bad_head" Ht ["_law_way"] f fd/\mg "_law_bad_head"=some (.ref f)
 lr:∃ f fd,Fn K "_law_rows" "_law_rows" Aa ["_law_script"] f fd/\mg "_law_rows"=some (.ref f)
 wh:∃ f fd,Fn K "_law_whole" "_law_whole" uQ ["_law_script"] f fd/\mg "_law_whole"=some (.ref f)
 wr:∃ f fd,Fn K "written" "written" nJ ["garden"] f fd/\mg "written"=some (.ref f)
theorem aaF {x y:Int} {A B:Prop} (e:x=y) (h:B):if (!decide (V.int x=V.int y))=true then A else B:=by rw [aO (by rw [e])]; exact dI h
section
variable {P:bT} {w:World} {K:Fg} {mg:Str->Option au} {base:Heap} {a:gR} {dV:au}
theorem j4:bV afe ["_law_script"] (aZ nO):=d8 (by decide +kernel)
theorem ajW (X:Nq K mg a dV) {f:aA} {cdv:au} {A:cL} {outer:List Env} {s:aG} {H₀:Hp} {E:XK} (hr:d7 11 (A.deeper (PyProof.Rows.envOfC "law" (aZ nO) s.heap.objs.size f cdv))) : ∃ t,Dh (qx (eZ P w) P w K mg base afe "law" (aZ nO) f cdv A outer s H₀ E) ((gD nO).drop 4) t/\∀ (D:Ends) (H:Hp) (sc lr:aA) (ns:List Int) (p:dg) (s3 s4 s5 s6 s7 s8 s9 Oi s11:Option V),cY K H sc (ns.map V.int)->H lr=some (.lst (p.rows.map V.str))->p.Ok->(∀ H',D.rt (.bl true) H')->t D [some (.ref sc),some (.ref lr),some (.str (fZ p.rows)),s3,s4,s5,s6,s7,s8,s9,Oi,s11] H:=by
 obtain ⟨frd,drd,rdF,mRd⟩:=X.Z.rd;have ajY:cC P w K mg base (eZ P w) 9 frd drd ["text"] (Ey a):=Hg rdF.F X.Z.R;obtain ⟨fr,dr,rF,mR⟩:=X.rf;obtain ⟨fw,dw,wF,mW⟩:=X.wr;have okw:cC P w K mg base (eZ P w) 2 fw dw ["garden"] (T8 a):=aax wF.F X.W;obtain ⟨fh,dh,hF,mH⟩:=X.wh;have okh:cC P w K mg base (eZ P w) 11 fh dh ["_law_script"] (CZ K):=Ju hF.F X.D X.Z rF mR;have hr2:d7 2 _:=hr.mono (by decide);have hr9:d7 9 _:=hr.mono (by decide);refine ⟨_,aN (qy (i:=11) j4.nd rfl (Or.inl rfl) bK rfl ⟨_,_,rfl,rfl,rfl⟩ (eU.plain (N':=["_law_row"]) rfl (by decide +kernel) (by decide +kernel)) (eX (pv 1)) (fun _ _ _ _ _=>fj 0 (show [("_law_row":Str)].Nodup by decide +kernel)) (fun _ _ _ _ _=>uJ (PW.pt (pw_and (dj m5 (zA K PySem.F.plainAttrs_str PySem.F.slot_str_strip PySem.F.type_str_strip K5 (pv 0) (aB bQ aJ)) bQ (dM _)) (pw_and1 (fM (fU (zA K PySem.F.plainAttrs_str PySem.F.slot_str_startswith PySem.F.type_str_startswith yh (pv 0) (aB bQ aJ)))))))) (fun _ _ _ _ _ _=>pv 0)) (aN (eY (dj m5 (dH okw hr2 mW wF.F.kp wF.b cg (aB (dH ajY hr9 mRd rdF.F.kp rdF.b (dU bK) (aB (pv 2) aJ)) aJ)) (jd PySem.F.plainAttrs_str PySem.F.slot_str_join PySem.F.type_str_join (iQ K) bQ (aB (pv 11) aJ)) (dM _)) (aX (cU pH)) cW) (aX (cU (dH okh hr mH hF.F.kp hF.b cg (aB (pv 0) aJ))))),?_⟩;intro D H sc lr ns p s3 s4 s5 s6 s7 s8 s9 Oi s11 hS hlr ok q;have big:1000<=sizeLine:=by decide
 have rl:=lD p;have k2:=ok.k2;have fs:=Hq ok;have M5:=aaE ok;refine ⟨_,rfl,lr,rfl,⟨_,cY.of hlr⟩,fun D1 hD1=>?_⟩;have rr:jO w6 H (.ref lr) p.rows:=⟨lr,_,rfl,hlr,rG _⟩;refine vH jh jh iG (fun z=>z) rr (by omega) hD1 ?_ ?_
 ·intro j z v5 H5 hj rv s5' Qc Qn k kn;cases rv;have zf:=lE ok z (aV hj);refine ⟨eO,_,rfl,rfl,z,_,rfl,rfl,by omega,rfl,_,rfl,?_⟩;have ek:iG z=(!decide (V.str (Txt.stripChars z ⟨#[32]⟩)=V.str "") && !Txt.startswith z ⟨#[35]⟩):=rfl;rw [show (Str.ofString " ":Str)=⟨#[32]⟩ from jj,show (Str.ofString "#":Str)=⟨#[35]⟩ from Ms];cases e1:!decide (V.str (Txt.stripChars z ⟨#[32]⟩)=V.str "") with
  | false =>
   rw [e1] at ek;exact dI (dI (kn ek _ (Same.refl _)))
  | true =>
   rw [e1] at ek;refine c7 ⟨_,rfl,rfl,z,_,rfl,rfl,_,rfl,?_⟩;cases e2:Txt.startswith z ⟨#[35]⟩ with
   | true =>
    rw [e2] at ek;exact dI (kn ek _ (Same.refl _))
   | false =>
    rw [e2] at ek;exact c7 ⟨_,rfl,k ek _ _ (Same.refl _) rfl⟩
 intro H1 s1 r1;rw [map_id' _,Ni ok] at r1;obtain ⟨_,vs1,e1,hv1,p1⟩:=r1;cases e1;rw [nu p1] at hv1;have rg:qN (Txt.split (fZ p.rows) ⟨#[10]⟩)=.ok p.Nb:=by rw [fs.split]; exact Js ok
 refine ⟨_,rfl,fZ p.rows,rfl,fs.tx,(fun m em=>by rw [rg] at em; cases em),fun g eg H2 y s2 gy=>?_⟩;rw [rg] at eg;cases eg;refine ⟨y,p.Nb,rfl,gy,M5,fun H3 s3'=>⟨rfl,_,rfl,_,D1,p.Nb.rws.map iW,rfl,rfl,cY.of ((s2.trans s3') _ _ hv1),?_,?_⟩⟩
 ·rw [show (Str.ofString "\n":Str)=⟨#[10]⟩ from jy];refine M4 (Eu M5) ?_;have n8:=M5.n8;unfold gU.rws;rw [length_cons,aq];omega
 rw [show (Str.ofString "\n":Str)=⟨#[10]⟩ from jy];refine ⟨rfl,_,rfl,?_⟩;rw [show decide (V.str (afa p.Nb.rws)=V.str (Txt.join ⟨#[10]⟩ (p.Nb.rws.map iW)))=true from aO rfl];exact dI ⟨_,rfl,sc,ns,rfl,((s1.trans s2).trans s3').seq hS,q⟩
end
section
variable {P:bT} {w:World} {K:Fg} {mg:Str->Option au} {base:Heap} {a:gR} {dV:au}
theorem wK (z:Str):∀ m:Nat,(List.replicate m [V.str z]).flatten=(List.replicate m z).map V.str
 | 0=>rfl
 | m + 1=>by
  rw [replicate_succ,flatten_cons,wK z m,replicate_succ];rfl
def Hw (K:Fg):Sp:=fun vs H Q _=>∃ (l:aA) (ns:List Int),vs=[.ref l]/\cY K H l (ns.map V.int)/\∀ H',Q (.bl true) H'
theorem aaG {f:aA} {fd:dN} (F:oK K "law" "law" nO f fd) (X:Nq K mg a dV):cC P w K mg base (eZ P w) 12 f fd ["_law_script"] (Hw K):=by
 refine F.pR j4 (fun vs H Q E h=>?_) (fun cdv A outer s H vs Q E hr h=>?_)
 ·obtain ⟨l,ns,rfl,_⟩:=h;rfl
 ·obtain ⟨sc,ns,rfl,hS,q⟩:=h;have B:=X.D.B;obtain ⟨fc,dc,cF,mC⟩:=X.D.ce;have okc:cC P w K mg base (eZ P w) 1 fc dc ["_law_script","_law_k"] (zL K):=zM cF.F B;have kC:=cF.F.kp;have bC:=cF.b;obtain ⟨fd',dd,dF,mD⟩:=X.D.dr;have okd:cC P w K mg base (eZ P w) 1 fd' dd ["_law_cell","_law_k","_law_many"] El:=GP dF.F;obtain ⟨fr,dr,rF,mR⟩:=X.rf;have Jy:cC P w K mg base (eZ P w) 10 fr dr ["_law_text"] Ez:=Hi rF.F X.Z;have kR:=rF.F.kp;have bR:=rF.b;obtain ⟨fp,dp,pF,mP⟩:=X.bp;have LK:cC P w K mg base (eZ P w) 1 fp dp ["_law_way"] Nj:=Sh pF.F;obtain ⟨fh,dh,hF,mH⟩:=X.bh;have okh:cC P w K mg base (eZ P w) 1 fh dh ["_law_way"] Nk:=Sq hF.F;obtain ⟨fl,dl,lF,mL⟩:=X.lr;have okl:cC P w K mg base (eZ P w) 2 fl dl ["_law_script"] (Hu K):=Nm lF.F X.D;have hr1:d7 1 _:=hr.mono (by decide);have hr2:d7 2 _:=hr.mono (by decide);have aaH:d7 10 _:=hr.mono (by decide);obtain ⟨tb,hB,ajZ⟩:=ajW (P:=P) (w:=w) (base:=base) (f:=f) (cdv:=cdv) (A:=A) (outer:=outer) (s:=s) (H₀:=H) (E:=E) X hr;refine ⟨_,aN (cj (i:=1) j4.nd rfl (Or.inl rfl) (dH okl hr2 mL lF.F.kp lF.b cg (aB (pv 0) aJ))) (aN (cj (i:=2) j4.nd rfl (Or.inl rfl) (jd PySem.F.plainAttrs_str PySem.F.slot_str_join PySem.F.type_str_join (iQ K) bQ (aB (pv 1) aJ))) (aN (eY (dj m5 (dH Jy aaH mR kR bR cg (aB (pv 2) aJ)) aY (dM _)) (aX (cU pH)) cW) (aN (qT kO rfl (qR rfl B.range (cR [.int 4] rfl)) (fj 3 j4.nd) (aN (cj (i:=4) j4.nd rfl (Or.inl rfl) (bO jq (dH okc hr1 mC kC bC cg (aB (pv 0) (cR [.int 1] rfl))) (bO uV aY (pv 3)))) (aN (cj (i:=5) j4.nd rfl (Or.inl rfl) (dH okc hr1 mC kC bC cg (aB (pv 0) (cR [.int 2] rfl)))) (aN (cj (i:=6) j4.nd rfl (Or.inl rfl) (bO jq aY (dH okd hr1 mD dF.F.kp dF.b cg (aB (pv 5) (aB (pv 3) (aB (bO Dq (fK eN B.len PySem.boot_len (aB (pv 1) aJ)) aY) aJ)))))) (aN (cj (i:=7) j4.nd rfl (Or.inl rfl) (bO jr (bO QM bQ (bO gW (pv 4) aY)) (dH LK hr1 mP pF.F.kp pF.b cg (aB (bO gW (pv 4) aY) aJ)))) (aN (cj (i:=8) j4.nd rfl (Or.inl rfl) (bO fu (bO fu (iT jT (pv 1) jQ (jR (pv 6))) (cX (aB (pv 7) aJ))) (iT jT (pv 1) (jR (pv 6)) jQ))) (aN (cj (i:=8) j4.nd rfl (Or.inl rfl) (bO fu (pv 8) (bO yW (cX (cR [.str "what"] rfl)) (bO gW (bO oH (pv 4) aY) aY)))) (aN (eY (dj m5 (dH Jy aaH mR kR bR cg (aB (jd PySem.F.plainAttrs_str PySem.F.slot_str_join PySem.F.type_str_join (iQ K) bQ (aB (pv 8) aJ)) aJ)) (bO jq (pv 6) aY) (dM _)) (aX (cU pH)) cW) (aN (cj (i:=9) j4.nd rfl (Or.inl rfl) (bO gW (bO oH (pv 4) aY) aY)) (aN (cj (i:=7) j4.nd rfl (Or.inl rfl) (dH okh hr1 mH hF.F.kp hF.b cg (aB (bO gW (pv 4) aY) aJ))) (aN (cj (i:=10) j4.nd rfl (Or.inl rfl) (bO fu (bO fu (bO yW (cX (cR [.str "#"] rfl)) (pv 9)) (cX (aB (pv 7) aJ))) (iT jT (pv 1) (jR aY) jQ))) (aX (eY (dj m5 (dH Jy aaH mR kR bR cg (aB (jd PySem.F.plainAttrs_str PySem.F.slot_str_join PySem.F.type_str_join (iQ K) bQ (aB (pv 10) aJ)) aJ)) (bO jq aY (pv 9)) (dM _)) (aX (cU pH)) cW))))))))))))) hB))),?_⟩;have big:100000<=sizeLine:=by decide
  refine ⟨_,rfl,sc,ns,rfl,hS,fun H1 lr p s1 hlr ok=>?_⟩;have fs:=Hq ok;have rl:=lD p;have k2:=ok.k2;refine ⟨rfl,_,rfl,_,lr,p.rows,rfl,rfl,cY.of hlr,?_,?_⟩
  ·rw [show (Str.ofString "\n":Str)=⟨#[10]⟩ from jy];exact fs.join
  rw [show (Str.ofString "\n":Str)=⟨#[10]⟩ from jy];refine ⟨_,rfl,fZ p.rows,rfl,fs.tx,fun H2 s2=>⟨rfl,_,rfl,aaF ?_ ?_⟩⟩
  ·rw [jz fs,Nf ok];rfl
  have s12:=s1.trans s2;have aaI:=s2 _ _ hlr;have hS2:=s12.seq hS;refine ⟨_,rfl,by decide,by decide,?_⟩;refine xK (lo:=0) (n:=(4:Int).toNat) (fun i σ H'=>∃ u3 u4 u5 u6 u7 u8 u9 u10,σ=[some (.ref sc),some (.ref lr),some (.str (fZ p.rows)),u3,u4,u5,u6,u7,u8,u9,u10,none]/\Same H2 H') ⟨none,none,none,none,none,none,none,none,rfl,Same.refl _⟩ ?_ ?_
  ·rintro i σ H3 lt ⟨u3,u4,u5,u6,u7,u8,u9,u10,rfl,s3⟩;have i4:i < 4:=lt;have e0:(0 + (i:Int))=((i:Nat):Int):=Int.zero_add _;rw [e0];have hS3:=s3.seq hS2;have afg:=s3 _ _ aaI;refine ⟨_,rfl,sc,ns,1,rfl,hS3,_,rfl,_,_,rfl,rfl,.inl ⟨by decide,by decide⟩,_,_,rfl,rfl,_,rfl,sc,ns,2,rfl,hS3,?_⟩;generalize ns.getD 1 0=c0;generalize ns.getD 2 0=oth;have ll:(p.rows.map V.str).length=2 + 2 * p.ks.length:=by rw [aq,rl]
   refine ⟨_,rfl,_,rfl,_,rfl,lr,_,rfl,.inl (cY.of afg),_,_,rfl,rfl,_,_,_,rfl,?_,fun H4 s4=>⟨_,_,rfl,rfl,?_⟩⟩
   ·show (0:Int) < (((p.rows.map V.str).length:Nat):Int) - 1
    omega
   have x0:=zO oth (i:Int) (m:=(((p.rows.map V.str).length:Nat):Int) - 1) (by omega);have x1:=zP oth (i:Int) (m:=(((p.rows.map V.str).length:Nat):Int) - 1) (by omega);obtain ⟨pl,epl⟩:∃ pl:Nat,2 + uq oth (i:Int) ((((p.rows.map V.str).length:Nat):Int) - 1)=(pl:Nat):=⟨(2 + uq oth (i:Int) ((((p.rows.map V.str).length:Nat):Int) - 1)).toNat,by omega⟩;have p2:2<=pl:=by omega
   have pr:pl<=p.rows.length:=by rw [aq] at x1 epl; omega
   rw [show ((fun i j:Int=>V.int (i + j)) 2 (uq oth (i:Int) ((((p.rows.map V.str).length:Nat):Int) - 1)))=V.int (pl:Nat) from congrArg V.int epl];obtain ⟨cell,afh⟩:∃ cell:Int,c0 + 5 * (i:Int)=cell:=⟨_,rfl⟩;rw [show ((fun i j:Int=>V.int (i + j)) c0 (5 * (i:Int)))=V.int cell from congrArg V.int afh];have q0:0<=cell % 3:=Int.emod_nonneg _ (by decide);have q1:cell % 3 < 3:=Int.emod_lt_of_pos _ (by decide);have r0:0<=cell % 25:=Int.emod_nonneg _ (by decide);have r1:cell % 25 < 25:=Int.emod_lt_of_pos _ (by decide);have t0:0<=cell / 25 % 2:=Int.emod_nonneg _ (by decide);have t1:cell / 25 % 2 < 2:=Int.emod_lt_of_pos _ (by decide);have v0:0<=cell / 7 % 3:=Int.emod_nonneg _ (by decide);have v1:cell / 7 % 3 < 3:=Int.emod_lt_of_pos _ (by decide);have w0:0<=cell % 14:=Int.emod_nonneg _ (by decide);have w1:cell % 14 < 14:=Int.emod_lt_of_pos _ (by decide);obtain ⟨_,_,a3,_⟩:=z8 ⟨(cell % 25).toNat,by omega⟩ ⟨(cell % 3).toNat,by omega⟩;have a3':(bU.getD (cell % 25).toNat "").length<=40:=a3;have lb:(⟨(List.replicate (cell % 3).toNat 32).toArray⟩:Str).length=(cell % 3).toNat:=by show (List.replicate _ _).toArray.size=_; simp
   refine ⟨_,rfl,_,_,rfl,rfl,(by show (0:Int) < 3; decide),32,_,congrArg V.str jj,rfl,q0,by omega,_,rfl,_,_,rfl,rfl,(by show (0:Int) < 25; decide),(cell % 25).toNat,?_,by omega,fun H5 s5=>⟨_,_,rfl,rfl,by rw [lb]; omega,?_⟩⟩
   ·show [V.int (cell % 25)]=[V.int _]
    rw [Int.toNat_of_nonneg r0]
   have aaJ:=(s4.trans s5) _ _ afg;have s35:=s3.trans (s4.trans s5);refine ⟨_,rfl,_,rfl,_,rfl,lr,_,rfl,cY.of aaJ,fun g1 hg1=>?_⟩;rw [show pB (p.rows.map V.str) none (some ((pl:Nat):Int))=(p.rows.take pl).map V.str from (Hv _ pl).trans List.map_take.symm];have y1:=aQ (o:=.lst ((p.rows.take pl).map V.str)) hg1;refine ⟨_,rfl,by show 1<=sizeLine; decide,fun g2 hg2=>?_⟩;have y2:=aQ (o:=.lst [V.str (wI (cell % 25).toNat (cell % 3).toNat)]) hg2;refine ⟨g1,g2,_,_,rfl,rfl,y2 _ _ aC,aC,by rw [aq,length_take]; show _ + 1<=_; omega,fun g3 hg3=>?_⟩;have y3:=aQ (o:=.lst ((p.rows.take pl).map V.str++[V.str (wI (cell % 25).toNat (cell % 3).toNat)])) hg3;refine ⟨_,rfl,_,rfl,_,rfl,lr,_,rfl,cY.of ((y1.trans (y2.trans y3)) _ _ aaJ),fun g4 hg4=>?_⟩;rw [show pB (p.rows.map V.str) (some ((pl:Nat):Int)) none=(p.rows.drop pl).map V.str from (lA pl).trans map_drop.symm];have y4:=aQ (o:=.lst ((p.rows.drop pl).map V.str)) hg4;refine ⟨g3,g4,_,_,rfl,rfl,y4 _ _ aC,aC,?_,fun g5 hg5=>?_⟩
   ·simp only [aM,aq,length_take,length_drop,length_cons,length_nil];omega
   have y5:=aQ (o:=.lst (((p.rows.take pl).map V.str++[V.str (wI (cell % 25).toNat (cell % 3).toNat)])++(p.rows.drop pl).map V.str)) hg5;refine ⟨_,rfl,by show 1<=sizeLine; decide,fun g6 hg6=>?_⟩;have y6:=aQ (o:=.lst [V.str "what"]) hg6;refine ⟨_,rfl,_,_,rfl,rfl,⟨by decide,by decide⟩,_,_,rfl,rfl,(by show (0:Int) < 2; decide),g6,cell / 25 % 2,[V.str "what"],rfl,rfl,aC,by omega,by omega,by show 1 * (cell / 25 % 2).toNat<=_; omega,fun g7 hg7=>?_⟩;rw [wK "what"];have y7:=aQ (o:=.lst ((List.replicate (cell / 25 % 2).toNat ("what":Str)).map V.str)) hg7;refine ⟨g5,g7,_,_,rfl,rfl,(y6.trans y7) _ _ aC,aC,?_,fun g8 hg8=>?_⟩
   ·simp only [aM,aq,length_take,length_drop,length_cons,length_nil,bH];omega
   have eb:(((p.rows.take pl).map V.str++[V.str (wI (cell % 25).toNat (cell % 3).toNat)])++(p.rows.drop pl).map V.str)++(List.replicate (cell / 25 % 2).toNat ("what":Str)).map V.str=(nM p pl (cell % 25).toNat (cell % 3).toNat (cell / 25 % 2).toNat).map V.str:=by
    unfold nM;simp only [aW,bw,map_nil]
   have y8:=aQ (o:=.lst ((((p.rows.take pl).map V.str++[V.str (wI (cell % 25).toNat (cell % 3).toNat)])++(p.rows.drop pl).map V.str)++(List.replicate (cell / 25 % 2).toNat ("what":Str)).map V.str)) hg8;have s8:=s35.trans (y1.trans (y2.trans (y3.trans (y4.trans (y5.trans (y6.trans (y7.trans y8)))))));have bf:=aaD ok (pl:=pl) (i:=(cell % 25).toNat) (b:=(cell % 3).toNat) (m:=(cell / 25 % 2).toNat) (by omega) (by omega) (by omega);refine ⟨rfl,_,rfl,_,g8,nM p pl (cell % 25).toNat (cell % 3).toNat (cell / 25 % 2).toNat,rfl,rfl,cY.of (by rw [aC]; exact congrArg (fun z=>some (HO.lst z)) eb),bf.join,fZ (nM p pl (cell % 25).toNat (cell % 3).toNat (cell / 25 % 2).toNat),rfl,bf.tx,fun H9 s9=>⟨_,rfl,_,_,rfl,rfl,rfl,_,rfl,aaF ?_ ?_⟩⟩
   ·rw [jz bf,R7 ok p2 pr (by omega) (by omega)];rfl
   have s39:=s8.trans s9;clear eb y1 y2 y3 y4 y5 y6 y7 y8 bf s8 aaJ s35;refine ⟨_,rfl,_,_,rfl,rfl,⟨by decide,by decide⟩,_,_,rfl,rfl,(by show (0:Int) < 3; decide),_,rfl,_,_,rfl,rfl,(by show (0:Int) < 14; decide),(cell % 14).toNat,?_,by omega,fun H10 Oi=>?_⟩
   ·show [V.int (cell % 14)]=[V.int _]
    rw [Int.toNat_of_nonneg w0]
   have afi:=s39.trans Oi;have afj:=afi _ _ aaI;refine ⟨by show 1<=sizeLine; decide,fun b1 hb1=>?_⟩;have z1:=aQ (o:=.lst [V.str "#"]) hb1;refine ⟨_,rfl,b1,cell / 7 % 3,[V.str "#"],rfl,rfl,aC,by omega,by omega,by show 1 * (cell / 7 % 3).toNat<=_; omega,fun b2 hb2=>?_⟩;rw [wK "#"];have z2:=aQ (o:=.lst ((List.replicate (cell / 7 % 3).toNat ("#":Str)).map V.str)) hb2;refine ⟨_,rfl,by show 1<=sizeLine; decide,fun b3 hb3=>?_⟩;have z3:=aQ (o:=.lst [V.str (cH.getD (cell % 14).toNat "")]) hb3;refine ⟨b2,b3,_,_,rfl,rfl,z3 _ _ aC,aC,by rw [aq,bH]; show _ + 1<=_; omega,fun b4 hb4=>?_⟩;have z4:=aQ (o:=.lst ((List.replicate (cell / 7 % 3).toNat ("#":Str)).map V.str++[V.str (cH.getD (cell % 14).toNat "")])) hb4;refine ⟨_,rfl,1,rfl,lr,_,rfl,cY.of ((z1.trans (z2.trans (z3.trans z4))) _ _ afj),fun b5 hb5=>?_⟩;rw [show pB (p.rows.map V.str) (some 1) none=(p.rows.drop 1).map V.str from (lA 1).trans map_drop.symm];have z5:=aQ (o:=.lst ((p.rows.drop 1).map V.str)) hb5;refine ⟨b4,b5,_,_,rfl,rfl,z5 _ _ aC,aC,?_,fun b6 hb6=>?_⟩
   ·simp only [aM,aq,length_drop,length_cons,length_nil,bH];omega
   have z6:=aQ (o:=.lst (((List.replicate (cell / 7 % 3).toNat ("#":Str)).map V.str++[V.str (cH.getD (cell % 14).toNat "")])++(p.rows.drop 1).map V.str)) hb6;have ef:((List.replicate (cell / 7 % 3).toNat ("#":Str)).map V.str++[V.str (cH.getD (cell % 14).toNat "")])++(p.rows.drop 1).map V.str=(jB p (cell / 7 % 3).toNat (cell % 14).toNat).map V.str:=by
    unfold jB;simp only [aW,bw,map_nil]
   have hf:=R8 ok (a:=(cell / 7 % 3).toNat) (i:=(cell % 14).toNat) (by omega) (by omega);refine ⟨rfl,_,rfl,_,b6,jB p (cell / 7 % 3).toNat (cell % 14).toNat,rfl,rfl,cY.of (by rw [aC]; exact congrArg (fun z=>some (HO.lst z)) ef),hf.join,fZ (jB p (cell / 7 % 3).toNat (cell % 14).toNat),rfl,hf.tx,fun H11 s11=>⟨_,rfl,_,_,rfl,rfl,rfl,_,rfl,aaF ?_ ?_⟩⟩
   ·rw [jz hf,Ng (by omega)]
    show (((1 + (cell / 7 % 3).toNat:Nat)):Int)=1 + cell / 7 % 3
    omega
   exact ⟨_,_,_,_,_,_,_,_,rfl,afi.trans (z1.trans (z2.trans (z3.trans (z4.trans (z5.trans (z6.trans s11))))))⟩
  ·rintro σ H3 ⟨u3,u4,u5,u6,u7,u8,u9,u10,rfl,s3⟩;exact ajZ _ H3 sc lr ns p _ _ _ _ _ _ _ _ _ (s3.seq hS2) (s3 _ _ aaI) ok q
end
theorem len1 {us:List au} (h:us.length=1):∃ x,us=[x]:=match us,h with | [x],_=>⟨x,rfl⟩
theorem len2 {us:List au} (h:us.length=2):∃ x y,us=[x,y]:=match us,h with | [x,y],_=>⟨x,y,rfl⟩
theorem aj1 {us:List au} (h:us.length=3):∃ x y z,us=[x,y,z]:=match us,h with | [x,y,z],_=>⟨x,y,z,rfl⟩
theorem Ub {P:List au->Prop} (h:∀ x,P [x]):∀ us,us.length=1->P us
 | [x],_=>h x
theorem ul2 {P:List au->Prop} (h:∀ x y,P [x,y]):∀ us,us.length=2->P us
 | [x,y],_=>h x y
theorem ul3 {P:List au->Prop} (h:∀ x y z,P [x,y,z]):∀ us,us.length=3->P us
 | [x,y,z],_=>h x y z
theorem aoN {us:List au} (h:us.length=4):∃ x y z u,us=[x,y,z,u]:=match us,h with | [x,y,z,u],_=>⟨x,y,z,u,rfl⟩
theorem ul4 {P:List au->Prop} (h:∀ x y z u,P [x,y,z,u]):∀ us,us.length=4->P us
 | [x,y,z,u],_=>h x y z u
abbrev fN (x q:Str) (s:cQ) (dv kV dc pm:au) (an:Option aA) (cd ct:au):dN:=fnOf x q (jP s) (gD s) (aZ s) dv kV dc pm an cd ct
def mj (K:Fg) (x:Str) (st:cQ) (ps:List Str):Prop:=∃ f fd,nsIn K mainGlobals x=some (some (.ref f))/\Fn K x x st ps f fd
def Nr (K:Fg) (C:aA) (x q:Str) (st:cQ) (ps:List Str):Prop:=∃ f fd,Fn K x q st ps f fd/\Meth K C x f
theorem nQ {K:Fg} {h:Heap} {mg:Str->Option au} {x:Str} {st:cQ} {ps:List Str} (X:K.In h) (G:h.Ns mainGlobals mg) (t:mj K x st ps):∃ f fd,Fn K x x st ps f fd/\mg x=some (.ref f):=by
 obtain ⟨f,fd,a,F⟩:=t;exact ⟨f,fd,F,mg_of X G a⟩
section
variable {K:Fg} {C f:aA} {x q:Str} {st:cQ} {ps:List Str} {od an:Option aA} {sl:Array (Option au)} {oc kV dc pm cd ct:au}
theorem Jv (a:nsIn K mainGlobals x=some (some (.ref f))) (l:K.lookup f=some ⟨oc,od,.func (fN x x st .none kV dc pm an cd ct),sl⟩) (c:codeIn K cd x=true) (k:keepIn K (.ref f)=true) (hb:oK K x x st f (fN x x st .none kV dc pm an cd ct)->Binds K (fN x x st .none kV dc pm an cd ct) ps []):mj K x st ps := ⟨f,_,a,⟨gq l c k,hb (gq l c k)⟩⟩
theorem afk (a:findIn K (.ref C) x=some (some (.ref f))) (i:isFn K (.ref f)=true) (l:K.lookup f=some ⟨oc,od,.func (fN x q st .none kV dc pm an cd ct),sl⟩) (c:codeIn K cd q=true) (k:keepIn K (.ref f)=true) (hb:oK K x q st f (fN x q st .none kV dc pm an cd ct)->Binds K (fN x q st .none kV dc pm an cd ct) ps []):Nr K C x q st ps := ⟨f,_,⟨gq l c k,hb (gq l c k)⟩,⟨a,i,k⟩⟩
end
theorem all_mk {l:PySem.W.OpenLaw} {w:World} {K:Fg} {h:Heap} {mg:Str->Option au} {fa:aA} (X:K.In h) (G:h.Ns mainGlobals mg) (hfa:mg "law"=some (.ref fa)) {uG cu bM tooMany jW uh pW pot cactus garden fWh fNm Lh Rt Ru Rv Ce Cg Ci Td Ol fSz fBI aaK:aA} {aj3 aj4 aj5 aj6 aj7 aj8 u1 u2 u3:Tok} {aj9 afn akb afo akc afp akd afq ake afr akf afs aft Uc afu Ud afv Ue odT afw Fd akg afx akh aki akj afy nR:Option aA} {akk akl akm akn ako akp afz afA afB slT afC akq akr afD:Array (Option au)} {aks afE afF afG aaL afH akt afI afJ afK aaM afL aku afM afN afO aaN afP akv afQ afR afS aaO afT akx afU afV afW aaP afX aky afY afZ af0 aaQ af2 af3 Ug Uh Ui Nt Uj af4 Uk Ul Um Nu Uo af5 Uq Ur Us Nv Ut ocT af6 Fe Fi Fj Dc Fl akz af7 af8 af9 aaR aga akA akB akC akD agb akE agc nU nW nY mV nZ:au} {nT:Nat} {akF akG:Str} {akH agd akI:List au} {aaS:aA} {akJ akK:Bool} {akL:List Str} {akM:Option Bool} {akN akO akP akQ akR:Option au} (jk:nsIn K mainGlobals "isinstance"=some none) (Fo:nsIn K mainGlobals "bool"=some none) (Nx:nsIn K mainGlobals "int"=some none) (Ny:nsIn K mainGlobals "str"=some none) (Fp:nsIn K mainGlobals "list"=some none) (Ab:nsIn K mainGlobals "tuple"=some none) (Nz:nsIn K mainGlobals "len"=some none) (NK:nsIn K mainGlobals "all"=some none) (NP:nsIn K mainGlobals "set"=some none) (NQ:nsIn K mainGlobals "zip"=some none) (qd:nsIn K mainGlobals "reversed"=some none) (Ac:nsIn K mainGlobals "range"=some none) (mq:nsIn K mainGlobals "ValueError"=some none) (n6:nsIn K mainGlobals "enumerate"=some none) (NT:nsIn K mainGlobals "sum"=some none) (wL:nsIn K mainGlobals "sorted"=some none) (aaT:nsIn K mainGlobals "LONGEST_NAME"=some (some (.int 12 aj3))) (aaU:nsIn K mainGlobals "MOST_GAP"=some (some (.int 60 aj4))) (aaV:nsIn K mainGlobals "MOST_POTS"=some (some (.int 8 aj5))) (aaW:nsIn K mainGlobals "MOST_CANS"=some (some (.int 8 aj6))) (aaX:nsIn K mainGlobals "MOST_WEEK"=some (some (.int 14 aj7))) (aaY:nsIn K mainGlobals "MOST_STATES"=some (some (.int 20000 aj8))) (Fq:nsIn K mainGlobals "GardenError"=some (some (.ref uG))) (wM:nsIn K mainGlobals "BadPot"=some (some (.ref cu))) (wN:nsIn K mainGlobals "BadRow"=some (some (.ref bM))) (rN:nsIn K mainGlobals "TooMany"=some (some (.ref tooMany))) (rO:nsIn K mainGlobals "NoState"=some (some (.ref jW))) (Ad:nsIn K mainGlobals "NoPot"=some (some (.ref uh))) (wO:nsIn K mainGlobals "BadDay"=some (some (.ref pW))) (NZ:nsIn K mainGlobals "Pot"=some (some (.ref pot))) (wQ:nsIn K mainGlobals "Cactus"=some (some (.ref cactus))) (wR:nsIn K mainGlobals "Garden"=some (some (.ref garden))) (ne:pot≠cactus) (aWh:nsIn K mainGlobals "is_whole"=some (some (.ref fWh))) (lWh:K.lookup fWh=some ⟨aks,aj9,.func (fN "is_whole" "is_whole" rA .none afE afF afG afn aaL afH),akk⟩) (cWh:codeIn K aaL "is_whole"=true) (kWh:keepIn K (.ref fWh)=true) (aNm:nsIn K mainGlobals "is_name"=some (some (.ref fNm))) (lNm:K.lookup fNm=some ⟨akt,akb,.func (fN "is_name" "is_name" oX .none afI afJ afK afo aaM afL),akl⟩) (cNm:codeIn K aaM "is_name"=true) (kNm:keepIn K (.ref fNm)=true) (aPI:findIn K (.ref pot) "__init__"=some (some (.ref Lh))) (iPI:isFn K (.ref Lh)=true) (lPI:K.lookup Lh=some ⟨aku,akc,.func (fN "__init__" "Pot.__init__" m8 .none afM afN afO afp aaN afP),akm⟩) (cPI:codeIn K aaN "Pot.__init__"=true) (kPI:keepIn K (.ref Lh)=true) (aPG:findIn K (.ref pot) "with_gap"=some (some (.ref Rt))) (iPG:isFn K (.ref Rt)=true) (lPG:K.lookup Rt=some ⟨akv,akd,.func (fN "with_gap" "Pot.with_gap" qG .none afQ afR afS afq aaO afT),akn⟩) (cPG:codeIn K aaO "Pot.with_gap"=true) (kPG:keepIn K (.ref Rt)=true) (aCI:findIn K (.ref cactus) "__init__"=some (some (.ref Ru))) (iCI:isFn K (.ref Ru)=true) (lCI:K.lookup Ru=some ⟨akx,ake,.func (fN "__init__" "Cactus.__init__" m9 .none afU afV afW afr aaP afX),ako⟩) (cCI:codeIn K aaP "Cactus.__init__"=true) (kCI:keepIn K (.ref Ru)=true) (aCG:findIn K (.ref cactus) "with_gap"=some (some (.ref Rv))) (iCG:isFn K (.ref Rv)=true) (lCG:K.lookup Rv=some ⟨aky,akf,.func (fN "with_gap" "Cactus.with_gap" qH .none afY afZ af0 afs aaQ af2),akp⟩) (cCG:codeIn K aaQ "Cactus.with_gap"=true) (kCG:keepIn K (.ref Rv)=true) (aaZ:nsIn K mainGlobals "own_pots"=some (some (.ref Ce))) (aa0:K.lookup Ce=some ⟨af3,aft,.func (fN "own_pots" "own_pots" Ls .none Ug Uh Ui Uc Nt Uj),afz⟩) (aa1:codeIn K Nt "own_pots"=true) (kOwn:keepIn K (.ref Ce)=true) (aa2:nsIn K mainGlobals "refuse_bad_counts"=some (some (.ref Cg))) (aa3:K.lookup Cg=some ⟨af4,afu,.func (fN "refuse_bad_counts" "refuse_bad_counts" Lw .none Uk Ul Um Ud Nu Uo),afA⟩) (aa4:codeIn K Nu "refuse_bad_counts"=true) (aa5:keepIn K (.ref Cg)=true) (aa6:nsIn K mainGlobals "refuse_name_twice"=some (some (.ref Ci))) (aa7:K.lookup Ci=some ⟨af5,afv,.func (fN "refuse_name_twice" "refuse_name_twice" Lx .none Uq Ur Us Ue Nv Ut),afB⟩) (aa8:codeIn K Nv "refuse_name_twice"=true) (aa9:keepIn K (.ref Ci)=true) (aGI:findIn K (.ref garden) "__init__"=some (some (.ref Ol))) (iGI:isFn K (.ref Ol)=true) (lGI:K.lookup Ol=some ⟨af6,afw,.func (fN "__init__" "Garden.__init__" RB (.ref Td) Fe Fi Fj Fd Dc Fl),afC⟩) (cGI:codeIn K Dc "Garden.__init__"=true) (kGI:keepIn K (.ref Ol)=true) (lT:K.lookup Td=some ⟨ocT,odT,.seq #[.int 1 u1,.int 1 u2,.int 0 u3] nT,slT⟩) (aSz:findIn K (.ref garden) "size"=some (some (.ref fSz))) (iSz:isFn K (.ref fSz)=true) (lSz:K.lookup fSz=some ⟨akz,akg,.func (fN "size" "Garden.size" Cj .none af7 af8 af9 afx aaR aga),akq⟩) (cSz:codeIn K aaR "Garden.size"=true) (kSz:keepIn K (.ref fSz)=true) (abb:mj K "is_set" zR ["number","bit"]) (abd:Nr K pot "words" "Pot.words" oY ["self"]) (abe:Nr K cactus "words" "Cactus.words" oZ ["self"]) (aBI:findIn K (.ref bM) "__init__"=some (some (.ref fBI))) (iBI:isFn K (.ref fBI)=true) (lBI:K.lookup fBI=some ⟨akA,akh,.func (fN "__init__" "BadRow.__init__" Ji .none akB akC akD aki agb akE),akr⟩) (cBI:codeIn K agb "BadRow.__init__"=true) (kBI:keepIn K (.ref fBI)=true) (abf:K.lookup bM=some ⟨.type "type",akj,.cls ⟨akF,akH,.ref bM::agd,aaS,akG,akJ,akL,akI,akK,akM,false⟩,#[akN,akO,akP,akQ,some (.builtin "ValueError.__new__"),akR]⟩) (abg:tailIn K Ef agd=true) (abh:nsOkIn K aaS=true) (abj:nsIn K aaS "__init__"=some (some (.ref fBI))) (abk:findIn K (.ref bM) "__setattr__"=some (some (.builtin "object.__setattr__"))) (abl:zy K bM=true) (abm:takerIn K bM "row"=some none) (Hx:hasDictIn K bM=true) (abn:findIn K (.ref bM) "row"=some none) (rdG:readsIn K uG (.type "type")=true) (gaG:specialIn K (.ref uG) "__getattribute__"=some (some (.builtin "type.__getattribute__"))) (atG:findCls K (.ref uG) (.type "type") "__init__"=some (.val (.builtin "ValueError.__init__"))) (abo:mj K "number_in" zT ["word","row"]) (abp:mj K "head_in" o7 ["words","row"]) (abq:mj K "pot_in" rH ["words","row"]) (abr:mj K "words_in" nq ["line"]) (abt:mj K "numbered_rows" qJ ["lines"]) (abu:mj K "pots_in" uP ["rows"]) (abv:mj K "read" G6 ["text"]) (abw:mj K "written" nJ ["garden"]) (abx:mj K "_law_cell_at" GJ ["_law_script","_law_k"]) (aby:mj K "_law_draw" GK ["_law_cell","_law_k","_law_many"]) (abz:mj K "_law_sorts" zQ ["_law_error"]) (abA:mj K "_law_refused" wg ["_law_text"]) (abB:mj K "_law_bad_pot" Hs ["_law_way"]) (abC:mj K "_law_bad_head" Ht ["_law_way"]) (abD:mj K "_law_rows" Aa ["_law_script"]) (abE:mj K "_law_whole" uQ ["_law_script"]) (Sv:nsIn K mainGlobals "law"=some (some (.ref aaK))) (abF:K.lookup aaK=some ⟨agc,afy,.func (fN "law" "law" nO .none nU nW nY nR mV nZ),afD⟩) (abG:codeIn K mV "law"=true) (abH:keepIn K (.ref aaK)=true) (xmB:exmOne K (.ref cu) (.ref cu)=some true) (xmT:exmOne K (.ref tooMany) (.ref tooMany)=some true) (gt:specialIn K (.builtin "object.__class__") "__get__"=some (some (.builtin "getset_descriptor.__get__"))) (tk:takesIn K (.builtin "object.__class__")=some true) (Ft:plainGet K pot Str.empty=true) (Fv:hasDictIn K pot=true) (Fw:plainOver K pot=true) (Fx:findIn K (.ref pot) "__setattr__"=some (some (.builtin "object.__setattr__"))) (Fy:findIn K (.ref pot) "__class__"=some (some (.builtin "object.__class__"))) (Fz:mroIn K pot (.type "object")=some true) (ou:kitOne K (.ref pot) (.type "bool")=some false) (qg:kitOne K (.ref pot) (.type "int")=some false) (qj:kitOne K (.ref pot) (.type "str")=some false) (oA:kitOne K (.ref pot) (.type "list")=some false) (mz:kitOne K (.ref pot) (.type "tuple")=some false) (FJ:makesIn K pot=true) (FN:keepIn K (.ref pot)=true) (rP:plainGet K cactus Str.empty=true) (rQ:hasDictIn K cactus=true) (rR:plainOver K cactus=true) (rT:findIn K (.ref cactus) "__setattr__"=some (some (.builtin "object.__setattr__"))) (rW:findIn K (.ref cactus) "__class__"=some (some (.builtin "object.__class__"))) (rY:mroIn K cactus (.type "object")=some true) (jC:kitOne K (.ref cactus) (.type "bool")=some false) (j6:kitOne K (.ref cactus) (.type "int")=some false) (j7:kitOne K (.ref cactus) (.type "str")=some false) (jD:kitOne K (.ref cactus) (.type "list")=some false) (iZ:kitOne K (.ref cactus) (.type "tuple")=some false) (rZ:makesIn K cactus=true) (su:keepIn K (.ref cactus)=true) (sy:plainGet K garden Str.empty=true) (sE:hasDictIn K garden=true) (sG:plainOver K garden=true) (sH:findIn K (.ref garden) "__setattr__"=some (some (.builtin "object.__setattr__"))) (sI:findIn K (.ref garden) "__class__"=some (some (.builtin "object.__class__"))) (sJ:mroIn K garden (.type "object")=some true) (jE:kitOne K (.ref garden) (.type "bool")=some false) (j8:kitOne K (.ref garden) (.type "int")=some false) (j9:kitOne K (.ref garden) (.type "str")=some false) (jF:kitOne K (.ref garden) (.type "list")=some false) (jc:kitOne K (.ref garden) (.type "tuple")=some false) (sO:makesIn K garden=true) (sV:keepIn K (.ref garden)=true) (oE:findIn K (.ref pot) "name"=some none) (ql:findIn K (.ref pot) "gap"=some none) (oF:findIn K (.ref pot) "rest"=some none) (jG:findIn K (.ref cactus) "name"=some none) (kh:findIn K (.ref cactus) "gap"=some none) (jH:findIn K (.ref cactus) "rest"=some none) (jJ:findIn K (.ref garden) "pots"=some none) (jK:findIn K (.ref garden) "cans"=some none) (jL:findIn K (.ref garden) "week"=some none) (iM:findIn K (.ref garden) "closed"=some none) (rdP:readsIn K pot (.type "type")=true) (gaP:specialIn K (.ref pot) "__getattribute__"=some (some (.builtin "type.__getattribute__"))) (atP:findCls K (.ref pot) (.type "type") "__init__"=some (.val (.ref Lh))) (kpp:kitOne K (.ref pot) (.ref pot)=some true) (kcp:kitOne K (.ref cactus) (.ref pot)=some true) (oG:kitOne K (.type "NoneType") (.ref pot)=some false) (Ae:kitOne K (.type "bool") (.ref pot)=some false) (FP:kitOne K (.type "int") (.ref pot)=some false) (FQ:kitOne K (.type "str") (.ref pot)=some false) (Af:kitOne K (.type "list") (.ref pot)=some false) (wU:kitOne K (.type "tuple") (.ref pot)=some false) (sW:excIn K cu Ef "ValueError.__new__"=true) (qm:excIn K tooMany Ef "ValueError.__new__"=true) (wV:excIn K jW Ef "ValueError.__new__"=true) (Dd:excIn K uh Ef "ValueError.__new__"=true) (sX:findIn K (.ref bM) "__getattribute__"=some (some (.builtin "BaseException.__getattribute__"))) (sY:findIn K (.ref bM) "__getattr__"=some none) (sZ:PySem.W.isClsIn K bM=true) (tD:findIn K (.ref bM) "__class__"=some (some (.builtin "object.__class__"))) (tE:mroIn K bM (.type "object")=some true) (tH:subIn K (.ref bM) (.type "BaseException")=some true) (tK:kitOne K (.ref bM) (.ref cu)=some false) (tL:kitOne K (.ref bM) (.ref tooMany)=some false) (tM:kitOne K (.ref bM) (.ref uh)=some false) (tO:kitOne K (.ref bM) (.ref pW)=some false) (tQ:kitOne K (.ref bM) (.ref bM)=some true) (tR:kitOne K (.ref bM) (.ref jW)=some false) (tV:kitOne K (.ref bM) (.type "ValueError")=some true) (tW:exmOne K (.ref bM) (.ref uG)=some true) : ∃ fd:dN,(∀ (s:aG) (v:au),BindsTo s fd ⟨[v],[]⟩ [("_law_script",v)])/\∀ base:Heap,K.In base->base.Ns mainGlobals mg->cC l.prog w K mg base (eZ l.prog w) 12 fa fd ["_law_script"] (Hw K):=by
 have e:=hfa.symm.trans (mg_of X G Sv);cases e;have N5:=mg_of X G Fq;have Df:=mg_of X G wM;have Dg:=mg_of X G wN;have yO:=mg_of X G rN;have Jw:=mg_of X G rO;have Sw:=mg_of X G Ad;have N6:=mg_of X G wO;have agf:=mg_of X G NZ;have N7:=mg_of X G wQ;have N8:=mg_of X G wR;have FWh:=gq (st:=rA) lWh cWh kWh;have bWh:=FWh.binds (ps:=["value","least","most"]) fun _ _ _ _ _ _=>ul3 fun _ _ _=>rfl
 have mWh:=mg_of X G aWh;have FNm:=gq (st:=oX) lNm cNm kNm;have bNm:=FNm.binds (ps:=["value"]) fun _ _ _ _ _ _=>Ub fun _=>rfl
 have mNm:=mg_of X G aNm;have FPI:=gq (st:=m8) lPI cPI kPI;have bPI:=FPI.binds (ps:=["self","name","gap"]) fun _ _ _ _ _ _=>ul3 fun _ _ _=>rfl
 have FPG:=gq (st:=qG) lPG cPG kPG;have bPG:=FPG.binds (ps:=["self","gap"]) fun _ _ _ _ _ _=>ul2 fun _ _=>rfl
 have FCI:=gq (st:=m9) lCI cCI kCI;have bCI:=FCI.binds (ps:=["self","name","gap","rest"]) fun _ _ _ _ _ _=>ul4 fun _ _ _ _=>rfl
 have FCG:=gq (st:=qH) lCG cCG kCG;have bCG:=FCG.binds (ps:=["self","gap"]) fun _ _ _ _ _ _=>ul2 fun _ _=>rfl
 have agg:=gq (st:=Ls) aa0 aa1 kOwn;have alE:=agg.binds (ps:=["pots"]) fun _ _ _ _ _ _=>Ub fun _=>rfl
 have Z7:=mg_of X G aaZ;have agh:=gq (st:=Lw) aa3 aa4 aa5;have alF:=agh.binds (ps:=["pots","cans","week","closed"]) fun _ _ _ _ _ _=>ul4 fun _ _ _ _=>rfl
 have Z8:=mg_of X G aa2;have agi:=gq (st:=Lx) aa7 aa8 aa9;have alG:=agi.binds (ps:=["pots"]) fun _ _ _ _ _ _=>Ub fun _=>rfl
 have Z9:=mg_of X G aa6;have FSz:=gq (st:=Cj) lSz cSz kSz;have bSz:=FSz.binds (ps:=["self"]) fun _ _ _ _ _ _=>Ub fun _=>rfl
 have FBI:=gq (st:=Ji) lBI cBI kBI;have bBI:=FBI.binds (ps:=["self","row"]) fun _ _ _ _ _ _=>ul2 fun _ _=>rfl
 have agj:=gq (st:=nO) abF abG abH;have ao1:=agj.binds (ps:=["_law_script"]) fun _ _ _ _ _ _=>Ub fun _=>rfl
 have ao2:=mg_of X G Sv;have agk:Bo K pot:=⟨⟨Ft,Fv,Fw,Fx⟩,Fy,gt,tk,Fz,fun b=>(by cases b; exact ou; exact qg; exact qj; exact oA; exact mz)⟩;have Oa:Bo K cactus:=⟨⟨rP,rQ,rR,rT⟩,rW,gt,tk,rY,fun b=>(by cases b; exact jC; exact j6; exact j7; exact jD; exact iZ)⟩;have Ob:Bo K garden:=⟨⟨sy,sE,sG,sH⟩,sI,gt,tk,sJ,fun b=>(by cases b; exact jE; exact j8; exact j9; exact jF; exact jc)⟩;have agl:∀ f ∈ (["name","gap","rest"]:List Str),iH K pot f:=fun f hf=>(by simp only [aK,mem_nil_iff,or_false] at hf; rcases hf with rfl | rfl | rfl; exact oE; exact ql; exact oF)
 have Oc:∀ f ∈ (["name","gap","rest"]:List Str),iH K cactus f:=fun f hf=>(by simp only [aK,mem_nil_iff,or_false] at hf; rcases hf with rfl | rfl | rfl; exact jG; exact kh; exact jH)
 have Od:∀ f ∈ (["pots","cans","week","closed"]:List Str),iH K garden f:=fun f hf=>(by simp only [aK,mem_nil_iff,or_false] at hf; rcases hf with rfl | rfl | rfl | rfl; exact jJ; exact jK; exact jL; exact iM)
 obtain ⟨a,ea⟩:∃ a:gR,a=⟨pot,cactus,garden,cu,tooMany,jW,uh,uG,bM,pW,fWh,fNm,Lh,Rt,Ru,Rv,Ce,Cg,Ci,Ol,fSz,fa,fa,fa,fa,fa,fa,fa,fa,fa,(fN "is_whole" "is_whole" rA .none afE afF afG afn aaL afH),(fN "is_name" "is_name" oX .none afI afJ afK afo aaM afL),(fN "__init__" "Pot.__init__" m8 .none afM afN afO afp aaN afP),(fN "with_gap" "Pot.with_gap" qG .none afQ afR afS afq aaO afT),(fN "__init__" "Cactus.__init__" m9 .none afU afV afW afr aaP afX),(fN "with_gap" "Cactus.with_gap" qH .none afY afZ af0 afs aaQ af2),(fN "own_pots" "own_pots" Ls .none Ug Uh Ui Uc Nt Uj),(fN "refuse_bad_counts" "refuse_bad_counts" Lw .none Uk Ul Um Ud Nu Uo),(fN "refuse_name_twice" "refuse_name_twice" Lx .none Uq Ur Us Ue Nv Ut),(fN "__init__" "Garden.__init__" RB (.ref Td) Fe Fi Fj Fd Dc Fl),(fN "size" "Garden.size" Cj .none af7 af8 af9 afx aaR aga),(fN "law" "law" nO .none nU nW nY nR mV nZ),(fN "law" "law" nO .none nU nW nY nR mV nZ),(fN "law" "law" nO .none nU nW nY nR mV nZ),(fN "law" "law" nO .none nU nW nY nR mV nZ),(fN "law" "law" nO .none nU nW nY nR mV nZ),(fN "law" "law" nO .none nU nW nY nR mV nZ),(fN "law" "law" nO .none nU nW nY nR mV nZ),(fN "law" "law" nO .none nU nW nY nR mV nZ),(fN "law" "law" nO .none nU nW nY nR mV nZ)⟩:=⟨_,rfl⟩;have B:T4 mg:=⟨mg_none_of X G jk,mg_none_of X G Fo,mg_none_of X G Nx,mg_none_of X G Ny,mg_none_of X G Fp,mg_none_of X G Ab,mg_none_of X G Nz,mg_none_of X G NK,mg_none_of X G NP,mg_none_of X G NQ,mg_none_of X G qd,mg_none_of X G Ac⟩;have T:lq K mg a:=by subst ea; exact ⟨B,⟨_,mg_of X G aaT⟩,⟨_,mg_of X G aaU⟩,⟨Df,sW⟩,⟨FWh,bWh⟩,mWh,⟨FNm,bNm⟩,mNm,agf,N7,agk,Oa,agl,Oc,⟨FPI,bPI⟩,⟨FPG,bPG⟩,⟨FCI,bCI⟩,⟨FCG,bCG⟩,⟨FJ,aPI,iPI,FN⟩,⟨rZ,aCI,iCI,su⟩,⟨aPG,iPG,kPG⟩,⟨aCG,iCG,kCG⟩,⟨rdP,gaP,atP,kPI⟩,ne⟩
 have kb:∀ k:Kd,(∀ C,k≠.ins C)->kitOne K k.ty (.ref pot)=some false:=fun k hk=>(by cases k; exact oG; exact Ae; exact FP; exact FQ; exact Af; exact wU; exact absurd rfl (hk _))
 have U:Ei K mg a:=by subst ea; exact ⟨T,kpp,kcp,kb,⟨agg,alE⟩,Z7,⟨agh,alF⟩,Z8,⟨agi,alG⟩,Z9,⟨yO,qm⟩,⟨_,mg_of X G aaV⟩,⟨_,mg_of X G aaW⟩,⟨_,mg_of X G aaX⟩,⟨_,mg_of X G aaY⟩⟩
 have FGI:RD K "__init__" "Garden.__init__" RB (.ref Td) Ol (fN "__init__" "Garden.__init__" RB (.ref Td) Fe Fi Fj Fd Dc Fl):=⟨⟨af6,afw,Fe,Fi,Fj,Fd,Dc,Fl,afC,rfl,lGI,cGI⟩,kGI⟩;have b4:Binds K (fN "__init__" "Garden.__init__" RB (.ref Td) Fe Fi Fj Fd Dc Fl) ["self","pots","cans","week","closed"] []:=fun s us hK hl=>match us,hl with | [_,_,_,_,_],_=>binds_K hK rfl lT rfl rfl rfl
 have b1:Binds K (fN "__init__" "Garden.__init__" RB (.ref Td) Fe Fi Fj Fd Dc Fl) ["self","pots","cans","week","closed"] [.int 1 u1,.int 1 u2,.int 0 u3]:=fun s us hK hl=>(by obtain ⟨x,y,rfl⟩:=len2 (show us.length=2 by simpa using hl); exact binds_K hK rfl lT rfl rfl rfl)
 have b2:Binds K (fN "__init__" "Garden.__init__" RB (.ref Td) Fe Fi Fj Fd Dc Fl) ["self","pots","cans","week","closed"] [.int 1 u2,.int 0 u3]:=fun s us hK hl=>(by obtain ⟨x,y,z,rfl⟩:=aj1 (show us.length=3 by simpa using hl); exact binds_K hK rfl lT rfl rfl rfl)
 have Z:LQ K mg a (.ref Td):=by subst ea; exact ⟨U,Ob,N8,Od,FGI,b4,⟨_,_,_,b1⟩,⟨_,_,b2⟩,⟨sO,aGI,iGI,sV⟩,⟨FSz,bSz⟩,⟨aSz,iSz,kSz⟩⟩
 have N:En mg a:=by subst ea; exact ⟨mg_none_of X G jk,mg_none_of X G mq,Df,yO,Sw,N6,Dg,Jw,N5⟩
 have Oe:XC K a bM 4:=by subst ea; exact ⟨⟨sX,sY,sZ,tD,gt,tk,tE,tH⟩,tK,tL,tM,tO,tQ,tR,tV,tW⟩
 have W:Mp K mg a (.ref Td):=by subst ea; exact ⟨Z,nQ X G abb,abd,abe⟩
 have D:Sg K mg:=⟨B,nQ X G abx,nQ X G aby⟩;have BR:Cp K mg a:=by subst ea; exact ⟨N5,⟨rdG,gaG,atG,rfl⟩,⟨_,_,⟨FBI,bBI⟩,⟨⟨_,_,_,_,_,_,_,_,_,_,_,_,_,_,_,_,abf,abg,abh,abj⟩⟩,iBI⟩,⟨abk,abl,abm,Hx⟩,Dg⟩
 have Hd:Mv K mg a:=⟨B,BR,mg_none_of X G NT,mg_none_of X G wL,nQ X G abo⟩;have Rd:MP K mg a (.ref Td):=⟨⟨T,Hd,(by subst ea; exact xmB)⟩,Z,mg_none_of X G n6,(by subst ea; exact xmT),nQ X G abr,nQ X G abt,nQ X G abp,nQ X G abq,nQ X G abu⟩;have Zz:R0 K mg a (.ref Td):=⟨Rd,N,(by have Y:=Oe; subst ea; exact Y),(by subst ea; exact Hx),(by subst ea; exact abn),nQ X G abz,nQ X G abv⟩;have R:Nq K mg a (.ref Td):=⟨Zz,D,W,nQ X G abA,nQ X G abB,nQ X G abC,nQ X G abD,nQ X G abE,nQ X G abw⟩;exact ⟨(fN "law" "law" nO .none nU nW nY nR mV nZ),fun s v=>.of_eq rfl,fun base _ _=>aaG agj R⟩
theorem walk {l:PySem.W.OpenLaw} {q:bT} {loose:List Str} {XP:(Str->Option au)->Heap->Prop} {YP:World->Heap->Prop} {d:DefRec} {K:Params->Fg} (hn:l.most=some 63) (hdf:d.params.defaults=[]) (hY:∀ (w:World) (h:Heap),YP w h->(K w.params).In h) (F:∀ (w:World) (mg:Str->Option au) (fa:aA) (h:Heap),(K w.params).In h->h.Ns mainGlobals mg->mg d.name=some (.ref fa) -> ∃ fd:dN,(∀ (s:aG) (u:au),BindsTo s fd ⟨[u],[]⟩ [("_law_script",u)])/\∀ base:Heap,(K w.params).In base->base.Ns mainGlobals mg->cC l.prog w (K w.params) mg base (eZ l.prog w) 12 fa fd ["_law_script"] (Hw (K w.params))) : PySem.W.WalkO q loose XP YP l.row.toRowW d [] (fun f vs=>PySem.call f vs) := L2.QD (n:=63) (k:=12) (x:="_law_script") (CX:=fun w=>eZ l.prog w) (sp:=fun w=>Hw (K w.params)) hn (by decide) hdf ⟨rfl,by decide,by decide⟩ hY F (fun _ _ a ns hl _ hS=>⟨a,ns,rfl,hS,fun _=>rfl⟩) fun _ _ _ _ _ z=>by
 obtain ⟨_,_,_,_,_,_,_,_,_,_,_,_,_,_,_,z⟩:=z;exact z
end Tw
open PySem PySem.W PyProof.Rows
set_option maxRecDepth 100000 in
set_option maxHeartbeats 0 in
theorem PySem.Challenge.cw_thirstwise_k09_texts_misread_holds : PySem.Challenge.rw_thirstwise_k09_texts_misread.Holds := by
 w_on; o_law
 refine PySem.W.holds_open (q:=Tw.view) (loose:=Tw.LO) (Xt:=fun s=>xlAt Tw.view [] s && recOk (RowW.records (OpenRow.toRowW (OpenLaw.row PySem.Challenge.rw_thirstwise_k09_texts_misread))) s) (XP:=XL Tw.view []) (Yf:=Hook.obs (PySem.W.kHook Tw.KK Tw.addrs (fun _=>by kernel_rfl))) (Ya:=Hook.val (PySem.W.kHook Tw.KK Tw.addrs (fun _=>by kernel_rfl))) (YP:=Hook.says (PySem.W.kHook Tw.KK Tw.addrs (fun _=>by kernel_rfl))) (N:=7076) Tw.hl (Hook.of (PySem.W.kHook Tw.KK Tw.addrs (fun _=>by kernel_rfl))) (Hook.keeps (PySem.W.kHook Tw.KK Tw.addrs (fun _=>by kernel_rfl))) (fun s e=>xl_of s (Bool.and_eq_true_iff.mp e).1) XL.keeps (by rfl) (by rfl) (by rfl) (fun s e=>recFacts_of (Bool.and_eq_true_iff.mp e).2) (by rfl) (by first | assumption | decide +kernel) (by decide +kernel) ⟨rfl,rfl,rfl,rfl,rfl,by decide +kernel⟩ ?hw ?hc
 case hw=>w_witness2
 k_fill
 refine Tw.walk (l:=PySem.Challenge.rw_thirstwise_k09_texts_misread) rfl rfl (fun w h Y=>PySem.W.kIn_of Y) ?F
 case F =>
  intro w mg fa h KX G hmg;refine' Tw.all_mk KX G hmg ?jk ?Fo ?Nx ?Ny ?Fp ?Ab ?Nz ?NK ?NP ?NQ ?qd ?Ac ?mq ?n6 ?NT ?wL ?aaT ?aaU ?aaV ?aaW ?aaX ?aaY ?Fq ?wM ?wN ?rN ?rO ?Ad ?wO ?NZ ?wQ ?wR ?ne ?aWh ?lWh ?cWh ?kWh ?aNm ?lNm ?cNm ?kNm ?aPI ?iPI ?lPI ?cPI ?kPI ?aPG ?iPG ?lPG ?cPG ?kPG ?aCI ?iCI ?lCI ?cCI ?kCI ?aCG ?iCG ?lCG ?cCG ?kCG ?aaZ ?aa0 ?aa1 ?kOwn ?aa2 ?aa3 ?aa4 ?aa5 ?aa6 ?aa7 ?aa8 ?aa9 ?aGI ?iGI ?lGI ?cGI ?kGI ?lT ?aSz ?iSz ?lSz ?cSz ?kSz ?abb ?abd ?abe ?aBI ?iBI ?lBI ?cBI ?kBI ?abf ?abg ?abh ?abj ?abk ?abl ?abm ?Hx ?abn ?rdG ?gaG ?atG ?abo ?abp ?abq ?abr ?abt ?abu ?abv ?abw ?abx ?aby ?abz ?abA ?abB ?abC ?abD ?abE ?Sv ?abF ?abG ?abH ?xmB ?xmT ?gt ?tk ?Ft ?Fv ?Fw ?Fx ?Fy ?Fz ?ou ?qg ?qj ?oA ?mz ?FJ ?FN ?rP ?rQ ?rR ?rT ?rW ?rY ?jC ?j6 ?j7 ?jD ?iZ ?rZ ?su ?sy ?sE ?sG ?sH ?sI ?sJ ?jE ?j8 ?j9 ?jF ?jc ?sO ?sV ?oE ?ql ?oF ?jG ?kh ?jH ?jJ ?jK ?jL ?iM ?rdP ?gaP ?atP ?kpp ?kcp ?oG ?Ae ?FP ?FQ ?Af ?wU ?sW ?qm ?wV ?Dd ?sX ?sY ?sZ ?tD ?tE ?tH ?tK ?tL ?tM ?tO ?tQ ?tR ?tV ?tW
  case jk | Fo | Nx | Ny | Fp | Ab | Nz | NK | NP | NQ | qd | Ac | mq | n6 | NT | wL | aaT | aaU | aaV | aaW | aaX | aaY | Fq | wM | wN | rN | rO | Ad | wO | NZ | wQ | wR=>k_is
  case ne=>decide
  case aWh | lWh | cWh | kWh | aNm | lNm | cNm | kNm | aPI | iPI | lPI | cPI | kPI | aPG | iPG | lPG | cPG | kPG | aCI | iCI | lCI | cCI | kCI | aCG | iCG | lCG | cCG | kCG | aaZ | aa0 | aa1 | kOwn | aa2 | aa3 | aa4 | aa5 | aa6 | aa7 | aa8 | aa9=>k_is
  case aGI | iGI | lGI | cGI | kGI | lT | aSz | iSz | lSz | cSz | kSz=>k_is
  case abb =>
   refine' Tw.Jv ?a ?l ?c ?k fun F=>F.binds fun _ _ _ _ _ _=>Tw.ul2 fun _ _=>rfl
   case a | l | c | k=>k_is
  case abd | abe =>
   refine' Tw.afk ?a ?i ?l ?c ?k fun F=>F.binds fun _ _ _ _ _ _=>Tw.Ub fun _=>rfl
   case a | i | l | c | k=>k_is
  case aBI | iBI | lBI | cBI | kBI | abf=>k_is
  case abg | abh=>kernel_rfl
  case abj | abk=>k_is
  case abl=>kernel_rfl
  case abm | Hx | abn | rdG | gaG | atG=>k_is
  case abo | abp | abq =>
   refine' Tw.Jv ?a ?l ?c ?k fun F=>F.binds fun _ _ _ _ _ _=>Tw.ul2 fun _ _=>rfl
   case a | l | c | k=>k_is
  case abr | abt | abu | abv | abw =>
   refine' Tw.Jv ?a ?l ?c ?k fun F=>F.binds fun _ _ _ _ _ _=>Tw.Ub fun _=>rfl
   case a | l | c | k=>k_is
  case abx =>
   refine' Tw.Jv ?a ?l ?c ?k fun F=>F.binds fun _ _ _ _ _ _=>Tw.ul2 fun _ _=>rfl
   case a | l | c | k=>k_is
  case aby =>
   refine' Tw.Jv ?a ?l ?c ?k fun F=>F.binds fun _ _ _ _ _ _=>Tw.ul3 fun _ _ _=>rfl
   case a | l | c | k=>k_is
  case abz | abA | abB | abC | abD | abE =>
   refine' Tw.Jv ?a ?l ?c ?k fun F=>F.binds fun _ _ _ _ _ _=>Tw.Ub fun _=>rfl
   case a | l | c | k=>k_is
  case Sv | abF | abG | abH=>k_is
  case xmB | xmT=>kts_exm
  case gt | tk | Ft | Fv | Fw | Fx | Fy | Fz=>k_is
  case ou | qg | qj | oA | mz=>kit_is
  case FJ | FN | rP | rQ | rR | rT | rW | rY=>k_is
  case jC | j6 | j7 | jD | iZ=>kit_is
  case rZ | su | sy | sE | sG | sH | sI | sJ=>k_is
  case jE | j8 | j9 | jF | jc=>kit_is
  case sO | sV | oE | ql | oF | jG | kh | jH | jJ | jK | jL | iM | rdP | gaP | atP=>k_is
  case kpp | kcp | oG | Ae | FP | FQ | Af | wU=>kit_is
  case sW | qm | wV | Dd=>k_exc
  case sX | sY | sZ | tD | tE | tH=>k_is
  case tK | tL | tM | tO | tQ | tR | tV=>kit_is
  case tW=>kts_exm
